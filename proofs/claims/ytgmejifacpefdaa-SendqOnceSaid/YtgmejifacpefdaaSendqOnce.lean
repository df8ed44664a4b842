/- SendqOnce says true for every input: each piece's frame is told by Ack once, in order, and stays till then. Conditions: none beyond the given statement's. -/
import Derived.Test.YtgmejifacpefdaaSnV
import Derived.Test.YtgmejifacpefdaaTail
namespace Go.Proofs.Ytgmejifacpefdaa.sendqOnce
open Go.ChangeShapes Go.WideShapes Go.ChangeAt Go.RowKit Sn Rv
set_option linter.unusedVariables false


theorem frs_ack : ∀ (l : List Pc) (k : Nat), frsV (l.take (gone l k)) ++ frsV (ackR l k) = frsV l
  | [], k => rfl
  | p :: l, k => by
    unfold gone ackR
    split
    · have := frs_ack l (k - p.len.toNat)
      simp only [List.take_succ_cons, frsV, List.map_cons, List.cons_append] at *
      rw [this]
    · split <;> simp [frsV, less]
theorem _root_.Go.Proofs.Ytgmejifacpefdaa.Sn.LB.keep {w0 w w' : World} {F S : Nat → Prop} {g st : Nat} {l : List Pc} (h : LB w0 w F g l st) (hn : ∀ i, S i → ¬ F i) (k : Chg w w' S) (ho : ∀ i, S i → w0.heap.size ≤ i) : LB w0 w' F g l st :=
  ⟨h.line.chg k (fun i hf hs => hn i hs hf), h.below.trans (k.below h.below.size ho), h.own⟩
theorem empty_of {l : List Pc} (h : ∀ q ∈ l, okP q) (h0 : total l = 0) : l = [] := by
  cases l with
  | nil => rfl
  | cons q l =>
    have := (h q (by simp)).2.2.1
    simp only [total] at h0
    omega
theorem int_i : ∃ i0, Try.prog.info? 3 = some i0 ∧ i0.zero = some (.int .i64 0) ∧ i0.size = 1 ∧ i0.bytes = 8 := by
  obtain ⟨i, hi, hs⟩ := Option.map_eq_some_iff.1 int_infos
  simp only [Prod.mk.injEq] at hs
  exact ⟨i, hi, hs.1, hs.2.1, hs.2.2⟩
set_option maxRecDepth 100000 in
set_option maxHeartbeats 4000000 in
theorem walk (w : World) (A : Option Addr) (c : Nat) (p : List Pc) (hb : Pcs w A p ∧ (∀ q ∈ p, q.Ok) ∧ (A = none → p = [] ∧ c = 0)) (As : Option Addr) (n cs : Nat) (s : List UInt8) (hs : Src w As n cs s) :
    Calls Try.prog 4 #[.slice A p.length c, .slice As n cs] w fun e w' => e = .returned (.bool true) ∧ Below w.heap.size w w' := by
  have P := Lib.hid hb.1
  have OK := Lib.hid hb.2.1
  have HS := Lib.hid hs
  have HN := Lib.hid hs.len
  clear hb hs
  by_cases hbig : p.length ≤ 160 ∧ n ≤ 300
  case neg =>
    by_cases g0 : (p.length : Int) > 160
    · go_enter Try.func4, Try.ntmps4
      go_wp2_with fail
      refine (alive_any w).mono ?_; rintro e w1 ⟨rfl, b1⟩
      have B1 := Lib.hid b1
      clear b1
      go_wp2
      go_ret
      exact ⟨rfl, B1.out⟩
    · have g1 : (n : Int) > 300 := by omega
      go_enter Try.func4, Try.ntmps4
      go_wp2_with fail
      refine (alive_any w).mono ?_; rintro e w1 ⟨rfl, b1⟩
      have B1 := Lib.hid b1
      clear b1
      go_wp2
      go_ret
      exact ⟨rfl, B1.out⟩
  obtain ⟨h160, h300⟩ := hbig
  have g0 : ¬ (p.length : Int) > 160 := by omega
  have g1 : ¬ (n : Int) > 300 := by omega
  have EMPTY := Lib.hid (Decidable.em (∀ q ∈ p, okP q))
  go_enter Try.func4, Try.ntmps4
  go_wp2_with fail
  refine (alive_any w).mono ?_; rintro e w1 ⟨rfl, b1⟩
  have B1 := Lib.hid b1
  clear b1
  go_wp2_with fail
  refine (new_lb B1.out).mono ?_; rintro e w2 ⟨rfl, h2, b2⟩
  obtain ⟨g, hg⟩ : ∃ g, w1.heap.size = g := ⟨_, rfl⟩
  rw [hg] at h2
  rw [hg]
  have H2 := Lib.hid h2
  clear h2 b2 hg B1
  go_wp2_with fail
  refine (of_row A c p w2 (P.out.new H2.out.below) (by omega)).mono ?_; rintro e w3 ⟨A3, c3, rfl, r3, n3, b3⟩
  have H3 := Lib.hid (H2.out.new b3)
  have R3 := Lib.hid r3
  clear r3 n3 b3 H2
  go_wp2_with fail
  refine (H3.out.add_ A3 c3 p R3.out OK.out (by omega)).mono ?_; rintro e w4 ⟨rfl, F, h4, s4⟩
  rcases EMPTY.out with hok | hok
  case inr =>
    obtain ⟨e1, e2⟩ := add_bad (l := []) hok
    rw [e2] at h4
    rw [e1]
    have H4 := Lib.hid h4
    clear h4 s4 e1 e2 hok H3 R3
    go_wp2
    go_ret
    exact ⟨rfl, H4.out.below⟩
  obtain ⟨e1, e2⟩ := add_good (l := []) hok (by simpa using h160)
  rw [e2, List.nil_append] at h4
  rw [e1]
  have H4 := Lib.hid h4
  have tl := total_ok hok h160
  clear s4 e1 e2 H3 R3 EMPTY
  go_wp2_with fail
  refine H4.out.end_.mono ?_; rintro e w5 ⟨rfl, b5, h5⟩
  rw [Nat.zero_add]
  have H5 := Lib.hid h5
  obtain ⟨T, hT⟩ : ∃ T, total p = T := ⟨_, rfl⟩
  rw [hT] at tl ⊢
  have ET := Lib.hid (show 0 + total p = T by omega)
  have TB := Lib.hid tl
  obtain ⟨i0, INF⟩ := int_i
  have INF : PSigma fun i : TypeInfo => Hid (Try.prog.info? 3 = some i ∧ i.zero = some (.int .i64 0) ∧ i.size = 1 ∧ i.bytes = 8) := ⟨i0, Lib.hid INF⟩
  clear b5 h5 h4 H4 hT tl hok
  go_wp2
  go_loopw [7, 8] (fun told i wr => ∃ (j m : Nat) (l : List Pc) (st : Nat) (TV : List Value) (At : Option Addr) (ct : Nat), j ≤ n + 1 ∧ i = .int .i64 (j : Int) ∧ told = .slice At m ct ∧ Hid (LB w wr F g l st) ∧ Hid (st + total l = T) ∧ Hid (RowV wr 3 1 At m ct TV) ∧ Hid (∀ k, inR At k → ¬ F k) ∧ Hid (∀ k, inR At k → w.heap.size ≤ k) ∧ Hid (m + l.length = p.length) ∧ Hid (TV ++ frsV l = frsV p) ∧ Hid (j = n + 1 → total l = 0)) (fun _ i _ => n + 1 - (intOf i).toNat)
  case atStart => exact ⟨0, 0, p, 0, [], none, 0, Nat.zero_le _, rfl, rfl, H5, ET, Lib.hid (RowV.nil _ _ _), Lib.hid (fun k ⟨a, e, _⟩ => by cases e), Lib.hid (fun k ⟨a, e, _⟩ => by cases e), Lib.hid (Nat.zero_add _), Lib.hid rfl, Lib.hid (fun e => by omega)⟩
  case round =>
    obtain ⟨j, m, l, st, TV, At, ct, hj, rfl, rfl, HL, HT, RT, AP, OW, LM, EV, LAST⟩ := hrel
    clear H5
    have hbm : m ≤ 160 := by have := LM.out; omega
    by_cases hlt : j ≤ n
    · have hlt' : (j : Int) ≤ (n : Int) := by omega
      have j0 : (0 : Int) ≤ (j : Int) := by omega
      have xj := IntWalk.i64_in ((j : Int) + 1) (by omega)
      by_cases hjn : j < n
      · have hjn' : (j : Int) < (n : Int) := by omega
        have SL := HS.out.lies (by rw [bys_length]; have := HN.out; omega)
        obtain ⟨sb, so, rfl, hsb, hsc⟩ := SL
        have hjs : j < s.length := by have := HN.out; omega
        have CS := hsc j (by rw [bys_length]; exact hjs)
        have eb : (bys s)[j]'(by rw [bys_length]; exact hjs) = .int .u8 (s[j].toNat : Int) := by simp [bys]
        rw [eb] at CS
        obtain ⟨u, hu⟩ : ∃ u, s[j].toNat = u := ⟨_, rfl⟩
        have hu8 : u ≤ 255 := by have := s[j].toNat_lt; omega
        rw [hu] at CS
        have CS0 := Lib.hid (fun W (h : W = wr.drew) => show W.cell? ⟨sb, so + j, none⟩ = some (.int .u8 (u : Int)) from by
          rw [h]
          exact (World.cell?_of_block (w := w) (w' := wr.drew) (a := ⟨sb, so + j, none⟩) (HL.out.below.block sb hsb)).trans CS)
        have SA := Lib.hid (fun W (h : W = wr.drew) => start_any (h ▸ HL.out.line.drew : LineAt W F g l st))
        obtain ⟨k, hk⟩ : ∃ k, min u (total l) = k := ⟨_, rfl⟩
        obtain ⟨st2, hst2⟩ : ∃ st2, st + k = st2 := ⟨_, rfl⟩
        have EST := Lib.hid hst2.symm
        have hkl := Lib.hid (show k ≤ total l by omega)
        have hTT := HT.out
        have hTb := TB.out
        have x1 : IntKind.i64.wrap ((st : Int) + (u : Int)) = (st : Int) + (u : Int) := IntWalk.i64_in _ (by omega)
        have xu : IntKind.i64.wrap (u : Int) = (u : Int) := IntWalk.i64_in _ (by omega)
        have hmin : (if (T : Int) < (st : Int) + (u : Int) then (T : Int) else (st : Int) + (u : Int)) = (st2 : Int) := by split <;> omega
        clear CS eb hu hu8 hsc hk hst2 hTT hTb
        go_upto_region 15 with fail
        refine wp_region_held_drew (S := fun w' => Hid (w' = wr.drew)) (by kernel_rfl) ((Lib.hid rfl : Hid (wr.drew = wr.drew))) (fun hH => ?_)
        refine held_take (i := 0) (d := (some 42)) (v := ?_) rfl rfl (by kernel_rfl) (by kernel_rfl) (by kernel_rfl) (fun _ _ _ h => h) (by rfl) ?_ hH ?_
        rotate_left
        · intro w' hSw; (try dsimp only at hSw); go_simp <;> with_reducible rfl
        simp only [Act.put, List.setIfInBounds_toArray, List.set_cons_zero, List.set_cons_succ]
        refine held_take (i := 2) (d := (some 44)) (v := ?_) rfl rfl (by kernel_rfl) (by kernel_rfl) (by kernel_rfl) (fun _ _ _ h => h) (by rfl) ?_ hH ?_
        rotate_left
        · intro w' hSw; (try dsimp only at hSw); go_simp <;> with_reducible rfl
        simp only [Act.put, List.setIfInBounds_toArray, List.set_cons_zero, List.set_cons_succ]
        refine held_take (i := 3) (d := (some 45)) (v := ?_) rfl rfl (by kernel_rfl) (by kernel_rfl) (by kernel_rfl) (fun _ _ _ h => h) (by rfl) ?_ hH ?_
        rotate_left
        · intro w' hSw; (try dsimp only at hSw); go_simp <;> with_reducible rfl
        simp only [Act.put, List.setIfInBounds_toArray, List.set_cons_zero, List.set_cons_succ]
        refine held_take (i := 4) (d := (some 46)) (v := ?_) rfl rfl (by kernel_rfl) (by kernel_rfl) (by kernel_rfl) (fun _ _ _ h => h) (by rfl) ?_ hH ?_
        rotate_left
        · intro w' hSw; (try dsimp only at hSw); go_simp <;> with_reducible rfl
        simp only [Act.put, List.setIfInBounds_toArray, List.set_cons_zero, List.set_cons_succ]
        refine held_take (i := 5) (d := (some 47)) (v := ?_) rfl rfl (by kernel_rfl) (by kernel_rfl) (by kernel_rfl) (fun _ _ _ h => h) (by rfl) ?_ hH ?_
        rotate_left
        · intro w' hSw; have z := CS0.out _ hSw.out; clear hSw; go_simp <;> with_reducible rfl
        simp only [Act.put, List.setIfInBounds_toArray, List.set_cons_zero, List.set_cons_succ]
        refine held_take (i := 6) (d := (some 48)) (v := ?_) rfl rfl (by kernel_rfl) (by kernel_rfl) (by kernel_rfl) (fun _ _ _ h => h) (by rfl) ?_ hH ?_
        rotate_left
        · intro w' hSw; (try dsimp only at hSw); go_simp <;> with_reducible rfl
        simp only [Act.put, List.setIfInBounds_toArray, List.set_cons_zero, List.set_cons_succ]
        refine held_take (i := 8) (d := (some 50)) (v := ?_) rfl rfl (by kernel_rfl) (by kernel_rfl) (by kernel_rfl) (fun _ _ _ h => h) (by rfl) ?_ hH ?_
        rotate_left
        · intro w' hSw; (try dsimp only at hSw); go_simp <;> with_reducible rfl
        simp only [Act.put, List.setIfInBounds_toArray, List.set_cons_zero, List.set_cons_succ]
        refine held_one (i := 1) (by kernel_rfl) rfl (by rfl) ?_
        go_simp
        refine (SA.out _ hH.out).mono ?_; rintro e wq ⟨rfl, hw⟩
        have hH : Hid (wq = wr.drew) := Lib.hid (hw.trans hH.out)
        clear hw
        refine ⟨hH, ?_⟩
        (try simp only [Act.put, List.setIfInBounds_toArray, List.set_cons_zero, List.set_cons_succ])
        refine held_take (i := 7) (d := (some 49)) (v := ?_) rfl rfl (by kernel_rfl) (by kernel_rfl) (by kernel_rfl) (fun _ _ _ h => h) (by rfl) ?_ hH ?_
        rotate_left
        · intro w' hSw; (try dsimp only at hSw); go_simp <;> with_reducible rfl
        simp only [Act.put, List.setIfInBounds_toArray, List.set_cons_zero, List.set_cons_succ]
        refine held_take (i := 9) (d := (some 51)) (v := .int .i64 (st2 : Int)) rfl rfl (by kernel_rfl) (by kernel_rfl) (by kernel_rfl) (fun _ _ _ h => h) (by rfl) (by intro w' hSw; clear hSw; go_simp) hH ?_
        simp only [Act.put, List.setIfInBounds_toArray, List.set_cons_zero, List.set_cons_succ]
        refine held_take (i := 10) (d := (some 9)) (v := ?_) rfl rfl (by kernel_rfl) (by kernel_rfl) (by kernel_rfl) (fun _ _ _ h => h) (by rfl) ?_ hH ?_
        rotate_left
        · intro w' hSw; (try dsimp only at hSw); go_simp <;> with_reducible rfl
        simp only [Act.put, List.setIfInBounds_toArray, List.set_cons_zero, List.set_cons_succ]
        refine wpAnyH_done (by kernel_rfl) ?_ _
        have HL := Lib.hid (show LB w wq F g l st by rw [hH.out]; exact HL.out.drewN 1)
        have RT := Lib.hid (show RowV wq 3 1 At m ct TV by rw [hH.out]; exact RT.out.drew)
        have LASTH := Lib.hid (show j + 1 = n + 1 → total l = 0 ∨ True from fun _ => .inr trivial)
        clear hmin x1 xu CS0 SA hsb hH LASTH
        have AC := Lib.hid (HL.out.ack_ (st2 : Int) k (by rw [EST.out]; simp) hkl.out (by have := HT.out; have := hkl.out; have := TB.out; have := EST.out; omega))
        rw [← EST.out] at AC
        have FA := Lib.hid (frs_ack l k)
        have TA := Lib.hid (show st2 + total (ackR l k) = T by rw [ackR_total]; have := HT.out; have := hkl.out; have := EST.out; omega)
        have LA := Lib.hid (show (ackR l k).length + gone l k = l.length from ackR_length l k)
        obtain ⟨q, hq⟩ : ∃ q, gone l k = q := ⟨_, rfl⟩
        obtain ⟨l2, hl2⟩ : ∃ l2, ackR l k = l2 := ⟨_, rfl⟩
        rw [hq] at AC FA LA
        rw [hl2] at AC FA TA LA
        have FAV := Lib.hid (show (frsV (l.take q)).length = q by rw [frsV_length, List.length_take]; have := LA.out; omega)
        clear hq hl2
        go_wp2_with fail
        refine AC.out.mono ?_; rintro e w2 ⟨Ag, cg, rfl, rg, ng, hl2, kg⟩
        have HL2 := Lib.hid hl2
        have RG := Lib.hid rg
        have RT2 := Lib.hid (RT.out.chg kg (fun a ha => AP.out _ ⟨a, ha, rfl⟩))
        have SZ2 := Lib.hid kg.size
        clear rg ng hl2 kg HL RT AC
        go_wp2_with fail
        refine (start_any HL2.out.line).mono ?_; rintro e w3 ⟨rfl, rfl⟩
        go_wp2_with fail
        refine HL2.out.end_.mono ?_; rintro e w3 ⟨rfl, b3, hl3⟩
        rw [TA.out]
        have HL3 := Lib.hid hl3
        have RG3 := Lib.hid (RG.out.new b3)
        have RT3 := Lib.hid (RT2.out.new b3)
        clear b3 hl3 HL2 RG RT2 SZ2
        go_wp2_with (first | (at_builtin; refine Hid.out ?_) | fail)
        unfold Hid
        refine wpList_append_V rfl (.tmp 72) (.tmp 73) 39 rfl 3 INF.1 (.int .i64 0) 1 8 Try.underlying39 INF.2.out.1 INF.2.out.2.1 INF.2.out.2.2.1 INF.2.out.2.2.2 rfl (by decide) (by decide) At m ct TV rfl RT3.out Ag q cg _ rfl RG3.out (frsV_one _) (by have := LM.out; have := LA.out; omega) ?_
        intro At2 ct2 w4 rt4 kt4 nt4
        have HL4 := Lib.hid (HL3.out.keep (AP.out) kt4 (fun i hi => by obtain ⟨a, ha, e⟩ := hi; rw [e]; exact OW.out _ ⟨a, ha, rfl⟩))
        have AP4 := Lib.hid (show ∀ i, inR At2 i → ¬ F i from fun i hi => by
          rcases nt4 i hi with h | h
          · exact AP.out i h
          · exact fun hf => by have := HL3.out.line.lt i hf; omega)
        have OW4 := Lib.hid (show ∀ i, inR At2 i → w.heap.size ≤ i from fun i hi => by
          rcases nt4 i hi with h | h
          · exact OW.out i h
          · have := HL3.out.below.size; omega)
        obtain ⟨m2, hm2⟩ : ∃ m2, m + q = m2 := ⟨_, rfl⟩
        rw [hm2] at rt4
        rw [hm2]
        have RT4 := Lib.hid rt4
        have LM2 := Lib.hid (show m2 + l2.length = p.length by have := LM.out; have := LA.out; omega)
        have EV2 := Lib.hid (show (TV ++ frsV (l.take q)) ++ frsV l2 = frsV p by rw [List.append_assoc, FA.out]; exact EV.out)
        obtain ⟨TV2, hTV⟩ : ∃ TV2, TV ++ frsV (l.take q) = TV2 := ⟨_, rfl⟩
        rw [hTV] at RT4 EV2
        have bm2 : m2 ≤ 160 := by have := LM2.out; omega
        have bl2 : l2.length ≤ 160 := by have := LM2.out; omega
        clear rt4 kt4 nt4 HL3 RG3 RT3 AP OW hm2 hTV EV FA LA FAV LM
        go_wp2_with fail
        refine HL4.out.frames_.mono ?_; rintro e w5 ⟨A5, c5, rfl, -, -, b5, hl5⟩
        have HL5 := Lib.hid hl5
        have RT5 := Lib.hid (RT4.out.new b5)
        have xs5 : IntKind.i64.wrap ((m2 : Int) + (l2.length : Int)) = (p.length : Int) := by have := LM2.out; have := IntWalk.i64_in ((m2 : Int) + (l2.length : Int)) (by omega); omega
        clear b5 hl5 HL4 RT4
        go_wp2
        go_roundw
        case rel => exact ⟨j + 1, m2, l2, st2, TV2, At2, ct2, by omega, by simp, rfl, HL5, TA, RT5, AP4, OW4, LM2, EV2, Lib.hid (fun e => by omega)⟩
        case measure => simp [intOf]; omega
      · have hjn' : ¬ (j : Int) < (n : Int) := by omega
        obtain ⟨k, hk⟩ : ∃ k, total l = k := ⟨_, rfl⟩
        have EST := Lib.hid (show T = st + k by have := HT.out; omega)
        have hkl := Lib.hid (show k ≤ total l by omega)
        clear hk
        have AC := Lib.hid (HL.out.ack_ (T : Int) k (by rw [EST.out]; simp) hkl.out (by have := HT.out; have := hkl.out; have := TB.out; have := EST.out; omega))
        rw [← EST.out] at AC
        have FA := Lib.hid (frs_ack l k)
        have TA := Lib.hid (show T + total (ackR l k) = T by rw [ackR_total]; have := HT.out; have := hkl.out; have := EST.out; omega)
        have LA := Lib.hid (show (ackR l k).length + gone l k = l.length from ackR_length l k)
        obtain ⟨q, hq⟩ : ∃ q, gone l k = q := ⟨_, rfl⟩
        obtain ⟨l2, hl2⟩ : ∃ l2, ackR l k = l2 := ⟨_, rfl⟩
        rw [hq] at AC FA LA
        rw [hl2] at AC FA TA LA
        have FAV := Lib.hid (show (frsV (l.take q)).length = q by rw [frsV_length, List.length_take]; have := LA.out; omega)
        clear hq hl2
        go_wp2_with fail
        refine AC.out.mono ?_; rintro e w2 ⟨Ag, cg, rfl, rg, ng, hl2, kg⟩
        have HL2 := Lib.hid hl2
        have RG := Lib.hid rg
        have RT2 := Lib.hid (RT.out.chg kg (fun a ha => AP.out _ ⟨a, ha, rfl⟩))
        have SZ2 := Lib.hid kg.size
        clear rg ng hl2 kg HL RT AC
        go_wp2_with fail
        refine (start_any HL2.out.line).mono ?_; rintro e w3 ⟨rfl, rfl⟩
        go_wp2_with fail
        refine HL2.out.end_.mono ?_; rintro e w3 ⟨rfl, b3, hl3⟩
        rw [TA.out]
        have HL3 := Lib.hid hl3
        have RG3 := Lib.hid (RG.out.new b3)
        have RT3 := Lib.hid (RT2.out.new b3)
        clear b3 hl3 HL2 RG RT2 SZ2
        go_wp2_with (first | (at_builtin; refine Hid.out ?_) | fail)
        unfold Hid
        refine wpList_append_V rfl (.tmp 72) (.tmp 73) 39 rfl 3 INF.1 (.int .i64 0) 1 8 Try.underlying39 INF.2.out.1 INF.2.out.2.1 INF.2.out.2.2.1 INF.2.out.2.2.2 rfl (by decide) (by decide) At m ct TV rfl RT3.out Ag q cg _ rfl RG3.out (frsV_one _) (by have := LM.out; have := LA.out; omega) ?_
        intro At2 ct2 w4 rt4 kt4 nt4
        have HL4 := Lib.hid (HL3.out.keep (AP.out) kt4 (fun i hi => by obtain ⟨a, ha, e⟩ := hi; rw [e]; exact OW.out _ ⟨a, ha, rfl⟩))
        have AP4 := Lib.hid (show ∀ i, inR At2 i → ¬ F i from fun i hi => by
          rcases nt4 i hi with h | h
          · exact AP.out i h
          · exact fun hf => by have := HL3.out.line.lt i hf; omega)
        have OW4 := Lib.hid (show ∀ i, inR At2 i → w.heap.size ≤ i from fun i hi => by
          rcases nt4 i hi with h | h
          · exact OW.out i h
          · have := HL3.out.below.size; omega)
        obtain ⟨m2, hm2⟩ : ∃ m2, m + q = m2 := ⟨_, rfl⟩
        rw [hm2] at rt4
        rw [hm2]
        have RT4 := Lib.hid rt4
        have LM2 := Lib.hid (show m2 + l2.length = p.length by have := LM.out; have := LA.out; omega)
        have EV2 := Lib.hid (show (TV ++ frsV (l.take q)) ++ frsV l2 = frsV p by rw [List.append_assoc, FA.out]; exact EV.out)
        obtain ⟨TV2, hTV⟩ : ∃ TV2, TV ++ frsV (l.take q) = TV2 := ⟨_, rfl⟩
        rw [hTV] at RT4 EV2
        have bm2 : m2 ≤ 160 := by have := LM2.out; omega
        have bl2 : l2.length ≤ 160 := by have := LM2.out; omega
        clear rt4 kt4 nt4 HL3 RG3 RT3 AP OW hm2 hTV EV FA LA FAV LM
        go_wp2_with fail
        refine HL4.out.frames_.mono ?_; rintro e w5 ⟨A5, c5, rfl, -, -, b5, hl5⟩
        have HL5 := Lib.hid hl5
        have RT5 := Lib.hid (RT4.out.new b5)
        have xs5 : IntKind.i64.wrap ((m2 : Int) + (l2.length : Int)) = (p.length : Int) := by have := LM2.out; have := IntWalk.i64_in ((m2 : Int) + (l2.length : Int)) (by omega); omega
        clear b5 hl5 HL4 RT4
        go_wp2
        go_roundw
        case rel => exact ⟨j + 1, m2, l2, T, TV2, At2, ct2, by omega, by simp, rfl, HL5, TA, RT5, AP4, OW4, LM2, EV2, Lib.hid (fun e => by have := TA.out; omega)⟩
        case measure => simp [intOf]; omega
    · have hge : ¬ (j : Int) ≤ (n : Int) := by omega
      obtain rfl : j = n + 1 := by omega
      obtain rfl : l = [] := empty_of HL.out.line.ok (LAST.out rfl)
      have EV3 := EV.out
      rw [show frsV [] = [] from rfl, List.append_nil] at EV3
      subst EV3
      obtain rfl : m = p.length := by have := LM.out; simpa using this
      clear hbm LM EV LAST AP OW HT
      go_wp2
      go_loopw [12] (fun i wz => ∃ j : Nat, j ≤ p.length ∧ i = .int .i64 (j : Int) ∧ Hid (LB w wz F g [] st) ∧ Hid (RowV wz 3 1 At p.length ct (frsV p))) (fun i _ => p.length - (intOf i).toNat)
      case atStart => exact ⟨0, Nat.zero_le _, rfl, HL, RT⟩
      case round =>
        obtain ⟨j, hj, rfl, HL2, RT2⟩ := hrel
        clear HL RT
        have HL := HL2
        have RT := RT2
        clear HL2 RT2
        by_cases hlt2 : j < p.length
        · have hlt' : (j : Int) < (p.length : Int) := by omega
          have j0 : (0 : Int) ≤ (j : Int) := by omega
          have xj := IntWalk.i64_in ((j : Int) + 1) (by omega)
          have hd : decide ((p.length : Int) ≤ (j : Int)) = false := decide_eq_false (by omega)
          have hd2 : decide (p.length ≤ j) = false := decide_eq_false (by omega)
          obtain ⟨b, o, rfl, hbl, c0, -, -⟩ := (P.out.new HL.out.below).cells hlt2
          obtain ⟨b2, o2, rfl, hb2, c2⟩ := RT.out.cell (j := j) (by rw [frsV_length]; exact hlt2)
          have e3 : (frsV p)[j]'(by rw [frsV_length]; exact hlt2) = .int .i64 p[j].frame := by simp [frsV]
          rw [e3] at c2
          generalize p[j].frame = fr at *
          clear e3
          go_upto_region 25 with fail
          go_quiet (fail)
          go_wp2
          go_roundw
          case rel => exact ⟨j + 1, by omega, by simp, Lib.hid (HL.out.drewN _), Lib.hid (RT.out.drewN _)⟩
          case measure => simp [intOf]; omega
        · have hge2 : ¬ (j : Int) < (p.length : Int) := by omega
          go_wp2_with fail
          refine HL.out.frames_.mono ?_; rintro e w6 ⟨A6, c6, rfl, -, -, b6, h6⟩
          have H6 := Lib.hid h6
          clear b6 h6
          go_wp2
          go_ret
          exact ⟨rfl, H6.out.below⟩

set_option maxRecDepth 100000 in
theorem lifted (os : Os) (started : os.Started) (H : Type) (enc : TypeId × Value → H) :
    ReturnsInHanded {} Try.checked os 4 .any (Rows.sendqOnceSpec.pre6 enc Try.prog Try.f4 Rows.sendqOnceRow.domain false) (Rows.sendqOnceSpec.post enc Try.prog Try.f4 false true false false) := by
  refine returnsInHanded_of_change (C := Try.checked) own started (by kernel_rfl) Try.func4
    (ChangeSpec.witness6 (enc := enc) (C := Try.checked) false ⟨#[], #[.slice none 0 0, .slice none 0 0], []⟩ 8 (by kernel_rfl) (by kernel_rfl) (by kernel_rfl) (by kernel_rfl)) ?_
  intro W base args ds gs before hval0 hW hcnd _
  have hval : ∀ (j : Nat) t v, Try.f4.params[j]? = some t → args[j]? = some v → Value.okWide Try.prog W .any base t v := hval0
  have hW' := hW
  obtain ⟨p, q, hA0, hV, rfl, hfz, hnd⟩ := hW
  have hA : DataW.TrodAll enc Try.prog W 0 (fun _ => true) true Try.f4.params.toList args.toList ds p := hA0
  rw [Try.params4] at hA hval
  obtain ⟨v0, vs0, d0, ds0, p0, q0, hargs, rfl, rfl, h0, r0⟩ := trodAll_cons hA
  obtain ⟨v1, vs1, d1, ds1, p1, q1, rfl, rfl, rfl, h1, r1⟩ := trodAll_cons r0
  obtain ⟨rfl, rfl, rfl⟩ := trodAll_nil r1
  obtain rfl : args = #[v0, v1] := by cases args; simp_all
  obtain ⟨A0, c0, f0, rfl, b0⟩ := open_pcs Try.underlying31 Try.underlying55 (by kernel_rfl) rfl rfl rfl (by kernel_rfl) (by kernel_rfl) (by kernel_rfl) Try.underlying3 Try.underlying3 Try.underlying3 (hval 0 31 v0 rfl rfl) h0
  obtain ⟨A1, n1, c1, l1, rfl, b1⟩ := open_src Try.underlying53 Try.underlying5 (by kernel_rfl) (hval 1 53 v1 rfl rfl) h1
  clear hA0 hval0
  exact law_close hW' laidOut (by kernel_rfl) rfl Try.underlying4 rfl ⟨rfl, rfl, rfl⟩ (walk W A0 c0 f0 b0 A1 n1 c1 l1 b1)

theorem over : Rows.sendqOnceRow.holds Try.pinned (OpenSpec.ofChange Rows.sendqOnceSpec) :=
  OpenClaim.holds_of_wide 4 Try.f4 rfl rfl rfl rfl rfl rfl rfl ⟨rfl, rfl, rfl, rfl, rfl⟩ rfl rfl rfl rfl rfl (by kernel_rfl) Try.func4 (by kernel_rfl)
    (of_decide_eq_true (by kernel_rfl)) (by unfold Func.isWrapper; first | (rw [if_pos (by decide +kernel)]; kernel_rfl) | (rw [if_neg (by decide +kernel)]; exact ⟨rfl, rfl⟩))
    (fun os started H enc _ => lifted os started H enc)

theorem proved : Rows.SendqOnceSaid := over

end Go.Proofs.Ytgmejifacpefdaa.sendqOnce
