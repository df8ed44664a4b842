/- Package gather: Cut. Conditions: those that each states. -/
import Derived.Test.YtgmejifacpefdaaGa1
import Derived.Deep.DeepCutAuto
import Derived.Deep.CutBlock
namespace Go.Proofs.Ytgmejifacpefdaa
open Go.ChangeShapes Go.WideShapes Go.ChangeAt Go.RowKit Go.Deep
set_option linter.unusedVariables false

theorem cutL_cons (p : Pc) (l : List Pc) (a n : Nat) : cutL (p :: l) a n =
    (if 0 < min n (p.len.toNat - min a p.len.toNat) then [⟨p.frame, p.off + (min a p.len.toNat : Nat), ((min n (p.len.toNat - min a p.len.toNat) : Nat) : Int)⟩] else []) ++
      cutL l (a - min a p.len.toNat) (n - min n (p.len.toNat - min a p.len.toNat)) := rfl
theorem cutL_append (l r : List Pc) (a n : Nat) : cutL (l ++ r) a n = cutL l a n ++ cutL r (a - total l) (n - (total l - a)) := by
  induction l generalizing a n with
  | nil => simp [cutL, total]
  | cons p l ih =>
    rw [List.cons_append, cutL_cons, cutL_cons, ih, List.append_assoc]
    simp only [total]
    have e1 : a - min a p.len.toNat - total l = a - (p.len.toNat + total l) := by omega
    have e2 : n - min n (p.len.toNat - min a p.len.toNat) - (total l - (a - min a p.len.toNat)) = n - (p.len.toNat + total l - a) := by omega
    rw [e1, e2]
/-- What one piece gives. -/
def cutOne (p : Pc) (f m : Nat) : List Pc := if 0 < min m (p.len.toNat - min f p.len.toNat) then [⟨p.frame, p.off + (min f p.len.toNat : Nat), ((min m (p.len.toNat - min f p.len.toNat) : Nat) : Int)⟩] else []
theorem cutL_step {l : List Pc} {j : Nat} (hj : j < l.length) (a n : Nat) : cutL (l.take (j + 1)) a n = cutL (l.take j) a n ++ cutOne l[j] (a - total (l.take j)) (n - (total (l.take j) - a)) := by
  rw [List.take_succ_eq_append_getElem hj, cutL_append, cutL_cons]
  unfold cutL cutOne
  rw [List.append_nil]
def Pc.Good (p : Pc) : Prop := 0 ≤ p.frame ∧ p.frame ≤ 256 ∧ p.In
instance (p : Pc) : Decidable p.Good := inferInstanceAs (Decidable (_ ∧ _))
def cutOk (l : List Pc) (a n : Int) : Prop := (∀ p ∈ l, p.Good) ∧ 0 ≤ a ∧ 0 ≤ n ∧ n ≤ sizeR l - a
def CutIs (w : World) (l : List Pc) (a n : Int) (e : Ending) (w' : World) : Prop :=
  ((cutOk l a n ∧ ∃ A c, e = .returned (.tuple #[.slice A (cutL l a.toNat n.toNat).length c, .int .i64 0]) ∧ Pcs w' A (cutL l a.toNat n.toNat)) ∨ (¬ cutOk l a n ∧ e = .returned (.tuple #[.slice none 0 0, .int .i64 1]))) ∧ Below w.heap.size w w'
theorem pcs_infos : (Try.prog.info? 59).map (fun i => (i.zero.map (·.cells.size), i.size, i.bytes)) = some (some 3, 3, 24) := by kernel_rfl
theorem pcs_info : ∃ i0 z, Try.prog.info? 59 = some i0 ∧ i0.zero = some z ∧ i0.size = 3 ∧ i0.bytes = 24 ∧ z.cells.size = 3 := by
  obtain ⟨i, hi, hs⟩ := Option.map_eq_some_iff.1 pcs_infos
  simp only [Prod.mk.injEq] at hs
  obtain ⟨h0, h1, h2⟩ := hs
  obtain ⟨z, hz, hzs⟩ := Option.map_eq_some_iff.1 h0
  exact ⟨i, z, hi, hz, h1, h2, hzs⟩
set_option maxRecDepth 100000 in
set_option maxHeartbeats 4000000 in
theorem cut_any (A : Option Addr) (c : Nat) (l : List Pc) (a n : Int) (w : World) (hp : Pcs w A l) (hok : ∀ p ∈ l, p.Ok) (hmax : l.length ≤ 1000000) (ha : -9223372036854775808 ≤ a ∧ a ≤ 9223372036854775807) (hn : -9223372036854775808 ≤ n ∧ n ≤ 9223372036854775807) :
    Calls Try.prog 29 #[.slice A l.length c, .int .i64 a, .int .i64 n] w (CutIs w l a n) := by
  have P := Lib.hid hp
  have OK := Lib.hid hok
  have B0 := Lib.hid (Below.refl w.heap.size w)
  have WI := Lib.hid pwithin
  clear hp hok
  go_enter Try.func29, Try.ntmps29
  go_wp2
  go_loopw [17] (fun i wr => ∃ (j : Nat), j ≤ l.length ∧ i = .int .i64 (j : Int) ∧ Hid (∀ x (hx : x < l.length), x < j → l[x].Good) ∧ Below w.heap.size w wr) (fun i _ => l.length - (intOf i).toNat)
  case atStart => exact ⟨0, Nat.zero_le _, rfl, Lib.hid (fun x hx h => absurd h (by omega)), B0.out⟩
  case round =>
    clear B0
    obtain ⟨j, hj, rfl, hg, hb⟩ := hrel
    have HB := Lib.hid hb
    have hgs : w.heap.size ≤ wr.heap.size := hb.size
    have P1 := Lib.hid (P.out.new hb)
    clear hb
    by_cases hlt : j < l.length
    · have hlt' : (j : Int) < (l.length : Int) := by omega
      have j0 : (0 : Int) ≤ (j : Int) := by omega
      have xj := IntWalk.i64_in ((j : Int) + 1) (by omega)
      obtain ⟨b, o, rfl, hbl, hr⟩ := P1.out j hlt
      have LD := Lib.hid (show wr.rangeAt b (o + j * 3) [.int .i64 l[j].frame, .int .i64 l[j].off, .int .i64 l[j].len] from hr)
      have W1 := Lib.hid (WI.out l[j] (OK.out _ (List.getElem_mem hlt)))
      have BAD := Lib.hid (show ¬ l[j].Good → ¬ cutOk l a n from fun h1 h2 => h1 (h2.1 _ (List.getElem_mem hlt)))
      have GD := Lib.hid (show l[j].Good → ∀ x (hx : x < l.length), x < j + 1 → l[x].Good from fun h1 x hx h => by
        by_cases e : x = j
        · subst e; exact h1
        · exact hg.out x hx (by omega))
      have HB2 := Lib.hid (fun cs w2 (h : Below (wr.heap.size + 1) (wr.alloc (.cells cs 59)) w2) => (show Below w.heap.size w w2 from HB.out.trans ((((Below.refl wr.heap.size wr).alloc (Nat.le_refl _) (.cells cs 59)).trans (h.mono (by simp))).mono hgs)))
      have hdec : l[j].Good ∨ ¬ l[j].Good := Decidable.em _
      have hlo := OK.out _ (List.getElem_mem hlt)
      generalize hI : decide l[j].In = I at *
      have hIt : l[j].In ↔ I = true := by rw [← hI]; simp
      have GE := Lib.hid (show l[j].Good ↔ 0 ≤ l[j].frame ∧ l[j].frame ≤ 256 ∧ I = true from by unfold Pc.Good; rw [hIt])
      generalize l[j].Good = G at *
      generalize l[j].frame = qf at *
      generalize l[j].off = qo at *
      generalize l[j].len = qn at *
      clear hr hI hIt hlo hg
      by_cases g1 : qf < 0
      · have NB := BAD.out (fun h => by have := (GE.out.1 h).1; omega)
        go_wp2_with (first
          | (refine wpList_load_mid rfl 59 (.tmp 19) rfl b (o + j * 3) rfl _ _ LD.out Try.underlying59 rfl piece_info ?_)
          | fail)
        go_ret2
        exact ⟨.inr ⟨NB, rfl⟩, HB2.out _ _ (Below.refl _ _)⟩
      by_cases g2 : qf > 256
      · have NB := BAD.out (fun h => by have := (GE.out.1 h).2.1; omega)
        go_wp2_with (first
          | (refine wpList_load_mid rfl 59 (.tmp 19) rfl b (o + j * 3) rfl _ _ LD.out Try.underlying59 rfl piece_info ?_)
          | fail)
        go_ret2
        exact ⟨.inr ⟨NB, rfl⟩, HB2.out _ _ (Below.refl _ _)⟩
      go_wp2_with (first
        | (refine wpList_load_mid rfl 59 (.tmp 19) rfl b (o + j * 3) rfl _ _ LD.out Try.underlying59 rfl piece_info ?_)
        | fail)
      refine (W1.out _).mono ?_; rintro e w2 ⟨rfl, b2⟩
      have HB3 := Lib.hid (HB2.out _ _ (b2.mono (Nat.le_of_eq (by simp))))
      clear b2
      cases I with
      | false =>
        have NB := BAD.out (fun h => by have := (GE.out.1 h).2.2; cases this)
        go_wp2
        go_ret2
        exact ⟨.inr ⟨NB, rfl⟩, HB3.out⟩
      | true =>
        have G2 := Lib.hid (GD.out (GE.out.2 ⟨by omega, by omega, rfl⟩))
        go_wp2
        go_roundw
        case rel => exact ⟨j + 1, by omega, by simp, G2, HB3.out⟩
        case measure => simp [intOf]; omega
    · have hge : ¬ (j : Int) < (l.length : Int) := by omega
      obtain rfl : j = l.length := by omega
      have SZ := Lib.hid (size_any A c l wr P1.out OK.out hmax)
      have ALL := Lib.hid (fun (p : Pc) (hp : p ∈ l) => show p.Good by
        obtain ⟨x, hx, rfl⟩ := List.mem_iff_getElem.1 hp
        exact hg.out x hx hx)
      clear hg
      by_cases g1 : a < 0
      · have NB : ¬ cutOk l a n := fun h => by have := h.2.1; omega
        go_wp2
        go_ret2
        exact ⟨.inr ⟨NB, rfl⟩, HB.out⟩
      by_cases g2 : n < 0
      · have NB : ¬ cutOk l a n := fun h => by have := h.2.2.1; omega
        go_wp2
        go_ret2
        exact ⟨.inr ⟨NB, rfl⟩, HB.out⟩
      obtain ⟨s0, s1⟩ := sizeR_ends l
      have x0 : IntKind.i64.wrap (sizeR l - a) = sizeR l - a := IntWalk.i64_in _ (by omega)
      have HS := Lib.hid (show sizeR l = sizeR l from rfl)
      have CO := Lib.hid (show n ≤ sizeR l - a ↔ cutOk l a n from ⟨fun h => ⟨ALL.out, by omega, by omega, h⟩, fun h => h.2.2.2⟩)
      obtain ⟨a0, rfl⟩ : ∃ a0 : Nat, a = (a0 : Int) := ⟨a.toNat, by omega⟩
      obtain ⟨n0, rfl⟩ : ∃ n0 : Nat, n = (n0 : Int) := ⟨n.toNat, by omega⟩
      have RES := Lib.hid (fun e w' => (Iff.rfl : CutIs w l a0 n0 e w' ↔ CutIs w l a0 n0 e w'))
      generalize sizeR l = q at SZ x0 CO s0 s1
      by_cases g3 : (n0 : Int) > q - a0
      · have NB : ¬ cutOk l a0 n0 := fun h => by have := CO.out.2 h; omega
        go_wp2_with fail
        refine SZ.out.mono ?_; rintro e w2 ⟨rfl, b2⟩
        have HB3 := Lib.hid (HB.out.trans (b2.mono hgs))
        clear b2
        go_wp2
        go_ret2
        exact ⟨.inr ⟨NB, rfl⟩, HB3.out⟩
      have YES := Lib.hid (CO.out.1 (by omega))
      go_wp2_with fail
      refine SZ.out.mono ?_; rintro e w2 ⟨rfl, b2⟩
      have HB3 := Lib.hid (HB.out.trans (b2.mono hgs))
      clear b2
      have hgs2 : w.heap.size ≤ w2.heap.size := HB3.out.size
      have O0 := Lib.hid (show w2.ownsRow w.heap.size 59 3 (.slice none 0 0) (cutL (l.take 0) a0 n0).length (flatP (cutL (l.take 0) a0 n0)) from World.ownsRow_nil w2 w.heap.size 59 3)
      obtain ⟨i0, z0, hi, hz, hsz, hby, hzs⟩ := pcs_info
      have INF := Lib.hid (And.intro hi (And.intro hz (And.intro hsz (And.intro hby hzs))))
      clear hi hz hsz hby hzs CO SZ x0 HS RES P1 HB
      have A0 := Lib.hid (show ((a0 - total (l.take 0) : Nat) : Int) = (a0 : Int) by simp [total])
      have N0 := Lib.hid (show ((n0 - (total (l.take 0) - a0) : Nat) : Int) = (n0 : Int) by simp [total])
      go_wp2
      go_loopw [1, 2, 10, 51] (fun f m out i wx => ∃ (j f1 m1 : Nat) (A' : Option Addr) (c' : Nat), j ≤ l.length ∧ i = .int .i64 (j : Int) ∧ f = .int .i64 (f1 : Int) ∧ m = .int .i64 (m1 : Int) ∧ Hid (f1 = a0 - total (l.take j) ∧ m1 = n0 - (total (l.take j) - a0)) ∧ out = .slice A' (cutL (l.take j) a0 n0).length c' ∧ Hid (wx.ownsRow w.heap.size 59 3 (.slice A' (cutL (l.take j) a0 n0).length c') (cutL (l.take j) a0 n0).length (flatP (cutL (l.take j) a0 n0))) ∧ Hid (Below w.heap.size w wx)) (fun _ _ _ i _ => l.length - (intOf i).toNat)
      case atStart => exact ⟨0, a0, n0, none, 0, Nat.zero_le _, rfl, rfl, rfl, Lib.hid (by simp [total]), rfl, O0, HB3⟩
      case round =>
        have h63 : a0 ≤ 9223372036854775807 ∧ n0 ≤ 9223372036854775807 := by omega
        clear HB3 O0 A0 N0 OK WI g1 g2 g3 s0 s1 ha hn
        obtain ⟨j, f, m, A', c', hj, rfl, rfl, rfl, FM, rfl, HO, HB⟩ := hrel
        have hgs : w.heap.size ≤ wr.heap.size := HB.out.size
        have P1 := Lib.hid (P.out.new HB.out)
        by_cases hlt : j < l.length
        · have hlt' : (j : Int) < (l.length : Int) := by omega
          have j0 : (0 : Int) ≤ (j : Int) := by omega
          have xj := IntWalk.i64_in ((j : Int) + 1) (by omega)
          obtain ⟨b, o, rfl, hbl, hr⟩ := P1.out j hlt
          have LD := Lib.hid (show wr.rangeAt b (o + j * 3) [.int .i64 l[j].frame, .int .i64 l[j].off, .int .i64 l[j].len] from hr)
          have hG := ALL.out _ (List.getElem_mem hlt)
          have hIn := hG.2.2
          obtain ⟨h1, h2, h3, h4, h5⟩ := hIn
          have hcs := cutL_step hlt a0 n0
          rw [← FM.out.1, ← FM.out.2] at hcs
          have FM2 := Lib.hid (show f - min f l[j].len.toNat = a0 - total (l.take (j + 1)) ∧ m - min m (l[j].len.toNat - min f l[j].len.toNat) = n0 - (total (l.take (j + 1)) - a0) by
            rw [total_take_succ hlt, FM.out.1, FM.out.2]; omega)
          have hcl := cutL_len (l.take (j + 1)) a0 n0
          have hcl1 := cutL_len (l.take j) a0 n0
          rw [List.length_take] at hcl hcl1
          have hfm : f ≤ 9223372036854775807 ∧ m ≤ 9223372036854775807 := by have := FM.out; omega
          clear h63
          unfold cutOne at hcs
          have CS := Lib.hid hcs
          clear hcs
          generalize cutL (l.take j) a0 n0 = L at *
          generalize hL2 : cutL (l.take (j + 1)) a0 n0 = L2 at *
          have HL2 := Lib.hid hL2
          clear hL2
          generalize l[j].frame = qf at *
          generalize l[j].off = qo at *
          generalize l[j].len = qn at *
          obtain ⟨k, rfl⟩ : ∃ k : Nat, qn = (k : Int) := ⟨qn.toNat, by omega⟩
          rw [Int.toNat_natCast] at CS FM2
          clear hr hG FM
          have x0 : IntKind.i64.wrap ((k : Int) - min (f : Int) (k : Int)) = (k : Int) - min (f : Int) (k : Int) := IntWalk.i64_in _ (by omega)
          have x1 : IntKind.i64.wrap ((f : Int) - min (f : Int) (k : Int)) = (f : Int) - min (f : Int) (k : Int) := IntWalk.i64_in _ (by omega)
          have x2 : IntKind.i64.wrap ((m : Int) - min (m : Int) ((k : Int) - min (f : Int) (k : Int))) = (m : Int) - min (m : Int) ((k : Int) - min (f : Int) (k : Int)) := IntWalk.i64_in _ (by omega)
          have x3 : IntKind.i64.wrap (qo + min (f : Int) (k : Int)) = qo + min (f : Int) (k : Int) := IntWalk.i64_in _ (by omega)
          go_upto_region 17 with (first
            | (refine wpList_load_mid rfl 59 (.tmp 53) rfl b (o + j * 3) rfl _ _ LD.out Try.underlying59 rfl piece_info ?_)
            | fail)
          obtain ⟨s, hs⟩ : ∃ s : Nat, s = min f k := ⟨_, rfl⟩
          obtain ⟨t, ht⟩ : ∃ t : Nat, t = min m (k - s) := ⟨_, rfl⟩
          have es : (if k < f then (k : Int) else (f : Int)) = (s : Int) := by split <;> omega
          have et : (if ((k : Int) - (s : Int)) < (m : Int) then (k : Int) - (s : Int) else (m : Int)) = (t : Int) := by split <;> omega
          rw [es, et]
          rw [← hs] at CS FM2
          rw [← ht] at CS FM2
          have ef : (f : Int) - (s : Int) = ((f - s : Nat) : Int) := by omega
          have em : (m : Int) - (t : Int) = ((m - t : Nat) : Int) := by omega
          rw [ef, em]
          have xs : IntKind.i64.wrap (qo + (s : Int)) = qo + (s : Int) := IntWalk.i64_in _ (by omega)
          clear x0 x1 x2 x3 es et ef em h1 h2 h3 h4 h5
          generalize f - s = f2 at *
          generalize m - t = m2 at *
          by_cases ht0 : 0 < t
          · have ht1 : (t : Int) > 0 := by omega
            rw [if_pos ht0] at CS
            have HT := Lib.hid (show flatP L2 = flatP L ++ [.int .i64 qf, .int .i64 (qo + (s : Int)), .int .i64 (t : Int)] from by rw [CS.out, flatP_snoc]; rfl)
            have HL := Lib.hid (show L2.length = L.length + 1 by rw [CS.out, List.length_append]; rfl)
            have H1 := Lib.hid (show ∀ u ∈ ([.int .i64 qf, .int .i64 (qo + (s : Int)), .int .i64 (t : Int)] : List Value), u.oneCell' = true from one_pc ⟨qf, qo + (s : Int), t⟩)
            have WB := Lib.hid (show Below w.heap.size w (wr.alloc (.cells #[.int .i64 qf, .int .i64 qo, .int .i64 (k : Int)] 59)) from HB.out.trans (((Below.refl wr.heap.size wr).alloc (Nat.le_refl _) _).mono hgs))
            have WO := Lib.hid (HO.out.alloc (.cells #[.int .i64 qf, .int .i64 qo, .int .i64 (k : Int)] 59))
            have NB := Lib.hid (show Blk ((wr.alloc (.cells #[.int .i64 qf, .int .i64 qo, .int .i64 (k : Int)] 59)).alloc (.cells #[.int .i64 qf, .int .i64 (qo + (s : Int)), .int .i64 (t : Int)] 59)) (wr.heap.size + 1) 59 #[.int .i64 qf, .int .i64 (qo + (s : Int)), .int .i64 (t : Int)] by
              have := Blk.new (wr.alloc (.cells #[.int .i64 qf, .int .i64 qo, .int .i64 (k : Int)] 59)) 59 #[.int .i64 qf, .int .i64 (qo + (s : Int)), .int .i64 (t : Int)]
              simpa using this)
            generalize hfl : flatP L = fl at *
            have hcl2 := HL.out
            clear CS ht0 hs ht HO hfl
            go_wp2_with (first | (at_builtin; refine Hid.out ?_) | fail)
            unfold Hid
            refine wpList_append_lies _ rfl (.tmp 73) (.tmp 82) 36 rfl w.heap.size 59 i0 z0 3 24 Try.underlying36 INF.out.1 INF.out.2.1 INF.out.2.2.1 INF.out.2.2.2.1 INF.out.2.2.2.2 (by decide) _ L.length fl rfl (WO.out.alloc _) ⟨wr.heap.size + 1, 0, none⟩ 1 1 [.int .i64 qf, .int .i64 (qo + (s : Int)), .int .i64 (t : Int)] rfl (by simp) (World.news_of_block NB.out) H1.out (by decide) (by unfold maxLen; omega) (by omega) (by simp; omega) (wr.heap.size + 2) (by simp) ?_
            intro g cap w1 hown hgrow hat hlg
            rw [← HT.out, ← HL.out] at hown
            have HO2 := Lib.hid hown
            have hb1 := ((WB.out.alloc (by simp; omega) (.cells #[.int .i64 qf, .int .i64 (qo + (s : Int)), .int .i64 (t : Int)] 59))).grown hgrow (by simp; omega) (fun k e => (WO.out.lt k e).1)
            have HB2 := Lib.hid hb1
            clear hown hgrow hat hb1 WO WB HT H1 NB
            go_wp2
            go_roundw
            case rel => exact ⟨j + 1, f2, m2, some ⟨g, 0, none⟩, cap, by omega, by simp, rfl, rfl, FM2, by rw [HL2.out, HL.out], by rw [HL2.out]; exact HO2, HB2⟩
            case measure => simp [intOf]; omega
          · have ht1 : ¬ (t : Int) > 0 := by omega
            rw [if_neg ht0, List.append_nil] at CS
            have WB := Lib.hid (show Below w.heap.size w (wr.alloc (.cells #[.int .i64 qf, .int .i64 qo, .int .i64 (k : Int)] 59)) from HB.out.trans (((Below.refl wr.heap.size wr).alloc (Nat.le_refl _) _).mono hgs))
            have WO := Lib.hid (HO.out.alloc (.cells #[.int .i64 qf, .int .i64 qo, .int .i64 (k : Int)] 59))
            rw [← CS.out] at WO
            clear ht0 hs ht HO
            go_wp2
            go_roundw
            case rel => exact ⟨j + 1, f2, m2, A', c', by omega, by simp, rfl, rfl, FM2, by rw [HL2.out, CS.out], by rw [HL2.out]; exact WO, WB⟩
            case measure => simp [intOf]; omega
        · have hge : ¬ (j : Int) < (l.length : Int) := by omega
          obtain rfl : j = l.length := by omega
          have ho := HO.out
          rw [List.take_length] at ho
          obtain ⟨A2, c2, e2, hp2⟩ := pcs_of_owns ho
          cases e2
          have HP2 := Lib.hid hp2
          clear ho hp2
          rw [List.take_length]
          have RES := Lib.hid (show ∀ e w', (∃ A c, e = .returned (.tuple #[.slice A (cutL l a0 n0).length c, .int .i64 0]) ∧ Pcs w' A (cutL l a0 n0)) ∧ Below w.heap.size w w' → CutIs w l a0 n0 e w' from fun e w' h => ⟨.inl ⟨YES.out, h.1⟩, h.2⟩)
          generalize cutL l a0 n0 = L at *
          go_wp2
          go_ret2
          exact RES.out _ _ ⟨⟨_, _, rfl, HP2.out⟩, HB.out⟩
end Go.Proofs.Ytgmejifacpefdaa
