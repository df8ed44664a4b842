/- Package sendq: Ack, Cut. Conditions: those that each states. -/
import Derived.Test.YtgmejifacpefdaaSn2
import Derived.Test.YtgmejifacpefdaaRow
namespace Go.Proofs.Ytgmejifacpefdaa.Sn
open Go.ChangeShapes Go.WideShapes Go.ChangeAt Go.RowKit Go.Deep Rk Rv
set_option linter.unusedVariables false
set_option linter.unusedSimpArgs false

theorem ack_bad {w : World} {F : Nat → Prop} {g st : Nat} {l : List Pc} (h : LineAt w F g l st) (tt : Int) (hto : ¬ ((st : Int) ≤ tt ∧ tt ≤ (st : Int) + (total l : Int))) :
    Calls Try.prog 13 #[.pointer (some ⟨g, 0, none⟩), .int .i64 tt] w fun e w' => e = .returned (.tuple #[.slice none 0 0, .int .i64 1]) ∧ Below w.heap.size w w' := by
  obtain ⟨A0, c0, h1, h2, h3⟩ := h.ex
  have hc1 := (h1.cell 1).trans (show _ = some (.int .i64 (st : Int)) from rfl)
  have EN := Lib.hid (end_any h)
  have B0 := Lib.hid (Below.refl w.heap.size w)
  clear h h1 h2 h3
  by_cases hl : tt < (st : Int)
  · clear hto
    go_enter Try.func13, Try.ntmps13
    go_wp2
    go_ret2
    exact ⟨rfl, B0.out⟩
  · have hg : tt > (st : Int) + (total l : Int) := by omega
    clear hto
    go_enter Try.func13, Try.ntmps13
    go_wp2_with fail
    refine EN.out.mono ?_; rintro e w1 ⟨rfl, b1⟩
    have B1 := Lib.hid b1
    rw [Int.natCast_add]
    clear b1
    go_wp2
    go_ret2
    exact ⟨rfl, B1.out⟩

theorem run_slices {A : Option Addr} {n c j : Nat} (hj : j ≤ n) (hc : n ≤ c) : (∀ W, (Instr.slice 36 (.slice A n c) none (some (.int .i64 (j : Int))) none).run Try.prog W = .ok (.slice A j c) W) ∧
    ∃ A3, (∀ W, (Instr.slice 36 (.slice A n c) (some (.int .i64 (j : Int))) none none).run Try.prog W = .ok (.slice A3 (n - j) (c - j)) W) ∧ A3 = (if c = j then A else A.map (·.add (j * 3))) := by
  obtain ⟨i0, z0, hi, hz, hsz, hby, hzs⟩ := pcs_info
  exact ⟨fun W => run_upto Try.underlying36 (by kernel_rfl) hi A n c j (by omega) W, _, fun W => run_from Try.underlying36 (by kernel_rfl) hi hsz A n c j hj W, rfl⟩

theorem rangeAt_same {w w' : World} {B b o : Nat} {cs : List Value} (k : Below B w w') (h : w.rangeAt b o cs) (hb : b < B) : w'.rangeAt b o cs := fun j v hj => by
  rw [World.cell?_of_block (w := w) (w' := w') (a := ⟨b, o + j, none⟩) (k.block b hb)]
  exact h j v hj
theorem first_range {w : World} {E : TypeId} {b o m c j : Nat} {l : List Pc} (hlt : j < l.length) (h : RowV w E 3 (some ⟨b, o, none⟩) m c ((flatP l).drop (j * 3))) : w.rangeAt b o [.int .i64 l[j].frame, .int .i64 l[j].off, .int .i64 l[j].len] := fun i v hi => by
  have hi3 : i < 3 := (List.getElem?_eq_some_iff.1 hi).1
  have hfl := flatP_length l
  obtain ⟨b', o', e, _, hc⟩ := h.cell (j := i) (by rw [List.length_drop]; omega)
  cases e
  rw [hc, ← List.getElem?_eq_getElem, List.getElem?_drop, flatP_at l hlt hi3]
  exact hi

theorem wp_load_mid_d {P : Program} {op : Oper} {a : Act} {w : World} {K : Act → World → Prop} {Q : Exit → Act → World → Prop} {d : Option Tmp} (hd0 : op.dst = d) (ty : TypeId) (x : Operand) (ho : op.op = .load ty x)
    (b o : Nat) (hx : a.eval x = .pointer (some ⟨b, o, none⟩)) (cs : List Value) (dd : TypeDesc) (hc : w.rangeAt b o cs)
    (hu : P.underlying ty = some dd) (hd : dd.isRow = true) (hi : (P.info? ty).map (·.size) = some cs.length)
    (h : K (a.put d (.agg cs.toArray)) w) : op.wp P a w K Q := by
  subst hd0
  exact wp_load_mid ty x ho b o hx cs dd hc hu hd hi h

/-- What Ack leaves. -/
def AckIs (w : World) (F : Nat → Prop) (g st : Nat) (l : List Pc) (k : Nat) (e : Ending) (w' : World) : Prop :=
  ∃ A' c', e = .returned (.tuple #[.slice A' (gone l k) c', .int .i64 0]) ∧ RowG w' 1 A' (gone l k) c' (frsV (l.take (gone l k))) ∧ (∀ a, A' = some a → w.heap.size ≤ a.block) ∧ LineAt w' F g (ackR l k) (st + k) ∧ Chg w w' F
theorem ack_fin {w w' : World} {F : Nat → Prop} {g st : Nat} {l : List Pc} (h : LineAt w F g l st) (k j : Nat) (hk : k ≤ total l) (hs : st + k ≤ 1000000000) (hg : gone l k = j) {Af : Option Addr} {cf : Nat} {w2 : World} (b2 : Below w.heap.size w w2) (hf : RowG w2 1 Af j cf (frsV (l.take j))) (hn : ∀ a, Af = some a → w.heap.size ≤ a.block)
    (k2 : Chg w2 w' F) {A3 : Option Addr} {m c3 : Nat} (hd : Blk w' g 62 #[.slice A3 m c3, .int .i64 ((st + k : Nat) : Int)]) (rv : RowV w' 59 3 A3 m c3 (flatP (ackR l k))) (hin : ∀ i, inR A3 i → i ≠ g ∧ F i) (hm : (ackR l k).length = m) :
    AckIs w F g st l k (.returned (.tuple #[.slice Af j cf, .int .i64 0])) w' := by
  subst hg hm
  have e1 := ackR_length l k
  have fl : ∀ i, F i → i < w.heap.size := h.lt
  exact ⟨Af, cf, rfl, hf.chg k2 (fun a ha hh => by have := hn a ha; have := fl _ hh; omega), hn,
    ⟨⟨A3, c3, hd, rv, hin⟩, h.fg, fun i hi => Nat.lt_of_lt_of_le (fl i hi) (Nat.le_trans b2.size k2.size), ackR_ok l k h.ok, by have := h.n160; omega, hs⟩, (Chg.of_new b2 F).trans k2⟩

set_option maxRecDepth 100000 in
set_option maxHeartbeats 4000000 in
theorem ack_ok {w : World} {F : Nat → Prop} {g st : Nat} {l : List Pc} (h : LineAt w F g l st) (tt : Int) (k : Nat) (hto : tt = (st : Int) + (k : Int)) (hk : k ≤ total l) (hs : st + k ≤ 1000000000) :
    Calls Try.prog 13 #[.pointer (some ⟨g, 0, none⟩), .int .i64 tt] w (AckIs w F g st l k) := by
  obtain ⟨A0, c0, h1, h2, h3⟩ := h.ex
  have H := Lib.hid h
  have hc1 := (h1.cell 1).trans (show _ = some (.int .i64 (st : Int)) from rfl)
  have EN := Lib.hid (end_any h)
  have IR := Lib.hid h3
  have HD0 := Lib.hid h1
  have RV0 := Lib.hid h2
  have g1 : ¬ tt < (st : Int) := by omega
  have g2 : ¬ tt > (st : Int) + (total l : Int) := by omega
  have x0 : IntKind.i64.wrap (tt - (st : Int)) = (k : Int) := by have := IntWalk.i64_in (tt - (st : Int)) (by omega); omega
  have ET := Lib.hid (show tt = ((st + k : Nat) : Int) by omega)
  have tl := total_ok h.ok h.n160
  have n160 := h.n160
  have hle0 := h2.le
  clear h h1 h2 h3 hto
  go_enter Try.func13, Try.ntmps13
  go_wp2_with fail
  refine EN.out.mono ?_; rintro e w1 ⟨rfl, b1⟩
  rw [Int.natCast_add]
  have B1 := Lib.hid b1
  have L1 := Lib.hid (HD0.out.older (older_below b1))
  have hc1 := (L1.out.cell 1).trans (show _ = some (.int .i64 (st : Int)) from rfl)
  clear b1 EN
  go_upto_region 5 with fail
  go_quiet (fail)
  go_wp2
  have BW := Lib.hid (below_drewN B1.out nq)
  generalize w1.drewN nq = W1 at *
  clear hc1 L1 B1
  go_loopw [6, 7] (fun n i wr => ∃ (j r : Nat), j ≤ l.length ∧ n = .int .i64 (j : Int) ∧ i = .int .i64 (r : Int) ∧ Hid (total (l.take j) + r = k) ∧ Hid (Below w.heap.size w wr)) (fun n _ _ => l.length - (intOf n).toNat)
  case atStart => exact ⟨0, k, Nat.zero_le _, rfl, rfl, Lib.hid (by simp [total]), BW⟩
  case round =>
    obtain ⟨j, r, hj, rfl, rfl, SUM, HB⟩ := hrel
    clear BW
    have LR := Lib.hid (HD0.out.older (older_below HB.out))
    have hc0 := (LR.out.cell 0).trans (show _ = some (.slice A0 l.length c0) from rfl)
    have hr : r ≤ 40960 := by have := SUM.out; omega
    clear LR
    by_cases hlt : j < l.length
    · have hlt' : (j : Int) < (l.length : Int) := by omega
      have j0 : (0 : Int) ≤ (j : Int) := by omega
      have okj := H.out.ok _ (List.getElem_mem hlt)
      obtain ⟨o1, o2, o3, o4, o5, o6, o7, o8⟩ := okj
      obtain ⟨b, o, eA, hbl, _, _, lc⟩ := (pcs_of_G (RV0.out.toG.new HB.out)).cells hlt
      obtain ⟨n, hn⟩ : ∃ n : Nat, l[j].len = (n : Int) := ⟨l[j].len.toNat, by omega⟩
      have HN := Lib.hid hn
      rw [hn] at lc
      by_cases hle : n ≤ r
      · have hle' : (n : Int) ≤ (r : Int) := by omega
        have xj := IntWalk.i64_in ((j : Int) + 1) (by omega)
        have xr : IntKind.i64.wrap ((r : Int) - (n : Int)) = ((r - n : Nat) : Int) := by have := IntWalk.i64_in ((r : Int) - (n : Int)) (by omega); omega
        have SUM2 := Lib.hid (show total (l.take (j + 1)) + (r - n) = k by rw [total_take_succ hlt, HN.out, Int.toNat_natCast]; have := SUM.out; omega)
        generalize r - n = r2 at *
        clear o1 o2 o3 o4 o5 o6 o7 o8 SUM HN hn
        rw [eA] at hc0
        clear eA
        go_wp2
        go_roundw
        case rel => exact ⟨j + 1, r2, by omega, by simp, rfl, SUM2, HB⟩
        case measure => simp [intOf]; omega
      · have hle' : ¬ (n : Int) ≤ (r : Int) := by omega
        have GN := Lib.hid (gone_eq l k j hj (by have := SUM.out; omega) (fun h => by rw [HN.out]; have := SUM.out; omega))
        have AK := Lib.hid (ackR_eq l k j hj (by have := SUM.out; omega) (fun h => by rw [HN.out]; have := SUM.out; omega))
        rw [dif_pos hlt, show k - total (l.take j) = r by have := SUM.out; omega] at AK
        rw [eA] at hc0
        by_cases hr0 : r = 0
        · subst hr0
          rw [if_pos rfl] at AK
          have z0 : ¬ ((0 : Nat) : Int) > 0 := by omega
          clear o1 o2 o3 o4 o5 o6 o7 o8 SUM
          subst eA
          have TL := Lib.hid (show (l.take j).length = j by rw [List.length_take]; omega)
          have FR := Lib.hid (framesOf_any (some ⟨b, o, none⟩) c0 (l.take j) wr (front_G (RV0.out.toG.new HB.out) hj) (by rw [TL.out]; omega))
          rw [TL.out] at FR
          obtain ⟨su, A3, sd, hA3⟩ := run_slices (A := (some ⟨b, o, none⟩)) hj hle0
          have RV3 := Lib.hid (RV0.out.drop (k := j) hj)
          rw [← hA3] at RV3
          have IN3 := Lib.hid (show ∀ i, inR A3 i → i ≠ g ∧ F i from fun i ⟨a, ha, e⟩ => by rw [e]; exact IR.out _ (drop_block (hA3.symm.trans ha)))
          obtain ⟨m, hm⟩ : ∃ m, l.length - j = m := ⟨_, rfl⟩
          obtain ⟨c3, hc3⟩ : ∃ c3, c0 - j = c3 := ⟨_, rfl⟩
          rw [hm, hc3] at RV3
          rw [hm, hc3] at sd
          have EM := Lib.hid hm
          clear hm hc3 hA3
          go_wp2_with fail
          refine FR.out.mono ?_; rintro e w2 ⟨Af, cf, rfl, f1, f2, b2⟩
          have B2 := Lib.hid (HB.out.trans (b2.mono HB.out.size))
          have FG := Lib.hid f1
          have FN := Lib.hid (show ∀ a, Af = some a → w.heap.size ≤ a.block from fun a ha => Nat.le_trans HB.out.size (f2 a ha))
          have HD2 := Lib.hid (HD0.out.older (older_below B2.out))
          have RV2 := Lib.hid (RV3.out.new B2.out)
          have hc0 := (HD2.out.cell 0).trans (show _ = some (.slice (some ⟨b, o, none⟩) l.length c0) from rfl)
          have fz := HD2.out.frozen 0
          clear f1 f2 b2 FR su TL
          have HD3 := Lib.hid (HD2.out.put 0 (.slice A3 m c3))
          have K3 := Lib.hid (Chg.set w2 (S := F) 0 (.slice A3 m c3) H.out.fg)
          have RV4 := Lib.hid (RV2.out.chg (Chg.set w2 (S := fun i => i = g) 0 (.slice A3 m c3) rfl) (fun a ha hh => (IN3.out _ ⟨a, ha, rfl⟩).1 hh))
          clear RV2 HD2
          go_upto_region 11 with fail
          generalize w2.setCell ⟨g, 0, none⟩ (.slice A3 m c3) = w3 at *
          clear hc0 fz
          have fz := HD3.out.frozen 1
          have hc1 := (HD3.out.cell 1).trans (show _ = some (.int .i64 (st : Int)) from rfl)
          have HD4 := Lib.hid (HD3.out.put 1 (.int .i64 tt))
          have K4 := Lib.hid (K3.out.trans (Chg.set w3 (S := F) 1 (.int .i64 tt) H.out.fg))
          have RV5 := Lib.hid (RV4.out.chg (Chg.set w3 (S := fun i => i = g) 1 (.int .i64 tt) rfl) (fun a ha hh => (IN3.out _ ⟨a, ha, rfl⟩).1 hh))
          clear HD3 K3 RV4
          have FIN := Lib.hid (fun (e1 : flatP (ackR l k) = (flatP l).drop (j * 3)) (hml : (ackR l k).length = m) => (ack_fin H.out k j hk hs GN.out B2.out FG.out FN.out K4.out (hd := by rw [← ET.out]; exact HD4.out) (rv := by rw [e1]; exact RV5.out) IN3.out hml : AckIs w F g st l k (.returned (.tuple #[.slice Af j cf, .int .i64 0])) (w3.setCell ⟨g, 1, none⟩ (.int .i64 tt))))
          go_wp2
          go_ret2
          exact FIN.out (by rw [AK.out, flatP_drop]) (by rw [AK.out, List.length_drop]; exact EM.out)
        · have z0 : (r : Int) > 0 := by omega
          rw [if_neg hr0] at AK
          clear o1 o2 o3 o4 o5 o6 o7 o8 SUM
          subst eA
          have TL := Lib.hid (show (l.take j).length = j by rw [List.length_take]; omega)
          have FR := Lib.hid (framesOf_any (some ⟨b, o, none⟩) c0 (l.take j) wr (front_G (RV0.out.toG.new HB.out) hj) (by rw [TL.out]; omega))
          rw [TL.out] at FR
          obtain ⟨su, A3, sd, hA3⟩ := run_slices (A := (some ⟨b, o, none⟩)) hj hle0
          have RV3 := Lib.hid (RV0.out.drop (k := j) hj)
          rw [← hA3] at RV3
          have IN3 := Lib.hid (show ∀ i, inR A3 i → i ≠ g ∧ F i from fun i ⟨a, ha, e⟩ => by rw [e]; exact IR.out _ (drop_block (hA3.symm.trans ha)))
          obtain ⟨m, hm⟩ : ∃ m, l.length - j = m := ⟨_, rfl⟩
          obtain ⟨c3, hc3⟩ : ∃ c3, c0 - j = c3 := ⟨_, rfl⟩
          rw [hm, hc3] at RV3
          rw [hm, hc3] at sd
          have EM := Lib.hid hm
          clear hm hc3 hA3
          go_wp2_with fail
          refine FR.out.mono ?_; rintro e w2 ⟨Af, cf, rfl, f1, f2, b2⟩
          have B2 := Lib.hid (HB.out.trans (b2.mono HB.out.size))
          have FG := Lib.hid f1
          have FN := Lib.hid (show ∀ a, Af = some a → w.heap.size ≤ a.block from fun a ha => Nat.le_trans HB.out.size (f2 a ha))
          have HD2 := Lib.hid (HD0.out.older (older_below B2.out))
          have RV2 := Lib.hid (RV3.out.new B2.out)
          have hc0 := (HD2.out.cell 0).trans (show _ = some (.slice (some ⟨b, o, none⟩) l.length c0) from rfl)
          have fz := HD2.out.frozen 0
          clear f1 f2 b2 FR su TL
          have HD3 := Lib.hid (HD2.out.put 0 (.slice A3 m c3))
          have K3 := Lib.hid (Chg.set w2 (S := F) 0 (.slice A3 m c3) H.out.fg)
          have RV4 := Lib.hid (RV2.out.chg (Chg.set w2 (S := fun i => i = g) 0 (.slice A3 m c3) rfl) (fun a ha hh => (IN3.out _ ⟨a, ha, rfl⟩).1 hh))
          clear RV2 HD2
          go_upto_region 11 with fail
          generalize w2.setCell ⟨g, 0, none⟩ (.slice A3 m c3) = w3 at *
          clear hc0 fz
          have fz := HD3.out.frozen 1
          have hc1 := (HD3.out.cell 1).trans (show _ = some (.int .i64 (st : Int)) from rfl)
          have hg3 := HD3.out.lt
          have hc0 := (HD3.out.cell 0).trans (show _ = some (.slice A3 m c3) from rfl)
          have hm0 : 0 < m := by have := EM.out; omega
          obtain ⟨b3, o3, rfl, hb3, -⟩ := RV4.out.cell (j := 0) (by rw [RV4.out.len]; omega)
          have LD3 := Lib.hid (show w3.rangeAt b3 o3 [.int .i64 l[j].frame, .int .i64 l[j].off, .int .i64 l[j].len] from first_range hlt RV4.out)
          have WO := Lib.hid (fun W => without_any l[j] r (H.out.ok _ (List.getElem_mem hlt)) (by omega) W)
          obtain ⟨pl, hpl⟩ : ∃ pl, less l[j] r = pl := ⟨_, rfl⟩
          rw [hpl] at WO AK
          clear hpl HN hn
          generalize l[j] = ql at *
          obtain ⟨qf, qo, qn⟩ := ql
          obtain ⟨pf, po, pn⟩ := pl
          dsimp only at LD3 WO
          have hm1 : (0 : Int) < (m : Int) := by omega
          go_upto_region 12 with fail
          have hH := (Lib.hid (below_drewN (Below.refl w3.heap.size w3) 1) : Hid (Below w3.heap.size w3 w3.drew))
          refine wp_head_held (S := fun w' => Hid (Below w3.heap.size w3 w')) 13 (by kernel_rfl) rfl rfl (by kernel_rfl) ?_
          simp only [List.take_succ_cons, List.take_zero, List.drop_succ_cons, List.drop_zero]
          refine held_take (i := 0) (d := (some 78)) (v := ?_) rfl rfl (by kernel_rfl) (by kernel_rfl) (by kernel_rfl) (fun _ _ _ h => h) (by rfl) ?_ hH ?_
          rotate_left
          · intro w' hSw; (try dsimp only at hSw); go_simp <;> with_reducible rfl
          simp only [Act.put, List.setIfInBounds_toArray, List.set_cons_zero, List.set_cons_succ]
          refine held_take (i := 1) (d := (some 79)) (v := ?_) rfl rfl (by kernel_rfl) (by kernel_rfl) (by kernel_rfl) (fun _ _ _ h => h) (by rfl) ?_ hH ?_
          rotate_left
          · intro w' hSw; (try dsimp only at hSw); go_simp <;> with_reducible rfl
          simp only [Act.put, List.setIfInBounds_toArray, List.set_cons_zero, List.set_cons_succ]
          refine held_take (i := 2) (d := (some 80)) (v := ?_) rfl rfl (by kernel_rfl) (by kernel_rfl) (by kernel_rfl) (fun _ _ _ h => h) (by rfl) ?_ hH ?_
          rotate_left
          · intro w' hSw; (try dsimp only at hSw); go_simp <;> with_reducible rfl
          simp only [Act.put, List.setIfInBounds_toArray, List.set_cons_zero, List.set_cons_succ]
          refine held_take (i := 3) (d := (some 81)) (v := ?_) rfl rfl (by kernel_rfl) (by kernel_rfl) (by kernel_rfl) (fun _ _ _ h => h) (by rfl) ?_ hH ?_
          rotate_left
          · intro w' hSw; have z := (World.cell?_of_block (w := w3) (w' := w') (hSw.out.block _ hg3)).trans hc0; clear hSw; go_simp <;> with_reducible rfl
          simp only [Act.put, List.setIfInBounds_toArray, List.set_cons_zero, List.set_cons_succ]
          refine held_take (i := 4) (d := (some 82)) (v := ?_) rfl rfl (by kernel_rfl) (by kernel_rfl) (by kernel_rfl) (fun _ _ _ h => h) (by rfl) ?_ hH ?_
          rotate_left
          · intro w' hSw; (try dsimp only at hSw); go_simp <;> with_reducible rfl
          simp only [Act.put, List.setIfInBounds_toArray, List.set_cons_zero, List.set_cons_succ]
          refine held_take (i := 5) (d := (some 83)) (v := ?_) rfl rfl (by kernel_rfl) (by kernel_rfl) (by kernel_rfl) (fun _ _ _ h => h) (by rfl) ?_ hH ?_
          rotate_left
          · intro w' hSw; (try dsimp only at hSw); go_simp <;> with_reducible rfl
          simp only [Act.put, List.setIfInBounds_toArray, List.set_cons_zero, List.set_cons_succ]
          refine held_take (i := 6) (d := (some 84)) (v := ?_) rfl rfl (by kernel_rfl) (by kernel_rfl) (by kernel_rfl) (fun _ _ _ h => h) (by rfl) ?_ hH ?_
          rotate_left
          · intro w' hSw; (try dsimp only at hSw); go_simp <;> with_reducible rfl
          simp only [Act.put, List.setIfInBounds_toArray, List.set_cons_zero, List.set_cons_succ]
          refine held_take (i := 7) (d := (some 85)) (v := ?_) rfl rfl (by kernel_rfl) (by kernel_rfl) (by kernel_rfl) (fun _ _ _ h => h) (by rfl) ?_ hH ?_
          rotate_left
          · intro w' hSw; have z := (World.cell?_of_block (w := w3) (w' := w') (hSw.out.block _ hg3)).trans hc0; clear hSw; go_simp <;> with_reducible rfl
          simp only [Act.put, List.setIfInBounds_toArray, List.set_cons_zero, List.set_cons_succ]
          refine held_take (i := 8) (d := (some 86)) (v := ?_) rfl rfl (by kernel_rfl) (by kernel_rfl) (by kernel_rfl) (fun _ _ _ h => h) (by rfl) ?_ hH ?_
          rotate_left
          · intro w' hSw; (try dsimp only at hSw); go_simp <;> with_reducible rfl
          simp only [Act.put, List.setIfInBounds_toArray, List.set_cons_zero, List.set_cons_succ]
          refine held_take (i := 10) (d := (some 88)) (v := ?_) rfl rfl (by kernel_rfl) (by kernel_rfl) (by kernel_rfl) (fun _ _ _ h => h) (by rfl) ?_ hH ?_
          rotate_left
          · intro w' hSw; (try dsimp only at hSw); go_simp <;> with_reducible rfl
          simp only [Act.put, List.setIfInBounds_toArray, List.set_cons_zero, List.set_cons_succ]
          refine held_one (i := 9) (by kernel_rfl) rfl (by rfl) ?_
          refine wp_load_mid_d (d := some 87) rfl 59 (.tmp 86) rfl b3 o3 rfl [.int .i64 qf, .int .i64 qo, .int .i64 qn] _ (rangeAt_same hH.out LD3.out hb3) Try.underlying59 rfl piece_info ?_
          refine ⟨hH, ?_⟩
          (try simp only [Act.put, List.setIfInBounds_toArray, List.set_cons_zero, List.set_cons_succ])
          refine held_one (i := 11) (by kernel_rfl) rfl (by rfl) ?_
          go_simp
          refine (WO.out _).mono ?_; rintro e wq ⟨rfl, hb⟩
          have hH : Hid (Below w3.heap.size w3 wq) := Lib.hid (hH.out.trans (hb.mono hH.out.size))
          clear hb
          refine ⟨hH, ?_⟩
          (try simp only [Act.put, List.setIfInBounds_toArray, List.set_cons_zero, List.set_cons_succ])
          refine held_take (i := 12) (d := (some 90)) (v := ?_) rfl rfl (by kernel_rfl) (by kernel_rfl) (by kernel_rfl) (fun _ _ _ h => h) (by rfl) ?_ hH ?_
          rotate_left
          · intro w' hSw; (try dsimp only at hSw); go_simp <;> with_reducible rfl
          simp only [Act.put, List.setIfInBounds_toArray, List.set_cons_zero, List.set_cons_succ]
          refine wpAnyH_done (by kernel_rfl) ?_ _
          show wpList _ _ _ _ _ _
          obtain ⟨cs5, hb5, hos5, rv5⟩ := (RV4.out.new hH.out).setRow [.int .i64 pf, .int .i64 po, .int .i64 pn] (by rw [RV4.out.len]; show 3 ≤ m * 3; omega)
          have hbg : b3 ≠ g := (IN3.out b3 ⟨_, rfl, rfl⟩).1
          have HD5 := Lib.hid (Blk.setRow_far (HD3.out.older (older_below hH.out)) hbg.symm (cs5.toList.take o3 ++ ([Value.int .i64 pf, Value.int .i64 po, Value.int .i64 pn] : List Value) ++ cs5.toList.drop (o3 + ([Value.int .i64 pf, Value.int .i64 po, Value.int .i64 pn] : List Value).length)).toArray)
          have K5 := Lib.hid ((K3.out.trans (Chg.of_new hH.out F)).trans (Chg.setRow wq (g := b3) (S := F) (cs5.toList.take o3 ++ ([Value.int .i64 pf, Value.int .i64 po, Value.int .i64 pn] : List Value) ++ cs5.toList.drop (o3 + ([Value.int .i64 pf, Value.int .i64 po, Value.int .i64 pn] : List Value).length)).toArray (IN3.out b3 ⟨_, rfl, rfl⟩).2))
          have HB5 := Lib.hid hb5
          have HO5 := Lib.hid hos5
          have RV5 := Lib.hid rv5
          obtain ⟨w5, hw5⟩ : ∃ w5, w5 = wq.setRow b3 (cs5.toList.take o3 ++ ([Value.int .i64 pf, Value.int .i64 po, Value.int .i64 pn] : List Value) ++ cs5.toList.drop (o3 + ([Value.int .i64 pf, Value.int .i64 po, Value.int .i64 pn] : List Value).length)).toArray := ⟨_, rfl⟩
          rw [← hw5] at HD5 K5 RV5
          have HW5 := Lib.hid hw5
          clear hb5 hos5 rv5 hw5 HD3 K3 RV4 hH hc0 hc1 fz
          have fz := HD5.out.frozen 1
          have hc1 := (HD5.out.cell 1).trans (show _ = some (.int .i64 (st : Int)) from rfl)
          go_upto_region 13 with (first
            | (refine wpList_store_at rfl 59 (.tmp 90) (.tmp 89) rfl b3 o3 #[.int .i64 pf, .int .i64 po, .int .i64 pn] rfl rfl 59 cs5 HB5.out piece_info HO5.out (by simp [Value.oneCell']) ?_; refine HW5.out ▸ ?_)
            | fail)
          have HD4 := Lib.hid (HD5.out.put 1 (.int .i64 tt))
          have K4 := Lib.hid (K5.out.trans (Chg.set w5 (S := F) 1 (.int .i64 tt) H.out.fg))
          have RV6 := Lib.hid (RV5.out.chg (Chg.set w5 (S := fun i => i = g) 1 (.int .i64 tt) rfl) (fun a ha hh => (IN3.out _ ⟨a, ha, rfl⟩).1 hh))
          clear HD5 K5 RV5
          have FIN := Lib.hid (fun (e1 : flatP (ackR l k) = [.int .i64 pf, .int .i64 po, .int .i64 pn] ++ ((flatP l).drop (j * 3)).drop 3) (hml : (ackR l k).length = m) => (ack_fin H.out k j hk hs GN.out B2.out FG.out FN.out K4.out (hd := by rw [← ET.out]; exact HD4.out) (rv := by rw [e1]; exact RV6.out) IN3.out hml : AckIs w F g st l k (.returned (.tuple #[.slice Af j cf, .int .i64 0])) (w5.setCell ⟨g, 1, none⟩ (.int .i64 tt))))
          go_wp2
          go_ret2
          exact FIN.out (by rw [AK.out, List.drop_drop, ← Nat.succ_mul, ← flatP_drop]; rfl) (by rw [AK.out]; have := EM.out; simp; omega)
    · have hge : ¬ (j : Int) < (l.length : Int) := by omega
      obtain rfl : j = l.length := by omega
      have S0 := SUM.out
      rw [List.take_length] at S0
      obtain rfl : r = 0 := by omega
      have GN := Lib.hid (gone_eq l k l.length hj (by rw [List.take_length]; omega) (fun h => absurd h hlt))
      have AK := Lib.hid (ackR_eq l k l.length hj (by rw [List.take_length]; omega) (fun h => absurd h hlt))
      rw [dif_neg hlt] at AK
      have z0 : ¬ ((0 : Nat) : Int) > 0 := by omega
      clear S0 SUM hlt
      have TL := Lib.hid (show (l.take l.length).length = l.length by rw [List.length_take]; omega)
      have FR := Lib.hid (framesOf_any A0 c0 (l.take l.length) wr (front_G (RV0.out.toG.new HB.out) hj) (by rw [TL.out]; omega))
      rw [TL.out] at FR
      obtain ⟨su, A3, sd, hA3⟩ := run_slices (A := A0) hj hle0
      have RV3 := Lib.hid (RV0.out.drop (k := l.length) hj)
      rw [← hA3] at RV3
      have IN3 := Lib.hid (show ∀ i, inR A3 i → i ≠ g ∧ F i from fun i ⟨a, ha, e⟩ => by rw [e]; exact IR.out _ (drop_block (hA3.symm.trans ha)))
      obtain ⟨m, hm⟩ : ∃ m, l.length - l.length = m := ⟨_, rfl⟩
      obtain ⟨c3, hc3⟩ : ∃ c3, c0 - l.length = c3 := ⟨_, rfl⟩
      rw [hm, hc3] at RV3
      rw [hm, hc3] at sd
      have EM := Lib.hid hm
      clear hm hc3 hA3
      go_wp2_with fail
      refine FR.out.mono ?_; rintro e w2 ⟨Af, cf, rfl, f1, f2, b2⟩
      have B2 := Lib.hid (HB.out.trans (b2.mono HB.out.size))
      have FG := Lib.hid f1
      have FN := Lib.hid (show ∀ a, Af = some a → w.heap.size ≤ a.block from fun a ha => Nat.le_trans HB.out.size (f2 a ha))
      have HD2 := Lib.hid (HD0.out.older (older_below B2.out))
      have RV2 := Lib.hid (RV3.out.new B2.out)
      have hc0 := (HD2.out.cell 0).trans (show _ = some (.slice A0 l.length c0) from rfl)
      have fz := HD2.out.frozen 0
      clear f1 f2 b2 FR su TL
      have HD3 := Lib.hid (HD2.out.put 0 (.slice A3 m c3))
      have K3 := Lib.hid (Chg.set w2 (S := F) 0 (.slice A3 m c3) H.out.fg)
      have RV4 := Lib.hid (RV2.out.chg (Chg.set w2 (S := fun i => i = g) 0 (.slice A3 m c3) rfl) (fun a ha hh => (IN3.out _ ⟨a, ha, rfl⟩).1 hh))
      clear RV2 HD2
      go_upto_region 11 with fail
      generalize w2.setCell ⟨g, 0, none⟩ (.slice A3 m c3) = w3 at *
      clear hc0 fz
      have fz := HD3.out.frozen 1
      have hc1 := (HD3.out.cell 1).trans (show _ = some (.int .i64 (st : Int)) from rfl)
      have HD4 := Lib.hid (HD3.out.put 1 (.int .i64 tt))
      have K4 := Lib.hid (K3.out.trans (Chg.set w3 (S := F) 1 (.int .i64 tt) H.out.fg))
      have RV5 := Lib.hid (RV4.out.chg (Chg.set w3 (S := fun i => i = g) 1 (.int .i64 tt) rfl) (fun a ha hh => (IN3.out _ ⟨a, ha, rfl⟩).1 hh))
      clear HD3 K3 RV4
      have FIN := Lib.hid (fun (e1 : flatP (ackR l k) = (flatP l).drop (l.length * 3)) (hml : (ackR l k).length = m) => (ack_fin H.out k l.length hk hs GN.out B2.out FG.out FN.out K4.out (hd := by rw [← ET.out]; exact HD4.out) (rv := by rw [e1]; exact RV5.out) IN3.out hml : AckIs w F g st l k (.returned (.tuple #[.slice Af l.length cf, .int .i64 0])) (w3.setCell ⟨g, 1, none⟩ (.int .i64 tt))))
      go_wp2
      go_ret2
      exact FIN.out (by rw [AK.out, List.drop_of_length_le (by rw [flatP_length]; omega)]; rfl) (by rw [AK.out]; have := EM.out; simp; omega)

theorem cut_ok {w : World} {F : Nat → Prop} {g st : Nat} {l : List Pc} (h : LineAt w F g l st) (a : Int) (k m : Nat) (ha : a = (st : Int) + (k : Int)) (hk : k + m ≤ total l) :
    Calls Try.prog 16 #[.pointer (some ⟨g, 0, none⟩), .int .i64 a, .int .i64 (m : Int)] w fun e w' => (∃ A' c', e = .returned (.tuple #[.slice A' (cutL l k m).length c', .int .i64 0]) ∧ Pcs w' A' (cutL l k m)) ∧ Below w.heap.size w w' := by
  obtain ⟨A0, c0, h1, h2, h3⟩ := h.ex
  have hc0 := (h1.cell 0).trans (show _ = some (.slice A0 l.length c0) from rfl)
  have hc1 := (h1.cell 1).trans (show _ = some (.int .i64 (st : Int)) from rfl)
  have hg := h1.lt
  have tl := total_ok h.ok h.n160
  have hs := h.small
  have n160 := h.n160
  have CU := Lib.hid (fun W (b : Below w.heap.size w W) => (cut_any A0 c0 l (k : Int) (m : Int) W (pcs_of_G (h2.toG.new b)) (fun p hp => ok_Ok (h.ok p hp)) (by omega) (by omega) (by omega)).mono (R' := fun e w' => (∃ A' c', e = .returned (.tuple #[.slice A' (cutL l k m).length c', .int .i64 0]) ∧ Pcs w' A' (cutL l k m)) ∧ Below W.heap.size W w') (by
    rintro e w' ⟨h1 | h1, b⟩
    · obtain ⟨_, A', c', e1, e2⟩ := h1
      exact ⟨⟨A', c', e1, e2⟩, b⟩
    · exact absurd (show cutOk l (k : Int) (m : Int) from ⟨fun p hp => ok_Good (h.ok p hp), by omega, by omega, by rw [sizeR_ok h.ok h.n160]; omega⟩) h1.1))
  have g1 : ¬ a < (st : Int) := by omega
  have x0 : IntKind.i64.wrap (a - (st : Int)) = (k : Int) := by have := IntWalk.i64_in (a - (st : Int)) (by omega); omega
  generalize cutL l k m = L at *
  clear h h1 h2 h3 ha tl hs
  go_enter Try.func16, Try.ntmps16
  go_upto_region 5 with fail
  refine wp_region_held_drew (S := fun w' => Hid (Below w.heap.size w w')) (by kernel_rfl) ((Lib.hid (below_drewN (Below.refl w.heap.size w) 1) : Hid (Below w.heap.size w w.drew))) (fun hH => ?_)
  refine held_take (i := 0) (d := (some 16)) (v := ?_) rfl rfl (by kernel_rfl) (by kernel_rfl) (by kernel_rfl) (fun _ _ _ h => h) (by rfl) ?_ hH ?_
  rotate_left
  · intro w' hSw; (try dsimp only at hSw); go_simp <;> with_reducible rfl
  simp only [Act.put, List.setIfInBounds_toArray, List.set_cons_zero, List.set_cons_succ]
  refine held_take (i := 1) (d := (some 17)) (v := ?_) rfl rfl (by kernel_rfl) (by kernel_rfl) (by kernel_rfl) (fun _ _ _ h => h) (by rfl) ?_ hH ?_
  rotate_left
  · intro w' hSw; (try dsimp only at hSw); go_simp <;> with_reducible rfl
  simp only [Act.put, List.setIfInBounds_toArray, List.set_cons_zero, List.set_cons_succ]
  refine held_take (i := 2) (d := (some 18)) (v := ?_) rfl rfl (by kernel_rfl) (by kernel_rfl) (by kernel_rfl) (fun _ _ _ h => h) (by rfl) ?_ hH ?_
  rotate_left
  · intro w' hSw; (try dsimp only at hSw); go_simp <;> with_reducible rfl
  simp only [Act.put, List.setIfInBounds_toArray, List.set_cons_zero, List.set_cons_succ]
  refine held_take (i := 3) (d := (some 19)) (v := ?_) rfl rfl (by kernel_rfl) (by kernel_rfl) (by kernel_rfl) (fun _ _ _ h => h) (by rfl) ?_ hH ?_
  rotate_left
  · intro w' hSw; have z := (World.cell?_of_block (w := w) (w' := w') (hSw.out.block _ hg)).trans hc0; clear hSw; go_simp <;> with_reducible rfl
  simp only [Act.put, List.setIfInBounds_toArray, List.set_cons_zero, List.set_cons_succ]
  refine held_take (i := 4) (d := (some 20)) (v := ?_) rfl rfl (by kernel_rfl) (by kernel_rfl) (by kernel_rfl) (fun _ _ _ h => h) (by rfl) ?_ hH ?_
  rotate_left
  · intro w' hSw; (try dsimp only at hSw); go_simp <;> with_reducible rfl
  simp only [Act.put, List.setIfInBounds_toArray, List.set_cons_zero, List.set_cons_succ]
  refine held_take (i := 5) (d := (some 21)) (v := ?_) rfl rfl (by kernel_rfl) (by kernel_rfl) (by kernel_rfl) (fun _ _ _ h => h) (by rfl) ?_ hH ?_
  rotate_left
  · intro w' hSw; (try dsimp only at hSw); go_simp <;> with_reducible rfl
  simp only [Act.put, List.setIfInBounds_toArray, List.set_cons_zero, List.set_cons_succ]
  refine held_take (i := 6) (d := (some 22)) (v := ?_) rfl rfl (by kernel_rfl) (by kernel_rfl) (by kernel_rfl) (fun _ _ _ h => h) (by rfl) ?_ hH ?_
  rotate_left
  · intro w' hSw; (try dsimp only at hSw); go_simp <;> with_reducible rfl
  simp only [Act.put, List.setIfInBounds_toArray, List.set_cons_zero, List.set_cons_succ]
  refine held_take (i := 7) (d := (some 23)) (v := ?_) rfl rfl (by kernel_rfl) (by kernel_rfl) (by kernel_rfl) (fun _ _ _ h => h) (by rfl) ?_ hH ?_
  rotate_left
  · intro w' hSw; (try dsimp only at hSw); go_simp <;> with_reducible rfl
  simp only [Act.put, List.setIfInBounds_toArray, List.set_cons_zero, List.set_cons_succ]
  refine held_take (i := 8) (d := (some 24)) (v := ?_) rfl rfl (by kernel_rfl) (by kernel_rfl) (by kernel_rfl) (fun _ _ _ h => h) (by rfl) ?_ hH ?_
  rotate_left
  · intro w' hSw; have z := (World.cell?_of_block (w := w) (w' := w') (hSw.out.block _ hg)).trans hc1; clear hSw; go_simp <;> with_reducible rfl
  simp only [Act.put, List.setIfInBounds_toArray, List.set_cons_zero, List.set_cons_succ]
  refine held_take (i := 9) (d := (some 25)) (v := ?_) rfl rfl (by kernel_rfl) (by kernel_rfl) (by kernel_rfl) (fun _ _ _ h => h) (by rfl) ?_ hH ?_
  rotate_left
  · intro w' hSw; (try dsimp only at hSw); go_simp <;> with_reducible rfl
  simp only [Act.put, List.setIfInBounds_toArray, List.set_cons_zero, List.set_cons_succ]
  refine held_take (i := 10) (d := (some 26)) (v := ?_) rfl rfl (by kernel_rfl) (by kernel_rfl) (by kernel_rfl) (fun _ _ _ h => h) (by rfl) ?_ hH ?_
  rotate_left
  · intro w' hSw; (try dsimp only at hSw); go_simp <;> with_reducible rfl
  simp only [Act.put, List.setIfInBounds_toArray, List.set_cons_zero, List.set_cons_succ]
  refine held_one (i := 11) (by kernel_rfl) rfl (by rfl) ?_
  go_simp
  refine (CU.out _ hH.out).mono ?_; rintro e wq hq
  obtain ⟨⟨A', c', rfl, hp⟩, b⟩ := hq
  have HP := Lib.hid hp
  clear hp
  have hH : Hid (Below w.heap.size w wq) := Lib.hid (hH.out.trans (b.mono hH.out.size))
  clear b CU
  refine ⟨hH, ?_⟩
  (try simp only [Act.put, List.setIfInBounds_toArray, List.set_cons_zero, List.set_cons_succ])
  refine held_take (i := 12) (d := (some 28)) (v := ?_) rfl rfl (by kernel_rfl) (by kernel_rfl) (by kernel_rfl) (fun _ _ _ h => h) (by rfl) ?_ hH ?_
  rotate_left
  · intro w' hSw; (try dsimp only at hSw); go_simp <;> with_reducible rfl
  simp only [Act.put, List.setIfInBounds_toArray, List.set_cons_zero, List.set_cons_succ]
  refine held_take (i := 13) (d := (some 29)) (v := ?_) rfl rfl (by kernel_rfl) (by kernel_rfl) (by kernel_rfl) (fun _ _ _ h => h) (by rfl) ?_ hH ?_
  rotate_left
  · intro w' hSw; (try dsimp only at hSw); go_simp <;> with_reducible rfl
  simp only [Act.put, List.setIfInBounds_toArray, List.set_cons_zero, List.set_cons_succ]
  refine held_take (i := 14) (d := (some 6)) (v := ?_) rfl rfl (by kernel_rfl) (by kernel_rfl) (by kernel_rfl) (fun _ _ _ h => h) (by rfl) ?_ hH ?_
  rotate_left
  · intro w' hSw; (try dsimp only at hSw); go_simp <;> with_reducible rfl
  simp only [Act.put, List.setIfInBounds_toArray, List.set_cons_zero, List.set_cons_succ]
  refine held_take (i := 15) (d := (some 7)) (v := ?_) rfl rfl (by kernel_rfl) (by kernel_rfl) (by kernel_rfl) (fun _ _ _ h => h) (by rfl) ?_ hH ?_
  rotate_left
  · intro w' hSw; (try dsimp only at hSw); go_simp <;> with_reducible rfl
  simp only [Act.put, List.setIfInBounds_toArray, List.set_cons_zero, List.set_cons_succ]
  refine wpAnyH_done (by kernel_rfl) ?_ _
  have HP2 := Lib.hid HP.out
  clear HP
  go_wp2
  go_ret2
  exact ⟨⟨A', ⟨c', rfl⟩, HP2.out⟩, hH.out⟩
theorem cut_bad {w : World} {F : Nat → Prop} {g st : Nat} {l : List Pc} (h : LineAt w F g l st) (a n : Int) (ha : -9223372036854775808 ≤ a ∧ a ≤ 9223372036854775807) (hn : -9223372036854775808 ≤ n ∧ n ≤ 9223372036854775807) (hno : ¬ ((st : Int) ≤ a ∧ 0 ≤ n ∧ n ≤ (st : Int) + (total l : Int) - a)) :
    Calls Try.prog 16 #[.pointer (some ⟨g, 0, none⟩), .int .i64 a, .int .i64 n] w fun e w' => e = .returned (.tuple #[.slice none 0 0, .int .i64 1]) ∧ Below w.heap.size w w' := by
  obtain ⟨A0, c0, h1, h2, h3⟩ := h.ex
  have hc0 := (h1.cell 0).trans (show _ = some (.slice A0 l.length c0) from rfl)
  have hc1 := (h1.cell 1).trans (show _ = some (.int .i64 (st : Int)) from rfl)
  have hg := h1.lt
  have tl := total_ok h.ok h.n160
  have hs := h.small
  have n160 := h.n160
  have B0 := Lib.hid (Below.refl w.heap.size w)
  by_cases g1 : a < (st : Int)
  · clear h h1 h2 h3 tl hs hno
    go_enter Try.func16, Try.ntmps16
    go_wp2
    go_ret2
    exact ⟨rfl, B0.out⟩
  · have x0 : IntKind.i64.wrap (a - (st : Int)) = a - (st : Int) := IntWalk.i64_in _ (by omega)
    have CU := Lib.hid (fun W (b : Below w.heap.size w W) => (cut_any A0 c0 l (a - (st : Int)) n W (pcs_of_G (h2.toG.new b)) (fun p hp => ok_Ok (h.ok p hp)) (by omega) (by omega) hn).mono (R' := fun e w' => e = .returned (.tuple #[.slice none 0 0, .int .i64 1]) ∧ Below W.heap.size W w') (by
      rintro e w' ⟨h1 | h1, b⟩
      · have := h1.1.2.2.2
        rw [sizeR_ok h.ok h.n160] at this
        exact absurd (show (st : Int) ≤ a ∧ 0 ≤ n ∧ n ≤ (st : Int) + (total l : Int) - a from ⟨by omega, h1.1.2.2.1, by omega⟩) hno
      · exact ⟨h1.2, b⟩))
    clear h h1 h2 h3 tl hs hno B0
    go_enter Try.func16, Try.ntmps16
    go_upto_region 5 with fail
    refine wp_region_held_drew (S := fun w' => Hid (Below w.heap.size w w')) (by kernel_rfl) ((Lib.hid (below_drewN (Below.refl w.heap.size w) 1) : Hid (Below w.heap.size w w.drew))) (fun hH => ?_)
    refine held_take (i := 0) (d := (some 16)) (v := ?_) rfl rfl (by kernel_rfl) (by kernel_rfl) (by kernel_rfl) (fun _ _ _ h => h) (by rfl) ?_ hH ?_
    rotate_left
    · intro w' hSw; (try dsimp only at hSw); go_simp <;> with_reducible rfl
    simp only [Act.put, List.setIfInBounds_toArray, List.set_cons_zero, List.set_cons_succ]
    refine held_take (i := 1) (d := (some 17)) (v := ?_) rfl rfl (by kernel_rfl) (by kernel_rfl) (by kernel_rfl) (fun _ _ _ h => h) (by rfl) ?_ hH ?_
    rotate_left
    · intro w' hSw; (try dsimp only at hSw); go_simp <;> with_reducible rfl
    simp only [Act.put, List.setIfInBounds_toArray, List.set_cons_zero, List.set_cons_succ]
    refine held_take (i := 2) (d := (some 18)) (v := ?_) rfl rfl (by kernel_rfl) (by kernel_rfl) (by kernel_rfl) (fun _ _ _ h => h) (by rfl) ?_ hH ?_
    rotate_left
    · intro w' hSw; (try dsimp only at hSw); go_simp <;> with_reducible rfl
    simp only [Act.put, List.setIfInBounds_toArray, List.set_cons_zero, List.set_cons_succ]
    refine held_take (i := 3) (d := (some 19)) (v := ?_) rfl rfl (by kernel_rfl) (by kernel_rfl) (by kernel_rfl) (fun _ _ _ h => h) (by rfl) ?_ hH ?_
    rotate_left
    · intro w' hSw; have z := (World.cell?_of_block (w := w) (w' := w') (hSw.out.block _ hg)).trans hc0; clear hSw; go_simp <;> with_reducible rfl
    simp only [Act.put, List.setIfInBounds_toArray, List.set_cons_zero, List.set_cons_succ]
    refine held_take (i := 4) (d := (some 20)) (v := ?_) rfl rfl (by kernel_rfl) (by kernel_rfl) (by kernel_rfl) (fun _ _ _ h => h) (by rfl) ?_ hH ?_
    rotate_left
    · intro w' hSw; (try dsimp only at hSw); go_simp <;> with_reducible rfl
    simp only [Act.put, List.setIfInBounds_toArray, List.set_cons_zero, List.set_cons_succ]
    refine held_take (i := 5) (d := (some 21)) (v := ?_) rfl rfl (by kernel_rfl) (by kernel_rfl) (by kernel_rfl) (fun _ _ _ h => h) (by rfl) ?_ hH ?_
    rotate_left
    · intro w' hSw; (try dsimp only at hSw); go_simp <;> with_reducible rfl
    simp only [Act.put, List.setIfInBounds_toArray, List.set_cons_zero, List.set_cons_succ]
    refine held_take (i := 6) (d := (some 22)) (v := ?_) rfl rfl (by kernel_rfl) (by kernel_rfl) (by kernel_rfl) (fun _ _ _ h => h) (by rfl) ?_ hH ?_
    rotate_left
    · intro w' hSw; (try dsimp only at hSw); go_simp <;> with_reducible rfl
    simp only [Act.put, List.setIfInBounds_toArray, List.set_cons_zero, List.set_cons_succ]
    refine held_take (i := 7) (d := (some 23)) (v := ?_) rfl rfl (by kernel_rfl) (by kernel_rfl) (by kernel_rfl) (fun _ _ _ h => h) (by rfl) ?_ hH ?_
    rotate_left
    · intro w' hSw; (try dsimp only at hSw); go_simp <;> with_reducible rfl
    simp only [Act.put, List.setIfInBounds_toArray, List.set_cons_zero, List.set_cons_succ]
    refine held_take (i := 8) (d := (some 24)) (v := ?_) rfl rfl (by kernel_rfl) (by kernel_rfl) (by kernel_rfl) (fun _ _ _ h => h) (by rfl) ?_ hH ?_
    rotate_left
    · intro w' hSw; have z := (World.cell?_of_block (w := w) (w' := w') (hSw.out.block _ hg)).trans hc1; clear hSw; go_simp <;> with_reducible rfl
    simp only [Act.put, List.setIfInBounds_toArray, List.set_cons_zero, List.set_cons_succ]
    refine held_take (i := 9) (d := (some 25)) (v := ?_) rfl rfl (by kernel_rfl) (by kernel_rfl) (by kernel_rfl) (fun _ _ _ h => h) (by rfl) ?_ hH ?_
    rotate_left
    · intro w' hSw; (try dsimp only at hSw); go_simp <;> with_reducible rfl
    simp only [Act.put, List.setIfInBounds_toArray, List.set_cons_zero, List.set_cons_succ]
    refine held_take (i := 10) (d := (some 26)) (v := ?_) rfl rfl (by kernel_rfl) (by kernel_rfl) (by kernel_rfl) (fun _ _ _ h => h) (by rfl) ?_ hH ?_
    rotate_left
    · intro w' hSw; (try dsimp only at hSw); go_simp <;> with_reducible rfl
    simp only [Act.put, List.setIfInBounds_toArray, List.set_cons_zero, List.set_cons_succ]
    refine held_one (i := 11) (by kernel_rfl) rfl (by rfl) ?_
    go_simp
    refine (CU.out _ hH.out).mono ?_; rintro e wq hq
    obtain ⟨rfl, b⟩ := hq
    have hH : Hid (Below w.heap.size w wq) := Lib.hid (hH.out.trans (b.mono hH.out.size))
    clear b CU
    refine ⟨hH, ?_⟩
    (try simp only [Act.put, List.setIfInBounds_toArray, List.set_cons_zero, List.set_cons_succ])
    refine held_take (i := 12) (d := (some 28)) (v := ?_) rfl rfl (by kernel_rfl) (by kernel_rfl) (by kernel_rfl) (fun _ _ _ h => h) (by rfl) ?_ hH ?_
    rotate_left
    · intro w' hSw; (try dsimp only at hSw); go_simp <;> with_reducible rfl
    simp only [Act.put, List.setIfInBounds_toArray, List.set_cons_zero, List.set_cons_succ]
    refine held_take (i := 13) (d := (some 29)) (v := ?_) rfl rfl (by kernel_rfl) (by kernel_rfl) (by kernel_rfl) (fun _ _ _ h => h) (by rfl) ?_ hH ?_
    rotate_left
    · intro w' hSw; (try dsimp only at hSw); go_simp <;> with_reducible rfl
    simp only [Act.put, List.setIfInBounds_toArray, List.set_cons_zero, List.set_cons_succ]
    refine held_take (i := 14) (d := (some 6)) (v := ?_) rfl rfl (by kernel_rfl) (by kernel_rfl) (by kernel_rfl) (fun _ _ _ h => h) (by rfl) ?_ hH ?_
    rotate_left
    · intro w' hSw; (try dsimp only at hSw); go_simp <;> with_reducible rfl
    simp only [Act.put, List.setIfInBounds_toArray, List.set_cons_zero, List.set_cons_succ]
    refine held_take (i := 15) (d := (some 7)) (v := ?_) rfl rfl (by kernel_rfl) (by kernel_rfl) (by kernel_rfl) (fun _ _ _ h => h) (by rfl) ?_ hH ?_
    rotate_left
    · intro w' hSw; (try dsimp only at hSw); go_simp <;> with_reducible rfl
    simp only [Act.put, List.setIfInBounds_toArray, List.set_cons_zero, List.set_cons_succ]
    refine wpAnyH_done (by kernel_rfl) ?_ _
    go_wp2
    go_ret2
    exact ⟨rfl, hH.out⟩
end Go.Proofs.Ytgmejifacpefdaa.Sn
