/- Whatever packet, host and kind come in, 'pantlerlaw14.EthHeads' returns true and leaves them as they were. No condition. -/
import Derived.Test.YtahmdogpnojcpaaEtC
namespace Go.Proofs.Ytahmdogpnojcpaa.ethHeads
open Go.ChangeShapes Go.WideShapes Go.ChangeAt Go.RowKit Go.Deep Rk Es Di Et
set_option linter.unusedVariables false


set_option maxRecDepth 100000 in
set_option maxHeartbeats 8000000 in
theorem walk (w : World) (t f y : Nat) (l : List UInt8) (ht : t ≤ 18446744073709551615) (hf : f ≤ 18446744073709551615) (hy : y ≤ 65535) (hl0 : l.length ≤ maxLen) (hm hi : Nat) (hhm : hm ≤ 18446744073709551615) (hhi : hi ≤ 4294967295) (kd0 : Int) (wk : (Lit.int .u16 kd0).wf = true) :
    Calls Try.prog 7 #[.agg (dpV t f y l), .agg (hoV hm hi), .int .u16 kd0] w fun e w' => e = .returned (.bool true) ∧ Below w.heap.size w w' := by
  obtain ⟨kd, rfl, hk⟩ := wf_u16 wk
  obtain ⟨W, hW⟩ : ∃ W, (w.alloc (.cells (dpV t f y l) 25)).alloc (.cells (hoV hm hi) 54) = W := ⟨_, rfl⟩
  have b0 : Below w.heap.size w W := by rw [← hW]; exact ((Below.refl w.heap.size w).alloc (Nat.le_refl _) _).alloc (by simp) _
  have B0 := Lib.hid b0
  have P0 := Lib.hid (show Blk W w.heap.size 25 (dpV t f y l) from by rw [← hW]; exact (Blk.new w _ _).alloc _)
  have H0 := Lib.hid (show Blk W (w.heap.size + 1) 54 (hoV hm hi) from by rw [← hW]; have := Blk.new (w.alloc (.cells (dpV t f y l) 25)) 54 (hoV hm hi); simpa using this)
  have HW := Lib.hid hW
  clear b0 hW wk
  have AL := Lib.hid (fun W => alive_any W)
  have hsz : (⟨l.toArray⟩ : ByteArray).size = l.length := rfl
  go_enter Try.func7, Try.ntmps7
  go_upto_region 1 with fail
  rw [HW.out]
  clear HW
  go_wp2_with fail
  refine (AL.out W).mono ?_; rintro e w1 ⟨rfl, b1⟩
  have B1 := Lib.hid (B0.out.trans (b1.mono B0.out.size))
  have P1 := Lib.hid (P0.out.older (older_below b1))
  have H1 := Lib.hid (H0.out.older (older_below b1))
  clear b1 AL B0 P0 H0
  have z0 := (P1.out.cell 0).trans (show _ = some (.int .u64 (t : Int)) from rfl)
  have z1 := (P1.out.cell 1).trans (show _ = some (.int .u64 (f : Int)) from rfl)
  have z2 := (P1.out.cell 2).trans (show _ = some (.int .u16 (y : Int)) from rfl)
  have z3 := (P1.out.cell 3).trans (show _ = some (.string ⟨l.toArray⟩) from rfl)
  by_cases hl : (l.length : Int) > 3000
  · go_wp2
    go_ret
    exact ⟨rfl, B1.out⟩
  have HL := Lib.hid (show l.length ≤ 3000 from by omega)
  have OF := Lib.hid (fun W => of_any t f y l W (by have := HL.out; omega))
  go_wp2_with fail
  refine (OF.out w1).mono ?_; rintro e w2 ⟨A2, c2, rfl, s2, b2⟩
  have B2 := Lib.hid (B1.out.trans (b2.mono B1.out.size))
  have P2 := Lib.hid (P1.out.older (older_below b2))
  have H2 := Lib.hid (H1.out.older (older_below b2))
  clear b2 B1 P1 H1 z0 z1 z2 z3 s2
  go_wp2_with fail
  refine (head_any t f y ht hf hy A2 l.length c2 w2).mono ?_; rintro e w3 ⟨T, b3⟩
  obtain ⟨A3, c3, rfl, S3⟩ := T.form
  have S3 := Lib.hid S3
  have B3 := Lib.hid (B2.out.trans (b3.mono B2.out.size))
  have P3 := Lib.hid (P2.out.older (older_below b3))
  have H3 := Lib.hid (H2.out.older (older_below b3))
  clear T b3 B2 P2 H2
  have z0 := (P3.out.cell 0).trans (show _ = some (.int .u64 (t : Int)) from rfl)
  have z1 := (P3.out.cell 1).trans (show _ = some (.int .u64 (f : Int)) from rfl)
  have z2 := (P3.out.cell 2).trans (show _ = some (.int .u16 (y : Int)) from rfl)
  have z3 := (P3.out.cell 3).trans (show _ = some (.string ⟨l.toArray⟩) from rfl)
  go_wp2_with fail
  refine (OF.out w3).mono ?_; rintro e w4 ⟨A4, c4, rfl, s4, b4⟩
  have B4 := Lib.hid (B3.out.trans (b4.mono B3.out.size))
  have P4 := Lib.hid (P3.out.older (older_below b4))
  have H4 := Lib.hid (H3.out.older (older_below b4))
  have S4 := Lib.hid (S3.out.below b4)
  have T4 := Lib.hid s4
  clear b4 B3 P3 H3 S3 s4 z0 z1 z2 z3
  go_wp2_with fail
  refine (bytes_any' t f y ht hf hy A4 l.length c4 l w4 T4.out (by have := HL.out; omega)).mono ?_; rintro e w5 ⟨T, b5⟩
  obtain ⟨A5, c5, rfl, R5⟩ := T.form
  have R5 := Lib.hid R5
  have B5 := Lib.hid (B4.out.trans (b5.mono B4.out.size))
  have P5 := Lib.hid (P4.out.older (older_below b5))
  have H5 := Lib.hid (H4.out.older (older_below b5))
  have S5 := Lib.hid (S4.out.below b5)
  clear T b5 B4 P4 H4 S4 T4
  have WAY := Lib.hid (show (errIf (headMay t f) 1 = 1 ∧ errIf (pkMay t f l.length) (pkErr t f) = 1 ∧ textOf (headMay t f) (headL t f y) = []) ∨ (errIf (headMay t f) 1 = 0 ∧ (textOf (headMay t f) (headL t f y)).length = 14 ∧ ((errIf (pkMay t f l.length) (pkErr t f) = 2 ∧ 1010 < l.length) ∨ (errIf (pkMay t f l.length) (pkErr t f) = 0 ∧ textOf (pkMay t f l.length) (headL t f y ++ l) = textOf (headMay t f) (headL t f y) ++ l))) from by
    have h14 := headL_length t f y
    unfold pkMay pkErr
    cases headMay t f with
    | false => left; exact ⟨rfl, rfl, rfl⟩
    | true =>
      right
      refine ⟨rfl, h14, ?_⟩
      by_cases h : l.length ≤ 1010
      · right; rw [decide_eq_true h]; exact ⟨rfl, rfl⟩
      · left; rw [decide_eq_false h]; exact ⟨rfl, by omega⟩)
  generalize errIf (headMay t f) 1 = er1 at *
  generalize errIf (pkMay t f l.length) (pkErr t f) = er2 at *
  generalize textOf (headMay t f) (headL t f y) = X at *
  generalize textOf (pkMay t f l.length) (headL t f y ++ l) = Y at *
  have z0 := (P5.out.cell 0).trans (show _ = some (.int .u64 (t : Int)) from rfl)
  have z1 := (P5.out.cell 1).trans (show _ = some (.int .u64 (f : Int)) from rfl)
  have z2 := (P5.out.cell 2).trans (show _ = some (.int .u16 (y : Int)) from rfl)
  have z3 := (P5.out.cell 3).trans (show _ = some (.string ⟨l.toArray⟩) from rfl)
  have b6 : Below w5.heap.size w5 (w5.alloc (.cells (dpV t f y l) 25)) := (Below.refl _ w5).alloc (Nat.le_refl _) _
  have B6 := Lib.hid (B5.out.trans (b6.mono B5.out.size))
  have P6 := Lib.hid (P5.out.older (older_below b6))
  have H6 := Lib.hid (H5.out.older (older_below b6))
  have S6 := Lib.hid (S5.out.below b6)
  have R6 := Lib.hid (R5.out.below b6)
  have Q6 := Lib.hid (Blk.new w5 25 (dpV t f y l))
  have G5 := Lib.hid (show w.heap.size ≤ w5.heap.size from B5.out.size)
  have N1 := Lib.hid (show w.heap.size ≠ w5.heap.size from by have := P5.out.lt; omega)
  have N2 := Lib.hid (show w.heap.size + 1 ≠ w5.heap.size from by have := H5.out.lt; omega)
  clear b6 B5 P5 H5 S5 R5
  go_upto_region 8 with fail
  generalize w5.alloc (.cells (dpV t f y l) 25) = w6 at *
  generalize w5.heap.size = qb at *
  clear z0 z1 z2 z3
  have z2 := (Q6.out.cell 2).trans (show _ = some (.int .u16 (y : Int)) from rfl)
  have g2 := Q6.out.frozen 2
  have Q7 := Lib.hid (show Blk (w6.setCell ⟨qb, 2, none⟩ (.int .u16 (kd : Int))) qb 25 #[.int .u64 (t : Int), .int .u64 (f : Int), .int .u16 (kd : Int), .string ⟨l.toArray⟩] from Q6.out.put 2 _)
  have z3 := (Q7.out.cell 3).trans (show _ = some (.string ⟨l.toArray⟩) from rfl)
  have g3 := Q7.out.frozen 3
  have Q8 := Lib.hid (show Blk ((w6.setCell ⟨qb, 2, none⟩ (.int .u16 (kd : Int))).setCell ⟨qb, 3, none⟩ (.string ⟨#[]⟩)) qb 25 #[.int .u64 (t : Int), .int .u64 (f : Int), .int .u16 (kd : Int), .string ⟨#[]⟩] from Q7.out.put 3 _)
  have z1 := (Q8.out.cell 1).trans (show _ = some (.int .u64 (f : Int)) from rfl)
  have g1 := Q8.out.frozen 1
  obtain ⟨wq, hwq⟩ : ∃ wq, ((w6.setCell ⟨qb, 2, none⟩ (.int .u16 (kd : Int))).setCell ⟨qb, 3, none⟩ (.string ⟨#[]⟩)).setCell ⟨qb, 1, none⟩ (.int .u64 1) = wq := ⟨_, rfl⟩
  have kk : Chg w6 wq (fun b => b = qb) := by rw [← hwq]; exact ((Chg.set w6 2 _ (g := qb) (S := fun b => b = qb) rfl).trans (Chg.set _ 3 _ (g := qb) (S := fun b => b = qb) rfl)).trans (Chg.set _ 1 _ (g := qb) (S := fun b => b = qb) rfl)
  have QB := Lib.hid (show Blk wq qb 25 #[.int .u64 (t : Int), .int .u64 1, .int .u16 (kd : Int), .string ⟨#[]⟩] from by rw [← hwq]; exact Q8.out.put 1 _)
  have PB := Lib.hid (P6.out.chg kk N1.out)
  have HB := Lib.hid (H6.out.chg kk N2.out)
  have SB := Lib.hid (src_chg S6.out kk (src_apart S6.out Q6.out (by simp)))
  have RB := Lib.hid (src_chg R6.out kk (src_apart R6.out Q6.out (by simp)))
  have BQ := Lib.hid (B6.out.trans (kk.below B6.out.size (fun k e => by rw [e]; exact G5.out)))
  have HQ := Lib.hid hwq
  clear kk hwq Q7 Q8 P6 H6 S6 R6
  go_upto_region 11 with fail
  rw [HQ.out]
  clear HQ z1 z2 z3 g1 g2 g3
  generalize wq = W at *
  have OQ := Lib.hid (fun W => of_any t 1 kd [] W (by simp))
  have BS := Lib.hid ((Below.refl W.heap.size W).drew)
  refine wp_region_held_drew (S := fun w' => Hid (Below W.heap.size W w')) (by kernel_rfl) (BS) (fun hS => ?_)
  refine held_take (i := 0) (d := (some 35)) (v := ?_) rfl rfl (by kernel_rfl) (by kernel_rfl) (by kernel_rfl) (fun _ _ _ h => h) (by rfl) ?_ hS ?_
  rotate_left
  · intro w' hSw; have kb := hSw.out; clear hSw; have z0 := ((HB.out.older (older_below kb)).cell 0).trans (show _ = some (.int .u64 (hm : Int)) from rfl); have z1 := ((HB.out.older (older_below kb)).cell 1).trans (show _ = some (.int .u32 (hi : Int)) from rfl); clear kb; go_simp <;> with_reducible rfl
  simp only [Act.put, List.setIfInBounds_toArray, List.set_cons_zero, List.set_cons_succ]
  refine held_take (i := 1) (d := (some 36)) (v := ?_) rfl rfl (by kernel_rfl) (by kernel_rfl) (by kernel_rfl) (fun _ _ _ h => h) (by rfl) ?_ hS ?_
  rotate_left
  · intro w' hSw; have kb := hSw.out; clear hSw; have z0 := ((PB.out.older (older_below kb)).cell 0).trans (show _ = some (.int .u64 (t : Int)) from rfl); have z1 := ((PB.out.older (older_below kb)).cell 1).trans (show _ = some (.int .u64 (f : Int)) from rfl); have z2 := ((PB.out.older (older_below kb)).cell 2).trans (show _ = some (.int .u16 (y : Int)) from rfl); have z3 := ((PB.out.older (older_below kb)).cell 3).trans (show _ = some (.string ⟨l.toArray⟩) from rfl); clear kb; go_simp <;> with_reducible rfl
  simp only [Act.put, List.setIfInBounds_toArray, List.set_cons_zero, List.set_cons_succ]
  refine held_take (i := 4) (d := (some 39)) (v := ?_) rfl rfl (by kernel_rfl) (by kernel_rfl) (by kernel_rfl) (fun _ _ _ h => h) (by rfl) ?_ hS ?_
  rotate_left
  · intro w' hSw; (try dsimp only at hSw); go_simp <;> with_reducible rfl
  simp only [Act.put, List.setIfInBounds_toArray, List.set_cons_zero, List.set_cons_succ]
  refine held_take (i := 5) (d := (some 40)) (v := ?_) rfl rfl (by kernel_rfl) (by kernel_rfl) (by kernel_rfl) (fun _ _ _ h => h) (by rfl) ?_ hS ?_
  rotate_left
  · intro w' hSw; have kb := hSw.out; clear hSw; have z0 := ((HB.out.older (older_below kb)).cell 0).trans (show _ = some (.int .u64 (hm : Int)) from rfl); have z1 := ((HB.out.older (older_below kb)).cell 1).trans (show _ = some (.int .u32 (hi : Int)) from rfl); clear kb; go_simp <;> with_reducible rfl
  simp only [Act.put, List.setIfInBounds_toArray, List.set_cons_zero, List.set_cons_succ]
  refine held_take (i := 6) (d := (some 41)) (v := ?_) rfl rfl (by kernel_rfl) (by kernel_rfl) (by kernel_rfl) (fun _ _ _ h => h) (by rfl) ?_ hS ?_
  rotate_left
  · intro w' hSw; (try dsimp only at hSw); go_simp <;> with_reducible rfl
  simp only [Act.put, List.setIfInBounds_toArray, List.set_cons_zero, List.set_cons_succ]
  refine held_take (i := 7) (d := (some 42)) (v := ?_) rfl rfl (by kernel_rfl) (by kernel_rfl) (by kernel_rfl) (fun _ _ _ h => h) (by rfl) ?_ hS ?_
  rotate_left
  · intro w' hSw; have kb := hSw.out; clear hSw; have z0 := ((QB.out.older (older_below kb)).cell 0).trans (show _ = some (.int .u64 (t : Int)) from rfl); have z1 := ((QB.out.older (older_below kb)).cell 1).trans (show _ = some (.int .u64 1) from rfl); have z2 := ((QB.out.older (older_below kb)).cell 2).trans (show _ = some (.int .u16 (kd : Int)) from rfl); have z3 := ((QB.out.older (older_below kb)).cell 3).trans (show _ = some (.string ⟨#[]⟩) from rfl); clear kb; go_simp <;> with_reducible rfl
  simp only [Act.put, List.setIfInBounds_toArray, List.set_cons_zero, List.set_cons_succ]
  refine held_one (i := 2) (by kernel_rfl) rfl (by rfl) ?_
  go_simp
  refine (OF.out _).mono ?_; rintro e wa ⟨Aa, ca, rfl, -, ba⟩
  have BA := Lib.hid (BS.out.trans (ba.mono BS.out.size))
  have hS : Hid (Below W.heap.size W wa) := BA
  refine ⟨hS, ?_⟩
  clear ba
  (try simp only [Act.put, List.setIfInBounds_toArray, List.set_cons_zero, List.set_cons_succ])
  refine held_one (i := 3) (by kernel_rfl) rfl (by rfl) ?_
  go_simp
  refine (forMe_any hm hi t f y Aa l.length ca wa).mono ?_; rintro e wb ⟨rfl, bb⟩
  have BB := Lib.hid (BA.out.trans (bb.mono BA.out.size))
  have hS : Hid (Below W.heap.size W wb) := BB
  refine ⟨hS, ?_⟩
  clear bb
  (try simp only [Act.put, List.setIfInBounds_toArray, List.set_cons_zero, List.set_cons_succ])
  refine held_one (i := 8) (by kernel_rfl) rfl (by rfl) ?_
  go_simp
  refine (OQ.out _).mono ?_; rintro e wc ⟨Ac, cc, rfl, -, bc⟩
  have BC := Lib.hid (BB.out.trans (bc.mono BB.out.size))
  have hS : Hid (Below W.heap.size W wc) := BC
  refine ⟨hS, ?_⟩
  clear bc
  (try simp only [Act.put, List.setIfInBounds_toArray, List.set_cons_zero, List.set_cons_succ])
  refine held_one (i := 9) (by kernel_rfl) rfl (by rfl) ?_
  go_simp
  refine (forMe_any hm 0 t 1 kd Ac 0 cc wc).mono ?_; rintro e wd ⟨rfl, bd⟩
  have BD := Lib.hid (BC.out.trans (bd.mono BC.out.size))
  have hS : Hid (Below W.heap.size W wd) := BD
  refine ⟨hS, ?_⟩
  clear bd
  (try simp only [Act.put, List.setIfInBounds_toArray, List.set_cons_zero, List.set_cons_succ])
  refine held_take (i := 10) (d := (some 45)) (v := ?_) rfl rfl (by kernel_rfl) (by kernel_rfl) (by kernel_rfl) (fun _ _ _ h => h) (by rfl) ?_ hS ?_
  rotate_left
  · intro w' hSw; (try dsimp only at hSw); go_simp <;> with_reducible rfl
  simp only [Act.put, List.setIfInBounds_toArray, List.set_cons_zero, List.set_cons_succ]
  refine wpAnyH_done (by kernel_rfl) ?_ _
  have BD := Lib.hid (BQ.out.trans (BD.out.mono BQ.out.size))
  have zp := ((PB.out.older (older_below hS.out)).cell 3).trans (show _ = some (.string ⟨l.toArray⟩) from rfl)
  have TX := told_str (SB.out.below hS.out)
  have TY := told_str (RB.out.below hS.out)
  rcases WAY.out with ⟨rfl, rfl, rfl⟩ | ⟨rfl, h14, ⟨rfl, h10⟩ | ⟨rfl, rfl⟩⟩
  · go_wp2
    go_ret
    exact ⟨rfl, BD.out⟩
  · have h10' : (l.length : Int) > 1010 := by omega
    have h14' : (X.length : Int) = 14 := by omega
    go_wp2
    go_ret
    exact ⟨rfl, BD.out⟩
  · have h14' : (X.length : Int) = 14 := by omega
    have la : ¬ 9223372036854775807 < X.length + l.length := by have := HL.out; omega
    rw [h14] at TX
    rw [List.length_append, h14] at TY
    go_wp2
    go_ret
    exact ⟨by first | rfl | simp [ByteArray.mk_append_mk], BD.out⟩

set_option maxRecDepth 100000 in
theorem lifted (os : Os) (started : os.Started) (H : Type) (enc : TypeId × Value → H) :
    ReturnsInHanded {} Try.checked os 7 .any (Rows.ethHeadsSpec.pre6 enc Try.prog Try.f7 Rows.ethHeadsRow.domain false) (Rows.ethHeadsSpec.post enc Try.prog Try.f7 false true false false) := by
  refine returnsInHanded_of_change (C := Try.checked) own started (by kernel_rfl) Try.func7
    (ChangeSpec.witness6 (enc := enc) (C := Try.checked) false ⟨#[], #[.agg #[.int .u64 0, .int .u64 0, .int .u16 0, .string ⟨#[]⟩], .agg #[.int .u64 0, .int .u32 0], .int .u16 0], []⟩ 8 (by kernel_rfl) (by kernel_rfl) (by kernel_rfl) (by kernel_rfl)) ?_
  intro W base args ds gs before hval0 hW hcnd _
  have hval : ∀ (j : Nat) t v, Try.f7.params[j]? = some t → args[j]? = some v → Value.okWide Try.prog W .any base t v := hval0
  have hW' := hW
  obtain ⟨p, q, hA0, hV, rfl, hfz, hnd⟩ := hW
  have hA : DataW.TrodAll enc Try.prog W 0 (fun _ => true) true Try.f7.params.toList args.toList ds p := hA0
  rw [Try.params7] at hA hval
  obtain ⟨v0, vs0, d0, ds0, p0, q0, hargs, rfl, rfl, h0, r0⟩ := trodAll_cons hA
  obtain ⟨v1, vs1, d1, ds1, p1, q1, rfl, rfl, rfl, h1, r1⟩ := trodAll_cons r0
  obtain ⟨v2, vs2, d2, ds2, p2, q2, rfl, rfl, rfl, h2, r2⟩ := trodAll_cons r1
  obtain ⟨rfl, rfl, rfl⟩ := trodAll_nil r2
  obtain rfl : args = #[v0, v1, v2] := by cases args; simp_all
  obtain ⟨a0_0, a0_1, a0_2, a0_3, rfl, w0_0, w0_1, w0_2, w0_3⟩ := Et.open_pk (hval 0 25 v0 rfl rfl) h0
  obtain ⟨a1_0, a1_1, rfl, w1_0, w1_1⟩ := Et.open_ho (hval 1 54 v1 rfl rfl) h1
  obtain ⟨a2, rfl, _, _, w2⟩ := open_int Try.underlying23 (hval 2 23 v2 rfl rfl) h2
  clear hA0 hval0
  exact law_close hW' laidOut (by kernel_rfl) rfl Try.underlying4 rfl ⟨rfl, rfl, rfl⟩ (walk W a0_0 a0_1 a0_2 a0_3 w0_0 w0_1 w0_2 w0_3 a1_0 a1_1 w1_0 w1_1 a2 w2)

theorem over : Rows.ethHeadsRow.holds Try.pinned (OpenSpec.ofChange Rows.ethHeadsSpec) :=
  OpenClaim.holds_of_wide 7 Try.f7 rfl rfl rfl rfl rfl rfl rfl ⟨rfl, rfl, rfl, rfl, rfl⟩ rfl rfl rfl rfl rfl (by kernel_rfl) Try.func7 (by kernel_rfl)
    (of_decide_eq_true (by kernel_rfl)) (by unfold Func.isWrapper; first | (rw [if_pos (by decide +kernel)]; kernel_rfl) | (rw [if_neg (by decide +kernel)]; exact ⟨rfl, rfl⟩))
    (fun os started H enc _ => lifted os started H enc)

theorem proved : Rows.EthHeadsSaid := over

end Go.Proofs.Ytahmdogpnojcpaa.ethHeads
