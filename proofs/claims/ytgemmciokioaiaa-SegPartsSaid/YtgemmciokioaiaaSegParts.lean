/- Whatever segment, addresses, floats and number come in, 'pantlerlaw17.SegParts' returns true and leaves them as they were. No condition. -/
import Derived.Test.YtgemmciokioaiaaSgF
import Derived.Test.YtgemmciokioaiaaSgO
namespace Go.Proofs.Ytgemmciokioaiaa.segParts
open Go.ChangeShapes Go.WideShapes Go.ChangeAt Go.RowKit Go.Deep Rk Fl Gx Di Sg
set_option linter.unusedVariables false


set_option maxRecDepth 100000 in
set_option maxHeartbeats 8000000 in
theorem walk (w : World) (f t q a : Nat) (g : Int) (wi : Nat) (m : Int) (l : List UInt8) (hf : f ≤ 65535) (ht : t ≤ 65535) (hq : q ≤ 4294967295) (ha : a ≤ 4294967295) (hg : -9223372036854775808 ≤ g ∧ g ≤ 9223372036854775807) (hwi : wi ≤ 65535) (hm : -9223372036854775808 ≤ m ∧ m ≤ 9223372036854775807) (hl0 : l.length ≤ maxLen) (s : Int) (ws : (Lit.int .u32 s).wf = true) (d : Int) (wd : (Lit.int .u32 d).wf = true) (x : Nat) (wx : (Lit.float .f64 x).wf = true) (y : Nat) (wy : (Lit.float .f64 y).wf = true) (n : Int) (wn : (Lit.int .i64 n).wf = true) :
    Calls Try.prog 4 #[.agg (dsV f t q a g wi m l), .int .u32 s, .int .u32 d, .float .f64 x, .float .f64 y, .int .i64 n] w fun e w' => e = .returned (.bool true) ∧ Below w.heap.size w w' := by
  obtain ⟨s, rfl, hs⟩ := wf_u32 ws
  obtain ⟨d, rfl, hd⟩ := wf_u32 wd
  have hsz : (⟨l.toArray⟩ : ByteArray).size = l.length := rfl
  have b0 : Below w.heap.size w (w.alloc (.cells (dsV f t q a g wi m l) 25)) := (Below.refl _ w).alloc (Nat.le_refl _) _
  have B0 := Lib.hid b0
  have P0 := Lib.hid (Blk.new w 25 (dsV f t q a g wi m l))
  have AL := Lib.hid (fun W => Sg.alive_any W)
  have HE := Lib.hid (fun A c W => head_err f t q a g wi m hf ht hq ha hwi A l.length c s d x y hs hd n W)
  have CH := Lib.hid (fun W => show Calls Try.prog 14 #[.agg #[.int .u16 0, .int .u16 0, .int .u32 0, .int .u32 0, .int .i64 g, .int .u16 0, .int .i64 m, .string ⟨#[]⟩]] W (fun e w' => e = .returned (.int .i64 (ckR g m 0)) ∧ Below W.heap.size W w') from refCheck_any 0 0 0 0 g 0 m [] (by show 0 ≤ 1000000; omega) W)
  clear b0 wx wy wn
  go_enter Try.func4, Try.ntmps4
  go_upto_region 1 with fail
  generalize w.alloc (.cells (dsV f t q a g wi m l) 25) = W at *
  go_wp2_with fail
  refine (AL.out W).mono ?_; rintro e w1 ⟨rfl, b1⟩
  have B1 := Lib.hid (B0.out.trans (b1.mono B0.out.size))
  have P1 := Lib.hid (P0.out.older (older_below b1))
  clear B0 P0 
  clear b1 AL
  have z7 := (P1.out.cell 7).trans (show _ = some (.string ⟨l.toArray⟩) from rfl)
  by_cases hl : (l.length : Int) > 3000
  · go_wp2
    go_ret
    exact ⟨rfl, B1.out⟩
  have HL := Lib.hid (show l.length ≤ 3000 from by omega)
  have OF := Lib.hid (fun W => Sg.of_any f t q a g wi m l W (by have := HL.out; omega))
  have HD := Lib.hid (fun A c W => head_of f t q a g wi m hf ht hq ha hwi A l.length c s d hs hd l W)
  have RB := Lib.hid (fun W => Sg.refBytes_any f t q a g wi m hf ht hq ha hwi l (by have := HL.out; omega) s d hs hd W)
  obtain ⟨A2, c2, w2, hconv, hsr, hb, -⟩ := conv_src ⟨l.toArray⟩ (by show l.length ≤ 1000000; have := HL.out; omega) w1
  replace hconv : (convert 9 27 (.string ⟨l.toArray⟩)).run Try.prog w1 = .ok (.slice A2 l.length c2) w2 := hconv
  replace hsr : Src w2 A2 l.length c2 l := hsr
  have PA := Lib.hid (part_b A2 l.length c2 l w2 hsr.toBytes (by have := HL.out; omega))
  have B2 := Lib.hid (B1.out.trans (hb.mono B1.out.size))
  have P2 := Lib.hid (P1.out.older (older_below hb))
  clear B1 P1 
  clear hb hsr
  go_wp2_with fail
  refine PA.out.mono ?_; rintro e w3 ⟨rfl, b3⟩
  have B3 := Lib.hid (B2.out.trans (b3.mono B2.out.size))
  have P3 := Lib.hid (P2.out.older (older_below b3))
  clear B2 P2 
  clear b3 PA hconv z7
  have P := P3
  go_upto_region 6 with fail
  generalize w3 = W at *
  refine wp_region_held_drew (S := fun w' => Hid (Below W.heap.size W w')) (by kernel_rfl) (Lib.hid ((Below.refl W.heap.size W).drew)) (fun hS => ?_)
  refine held_take (i := 0) (d := (some 37)) (v := ?_) rfl rfl (by kernel_rfl) (by kernel_rfl) (by kernel_rfl) (fun _ _ _ h => h) (by rfl) ?_ hS ?_
  rotate_left
  · intro w' hSw; have kb := hSw.out; clear hSw; have z0 := ((P.out.older (older_below kb)).cell 0).trans (show _ = some (.int .u16 (f : Int)) from rfl); have z1 := ((P.out.older (older_below kb)).cell 1).trans (show _ = some (.int .u16 (t : Int)) from rfl); have z2 := ((P.out.older (older_below kb)).cell 2).trans (show _ = some (.int .u32 (q : Int)) from rfl); have z3 := ((P.out.older (older_below kb)).cell 3).trans (show _ = some (.int .u32 (a : Int)) from rfl); have z4 := ((P.out.older (older_below kb)).cell 4).trans (show _ = some (.int .i64 g) from rfl); have z5 := ((P.out.older (older_below kb)).cell 5).trans (show _ = some (.int .u16 (wi : Int)) from rfl); have z6 := ((P.out.older (older_below kb)).cell 6).trans (show _ = some (.int .i64 m) from rfl); have z7 := ((P.out.older (older_below kb)).cell 7).trans (show _ = some (.string ⟨l.toArray⟩) from rfl); clear kb; go_simp <;> with_reducible rfl
  simp only [Act.put, List.setIfInBounds_toArray, List.set_cons_zero, List.set_cons_succ]
  refine held_take (i := 2) (d := (some 39)) (v := ?_) rfl rfl (by kernel_rfl) (by kernel_rfl) (by kernel_rfl) (fun _ _ _ h => h) (by rfl) ?_ hS ?_
  rotate_left
  · intro w' hSw; (try dsimp only at hSw); go_simp <;> with_reducible rfl
  simp only [Act.put, List.setIfInBounds_toArray, List.set_cons_zero, List.set_cons_succ]
  refine held_take (i := 3) (d := (some 40)) (v := ?_) rfl rfl (by kernel_rfl) (by kernel_rfl) (by kernel_rfl) (fun _ _ _ h => h) (by rfl) ?_ hS ?_
  rotate_left
  · intro w' hSw; (try dsimp only at hSw); go_simp <;> with_reducible rfl
  simp only [Act.put, List.setIfInBounds_toArray, List.set_cons_zero, List.set_cons_succ]
  refine held_take (i := 4) (d := (some 41)) (v := ?_) rfl rfl (by kernel_rfl) (by kernel_rfl) (by kernel_rfl) (fun _ _ _ h => h) (by rfl) ?_ hS ?_
  rotate_left
  · intro w' hSw; (try dsimp only at hSw); go_simp <;> with_reducible rfl
  simp only [Act.put, List.setIfInBounds_toArray, List.set_cons_zero, List.set_cons_succ]
  refine held_take (i := 5) (d := (some 42)) (v := ?_) rfl rfl (by kernel_rfl) (by kernel_rfl) (by kernel_rfl) (fun _ _ _ h => h) (by rfl) ?_ hS ?_
  rotate_left
  · intro w' hSw; (try dsimp only at hSw); go_simp <;> with_reducible rfl
  simp only [Act.put, List.setIfInBounds_toArray, List.set_cons_zero, List.set_cons_succ]
  refine held_take (i := 6) (d := (some 43)) (v := ?_) rfl rfl (by kernel_rfl) (by kernel_rfl) (by kernel_rfl) (fun _ _ _ h => h) (by rfl) ?_ hS ?_
  rotate_left
  · intro w' hSw; have kb := hSw.out; clear hSw; have z7 := ((P.out.older (older_below kb)).cell 7).trans (show _ = some (.string ⟨l.toArray⟩) from rfl); clear kb; go_simp <;> with_reducible rfl
  simp only [Act.put, List.setIfInBounds_toArray, List.set_cons_zero, List.set_cons_succ]
  refine held_take (i := 7) (d := (some 44)) (v := ?_) rfl rfl (by kernel_rfl) (by kernel_rfl) (by kernel_rfl) (fun _ _ _ h => h) (by rfl) ?_ hS ?_
  rotate_left
  · intro w' hSw; (try dsimp only at hSw); go_simp <;> with_reducible rfl
  simp only [Act.put, List.setIfInBounds_toArray, List.set_cons_zero, List.set_cons_succ]
  refine held_one (i := 1) (by kernel_rfl) rfl (by rfl) ?_
  go_simp
  refine (OF.out _).mono ?_; rintro e wt ⟨Ar, cr, rfl, sr, bt⟩
  clear sr
  have hS : Hid (Below W.heap.size W wt) := Lib.hid (hS.out.trans (bt.mono hS.out.size))
  refine ⟨hS, ?_⟩
  clear bt
  (try simp only [Act.put, List.setIfInBounds_toArray, List.set_cons_zero, List.set_cons_succ])
  refine held_one (i := 8) (by kernel_rfl) rfl (by rfl) ?_
  go_simp
  refine (HD.out Ar cr _).mono ?_; rintro e w4 ⟨T, bt⟩
  obtain ⟨A6, c6, rfl, r6⟩ := T.form
  have SA6 := Lib.hid r6
  have hS : Hid (Below W.heap.size W w4) := Lib.hid (hS.out.trans (bt.mono hS.out.size))
  refine ⟨hS, ?_⟩
  clear bt r6
  (try simp only [Act.put, List.setIfInBounds_toArray, List.set_cons_zero, List.set_cons_succ])
  refine held_take (i := 9) (d := (some 36)) (v := ?_) rfl rfl (by kernel_rfl) (by kernel_rfl) (by kernel_rfl) (fun _ _ _ h => h) (by rfl) ?_ hS ?_
  rotate_left
  · intro w' hSw; (try dsimp only at hSw); go_simp <;> with_reducible rfl
  simp only [Act.put, List.setIfInBounds_toArray, List.set_cons_zero, List.set_cons_succ]
  refine held_take (i := 10) (d := (some 46)) (v := ?_) rfl rfl (by kernel_rfl) (by kernel_rfl) (by kernel_rfl) (fun _ _ _ h => h) (by rfl) ?_ hS ?_
  rotate_left
  · intro w' hSw; (try dsimp only at hSw); go_simp <;> with_reducible rfl
  simp only [Act.put, List.setIfInBounds_toArray, List.set_cons_zero, List.set_cons_succ]
  refine held_take (i := 11) (d := (some 47)) (v := ?_) rfl rfl (by kernel_rfl) (by kernel_rfl) (by kernel_rfl) (fun _ _ _ h => h) (by rfl) ?_ hS ?_
  rotate_left
  · intro w' hSw; (try dsimp only at hSw); go_simp <;> with_reducible rfl
  simp only [Act.put, List.setIfInBounds_toArray, List.set_cons_zero, List.set_cons_succ]
  refine held_take (i := 12) (d := (some 15)) (v := ?_) rfl rfl (by kernel_rfl) (by kernel_rfl) (by kernel_rfl) (fun _ _ _ h => h) (by rfl) ?_ hS ?_
  rotate_left
  · intro w' hSw; (try dsimp only at hSw); go_simp <;> with_reducible rfl
  simp only [Act.put, List.setIfInBounds_toArray, List.set_cons_zero, List.set_cons_succ]
  refine held_take (i := 13) (d := (some 16)) (v := ?_) rfl rfl (by kernel_rfl) (by kernel_rfl) (by kernel_rfl) (fun _ _ _ h => h) (by rfl) ?_ hS ?_
  rotate_left
  · intro w' hSw; (try dsimp only at hSw); go_simp <;> with_reducible rfl
  simp only [Act.put, List.setIfInBounds_toArray, List.set_cons_zero, List.set_cons_succ]
  refine wpAnyH_done (by kernel_rfl) ?_ _
  have b4 := hS.out
  have B4 := Lib.hid (B3.out.trans (b4.mono B3.out.size))
  have P4 := Lib.hid (P3.out.older (older_below b4))
  clear B3 P3 
  have SA4 := SA6
  clear b4 hS P HD SA6 T
  have hlx : (textOf (decide (ckR g m l.length = 0)) (sgB s d f t q a g.toNat wi m.toNat l.length (fo (Ip.tot l)))).length ≤ 24 := by
    unfold textOf
    split
    · rw [sgB_length]; have := sgL_le m.toNat; omega
    · exact Nat.zero_le _
  have HT := Lib.hid (show (textOf (decide (ckR g m l.length = 0)) (sgB s d f t q a g.toNat wi m.toNat l.length (fo (Ip.tot l)) ++ l) = textOf (decide (ckR g m l.length = 0)) (sgB s d f t q a g.toNat wi m.toNat l.length (fo (Ip.tot l))) ++ l ∧ errIf (decide (ckR g m l.length = 0)) (ckR g m l.length) = 0) ∨ (textOf (decide (ckR g m l.length = 0)) (sgB s d f t q a g.toNat wi m.toNat l.length (fo (Ip.tot l)) ++ l) = [] ∧ textOf (decide (ckR g m l.length = 0)) (sgB s d f t q a g.toNat wi m.toNat l.length (fo (Ip.tot l))) = [] ∧ errIf (decide (ckR g m l.length = 0)) (ckR g m l.length) ≠ 0) from by
    by_cases h : ckR g m l.length = 0
    · rw [decide_eq_true h]; exact .inl ⟨rfl, rfl⟩
    · rw [decide_eq_false h]; exact .inr ⟨rfl, rfl, h⟩)
  have z0 := (P4.out.cell 0).trans (show _ = some (.int .u16 (f : Int)) from rfl)
  have z1 := (P4.out.cell 1).trans (show _ = some (.int .u16 (t : Int)) from rfl)
  have z2 := (P4.out.cell 2).trans (show _ = some (.int .u32 (q : Int)) from rfl)
  have z3 := (P4.out.cell 3).trans (show _ = some (.int .u32 (a : Int)) from rfl)
  have z4 := (P4.out.cell 4).trans (show _ = some (.int .i64 g) from rfl)
  have z5 := (P4.out.cell 5).trans (show _ = some (.int .u16 (wi : Int)) from rfl)
  have z6 := (P4.out.cell 6).trans (show _ = some (.int .i64 m) from rfl)
  have z7 := (P4.out.cell 7).trans (show _ = some (.string ⟨l.toArray⟩) from rfl)
  go_wp2_with fail
  refine (RB.out w4).mono ?_; rintro e w5 ⟨T, b5⟩
  obtain rfl := T.form
  have B5 := Lib.hid (B4.out.trans (b5.mono B4.out.size))
  have P5 := Lib.hid (P4.out.older (older_below b5))
  have SA5 := Lib.hid (SA4.out.below b5)
  clear B4 P4 SA4
  clear T b5 RB z0 z1 z2 z3 z4 z5 z6 z7
  generalize textOf (decide (ckR g m l.length = 0)) (sgB s d f t q a g.toNat wi m.toNat l.length (fo (Ip.tot l))) = X at *
  generalize textOf (decide (ckR g m l.length = 0)) (sgB s d f t q a g.toNat wi m.toNat l.length (fo (Ip.tot l)) ++ l) = R at *
  generalize errIf (decide (ckR g m l.length = 0)) (ckR g m l.length) = er at *
  have P := P5
  have SA := SA5
  clear P5 SA5
  go_upto_region 8 with fail
  generalize w5 = W at *
  have LX := Lib.hid hlx
  clear hlx
  go_cut [88] (fun v wx => v = .bool false ∧ Hid (Below W.heap.size W wx))
  case first =>
    obtain ⟨r, hR, he⟩ : ∃ r, R = X ++ r ∧ ((er = 0 ∧ r = l) ∨ er ≠ 0) := by
      rcases HT.out with ⟨hR, he⟩ | ⟨hR, hX, he⟩
      · exact ⟨l, hR, .inl ⟨he, rfl⟩⟩
      · exact ⟨[], by rw [hR, hX]; rfl, .inr he⟩
    have FT := Lib.hid (fun W' => show (Instr.slice 9 (.string ⟨R.toArray⟩) none (some (.int .i64 (X.length : Int))) none).run Try.prog W' = .ok (.string ⟨X.toArray⟩) W' from by
      have := run_front_text R X.length (by rw [hR, List.length_append]; omega) W'
      rw [hR, List.take_left] at this
      rw [hR]
      exact this)
    have hRl : R.length = X.length + r.length := by rw [hR, List.length_append]
    have hRz : (⟨R.toArray⟩ : ByteArray).size = X.length + r.length := hRl
    clear hR
    rcases he with ⟨he, hr⟩ | he
    · rw [hr] at hRl hRz
      subst he
      clear hr
      have xl := IntWalk.i64_in ((X.length : Int) + (l.length : Int)) (by have := LX.out; have := HL.out; omega)
      refine wp_region_held_drew (S := fun w' => Hid (Below W.heap.size W w')) (by kernel_rfl) (Lib.hid ((Below.refl W.heap.size W).drew)) (fun hS => ?_)
      refine held_take (i := 0) (d := (some 55)) (v := ?_) rfl rfl (by kernel_rfl) (by kernel_rfl) (by kernel_rfl) (fun _ _ _ h => h) (by rfl) ?_ hS ?_
      rotate_left
      · intro w' hSw; (try dsimp only at hSw); go_simp <;> with_reducible rfl
      simp only [Act.put, List.setIfInBounds_toArray, List.set_cons_zero, List.set_cons_succ]
      refine held_take (i := 1) (d := (some 56)) (v := ?_) rfl rfl (by kernel_rfl) (by kernel_rfl) (by kernel_rfl) (fun _ _ _ h => h) (by rfl) ?_ hS ?_
      rotate_left
      · intro w' hSw; (try dsimp only at hSw); go_simp <;> with_reducible rfl
      simp only [Act.put, List.setIfInBounds_toArray, List.set_cons_zero, List.set_cons_succ]
      refine held_take (i := 2) (d := (some 57)) (v := ?_) rfl rfl (by kernel_rfl) (by kernel_rfl) (by kernel_rfl) (fun _ _ _ h => h) (by rfl) ?_ hS ?_
      rotate_left
      · intro w' hSw; (try dsimp only at hSw); go_simp <;> with_reducible rfl
      simp only [Act.put, List.setIfInBounds_toArray, List.set_cons_zero, List.set_cons_succ]
      refine held_take (i := 3) (d := (some 58)) (v := ?_) rfl rfl (by kernel_rfl) (by kernel_rfl) (by kernel_rfl) (fun _ _ _ h => h) (by rfl) ?_ hS ?_
      rotate_left
      · intro w' hSw; (try dsimp only at hSw); go_simp <;> with_reducible rfl
      simp only [Act.put, List.setIfInBounds_toArray, List.set_cons_zero, List.set_cons_succ]
      refine held_take (i := 4) (d := (some 59)) (v := ?_) rfl rfl (by kernel_rfl) (by kernel_rfl) (by kernel_rfl) (fun _ _ _ h => h) (by rfl) ?_ hS ?_
      rotate_left
      · intro w' hSw; (try dsimp only at hSw); go_simp <;> with_reducible rfl
      simp only [Act.put, List.setIfInBounds_toArray, List.set_cons_zero, List.set_cons_succ]
      refine held_take (i := 5) (d := (some 60)) (v := ?_) rfl rfl (by kernel_rfl) (by kernel_rfl) (by kernel_rfl) (fun _ _ _ h => h) (by rfl) ?_ hS ?_
      rotate_left
      · intro w' hSw; (try dsimp only at hSw); go_simp <;> with_reducible rfl
      simp only [Act.put, List.setIfInBounds_toArray, List.set_cons_zero, List.set_cons_succ]
      refine held_take (i := 6) (d := (some 61)) (v := ?_) rfl rfl (by kernel_rfl) (by kernel_rfl) (by kernel_rfl) (fun _ _ _ h => h) (by rfl) ?_ hS ?_
      rotate_left
      · intro w' hSw; (try dsimp only at hSw); go_simp <;> with_reducible rfl
      simp only [Act.put, List.setIfInBounds_toArray, List.set_cons_zero, List.set_cons_succ]
      refine held_take (i := 7) (d := (some 62)) (v := ?_) rfl rfl (by kernel_rfl) (by kernel_rfl) (by kernel_rfl) (fun _ _ _ h => h) (by rfl) ?_ hS ?_
      rotate_left
      · intro w' hSw; (try dsimp only at hSw); go_simp <;> with_reducible rfl
      simp only [Act.put, List.setIfInBounds_toArray, List.set_cons_zero, List.set_cons_succ]
      refine held_take (i := 8) (d := (some 63)) (v := .bool false) rfl rfl (by kernel_rfl) (by kernel_rfl) (by kernel_rfl) (fun _ _ _ h => h) (by rfl) (by intro w' hSw; clear hSw; go_simp; omega) hS ?_
      simp only [Act.put, List.setIfInBounds_toArray, List.set_cons_zero, List.set_cons_succ]
      refine held_take (i := 9) (d := (some 64)) (v := ?_) rfl rfl (by kernel_rfl) (by kernel_rfl) (by kernel_rfl) (fun _ _ _ h => h) (by rfl) ?_ hS ?_
      rotate_left
      · intro w' hSw; (try dsimp only at hSw); go_simp <;> with_reducible rfl
      simp only [Act.put, List.setIfInBounds_toArray, List.set_cons_zero, List.set_cons_succ]
      refine held_take (i := 10) (d := (some 65)) (v := ?_) rfl rfl (by kernel_rfl) (by kernel_rfl) (by kernel_rfl) (fun _ _ _ h => h) (by rfl) ?_ hS ?_
      rotate_left
      · intro w' hSw; (try dsimp only at hSw); go_simp <;> with_reducible rfl
      simp only [Act.put, List.setIfInBounds_toArray, List.set_cons_zero, List.set_cons_succ]
      refine held_take (i := 11) (d := (some 66)) (v := ?_) rfl rfl (by kernel_rfl) (by kernel_rfl) (by kernel_rfl) (fun _ _ _ h => h) (by rfl) ?_ hS ?_
      rotate_left
      · intro w' hSw; (try dsimp only at hSw); go_simp <;> with_reducible rfl
      simp only [Act.put, List.setIfInBounds_toArray, List.set_cons_zero, List.set_cons_succ]
      refine held_take (i := 12) (d := (some 67)) (v := ?_) rfl rfl (by kernel_rfl) (by kernel_rfl) (by kernel_rfl) (fun _ _ _ h => h) (by rfl) ?_ hS ?_
      rotate_left
      · intro w' hSw; have TX := told_str (SA.out.below hSw.out); clear hSw; go_simp <;> with_reducible rfl
      simp only [Act.put, List.setIfInBounds_toArray, List.set_cons_zero, List.set_cons_succ]
      refine held_take (i := 13) (d := (some 68)) (v := ?_) rfl rfl (by kernel_rfl) (by kernel_rfl) (by kernel_rfl) (fun _ _ _ h => h) (by rfl) ?_ hS ?_
      rotate_left
      · intro w' hSw; (try dsimp only at hSw); go_simp <;> with_reducible rfl
      simp only [Act.put, List.setIfInBounds_toArray, List.set_cons_zero, List.set_cons_succ]
      refine held_take (i := 14) (d := (some 69)) (v := ?_) rfl rfl (by kernel_rfl) (by kernel_rfl) (by kernel_rfl) (fun _ _ _ h => h) (by rfl) ?_ hS ?_
      rotate_left
      · intro w' hSw; (try dsimp only at hSw); go_simp <;> with_reducible rfl
      simp only [Act.put, List.setIfInBounds_toArray, List.set_cons_zero, List.set_cons_succ]
      refine held_take (i := 15) (d := (some 70)) (v := ?_) rfl rfl (by kernel_rfl) (by kernel_rfl) (by kernel_rfl) (fun _ _ _ h => h) (by rfl) ?_ hS ?_
      rotate_left
      · intro w' hSw; (try dsimp only at hSw); go_simp <;> with_reducible rfl
      simp only [Act.put, List.setIfInBounds_toArray, List.set_cons_zero, List.set_cons_succ]
      refine held_take (i := 16) (d := (some 71)) (v := .string ⟨X.toArray⟩) rfl rfl (by kernel_rfl) (by kernel_rfl) (by kernel_rfl) (fun _ _ _ h => h) (by rfl) (fun w' _ => exec_slice Try.underlying9 (y := .string ⟨R.toArray⟩) (lo' := none) (hi' := some (.int .i64 (X.length : Int))) rfl rfl rfl rfl (FT.out w')) hS ?_
      simp only [Act.put, List.setIfInBounds_toArray, List.set_cons_zero, List.set_cons_succ]
      refine held_take (i := 17) (d := (some 72)) (v := ?_) rfl rfl (by kernel_rfl) (by kernel_rfl) (by kernel_rfl) (fun _ _ _ h => h) (by rfl) ?_ hS ?_
      rotate_left
      · intro w' hSw; (try dsimp only at hSw); go_simp <;> with_reducible rfl
      simp only [Act.put, List.setIfInBounds_toArray, List.set_cons_zero, List.set_cons_succ]
      refine held_take (i := 18) (d := (some 73)) (v := ?_) rfl rfl (by kernel_rfl) (by kernel_rfl) (by kernel_rfl) (fun _ _ _ h => h) (by rfl) ?_ hS ?_
      rotate_left
      · intro w' hSw; (try dsimp only at hSw); go_simp <;> with_reducible rfl
      simp only [Act.put, List.setIfInBounds_toArray, List.set_cons_zero, List.set_cons_succ]
      refine held_take (i := 19) (d := (some 74)) (v := ?_) rfl rfl (by kernel_rfl) (by kernel_rfl) (by kernel_rfl) (fun _ _ _ h => h) (by rfl) ?_ hS ?_
      rotate_left
      · intro w' hSw; (try dsimp only at hSw); go_simp <;> with_reducible rfl
      simp only [Act.put, List.setIfInBounds_toArray, List.set_cons_zero, List.set_cons_succ]
      refine held_take (i := 20) (d := (some 75)) (v := ?_) rfl rfl (by kernel_rfl) (by kernel_rfl) (by kernel_rfl) (fun _ _ _ h => h) (by rfl) ?_ hS ?_
      rotate_left
      · intro w' hSw; (try dsimp only at hSw); go_simp <;> with_reducible rfl
      simp only [Act.put, List.setIfInBounds_toArray, List.set_cons_zero, List.set_cons_succ]
      refine held_take (i := 21) (d := (some 76)) (v := ?_) rfl rfl (by kernel_rfl) (by kernel_rfl) (by kernel_rfl) (fun _ _ _ h => h) (by rfl) ?_ hS ?_
      rotate_left
      · intro w' hSw; (try dsimp only at hSw); go_simp <;> with_reducible rfl
      simp only [Act.put, List.setIfInBounds_toArray, List.set_cons_zero, List.set_cons_succ]
      refine held_take (i := 22) (d := (some 77)) (v := ?_) rfl rfl (by kernel_rfl) (by kernel_rfl) (by kernel_rfl) (fun _ _ _ h => h) (by rfl) ?_ hS ?_
      rotate_left
      · intro w' hSw; (try dsimp only at hSw); go_simp <;> with_reducible rfl
      simp only [Act.put, List.setIfInBounds_toArray, List.set_cons_zero, List.set_cons_succ]
      refine held_take (i := 23) (d := (some 78)) (v := ?_) rfl rfl (by kernel_rfl) (by kernel_rfl) (by kernel_rfl) (fun _ _ _ h => h) (by rfl) ?_ hS ?_
      rotate_left
      · intro w' hSw; (try dsimp only at hSw); go_simp <;> with_reducible rfl
      simp only [Act.put, List.setIfInBounds_toArray, List.set_cons_zero, List.set_cons_succ]
      refine held_take (i := 24) (d := (some 79)) (v := ?_) rfl rfl (by kernel_rfl) (by kernel_rfl) (by kernel_rfl) (fun _ _ _ h => h) (by rfl) ?_ hS ?_
      rotate_left
      · intro w' hSw; (try dsimp only at hSw); go_simp <;> with_reducible rfl
      simp only [Act.put, List.setIfInBounds_toArray, List.set_cons_zero, List.set_cons_succ]
      refine held_take (i := 25) (d := (some 80)) (v := ?_) rfl rfl (by kernel_rfl) (by kernel_rfl) (by kernel_rfl) (fun _ _ _ h => h) (by rfl) ?_ hS ?_
      rotate_left
      · intro w' hSw; (try dsimp only at hSw); go_simp <;> with_reducible rfl
      simp only [Act.put, List.setIfInBounds_toArray, List.set_cons_zero, List.set_cons_succ]
      refine held_take (i := 26) (d := (some 81)) (v := ?_) rfl rfl (by kernel_rfl) (by kernel_rfl) (by kernel_rfl) (fun _ _ _ h => h) (by rfl) ?_ hS ?_
      rotate_left
      · intro w' hSw; have kb := hSw.out; clear hSw; have z7 := ((P.out.older (older_below kb)).cell 7).trans (show _ = some (.string ⟨l.toArray⟩) from rfl); clear kb; go_simp <;> with_reducible rfl
      simp only [Act.put, List.setIfInBounds_toArray, List.set_cons_zero, List.set_cons_succ]
      refine held_take (i := 27) (d := (some 82)) (v := ?_) rfl rfl (by kernel_rfl) (by kernel_rfl) (by kernel_rfl) (fun _ _ _ h => h) (by rfl) ?_ hS ?_
      rotate_left
      · intro w' hSw; (try dsimp only at hSw); go_simp <;> with_reducible rfl
      simp only [Act.put, List.setIfInBounds_toArray, List.set_cons_zero, List.set_cons_succ]
      refine held_take (i := 28) (d := (some 83)) (v := ?_) rfl rfl (by kernel_rfl) (by kernel_rfl) (by kernel_rfl) (fun _ _ _ h => h) (by rfl) ?_ hS ?_
      rotate_left
      · intro w' hSw; (try dsimp only at hSw); go_simp <;> with_reducible rfl
      simp only [Act.put, List.setIfInBounds_toArray, List.set_cons_zero, List.set_cons_succ]
      refine held_take (i := 29) (d := (some 84)) (v := ?_) rfl rfl (by kernel_rfl) (by kernel_rfl) (by kernel_rfl) (fun _ _ _ h => h) (by rfl) ?_ hS ?_
      rotate_left
      · intro w' hSw; (try dsimp only at hSw); go_simp <;> with_reducible rfl
      simp only [Act.put, List.setIfInBounds_toArray, List.set_cons_zero, List.set_cons_succ]
      refine held_take (i := 30) (d := (some 85)) (v := ?_) rfl rfl (by kernel_rfl) (by kernel_rfl) (by kernel_rfl) (fun _ _ _ h => h) (by rfl) ?_ hS ?_
      rotate_left
      · intro w' hSw; (try dsimp only at hSw); go_simp <;> with_reducible rfl
      simp only [Act.put, List.setIfInBounds_toArray, List.set_cons_zero, List.set_cons_succ]
      refine held_take (i := 31) (d := (some 86)) (v := ?_) rfl rfl (by kernel_rfl) (by kernel_rfl) (by kernel_rfl) (fun _ _ _ h => h) (by rfl) ?_ hS ?_
      rotate_left
      · intro w' hSw; (try dsimp only at hSw); go_simp <;> with_reducible rfl
      simp only [Act.put, List.setIfInBounds_toArray, List.set_cons_zero, List.set_cons_succ]
      refine held_take (i := 32) (d := (some 87)) (v := ?_) rfl rfl (by kernel_rfl) (by kernel_rfl) (by kernel_rfl) (fun _ _ _ h => h) (by rfl) ?_ hS ?_
      rotate_left
      · intro w' hSw; (try dsimp only at hSw); go_simp <;> with_reducible rfl
      simp only [Act.put, List.setIfInBounds_toArray, List.set_cons_zero, List.set_cons_succ]
      refine held_take (i := 33) (d := (some 88)) (v := ?_) rfl rfl (by kernel_rfl) (by kernel_rfl) (by kernel_rfl) (fun _ _ _ h => h) (by rfl) ?_ hS ?_
      rotate_left
      · intro w' hSw; (try dsimp only at hSw); go_simp <;> with_reducible rfl
      simp only [Act.put, List.setIfInBounds_toArray, List.set_cons_zero, List.set_cons_succ]
      refine wpAnyH_done (by kernel_rfl) ?_ _
      go_wp2
      go_meet
      exact ⟨rfl, hS⟩
    · have he' : (er == 0) = false := by simpa using he
      refine wp_region_held_drew (S := fun w' => Hid (Below W.heap.size W w')) (by kernel_rfl) (Lib.hid ((Below.refl W.heap.size W).drew)) (fun hS => ?_)
      refine held_take (i := 0) (d := (some 55)) (v := ?_) rfl rfl (by kernel_rfl) (by kernel_rfl) (by kernel_rfl) (fun _ _ _ h => h) (by rfl) ?_ hS ?_
      rotate_left
      · intro w' hSw; (try dsimp only at hSw); go_simp <;> with_reducible rfl
      simp only [Act.put, List.setIfInBounds_toArray, List.set_cons_zero, List.set_cons_succ]
      refine held_take (i := 1) (d := (some 56)) (v := ?_) rfl rfl (by kernel_rfl) (by kernel_rfl) (by kernel_rfl) (fun _ _ _ h => h) (by rfl) ?_ hS ?_
      rotate_left
      · intro w' hSw; (try dsimp only at hSw); go_simp <;> with_reducible rfl
      simp only [Act.put, List.setIfInBounds_toArray, List.set_cons_zero, List.set_cons_succ]
      refine held_take (i := 2) (d := (some 57)) (v := ?_) rfl rfl (by kernel_rfl) (by kernel_rfl) (by kernel_rfl) (fun _ _ _ h => h) (by rfl) ?_ hS ?_
      rotate_left
      · intro w' hSw; (try dsimp only at hSw); go_simp <;> with_reducible rfl
      simp only [Act.put, List.setIfInBounds_toArray, List.set_cons_zero, List.set_cons_succ]
      refine held_take (i := 3) (d := (some 58)) (v := ?_) rfl rfl (by kernel_rfl) (by kernel_rfl) (by kernel_rfl) (fun _ _ _ h => h) (by rfl) ?_ hS ?_
      rotate_left
      · intro w' hSw; (try dsimp only at hSw); go_simp <;> with_reducible rfl
      simp only [Act.put, List.setIfInBounds_toArray, List.set_cons_zero, List.set_cons_succ]
      refine held_take (i := 4) (d := (some 59)) (v := ?_) rfl rfl (by kernel_rfl) (by kernel_rfl) (by kernel_rfl) (fun _ _ _ h => h) (by rfl) ?_ hS ?_
      rotate_left
      · intro w' hSw; (try dsimp only at hSw); go_simp <;> with_reducible rfl
      simp only [Act.put, List.setIfInBounds_toArray, List.set_cons_zero, List.set_cons_succ]
      refine held_take (i := 5) (d := (some 60)) (v := ?_) rfl rfl (by kernel_rfl) (by kernel_rfl) (by kernel_rfl) (fun _ _ _ h => h) (by rfl) ?_ hS ?_
      rotate_left
      · intro w' hSw; (try dsimp only at hSw); go_simp <;> with_reducible rfl
      simp only [Act.put, List.setIfInBounds_toArray, List.set_cons_zero, List.set_cons_succ]
      refine held_take (i := 6) (d := (some 61)) (v := ?_) rfl rfl (by kernel_rfl) (by kernel_rfl) (by kernel_rfl) (fun _ _ _ h => h) (by rfl) ?_ hS ?_
      rotate_left
      · intro w' hSw; (try dsimp only at hSw); go_simp <;> with_reducible rfl
      simp only [Act.put, List.setIfInBounds_toArray, List.set_cons_zero, List.set_cons_succ]
      refine held_take (i := 7) (d := (some 62)) (v := ?_) rfl rfl (by kernel_rfl) (by kernel_rfl) (by kernel_rfl) (fun _ _ _ h => h) (by rfl) ?_ hS ?_
      rotate_left
      · intro w' hSw; (try dsimp only at hSw); go_simp <;> with_reducible rfl
      simp only [Act.put, List.setIfInBounds_toArray, List.set_cons_zero, List.set_cons_succ]
      refine held_take (i := 8) (d := (some 63)) (v := .bool false) rfl rfl (by kernel_rfl) (by kernel_rfl) (by kernel_rfl) (fun _ _ _ h => h) (by rfl) (by intro w' hSw; clear hSw; go_simp; omega) hS ?_
      simp only [Act.put, List.setIfInBounds_toArray, List.set_cons_zero, List.set_cons_succ]
      refine held_take (i := 9) (d := (some 64)) (v := ?_) rfl rfl (by kernel_rfl) (by kernel_rfl) (by kernel_rfl) (fun _ _ _ h => h) (by rfl) ?_ hS ?_
      rotate_left
      · intro w' hSw; (try dsimp only at hSw); go_simp <;> with_reducible rfl
      simp only [Act.put, List.setIfInBounds_toArray, List.set_cons_zero, List.set_cons_succ]
      refine held_take (i := 10) (d := (some 65)) (v := ?_) rfl rfl (by kernel_rfl) (by kernel_rfl) (by kernel_rfl) (fun _ _ _ h => h) (by rfl) ?_ hS ?_
      rotate_left
      · intro w' hSw; (try dsimp only at hSw); go_simp <;> with_reducible rfl
      simp only [Act.put, List.setIfInBounds_toArray, List.set_cons_zero, List.set_cons_succ]
      refine held_take (i := 11) (d := (some 66)) (v := ?_) rfl rfl (by kernel_rfl) (by kernel_rfl) (by kernel_rfl) (fun _ _ _ h => h) (by rfl) ?_ hS ?_
      rotate_left
      · intro w' hSw; (try dsimp only at hSw); go_simp <;> with_reducible rfl
      simp only [Act.put, List.setIfInBounds_toArray, List.set_cons_zero, List.set_cons_succ]
      refine held_take (i := 12) (d := (some 67)) (v := ?_) rfl rfl (by kernel_rfl) (by kernel_rfl) (by kernel_rfl) (fun _ _ _ h => h) (by rfl) ?_ hS ?_
      rotate_left
      · intro w' hSw; have TX := told_str (SA.out.below hSw.out); clear hSw; go_simp <;> with_reducible rfl
      simp only [Act.put, List.setIfInBounds_toArray, List.set_cons_zero, List.set_cons_succ]
      refine held_take (i := 13) (d := (some 68)) (v := ?_) rfl rfl (by kernel_rfl) (by kernel_rfl) (by kernel_rfl) (fun _ _ _ h => h) (by rfl) ?_ hS ?_
      rotate_left
      · intro w' hSw; (try dsimp only at hSw); go_simp <;> with_reducible rfl
      simp only [Act.put, List.setIfInBounds_toArray, List.set_cons_zero, List.set_cons_succ]
      refine held_take (i := 14) (d := (some 69)) (v := ?_) rfl rfl (by kernel_rfl) (by kernel_rfl) (by kernel_rfl) (fun _ _ _ h => h) (by rfl) ?_ hS ?_
      rotate_left
      · intro w' hSw; (try dsimp only at hSw); go_simp <;> with_reducible rfl
      simp only [Act.put, List.setIfInBounds_toArray, List.set_cons_zero, List.set_cons_succ]
      refine held_take (i := 15) (d := (some 70)) (v := ?_) rfl rfl (by kernel_rfl) (by kernel_rfl) (by kernel_rfl) (fun _ _ _ h => h) (by rfl) ?_ hS ?_
      rotate_left
      · intro w' hSw; (try dsimp only at hSw); go_simp <;> with_reducible rfl
      simp only [Act.put, List.setIfInBounds_toArray, List.set_cons_zero, List.set_cons_succ]
      refine held_take (i := 16) (d := (some 71)) (v := .string ⟨X.toArray⟩) rfl rfl (by kernel_rfl) (by kernel_rfl) (by kernel_rfl) (fun _ _ _ h => h) (by rfl) (fun w' _ => exec_slice Try.underlying9 (y := .string ⟨R.toArray⟩) (lo' := none) (hi' := some (.int .i64 (X.length : Int))) rfl rfl rfl rfl (FT.out w')) hS ?_
      simp only [Act.put, List.setIfInBounds_toArray, List.set_cons_zero, List.set_cons_succ]
      refine held_take (i := 17) (d := (some 72)) (v := ?_) rfl rfl (by kernel_rfl) (by kernel_rfl) (by kernel_rfl) (fun _ _ _ h => h) (by rfl) ?_ hS ?_
      rotate_left
      · intro w' hSw; (try dsimp only at hSw); go_simp <;> with_reducible rfl
      simp only [Act.put, List.setIfInBounds_toArray, List.set_cons_zero, List.set_cons_succ]
      refine held_take (i := 18) (d := (some 73)) (v := ?_) rfl rfl (by kernel_rfl) (by kernel_rfl) (by kernel_rfl) (fun _ _ _ h => h) (by rfl) ?_ hS ?_
      rotate_left
      · intro w' hSw; (try dsimp only at hSw); go_simp <;> with_reducible rfl
      simp only [Act.put, List.setIfInBounds_toArray, List.set_cons_zero, List.set_cons_succ]
      refine held_take (i := 19) (d := (some 74)) (v := ?_) rfl rfl (by kernel_rfl) (by kernel_rfl) (by kernel_rfl) (fun _ _ _ h => h) (by rfl) ?_ hS ?_
      rotate_left
      · intro w' hSw; (try dsimp only at hSw); go_simp <;> with_reducible rfl
      simp only [Act.put, List.setIfInBounds_toArray, List.set_cons_zero, List.set_cons_succ]
      refine held_take (i := 20) (d := (some 75)) (v := ?_) rfl rfl (by kernel_rfl) (by kernel_rfl) (by kernel_rfl) (fun _ _ _ h => h) (by rfl) ?_ hS ?_
      rotate_left
      · intro w' hSw; (try dsimp only at hSw); go_simp <;> with_reducible rfl
      simp only [Act.put, List.setIfInBounds_toArray, List.set_cons_zero, List.set_cons_succ]
      refine held_take (i := 21) (d := (some 76)) (v := .bool false) rfl rfl (by kernel_rfl) (by kernel_rfl) (by kernel_rfl) (fun _ _ _ h => h) (by rfl) (by intro w' hSw; clear hSw; go_simp) hS ?_
      simp only [Act.put, List.setIfInBounds_toArray, List.set_cons_zero, List.set_cons_succ]
      refine held_take (i := 22) (d := (some 77)) (v := ?_) rfl rfl (by kernel_rfl) (by kernel_rfl) (by kernel_rfl) (fun _ _ _ h => h) (by rfl) ?_ hS ?_
      rotate_left
      · intro w' hSw; (try dsimp only at hSw); go_simp <;> with_reducible rfl
      simp only [Act.put, List.setIfInBounds_toArray, List.set_cons_zero, List.set_cons_succ]
      refine held_skip (i := 23) (d := (some 78)) rfl rfl (by kernel_rfl) (by kernel_rfl) (by kernel_rfl) (fun _ _ _ h => h) (by rfl) hS ?_
      simp only [Act.put, List.setIfInBounds_toArray, List.set_cons_zero, List.set_cons_succ]
      refine held_skip (i := 24) (d := (some 79)) rfl rfl (by kernel_rfl) (by kernel_rfl) (by kernel_rfl) (fun _ _ _ h => h) (by rfl) hS ?_
      simp only [Act.put, List.setIfInBounds_toArray, List.set_cons_zero, List.set_cons_succ]
      refine held_skip (i := 25) (d := (some 80)) rfl rfl (by kernel_rfl) (by kernel_rfl) (by kernel_rfl) (fun _ _ _ h => h) (by rfl) hS ?_
      simp only [Act.put, List.setIfInBounds_toArray, List.set_cons_zero, List.set_cons_succ]
      refine held_skip (i := 26) (d := (some 81)) rfl rfl (by kernel_rfl) (by kernel_rfl) (by kernel_rfl) (fun _ _ _ h => h) (by rfl) hS ?_
      simp only [Act.put, List.setIfInBounds_toArray, List.set_cons_zero, List.set_cons_succ]
      refine held_skip (i := 27) (d := (some 82)) rfl rfl (by kernel_rfl) (by kernel_rfl) (by kernel_rfl) (fun _ _ _ h => h) (by rfl) hS ?_
      simp only [Act.put, List.setIfInBounds_toArray, List.set_cons_zero, List.set_cons_succ]
      refine held_skip (i := 28) (d := (some 83)) rfl rfl (by kernel_rfl) (by kernel_rfl) (by kernel_rfl) (fun _ _ _ h => h) (by rfl) hS ?_
      simp only [Act.put, List.setIfInBounds_toArray, List.set_cons_zero, List.set_cons_succ]
      refine held_skip (i := 29) (d := (some 84)) rfl rfl (by kernel_rfl) (by kernel_rfl) (by kernel_rfl) (fun _ _ _ h => h) (by rfl) hS ?_
      simp only [Act.put, List.setIfInBounds_toArray, List.set_cons_zero, List.set_cons_succ]
      refine held_skip (i := 30) (d := (some 85)) rfl rfl (by kernel_rfl) (by kernel_rfl) (by kernel_rfl) (fun _ _ _ h => h) (by rfl) hS ?_
      simp only [Act.put, List.setIfInBounds_toArray, List.set_cons_zero, List.set_cons_succ]
      refine held_skip (i := 31) (d := (some 86)) rfl rfl (by kernel_rfl) (by kernel_rfl) (by kernel_rfl) (fun _ _ _ h => h) (by rfl) hS ?_
      simp only [Act.put, List.setIfInBounds_toArray, List.set_cons_zero, List.set_cons_succ]
      refine held_take (i := 32) (d := (some 87)) (v := ?_) rfl rfl (by kernel_rfl) (by kernel_rfl) (by kernel_rfl) (fun _ _ _ h => h) (by rfl) ?_ hS ?_
      rotate_left
      · intro w' hSw; (try dsimp only at hSw); go_simp <;> with_reducible rfl
      simp only [Act.put, List.setIfInBounds_toArray, List.set_cons_zero, List.set_cons_succ]
      refine held_take (i := 33) (d := (some 88)) (v := ?_) rfl rfl (by kernel_rfl) (by kernel_rfl) (by kernel_rfl) (fun _ _ _ h => h) (by rfl) ?_ hS ?_
      rotate_left
      · intro w' hSw; (try dsimp only at hSw); go_simp <;> with_reducible rfl
      simp only [Act.put, List.setIfInBounds_toArray, List.set_cons_zero, List.set_cons_succ]
      refine wpAnyH_done (by kernel_rfl) ?_ _
      go_wp2
      go_meet
      exact ⟨rfl, hS⟩
  case rest =>
    obtain ⟨rfl, h6⟩ := hcut
    clear HT LX SA
    go_upto_region 10 with fail
    go_cut [19] (fun v wx => ∃ mb, v = .bool mb ∧ Hid (mb = (geZ x && le30 x && geZ y && le30 y)) ∧ Hid (Below W.heap.size W wx))
    case first =>
      cases t0 : geZ x with
      | false =>
        have yt0 : (FloatKind.f64.format.order x 0 == some .gt || FloatKind.f64.format.order x 0 == some .eq) = false := t0
        have HB := Lib.hid (show false = (geZ x && le30 x && geZ y && le30 y) from by rw [t0]; simp)
        clear t0
        go_wp2
        go_meet
        exact ⟨_, rfl, HB, h6⟩
      | true =>
        have yt0 : (FloatKind.f64.format.order x 0 == some .gt || FloatKind.f64.format.order x 0 == some .eq) = true := t0
        cases t1 : le30 x with
        | false =>
          have yt1 : (FloatKind.f64.format.order x 4742290407621132288 == some .lt || FloatKind.f64.format.order x 4742290407621132288 == some .eq) = false := t1
          have HB := Lib.hid (show false = (geZ x && le30 x && geZ y && le30 y) from by rw [t0, t1]; simp)
          clear t0 t1
          go_wp2
          go_meet
          exact ⟨_, rfl, HB, h6⟩
        | true =>
          have yt1 : (FloatKind.f64.format.order x 4742290407621132288 == some .lt || FloatKind.f64.format.order x 4742290407621132288 == some .eq) = true := t1
          cases t2 : geZ y with
          | false =>
            have yt2 : (FloatKind.f64.format.order y 0 == some .gt || FloatKind.f64.format.order y 0 == some .eq) = false := t2
            have HB := Lib.hid (show false = (geZ x && le30 x && geZ y && le30 y) from by rw [t0, t1, t2]; simp)
            clear t0 t1 t2
            go_wp2
            go_meet
            exact ⟨_, rfl, HB, h6⟩
          | true =>
            have yt2 : (FloatKind.f64.format.order y 0 == some .gt || FloatKind.f64.format.order y 0 == some .eq) = true := t2
            cases t3 : le30 y with
            | false =>
              have yt3 : (FloatKind.f64.format.order y 4742290407621132288 == some .lt || FloatKind.f64.format.order y 4742290407621132288 == some .eq) = false := t3
              have HB := Lib.hid (show false = (geZ x && le30 x && geZ y && le30 y) from by rw [t0, t1, t2, t3]; simp)
              clear t0 t1 t2 t3
              go_wp2
              go_meet
              exact ⟨_, rfl, HB, h6⟩
            | true =>
              have yt3 : (FloatKind.f64.format.order y 4742290407621132288 == some .lt || FloatKind.f64.format.order y 4742290407621132288 == some .eq) = true := t3
              have HB := Lib.hid (show true = (geZ x && le30 x && geZ y && le30 y) from by rw [t0, t1, t2, t3]; rfl)
              clear t0 t1 t2 t3
              go_wp2
              go_meet
              exact ⟨_, rfl, HB, h6⟩
    case rest =>
      obtain ⟨mb, rfl, hmb, h7⟩ := hcut
      clear h6
      go_upto_if 103 with fail
      go_cut [19] (fun v wx => ∃ mb2, v = .bool mb2 ∧ Hid (gt30 x = false → gt30 y = false → mb2 = smB x y) ∧ Hid (Below W.heap.size W wx))
      case first =>
        replace hmb := hmb.out
        cases mb with
        | false =>
          have HF := Lib.hid (show gt30 x = false → gt30 y = false → false = smB x y from fun hx hy => by rw [may_30 hx hy, ← hmb]; rfl)
          clear hmb
          go_wp2
          go_meet
          exact ⟨_, rfl, HF, h7⟩
        | true =>
          replace hmb := hmb.symm
          simp only [Bool.and_eq_true] at hmb
          obtain ⟨⟨⟨h1, h2⟩, h3⟩, h4⟩ := hmb
          have k2 := le30_le40 h2
          have k4 := le30_le40 h4
          obtain ⟨n1, hn1, t1, _, e1, r1⟩ := between h1 k2
          obtain ⟨n2, hn2, t2, _, e2, r2⟩ := between h3 k4
          have W1 : wholeB x = (Ieee.double.order (fl n1) x == some .eq) := by unfold wholeB; rw [h1, k2, e1]; rfl
          have W2 : wholeB y = (Ieee.double.order (fl n2) y == some .eq) := by unfold wholeB; rw [h3, k4, e2]; rfl
          have HM := Lib.hid (show gt30 x = false → gt30 y = false → ((Ieee.double.order (fl n1) x == some .eq) && (Ieee.double.order (fl n2) y == some .eq)) = smB x y from fun hx hy => by rw [may_30 hx hy, h1, h2, h3, h4, W1, W2]; rfl)
          have cx := fun w => run_convert_float_int (P := Try.prog) w 39 2 .f64 .i64 x n1 (by kernel_rfl) Try.underlying2 (conv_of t1 (by omega) (by omega))
          have cy := fun w => run_convert_float_int (P := Try.prog) w 39 2 .f64 .i64 y n2 (by kernel_rfl) Try.underlying2 (conv_of t2 (by omega) (by omega))
          clear h1 h2 h3 h4 k2 k4 t1 t2 e1 e2 r1 r2 W1 W2
          cases E1 : (Ieee.double.order (fl n1) x == some .eq) with
          | false =>
            have q1 : (FloatKind.f64.format.order (floatOfInt .f64 (n1 : Int)) x == some .eq) = false := E1
            rw [E1] at HM
            clear E1
            go_wp2
            go_meet
            exact ⟨_, rfl, HM, h7⟩
          | true =>
            have q1 : (FloatKind.f64.format.order (floatOfInt .f64 (n1 : Int)) x == some .eq) = true := E1
            rw [E1] at HM
            clear E1
            cases E2 : (Ieee.double.order (fl n2) y == some .eq) with
            | false =>
              have q2 : (FloatKind.f64.format.order (floatOfInt .f64 (n2 : Int)) y == some .eq) = false := E2
              rw [E2] at HM
              clear E2
              go_wp2
              go_meet
              exact ⟨_, rfl, HM, h7⟩
            | true =>
              have q2 : (FloatKind.f64.format.order (floatOfInt .f64 (n2 : Int)) y == some .eq) = true := E2
              rw [E2] at HM
              clear E2
              go_wp2
              go_meet
              exact ⟨_, rfl, HM, h7⟩
      case rest =>
        obtain ⟨mb2, rfl, hm2, h8⟩ := hcut
        clear h7 hmb
        have B6 := Lib.hid (B5.out.trans (h8.out.mono B5.out.size))
        have P6 := Lib.hid (P.out.older (older_below h8.out))
        clear h8 P B5
        cases gx : gt30 x with
        | true =>
          have gx' : (FloatKind.f64.format.order x 4742290407621132288 == some .gt) = true := gx
          clear hm2 gx
          go_wp2
          go_ret
          exact ⟨rfl, B6.out⟩
        | false =>
          have gx' : (FloatKind.f64.format.order x 4742290407621132288 == some .gt) = false := gx
          cases gy : gt30 y with
          | true =>
            have gy' : (FloatKind.f64.format.order y 4742290407621132288 == some .gt) = true := gy
            clear hm2 gx gy
            go_wp2
            go_ret
            exact ⟨rfl, B6.out⟩
          | false =>
            have gy' : (FloatKind.f64.format.order y 4742290407621132288 == some .gt) = false := gy
            have HS := Lib.hid (hm2.out gx gy)
            clear hm2 gx gy
            have z0 := (P6.out.cell 0).trans (show _ = some (.int .u16 (f : Int)) from rfl)
            have z1 := (P6.out.cell 1).trans (show _ = some (.int .u16 (t : Int)) from rfl)
            have z2 := (P6.out.cell 2).trans (show _ = some (.int .u32 (q : Int)) from rfl)
            have z3 := (P6.out.cell 3).trans (show _ = some (.int .u32 (a : Int)) from rfl)
            have z4 := (P6.out.cell 4).trans (show _ = some (.int .i64 g) from rfl)
            have z5 := (P6.out.cell 5).trans (show _ = some (.int .u16 (wi : Int)) from rfl)
            have z6 := (P6.out.cell 6).trans (show _ = some (.int .i64 m) from rfl)
            have z7 := (P6.out.cell 7).trans (show _ = some (.string ⟨l.toArray⟩) from rfl)
            go_wp2_with fail
            refine (OF.out _).mono ?_; rintro e w7 ⟨A7, c7, rfl, s7, b7⟩
            have B7 := Lib.hid (B6.out.trans (b7.mono B6.out.size))
            have P7 := Lib.hid (P6.out.older (older_below b7))
            clear b7 s7 B6 P6 OF z0 z1 z2 z3 z4 z5 z6 z7
            go_wp2_with fail
            refine (HE.out A7 c7 w7).mono ?_; rintro e w8 ⟨⟨A8, n8, c8, rfl⟩, b8⟩
            rw [← HS.out]
            have B8 := Lib.hid (B7.out.trans (b8.mono B7.out.size))
            have P8 := Lib.hid (P7.out.older (older_below b8))
            clear b8 B7 P7 HE HS
            have z4 := (P8.out.cell 4).trans (show _ = some (.int .i64 g) from rfl)
            have z6 := (P8.out.cell 6).trans (show _ = some (.int .i64 m) from rfl)
            go_wp2_with fail
            refine (CH.out _).mono ?_; rintro e w9 ⟨rfl, b9⟩
            have B9 := Lib.hid (B8.out.trans (b9.mono B8.out.size))
            clear b9 B8 P8 CH z4 z6
            cases hfm : fmB g m with
            | false =>
              have q1 : ckR g m 0 = 1 := by unfold ckR; rw [hfm]; rfl
              have q2 : hdE g m n mb2 = 1 := by unfold hdE ckR; rw [hfm]; rfl
              rw [q1, q2]
              clear q1 q2 hfm
              go_wp2
              go_ret
              exact ⟨rfl, B9.out⟩
            | true =>
              have q1 : ckR g m 0 = 0 := by unfold ckR; rw [hfm]; rfl
              rw [q1]
              by_cases n0 : n < 0
              · have q3 : ckR g m n = 2 := by unfold ckR; rw [hfm, if_pos rfl, if_neg (by omega)]
                have q2 : hdE g m n mb2 = 2 := by unfold hdE; rw [q3]; rfl
                clear q3
                rw [q2]
                clear q1 q2 hfm
                go_wp2
                go_ret
                exact ⟨rfl, B9.out⟩
              by_cases n9 : n > 900
              · have q3 : ckR g m n = 2 := by unfold ckR; rw [hfm, if_pos rfl, if_neg (by omega)]
                have q2 : hdE g m n mb2 = 2 := by unfold hdE; rw [q3]; rfl
                clear q3
                rw [q2]
                clear q1 q2 hfm
                go_wp2
                go_ret
                exact ⟨rfl, B9.out⟩
              cases mb2 with
              | false =>
                have q3 : ckR g m n = 0 := by unfold ckR; rw [hfm, if_pos rfl, if_pos (by omega)]
                have q2 : hdE g m n false = 1 := by unfold hdE; rw [q3]; rfl
                clear q3
                rw [q2]
                clear q1 q2 hfm
                go_wp2
                go_ret
                exact ⟨rfl, B9.out⟩
              | true =>
                have q3 : ckR g m n = 0 := by unfold ckR; rw [hfm, if_pos rfl, if_pos (by omega)]
                have q2 : hdE g m n true = 0 := by unfold hdE; rw [q3]; rfl
                clear q3
                rw [q2]
                clear q1 q2 hfm
                go_wp2
                go_ret
                exact ⟨rfl, B9.out⟩

set_option maxRecDepth 100000 in
theorem lifted (os : Os) (started : os.Started) (H : Type) (enc : TypeId × Value → H) :
    ReturnsInHanded {} Try.checked os 4 .any (Rows.segPartsSpec.pre6 enc Try.prog Try.f4 Rows.segPartsRow.domain false) (Rows.segPartsSpec.post enc Try.prog Try.f4 false true false false) := by
  refine returnsInHanded_of_change (C := Try.checked) own started (by kernel_rfl) Try.func4
    (ChangeSpec.witness6 (enc := enc) (C := Try.checked) false ⟨#[], #[.agg #[.int .u16 0, .int .u16 0, .int .u32 0, .int .u32 0, .int .i64 0, .int .u16 0, .int .i64 0, .string ⟨#[]⟩], .int .u32 0, .int .u32 0, .float .f64 0, .float .f64 0, .int .i64 0], []⟩ 8 (by kernel_rfl) (by kernel_rfl) (by kernel_rfl) (by kernel_rfl)) ?_
  intro W base args ds gs before hval0 hW hcnd _
  have hval : ∀ (j : Nat) t v, Try.f4.params[j]? = some t → args[j]? = some v → Value.okWide Try.prog W .any base t v := hval0
  have hW' := hW
  obtain ⟨p, q, hA0, hV, rfl, hfz, hnd⟩ := hW
  have hA : DataW.TrodAll enc Try.prog W 0 (fun _ => true) true Try.f4.params.toList args.toList ds p := hA0
  rw [Try.params4] at hA hval
  obtain ⟨v0, vs0, d0, ds0, p0, q0, hargs, rfl, rfl, h0, r0⟩ := trodAll_cons hA
  obtain ⟨v1, vs1, d1, ds1, p1, q1, rfl, rfl, rfl, h1, r1⟩ := trodAll_cons r0
  obtain ⟨v2, vs2, d2, ds2, p2, q2, rfl, rfl, rfl, h2, r2⟩ := trodAll_cons r1
  obtain ⟨v3, vs3, d3, ds3, p3, q3, rfl, rfl, rfl, h3, r3⟩ := trodAll_cons r2
  obtain ⟨v4, vs4, d4, ds4, p4, q4, rfl, rfl, rfl, h4, r4⟩ := trodAll_cons r3
  obtain ⟨v5, vs5, d5, ds5, p5, q5, rfl, rfl, rfl, h5, r5⟩ := trodAll_cons r4
  obtain ⟨rfl, rfl, rfl⟩ := trodAll_nil r5
  obtain rfl : args = #[v0, v1, v2, v3, v4, v5] := by cases args; simp_all
  obtain ⟨a0_0, a0_1, a0_2, a0_3, a0_4, a0_5, a0_6, a0_7, rfl, w0_0, w0_1, w0_2, w0_3, w0_4, w0_5, w0_6, w0_7⟩ := Sg.open_sg (hval 0 25 v0 rfl rfl) h0
  obtain ⟨a1, rfl, _, _, w1⟩ := open_int Try.underlying23 (hval 1 23 v1 rfl rfl) h1
  obtain ⟨a2, rfl, _, _, w2⟩ := open_int Try.underlying23 (hval 2 23 v2 rfl rfl) h2
  obtain ⟨a3, rfl, _, _, w3⟩ := open_float Try.underlying39 (hval 3 39 v3 rfl rfl) h3
  obtain ⟨a4, rfl, _, _, w4⟩ := open_float Try.underlying39 (hval 4 39 v4 rfl rfl) h4
  obtain ⟨a5, rfl, _, _, w5⟩ := open_int Try.underlying3 (hval 5 3 v5 rfl rfl) h5
  clear hA0 hval0
  exact law_close hW' laidOut (by kernel_rfl) rfl Try.underlying4 rfl ⟨rfl, rfl, rfl⟩ (walk W a0_0 a0_1 a0_2 a0_3 a0_4 a0_5 a0_6 a0_7 w0_0 w0_1 w0_2 w0_3 w0_4 w0_5 w0_6 w0_7 a1 w1 a2 w2 a3 w3 a4 w4 a5 w5)

theorem over : Rows.segPartsRow.holds Try.pinned (OpenSpec.ofChange Rows.segPartsSpec) :=
  OpenClaim.holds_of_wide 4 Try.f4 rfl rfl rfl rfl rfl rfl rfl ⟨rfl, rfl, rfl, rfl, rfl⟩ rfl rfl rfl rfl rfl (by kernel_rfl) Try.func4 (by kernel_rfl)
    (of_decide_eq_true (by kernel_rfl)) (by unfold Func.isWrapper; first | (rw [if_pos (by decide +kernel)]; kernel_rfl) | (rw [if_neg (by decide +kernel)]; exact ⟨rfl, rfl⟩))
    (fun os started H enc _ => lifted os started H enc)

theorem proved : Rows.SegPartsSaid := over

end Go.Proofs.Ytgemmciokioaiaa.segParts
