/- Whatever packet and text come in, 'pantlerlaw14.EthBytes' returns true and leaves them as they were. No condition. -/
import Derived.Test.YtahmdogpnojcpaaEtC
namespace Go.Proofs.Ytahmdogpnojcpaa.ethBytes
open Go.ChangeShapes Go.WideShapes Go.ChangeAt Go.RowKit Go.Deep Rk Es Di Et
set_option linter.unusedVariables false


set_option maxRecDepth 100000 in
set_option maxHeartbeats 8000000 in
theorem walk (w : World) (t f y : Nat) (l : List UInt8) (ht : t ≤ 18446744073709551615) (hf : f ≤ 18446744073709551615) (hy : y ≤ 65535) (hl0 : l.length ≤ maxLen) (s : ByteArray) (ws : s.size ≤ maxLen) :
    Calls Try.prog 3 #[.agg (dpV t f y l), .string s] w fun e w' => e = .returned (.bool true) ∧ Below w.heap.size w w' := by
  obtain ⟨l2, rfl⟩ := text_of s
  have hsz : (⟨l.toArray⟩ : ByteArray).size = l.length := rfl
  have hsz2 : (⟨l2.toArray⟩ : ByteArray).size = l2.length := rfl
  rw [hsz2] at ws
  have b0 : Below w.heap.size w (w.alloc (.cells (dpV t f y l) 25)) := (Below.refl _ w).alloc (Nat.le_refl _) _
  have B0 := Lib.hid b0
  have P0 := Lib.hid (Blk.new w 25 (dpV t f y l))
  have AL := Lib.hid (fun W => alive_any W)
  clear b0
  go_enter Try.func3, Try.ntmps3
  go_upto_region 1 with fail
  generalize w.alloc (.cells (dpV t f y l) 25) = W at *
  go_wp2_with fail
  refine (AL.out W).mono ?_; rintro e w1 ⟨rfl, b1⟩
  have B1 := Lib.hid (B0.out.trans (b1.mono B0.out.size))
  have P1 := Lib.hid (P0.out.older (older_below b1))
  clear b1 AL B0 P0
  have z0 := (P1.out.cell 0).trans (show _ = some (.int .u64 (t : Int)) from rfl)
  have z1 := (P1.out.cell 1).trans (show _ = some (.int .u64 (f : Int)) from rfl)
  have z2 := (P1.out.cell 2).trans (show _ = some (.int .u16 (y : Int)) from rfl)
  have z3 := (P1.out.cell 3).trans (show _ = some (.string ⟨l.toArray⟩) from rfl)
  by_cases hl : (l.length : Int) > 3000
  · go_wp2
    go_ret
    exact ⟨rfl, B1.out⟩
  by_cases hl2 : (l2.length : Int) > 3000
  · go_wp2
    go_ret
    exact ⟨rfl, B1.out⟩
  have HL := Lib.hid (show l.length ≤ 3000 from by omega)
  have HL2 := Lib.hid (show l2.length ≤ 3000 from by omega)
  have OF := Lib.hid (fun W => of_any t f y l W (by have := HL.out; omega))
  go_wp2_with fail
  refine (OF.out w1).mono ?_; rintro e w2 ⟨A2, c2, rfl, s2, b2⟩
  have B2 := Lib.hid (B1.out.trans (b2.mono B1.out.size))
  have P2 := Lib.hid (P1.out.older (older_below b2))
  clear b2 B1 P1 z0 z1 z2 z3 s2
  go_wp2_with fail
  refine (head_any t f y ht hf hy A2 l.length c2 w2).mono ?_; rintro e w3 ⟨T, b3⟩
  obtain ⟨A3, c3, rfl, r3⟩ := T.form
  have SA3 := Lib.hid r3
  have B3 := Lib.hid (B2.out.trans (b3.mono B2.out.size))
  have P3 := Lib.hid (P2.out.older (older_below b3))
  clear T b3 B2 P2 r3
  have z0 := (P3.out.cell 0).trans (show _ = some (.int .u64 (t : Int)) from rfl)
  have z1 := (P3.out.cell 1).trans (show _ = some (.int .u64 (f : Int)) from rfl)
  have z2 := (P3.out.cell 2).trans (show _ = some (.int .u16 (y : Int)) from rfl)
  have z3 := (P3.out.cell 3).trans (show _ = some (.string ⟨l.toArray⟩) from rfl)
  go_wp2_with fail
  refine (OF.out w3).mono ?_; rintro e w4 ⟨A4, c4, rfl, s4, b4⟩
  have T4 := Lib.hid s4
  have B4 := Lib.hid (B3.out.trans (b4.mono B3.out.size))
  have P4 := Lib.hid (P3.out.older (older_below b4))
  have SA4 := Lib.hid (SA3.out.below b4)
  clear b4 B3 P3 SA3 s4 z0 z1 z2 z3
  go_wp2_with fail
  refine (bytes_any' t f y ht hf hy A4 l.length c4 l w4 T4.out (by have := HL.out; omega)).mono ?_; rintro e w5 ⟨T, b5⟩
  obtain ⟨A5, c5, rfl, r5⟩ := T.form
  have SB5 := Lib.hid r5
  have B5 := Lib.hid (B4.out.trans (b5.mono B4.out.size))
  have P5 := Lib.hid (P4.out.older (older_below b5))
  have SA5 := Lib.hid (SA4.out.below b5)
  clear T b5 B4 P4 SA4 T4 r5 OF
  obtain ⟨A6, c6, w6, hconv, hs, hb, -⟩ := conv_src ⟨l2.toArray⟩ (by rw [hsz2]; have := HL2.out; omega) w5
  have hconv : (convert 9 27 (.string ⟨l2.toArray⟩)).run Try.prog w5 = .ok (.slice A6 l2.length c6) w6 := hconv
  have S6 := Lib.hid (show Src w6 A6 l2.length c6 l2 from hs)
  have B6 := Lib.hid (B5.out.trans (hb.mono B5.out.size))
  have P6 := Lib.hid (P5.out.older (older_below hb))
  have SA6 := Lib.hid (SA5.out.below hb)
  have SB6 := Lib.hid (SB5.out.below hb)
  clear hs hb SA5 SB5 B5 P5
  obtain ⟨t2, f2, y2, lb, F1, F2⟩ := pk_form l2
  have F1 := Lib.hid F1
  have F2 := Lib.hid F2
  have PA := Lib.hid (fun W (h : Src W A6 l2.length c6 l2) => parse_any A6 l2.length c6 l2 W h (by have := HL2.out; omega))
  go_wp2_with fail
  refine (PA.out w6 S6.out).mono ?_; rintro e w7 ⟨T, b7⟩
  obtain ⟨Ac, cc, rfl, r7⟩ := F1.out w6 w7 e T
  have SC7 := Lib.hid r7
  have B7 := Lib.hid (B6.out.trans (b7.mono B6.out.size))
  have P7 := Lib.hid (P6.out.older (older_below b7))
  have SA7 := Lib.hid (SA6.out.below b7)
  have SB7 := Lib.hid (SB6.out.below b7)
  clear T b7 PA S6 B6 P6 SA6 SB6 F1 hconv r7
  have b8 : Below w7.heap.size w7 (w7.alloc (.cells (pkV t2 f2 y2 Ac lb.length cc) 32)) := (Below.refl _ w7).alloc (Nat.le_refl _) _
  have CB8 := Lib.hid (Blk.new w7 32 (pkV t2 f2 y2 Ac lb.length cc))
  have B8 := Lib.hid (B7.out.trans (b8.mono B7.out.size))
  have P8 := Lib.hid (P7.out.older (older_below b8))
  have SA8 := Lib.hid (SA7.out.below b8)
  have SB8 := Lib.hid (SB7.out.below b8)
  have SC8 := Lib.hid (SC7.out.below b8)
  clear b8 B7 P7 SA7 SB7 SC7
  go_upto_region 8 with fail
  generalize w7.alloc (.cells (pkV t2 f2 y2 Ac lb.length cc) 32) = w8 at *
  have z0 := (P8.out.cell 0).trans (show _ = some (.int .u64 (t : Int)) from rfl)
  have z1 := (P8.out.cell 1).trans (show _ = some (.int .u64 (f : Int)) from rfl)
  have z2 := (P8.out.cell 2).trans (show _ = some (.int .u16 (y : Int)) from rfl)
  have z3 := (P8.out.cell 3).trans (show _ = some (.string ⟨l.toArray⟩) from rfl)
  go_wp2_with fail
  refine (refHead_any t f y ht hf hy l w8).mono ?_; rintro e w9 ⟨T, b9⟩
  obtain rfl := T.form
  have B9 := Lib.hid (B8.out.trans (b9.mono B8.out.size))
  have P9 := Lib.hid (P8.out.older (older_below b9))
  have SA9 := Lib.hid (SA8.out.below b9)
  have SB9 := Lib.hid (SB8.out.below b9)
  have SC9 := Lib.hid (SC8.out.below b9)
  have CB9 := Lib.hid (CB8.out.older (older_below b9))
  clear T b9 B8 P8 SA8 SB8 SC8 CB8 z0 z1 z2 z3
  have z0 := (P9.out.cell 0).trans (show _ = some (.int .u64 (t : Int)) from rfl)
  have z1 := (P9.out.cell 1).trans (show _ = some (.int .u64 (f : Int)) from rfl)
  have z2 := (P9.out.cell 2).trans (show _ = some (.int .u16 (y : Int)) from rfl)
  have z3 := (P9.out.cell 3).trans (show _ = some (.string ⟨l.toArray⟩) from rfl)
  go_wp2_with fail
  refine (refBytes_any t f y ht hf hy l w9 (by have := HL.out; omega)).mono ?_; rintro e w10 ⟨T, b10⟩
  obtain rfl := T.form
  have B10 := Lib.hid (B9.out.trans (b10.mono B9.out.size))
  have P10 := Lib.hid (P9.out.older (older_below b10))
  have SA10 := Lib.hid (SA9.out.below b10)
  have SB10 := Lib.hid (SB9.out.below b10)
  have SC10 := Lib.hid (SC9.out.below b10)
  have CB10 := Lib.hid (CB9.out.older (older_below b10))
  clear T b10 B9 P9 SA9 SB9 SC9 CB9 z0 z1 z2 z3
  go_wp2_with fail
  refine (refParse_any l2 w10 (by have := HL2.out; omega)).mono ?_; rintro e w11 ⟨T, b11⟩
  obtain rfl := F2.out e T
  have B11 := Lib.hid (B10.out.trans (b11.mono B10.out.size))
  have P11 := Lib.hid (P10.out.older (older_below b11))
  have SA11 := Lib.hid (SA10.out.below b11)
  have SB11 := Lib.hid (SB10.out.below b11)
  have SC11 := Lib.hid (SC10.out.below b11)
  have CB11 := Lib.hid (CB10.out.older (older_below b11))
  clear T b11 B10 P10 SA10 SB10 SC10 CB10 F2
  have b12 : Below w11.heap.size w11 (w11.alloc (.cells (dpV t2 f2 y2 lb) 25)) := (Below.refl _ w11).alloc (Nat.le_refl _) _
  have DB := Lib.hid (Blk.new w11 25 (dpV t2 f2 y2 lb))
  have B12 := Lib.hid (B11.out.trans (b12.mono B11.out.size))
  have P12 := Lib.hid (P11.out.older (older_below b12))
  have SA12 := Lib.hid (SA11.out.below b12)
  have SB12 := Lib.hid (SB11.out.below b12)
  have SC12 := Lib.hid (SC11.out.below b12)
  have CB := Lib.hid (CB11.out.older (older_below b12))
  have SA := SA12
  have SB := SB12
  have SC := SC12
  clear b12 B11 P11 SA11 SB11 SC11 CB11 SA12 SB12 SC12
  go_upto_region 11 with fail
  generalize w11.alloc (.cells (dpV t2 f2 y2 lb) 25) = W at *
  generalize textOf (headMay t f) (headL t f y) = X at *
  generalize textOf (pkMay t f l.length) (headL t f y ++ l) = Y at *
  generalize errIf (headMay t f) 1 = er1 at *
  generalize errIf (pkMay t f l.length) (pkErr t f) = er2 at *
  generalize parErr l2.length = er3 at *
  have hS := Lib.hid ((Below.refl W.heap.size W).drew)
  refine wp_head_held (S := fun w' => Hid (Below W.heap.size W w')) 31 (by kernel_rfl) rfl rfl (by kernel_rfl) ?_
  simp only [List.take_succ_cons, List.take_zero, List.drop_succ_cons, List.drop_zero]
  refine held_take (i := 0) (d := (some 61)) (v := ?_) rfl rfl (by kernel_rfl) (by kernel_rfl) (by kernel_rfl) (fun _ _ _ h => h) (by rfl) ?_ hS ?_
  rotate_left
  · intro w' hSw; (try dsimp only at hSw); go_simp <;> with_reducible rfl
  simp only [Act.put, List.setIfInBounds_toArray, List.set_cons_zero, List.set_cons_succ]
  refine held_take (i := 1) (d := (some 62)) (v := ?_) rfl rfl (by kernel_rfl) (by kernel_rfl) (by kernel_rfl) (fun _ _ _ h => h) (by rfl) ?_ hS ?_
  rotate_left
  · intro w' hSw; have TX := told_str (SA.out.below hSw.out); clear hSw; go_simp <;> with_reducible rfl
  simp only [Act.put, List.setIfInBounds_toArray, List.set_cons_zero, List.set_cons_succ]
  refine held_take (i := 2) (d := (some 63)) (v := ?_) rfl rfl (by kernel_rfl) (by kernel_rfl) (by kernel_rfl) (fun _ _ _ h => h) (by rfl) ?_ hS ?_
  rotate_left
  · intro w' hSw; (try dsimp only at hSw); go_simp <;> with_reducible rfl
  simp only [Act.put, List.setIfInBounds_toArray, List.set_cons_zero, List.set_cons_succ]
  refine held_take (i := 3) (d := (some 64)) (v := ?_) rfl rfl (by kernel_rfl) (by kernel_rfl) (by kernel_rfl) (fun _ _ _ h => h) (by rfl) ?_ hS ?_
  rotate_left
  · intro w' hSw; (try dsimp only at hSw); go_simp <;> with_reducible rfl
  simp only [Act.put, List.setIfInBounds_toArray, List.set_cons_zero, List.set_cons_succ]
  refine held_take (i := 4) (d := (some 65)) (v := ?_) rfl rfl (by kernel_rfl) (by kernel_rfl) (by kernel_rfl) (fun _ _ _ h => h) (by rfl) ?_ hS ?_
  rotate_left
  · intro w' hSw; (try dsimp only at hSw); go_simp <;> with_reducible rfl
  simp only [Act.put, List.setIfInBounds_toArray, List.set_cons_zero, List.set_cons_succ]
  refine held_take (i := 5) (d := (some 66)) (v := ?_) rfl rfl (by kernel_rfl) (by kernel_rfl) (by kernel_rfl) (fun _ _ _ h => h) (by rfl) ?_ hS ?_
  rotate_left
  · intro w' hSw; (try dsimp only at hSw); go_simp <;> with_reducible rfl
  simp only [Act.put, List.setIfInBounds_toArray, List.set_cons_zero, List.set_cons_succ]
  refine held_take (i := 6) (d := (some 67)) (v := ?_) rfl rfl (by kernel_rfl) (by kernel_rfl) (by kernel_rfl) (fun _ _ _ h => h) (by rfl) ?_ hS ?_
  rotate_left
  · intro w' hSw; (try dsimp only at hSw); go_simp <;> with_reducible rfl
  simp only [Act.put, List.setIfInBounds_toArray, List.set_cons_zero, List.set_cons_succ]
  refine held_take (i := 7) (d := (some 68)) (v := ?_) rfl rfl (by kernel_rfl) (by kernel_rfl) (by kernel_rfl) (fun _ _ _ h => h) (by rfl) ?_ hS ?_
  rotate_left
  · intro w' hSw; (try dsimp only at hSw); go_simp <;> with_reducible rfl
  simp only [Act.put, List.setIfInBounds_toArray, List.set_cons_zero, List.set_cons_succ]
  refine held_take (i := 8) (d := (some 69)) (v := ?_) rfl rfl (by kernel_rfl) (by kernel_rfl) (by kernel_rfl) (fun _ _ _ h => h) (by rfl) ?_ hS ?_
  rotate_left
  · intro w' hSw; (try dsimp only at hSw); go_simp <;> with_reducible rfl
  simp only [Act.put, List.setIfInBounds_toArray, List.set_cons_zero, List.set_cons_succ]
  refine held_take (i := 9) (d := (some 70)) (v := ?_) rfl rfl (by kernel_rfl) (by kernel_rfl) (by kernel_rfl) (fun _ _ _ h => h) (by rfl) ?_ hS ?_
  rotate_left
  · intro w' hSw; (try dsimp only at hSw); go_simp <;> with_reducible rfl
  simp only [Act.put, List.setIfInBounds_toArray, List.set_cons_zero, List.set_cons_succ]
  refine held_take (i := 10) (d := (some 71)) (v := ?_) rfl rfl (by kernel_rfl) (by kernel_rfl) (by kernel_rfl) (fun _ _ _ h => h) (by rfl) ?_ hS ?_
  rotate_left
  · intro w' hSw; (try dsimp only at hSw); go_simp <;> with_reducible rfl
  simp only [Act.put, List.setIfInBounds_toArray, List.set_cons_zero, List.set_cons_succ]
  refine held_take (i := 11) (d := (some 72)) (v := ?_) rfl rfl (by kernel_rfl) (by kernel_rfl) (by kernel_rfl) (fun _ _ _ h => h) (by rfl) ?_ hS ?_
  rotate_left
  · intro w' hSw; have TX := told_str (SB.out.below hSw.out); clear hSw; go_simp <;> with_reducible rfl
  simp only [Act.put, List.setIfInBounds_toArray, List.set_cons_zero, List.set_cons_succ]
  refine held_take (i := 12) (d := (some 73)) (v := ?_) rfl rfl (by kernel_rfl) (by kernel_rfl) (by kernel_rfl) (fun _ _ _ h => h) (by rfl) ?_ hS ?_
  rotate_left
  · intro w' hSw; (try dsimp only at hSw); go_simp <;> with_reducible rfl
  simp only [Act.put, List.setIfInBounds_toArray, List.set_cons_zero, List.set_cons_succ]
  refine held_take (i := 13) (d := (some 74)) (v := ?_) rfl rfl (by kernel_rfl) (by kernel_rfl) (by kernel_rfl) (fun _ _ _ h => h) (by rfl) ?_ hS ?_
  rotate_left
  · intro w' hSw; (try dsimp only at hSw); go_simp <;> with_reducible rfl
  simp only [Act.put, List.setIfInBounds_toArray, List.set_cons_zero, List.set_cons_succ]
  refine held_take (i := 14) (d := (some 75)) (v := ?_) rfl rfl (by kernel_rfl) (by kernel_rfl) (by kernel_rfl) (fun _ _ _ h => h) (by rfl) ?_ hS ?_
  rotate_left
  · intro w' hSw; (try dsimp only at hSw); go_simp <;> with_reducible rfl
  simp only [Act.put, List.setIfInBounds_toArray, List.set_cons_zero, List.set_cons_succ]
  refine held_take (i := 15) (d := (some 76)) (v := ?_) rfl rfl (by kernel_rfl) (by kernel_rfl) (by kernel_rfl) (fun _ _ _ h => h) (by rfl) ?_ hS ?_
  rotate_left
  · intro w' hSw; (try dsimp only at hSw); go_simp <;> with_reducible rfl
  simp only [Act.put, List.setIfInBounds_toArray, List.set_cons_zero, List.set_cons_succ]
  refine held_take (i := 16) (d := (some 77)) (v := ?_) rfl rfl (by kernel_rfl) (by kernel_rfl) (by kernel_rfl) (fun _ _ _ h => h) (by rfl) ?_ hS ?_
  rotate_left
  · intro w' hSw; (try dsimp only at hSw); go_simp <;> with_reducible rfl
  simp only [Act.put, List.setIfInBounds_toArray, List.set_cons_zero, List.set_cons_succ]
  refine held_take (i := 17) (d := (some 78)) (v := ?_) rfl rfl (by kernel_rfl) (by kernel_rfl) (by kernel_rfl) (fun _ _ _ h => h) (by rfl) ?_ hS ?_
  rotate_left
  · intro w' hSw; (try dsimp only at hSw); go_simp <;> with_reducible rfl
  simp only [Act.put, List.setIfInBounds_toArray, List.set_cons_zero, List.set_cons_succ]
  refine held_take (i := 18) (d := (some 79)) (v := ?_) rfl rfl (by kernel_rfl) (by kernel_rfl) (by kernel_rfl) (fun _ _ _ h => h) (by rfl) ?_ hS ?_
  rotate_left
  · intro w' hSw; (try dsimp only at hSw); go_simp <;> with_reducible rfl
  simp only [Act.put, List.setIfInBounds_toArray, List.set_cons_zero, List.set_cons_succ]
  refine held_take (i := 19) (d := (some 80)) (v := ?_) rfl rfl (by kernel_rfl) (by kernel_rfl) (by kernel_rfl) (fun _ _ _ h => h) (by rfl) ?_ hS ?_
  rotate_left
  · intro w' hSw; (try dsimp only at hSw); go_simp <;> with_reducible rfl
  simp only [Act.put, List.setIfInBounds_toArray, List.set_cons_zero, List.set_cons_succ]
  refine held_take (i := 20) (d := (some 81)) (v := ?_) rfl rfl (by kernel_rfl) (by kernel_rfl) (by kernel_rfl) (fun _ _ _ h => h) (by rfl) ?_ hS ?_
  rotate_left
  · intro w' hSw; (try dsimp only at hSw); go_simp <;> with_reducible rfl
  simp only [Act.put, List.setIfInBounds_toArray, List.set_cons_zero, List.set_cons_succ]
  refine held_take (i := 21) (d := (some 82)) (v := ?_) rfl rfl (by kernel_rfl) (by kernel_rfl) (by kernel_rfl) (fun _ _ _ h => h) (by rfl) ?_ hS ?_
  rotate_left
  · intro w' hSw; have kb := hSw.out; clear hSw; have z0 := ((CB.out.older (older_below kb)).cell 0).trans (show _ = some (.int .u64 (t2 : Int)) from rfl); have z1 := ((CB.out.older (older_below kb)).cell 1).trans (show _ = some (.int .u64 (f2 : Int)) from rfl); have z2 := ((CB.out.older (older_below kb)).cell 2).trans (show _ = some (.int .u16 (y2 : Int)) from rfl); have z3 := ((CB.out.older (older_below kb)).cell 3).trans (show _ = some (.slice Ac lb.length cc) from rfl); clear kb; go_simp <;> with_reducible rfl
  simp only [Act.put, List.setIfInBounds_toArray, List.set_cons_zero, List.set_cons_succ]
  refine held_take (i := 23) (d := (some 84)) (v := ?_) rfl rfl (by kernel_rfl) (by kernel_rfl) (by kernel_rfl) (fun _ _ _ h => h) (by rfl) ?_ hS ?_
  rotate_left
  · intro w' hSw; have kb := hSw.out; clear hSw; have z0 := ((DB.out.older (older_below kb)).cell 0).trans (show _ = some (.int .u64 (t2 : Int)) from rfl); have z1 := ((DB.out.older (older_below kb)).cell 1).trans (show _ = some (.int .u64 (f2 : Int)) from rfl); have z2 := ((DB.out.older (older_below kb)).cell 2).trans (show _ = some (.int .u16 (y2 : Int)) from rfl); have z3 := ((DB.out.older (older_below kb)).cell 3).trans (show _ = some (.string ⟨lb.toArray⟩) from rfl); clear kb; go_simp <;> with_reducible rfl
  simp only [Act.put, List.setIfInBounds_toArray, List.set_cons_zero, List.set_cons_succ]
  refine held_one (i := 22) (by kernel_rfl) rfl (by rfl) ?_
  go_simp
  refine (to_any t2 f2 y2 Ac lb.length cc lb _ (SC.out.below hS.out)).mono ?_; rintro e wt ⟨rfl, bt⟩
  have BT := Lib.hid (hS.out.trans (bt.mono hS.out.size))
  have hS : Hid (Below W.heap.size W wt) := BT
  refine ⟨hS, ?_⟩
  clear bt
  (try simp only [Act.put, List.setIfInBounds_toArray, List.set_cons_zero, List.set_cons_succ])
  refine held_take (i := 24) (d := (some 85)) (v := ?_) rfl rfl (by kernel_rfl) (by kernel_rfl) (by kernel_rfl) (fun _ _ _ h => h) (by rfl) ?_ hS ?_
  rotate_left
  · intro w' hSw; (try dsimp only at hSw); go_simp <;> with_reducible rfl
  simp only [Act.put, List.setIfInBounds_toArray, List.set_cons_zero, List.set_cons_succ]
  refine held_take (i := 25) (d := (some 86)) (v := ?_) rfl rfl (by kernel_rfl) (by kernel_rfl) (by kernel_rfl) (fun _ _ _ h => h) (by rfl) ?_ hS ?_
  rotate_left
  · intro w' hSw; (try dsimp only at hSw); go_simp <;> with_reducible rfl
  simp only [Act.put, List.setIfInBounds_toArray, List.set_cons_zero, List.set_cons_succ]
  refine held_take (i := 26) (d := (some 87)) (v := ?_) rfl rfl (by kernel_rfl) (by kernel_rfl) (by kernel_rfl) (fun _ _ _ h => h) (by rfl) ?_ hS ?_
  rotate_left
  · intro w' hSw; (try dsimp only at hSw); go_simp <;> with_reducible rfl
  simp only [Act.put, List.setIfInBounds_toArray, List.set_cons_zero, List.set_cons_succ]
  refine held_take (i := 27) (d := (some 88)) (v := ?_) rfl rfl (by kernel_rfl) (by kernel_rfl) (by kernel_rfl) (fun _ _ _ h => h) (by rfl) ?_ hS ?_
  rotate_left
  · intro w' hSw; (try dsimp only at hSw); go_simp <;> with_reducible rfl
  simp only [Act.put, List.setIfInBounds_toArray, List.set_cons_zero, List.set_cons_succ]
  refine held_take (i := 28) (d := (some 89)) (v := ?_) rfl rfl (by kernel_rfl) (by kernel_rfl) (by kernel_rfl) (fun _ _ _ h => h) (by rfl) ?_ hS ?_
  rotate_left
  · intro w' hSw; (try dsimp only at hSw); go_simp <;> with_reducible rfl
  simp only [Act.put, List.setIfInBounds_toArray, List.set_cons_zero, List.set_cons_succ]
  refine held_take (i := 29) (d := (some 90)) (v := ?_) rfl rfl (by kernel_rfl) (by kernel_rfl) (by kernel_rfl) (fun _ _ _ h => h) (by rfl) ?_ hS ?_
  rotate_left
  · intro w' hSw; (try dsimp only at hSw); go_simp <;> with_reducible rfl
  simp only [Act.put, List.setIfInBounds_toArray, List.set_cons_zero, List.set_cons_succ]
  refine held_take (i := 30) (d := (some 91)) (v := ?_) rfl rfl (by kernel_rfl) (by kernel_rfl) (by kernel_rfl) (fun _ _ _ h => h) (by rfl) ?_ hS ?_
  rotate_left
  · intro w' hSw; (try dsimp only at hSw); go_simp <;> with_reducible rfl
  simp only [Act.put, List.setIfInBounds_toArray, List.set_cons_zero, List.set_cons_succ]
  refine wpAnyH_done (by kernel_rfl) ?_ _
  show wpList _ _ _ _ _ _
  have BZ := Lib.hid (B12.out.trans (hS.out.mono B12.out.size))
  go_wp2
  go_ret
  exact ⟨rfl, BZ.out⟩

set_option maxRecDepth 100000 in
theorem lifted (os : Os) (started : os.Started) (H : Type) (enc : TypeId × Value → H) :
    ReturnsInHanded {} Try.checked os 3 .any (Rows.ethBytesSpec.pre6 enc Try.prog Try.f3 Rows.ethBytesRow.domain false) (Rows.ethBytesSpec.post enc Try.prog Try.f3 false true false false) := by
  refine returnsInHanded_of_change (C := Try.checked) own started (by kernel_rfl) Try.func3
    (ChangeSpec.witness6 (enc := enc) (C := Try.checked) false ⟨#[], #[.agg #[.int .u64 0, .int .u64 0, .int .u16 0, .string ⟨#[]⟩], .string ⟨#[]⟩], []⟩ 8 (by kernel_rfl) (by kernel_rfl) (by kernel_rfl) (by kernel_rfl)) ?_
  intro W base args ds gs before hval0 hW hcnd _
  have hval : ∀ (j : Nat) t v, Try.f3.params[j]? = some t → args[j]? = some v → Value.okWide Try.prog W .any base t v := hval0
  have hW' := hW
  obtain ⟨p, q, hA0, hV, rfl, hfz, hnd⟩ := hW
  have hA : DataW.TrodAll enc Try.prog W 0 (fun _ => true) true Try.f3.params.toList args.toList ds p := hA0
  rw [Try.params3] at hA hval
  obtain ⟨v0, vs0, d0, ds0, p0, q0, hargs, rfl, rfl, h0, r0⟩ := trodAll_cons hA
  obtain ⟨v1, vs1, d1, ds1, p1, q1, rfl, rfl, rfl, h1, r1⟩ := trodAll_cons r0
  obtain ⟨rfl, rfl, rfl⟩ := trodAll_nil r1
  obtain rfl : args = #[v0, v1] := by cases args; simp_all
  obtain ⟨a0_0, a0_1, a0_2, a0_3, rfl, w0_0, w0_1, w0_2, w0_3⟩ := Et.open_pk (hval 0 25 v0 rfl rfl) h0
  obtain ⟨a1, rfl, _, _, w1⟩ := Go.ChangeMaps.open_string Try.underlying9 (hval 1 9 v1 rfl rfl) h1
  clear hA0 hval0
  exact law_close hW' laidOut (by kernel_rfl) rfl Try.underlying4 rfl ⟨rfl, rfl, rfl⟩ (walk W a0_0 a0_1 a0_2 a0_3 w0_0 w0_1 w0_2 w0_3 a1 w1)

theorem over : Rows.ethBytesRow.holds Try.pinned (OpenSpec.ofChange Rows.ethBytesSpec) :=
  OpenClaim.holds_of_wide 3 Try.f3 rfl rfl rfl rfl rfl rfl rfl ⟨rfl, rfl, rfl, rfl, rfl⟩ rfl rfl rfl rfl rfl (by kernel_rfl) Try.func3 (by kernel_rfl)
    (of_decide_eq_true (by kernel_rfl)) (by unfold Func.isWrapper; first | (rw [if_pos (by decide +kernel)]; kernel_rfl) | (rw [if_neg (by decide +kernel)]; exact ⟨rfl, rfl⟩))
    (fun os started H enc _ => lifted os started H enc)

theorem proved : Rows.EthBytesSaid := over

end Go.Proofs.Ytahmdogpnojcpaa.ethBytes
