/- Whatever echo comes in, 'pantlerlaw16.IcmpBack' returns true and leaves it as it was. No condition. -/
import Derived.Test.YtbjmclcnaagbnaaIcB
namespace Go.Proofs.Ytbjmclcnaagbnaa.icmpBack
open Go.ChangeShapes Go.WideShapes Go.ChangeAt Go.RowKit Go.Deep Rk Fl Gx Di Ic
set_option linter.unusedVariables false


set_option maxRecDepth 100000 in
set_option maxHeartbeats 8000000 in
theorem walk (w : World) (t : Int) (i q : Nat) (l : List UInt8) (ht : -9223372036854775808 ≤ t ∧ t ≤ 9223372036854775807) (hi : i ≤ 65535) (hq : q ≤ 65535) (hl0 : l.length ≤ maxLen) :
    Calls Try.prog 5 #[.agg (dcV t i q l)] w fun e w' => e = .returned (.bool true) ∧ Below w.heap.size w w' := by
  have hsz : (⟨l.toArray⟩ : ByteArray).size = l.length := rfl
  have b0 : Below w.heap.size w (w.alloc (.cells (dcV t i q l) 24)) := (Below.refl _ w).alloc (Nat.le_refl _) _
  have B0 := Lib.hid b0
  have P0 := Lib.hid (Blk.new w 24 (dcV t i q l))
  have AL := Lib.hid (fun W => Ic.alive_any W)
  clear b0
  go_enter Try.func5, Try.ntmps5
  go_upto_region 1 with fail
  generalize w.alloc (.cells (dcV t i q l) 24) = W at *
  go_wp2_with fail
  refine (AL.out W).mono ?_; rintro e w1 ⟨rfl, b1⟩
  have B1 := Lib.hid (B0.out.trans (b1.mono B0.out.size))
  have P1 := Lib.hid (P0.out.older (older_below b1))
  clear B0 P0
  clear b1 AL
  have z0 := (P1.out.cell 0).trans (show _ = some (.int .i64 t) from rfl)
  have z1 := (P1.out.cell 1).trans (show _ = some (.int .u16 (i : Int)) from rfl)
  have z2 := (P1.out.cell 2).trans (show _ = some (.int .u16 (q : Int)) from rfl)
  have z3 := (P1.out.cell 3).trans (show _ = some (.string ⟨l.toArray⟩) from rfl)
  by_cases hl : (l.length : Int) > 3000
  · go_wp2
    go_ret
    exact ⟨rfl, B1.out⟩
  have HL := Lib.hid (show l.length ≤ 3000 from by omega)
  have OF := Lib.hid (fun W => Ic.of_any t i q l W (by have := HL.out; omega))
  go_wp2_with fail
  refine (OF.out w1).mono ?_; rintro e w2 ⟨A2, c2, rfl, s2, b2⟩
  have S2 := Lib.hid s2
  have B2 := Lib.hid (B1.out.trans (b2.mono B1.out.size))
  have P2 := Lib.hid (P1.out.older (older_below b2))
  clear B1 P1
  clear b2 s2 z0 z1 z2 z3 OF
  go_wp2_with fail
  refine (Ic.bytes_any t i q hi hq A2 c2 l w2 S2.out).mono ?_; rintro e w3 ⟨T, b3⟩
  have B3 := Lib.hid (B2.out.trans (b3.mono B2.out.size))
  have P3 := Lib.hid (P2.out.older (older_below b3))
  clear B2 P2
  clear b3 S2
  rcases T with ⟨hm, rfl⟩ | ⟨hm, g, cb, rfl, ob⟩
  · clear hm
    have hne : ¬ icEr t = 0 := by unfold icEr; split <;> omega
    generalize icEr t = er at *
    have hne' : (er != 0) = true := by simpa using hne
    have hne'' : (er == 0) = false := by simpa using hne
    go_wp2
    go_ret
    exact ⟨rfl, B3.out⟩
  obtain ⟨k, rfl, hk, hl9⟩ := icMay_type hm
  rw [Int.toNat_natCast] at ob ⊢
  have SB3 := Lib.hid ob.src
  clear hm ob ht
  rcases hk with rfl | rfl
  · have P3 := Lib.hid (show Blk w3 w.heap.size 24 (dcV 0 i q l) from P3.out)
    have BK := Lib.hid (icB_back 0 i q l (by omega) hi hq hl9)
    have LB := Lib.hid (icB_length 0 i q l)
    have PA := Lib.hid (fun W h => parse_any (some ⟨g, 0, none⟩) (icB 0 i q l).length cb (icB 0 i q l) W h (by rw [LB.out]; omega))
    have AN := Lib.hid (fun W h => Ic.answer_any (some ⟨g, 0, none⟩) (icB 0 i q l).length cb (icB 0 i q l) W h (by rw [LB.out]; omega))
    unfold Parsed at PA
    unfold Answered at AN
    rw [BK.out.1, BK.out.2] at PA
    dsimp only at PA
    have Y := Lib.hid (Ic.icA_no (l := icB 0 i q l) (fun h => by have := h.2; rw [BK.out.2] at this; cases this))
    rw [Y.out.1, Y.out.2] at AN
    generalize icB 0 i q l = Z at *
    go_wp2_with fail
    refine (PA.out w3 SB3.out).mono ?_; rintro e w4 ⟨⟨Ac, cc, rfl, sc⟩, b4⟩
    have SC4 := Lib.hid sc
    have B4 := Lib.hid (B3.out.trans (b4.mono B3.out.size))
    have P4 := Lib.hid (P3.out.older (older_below b4))
    have SB4 := Lib.hid (SB3.out.below b4)
    clear B3 P3 SB3
    clear PA sc b4
    have b5 : Below w4.heap.size w4 (w4.alloc (.cells (ecV 0 i q Ac l.length cc) 31)) := (Below.refl _ w4).alloc (Nat.le_refl _) _
    have CB5 := Lib.hid (Blk.new w4 31 (ecV 0 i q Ac l.length cc))
    have B5 := Lib.hid (B4.out.trans (b5.mono B4.out.size))
    have P5 := Lib.hid (P4.out.older (older_below b5))
    have SB5 := Lib.hid (SB4.out.below b5)
    have SC5 := Lib.hid (SC4.out.below b5)
    clear B4 P4 SB4 SC4
    clear b5
    go_upto_region 9 with fail
    generalize w4.alloc (.cells (ecV 0 i q Ac l.length cc) 31) = w5 at *
    go_wp2_with fail
    refine (AN.out w5 SB5.out).mono ?_; rintro e w8 ⟨⟨A8, c8, rfl, s8⟩, b8⟩
    have SA8 := Lib.hid s8
    have B8 := Lib.hid (B5.out.trans (b8.mono B5.out.size))
    have P8 := Lib.hid (P5.out.older (older_below b8))
    have CB8 := Lib.hid (CB5.out.older (older_below b8))
    have SB8 := Lib.hid (SB5.out.below b8)
    have SC8 := Lib.hid (SC5.out.below b8)
    clear B5 P5 CB5 SB5 SC5
    clear AN s8 b8
    go_upto_region 10 with fail
    generalize w8 = W at *
    refine wp_region_held_drew (S := fun w' => Hid (Below W.heap.size W w')) (by kernel_rfl) (Lib.hid ((Below.refl W.heap.size W).drew)) (fun hS => ?_)
    refine held_take (i := 0) (d := (some 38)) (v := ?_) rfl rfl (by kernel_rfl) (by kernel_rfl) (by kernel_rfl) (fun _ _ _ h => h) (by rfl) ?_ hS ?_
    rotate_left
    · intro w' hSw; (try dsimp only at hSw); go_simp <;> with_reducible rfl
    simp only [Act.put, List.setIfInBounds_toArray, List.set_cons_zero, List.set_cons_succ]
    refine held_take (i := 1) (d := (some 39)) (v := ?_) rfl rfl (by kernel_rfl) (by kernel_rfl) (by kernel_rfl) (fun _ _ _ h => h) (by rfl) ?_ hS ?_
    rotate_left
    · intro w' hSw; (try dsimp only at hSw); go_simp <;> with_reducible rfl
    simp only [Act.put, List.setIfInBounds_toArray, List.set_cons_zero, List.set_cons_succ]
    refine held_take (i := 2) (d := (some 40)) (v := ?_) rfl rfl (by kernel_rfl) (by kernel_rfl) (by kernel_rfl) (fun _ _ _ h => h) (by rfl) ?_ hS ?_
    rotate_left
    · intro w' hSw; (try dsimp only at hSw); go_simp <;> with_reducible rfl
    simp only [Act.put, List.setIfInBounds_toArray, List.set_cons_zero, List.set_cons_succ]
    refine held_take (i := 3) (d := (some 41)) (v := ?_) rfl rfl (by kernel_rfl) (by kernel_rfl) (by kernel_rfl) (fun _ _ _ h => h) (by rfl) ?_ hS ?_
    rotate_left
    · intro w' hSw; have kb := hSw.out; clear hSw; have z0 := ((CB8.out.older (older_below kb)).cell 0).trans (show _ = some (.int .i64 0) from rfl); have z1 := ((CB8.out.older (older_below kb)).cell 1).trans (show _ = some (.int .u16 (i : Int)) from rfl); have z2 := ((CB8.out.older (older_below kb)).cell 2).trans (show _ = some (.int .u16 (q : Int)) from rfl); have z3 := ((CB8.out.older (older_below kb)).cell 3).trans (show _ = some (.slice Ac l.length cc) from rfl); clear kb; go_simp <;> with_reducible rfl
    simp only [Act.put, List.setIfInBounds_toArray, List.set_cons_zero, List.set_cons_succ]
    refine held_take (i := 5) (d := (some 43)) (v := ?_) rfl rfl (by kernel_rfl) (by kernel_rfl) (by kernel_rfl) (fun _ _ _ h => h) (by rfl) ?_ hS ?_
    rotate_left
    · intro w' hSw; have kb := hSw.out; clear hSw; have z0 := ((P8.out.older (older_below kb)).cell 0).trans (show _ = some (.int .i64 0) from rfl); have z1 := ((P8.out.older (older_below kb)).cell 1).trans (show _ = some (.int .u16 (i : Int)) from rfl); have z2 := ((P8.out.older (older_below kb)).cell 2).trans (show _ = some (.int .u16 (q : Int)) from rfl); have z3 := ((P8.out.older (older_below kb)).cell 3).trans (show _ = some (.string ⟨l.toArray⟩) from rfl); clear kb; go_simp <;> with_reducible rfl
    simp only [Act.put, List.setIfInBounds_toArray, List.set_cons_zero, List.set_cons_succ]
    refine held_one (i := 4) (by kernel_rfl) rfl (by rfl) ?_
    go_simp
    refine (to_any 0 i q Ac l.length cc l _ (SC8.out.below hS.out)).mono ?_; rintro e wt ⟨rfl, bt⟩
    have hS : Hid (Below W.heap.size W wt) := Lib.hid (hS.out.trans (bt.mono hS.out.size))
    refine ⟨hS, ?_⟩
    clear bt
    (try simp only [Act.put, List.setIfInBounds_toArray, List.set_cons_zero, List.set_cons_succ])
    refine held_take (i := 6) (d := (some 44)) (v := ?_) rfl rfl (by kernel_rfl) (by kernel_rfl) (by kernel_rfl) (fun _ _ _ h => h) (by rfl) ?_ hS ?_
    rotate_left
    · intro w' hSw; (try dsimp only at hSw); go_simp <;> with_reducible rfl
    simp only [Act.put, List.setIfInBounds_toArray, List.set_cons_zero, List.set_cons_succ]
    refine held_take (i := 7) (d := (some 45)) (v := ?_) rfl rfl (by kernel_rfl) (by kernel_rfl) (by kernel_rfl) (fun _ _ _ h => h) (by rfl) ?_ hS ?_
    rotate_left
    · intro w' hSw; (try dsimp only at hSw); go_simp <;> with_reducible rfl
    simp only [Act.put, List.setIfInBounds_toArray, List.set_cons_zero, List.set_cons_succ]
    refine held_take (i := 8) (d := (some 46)) (v := ?_) rfl rfl (by kernel_rfl) (by kernel_rfl) (by kernel_rfl) (fun _ _ _ h => h) (by rfl) ?_ hS ?_
    rotate_left
    · intro w' hSw; (try dsimp only at hSw); go_simp <;> with_reducible rfl
    simp only [Act.put, List.setIfInBounds_toArray, List.set_cons_zero, List.set_cons_succ]
    refine held_take (i := 9) (d := (some 47)) (v := ?_) rfl rfl (by kernel_rfl) (by kernel_rfl) (by kernel_rfl) (fun _ _ _ h => h) (by rfl) ?_ hS ?_
    rotate_left
    · intro w' hSw; (try dsimp only at hSw); go_simp <;> with_reducible rfl
    simp only [Act.put, List.setIfInBounds_toArray, List.set_cons_zero, List.set_cons_succ]
    refine held_take (i := 10) (d := (some 48)) (v := ?_) rfl rfl (by kernel_rfl) (by kernel_rfl) (by kernel_rfl) (fun _ _ _ h => h) (by rfl) ?_ hS ?_
    rotate_left
    · intro w' hSw; (try dsimp only at hSw); go_simp <;> with_reducible rfl
    simp only [Act.put, List.setIfInBounds_toArray, List.set_cons_zero, List.set_cons_succ]
    refine held_take (i := 11) (d := (some 49)) (v := ?_) rfl rfl (by kernel_rfl) (by kernel_rfl) (by kernel_rfl) (fun _ _ _ h => h) (by rfl) ?_ hS ?_
    rotate_left
    · intro w' hSw; have kb := hSw.out; clear hSw; have z0 := ((P8.out.older (older_below kb)).cell 0).trans (show _ = some (.int .i64 0) from rfl); clear kb; go_simp <;> with_reducible rfl
    simp only [Act.put, List.setIfInBounds_toArray, List.set_cons_zero, List.set_cons_succ]
    refine held_take (i := 12) (d := (some 50)) (v := ?_) rfl rfl (by kernel_rfl) (by kernel_rfl) (by kernel_rfl) (fun _ _ _ h => h) (by rfl) ?_ hS ?_
    rotate_left
    · intro w' hSw; (try dsimp only at hSw); go_simp <;> with_reducible rfl
    simp only [Act.put, List.setIfInBounds_toArray, List.set_cons_zero, List.set_cons_succ]
    refine held_take (i := 13) (d := (some 51)) (v := ?_) rfl rfl (by kernel_rfl) (by kernel_rfl) (by kernel_rfl) (fun _ _ _ h => h) (by rfl) ?_ hS ?_
    rotate_left
    · intro w' hSw; (try dsimp only at hSw); go_simp <;> with_reducible rfl
    simp only [Act.put, List.setIfInBounds_toArray, List.set_cons_zero, List.set_cons_succ]
    refine held_take (i := 14) (d := (some 52)) (v := ?_) rfl rfl (by kernel_rfl) (by kernel_rfl) (by kernel_rfl) (fun _ _ _ h => h) (by rfl) ?_ hS ?_
    rotate_left
    · intro w' hSw; (try dsimp only at hSw); go_simp <;> with_reducible rfl
    simp only [Act.put, List.setIfInBounds_toArray, List.set_cons_zero, List.set_cons_succ]
    refine wpAnyH_done (by kernel_rfl) ?_ _
    have BZ := Lib.hid (B8.out.trans (hS.out.mono B8.out.size))
    go_wp2
    go_ret
    exact ⟨rfl, BZ.out⟩
  · have P3 := Lib.hid (show Blk w3 w.heap.size 24 (dcV 8 i q l) from P3.out)
    have BK := Lib.hid (icB_back 8 i q l (by omega) hi hq hl9)
    have LB := Lib.hid (icB_length 8 i q l)
    have PA := Lib.hid (fun W h => parse_any (some ⟨g, 0, none⟩) (icB 8 i q l).length cb (icB 8 i q l) W h (by rw [LB.out]; omega))
    have AN := Lib.hid (fun W h => Ic.answer_any (some ⟨g, 0, none⟩) (icB 8 i q l).length cb (icB 8 i q l) W h (by rw [LB.out]; omega))
    unfold Parsed at PA
    unfold Answered at AN
    rw [BK.out.1, BK.out.2] at PA
    dsimp only at PA
    have Y := Lib.hid (Ic.icA_yes (l := icB 8 i q l) BK.out.1 BK.out.2)
    rw [Y.out.1, Y.out.2] at AN
    generalize icB 8 i q l = Z at *
    go_wp2_with fail
    refine (PA.out w3 SB3.out).mono ?_; rintro e w4 ⟨⟨Ac, cc, rfl, sc⟩, b4⟩
    have SC4 := Lib.hid sc
    have B4 := Lib.hid (B3.out.trans (b4.mono B3.out.size))
    have P4 := Lib.hid (P3.out.older (older_below b4))
    have SB4 := Lib.hid (SB3.out.below b4)
    clear B3 P3 SB3
    clear PA sc b4
    have b5 : Below w4.heap.size w4 (w4.alloc (.cells (ecV 8 i q Ac l.length cc) 31)) := (Below.refl _ w4).alloc (Nat.le_refl _) _
    have CB5 := Lib.hid (Blk.new w4 31 (ecV 8 i q Ac l.length cc))
    have B5 := Lib.hid (B4.out.trans (b5.mono B4.out.size))
    have P5 := Lib.hid (P4.out.older (older_below b5))
    have SB5 := Lib.hid (SB4.out.below b5)
    have SC5 := Lib.hid (SC4.out.below b5)
    clear B4 P4 SB4 SC4
    clear b5
    go_upto_region 9 with fail
    generalize w4.alloc (.cells (ecV 8 i q Ac l.length cc) 31) = w5 at *
    go_wp2_with fail
    refine (AN.out w5 SB5.out).mono ?_; rintro e w8 ⟨⟨A8, c8, rfl, s8⟩, b8⟩
    have SA8 := Lib.hid s8
    have B8 := Lib.hid (B5.out.trans (b8.mono B5.out.size))
    have P8 := Lib.hid (P5.out.older (older_below b8))
    have CB8 := Lib.hid (CB5.out.older (older_below b8))
    have SB8 := Lib.hid (SB5.out.below b8)
    have SC8 := Lib.hid (SC5.out.below b8)
    clear B5 P5 CB5 SB5 SC5
    clear AN s8 b8
    go_upto_region 10 with fail
    generalize w8 = W at *
    refine wp_region_held_drew (S := fun w' => Hid (Below W.heap.size W w')) (by kernel_rfl) (Lib.hid ((Below.refl W.heap.size W).drew)) (fun hS => ?_)
    refine held_take (i := 0) (d := (some 38)) (v := ?_) rfl rfl (by kernel_rfl) (by kernel_rfl) (by kernel_rfl) (fun _ _ _ h => h) (by rfl) ?_ hS ?_
    rotate_left
    · intro w' hSw; (try dsimp only at hSw); go_simp <;> with_reducible rfl
    simp only [Act.put, List.setIfInBounds_toArray, List.set_cons_zero, List.set_cons_succ]
    refine held_take (i := 1) (d := (some 39)) (v := ?_) rfl rfl (by kernel_rfl) (by kernel_rfl) (by kernel_rfl) (fun _ _ _ h => h) (by rfl) ?_ hS ?_
    rotate_left
    · intro w' hSw; (try dsimp only at hSw); go_simp <;> with_reducible rfl
    simp only [Act.put, List.setIfInBounds_toArray, List.set_cons_zero, List.set_cons_succ]
    refine held_take (i := 2) (d := (some 40)) (v := ?_) rfl rfl (by kernel_rfl) (by kernel_rfl) (by kernel_rfl) (fun _ _ _ h => h) (by rfl) ?_ hS ?_
    rotate_left
    · intro w' hSw; (try dsimp only at hSw); go_simp <;> with_reducible rfl
    simp only [Act.put, List.setIfInBounds_toArray, List.set_cons_zero, List.set_cons_succ]
    refine held_take (i := 3) (d := (some 41)) (v := ?_) rfl rfl (by kernel_rfl) (by kernel_rfl) (by kernel_rfl) (fun _ _ _ h => h) (by rfl) ?_ hS ?_
    rotate_left
    · intro w' hSw; have kb := hSw.out; clear hSw; have z0 := ((CB8.out.older (older_below kb)).cell 0).trans (show _ = some (.int .i64 8) from rfl); have z1 := ((CB8.out.older (older_below kb)).cell 1).trans (show _ = some (.int .u16 (i : Int)) from rfl); have z2 := ((CB8.out.older (older_below kb)).cell 2).trans (show _ = some (.int .u16 (q : Int)) from rfl); have z3 := ((CB8.out.older (older_below kb)).cell 3).trans (show _ = some (.slice Ac l.length cc) from rfl); clear kb; go_simp <;> with_reducible rfl
    simp only [Act.put, List.setIfInBounds_toArray, List.set_cons_zero, List.set_cons_succ]
    refine held_take (i := 5) (d := (some 43)) (v := ?_) rfl rfl (by kernel_rfl) (by kernel_rfl) (by kernel_rfl) (fun _ _ _ h => h) (by rfl) ?_ hS ?_
    rotate_left
    · intro w' hSw; have kb := hSw.out; clear hSw; have z0 := ((P8.out.older (older_below kb)).cell 0).trans (show _ = some (.int .i64 8) from rfl); have z1 := ((P8.out.older (older_below kb)).cell 1).trans (show _ = some (.int .u16 (i : Int)) from rfl); have z2 := ((P8.out.older (older_below kb)).cell 2).trans (show _ = some (.int .u16 (q : Int)) from rfl); have z3 := ((P8.out.older (older_below kb)).cell 3).trans (show _ = some (.string ⟨l.toArray⟩) from rfl); clear kb; go_simp <;> with_reducible rfl
    simp only [Act.put, List.setIfInBounds_toArray, List.set_cons_zero, List.set_cons_succ]
    refine held_one (i := 4) (by kernel_rfl) rfl (by rfl) ?_
    go_simp
    refine (to_any 8 i q Ac l.length cc l _ (SC8.out.below hS.out)).mono ?_; rintro e wt ⟨rfl, bt⟩
    have hS : Hid (Below W.heap.size W wt) := Lib.hid (hS.out.trans (bt.mono hS.out.size))
    refine ⟨hS, ?_⟩
    clear bt
    (try simp only [Act.put, List.setIfInBounds_toArray, List.set_cons_zero, List.set_cons_succ])
    refine held_take (i := 6) (d := (some 44)) (v := ?_) rfl rfl (by kernel_rfl) (by kernel_rfl) (by kernel_rfl) (fun _ _ _ h => h) (by rfl) ?_ hS ?_
    rotate_left
    · intro w' hSw; (try dsimp only at hSw); go_simp <;> with_reducible rfl
    simp only [Act.put, List.setIfInBounds_toArray, List.set_cons_zero, List.set_cons_succ]
    refine held_take (i := 7) (d := (some 45)) (v := ?_) rfl rfl (by kernel_rfl) (by kernel_rfl) (by kernel_rfl) (fun _ _ _ h => h) (by rfl) ?_ hS ?_
    rotate_left
    · intro w' hSw; (try dsimp only at hSw); go_simp <;> with_reducible rfl
    simp only [Act.put, List.setIfInBounds_toArray, List.set_cons_zero, List.set_cons_succ]
    refine held_take (i := 8) (d := (some 46)) (v := ?_) rfl rfl (by kernel_rfl) (by kernel_rfl) (by kernel_rfl) (fun _ _ _ h => h) (by rfl) ?_ hS ?_
    rotate_left
    · intro w' hSw; (try dsimp only at hSw); go_simp <;> with_reducible rfl
    simp only [Act.put, List.setIfInBounds_toArray, List.set_cons_zero, List.set_cons_succ]
    refine held_take (i := 9) (d := (some 47)) (v := ?_) rfl rfl (by kernel_rfl) (by kernel_rfl) (by kernel_rfl) (fun _ _ _ h => h) (by rfl) ?_ hS ?_
    rotate_left
    · intro w' hSw; (try dsimp only at hSw); go_simp <;> with_reducible rfl
    simp only [Act.put, List.setIfInBounds_toArray, List.set_cons_zero, List.set_cons_succ]
    refine held_take (i := 10) (d := (some 48)) (v := ?_) rfl rfl (by kernel_rfl) (by kernel_rfl) (by kernel_rfl) (fun _ _ _ h => h) (by rfl) ?_ hS ?_
    rotate_left
    · intro w' hSw; (try dsimp only at hSw); go_simp <;> with_reducible rfl
    simp only [Act.put, List.setIfInBounds_toArray, List.set_cons_zero, List.set_cons_succ]
    refine held_take (i := 11) (d := (some 49)) (v := ?_) rfl rfl (by kernel_rfl) (by kernel_rfl) (by kernel_rfl) (fun _ _ _ h => h) (by rfl) ?_ hS ?_
    rotate_left
    · intro w' hSw; have kb := hSw.out; clear hSw; have z0 := ((P8.out.older (older_below kb)).cell 0).trans (show _ = some (.int .i64 8) from rfl); clear kb; go_simp <;> with_reducible rfl
    simp only [Act.put, List.setIfInBounds_toArray, List.set_cons_zero, List.set_cons_succ]
    refine held_take (i := 12) (d := (some 50)) (v := ?_) rfl rfl (by kernel_rfl) (by kernel_rfl) (by kernel_rfl) (fun _ _ _ h => h) (by rfl) ?_ hS ?_
    rotate_left
    · intro w' hSw; (try dsimp only at hSw); go_simp <;> with_reducible rfl
    simp only [Act.put, List.setIfInBounds_toArray, List.set_cons_zero, List.set_cons_succ]
    refine held_take (i := 13) (d := (some 51)) (v := ?_) rfl rfl (by kernel_rfl) (by kernel_rfl) (by kernel_rfl) (fun _ _ _ h => h) (by rfl) ?_ hS ?_
    rotate_left
    · intro w' hSw; (try dsimp only at hSw); go_simp <;> with_reducible rfl
    simp only [Act.put, List.setIfInBounds_toArray, List.set_cons_zero, List.set_cons_succ]
    refine held_take (i := 14) (d := (some 52)) (v := ?_) rfl rfl (by kernel_rfl) (by kernel_rfl) (by kernel_rfl) (fun _ _ _ h => h) (by rfl) ?_ hS ?_
    rotate_left
    · intro w' hSw; (try dsimp only at hSw); go_simp <;> with_reducible rfl
    simp only [Act.put, List.setIfInBounds_toArray, List.set_cons_zero, List.set_cons_succ]
    refine wpAnyH_done (by kernel_rfl) ?_ _
    have BZ := Lib.hid (B8.out.trans (hS.out.mono B8.out.size))
    have P9 := Lib.hid (P8.out.older (older_below hS.out))
    have SA9 := Lib.hid (SA8.out.below hS.out)
    clear hS B8 P8 SA8 CB8 SC8 SB8 Y LB BK
    have LB := Lib.hid (icB_length 0 i q l)
    have BK := Lib.hid (icB_back 0 i q l (.inl rfl) hi hq hl9)
    have PA := Lib.hid (fun W h => parse_any A8 (icB 0 i q l).length c8 (icB 0 i q l) W h (by rw [LB.out]; omega))
    unfold Parsed at PA
    rw [BK.out.1, BK.out.2] at PA
    dsimp only at PA
    generalize icB 0 i q l = Y at *
    go_wp2_with fail
    refine (PA.out wt SA9.out).mono ?_; rintro e wa ⟨⟨Ad, cd, rfl, sd⟩, ba⟩
    have SD0 := Lib.hid (sd.alloc (.cells #[.int .i64 0, .int .u16 (i : Int), .int .u16 (q : Int), .slice Ad l.length cd] 31))
    have Bb := Lib.hid ((BZ.out.trans (ba.mono BZ.out.size)).alloc (BZ.out.trans (ba.mono BZ.out.size)).size (.cells #[.int .i64 0, .int .u16 (i : Int), .int .u16 (q : Int), .slice Ad l.length cd] 31))
    have Pb := Lib.hid ((P9.out.older (older_below ba)).alloc (.cells #[.int .i64 0, .int .u16 (i : Int), .int .u16 (q : Int), .slice Ad l.length cd] 31))
    have Kb := Lib.hid (Blk.new wa 31 #[.int .i64 0, .int .u16 (i : Int), .int .u16 (q : Int), .slice Ad l.length cd])
    clear sd ba PA SA9 P9 BZ
    go_upto_region 15 with fail
    generalize wa.alloc (.cells #[.int .i64 0, .int .u16 (i : Int), .int .u16 (q : Int), .slice Ad l.length cd] 31) = wb at *
    have TS := told_str SD0.out
    have z0 := (Pb.out.cell 0).trans (show _ = some (.int .i64 8) from rfl)
    have z1 := (Pb.out.cell 1).trans (show _ = some (.int .u16 (i : Int)) from rfl)
    have z2 := (Pb.out.cell 2).trans (show _ = some (.int .u16 (q : Int)) from rfl)
    have z3 := (Pb.out.cell 3).trans (show _ = some (.string ⟨l.toArray⟩) from rfl)
    have y0 := (Kb.out.cell 0).trans (show _ = some (.int .i64 0) from rfl)
    have y1 := (Kb.out.cell 1).trans (show _ = some (.int .u16 (i : Int)) from rfl)
    have y2 := (Kb.out.cell 2).trans (show _ = some (.int .u16 (q : Int)) from rfl)
    have y3 := (Kb.out.cell 3).trans (show _ = some (.slice Ad l.length cd) from rfl)
    go_wp2
    go_ret
    exact ⟨rfl, Bb.out⟩

set_option maxRecDepth 100000 in
theorem lifted (os : Os) (started : os.Started) (H : Type) (enc : TypeId × Value → H) :
    ReturnsInHanded {} Try.checked os 5 .any (Rows.icmpBackSpec.pre6 enc Try.prog Try.f5 Rows.icmpBackRow.domain false) (Rows.icmpBackSpec.post enc Try.prog Try.f5 false true false false) := by
  refine returnsInHanded_of_change (C := Try.checked) own started (by kernel_rfl) Try.func5
    (ChangeSpec.witness6 (enc := enc) (C := Try.checked) false ⟨#[], #[.agg #[.int .i64 0, .int .u16 0, .int .u16 0, .string ⟨#[]⟩]], []⟩ 8 (by kernel_rfl) (by kernel_rfl) (by kernel_rfl) (by kernel_rfl)) ?_
  intro W base args ds gs before hval0 hW hcnd _
  have hval : ∀ (j : Nat) t v, Try.f5.params[j]? = some t → args[j]? = some v → Value.okWide Try.prog W .any base t v := hval0
  have hW' := hW
  obtain ⟨p, q, hA0, hV, rfl, hfz, hnd⟩ := hW
  have hA : DataW.TrodAll enc Try.prog W 0 (fun _ => true) true Try.f5.params.toList args.toList ds p := hA0
  rw [Try.params5] at hA hval
  obtain ⟨v0, vs0, d0, ds0, p0, q0, hargs, rfl, rfl, h0, r0⟩ := trodAll_cons hA
  obtain ⟨rfl, rfl, rfl⟩ := trodAll_nil r0
  obtain rfl : args = #[v0] := by cases args; simp_all
  obtain ⟨a0_0, a0_1, a0_2, a0_3, rfl, w0_0, w0_1, w0_2, w0_3⟩ := Ic.open_ec (hval 0 24 v0 rfl rfl) h0
  clear hA0 hval0
  exact law_close hW' laidOut (by kernel_rfl) rfl Try.underlying4 rfl ⟨rfl, rfl, rfl⟩ (walk W a0_0 a0_1 a0_2 a0_3 w0_0 w0_1 w0_2 w0_3)

theorem over : Rows.icmpBackRow.holds Try.pinned (OpenSpec.ofChange Rows.icmpBackSpec) :=
  OpenClaim.holds_of_wide 5 Try.f5 rfl rfl rfl rfl rfl rfl rfl ⟨rfl, rfl, rfl, rfl, rfl⟩ rfl rfl rfl rfl rfl (by kernel_rfl) Try.func5 (by kernel_rfl)
    (of_decide_eq_true (by kernel_rfl)) (by unfold Func.isWrapper; first | (rw [if_pos (by decide +kernel)]; kernel_rfl) | (rw [if_neg (by decide +kernel)]; exact ⟨rfl, rfl⟩))
    (fun os started H enc _ => lifted os started H enc)

theorem proved : Rows.IcmpBackSaid := over

end Go.Proofs.Ytbjmclcnaagbnaa.icmpBack
