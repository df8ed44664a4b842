/- The chapter's example on rings holds. No condition. -/
import Derived.Test.YtngheacdabjbaaaRingI
namespace Go.Proofs.Ytngheacdabjbaaa
open Go.ChangeShapes Go.WideShapes Go.ChangeAt Go.RowKit Go.Deep
set_option linter.unusedVariables false

theorem Chg.new_below {w w1 w' : World} {S : Nat → Prop} (h0 : Below w.heap.size w w1) (h : Chg w1 w' S) (hs : ∀ k, S k → w.heap.size ≤ k) : Below w.heap.size w w' :=
  h0.trans (h.below h0.size hs)

set_option maxRecDepth 100000 in
set_option maxHeartbeats 1000000 in
theorem alive_any (w : World) : Calls Try.prog 7 #[] w fun e w' => e = .returned (.bool true) ∧ Below w.heap.size w w' := by
  have P5 : ∀ W gs g, RingI.Ring W gs g 1 0 [] → Calls Try.prog 9 #[.pointer (some ⟨g, 0, none⟩), .int .i64 5] W fun e w' => e = .returned (.tuple #[.int .i64 0, .int .i64 0]) ∧ RingI.Ring w' gs g 1 0 [.int .i64 5] ∧ Chg W w' (fun k => k = gs ∨ k = g) := fun W gs g h => by
    simpa using RingI.put_ok gs g 1 0 [] 5 W h (by simp) (by simp)
  have P6 : ∀ W gs g, RingI.Ring W gs g 1 0 [.int .i64 5] → Calls Try.prog 9 #[.pointer (some ⟨g, 0, none⟩), .int .i64 6] W fun e w' => e = .returned (.tuple #[.int .i64 0, .int .i64 10]) ∧ ∃ m, w' = W.drewN m := fun W gs g h => RingI.put_full gs g 1 0 _ 6 W h rfl
  have P7 : ∀ W gs g, RingI.Ring W gs g 1 1 [] → Calls Try.prog 9 #[.pointer (some ⟨g, 0, none⟩), .int .i64 7] W fun e w' => e = .returned (.tuple #[.int .i64 1, .int .i64 0]) ∧ RingI.Ring w' gs g 1 1 [.int .i64 7] ∧ Chg W w' (fun k => k = gs ∨ k = g) := fun W gs g h => by
    simpa using RingI.put_ok gs g 1 1 [] 7 W h (by simp) (by simp)
  have P5 := Lib.hid P5
  have P6 := Lib.hid P6
  have P7 := Lib.hid P7
  have N1 := Lib.hid (RingI.new_ok 1 w (by omega) (by omega))
  go_enter Try.func7, Try.ntmps7
  go_wp2_with fail
  refine N1.out.mono ?_; rintro e w1 ⟨rfl, r1, b1, z1⟩
  have B1 := Lib.hid b1
  have R1 := Lib.hid r1
  clear z1 b1 r1
  go_wp2_with fail
  refine (P5.out _ _ _ R1.out).mono ?_; rintro e w2 ⟨rfl, r2, k2⟩
  have B2 := Lib.hid (Chg.new_below B1.out k2 (fun k hk => by omega))
  have R2 := Lib.hid r2
  clear k2 r2
  go_wp2_with fail
  refine (P6.out _ _ _ R2.out).mono ?_; rintro e w3 ⟨rfl, m3, rfl⟩
  go_wp2_with fail
  refine (RingI.take_ok _ _ 1 0 [] 5 _ (R2.out.drewN m3)).mono ?_; rintro e w4 ⟨rfl, r4, k4⟩
  have B4 := Lib.hid (Chg.new_below B2.out (Chg.of_drewN k4) (fun k hk => by omega))
  have R4 := Lib.hid r4
  clear k4 r4
  go_wp2_with fail
  refine (P7.out _ _ _ R4.out).mono ?_; rintro e w5 ⟨rfl, r5, k5⟩
  have B5 := Lib.hid (Chg.new_below B4.out k5 (fun k hk => by omega))
  clear r5 k5
  go_wp2
  go_ret
  exact ⟨rfl, B5.out⟩
end Go.Proofs.Ytngheacdabjbaaa
