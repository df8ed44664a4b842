/- The chapter's example of package frame. No condition. -/
import Derived.Test.YtgbldoilnecnhaaFr5
namespace Go.Proofs.Ytgbldoilnecnhaa
open Go.ChangeShapes Go.WideShapes Go.ChangeAt Go.RowKit Go.Deep Fr
set_option linter.unusedVariables false

theorem Fr.Tab.below {gs g : Nat} {ps : List Pg} {w w' : World} (h : Tab w gs g ps) (k : Below w.heap.size w w') : Tab w' gs g ps := TabAt.new h k

set_option maxRecDepth 100000 in
theorem alive_any (w : World) : Calls Try.prog 7 #[] w fun e w' => e = .returned (.bool true) ∧ Below w.heap.size w w' := by
  obtain ⟨p0, hp0⟩ : ∃ p, p = List.replicate 2 Pg.blank := ⟨_, rfl⟩
  obtain ⟨p1, hp1⟩ : ∃ p, p = (allocR p0 1).1 := ⟨_, rfl⟩
  obtain ⟨p2, hp2⟩ : ∃ p, p = (allocR p1 2).1 := ⟨_, rfl⟩
  obtain ⟨p3, hp3⟩ : ∃ p, p = (allocR p2 1).1 := ⟨_, rfl⟩
  have e1 : (allocR p0 1).2 = (0, 0) := by subst hp0; kernel_rfl
  have e2 : (allocR p1 2).2 = (1, 0) := by subst hp1 hp0; kernel_rfl
  have e3 : (allocR p2 1).2 = (0, 10) := by subst hp2 hp1 hp0; kernel_rfl
  have e4 : (freeR p3 1 1).2 = 20 := by subst hp3 hp2 hp1 hp0; kernel_rfl
  have A1 := Lib.hid (fun (W : World) (gs g : Nat) (h : Tab W gs g p0) => by
    have := alloc_any h 1
    rw [e1, ← hp1] at this; exact this)
  have A2 := Lib.hid (fun (W : World) (gs g : Nat) (h : Tab W gs g p1) => by
    have := alloc_any h 2
    rw [e2, ← hp2] at this; exact this)
  have A3 := Lib.hid (fun (W : World) (gs g : Nat) (h : Tab W gs g p2) => by
    have := alloc_any h 1
    rw [e3, ← hp3] at this; exact this)
  have A4 := Lib.hid (fun (W : World) (gs g : Nat) (h : Tab W gs g p3) => by
    have := free_any h 1 1
    rw [e4] at this; exact this)
  have NEW := Lib.hid (new_ok 2 w (by decide) (by decide))
  rw [← hp0] at NEW
  clear e1 e2 e3 e4 hp0 hp1 hp2 hp3
  go_enter Try.func7, Try.ntmps7
  go_wp2_with fail
  refine NEW.out.mono ?_; rintro e w1 ⟨rfl, t1, b1, z1⟩
  have T1 := Lib.hid t1
  have B1 := Lib.hid b1
  clear t1 b1
  have hw : w.heap.size ≤ w1.heap.size := by omega
  go_wp2_with fail
  refine (A1.out _ _ _ T1.out).mono ?_; rintro e w2 ⟨rfl, t2, k2⟩
  have T2 := Lib.hid t2
  have B2 := Lib.hid (B1.out.trans (k2.below hw (fun i hi => by omega)))
  have hw2 : w.heap.size ≤ w2.heap.size := Nat.le_trans hw k2.size
  clear t2 k2
  go_wp2_with fail
  refine (A2.out _ _ _ T2.out).mono ?_; rintro e w3 ⟨rfl, t3, k3⟩
  have T3 := Lib.hid t3
  have B3 := Lib.hid (B2.out.trans (k3.below hw2 (fun i hi => by omega)))
  have hw3 : w.heap.size ≤ w3.heap.size := Nat.le_trans hw2 k3.size
  clear t3 k3
  go_wp2_with fail
  refine (A3.out _ _ _ T3.out).mono ?_; rintro e w4 ⟨rfl, t4, k4⟩
  have T4 := Lib.hid t4
  have B4 := Lib.hid (B3.out.trans (k4.below hw3 (fun i hi => by omega)))
  have hw4 : w.heap.size ≤ w4.heap.size := Nat.le_trans hw3 k4.size
  clear t4 k4
  go_wp2_with fail
  refine (A4.out _ _ _ T4.out).mono ?_; rintro e w5 ⟨rfl, t5, k5⟩
  have B5 := Lib.hid (B4.out.trans (k5.below hw4 (fun i hi => by omega)))
  clear t5 k5
  go_wp2
  go_ret
  exact ⟨rfl, B5.out⟩
end Go.Proofs.Ytgbldoilnecnhaa
