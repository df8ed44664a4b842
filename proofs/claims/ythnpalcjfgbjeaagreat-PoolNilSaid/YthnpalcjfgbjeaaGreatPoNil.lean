/- What no pool answers. Conditions: those that each states. -/
import Derived.Test.YthnpalcjfgbjeaaGreatPoZ
namespace Go.Proofs.YthnpalcjfgbjeaaGreat.Po
open Go.ChangeShapes Go.WideShapes Go.ChangeAt Go.RowKit Go.Deep Fr Di Ke
set_option linter.unusedVariables false

theorem forget_nil (l : Value) (w : World) : Calls Tryz.prog 15 #[.pointer none, l] w fun e w' => e = .returned (.tuple #[]) ∧ w' = w := by
  go_enter Tryz.func15, Tryz.ntmps15
  go_wp2
  refine bodyPost_ret (results_none rfl _ _ _) rfl ?_
  exact ⟨rfl, rfl⟩
theorem get_nil (b n : Int) (x y : Nat) (w : World) : Calls Tryz.prog 16 #[.pointer none, .int .i64 b, .int .i64 n, .complex .f64 x y] w fun e w' => e = .returned (.tuple #[.int .i64 0, .int .i64 3]) ∧ w' = w := by
  go_enter Tryz.func16, Tryz.ntmps16
  go_wp2
  go_ret2
  exact ⟨rfl, rfl⟩
theorem head_nil (b : Value) (w : World) : Calls Tryz.prog 8 #[.pointer none, b] w fun e w' => e = .returned (.tuple #[.int .i64 0, .int .i64 3]) ∧ w' = w := by
  go_enter Tryz.func8, Tryz.ntmps8
  go_wp2
  go_ret2
  exact ⟨rfl, rfl⟩
theorem part_nil (b : Value) (w : World) : Calls Tryz.prog 9 #[.pointer none, b] w fun e w' => e = .returned (.tuple #[.complex .f64 0 0, .int .i64 3]) ∧ w' = w := by
  go_enter Tryz.func9, Tryz.ntmps9
  go_wp2
  go_ret2
  exact ⟨rfl, rfl⟩
theorem pin_nil (f : Int) (w : World) : Calls Tryz.prog 17 #[.pointer none, .int .i64 f] w fun e w' => e = .returned (.int .i64 3) ∧ w' = w := by
  go_enter Tryz.func17, Tryz.ntmps17
  go_wp2
  go_ret
  exact ⟨rfl, rfl⟩
theorem unpin_nil (f : Int) (w : World) : Calls Tryz.prog 18 #[.pointer none, .int .i64 f] w fun e w' => e = .returned (.int .i64 3) ∧ w' = w := by
  go_enter Tryz.func18, Tryz.ntmps18
  go_wp2
  go_ret
  exact ⟨rfl, rfl⟩
theorem fills_nil (w : World) : Calls Tryz.prog 20 #[.pointer none] w fun e w' => e = .returned (.int .i64 0) ∧ w' = w := by
  go_enter Tryz.func20, Tryz.ntmps20
  go_wp2
  go_ret
  exact ⟨rfl, rfl⟩
theorem has_nil (b : Int) (w : World) : Calls Tryz.prog 21 #[.pointer none, .int .i64 b] w fun e w' => e = .returned (.bool false) ∧ Below w.heap.size w w' := by
  go_enter Tryz.func21, Tryz.ntmps21
  go_wp2_with fail
  refine (having_nil b w).mono ?_; rintro e w2 ⟨rfl, b2⟩
  have B2 := Lib.hid b2
  clear b2
  go_wp2
  go_ret
  exact ⟨rfl, B2.out⟩
end Go.Proofs.YthnpalcjfgbjeaaGreat.Po
