/- Package gather: what no table answers. Conditions: those that each states. -/
import Derived.Test.YtplmabnmkkkehaaGaO
import Derived.Defers
namespace Go.Proofs.Ytplmabnmkkkehaa
open Go.ChangeShapes Go.WideShapes Go.ChangeAt Go.RowKit Go.Deep
set_option linter.unusedVariables false

set_option maxRecDepth 100000 in
theorem fits_nil (env : Int) (v : Value) (w : World) : Calls Try.prog 37 #[.pointer none, .int .i64 env, v] w fun e w' => e = .returned (.int .i64 3) ∧ w' = w := by
  go_enter Try.func37, Try.ntmps37
  go_wp2
  go_ret
  exact ⟨rfl, rfl⟩
set_option maxRecDepth 100000 in
theorem check_nil (env : Int) (v : Value) (w : World) : Calls Try.prog 13 #[.pointer none, .int .i64 env, v] w fun e w' => e = .returned (.int .i64 3) ∧ w' = w := by
  go_enter Try.func13, Try.ntmps13
  go_wp2_with fail
  refine (fits_nil env v w).mono ?_; rintro e w1 ⟨rfl, rfl⟩
  go_wp2
  go_ret
  exact ⟨rfl, rfl⟩
set_option maxRecDepth 100000 in
theorem fetch_nil (v : Value) (w : World) : Calls Try.prog 20 #[.pointer none, v] w fun e w' => e = .returned (.tuple #[.slice none 0 0, .int .i64 3]) ∧ w' = w := by
  go_enter Try.func20, Try.ntmps20
  go_wp2
  go_ret2
  exact ⟨rfl, rfl⟩
set_option maxRecDepth 100000 in
theorem drop_nil (v : Value) (w : World) : Calls Try.prog 23 #[.pointer none, v] w fun e w' => e = .returned (.int .i64 3) ∧ w' = w := by
  go_enter Try.func23, Try.ntmps23
  go_wp2
  go_ret
  exact ⟨rfl, rfl⟩
set_option maxRecDepth 100000 in
set_option maxHeartbeats 1000000 in
theorem hold_nil (env : Int) (A : Option Addr) (n c : Nat) (w : World) : Calls Try.prog 18 #[.pointer none, .int .i64 env, .slice A n c] w fun e w' => e = .returned (.int .i64 3) ∧ Below w.heap.size w w' := by
  have FN := Lib.hid fits_nil
  go_enter_defers Try.func18, Try.ntmps18
  go_wp2_with fail
  refine (FN.out env _ _).mono ?_; rintro e w1 ⟨rfl, rfl⟩
  go_wp2_with fail
  have B3 := Lib.hid ((((Below.refl w.heap.size w).alloc (Nat.le_refl _) (.cells #[.pointer none] 26)).alloc (by simp) (.cells #[.slice A n c] 39)).alloc (by simp; omega) (.cells #[.int .i64 3] 27))
  simp [bodyPostD, Leaves, results, Try.results18, go_sem]
  exact B3.out
end Go.Proofs.Ytplmabnmkkkehaa
