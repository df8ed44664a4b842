/- What the functions of package pantlerref01 do, said of their arguments. Conditions: those that each states. -/
import Derived.Test.YthnpalcjfgbjeaaSuA
import Derived.RegionTactic
import Derived.ChangeAlike
namespace Go.Proofs.Ythnpalcjfgbjeaa
open Go.ChangeShapes Go.WideShapes Go.ChangeAt Go.RowKit Fl

def pair (a b : Int) : Value := .agg #[.int .i64 a, .int .i64 b]

theorem number_any (a b : Int) (w : World) : Calls Try.prog 12 #[.agg #[.int .i64 a, .int .i64 b]] w fun e w' => e = .returned (.complex .f64 (floatOfInt .f64 a) (floatOfInt .f64 b)) ∧ Below w.heap.size w w' := by
  go_enter Try.func12, Try.ntmps12
  go_wp2
  go_ret
  exact ⟨rfl, by go_grown⟩

theorem number_w (a b : Int) (w : World) : Calls Try.prog 12 #[.agg #[.int .i64 a, .int .i64 b]] w fun e w' => e = .returned (.complex .f64 (floatOfInt .f64 a) (floatOfInt .f64 b)) ∧ w.alloc (.cells #[.int .i64 a, .int .i64 b] 38) = w' := by
  go_enter Try.func12, Try.ntmps12
  go_wp2
  go_ret
  exact ⟨rfl, rfl⟩

theorem eqf (v : Int) (h : v.natAbs < 2 ^ 53) : (FloatKind.f64.format.order (fl v) (floatOfInt .f64 v) == some .eq) = true := by
  have : FloatKind.f64.format.order (fl v) (floatOfInt .f64 v) = some (compare v v) := fl_order h h
  rw [this]; simp [compare, compareOfLessAndEq]
theorem eqf' (v : Int) (h : v.natAbs < 2 ^ 53) : (FloatKind.f64.format.order (fl v) (fl v) == some .eq) = true := eqf v h
theorem eqf0 (v : Int) (h : v.natAbs < 2 ^ 53) : (FloatKind.f64.format.order (floatOfInt .f64 v) (floatOfInt .f64 v) == some .eq) = true := eqf v h

def mayP (a b : Int) : Bool := decide ((0 ≤ a ∧ a ≤ 1099511627776) ∧ (0 ≤ b ∧ b ≤ 1099511627776))

theorem may_any (a b : Int) (w : World) : Calls Try.prog 22 #[.agg #[.int .i64 a, .int .i64 b]] w fun e w' => e = .returned (.bool (mayP a b)) ∧ ∃ o, w' = w.alloc o := by
  by_cases h1 : 0 ≤ a
  · by_cases h2 : a ≤ 1099511627776
    · by_cases h3 : 0 ≤ b
      · go_enter Try.func22, Try.ntmps22
        go_wp2
        go_ret
        refine ⟨ret_bool ?_, _, rfl⟩
        simp [mayP, h1, h2, h3]
      · go_enter Try.func22, Try.ntmps22
        go_wp2
        go_ret
        refine ⟨ret_bool ?_, _, rfl⟩
        simp [mayP]; omega
    · go_enter Try.func22, Try.ntmps22
      go_wp2
      go_ret
      refine ⟨ret_bool ?_, _, rfl⟩
      simp [mayP]; omega
  · go_enter Try.func22, Try.ntmps22
    go_wp2
    go_ret
    refine ⟨ret_bool ?_, _, rfl⟩
    simp [mayP]; omega

end Go.Proofs.Ythnpalcjfgbjeaa
