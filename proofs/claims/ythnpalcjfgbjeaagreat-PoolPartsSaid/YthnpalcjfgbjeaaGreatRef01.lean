/- What the functions of package pantlerref01 do, said of their arguments. Conditions: those that each states. -/
import Derived.Test.YthnpalcjfgbjeaaGreatSuA
import Derived.RegionTactic
import Derived.ChangeAlike
namespace Go.Proofs.YthnpalcjfgbjeaaGreat
open Go.ChangeShapes Go.WideShapes Go.ChangeAt Go.RowKit Fl

def pair (a b : Int) : Value := .agg #[.int .i64 a, .int .i64 b]

theorem number_any (a b : Int) (w : World) : Calls Tryz.prog 13 #[.agg #[.int .i64 a, .int .i64 b]] w fun e w' => e = .returned (.complex .f64 (floatOfInt .f64 a) (floatOfInt .f64 b)) ∧ Below w.heap.size w w' := by
  go_enter Tryz.func13, Tryz.ntmps13
  go_wp2
  go_ret
  exact ⟨rfl, by go_grown⟩

theorem number_w (a b : Int) (w : World) : Calls Tryz.prog 13 #[.agg #[.int .i64 a, .int .i64 b]] w fun e w' => e = .returned (.complex .f64 (floatOfInt .f64 a) (floatOfInt .f64 b)) ∧ w.alloc (.cells #[.int .i64 a, .int .i64 b] 48) = w' := by
  go_enter Tryz.func13, Tryz.ntmps13
  go_wp2
  go_ret
  exact ⟨rfl, rfl⟩

theorem eqf (v : Int) (h : v.natAbs < 2 ^ 53) : (FloatKind.f64.format.order (fl v) (floatOfInt .f64 v) == some .eq) = true := by
  have : FloatKind.f64.format.order (fl v) (floatOfInt .f64 v) = some (compare v v) := fl_order h h
  rw [this]; simp [compare, compareOfLessAndEq]
theorem eqf' (v : Int) (h : v.natAbs < 2 ^ 53) : (FloatKind.f64.format.order (fl v) (fl v) == some .eq) = true := eqf v h
theorem eqf0 (v : Int) (h : v.natAbs < 2 ^ 53) : (FloatKind.f64.format.order (floatOfInt .f64 v) (floatOfInt .f64 v) == some .eq) = true := eqf v h

def mayP (a b : Int) : Bool := decide ((0 ≤ a ∧ a ≤ 1099511627776) ∧ (0 ≤ b ∧ b ≤ 1099511627776))

theorem fo_add (S x : Nat) (hx : x ≤ 65535) : fo (S + x) = if 65536 ≤ fo S + x then fo S + x - 65535 else fo S + x := by
  unfold fo
  by_cases h : S = 0
  · subst h
    by_cases h0 : x = 0
    · subst h0; rfl
    · rw [if_pos rfl, if_neg (by omega), if_neg (by omega)]; omega
  · rw [if_neg h, if_neg (by omega)]
    split <;> omega

end Go.Proofs.YthnpalcjfgbjeaaGreat
