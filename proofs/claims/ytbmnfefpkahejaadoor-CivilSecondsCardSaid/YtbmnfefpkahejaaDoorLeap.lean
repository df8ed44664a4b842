/- Leap years, the days of years and months, weekdays: what the program's and the document's functions do. Conditions: those that each states. -/
import Derived.Test.YtbmnfefpkahejaaDoorCal
import Derived.Test.YtbmnfefpkahejaaDoorVarsC
import Derived.Deep.RegionHeld3
import Derived.Deep.DeepCutAuto
import Derived.Deep.QuietTactic
import Derived.BigQuiet
import Derived.WalkSpells
import Derived.Deep.LoopGhost
namespace Go.Proofs.YtbmnfefpkahejaaDoor
open Go.ChangeShapes Go.WideShapes Go.ChangeAt Go.RowKit Go.Deep

/-- Has the year a day more? -/
def leapB (y : Int) : Bool := decide (lp y = 1)
theorem leapB_is (y : Int) : leapB y = (decide (y.tmod 4 = 0) && (!decide (y.tmod 100 = 0) || decide (y.tmod 400 = 0))) := by
  have h : ∀ k : Int, (y.tmod k = 0) = (y % k = 0) := fun k => propext ⟨fun h => Int.emod_eq_zero_of_dvd (Int.dvd_of_tmod_eq_zero h), fun h => Int.tmod_eq_zero_of_dvd (Int.dvd_of_emod_eq_zero h)⟩
  rw [Bool.eq_iff_iff]
  simp only [leapB, lp, h]
  simp
theorem ret_bool {a b : Bool} (h : a = b) : Ending.returned (.bool a) = .returned (.bool b) := by rw [h]
theorem ret_int {k : IntKind} {a b : Int} (h : a = b) : Ending.returned (.int k a) = .returned (.int k b) := by rw [h]

theorem leap_any (y : Int) (w : World) :
    Calls Tryd.prog 10 #[.int .i64 y] w fun e w' => e = .returned (.bool (leapB y)) ∧ w' = w := by
  have hl := leapB_is y
  generalize leapB y = b at *
  by_cases h4 : y.tmod 4 = 0 <;> by_cases h100 : y.tmod 100 = 0 <;> by_cases h400 : y.tmod 400 = 0 <;> simp [h4, h100, h400] at hl <;> subst hl
  all_goals
    go_enter Tryd.func10, Tryd.ntmps10
    go_wp2
    go_ret
    first | exact ⟨rfl, rfl⟩ | exact ⟨ret_bool (by simp [*]), rfl⟩
theorem refLeap_any (y : Int) (w : World) :
    Calls Tryd.prog 11 #[.int .i64 y] w fun e w' => e = .returned (.bool (leapB y)) ∧ w' = w := by
  have hl := leapB_is y
  have hx : y.tmod 400 = 0 → y.tmod 4 = 0 := fun h => Int.tmod_eq_zero_of_dvd (Int.dvd_trans (by decide) (Int.dvd_of_tmod_eq_zero h))
  generalize leapB y = b at *
  by_cases h4 : y.tmod 4 = 0 <;> by_cases h100 : y.tmod 100 = 0 <;> by_cases h400 : y.tmod 400 = 0 <;> simp [h4, h100, h400] at hl hx <;> subst hl <;> try clear hx
  all_goals
    go_enter Tryd.func11, Tryd.ntmps11
    go_wp2
    go_ret
    first | exact ⟨rfl, rfl⟩ | exact ⟨ret_bool (by simp [*]), rfl⟩
theorem may_yes (n : Int) (h0 : 0 ≤ n) (h1 : n ≤ 253402300799) (w : World) :
    Calls Tryd.prog 12 #[.int .i64 n] w fun e w' => e = .returned (.bool true) ∧ w' = w := by
  go_enter Tryd.func12, Tryd.ntmps12
  go_wp2
  go_ret
  exact ⟨rfl, rfl⟩
theorem may_no (n : Int) (h : n < 0 ∨ 253402300799 < n) (w : World) :
    Calls Tryd.prog 12 #[.int .i64 n] w fun e w' => e = .returned (.bool false) ∧ w' = w := by
  rcases h with h | h
  · go_enter Tryd.func12, Tryd.ntmps12
    go_wp2
    go_ret
    exact ⟨rfl, rfl⟩
  · have h0 : 0 ≤ n := by omega
    have h' : ¬ n ≤ 253402300799 := by omega
    go_enter Tryd.func12, Tryd.ntmps12
    go_wp2
    go_ret
    exact ⟨rfl, rfl⟩
theorem dy_any (y : Int) (w : World) :
    Calls Tryd.prog 30 #[.int .i64 y] w fun e w' => e = .returned (.int .i64 (365 + lp y)) ∧ w' = w := by
  have h01 := lp_01 y
  have hl : leapB y = decide (lp y = 1) := rfl
  have hc := fun w => leap_any y w
  by_cases h : lp y = 1
  · rw [h]
    rw [h] at hl
    simp at hl
    rw [hl] at hc
    clear h h01 hl
    go_enter Tryd.func30, Tryd.ntmps30
    go_wp2_with fail
    refine (hc _).mono ?_; rintro e w' ⟨rfl, rfl⟩
    go_wp2
    go_ret
    exact ⟨rfl, rfl⟩
  · have h0 : lp y = 0 := by omega
    rw [h0]
    rw [h0] at hl
    simp at hl
    rw [hl] at hc
    clear h h01 hl h0
    go_enter Tryd.func30, Tryd.ntmps30
    go_wp2_with fail
    refine (hc _).mono ?_; rintro e w' ⟨rfl, rfl⟩
    go_wp2
    go_ret
    exact ⟨rfl, rfl⟩
theorem dm_other (y m : Int) (i : Nat) (hm : m - 1 = i) (hi : i < 12) (h2 : (m == 2) = false) (v : Int) (hv : moDays.getD i 0 = v) (w : World) (hV : Vars w) :
    Calls Tryd.prog 31 #[.int .i64 y, .int .i64 m] w fun e w' => e = .returned (.int .i64 v) ∧ w' = w := by
  have hc := hV.day i hi
  rw [hv] at hc
  obtain rfl : m = i + 1 := by omega
  have hx : IntKind.i64.wrap ((i : Int) + 1 - 1) = i := by rw [Int.add_sub_cancel]; exact IntWalk.i64_in _ (by omega)
  have hi' : (i : Int) < 12 := by omega
  clear hm hv
  go_enter Tryd.func31, Tryd.ntmps31
  go_wp2
  go_ret
  exact ⟨rfl, rfl⟩
theorem dm_any (y m : Int) (h0 : 1 ≤ m) (h1 : m ≤ 12) (w : World) (hV : Vars w) :
    Calls Tryd.prog 31 #[.int .i64 y, .int .i64 m] w fun e w' => e = .returned (.int .i64 (dm y m)) ∧ w' = w := by
  by_cases h2 : m = 2
  · subst h2
    have h01 := lp_01 y
    have hl : leapB y = decide (lp y = 1) := rfl
    have hc := fun w => leap_any y w
    have hd := hV.day 1 (by omega)
    by_cases h : lp y = 1
    · have e : dm y 2 = 29 := by simp [dm, h]
      rw [e]
      rw [h] at hl
      simp at hl
      rw [hl] at hc
      clear h h01 hl e
      go_enter Tryd.func31, Tryd.ntmps31
      go_wp2_with fail
      refine (hc _).mono ?_; rintro e w' ⟨rfl, rfl⟩
      go_wp2
      go_ret
      exact ⟨rfl, rfl⟩
    · have h0 : lp y = 0 := by omega
      have e : dm y 2 = 28 := by simp [dm, h0]
      rw [e]
      rw [h0] at hl
      simp at hl
      rw [hl] at hc
      clear h h01 hl e h0
      go_enter Tryd.func31, Tryd.ntmps31
      go_wp2_with fail
      refine (hc _).mono ?_; rintro e w' ⟨rfl, rfl⟩
      go_wp2
      go_ret
      exact ⟨rfl, rfl⟩
  · refine dm_other y m (m - 1).toNat (by omega) (by omega) (by simpa using h2) _ ?_ w hV
    rcases twelve h0 h1 with rfl | rfl | rfl | rfl | rfl | rfl | rfl | rfl | rfl | rfl | rfl | rfl <;> first | (exact absurd rfl h2) | rfl
theorem wday_any (k : Int) (h0 : 0 ≤ k) (h1 : k ≤ 2932896) (w : World) :
    Calls Tryd.prog 20 #[.int .i64 k] w fun e w' => e = .returned (.int .i64 ((k + 4) % 7)) ∧ w' = w := by
  go_enter Tryd.func20, Tryd.ntmps20
  go_wp2
  go_ret
  exact ⟨ret_int (by omega), rfl⟩
end Go.Proofs.YtbmnfefpkahejaaDoor
