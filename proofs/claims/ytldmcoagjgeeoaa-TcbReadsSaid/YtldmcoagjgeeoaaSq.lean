/- Package seqno and the document's: Add, Far, Before, Within, Later, Offset. Conditions: those that each states. -/
import Derived.Test.YtldmcoagjgeeoaaApp
import Derived.BigQuiet
import Derived.Deep.Cut
import Derived.Deep.DeepCutAuto
namespace Go.Proofs.Ytldmcoagjgeeoaa.Sq
open Go.ChangeShapes Go.WideShapes Go.ChangeAt Go.RowKit Go.Deep
set_option linter.unusedVariables false
set_option linter.unusedSimpArgs false

/-- The rest by a round; how far; within; the place near another one; how far two are. -/
def rd (n : Int) : Int := n % 4294967296
def fr (a b : Int) : Int := (b - a + 2147483648) % 4294967296 - 2147483648
def wi (x f n : Int) : Bool := decide (0 ≤ fr f x ∧ fr f x < n ∧ n ≤ 2147483647)
def lt (a b : Int) : Int := if 0 < fr a b then b else a
def off (f x n : Int) : Int := n + fr (rd (f + n)) x
def ap (a b : Int) : Int := if b < a then a - b else b - a

theorem rd_in (n : Int) : 0 ≤ rd n ∧ rd n ≤ 4294967295 := by unfold rd; omega
theorem fr_in (a b : Int) : -2147483648 ≤ fr a b ∧ fr a b ≤ 2147483647 := by unfold fr; omega
theorem tm (n : Int) : n.tmod 4294967296 = if 0 ≤ n then n % 4294967296 else -((-n) % 4294967296) := by
  split
  · rw [Int.tmod_eq_emod_of_nonneg (by omega)]
  · have : n = -(-n) := by omega
    rw [this, Int.neg_tmod, Int.tmod_eq_emod_of_nonneg (by omega)]; simp

theorem add_any (a n : Int) (w : World) :
    Calls Try.prog 10 #[.int .u32 a, .int .i64 n] w fun e w' => e = .returned (.int .u32 (rd (a + n))) ∧ w' = w := by
  go_enter Try.func10, Try.ntmps10
  go_wp2
  go_ret
  exact ⟨congrArg (fun x => Ending.returned (Value.int .u32 x)) (show (a + n % 4294967296) % 4294967296 = rd (a + n) by unfold rd; omega), rfl⟩

theorem far_any (a b : Int) (w : World) :
    Calls Try.prog 40 #[.int .u32 a, .int .u32 b] w fun e w' => e = .returned (.int .i64 (fr a b)) ∧ w' = w := by
  go_enter Try.func40, Try.ntmps40
  go_wp2
  go_ret
  exact ⟨congrArg (fun x => Ending.returned (Value.int .i64 x)) (show wrap64 (wrap32 ((b - a) % 4294967296)) = fr a b by unfold fr wrap64 wrap32; omega), rfl⟩

theorem within_any (x f n : Int) (w : World) :
    Calls Try.prog 43 #[.int .u32 x, .int .u32 f, .int .i64 n] w fun e w' => e = .returned (.bool (wi x f n)) ∧ w' = w := by
  go_enter Try.func43, Try.ntmps43
  go_wp2_with fail
  refine (far_any f x w).mono ?_; rintro e w' ⟨rfl, rfl⟩
  have E := Lib.hid (show wi x f n = decide (0 ≤ fr f x ∧ fr f x < n ∧ n ≤ 2147483647) from rfl)
  generalize fr f x = g at *
  by_cases h1 : n ≤ 2147483647
  · by_cases h2 : 0 ≤ g
    · by_cases h3 : g < n
      · go_wp2
        go_ret
        refine ⟨?_, rfl⟩
        rw [E.out, decide_eq_true ⟨h2, h3, h1⟩]
        try rfl
        try simp [h1, h2, h3]
      · go_wp2
        go_ret
        refine ⟨?_, rfl⟩
        rw [E.out, decide_eq_false (by omega)]
        try rfl
        try simp [h1, h2, h3]
    · go_wp2
      go_ret
      refine ⟨?_, rfl⟩
      rw [E.out, decide_eq_false (by omega)]
      try rfl
      try simp [h1, h2]
  · go_wp2
    go_ret
    refine ⟨?_, rfl⟩
    rw [E.out, decide_eq_false (by omega)]
    try rfl
    try simp [h1]

theorem offset_any (f x n : Int) (h1 : -1099511627776 - 4294967296 ≤ n) (h2 : n ≤ 1099511627776 + 4294967296) (w : World) :
    Calls Try.prog 24 #[.int .u32 f, .int .u32 x, .int .i64 n] w fun e w' => e = .returned (.int .i64 (off f x n)) ∧ w' = w := by
  go_enter Try.func24, Try.ntmps24
  go_wp2_with fail
  refine (add_any f n w).mono ?_; rintro e w' ⟨rfl, rfl⟩
  go_wp2_with fail
  refine (far_any _ x _).mono ?_; rintro e w' ⟨rfl, rfl⟩
  have E := Lib.hid (show off f x n = n + fr (rd (f + n)) x from rfl)
  have F := fr_in (rd (f + n)) x
  generalize fr (rd (f + n)) x = g at *
  obtain ⟨F1, F2⟩ := F
  by_cases h3 : 0 < g
  · go_wp2
    go_ret
    exact ⟨by rw [E.out]; rfl, rfl⟩
  by_cases h4 : g < 0
  · go_wp2
    go_ret
    exact ⟨by rw [E.out]; rfl, rfl⟩
  go_wp2
  go_ret
  exact ⟨by rw [E.out]; rfl, rfl⟩

/-! The document's. -/
/-- The best of those that were looked at. -/
def bs (m near : Int) : Nat → Int
  | 0 => m - 4294967296
  | k + 1 => if ap (m + 4294967296 * (k : Int)) near < ap (bs m near k) near then m + 4294967296 * (k : Int) else bs m near k

theorem bs_in (m near : Int) : ∀ k : Nat, k ≤ 2 → m - 4294967296 ≤ bs m near k ∧ bs m near k ≤ m + 4294967296 := by
  intro k hk
  match k, hk with
  | 0, _ => unfold bs; omega
  | 1, _ => unfold bs bs; split <;> omega
  | 2, _ => unfold bs bs bs; split <;> (try split) <;> omega

theorem bs_off (f x near : Int) (hf : 0 ≤ f ∧ f ≤ 4294967295) (hx : 0 ≤ x ∧ x ≤ 4294967295) : bs (near - rd near + rd (x - f)) near 2 = off f x near := by
  unfold off fr
  have e : near - rd near + rd (x - f) = near + (rd (x - f) - rd near) := by omega
  rw [e]
  have h : (x - rd (f + near) + 2147483648) % 4294967296 = (rd (x - f) - rd near + 2147483648) % 4294967296 := by unfold rd; omega
  rw [h]
  have r1 := rd_in (x - f)
  have r2 := rd_in near
  obtain ⟨d, hd⟩ : ∃ d : Int, d = rd (x - f) - rd near := ⟨_, rfl⟩
  rw [← hd]
  unfold bs bs bs ap
  repeat' split
  all_goals omega

end Go.Proofs.Ytldmcoagjgeeoaa.Sq
