/- Package seqno and the document's: Add, Far, Before, Within, Later, Offset. Conditions: those that each states. -/
import Derived.Test.YtcpnflkfaakngaaApp
import Derived.BigQuiet
import Derived.Deep.Cut
import Derived.Deep.DeepCutAuto
namespace Go.Proofs.Ytcpnflkfaakngaa.Sq
open Go.ChangeShapes Go.WideShapes Go.ChangeAt Go.RowKit Go.Deep
set_option linter.unusedVariables false
set_option linter.unusedSimpArgs false

/-- The rest by a round; how far; within; the place near another one; how far two are. -/
def rd (n : Int) : Int := n % 4294967296
def fr (a b : Int) : Int := (b - a + 2147483648) % 4294967296 - 2147483648
def wi (x f n : Int) : Bool := decide (0 ≤ fr f x ∧ fr f x < n ∧ n ≤ 2147483647)
def lt (a b : Int) : Int := if 0 < fr a b then b else a
def off (f x n : Int) : Int := n + fr (rd (f + n)) x
def ap (a b : Int) : Int := if b < a then a - b else b - a

theorem rd_in (n : Int) : 0 ≤ rd n ∧ rd n ≤ 4294967295 := by unfold rd; omega
theorem fr_in (a b : Int) : -2147483648 ≤ fr a b ∧ fr a b ≤ 2147483647 := by unfold fr; omega
theorem tm (n : Int) : n.tmod 4294967296 = if 0 ≤ n then n % 4294967296 else -((-n) % 4294967296) := by
  split
  · rw [Int.tmod_eq_emod_of_nonneg (by omega)]
  · have : n = -(-n) := by omega
    rw [this, Int.neg_tmod, Int.tmod_eq_emod_of_nonneg (by omega)]; simp

theorem add_any (a n : Int) (w : World) :
    Calls Try.prog 9 #[.int .u32 a, .int .i64 n] w fun e w' => e = .returned (.int .u32 (rd (a + n))) ∧ w' = w := by
  go_enter Try.func9, Try.ntmps9
  go_wp2
  go_ret
  exact ⟨congrArg (fun x => Ending.returned (Value.int .u32 x)) (show (a + n % 4294967296) % 4294967296 = rd (a + n) by unfold rd; omega), rfl⟩

theorem far_any (a b : Int) (w : World) :
    Calls Try.prog 11 #[.int .u32 a, .int .u32 b] w fun e w' => e = .returned (.int .i64 (fr a b)) ∧ w' = w := by
  go_enter Try.func11, Try.ntmps11
  go_wp2
  go_ret
  exact ⟨congrArg (fun x => Ending.returned (Value.int .i64 x)) (show wrap64 (wrap32 ((b - a) % 4294967296)) = fr a b by unfold fr wrap64 wrap32; omega), rfl⟩

theorem before_any (a b : Int) (w : World) :
    Calls Try.prog 12 #[.int .u32 a, .int .u32 b] w fun e w' => e = .returned (.bool (decide (0 < fr a b))) ∧ w' = w := by
  go_enter Try.func12, Try.ntmps12
  go_wp2_with fail
  refine (far_any a b w).mono ?_; rintro e w' ⟨rfl, rfl⟩
  go_wp2
  go_ret
  exact ⟨rfl, rfl⟩

theorem within_any (x f n : Int) (w : World) :
    Calls Try.prog 13 #[.int .u32 x, .int .u32 f, .int .i64 n] w fun e w' => e = .returned (.bool (wi x f n)) ∧ w' = w := by
  go_enter Try.func13, Try.ntmps13
  go_wp2_with fail
  refine (far_any f x w).mono ?_; rintro e w' ⟨rfl, rfl⟩
  have E := Lib.hid (show wi x f n = decide (0 ≤ fr f x ∧ fr f x < n ∧ n ≤ 2147483647) from rfl)
  generalize fr f x = g at *
  by_cases h1 : n ≤ 2147483647
  · by_cases h2 : 0 ≤ g
    · by_cases h3 : g < n
      · go_wp2
        go_ret
        refine ⟨?_, rfl⟩
        rw [E.out, decide_eq_true ⟨h2, h3, h1⟩]
        try rfl
        try simp [h1, h2, h3]
      · go_wp2
        go_ret
        refine ⟨?_, rfl⟩
        rw [E.out, decide_eq_false (by omega)]
        try rfl
        try simp [h1, h2, h3]
    · go_wp2
      go_ret
      refine ⟨?_, rfl⟩
      rw [E.out, decide_eq_false (by omega)]
      try rfl
      try simp [h1, h2]
  · go_wp2
    go_ret
    refine ⟨?_, rfl⟩
    rw [E.out, decide_eq_false (by omega)]
    try rfl
    try simp [h1]

theorem later_any (a b : Int) (w : World) :
    Calls Try.prog 15 #[.int .u32 a, .int .u32 b] w fun e w' => e = .returned (.int .u32 (lt a b)) ∧ w' = w := by
  go_enter Try.func15, Try.ntmps15
  go_wp2_with fail
  refine (before_any a b w).mono ?_; rintro e w' ⟨rfl, rfl⟩
  have E := Lib.hid (show lt a b = if 0 < fr a b then b else a from rfl)
  generalize fr a b = g at *
  by_cases h : 0 < g
  · go_wp2
    go_ret
    exact ⟨by rw [E.out, if_pos h]; rfl, rfl⟩
  · go_wp2
    go_ret
    exact ⟨by rw [E.out, if_neg (by omega)]; rfl, rfl⟩

theorem offset_any (f x n : Int) (h1 : -1099511627776 - 4294967296 ≤ n) (h2 : n ≤ 1099511627776 + 4294967296) (w : World) :
    Calls Try.prog 16 #[.int .u32 f, .int .u32 x, .int .i64 n] w fun e w' => e = .returned (.int .i64 (off f x n)) ∧ w' = w := by
  go_enter Try.func16, Try.ntmps16
  go_wp2_with fail
  refine (add_any f n w).mono ?_; rintro e w' ⟨rfl, rfl⟩
  go_wp2_with fail
  refine (far_any _ x _).mono ?_; rintro e w' ⟨rfl, rfl⟩
  have E := Lib.hid (show off f x n = n + fr (rd (f + n)) x from rfl)
  have F := fr_in (rd (f + n)) x
  generalize fr (rd (f + n)) x = g at *
  obtain ⟨F1, F2⟩ := F
  by_cases h3 : 0 < g
  · go_wp2
    go_ret
    exact ⟨by rw [E.out]; rfl, rfl⟩
  by_cases h4 : g < 0
  · go_wp2
    go_ret
    exact ⟨by rw [E.out]; rfl, rfl⟩
  go_wp2
  go_ret
  exact ⟨by rw [E.out]; rfl, rfl⟩

/-! The document's. -/
theorem round_any (n : Int) (w : World) :
    Calls Try.prog 18 #[.int .i64 n] w fun e w' => e = .returned (.int .i64 (rd n)) ∧ w' = w := by
  have E := Lib.hid (tm n)
  go_enter Try.func18, Try.ntmps18
  go_upto_region 2 with fail
  generalize n.tmod 4294967296 = q at *
  by_cases h : q < 0
  · go_wp2
    go_ret
    refine ⟨congrArg (fun x => Ending.returned (Value.int .i64 x)) ?_, rfl⟩
    have := E.out; unfold rd; try unfold wrap64
    split at this <;> omega
  · go_wp2
    go_ret
    exact ⟨congrArg (fun x => Ending.returned (Value.int .i64 x)) (show q = rd n by have := E.out; unfold rd; split at this <;> omega), rfl⟩

theorem rfar_any (a b : Int) (ha : 0 ≤ a ∧ a ≤ 4294967295) (hb : 0 ≤ b ∧ b ≤ 4294967295) (w : World) :
    Calls Try.prog 8 #[.int .u32 a, .int .u32 b] w fun e w' => e = .returned (.int .i64 (fr a b)) ∧ w' = w := by
  have E := Lib.hid (show fr a b = if 2147483648 ≤ rd (b - a) then rd (b - a) - 4294967296 else rd (b - a) by unfold fr rd; split <;> omega)
  have F := rd_in (b - a)
  have S := Lib.hid (show wrap64 (b - a) = b - a by unfold wrap64; omega)
  go_enter Try.func8, Try.ntmps8
  go_wp2_with fail
  try rw [S.out]
  refine (round_any (b - a) w).mono ?_; rintro e w' ⟨rfl, rfl⟩
  generalize rd (b - a) = q at *
  obtain ⟨F1, F2⟩ := F
  by_cases h : q < 2147483648
  · go_wp2
    go_ret
    exact ⟨by rw [E.out, if_neg (by omega)]; rfl, rfl⟩
  · go_wp2
    go_ret
    exact ⟨by rw [E.out, if_pos (by omega)]; rfl, rfl⟩

theorem radd_any (a n : Int) (ha : 0 ≤ a ∧ a ≤ 4294967295) (w : World) :
    Calls Try.prog 10 #[.int .u32 a, .int .i64 n] w fun e w' => e = .returned (.int .u32 (rd (a + n))) ∧ w' = w := by
  go_enter Try.func10, Try.ntmps10
  go_wp2_with fail
  refine (round_any n w).mono ?_; rintro e w' ⟨rfl, rfl⟩
  have F := rd_in n
  have E := Lib.hid (show rd (a + rd n) = rd (a + n) by unfold rd; omega)
  generalize rd n = q at *
  go_wp2_with fail
  have S := Lib.hid (show wrap64 (a + q) = a + q by unfold wrap64; omega)
  try rw [S.out]
  refine (round_any (a + q) _).mono ?_; rintro e w' ⟨rfl, rfl⟩
  rw [E.out]
  have G := rd_in (a + n)
  go_wp2
  go_ret
  refine ⟨congrArg (fun x => Ending.returned (Value.int .u32 x)) ?_, rfl⟩
  omega

theorem rwithin_any (x f n : Int) (hx : 0 ≤ x ∧ x ≤ 4294967295) (hf : 0 ≤ f ∧ f ≤ 4294967295) (w : World) :
    Calls Try.prog 14 #[.int .u32 x, .int .u32 f, .int .i64 n] w fun e w' => e = .returned (.bool (wi x f n)) ∧ w' = w := by
  have E := Lib.hid (show wi x f n = decide (0 ≤ n ∧ n ≤ 2147483647 ∧ rd (x - f) < n) by unfold wi; rw [decide_eq_decide]; unfold fr rd; omega)
  have S := Lib.hid (show wrap64 (x - f) = x - f by unfold wrap64; omega)
  go_enter Try.func14, Try.ntmps14
  by_cases h1 : 0 ≤ n
  · by_cases h2 : n ≤ 2147483647
    · go_wp2_with fail
      try rw [S.out]
      refine (round_any (x - f) w).mono ?_; rintro e w' ⟨rfl, rfl⟩
      generalize rd (x - f) = q at *
      go_wp2
      go_ret
      refine ⟨?_, rfl⟩
      rw [E.out]
      exact congrArg (fun x => Ending.returned (Value.bool x)) (decide_eq_decide.2 (by omega))
    · go_wp2
      go_ret
      exact ⟨by rw [E.out, decide_eq_false (by omega)]; try rfl
                try simp [h1, h2], rfl⟩
  · go_wp2
    go_ret
    exact ⟨by rw [E.out, decide_eq_false (by omega)]; try rfl
              try simp [h1], rfl⟩

theorem apart_any (a b : Int) (ha : -2199023255552 ≤ a ∧ a ≤ 2199023255552) (hb : -2199023255552 ≤ b ∧ b ≤ 2199023255552) (w : World) :
    Calls Try.prog 19 #[.int .i64 a, .int .i64 b] w fun e w' => e = .returned (.int .i64 (ap a b)) ∧ w' = w := by
  go_enter Try.func19, Try.ntmps19
  by_cases h : b < a
  · have E := Lib.hid (show a - b = ap a b by unfold ap; rw [if_pos h])
    go_wp2
    go_ret
    exact ⟨congrArg (fun x => Ending.returned (Value.int .i64 x)) E.out, rfl⟩
  · have E := Lib.hid (show b - a = ap a b by unfold ap; rw [if_neg h])
    go_wp2
    go_ret
    exact ⟨congrArg (fun x => Ending.returned (Value.int .i64 x)) E.out, rfl⟩

/-- The best of those that were looked at. -/
def bs (m near : Int) : Nat → Int
  | 0 => m - 4294967296
  | k + 1 => if ap (m + 4294967296 * (k : Int)) near < ap (bs m near k) near then m + 4294967296 * (k : Int) else bs m near k

theorem bs_in (m near : Int) : ∀ k : Nat, k ≤ 2 → m - 4294967296 ≤ bs m near k ∧ bs m near k ≤ m + 4294967296 := by
  intro k hk
  match k, hk with
  | 0, _ => unfold bs; omega
  | 1, _ => unfold bs bs; split <;> omega
  | 2, _ => unfold bs bs bs; split <;> (try split) <;> omega

theorem bs_off (f x near : Int) (hf : 0 ≤ f ∧ f ≤ 4294967295) (hx : 0 ≤ x ∧ x ≤ 4294967295) : bs (near - rd near + rd (x - f)) near 2 = off f x near := by
  unfold off fr
  have e : near - rd near + rd (x - f) = near + (rd (x - f) - rd near) := by omega
  rw [e]
  have h : (x - rd (f + near) + 2147483648) % 4294967296 = (rd (x - f) - rd near + 2147483648) % 4294967296 := by unfold rd; omega
  rw [h]
  have r1 := rd_in (x - f)
  have r2 := rd_in near
  obtain ⟨d, hd⟩ : ∃ d : Int, d = rd (x - f) - rd near := ⟨_, rfl⟩
  rw [← hd]
  unfold bs bs bs ap
  repeat' split
  all_goals omega

theorem roffset_any (f x n : Int) (hf : 0 ≤ f ∧ f ≤ 4294967295) (hx : 0 ≤ x ∧ x ≤ 4294967295) (h1 : -1099511627776 ≤ n) (h2 : n ≤ 1099511627776) (w : World) :
    Calls Try.prog 17 #[.int .u32 f, .int .u32 x, .int .i64 n] w fun e w' => e = .returned (.int .i64 (off f x n)) ∧ w' = w := by
  have E := Lib.hid (bs_off f x n hf hx)
  have S := Lib.hid (show wrap64 (x - f) = x - f by unfold wrap64; omega)
  go_enter Try.func17, Try.ntmps17
  go_wp2_with fail
  try rw [S.out]
  refine (round_any (x - f) w).mono ?_; rintro e w' ⟨rfl, rfl⟩
  have F := rd_in (x - f)
  generalize rd (x - f) = p at *
  go_wp2_with fail
  refine (round_any n _).mono ?_; rintro e w' ⟨rfl, rfl⟩
  have G := rd_in n
  generalize rd n = q at *
  obtain ⟨m, hm⟩ : ∃ m : Int, m = n - q + p := ⟨_, rfl⟩
  have M := Lib.hid (show wrap64 (wrap64 (n - q) + p) = m by unfold wrap64; omega)
  have M2 := Lib.hid (show n - q + p = m from hm.symm)
  have M3 := Lib.hid (show wrap64 (m - 4294967296) = m - 4294967296 by unfold wrap64; omega)
  rw [M2.out] at E
  obtain ⟨m1, m2⟩ : n - 4294967296 ≤ m ∧ m ≤ n + 4294967296 := by omega
  clear hm
  go_upto_region 3 with fail
  try rw [M.out]
  try rw [M2.out]
  clear M M2 F G
  go_upto_region 4 with fail
  try rw [M3.out]
  go_wp2
  go_loopg [9, 10] 2 (fun g s9 s10 wr => ∃ k : Nat, k + g = 2 ∧ s9 = .int .i64 (bs m n k) ∧ s10 = .int .i64 (k : Int) ∧ wr = w')
  case atStart => exact ⟨0, by omega, rfl, rfl, rfl⟩
  case round =>
    obtain ⟨k, hk, rfl, rfl, rfl⟩ := hrel
    have I := bs_in m n k (by omega)
    have N := Lib.hid (show bs m n (k + 1) = if ap (m + 4294967296 * (k : Int)) n < ap (bs m n k) n then m + 4294967296 * (k : Int) else bs m n k from rfl)
    obtain ⟨b, hb⟩ : ∃ b, b = bs m n k := ⟨_, rfl⟩
    rw [← hb] at I N ⊢
    obtain ⟨I1, I2⟩ := I
    have HB := Lib.hid hb
    clear hb
    by_cases h2 : k < 2
    · obtain ⟨g', rfl⟩ : ∃ g', gk = g' + 1 := ⟨gk - 1, by omega⟩
      obtain ⟨c, hc⟩ : ∃ c : Int, c = m + 4294967296 * (k : Int) := ⟨_, rfl⟩
      rw [← hc] at N
      have C := Lib.hid (show wrap64 (m + wrap64 (4294967296 * (k : Int))) = c by unfold wrap64; omega)
      have C2 := Lib.hid hc.symm
      have c1 : m ≤ c := by omega
      have c2 : c ≤ m + 4294967296 := by omega
      clear hc
      go_upto_region 8 with fail
      try rw [C.out]
      try rw [C2.out]
      go_wp2_with fail
      refine (apart_any c n (by omega) (by omega) _).mono ?_; rintro e wz ⟨rfl, rfl⟩
      go_wp2_with fail
      refine (apart_any b n (by omega) (by omega) _).mono ?_; rintro e wz ⟨rfl, rfl⟩
      generalize ap c n = p1 at *
      generalize ap b n = p2 at *
      by_cases h3 : p1 < p2
      · have N2 := Lib.hid (N.out.trans (if_pos h3))
        clear N
        go_wp2
        go_roundg g'
        case rel => exact ⟨k + 1, by omega, by rw [N2.out], rfl, rfl⟩
        case measure => omega
      · have N2 := Lib.hid (N.out.trans (if_neg h3))
        clear N
        go_wp2
        go_roundg g'
        case rel => exact ⟨k + 1, by omega, by rw [N2.out], rfl, rfl⟩
        case measure => omega
    · obtain rfl : k = 2 := by omega
      go_wp2
      go_ret
      exact ⟨congrArg (fun x => Ending.returned (Value.int .i64 x)) (HB.out.trans E.out), rfl⟩

theorem alive_any (w : World) : Calls Try.prog 7 #[] w fun e w' => e = .returned (.bool true) ∧ w' = w := by
  have E1 := Lib.hid (show fr 4294967295 1 = 2 from rfl)
  have E2 := Lib.hid (show rd (4294967295 + 2) = 1 from rfl)
  go_enter Try.func7, Try.ntmps7
  go_wp2_with fail
  refine (far_any 4294967295 1 w).mono ?_; rintro e w' ⟨rfl, rfl⟩
  rw [E1.out]
  go_wp2_with fail
  refine (add_any 4294967295 2 _).mono ?_; rintro e w' ⟨rfl, rfl⟩
  rw [E2.out]
  go_wp2
  go_ret
  exact ⟨rfl, rfl⟩
end Go.Proofs.Ytcpnflkfaakngaa.Sq
