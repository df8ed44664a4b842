/- The document's answer to 'which second has this date'. Conditions: those that each states. -/
import Derived.Test.YtbmnfefpkahejaaDoorRefPr
import Derived.BigGuardPart
namespace Go.Proofs.YtbmnfefpkahejaaDoor
open Go.ChangeShapes Go.WideShapes Go.ChangeAt Go.RowKit Go.Deep

theorem run_same7 (a b c d e f g : Int) (w : World) :
    (binOp .neq 32 (.agg #[.int .i64 a, .int .i64 b, .int .i64 c, .int .i64 d, .int .i64 e, .int .i64 f, .int .i64 g]) (.agg #[.int .i64 a, .int .i64 b, .int .i64 c, .int .i64 d, .int .i64 e, .int .i64 f, .int .i64 g])).run Tryd.prog w = .ok (.bool false) w := by
  go_simp
set_option maxHeartbeats 1000000 in
theorem run_diff7 (a b c d e f g a' b' c' d' e' f' g' : Int) (h : ¬ (a' = a ∧ b' = b ∧ c' = c ∧ d' = d ∧ e' = e ∧ f' = f ∧ g' = g)) (w : World) :
    (binOp .neq 32 (.agg #[.int .i64 a', .int .i64 b', .int .i64 c', .int .i64 d', .int .i64 e', .int .i64 f', .int .i64 g']) (.agg #[.int .i64 a, .int .i64 b, .int .i64 c, .int .i64 d, .int .i64 e, .int .i64 f, .int .i64 g])).run Tryd.prog w = .ok (.bool true) w := by
  by_cases h1 : a' = a
  · subst h1
    by_cases h2 : b' = b
    · subst h2
      by_cases h3 : c' = c
      · subst h3
        by_cases h4 : d' = d
        · subst h4
          by_cases h5 : e' = e
          · subst h5
            by_cases h6 : f' = f
            · subst h6
              have h7 : (g' == g) = false := by simpa using h
              clear h
              go_simp
            · have h7 : (f' == f) = false := by simpa using h6
              clear h h6
              go_simp
          · have h7 : (e' == e) = false := by simpa using h5
            clear h h5
            go_simp
        · have h7 : (d' == d) = false := by simpa using h4
          clear h h4
          go_simp
      · have h7 : (c' == c) = false := by simpa using h3
        clear h h3
        go_simp
    · have h7 : (b' == b) = false := by simpa using h2
      clear h h2
      go_simp
  · have h7 : (a' == a) = false := by simpa using h1
    clear h h1
    go_simp

theorem kmax (Y M D : Int) (y0 : 1970 ≤ Y) (y1 : Y ≤ 9999) (m0 : 1 ≤ M) (m1 : M ≤ 12) (d0 : 1 ≤ D) (d1 : D ≤ 31) : 0 ≤ bef Y + cum Y M + (D - 1) ∧ bef Y + cum Y M + (D - 1) ≤ 2932896 := by
  have h1 := bef_mono y0
  have h2 := bef_zero
  have h3 := cum_mono Y m1 m0 (by omega)
  have h4 := cum_mono Y m0 (by omega) (by omega)
  have h5 := cum_one Y
  have h6 : cum Y 12 = 334 + lp Y := by simp [cum]
  have h7 := lp_01 Y
  refine ⟨by omega, ?_⟩
  by_cases hy : Y = 9999
  · subst hy
    have e1 : bef 9999 = 2932532 := by decide
    have e2 : lp 9999 = 0 := by decide
    omega
  · have h8 := bef_mono (show Y ≤ 9998 by omega)
    have e3 : bef 9998 = 2932167 := by decide
    omega

def coarse (Y M D : Int) : Prop := 1970 ≤ Y ∧ Y ≤ 9999 ∧ 1 ≤ M ∧ M ≤ 12 ∧ 1 ≤ D ∧ D ≤ 31

set_option maxRecDepth 100000 in
set_option maxHeartbeats 4000000 in
theorem refSec_far (Y M D H I S W : Int) (h : ¬ coarse Y M D ∨ coarse Y M D ∧ ¬ timeOk H I S) (w : World) :
    Calls Tryd.prog 16 #[.agg #[.int .i64 Y, .int .i64 M, .int .i64 D, .int .i64 H, .int .i64 I, .int .i64 S, .int .i64 W]] w fun e w' => e = .returned (.tuple #[.int .i64 0, .bool false]) ∧ Below w.heap.size w w' := by
  have hB := Lib.hid ((Below.refl w.heap.size w).alloc (Nat.le_refl _) (.cells #[.int .i64 Y, .int .i64 M, .int .i64 D, .int .i64 H, .int .i64 I, .int .i64 S, .int .i64 W] 32))
  rcases h with h | ⟨⟨z1, z2, z3, z4, z5, z6⟩, h⟩
  · have hc : (Y < 1970) ∨ (decide (Y < 1970) = false ∧ 9999 < Y) ∨ (decide (Y < 1970) = false ∧ decide (9999 < Y) = false ∧ M < 1) ∨ (decide (Y < 1970) = false ∧ decide (9999 < Y) = false ∧ decide (M < 1) = false ∧ 12 < M) ∨ (decide (Y < 1970) = false ∧ decide (9999 < Y) = false ∧ decide (M < 1) = false ∧ decide (12 < M) = false ∧ D < 1) ∨ (decide (Y < 1970) = false ∧ decide (9999 < Y) = false ∧ decide (M < 1) = false ∧ decide (12 < M) = false ∧ decide (D < 1) = false ∧ 31 < D) := by
      unfold coarse at h
      simp only [decide_eq_false_iff_not]
      omega
    clear h
    rcases hc with a1 | ⟨a1, a2⟩ | ⟨a1, a2, a3⟩ | ⟨a1, a2, a3, a4⟩ | ⟨a1, a2, a3, a4, a5⟩ | ⟨a1, a2, a3, a4, a5, a6⟩
    all_goals
      go_enter Tryd.func16, Tryd.ntmps16
      go_wp2
      go_ret2
      exact ⟨rfl, hB.out⟩
  · have hc : (H < 0) ∨ (decide (H < 0) = false ∧ 23 < H) ∨ (decide (H < 0) = false ∧ decide (23 < H) = false ∧ I < 0) ∨ (decide (H < 0) = false ∧ decide (23 < H) = false ∧ decide (I < 0) = false ∧ 59 < I) ∨ (decide (H < 0) = false ∧ decide (23 < H) = false ∧ decide (I < 0) = false ∧ decide (59 < I) = false ∧ S < 0) ∨ (decide (H < 0) = false ∧ decide (23 < H) = false ∧ decide (I < 0) = false ∧ decide (59 < I) = false ∧ decide (S < 0) = false ∧ 59 < S) := by
      unfold timeOk at h
      simp only [decide_eq_false_iff_not]
      omega
    have a1 : decide (Y < 1970) = false := by simpa using z1
    have a2 : decide (9999 < Y) = false := by simpa using z2
    have a3 : decide (M < 1) = false := by simp; omega
    have a4 : decide (12 < M) = false := by simpa using z4
    have a5 : decide (D < 1) = false := by simp; omega
    have a6 : decide (31 < D) = false := by simpa using z6
    clear h z1 z2 z3 z4 z5 z6
    rcases hc with b1 | ⟨b1, b2⟩ | ⟨b1, b2, b3⟩ | ⟨b1, b2, b3, b4⟩ | ⟨b1, b2, b3, b4, b5⟩ | ⟨b1, b2, b3, b4, b5, b6⟩
    all_goals
      go_enter Tryd.func16, Tryd.ntmps16
      go_wp2
      go_ret2
      exact ⟨rfl, hB.out⟩
end Go.Proofs.YtbmnfefpkahejaaDoor
