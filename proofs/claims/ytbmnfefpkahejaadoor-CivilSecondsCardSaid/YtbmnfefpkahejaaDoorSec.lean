/- Package civil's Seconds: the second of a date. Conditions: those that each states. -/
import Derived.Test.YtbmnfefpkahejaaDoorOf
namespace Go.Proofs.YtbmnfefpkahejaaDoor
open Go.ChangeShapes Go.WideShapes Go.ChangeAt Go.RowKit Go.Deep

def dayOk (Y M D : Int) : Prop := 1970 ≤ Y ∧ Y ≤ 9999 ∧ 1 ≤ M ∧ M ≤ 12 ∧ 1 ≤ D ∧ D ≤ dm Y M
def timeOk (H I S : Int) : Prop := 0 ≤ H ∧ H < 24 ∧ 0 ≤ I ∧ I < 60 ∧ 0 ≤ S ∧ S < 60

set_option maxRecDepth 100000 in
set_option maxHeartbeats 2000000 in
theorem isDay_yes (Y M D H I S W : Int) (h : dayOk Y M D) (w : World) (hv : Vars w) :
    Calls Tryd.prog 23 #[.agg #[.int .i64 Y, .int .i64 M, .int .i64 D, .int .i64 H, .int .i64 I, .int .i64 S, .int .i64 W]] w fun e w' => e = .returned (.bool true) ∧ Below w.heap.size w w' := by
  have hV := Lib.hid (hv.alloc (.cells #[.int .i64 Y, .int .i64 M, .int .i64 D, .int .i64 H, .int .i64 I, .int .i64 S, .int .i64 W] 24))
  have hB := Lib.hid ((Below.refl w.heap.size w).alloc (Nat.le_refl _) (.cells #[.int .i64 Y, .int .i64 M, .int .i64 D, .int .i64 H, .int .i64 I, .int .i64 S, .int .i64 W] 24))
  obtain ⟨y0, y1, m0, m1, d0, d1⟩ := h
  clear hv
  go_enter Tryd.func23, Tryd.ntmps23
  go_wp2
  go_quiet ((go_at_call 31; exact Calls.quiet_of_same (dm_any _ _ m0 m1 _ (hV.out.drewN _))))
  go_wp2
  go_ret
  exact ⟨rfl, below_drewN hB.out _⟩

set_option maxRecDepth 100000 in
set_option maxHeartbeats 4000000 in
theorem isDay_no (Y M D H I S W : Int) (h : ¬ dayOk Y M D) (w : World) (hv : Vars w) :
    Calls Tryd.prog 23 #[.agg #[.int .i64 Y, .int .i64 M, .int .i64 D, .int .i64 H, .int .i64 I, .int .i64 S, .int .i64 W]] w fun e w' => e = .returned (.bool false) ∧ Below w.heap.size w w' := by
  have hV := Lib.hid (hv.alloc (.cells #[.int .i64 Y, .int .i64 M, .int .i64 D, .int .i64 H, .int .i64 I, .int .i64 S, .int .i64 W] 24))
  have hB := Lib.hid ((Below.refl w.heap.size w).alloc (Nat.le_refl _) (.cells #[.int .i64 Y, .int .i64 M, .int .i64 D, .int .i64 H, .int .i64 I, .int .i64 S, .int .i64 W] 24))
  have hc : decide (1970 ≤ Y) = false ∨ (1970 ≤ Y ∧ decide (Y ≤ 9999) = false) ∨ (1970 ≤ Y ∧ Y ≤ 9999 ∧ decide (1 ≤ M) = false) ∨ (1970 ≤ Y ∧ Y ≤ 9999 ∧ 1 ≤ M ∧ decide (M ≤ 12) = false) ∨ (1970 ≤ Y ∧ Y ≤ 9999 ∧ 1 ≤ M ∧ M ≤ 12 ∧ decide (1 ≤ D) = false) ∨ (1970 ≤ Y ∧ Y ≤ 9999 ∧ 1 ≤ M ∧ M ≤ 12 ∧ 1 ≤ D ∧ decide (D ≤ dm Y M) = false) := by
    unfold dayOk at h
    simp only [decide_eq_false_iff_not]
    omega
  clear hv h
  rcases hc with a1 | ⟨a1, a2⟩ | ⟨a1, a2, a3⟩ | ⟨a1, a2, a3, a4⟩ | ⟨a1, a2, a3, a4, a5⟩ | ⟨a1, a2, a3, a4, a5, a6⟩
  all_goals
    go_enter Tryd.func23, Tryd.ntmps23
    go_wp2
    go_quiet ((go_at_call 31; exact Calls.quiet_of_same (dm_any _ _ a3 a4 _ (hV.out.drewN _))))
    go_wp2
    go_ret
    exact ⟨rfl, below_drewN hB.out _⟩

theorem isTime_yes (Y M D H I S W : Int) (h : timeOk H I S) (w : World) :
    Calls Tryd.prog 24 #[.agg #[.int .i64 Y, .int .i64 M, .int .i64 D, .int .i64 H, .int .i64 I, .int .i64 S, .int .i64 W]] w fun e w' => e = .returned (.bool true) ∧ Below w.heap.size w w' := by
  have hB := Lib.hid ((Below.refl w.heap.size w).alloc (Nat.le_refl _) (.cells #[.int .i64 Y, .int .i64 M, .int .i64 D, .int .i64 H, .int .i64 I, .int .i64 S, .int .i64 W] 24))
  obtain ⟨y0, y1, m0, m1, d0, d1⟩ := h
  go_enter Tryd.func24, Tryd.ntmps24
  go_wp2
  go_ret
  exact ⟨rfl, hB.out⟩

set_option maxRecDepth 100000 in
set_option maxHeartbeats 2000000 in
theorem isTime_no (Y M D H I S W : Int) (h : ¬ timeOk H I S) (w : World) :
    Calls Tryd.prog 24 #[.agg #[.int .i64 Y, .int .i64 M, .int .i64 D, .int .i64 H, .int .i64 I, .int .i64 S, .int .i64 W]] w fun e w' => e = .returned (.bool false) ∧ Below w.heap.size w w' := by
  have hB := Lib.hid ((Below.refl w.heap.size w).alloc (Nat.le_refl _) (.cells #[.int .i64 Y, .int .i64 M, .int .i64 D, .int .i64 H, .int .i64 I, .int .i64 S, .int .i64 W] 24))
  have hc : ¬ 0 ≤ H ∨ (0 ≤ H ∧ ¬ H < 24) ∨ (0 ≤ H ∧ H < 24 ∧ ¬ 0 ≤ I) ∨ (0 ≤ H ∧ H < 24 ∧ 0 ≤ I ∧ ¬ I < 60) ∨ (0 ≤ H ∧ H < 24 ∧ 0 ≤ I ∧ I < 60 ∧ ¬ 0 ≤ S) ∨ (0 ≤ H ∧ H < 24 ∧ 0 ≤ I ∧ I < 60 ∧ 0 ≤ S ∧ ¬ S < 60) := by
    unfold timeOk at h
    omega
  clear h
  rcases hc with a1 | ⟨a1, a2⟩ | ⟨a1, a2, a3⟩ | ⟨a1, a2, a3, a4⟩ | ⟨a1, a2, a3, a4, a5⟩ | ⟨a1, a2, a3, a4, a5, a6⟩
  all_goals
    go_enter Tryd.func24, Tryd.ntmps24
    go_wp2
    go_ret
    exact ⟨rfl, hB.out⟩
end Go.Proofs.YtbmnfefpkahejaaDoor
