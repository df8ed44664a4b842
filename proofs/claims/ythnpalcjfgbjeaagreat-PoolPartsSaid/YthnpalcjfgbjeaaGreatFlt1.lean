/- Package filter: which steps may stand, which programs may be. Conditions: those that each states. -/
import Derived.Test.YthnpalcjfgbjeaaGreatFlt
import Derived.RegionTactic
import Derived.BigRegion
import Derived.WalkMore
import Derived.Deep.QuietTactic
import Derived.BigQuiet
namespace Go.Proofs.YthnpalcjfgbjeaaGreat
open Go.ChangeShapes Go.WideShapes Go.ChangeAt Go.RowKit Go.Deep
set_option linter.unusedVariables false

theorem leave_v (n : Int) (v : Bool) (hv : v = leaveB n) (w : World) :
    Calls Tryz.prog 93 #[.int .i64 n] w fun e w' => e = .returned (.bool v) ∧ w' = w := by
  subst hv
  unfold leaveB
  by_cases h0 : 0 ≤ n
  · by_cases h1 : n ≤ 255
    · rw [decide_eq_true h0, decide_eq_true h1]
      go_enter Tryz.func93, Tryz.ntmps93
      go_wp2
      go_ret
      exact ⟨rfl, rfl⟩
    · rw [decide_eq_true h0, decide_eq_false h1]
      go_enter Tryz.func93, Tryz.ntmps93
      go_wp2
      go_ret
      exact ⟨rfl, rfl⟩
  · rw [decide_eq_false h0]
    go_enter Tryz.func93, Tryz.ntmps93
    go_wp2
    go_ret
    exact ⟨rfl, rfl⟩

theorem agg_cells {w : World} {q : Nat} {c : Ins} (h : Blk w q 148 #[.int .i64 c.code, .int .u32 c.k, .int .i64 c.t, .int .i64 c.f]) :
    w.cell? ⟨q, 0, none⟩ = some (.int .i64 c.code) ∧ w.cell? ⟨q, 1, none⟩ = some (.int .u32 c.k) ∧ w.cell? ⟨q, 2, none⟩ = some (.int .i64 c.t) ∧ w.cell? ⟨q, 3, none⟩ = some (.int .i64 c.f) :=
  ⟨h.cell 0, h.cell 1, h.cell 2, h.cell 3⟩
set_option maxHeartbeats 1000000 in
theorem stand_v (q : Ins) (b : Int) (v : Bool) (hv : v = mayB q b) (w : World) :
    Calls Tryz.prog 85 #[.agg #[.int .i64 q.code, .int .u32 q.k, .int .i64 q.t, .int .i64 q.f], .int .i64 b] w fun e w' => e = .returned (.bool v) ∧ Below w.heap.size w w' := by
  have hB := (Below.refl w.heap.size w).alloc (Nat.le_refl _) (.cells #[.int .i64 q.code, .int .u32 q.k, .int .i64 q.t, .int .i64 q.f] 148)
  obtain ⟨c, k, t, f⟩ := q
  have HB := Lib.hid hB
  clear hB
  subst hv
  unfold mayB asks
  show Calls _ _ #[.agg #[.int .i64 c, .int .u32 k, .int .i64 t, .int .i64 f], .int .i64 b] w _
  have LT := Lib.hid (fun w => leave_v t _ rfl w)
  have LF := Lib.hid (fun w => leave_v f _ rfl w)
  by_cases h0 : c < 0
  · rw [decide_eq_true h0]
    go_enter Tryz.func85, Tryz.ntmps85
    go_wp2
    go_ret
    exact ⟨rfl, HB.out⟩
  by_cases h8 : c > 8
  · rw [decide_eq_false h0, decide_eq_true h8]
    go_enter Tryz.func85, Tryz.ntmps85
    go_wp2
    go_ret
    exact ⟨rfl, HB.out⟩
  rw [decide_eq_false h0, decide_eq_false h8]
  show Calls _ _ _ w fun e w' => e = .returned (.bool (leaveB t && leaveB f && (if (c == 5 || c == 6) = true then decide (t < b) && decide (f < b) else true))) ∧ _
  generalize leaveB t = vt at *
  cases vt with
  | false =>
    show Calls _ _ _ w fun e w' => e = .returned (.bool false) ∧ _
    go_enter Tryz.func85, Tryz.ntmps85
    go_wp2_with (go_at_call 93; refine (LT.out _).mono ?_; rintro e w' ⟨rfl, rfl⟩)
    go_ret
    exact ⟨rfl, HB.out⟩
  | true =>
    generalize leaveB f = vf at *
    cases vf with
    | false =>
      show Calls _ _ _ w fun e w' => e = .returned (.bool false) ∧ _
      go_enter Tryz.func85, Tryz.ntmps85
      go_wp2_with fail
      refine (LT.out _).mono ?_; rintro e w' ⟨rfl, rfl⟩
      go_wp2_with fail
      refine (LF.out _).mono ?_; rintro e w' ⟨rfl, rfl⟩
      go_wp2
      go_ret
      exact ⟨rfl, HB.out⟩
    | true =>
      show Calls _ _ _ w fun e w' => e = .returned (.bool (if (c == 5 || c == 6) = true then decide (t < b) && decide (f < b) else true)) ∧ _
      by_cases h56 : (c == 5 || c == 6) = true
      · rw [if_pos h56]
        by_cases h5 : c = 5
        · subst h5
          by_cases h1 : t < b
          · by_cases h2 : f < b
            · rw [decide_eq_true h1, decide_eq_true h2]
              go_enter Tryz.func85, Tryz.ntmps85
              go_wp2_with fail
              refine (LT.out _).mono ?_; rintro e w' ⟨rfl, rfl⟩
              go_wp2_with fail
              refine (LF.out _).mono ?_; rintro e w' ⟨rfl, rfl⟩
              go_wp2
              go_ret
              exact ⟨rfl, HB.out⟩
            · have d2 : decide (f < b) = false := decide_eq_false h2
              rw [decide_eq_true h1, d2]
              go_enter Tryz.func85, Tryz.ntmps85
              go_wp2_with fail
              refine (LT.out _).mono ?_; rintro e w' ⟨rfl, rfl⟩
              go_wp2_with fail
              refine (LF.out _).mono ?_; rintro e w' ⟨rfl, rfl⟩
              go_wp2
              go_ret
              exact ⟨rfl, HB.out⟩
          · rw [decide_eq_false h1]
            go_enter Tryz.func85, Tryz.ntmps85
            go_wp2_with fail
            refine (LT.out _).mono ?_; rintro e w' ⟨rfl, rfl⟩
            go_wp2_with fail
            refine (LF.out _).mono ?_; rintro e w' ⟨rfl, rfl⟩
            go_wp2
            go_ret
            exact ⟨rfl, HB.out⟩
        · have h6 : c = 6 := by simp at h56; omega
          subst h6
          by_cases h1 : t < b
          · by_cases h2 : f < b
            · rw [decide_eq_true h1, decide_eq_true h2]
              go_enter Tryz.func85, Tryz.ntmps85
              go_wp2_with fail
              refine (LT.out _).mono ?_; rintro e w' ⟨rfl, rfl⟩
              go_wp2_with fail
              refine (LF.out _).mono ?_; rintro e w' ⟨rfl, rfl⟩
              go_wp2
              go_ret
              exact ⟨rfl, HB.out⟩
            · have d2 : decide (f < b) = false := decide_eq_false h2
              rw [decide_eq_true h1, d2]
              go_enter Tryz.func85, Tryz.ntmps85
              go_wp2_with fail
              refine (LT.out _).mono ?_; rintro e w' ⟨rfl, rfl⟩
              go_wp2_with fail
              refine (LF.out _).mono ?_; rintro e w' ⟨rfl, rfl⟩
              go_wp2
              go_ret
              exact ⟨rfl, HB.out⟩
          · rw [decide_eq_false h1]
            go_enter Tryz.func85, Tryz.ntmps85
            go_wp2_with fail
            refine (LT.out _).mono ?_; rintro e w' ⟨rfl, rfl⟩
            go_wp2_with fail
            refine (LF.out _).mono ?_; rintro e w' ⟨rfl, rfl⟩
            go_wp2
            go_ret
            exact ⟨rfl, HB.out⟩
      · rw [if_neg h56]
        have h5 : (c == 5) = false := by
          cases h : (c == 5) with
          | false => rfl
          | true => simp [h] at h56
        have h6 : (c == 6) = false := by
          cases h : (c == 6) with
          | false => rfl
          | true => simp [h] at h56
        clear h56
        go_enter Tryz.func85, Tryz.ntmps85
        go_wp2_with fail
        refine (LT.out _).mono ?_; rintro e w' ⟨rfl, rfl⟩
        go_wp2_with fail
        refine (LF.out _).mono ?_; rintro e w' ⟨rfl, rfl⟩
        go_wp2
        go_ret
        exact ⟨rfl, HB.out⟩
end Go.Proofs.YthnpalcjfgbjeaaGreat
