/- The document's layer 8: Within. Conditions: those that each states. -/
import Derived.Test.YtgmejifacpefdaaGaC
namespace Go.Proofs.Ytgmejifacpefdaa
open Go.ChangeShapes Go.WideShapes Go.ChangeAt Go.RowKit Go.Deep
set_option linter.unusedVariables false

set_option maxRecDepth 100000 in
theorem gwithin_any (p : Pc) (hp : p.Ok) (w : World) :
    Calls Try.prog 25 #[.agg #[.int .i64 p.frame, .int .i64 p.off, .int .i64 p.len]] w fun e w' => e = .returned (.bool (decide p.In)) ∧ Below w.heap.size w w' := by
  have B0 := Lib.hid ((Below.refl w.heap.size w).alloc (Nat.le_refl _) (.cells #[.int .i64 p.frame, .int .i64 p.off, .int .i64 p.len] 55))
  obtain ⟨o1, o2⟩ := hp.off
  by_cases g0 : p.off ≥ 0
  · skip
    by_cases g1 : p.off ≤ 256
    · skip
      by_cases g2 : p.len ≥ 0
      · skip
        by_cases g3 : p.len ≤ 256
        · skip
          have x0 : IntKind.i64.wrap (p.off + p.len) = p.off + p.len := IntWalk.i64_in _ (by omega)
          by_cases g4 : p.off + p.len ≤ 256
          · have e : decide p.In = true := decide_eq_true (by unfold Pc.In; omega)
            rw [e]
            clear o1 o2 hp e
            go_enter Try.func25, Try.ntmps25
            go_wp2
            go_ret
            exact ⟨rfl, B0.out⟩
          · have e : decide p.In = false := decide_eq_false (by unfold Pc.In; omega)
            rw [e]
            clear o1 o2 hp e
            go_enter Try.func25, Try.ntmps25
            go_wp2
            go_ret
            exact ⟨rfl, B0.out⟩
        · have e : decide p.In = false := decide_eq_false (by unfold Pc.In; omega)
          rw [e]
          clear o1 o2 hp e
          go_enter Try.func25, Try.ntmps25
          go_wp2
          go_ret
          exact ⟨rfl, B0.out⟩
      · have e : decide p.In = false := decide_eq_false (by unfold Pc.In; omega)
        rw [e]
        clear o1 o2 hp e
        go_enter Try.func25, Try.ntmps25
        go_wp2
        go_ret
        exact ⟨rfl, B0.out⟩
    · have e : decide p.In = false := decide_eq_false (by unfold Pc.In; omega)
      rw [e]
      clear o1 o2 hp e
      go_enter Try.func25, Try.ntmps25
      go_wp2
      go_ret
      exact ⟨rfl, B0.out⟩
  · have e : decide p.In = false := decide_eq_false (by unfold Pc.In; omega)
    rw [e]
    clear o1 o2 hp e
    go_enter Try.func25, Try.ntmps25
    go_wp2
    go_ret
    exact ⟨rfl, B0.out⟩
end Go.Proofs.Ytgmejifacpefdaa
