/- Package frame: what its small functions do. Conditions: those that each states. -/
import Derived.Test.YtlilfblnlpjkcaaFrm
import Derived.RegionTactic
import Derived.BigRegion
import Derived.WalkMore
import Derived.StillTailTactics
import Derived.Deep.QuietTactic
import Derived.BigQuiet
import Derived.Deep.OwnRows
namespace Go.Proofs.Ytlilfblnlpjkcaa.Fr
open Go.ChangeShapes Go.WideShapes Go.ChangeAt Go.RowKit Go.Deep
set_option linter.unusedVariables false

abbrev Tab (w : World) (gs g : Nat) (ps : List Pg) : Prop := TabAt 106 109 w gs g ps

def isE (env : Int) : Prop := env = 1 ∨ env = 2
theorem isEnv_yes (env : Int) (h : isE env) (w : World) :
    Calls Try.prog 51 #[.int .i64 env] w fun e w' => e = .returned (.bool true) ∧ w' = w := by
  have g1 : env ≥ 1 := by rcases h with h | h <;> omega
  have g2 : env ≤ 2 := by rcases h with h | h <;> omega
  clear h
  go_enter Try.func51, Try.ntmps51
  go_wp2
  go_ret
  exact ⟨rfl, rfl⟩
theorem isEnv_no (env : Int) (h : ¬ isE env) (w : World) :
    Calls Try.prog 51 #[.int .i64 env] w fun e w' => e = .returned (.bool false) ∧ w' = w := by
  by_cases g1 : env ≥ 1
  · have g2 : ¬ env ≤ 2 := by intro g2; exact h (by unfold isE; omega)
    clear h
    go_enter Try.func51, Try.ntmps51
    go_wp2
    go_ret
    exact ⟨rfl, rfl⟩
  · clear h
    go_enter Try.func51, Try.ntmps51
    go_wp2
    go_ret
    exact ⟨rfl, rfl⟩

def isIn (off n : Int) : Prop := 0 ≤ off ∧ 0 ≤ n ∧ off + n ≤ 256
theorem within_yes (off n : Int) (h : isIn off n) (w : World) :
    Calls Try.prog 54 #[.int .i64 off, .int .i64 n] w fun e w' => e = .returned (.bool true) ∧ w' = w := by
  obtain ⟨h1, h2, h3⟩ := h
  have g1 : off ≥ 0 := h1
  have g2 : n ≥ 0 := h2
  have x0 : IntKind.i64.wrap (256 - off) = 256 - off := IntWalk.i64_in _ (by omega)
  have g3 : n ≤ 256 - off := by omega
  clear h1 h2 h3
  go_enter Try.func54, Try.ntmps54
  go_wp2
  go_ret
  exact ⟨rfl, rfl⟩
theorem within_no (off n : Int) (w1 : -9223372036854775808 ≤ off ∧ off ≤ 9223372036854775807) (h : ¬ isIn off n) (w : World) :
    Calls Try.prog 54 #[.int .i64 off, .int .i64 n] w fun e w' => e = .returned (.bool false) ∧ w' = w := by
  by_cases g1 : off ≥ 0
  · by_cases g2 : n ≥ 0
    · have x0 : IntKind.i64.wrap (256 - off) = 256 - off := IntWalk.i64_in _ (by omega)
      have g3 : ¬ n ≤ 256 - off := by intro g3; exact h ⟨g1, g2, by omega⟩
      clear h w1
      go_enter Try.func54, Try.ntmps54
      go_wp2
      go_ret
      exact ⟨rfl, rfl⟩
    · clear h w1
      go_enter Try.func54, Try.ntmps54
      go_wp2
      go_ret
      exact ⟨rfl, rfl⟩
  · clear h w1
    go_enter Try.func54, Try.ntmps54
    go_wp2
    go_ret
    exact ⟨rfl, rfl⟩

section
variable {gs g : Nat} {ps : List Pg} {w : World}
theorem head_cell (h : Tab w gs g ps) : w.cell? ⟨g, 0, none⟩ = some (.slice (some ⟨gs, 0, none⟩) ps.length ps.length) := by
  have c0 := h.head.cell 0
  simpa using c0
theorem size_any (h : Tab w gs g ps) :
    Calls Try.prog 76 #[.pointer (some ⟨g, 0, none⟩)] w fun e w' => e = .returned (.int .i64 (ps.length : Int)) ∧ w' = w := by
  have c0 := head_cell h
  clear h
  go_enter Try.func76, Try.ntmps76
  go_wp2
  go_ret
  exact ⟨rfl, rfl⟩

/-- The frame's number is one of the table's. -/
def isF (ps : List Pg) (f : Int) : Prop := 0 ≤ f ∧ f < (ps.length : Int)
theorem has_yes (h : Tab w gs g ps) (f : Int) (hf : isF ps f) :
    Calls Try.prog 46 #[.pointer (some ⟨g, 0, none⟩), .int .i64 f] w fun e w' => e = .returned (.bool true) ∧ w' = w := by
  obtain ⟨g1, g2⟩ := hf
  have g1' : f ≥ 0 := g1
  have SZ := Lib.hid (size_any h)
  clear h
  go_enter Try.func46, Try.ntmps46
  go_wp2_with fail
  refine SZ.out.mono ?_; rintro e w1 ⟨rfl, rfl⟩
  go_wp2
  go_ret
  exact ⟨rfl, rfl⟩
theorem has_no (h : Tab w gs g ps) (f : Int) (hf : ¬ isF ps f) :
    Calls Try.prog 46 #[.pointer (some ⟨g, 0, none⟩), .int .i64 f] w fun e w' => e = .returned (.bool false) ∧ w' = w := by
  have SZ := Lib.hid (size_any h)
  clear h
  by_cases g1 : f ≥ 0
  · have g2 : ¬ f < (ps.length : Int) := fun g2 => hf ⟨g1, g2⟩
    have G3 := Lib.hid (decide_eq_false g2)
    clear hf
    go_enter Try.func46, Try.ntmps46
    go_wp2_with fail
    refine SZ.out.mono ?_; rintro e w1 ⟨rfl, rfl⟩
    go_wp2
    go_ret
    refine ⟨?_, rfl⟩
    show Ending.returned (.bool (decide (f < (ps.length : Int)))) = _
    rw [G3.out]
  · clear hf
    go_enter Try.func46, Try.ntmps46
    go_wp2
    go_ret
    exact ⟨rfl, rfl⟩
set_option maxRecDepth 100000 in
theorem owner_yes (h : Tab w gs g ps) (f : Nat) (hf : f < ps.length) :
    Calls Try.prog 42 #[.pointer (some ⟨g, 0, none⟩), .int .i64 (f : Int)] w fun e w' => e = .returned (.int .i64 (ps[f].owner : Int)) ∧ w' = w := by
  have c0 := head_cell h
  have c1 := h.owner hf
  have n2 := h.n2
  have HS := Lib.hid (has_yes h f ⟨by omega, by omega⟩)
  have g1 : (0 : Int) ≤ (f : Int) := by omega
  have g2 : (f : Int) < (ps.length : Int) := by omega
  generalize (ps[f].owner : Int) = v at *
  clear h
  go_enter Try.func42, Try.ntmps42
  go_wp2_with fail
  refine HS.out.mono ?_; rintro e w1 ⟨rfl, rfl⟩
  go_wp2
  go_ret
  exact ⟨rfl, rfl⟩
theorem owner_no (h : Tab w gs g ps) (f : Int) (hf : ¬ isF ps f) :
    Calls Try.prog 42 #[.pointer (some ⟨g, 0, none⟩), .int .i64 f] w fun e w' => e = .returned (.int .i64 0) ∧ w' = w := by
  have HS := Lib.hid (has_no h f hf)
  clear h hf
  go_enter Try.func42, Try.ntmps42
  go_wp2_with fail
  refine HS.out.mono ?_; rintro e w1 ⟨rfl, rfl⟩
  go_wp2
  go_ret
  exact ⟨rfl, rfl⟩
set_option maxRecDepth 100000 in
theorem holds_yes (h : Tab w gs g ps) (f : Nat) (hf : f < ps.length) :
    Calls Try.prog 17 #[.pointer (some ⟨g, 0, none⟩), .int .i64 (f : Int)] w fun e w' => e = .returned (.int .i64 (ps[f].holds : Int)) ∧ w' = w := by
  have c0 := head_cell h
  have c1 := h.holds hf
  have n2 := h.n2
  have HS := Lib.hid (has_yes h f ⟨by omega, by omega⟩)
  have g1 : (0 : Int) ≤ (f : Int) := by omega
  have g2 : (f : Int) < (ps.length : Int) := by omega
  generalize (ps[f].holds : Int) = v at *
  clear h
  go_enter Try.func17, Try.ntmps17
  go_wp2_with fail
  refine HS.out.mono ?_; rintro e w1 ⟨rfl, rfl⟩
  go_wp2
  go_ret
  exact ⟨rfl, rfl⟩
theorem holds_no (h : Tab w gs g ps) (f : Int) (hf : ¬ isF ps f) :
    Calls Try.prog 17 #[.pointer (some ⟨g, 0, none⟩), .int .i64 f] w fun e w' => e = .returned (.int .i64 0) ∧ w' = w := by
  have HS := Lib.hid (has_no h f hf)
  clear h hf
  go_enter Try.func17, Try.ntmps17
  go_wp2_with fail
  refine HS.out.mono ?_; rintro e w1 ⟨rfl, rfl⟩
  go_wp2
  go_ret
  exact ⟨rfl, rfl⟩
end
end Go.Proofs.Ytlilfblnlpjkcaa.Fr
