/- What Owner and Holds tell. Conditions: those that each states. -/
import Derived.Test.YthnpalcjfgbjeaaGreatFrA
namespace Go.Proofs.YthnpalcjfgbjeaaGreat
open Go.ChangeShapes Go.WideShapes Go.ChangeAt Go.RowKit Go.Deep Fr
set_option linter.unusedVariables false

/-- What Owner and Holds tell. -/
def ownerV (ps : List Pg) (f : Int) : Int := if isF ps f then ((pg ps f).owner : Int) else 0
def holdsV (ps : List Pg) (f : Int) : Int := if isF ps f then ((pg ps f).holds : Int) else 0
theorem isF_nat {ps : List Pg} {f : Int} (h : isF ps f) : ∃ k : Nat, ∃ hk : k < ps.length, f = (k : Int) := ⟨f.toNat, by have := h.1; have := h.2; omega, by have := h.1; omega⟩
section
variable {gs g : Nat} {ps : List Pg} {w : World}
theorem holds_any (h : Tab w gs g ps) (f : Int) :
    Calls Tryz.prog 82 #[.pointer (some ⟨g, 0, none⟩), .int .i64 f] w fun e w' => e = .returned (.int .i64 (holdsV ps f)) ∧ w' = w := by
  unfold holdsV
  by_cases hf : isF ps f
  · rw [if_pos hf]
    obtain ⟨k, hk, rfl⟩ := isF_nat hf
    rw [pg_at hk]
    exact holds_yes h k hk
  · rw [if_neg hf]
    exact holds_no h f hf
theorem ownerV_at {k : Nat} (hk : k < ps.length) : ownerV ps (k : Int) = (ps[k].owner : Int) := by
  unfold ownerV; rw [if_pos ⟨by omega, by omega⟩, pg_at hk]
theorem holdsV_at {k : Nat} (hk : k < ps.length) : holdsV ps (k : Int) = (ps[k].holds : Int) := by
  unfold holdsV; rw [if_pos ⟨by omega, by omega⟩, pg_at hk]
theorem ownerV_neg : ownerV ps (-1) = 0 := if_neg (fun h => by have := h.1; omega)
theorem holdsV_neg : holdsV ps (-1) = 0 := if_neg (fun h => by have := h.1; omega)
theorem ownerV_len : ownerV ps (ps.length : Int) = 0 := if_neg (fun h => by have := h.2; omega)
end
end Go.Proofs.YthnpalcjfgbjeaaGreat
