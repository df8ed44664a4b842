/- Package gather: Check and Fetch. Conditions: those that each states. -/
import Derived.Test.YthnpalcjfgbjeaaGreatGaT
namespace Go.Proofs.YthnpalcjfgbjeaaGreat
open Go.ChangeShapes Go.WideShapes Go.ChangeAt Go.RowKit Go.Deep Fr
set_option linter.unusedVariables false

def checkR (ps : List Pg) (env : Int) (l : List Pc) : Int :=
  if fitsR ps.length env l = 0 then (if ∀ p ∈ l, ((pg ps p.frame).owner : Int) = env then 0 else 20) else fitsR ps.length env l
theorem fits_of_zero {n : Nat} {env : Int} {l : List Pc} (h : fitsR n env l = 0) : (env = 1 ∨ env = 2) ∧ l ≠ [] ∧ (∀ p ∈ l, p.Fits n) ∧ l.length ≤ 16 ∧ sizeR l ≤ 1024 := by
  unfold fitsR at h
  split at h
  · rename_i h1
    split at h
    · cases h
    · exact ⟨h1.1, h1.2.1, h1.2.2, by omega, by omega⟩
  · cases h
theorem fitsR_cases (n : Nat) (env : Int) (l : List Pc) : fitsR n env l = 0 ∨ fitsR n env l = 1 ∨ fitsR n env l = 2 := by
  unfold fitsR
  split
  · split
    · exact .inr (.inr rfl)
    · exact .inl rfl
  · exact .inr (.inl rfl)
/-- The bytes of a frame. -/
def txt (ps : List Pg) (f : Int) : List UInt8 := (pg ps f).text
instance (ps : List Pg) (f : Int) : Decidable (isF ps f) := inferInstanceAs (Decidable (_ ∧ _))
def Pc.Gets (ps : List Pg) (p : Pc) : Prop := isH ps p.frame ∧ isIn p.off p.len
instance (ps : List Pg) (p : Pc) : Decidable (p.Gets ps) := inferInstanceAs (Decidable (_ ∧ _))
def fetchG (ps : List Pg) (l : List Pc) : List UInt8 × Int := if ∀ p ∈ l, p.Gets ps then (gatherB (txt ps) l, 0) else ([], 1)
theorem owns_new {w w' : World} {base : Nat} {e : TypeId} {size n : Nat} {v : Value} {xs : List Value} (h : w.ownsRow base e size v n xs) (k : Below w.heap.size w w') : w'.ownsRow base e size v n xs := by
  refine ⟨h.1, ?_⟩
  rcases h.2 with hl | ⟨g, cap, cur, e, hg, hh, r⟩
  · exact .inl hl
  · exact .inr ⟨g, cap, cur, e, hg, by rw [k.block g (Array.getElem?_eq_some_iff.1 hh).1]; exact hh, r⟩
section
variable {gs g : Nat} {ps : List Pg} {w : World}
end
end Go.Proofs.YthnpalcjfgbjeaaGreat
