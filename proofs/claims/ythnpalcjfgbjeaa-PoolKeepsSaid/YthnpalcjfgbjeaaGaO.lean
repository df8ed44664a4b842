/- The law's pieces as the program's; the chapter's example. Conditions: those that each states. -/
import Derived.Test.YthnpalcjfgbjeaaGaC
namespace Go.Proofs.Ythnpalcjfgbjeaa
open Go.ChangeShapes Go.WideShapes Go.ChangeAt Go.RowKit Go.Deep
set_option linter.unusedVariables false
theorem rpc_info : (Try.prog.info? 176).map (·.size) = some 3 := by kernel_rfl
def MadeP (w : World) (p : List Pc) (e : Ending) (w' : World) : Prop := ∃ A c, e = .returned (.slice A p.length c) ∧ Pcs w' A p ∧ Below w.heap.size w w'
/-- The same, and it lies behind all that was there, with room for itself. -/
def MadeC (w : World) (p : List Pc) (e : Ending) (w' : World) : Prop := ∃ A c, e = .returned (.slice A p.length c) ∧ (Pcs w' A p ∧ p.length ≤ c ∧ ∀ b o, A = some ⟨b, o, none⟩ → w.heap.size ≤ b) ∧ Below w.heap.size w w'
theorem owns_cap {w : World} {B : Nat} {E : TypeId} {size n c : Nat} {A : Option Addr} {xs : List Value} (h : w.ownsRow B E size (.slice A n c) n xs) : n ≤ c ∧ ∀ b o, A = some ⟨b, o, none⟩ → B ≤ b := by
  rcases h.2 with ⟨e, e0⟩ | ⟨g, cap, cur, e, hg, hh, hc, r⟩
  · cases e
    exact ⟨by omega, fun b o h => by cases h⟩
  · cases e
    exact ⟨hc, fun b o h => by cases h; exact hg⟩
end Go.Proofs.Ythnpalcjfgbjeaa
