/- What comes in to layer 20's laws: a slice of numbers. Conditions: those that each states. -/
import Derived.Test.YtlekcbgpjeiolaaGr0
namespace Go.Proofs.Ytlekcbgpjeiolaa.Rt
open Go.ChangeShapes Go.WideShapes Go.ChangeAt Go.RowKit Go.Deep Rk Gx
set_option linter.unusedVariables false
set_option linter.unusedSimpArgs false

def IntsC (x : Int) : List Value := [.int .i64 x]
theorem IntsC_len (x : Int) : (IntsC x).length = 1 := rfl
set_option maxRecDepth 100000 in
theorem open_Ints {H : Type} {enc : TypeId × Value → H} {w : World} {base : Nat} {v : Value} {d : DataW H} {p : List MemPlace}
    (hv : Value.okWide Try.prog w .any base 22 v) (h : DataW.Trod enc Try.prog w 0 (fun _ => true) true 22 v d p) :
    ∃ A c l, v = .slice A (l : List (Int)).length c ∧ RowG w 1 A l.length c (l.flatMap IntsC) ∧ ∀ a ∈ l, (fun (x : Int) => -9223372036854775808 ≤ x ∧ x ≤ 9223372036854775807) a := by
  obtain ⟨a, n, c, rfl⟩ := okWide_slice Try.underlying22 hv
  obtain ⟨fuel, hf⟩ := h
  obtain ⟨A, c', l, e, r, k⟩ := row_of_trod IntsC (fun (x : Int) => -9223372036854775808 ≤ x ∧ x ≤ 9223372036854775807) (sz := 1) (by decide) IntsC_len Try.underlying22 (by kernel_rfl) (fun fuel cs x hl h => by
    obtain ⟨b0, z0, _, x0⟩ := DataW.trod_int Try.underlying3 h
    exact ⟨b0, by simpa [IntsC] using z0, wf_i64 x0⟩) hf
  simp [Value.cells] at e
  obtain ⟨rfl, rfl, rfl⟩ := e
  exact ⟨a, c, l, rfl, r, k⟩
theorem Ints_at0 {w : World} {A : Option Addr} {c : Nat} {l : List (Int)} (h : RowG w 1 A l.length c (l.flatMap IntsC)) {i : Nat} (hi : i < l.length) : ∃ b o, A = some ⟨b, o, none⟩ ∧ b < w.heap.size ∧ w.cell? ⟨b, o + (i * 1 + 0), none⟩ = some (.int .i64 l[i]) :=
  rowG_at IntsC_len h hi (j := 0) (by decide)
end Go.Proofs.Ytlekcbgpjeiolaa.Rt
