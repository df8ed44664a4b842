/- Texts that come in, for PoolParts. Conditions: those that each states. -/
import Derived.Test.YthnpalcjfgbjeaaGreatPs2
import Derived.Test.YthnpalcjfgbjeaaGreatPqA
import Derived.Test.YthnpalcjfgbjeaaGreatGaF
namespace Go.Proofs.YthnpalcjfgbjeaaGreat.Ps
open Go.ChangeShapes Go.WideShapes Go.ChangeAt Go.RowKit Go.Deep Rk Gx
set_option linter.unusedVariables false
set_option linter.unusedSimpArgs false

def strC (s : List UInt8) : List Value := [.string ⟨s.toArray⟩]
theorem strC_len (s : List UInt8) : (strC s).length = 1 := rfl
set_option maxRecDepth 100000 in
theorem open_texts {H : Type} {enc : TypeId × Value → H} {w : World} {base : Nat} {v : Value} {d : DataW H} {p : List MemPlace}
    (hv : Value.okWide Tryz.prog w .any base 22 v) (h : DataW.Trod enc Tryz.prog w 0 (fun _ => true) true 22 v d p) :
    ∃ A c l, v = .slice A (l : List (List UInt8)).length c ∧ RowG w 1 A l.length c (l.flatMap strC) := by
  obtain ⟨a, n, c, rfl⟩ := okWide_slice Tryz.underlying22 hv
  obtain ⟨fuel, hf⟩ := h
  obtain ⟨A, c', l, e, r, _⟩ := row_of_trod strC (fun _ => True) (sz := 1) (by decide) strC_len Tryz.underlying22 (by kernel_rfl) (fun fuel cs x hl h => by
    obtain ⟨z5, e5, _, w5⟩ := DataW.trod_string Tryz.underlying9 h
    exact ⟨z5.data.toList, e5, trivial⟩) hf
  simp [Value.cells] at e
  obtain ⟨rfl, rfl, rfl⟩ := e
  exact ⟨a, c, l, rfl, r⟩
theorem text_at {w : World} {A : Option Addr} {c : Nat} {l : List (List UInt8)} (h : RowG w 1 A l.length c (l.flatMap strC)) {i : Nat} (hi : i < l.length) : ∃ b o, A = some ⟨b, o, none⟩ ∧ b < w.heap.size ∧ w.cell? ⟨b, o + i, none⟩ = some (.string ⟨l[i].toArray⟩) := by
  obtain ⟨b, o, e, hb, hc⟩ := rowG_at strC_len h hi (j := 0) (by decide)
  refine ⟨b, o, e, hb, ?_⟩
  rw [show i * 1 + 0 = i by omega] at hc
  exact hc
end Go.Proofs.YthnpalcjfgbjeaaGreat.Ps
