/- A slice of calls (a number and a mark each) that came in. Conditions: those that each states. -/
import Derived.Test.YtflbckeebmlofaaDoorTake
import Derived.Deep.SlicePairs
namespace Go.Proofs.YtflbckeebmlofaaDoor
open Go.ChangeShapes Go.WideShapes Go.ChangeAt Go.RowKit Go.Deep

def Acts (w : World) (A : Option Addr) (n : Nat) (f : Nat → Int × Bool) : Prop :=
  ∀ i, i < n → ∃ b o, A = some ⟨b, o, none⟩ ∧ b < w.heap.size ∧ w.cell? ⟨b, o + i * 2, none⟩ = some (.int .i64 (f i).1) ∧ w.cell? ⟨b, o + i * 2 + 1, none⟩ = some (.bool (f i).2)
theorem Acts.older {w w' : World} {A : Option Addr} {n : Nat} {f : Nat → Int × Bool} (h : Acts w A n f) (k : Older w w') : Acts w' A n f := by
  intro i hi
  obtain ⟨b, o, e, hb, h1, h2⟩ := h i hi
  refine ⟨b, o, e, Nat.lt_of_lt_of_le hb k.1, ?_, ?_⟩
  · rw [World.cell?_of_block (w := w) (w' := w') (a := ⟨b, o + i * 2, none⟩) (k.2 b hb)]; exact h1
  · rw [World.cell?_of_block (w := w) (w' := w') (a := ⟨b, o + i * 2 + 1, none⟩) (k.2 b hb)]; exact h2
theorem open_acts {H : Type} {enc : TypeId × Value → H} {P : Program} {w : World} {base : Nat} {t e : TypeId} {f0 f1 : Field} {v : Value} {d : DataW H} {p : List MemPlace} (ht : P.underlying t = some (.slice e)) (he : P.underlying e = some (.struct #[f0, f1]))
    (ce : P.cellsOf e = 2) (o0 : f0.offset = 0) (o1 : f1.offset = 1) (c0 : P.cellsOf f0.type = 1) (c1 : P.cellsOf f1.type = 1) (u0 : P.underlying f0.type = some (.int .i64)) (u1 : P.underlying f1.type = some .bool)
    (hv : Value.okWide P w .any base t v) (h : DataW.Trod enc P w 0 (fun _ => true) true t v d p) : ∃ A n c f, v = .slice A n c ∧ Acts w A n f := by
  have hlt : ∀ x ∈ p, x.block < w.heap.size := by obtain ⟨m, hm⟩ := h; exact DataW.trod_lt m _ _ _ hm
  obtain ⟨a, n, c, rfl⟩ := okWide_slice ht hv
  refine ⟨a, n, c, ?_⟩
  obtain ⟨fuel, hf⟩ := h
  rcases open_slice_pairs ht he ce o0 o1 c0 c1 hf with ⟨hcs, _⟩ | ⟨x, len, cap, m, k, V0, V1, D0, D1, P0, P1, hcs, _, hl, hm, hmm, _, hx⟩
  · simp [Value.cells] at hcs
    obtain ⟨rfl, rfl, rfl⟩ := hcs
    exact ⟨fun _ => (0, false), rfl, fun i hi => absurd hi (by omega)⟩
  · simp [Value.cells] at hcs
    obtain ⟨rfl, rfl, rfl⟩ := hcs
    simp only [if_true] at hmm
    refine ⟨fun i => (intOf (V0 i), match V1 i with | .bool b => b | _ => false), rfl, fun i hi => ?_⟩
    obtain ⟨h0, h1, r0, r1⟩ := hx i (by omega)
    obtain ⟨z, e0, _, _⟩ := DataW.trod_int u0 r0
    obtain ⟨z1, e1, _⟩ := DataW.trod_bool u1 r1
    simp at e0 e1
    rw [e0] at h0
    rw [e1] at h1
    obtain ⟨b, o, sp⟩ := x
    have hsp : sp = none := by
      simpa [Addr.add] using World.cell?_spot (hx 0 (by omega)).1
    subst hsp
    have ea : ∀ j, (⟨b, o, none⟩ : Addr).add j = ⟨b, o + j, none⟩ := fun j => by unfold Addr.add; split <;> simp_all
    rw [ea] at h0 h1
    refine ⟨b, o, rfl, ?_, ?_, ?_⟩
    · unfold World.cell? at h0
      cases hh : w.heap[b]? with
      | none => simp only [hh] at h0; cases h0
      | some ob => exact (Array.getElem?_eq_some_iff.1 hh).1
    · rw [h0]; simp [e0, intOf]
    · rw [Nat.add_assoc, h1]; simp [e1]
end Go.Proofs.YtflbckeebmlofaaDoor
