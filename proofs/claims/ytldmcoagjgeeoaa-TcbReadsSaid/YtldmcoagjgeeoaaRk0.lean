/- A row of elements that is only read, at any place of its block. Conditions: those that each states. -/
import Derived.Test.YtldmcoagjgeeoaaCom
namespace Go.Proofs.Ytldmcoagjgeeoaa.Rk
open Go.ChangeShapes Go.WideShapes Go.ChangeAt Go.RowKit Go.Deep
set_option linter.unusedVariables false
structure RowG (w : World) (sz : Nat) (A : Option Addr) (n c : Nat) (xs : List Value) : Prop where
  len : xs.length = n * sz
  cap : n ≤ c
  max : c ≤ maxLen
  none_ : A = none → n = 0 ∧ c = 0
  at_ : ∀ a, A = some a → 0 < n → a = ⟨a.block, a.off, none⟩ ∧ (a.block < w.heap.size ∧ ∀ j (h : j < xs.length), w.cell? ⟨a.block, a.off + j, none⟩ = some xs[j])
section
variable {w w' : World} {sz n c : Nat} {A : Option Addr} {xs : List Value} {S : Nat → Prop}
theorem RowG.chg (h : RowG w sz A n c xs) (k : Chg w w' S) (hn : ∀ a, A = some a → ¬ S a.block) : RowG w' sz A n c xs := by
  refine ⟨h.len, h.cap, h.max, h.none_, fun a e h0 => ?_⟩
  obtain ⟨h3, h1, h2⟩ := h.at_ a e h0
  refine ⟨h3, Nat.lt_of_lt_of_le h1 k.size, fun j hj => ?_⟩
  rw [World.cell?_of_block (w := w) (w' := w') (a := ⟨a.block, a.off + j, none⟩) (k.block a.block h1 (hn a e))]
  exact h2 j hj
theorem RowG.new (h : RowG w sz A n c xs) (k : Below w.heap.size w w') : RowG w' sz A n c xs := h.chg (Chg.of_new k fun _ => False) (fun _ _ => id)
theorem RowG.drewN (h : RowG w sz A n c xs) (m : Nat) : RowG (w.drewN m) sz A n c xs := ⟨h.len, h.cap, h.max, h.none_, h.at_⟩
theorem RowG.nil (w : World) (sz : Nat) : RowG w sz none 0 0 [] := ⟨by simp, Nat.le_refl _, Nat.zero_le _, fun _ => ⟨rfl, rfl⟩, fun a e => by cases e⟩
/-- What a row holds, one element. -/
theorem RowG.cell (h : RowG w sz A n c xs) {j : Nat} (hj : j < xs.length) : ∃ b o, A = some ⟨b, o, none⟩ ∧ b < w.heap.size ∧ w.cell? ⟨b, o + j, none⟩ = some xs[j] := by
  have hn : 0 < n := by
    rcases Nat.eq_zero_or_pos n with e | e
    · have := h.len; rw [e, Nat.zero_mul] at this; omega
    · exact e
  cases hA : A with
  | none => have := (h.none_ hA).1; omega
  | some a =>
    obtain ⟨e, h1, h2⟩ := h.at_ a hA hn
    exact ⟨a.block, a.off, by rw [← e], h1, h2 j hj⟩
/-- The elements from number i on, up to number m. -/
theorem RowG.sub (h : RowG w sz A n c xs) {i m : Nat} (hi : i ≤ m) (hm : m ≤ n) : RowG w sz (A.map fun a => ⟨a.block, a.off + i * sz, none⟩) (m - i) (c - i) ((xs.drop (i * sz)).take ((m - i) * sz)) := by
  have e1 : m * sz ≤ n * sz := Nat.mul_le_mul_right sz hm
  have e2 : (m - i) * sz = m * sz - i * sz := Nat.sub_mul m i sz
  have e3 : i * sz ≤ m * sz := Nat.mul_le_mul_right sz hi
  have hl := h.len
  refine ⟨by simp; omega, by have := h.cap; omega, by have := h.max; omega, fun e => ?_, fun a e => ?_⟩
  · cases A with
    | none => have := h.none_ rfl; omega
    | some a => cases e
  · cases hA : A with
    | none => rw [hA] at e; cases e
    | some a0 =>
      rw [hA] at e
      cases e
      intro h0
      obtain ⟨_, h1, h2⟩ := h.at_ a0 hA (by omega)
      refine ⟨rfl, h1, fun j hj => ?_⟩
      have hj2 : j < (m - i) * sz := by simp at hj; omega
      have := h2 (i * sz + j) (by omega)
      rw [show a0.off + i * sz + j = a0.off + (i * sz + j) from by omega]
      simpa using this
theorem RowG.of_owns {B : Nat} {E : TypeId} {v : Value} (h : w.ownsRow B E sz v n xs) : ∃ A c, v = .slice A n c ∧ RowG w sz A n c xs ∧ ∀ a, A = some a → B ≤ a.block ∧ a.block < w.heap.size := by
  rcases h.2 with ⟨rfl, rfl⟩ | ⟨g, cap, cur, rfl, hg, hh, h1, h2, _⟩
  · have hl := h.1
    rw [Nat.zero_mul] at hl
    obtain rfl := List.length_eq_zero_iff.1 hl
    exact ⟨none, 0, rfl, ⟨by simp, Nat.le_refl _, Nat.zero_le _, fun _ => ⟨rfl, rfl⟩, fun a e => (by cases e)⟩, fun a e => (by cases e)⟩
  · have hlt := (Array.getElem?_eq_some_iff.1 hh).1
    refine ⟨some ⟨g, 0, none⟩, cap, rfl, ⟨h.1, h1, h2, fun e => (by cases e), fun a e => ?_⟩, fun a e => (by cases e; exact ⟨hg, hlt⟩)⟩
    cases e
    refine fun _ => ⟨rfl, hlt, fun j hj => ?_⟩
    have hc := World.ownsRow.cells h rfl j xs[j] (List.getElem?_eq_getElem hj)
    have ea : (⟨g, 0, none⟩ : Addr).add j = ⟨g, 0 + j, none⟩ := by unfold Addr.add; split <;> simp_all
    rw [ea] at hc
    exact hc
end
end Go.Proofs.Ytldmcoagjgeeoaa.Rk
