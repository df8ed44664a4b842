/- A ring in memory whose things are two cells each. Conditions: those that each states. -/
import Derived.Test.YthnpalcjfgbjeaaGreatBase
namespace Go.Proofs.YthnpalcjfgbjeaaGreat
open Go.ChangeShapes Go.WideShapes Go.ChangeAt Go.RowKit Go.Deep
set_option linter.unusedVariables false

structure RingW (E T : TypeId) (w : World) (gs g room first : Nat) (xs : List (Value × Value)) : Prop where
  lt : gs < g
  r1 : 1 ≤ room
  r2 : room ≤ 32
  len : xs.length ≤ room
  small : first + xs.length ≤ 1000000
  head : Blk w g T #[.slice (some ⟨gs, 0, none⟩) room room, .int .i64 (first : Int), .int .i64 ((first : Int) + (xs.length : Int))]
  row : ∃ cs : Array Value, Blk w gs E cs ∧ cs.size = room * 2 ∧ ∀ j (h : j < xs.length), cs[(first + j) % room * 2]? = some xs[j].1 ∧ cs[(first + j) % room * 2 + 1]? = some xs[j].2
section
variable {E T : TypeId} {w w' : World} {gs g room first : Nat} {xs : List (Value × Value)} {S : Nat → Prop}
theorem RingW.chg (h : RingW E T w gs g room first xs) (k : Chg w w' S) (h1 : ¬ S gs) (h2 : ¬ S g) : RingW E T w' gs g room first xs := by
  obtain ⟨cs, hb, hs, hc⟩ := h.row
  exact ⟨h.lt, h.r1, h.r2, h.len, h.small, h.head.chg k h2, cs, hb.chg k h1, hs, hc⟩
theorem RingW.new (h : RingW E T w gs g room first xs) (k : Below w.heap.size w w') : RingW E T w' gs g room first xs := h.chg (Chg.of_new k fun _ => False) id id
theorem RingW.drewN (h : RingW E T w gs g room first xs) (n : Nat) : RingW E T (w.drewN n) gs g room first xs := ⟨h.lt, h.r1, h.r2, h.len, h.small, h.head, h.row⟩
theorem RingW.put (h : RingW E T w gs g room first xs) (hl : xs.length < room) (hs : first + xs.length < 1000000) (u v : Value) (n : Nat) :
    RingW E T ((((w.drewN n).setCell ⟨gs, (first + xs.length) % room * 2, none⟩ u).setCell ⟨gs, (first + xs.length) % room * 2 + 1, none⟩ v).setCell ⟨g, 2, none⟩ (.int .i64 ((first : Int) + (xs.length : Int) + 1))) gs g room first (xs ++ [(u, v)]) := by
  obtain ⟨cs, hb, hcs, hc⟩ := h.row
  have hgg : gs ≠ g := Nat.ne_of_lt h.lt
  have hgg' : g ≠ gs := fun e => hgg e.symm
  refine ⟨h.lt, h.r1, h.r2, by simp; omega, by simp; omega, ?_, (cs.setIfInBounds ((first + xs.length) % room * 2) u).setIfInBounds ((first + xs.length) % room * 2 + 1) v, ?_, by simpa using hcs, ?_⟩
  · have := (((h.head.drewN n).far (p := ⟨gs, (first + xs.length) % room * 2, none⟩) hgg' u).far (p := ⟨gs, (first + xs.length) % room * 2 + 1, none⟩) hgg' v).put 2 (.int .i64 ((first : Int) + (xs.length : Int) + 1))
    simpa [Int.add_assoc] using this
  · exact (((hb.drewN n).put _ u).put _ v).far (p := ⟨g, 2, none⟩) hgg _
  · intro j hj
    have hm : (first + xs.length) % room < room := Nat.mod_lt _ (by omega)
    have hj' : j < xs.length + 1 := by simpa using hj
    by_cases e : j = xs.length
    · subst e
      have h1 : (first + xs.length) % room * 2 < cs.size := by omega
      have h2 : (first + xs.length) % room * 2 + 1 < cs.size := by omega
      constructor
      · rw [Array.getElem?_setIfInBounds, if_neg (by omega), Array.getElem?_setIfInBounds, if_pos rfl]
        simp [h1]
      · rw [Array.getElem?_setIfInBounds, if_pos rfl]
        simp [h2]
    · have hlt : j < xs.length := by omega
      have hd := mod_ne (first + j) (first + xs.length) room (by omega) (by omega)
      obtain ⟨c1, c2⟩ := hc j hlt
      rw [List.getElem_append_left hlt]
      constructor
      · rw [Array.getElem?_setIfInBounds, if_neg (by omega), Array.getElem?_setIfInBounds, if_neg (by omega), c1]
      · rw [Array.getElem?_setIfInBounds, if_neg (by omega), Array.getElem?_setIfInBounds, if_neg (by omega), c2]
theorem RingW.take {u : Value × Value} (h : RingW E T w gs g room first (u :: xs)) (z y : Value) (n : Nat) :
    RingW E T ((((w.drewN n).setCell ⟨gs, first % room * 2, none⟩ z).setCell ⟨gs, first % room * 2 + 1, none⟩ y).setCell ⟨g, 1, none⟩ (.int .i64 ((first : Int) + 1))) gs g room (first + 1) xs := by
  obtain ⟨cs, hb, hcs, hc⟩ := h.row
  have hgg : gs ≠ g := Nat.ne_of_lt h.lt
  have hgg' : g ≠ gs := fun e => hgg e.symm
  have hl := h.len
  have hsm := h.small
  rw [List.length_cons] at hl hsm
  refine ⟨h.lt, h.r1, h.r2, by omega, by omega, ?_, (cs.setIfInBounds (first % room * 2) z).setIfInBounds (first % room * 2 + 1) y, ?_, by simpa using hcs, ?_⟩
  · have := (((h.head.drewN n).far (p := ⟨gs, first % room * 2, none⟩) hgg' z).far (p := ⟨gs, first % room * 2 + 1, none⟩) hgg' y).put 1 (.int .i64 ((first : Int) + 1))
    have e1 : (first : Int) + ((u :: xs).length : Int) = ((first + 1 : Nat) : Int) + (xs.length : Int) := by rw [List.length_cons]; omega
    rw [e1] at this
    simpa using this
  · exact (((hb.drewN n).put _ z).put _ y).far (p := ⟨g, 1, none⟩) hgg _
  · intro j hj
    have hd := mod_ne first (first + (j + 1)) room (by omega) (by omega)
    have hcj := hc (j + 1) (by rw [List.length_cons]; omega)
    rw [show first + 1 + j = first + (j + 1) by omega]
    obtain ⟨c1, c2⟩ := hcj
    constructor
    · rw [Array.getElem?_setIfInBounds, if_neg (by omega), Array.getElem?_setIfInBounds, if_neg (by omega), c1]; rfl
    · rw [Array.getElem?_setIfInBounds, if_neg (by omega), Array.getElem?_setIfInBounds, if_neg (by omega), c2]; rfl
theorem RingW.cell (h : RingW E T w gs g room first xs) {j : Nat} (hj : j < xs.length) : w.cell? ⟨gs, (first + j) % room * 2, none⟩ = some xs[j].1 ∧ w.cell? ⟨gs, (first + j) % room * 2 + 1, none⟩ = some xs[j].2 := by
  obtain ⟨cs, hb, _, hc⟩ := h.row
  rw [hb.cell, hb.cell]
  exact hc j hj
theorem RingW.place (h : RingW E T w gs g room first xs) (t : Nat) : ∃ u v, w.cell? ⟨gs, t % room * 2, none⟩ = some u ∧ w.cell? ⟨gs, t % room * 2 + 1, none⟩ = some v := by
  obtain ⟨cs, hb, hcs, _⟩ := h.row
  have hm : t % room < room := Nat.mod_lt _ h.r1
  refine ⟨cs[t % room * 2]'(by omega), cs[t % room * 2 + 1]'(by omega), ?_, ?_⟩
  · rw [hb.cell, Array.getElem?_eq_getElem (by omega)]
  · rw [hb.cell, Array.getElem?_eq_getElem (by omega)]
theorem RingW.thaw (h : RingW E T w gs g room first xs) (i : Nat) : w.frozen? ⟨gs, i, none⟩ = false := by
  obtain ⟨cs, hb, _⟩ := h.row
  exact hb.frozen i
end
end Go.Proofs.YthnpalcjfgbjeaaGreat
