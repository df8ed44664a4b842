/- Generic: slices of anything that came in, element by element. Conditions: those that each states. -/
import Derived.Test.YtldmcoagjgeeoaaRk0
import Derived.Deep.Slices
import Derived.ChangeSame
namespace Go.Proofs.Ytldmcoagjgeeoaa.Gx
open Go.ChangeShapes Go.WideShapes Go.ChangeAt Go.RowKit Go.Deep Rk
set_option linter.unusedVariables false
set_option linter.unusedSimpArgs false

theorem flatG_at {α : Type} {f : α → List Value} {sz : Nat} (hf : ∀ a, (f a).length = sz) : ∀ (l : List α) (i j : Nat) (hi : i < l.length) (hj : j < sz), (l.flatMap f)[i * sz + j]? = (f l[i])[j]?
  | a :: l, 0, j, _, hj => by
    rw [List.flatMap_cons, List.getElem?_append_left (by rw [hf]; omega), Nat.zero_mul, Nat.zero_add]; rfl
  | a :: l, i + 1, j, hi, hj => by
    have := flatG_at hf l i j (by simpa using hi) hj
    rw [List.flatMap_cons, List.getElem?_append_right (by rw [hf, Nat.succ_mul]; omega), hf, show (i + 1) * sz + j - sz = i * sz + j from by rw [Nat.succ_mul]; omega, this]
    rfl
theorem flatG_length {α : Type} {f : α → List Value} {sz : Nat} (hf : ∀ a, (f a).length = sz) (l : List α) : (l.flatMap f).length = l.length * sz := by
  induction l with
  | nil => simp
  | cons a l ih => rw [List.flatMap_cons, List.length_append, ih, hf, List.length_cons, Nat.succ_mul]; omega

/-- A slice that came in, element by element. -/
theorem row_of_trod {H : Type} {enc : TypeId × Value → H} {P : Program} {w : World} {t e : TypeId} {fuel : Nat} {cs : List Value} {x : DataW H × List MemPlace} {held : Bool} {α : Type} (f : α → List Value) (Ok : α → Prop) {sz : Nat} (hsz : 0 < sz) (hf : ∀ a, (f a).length = sz)
    (ht : P.underlying t = some (.slice e)) (ce : P.cellsOf e = sz)
    (hdec : ∀ (fuel : Nat) (cs : List Value) (x : DataW H × List MemPlace), cs.length = sz → DataW.trod enc P w 0 (fun _ => true) held fuel e cs = some x → ∃ a : α, cs = f a ∧ Ok a)
    (h : DataW.trod enc P w 0 (fun _ => true) held fuel t cs = some x) : ∃ A c l, cs = [.slice A (l : List α).length c] ∧ RowG w sz A l.length c (l.flatMap f) ∧ ∀ a ∈ l, Ok a := by
  rcases open_slice ht h with ⟨hcs, _⟩ | ⟨x, n, c, m, k, D, Pl, hcs, _, hl, hm, hmm, _, hx⟩
  · exact ⟨none, 0, [], hcs, RowG.nil w sz, fun a ha => (by cases ha)⟩
  · subst hcs
    simp only [if_true] at hmm
    obtain ⟨b, o, sp⟩ := x
    have each : ∀ i, i < n → ∃ a : α, Ok a ∧ ∀ j, j < sz → w.cell? ((⟨b, o, sp⟩ : Addr).add (i * sz + j)) = (f a)[j]? := by
      intro i hi
      obtain ⟨cs', h1, h2⟩ := hx i (by omega)
      rw [ce] at h1
      obtain ⟨_, hlen, hcell⟩ := World.cells?_some h1
      obtain ⟨a, rfl, ha⟩ := hdec _ _ _ hlen h2
      refine ⟨a, ha, fun j hj => ?_⟩
      have := hcell j hj
      rw [add_add] at this
      exact this
    obtain ⟨q, hq⟩ : ∃ q : List α, q.length = n ∧ ∀ i (hi : i < q.length), Ok q[i] ∧ ∀ j, j < sz → w.cell? ((⟨b, o, sp⟩ : Addr).add (i * sz + j)) = (f q[i])[j]? := by
      have : ∀ k, k ≤ n → ∃ q : List α, q.length = k ∧ ∀ i (hi : i < q.length), Ok q[i] ∧ ∀ j, j < sz → w.cell? ((⟨b, o, sp⟩ : Addr).add (i * sz + j)) = (f q[i])[j]? := by
        intro k
        induction k with
        | zero => intro _; exact ⟨[], rfl, fun i hi => absurd hi (by simp)⟩
        | succ k ih =>
          intro hk
          obtain ⟨q, h1, h2⟩ := ih (by omega)
          obtain ⟨a, h3, h4⟩ := each k (by omega)
          refine ⟨q ++ [a], by simp [h1], fun i hi => ?_⟩
          by_cases hik : i < q.length
          · rw [List.getElem_append_left hik]
            exact h2 i hik
          · have : i = q.length := by simp at hi; omega
            subst this
            rw [List.getElem_concat_length rfl]
            rw [h1]
            exact ⟨h3, h4⟩
      exact this n (Nat.le_refl _)
    obtain ⟨rfl, hq⟩ := hq
    refine ⟨some ⟨b, o, sp⟩, c, q, rfl, ⟨flatG_length hf q, hl, hm, fun e => (by cases e), fun a e h0 => ?_⟩, fun a ha => ?_⟩
    · cases e
      have h00 := (hq 0 h0).2 0 hsz
      rw [List.getElem?_eq_getElem (by rw [hf]; exact hsz)] at h00
      have hsp : sp = none := by
        have := World.cell?_spot h00
        simpa [Addr.add] using this
      subst hsp
      have ea : ∀ j, (⟨b, o, none⟩ : Addr).add j = ⟨b, o + j, none⟩ := fun j => by unfold Addr.add; split <;> simp_all
      refine ⟨rfl, ?_, fun j hj => ?_⟩
      · rw [ea] at h00
        unfold World.cell? at h00
        cases hh : w.heap[b]? with
        | none => simp only [hh] at h00; cases h00
        | some ob => exact (Array.getElem?_eq_some_iff.1 hh).1
      · have hj' : j < q.length * sz := by rw [← flatG_length hf q]; exact hj
        have hd : j / sz < q.length := (Nat.div_lt_iff_lt_mul hsz).2 hj'
        have hr : j % sz < sz := Nat.mod_lt _ hsz
        have h1 := (hq (j / sz) hd).2 (j % sz) hr
        have e1 : j / sz * sz + j % sz = j := by rw [Nat.mul_comm]; exact Nat.div_add_mod j sz
        rw [e1, ea] at h1
        rw [h1, ← flatG_at hf q _ _ hd hr, e1, List.getElem?_eq_getElem hj]
    · obtain ⟨i, hi, rfl⟩ := List.mem_iff_getElem.1 ha
      exact (hq i hi).1

/-- A cell of an element of a row. -/
theorem rowG_at {w : World} {α : Type} {f : α → List Value} {sz : Nat} (hf : ∀ a, (f a).length = sz) {A : Option Addr} {c : Nat} {l : List α} (h : RowG w sz A l.length c (l.flatMap f)) {i j : Nat} (hi : i < l.length) (hj : j < sz) :
    ∃ b o, A = some ⟨b, o, none⟩ ∧ b < w.heap.size ∧ w.cell? ⟨b, o + (i * sz + j), none⟩ = (f l[i])[j]? := by
  have hm : (i + 1) * sz ≤ l.length * sz := Nat.mul_le_mul_right sz hi
  rw [Nat.succ_mul] at hm
  have hx : i * sz + j < (l.flatMap f).length := by rw [flatG_length hf]; omega
  obtain ⟨b, o, e, hb, hc⟩ := h.cell hx
  refine ⟨b, o, e, hb, ?_⟩
  rw [hc, ← flatG_at hf l i j hi hj, List.getElem?_eq_getElem hx]
theorem flatG_take {α : Type} {f : α → List Value} {sz : Nat} (hf : ∀ a, (f a).length = sz) : ∀ (l : List α) (i : Nat), (l.take i).flatMap f = (l.flatMap f).take (i * sz)
  | [], i => by simp
  | a :: l, 0 => by simp
  | a :: l, i + 1 => by
    rw [List.take_succ_cons, List.flatMap_cons, List.flatMap_cons, flatG_take hf l i, Nat.succ_mul, Nat.add_comm (i * sz) sz, List.take_append, hf, Nat.add_sub_cancel_left, List.take_of_length_le (l := f a) (by rw [hf]; omega)]
/-- The first elements of a row. -/
theorem rowG_front {w : World} {α : Type} {f : α → List Value} {sz : Nat} (hf : ∀ a, (f a).length = sz) {A : Option Addr} {c : Nat} {l : List α} (h : RowG w sz A l.length c (l.flatMap f)) {i : Nat} (hi : i ≤ l.length) : RowG w sz A (l.take i).length c ((l.take i).flatMap f) := by
  have hl : (l.take i).length = i := by rw [List.length_take]; omega
  refine ⟨flatG_length hf _, by rw [hl]; exact Nat.le_trans hi h.cap, h.max, fun e => ?_, fun a e h0 => ?_⟩
  · have := h.none_ e
    rw [hl]; omega
  · rw [hl] at h0
    obtain ⟨h3, h1, h2⟩ := h.at_ a e (by omega)
    refine ⟨h3, h1, fun j hj => ?_⟩
    have hj' : j < (l.flatMap f).length := by
      rw [flatG_length hf] at hj ⊢
      rw [hl] at hj
      have : i * sz ≤ l.length * sz := Nat.mul_le_mul_right sz hi
      omega
    rw [h2 j hj']
    simp only [flatG_take hf l i, List.getElem_take]
end Go.Proofs.Ytldmcoagjgeeoaa.Gx
