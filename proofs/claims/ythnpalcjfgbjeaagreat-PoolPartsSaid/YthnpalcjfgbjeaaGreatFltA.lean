/- The chapter's example; what a program that may be has behind it; how a program runs on longer packets. Conditions: those that each states. -/
import Derived.Test.YthnpalcjfgbjeaaGreatFlt5
namespace Go.Proofs.YthnpalcjfgbjeaaGreat
open Go.ChangeShapes Go.WideShapes Go.ChangeAt Go.RowKit Go.Deep
set_option linter.unusedVariables false

def one7 : List Ins := [⟨7, 5, 0, 0⟩]
theorem chk_one7 : Chk one7 := ⟨by decide, by decide, fun i h => by
  have : i = 0 := by simp [one7] at h; exact h
  subst this; rfl, fun h => .inl rfl⟩
theorem ok_one7 : ∀ q ∈ one7, q.Ok := by
  intro q hq
  rw [List.mem_singleton.1 hq]
  exact ⟨by decide, by decide, by decide, by decide⟩
theorem not_chk_nil : ¬ Chk [] := fun h => absurd h.n1 (by decide)
theorem prg_block {w : World} {g : Nat} {p : List Ins} (h : Blk w g 148 (flat p).toArray) : Prg w (some ⟨g, 0, none⟩) p := by
  intro i hi
  refine ⟨g, 0, rfl, h.lt, fun j v hj => ?_⟩
  have hj4 : j < 4 := (List.getElem?_eq_some_iff.1 hj).1
  rw [h.cell, List.getElem?_toArray, Nat.zero_add, flat_at p hi hj4]
  exact hj
/-! Steps behind the end. -/
theorem mayB_more {q : Ins} {a b : Int} (h : mayB q a = true) (hab : a ≤ b) : mayB q b = true := by
  unfold mayB at *
  simp only [Bool.and_eq_true] at *
  refine ⟨h.1, ?_⟩
  have h2 := h.2
  split
  · rename_i ha
    rw [if_pos ha] at h2
    simp only [Bool.and_eq_true, decide_eq_true_eq] at *
    omega
  · rfl
theorem Chk.append {p r : List Ins} (h : Chk p) (hr : r = [] ∨ Chk r) (hl : p.length + r.length ≤ 64) : Chk (p ++ r) := by
  rcases hr with rfl | hr
  · rw [List.append_nil]; exact h
  have h1 := hr.n1
  refine ⟨by simp; omega, by simpa using hl, fun i hi => ?_, fun hi => ?_⟩
  · by_cases hp : i < p.length
    · rw [List.getElem_append_left hp]
      exact mayB_more (h.may i hp) (by simp; omega)
    · have hi' : i - p.length < r.length := by simp at hi; omega
      rw [List.getElem_append_right (by omega)]
      refine mayB_more (hr.may (i - p.length) hi') ?_
      simp; omega
  · have hi' : r.length - 1 < r.length := by omega
    have := hr.last hi'
    have e : (p ++ r).length - 1 - p.length = r.length - 1 := by simp; omega
    rw [List.getElem_append_right (by simp; omega)]
    simp only [e]
    exact this
/-- A program that may be runs alike with steps behind it. -/
theorem runF_append {p : List Ins} (h : Chk p) (r : List Ins) (s : List UInt8) : ∀ (n i : Nat) (a : Int) (m : Nat), i < p.length → p.length ≤ i + n → p.length ≤ i + m → runF (p ++ r) s m i a = runF p s n i a := by
  intro n
  induction n with
  | zero => intro i a m h1 h2 h3; omega
  | succ n ih =>
    intro i a m h1 h2 h3
    obtain ⟨m, rfl⟩ : ∃ m', m = m' + 1 := ⟨m - 1, by omega⟩
    have hi' : i < (p ++ r).length := by simp; omega
    rw [runF_succ (p ++ r) s m i a hi', runF_succ p s n i a h1]
    have e : (p ++ r)[i] = p[i] := List.getElem_append_left h1
    rw [e]
    obtain ⟨c0, c8, c56, c4⟩ := h.at_ h1
    have go1 : p[i].code ≤ 4 → ∀ x, runF (p ++ r) s m (i + 1) x = runF p s n (i + 1) x := fun hc x => ih _ _ _ (c4 hc) (by omega) (by omega)
    generalize p[i].code = c at *
    generalize p[i].k = k at *
    generalize p[i].t = t at *
    generalize p[i].f = f at *
    have hcs : c = 0 ∨ c = 1 ∨ c = 2 ∨ c = 3 ∨ c = 4 ∨ c = 5 ∨ c = 6 ∨ c = 7 ∨ c = 8 := by omega
    rcases hcs with rfl | rfl | rfl | rfl | rfl | rfl | rfl | rfl | rfl
    · rw [stepF_0, stepF_0]; cases num s k.toNat 1 with
      | none => rfl
      | some x => exact go1 (by decide) x
    · rw [stepF_1, stepF_1]; cases num s k.toNat 2 with
      | none => rfl
      | some x => exact go1 (by decide) x
    · rw [stepF_2, stepF_2]; cases num s k.toNat 4 with
      | none => rfl
      | some x => exact go1 (by decide) x
    · rw [stepF_3, stepF_3]; exact go1 (by decide) _
    · rw [stepF_4, stepF_4]; exact go1 (by decide) _
    · obtain ⟨t0, f0, t1, f1⟩ := c56 (by decide)
      rw [stepF_5, stepF_5]
      refine ih _ _ _ ?_ (by omega) (by omega)
      split <;> omega
    · obtain ⟨t0, f0, t1, f1⟩ := c56 (by decide)
      rw [stepF_6, stepF_6]
      refine ih _ _ _ ?_ (by omega) (by omega)
      split <;> omega
    · rw [stepF_7, stepF_7]
    · rw [stepF_8, stepF_8]
theorem runP_append {p : List Ins} (h : Chk p) (r : List Ins) (s : List UInt8) : runP (p ++ r) s = runP p s :=
  runF_append h r s p.length 0 0 _ h.n1 (by omega) (by simp)

/-- Does a step load what isn't there? -/
def far (s : List UInt8) (q : Ins) : Bool := decide (q.code ≤ 2) && decide (q.k + 4 > (s.length : Int))
theorem num_more {s r : List UInt8} {k m : Nat} (h : k + 4 ≤ s.length) (hm : m ≤ 4) : num (s ++ r) k m = num s k m := by
  unfold num
  rw [if_pos (by simp; omega), if_pos (by omega)]
  rw [List.drop_append_of_le_length (by omega), List.take_append_of_le_length (by simp; omega)]
theorem runF_more {p : List Ins} (h : Chk p) (hok : ∀ q ∈ p, q.Ok) (s r : List UInt8) (hf : ∀ i (h : i < p.length), far s p[i] = false) : ∀ (n i : Nat) (a : Int), i < p.length → runF p (s ++ r) n i a = runF p s n i a := by
  intro n
  induction n with
  | zero => intro i a h1; rfl
  | succ n ih =>
    intro i a h1
    rw [runF_succ p (s ++ r) n i a h1, runF_succ p s n i a h1]
    obtain ⟨c0, c8, c56, c4⟩ := h.at_ h1
    have hfi := hf i h1
    have hk := (hok p[i] (List.getElem_mem h1)).k
    have go1 : p[i].code ≤ 4 → ∀ x, runF p (s ++ r) n (i + 1) x = runF p s n (i + 1) x := fun hc x => ih _ _ (c4 hc)
    unfold far at hfi
    generalize p[i].code = c at *
    generalize p[i].k = k at *
    generalize p[i].t = t at *
    generalize p[i].f = f at *
    have hcs : c = 0 ∨ c = 1 ∨ c = 2 ∨ c = 3 ∨ c = 4 ∨ c = 5 ∨ c = 6 ∨ c = 7 ∨ c = 8 := by omega
    have near : c ≤ 2 → k.toNat + 4 ≤ s.length := fun hc => by
      rw [decide_eq_true hc, Bool.true_and, decide_eq_false_iff_not] at hfi
      omega
    rcases hcs with rfl | rfl | rfl | rfl | rfl | rfl | rfl | rfl | rfl
    · rw [stepF_0, stepF_0, num_more (near (by decide)) (by decide)]; cases num s k.toNat 1 with
      | none => rfl
      | some x => exact go1 (by decide) x
    · rw [stepF_1, stepF_1, num_more (near (by decide)) (by decide)]; cases num s k.toNat 2 with
      | none => rfl
      | some x => exact go1 (by decide) x
    · rw [stepF_2, stepF_2, num_more (near (by decide)) (by decide)]; cases num s k.toNat 4 with
      | none => rfl
      | some x => exact go1 (by decide) x
    · rw [stepF_3, stepF_3]; exact go1 (by decide) _
    · rw [stepF_4, stepF_4]; exact go1 (by decide) _
    · obtain ⟨t0, f0, t1, f1⟩ := c56 (by decide)
      rw [stepF_5, stepF_5]
      refine ih _ _ ?_
      split <;> omega
    · obtain ⟨t0, f0, t1, f1⟩ := c56 (by decide)
      rw [stepF_6, stepF_6]
      refine ih _ _ ?_
      split <;> omega
    · rw [stepF_7, stepF_7]
    · rw [stepF_8, stepF_8]
theorem runP_more {p : List Ins} (h : Chk p) (hok : ∀ q ∈ p, q.Ok) (s r : List UInt8) (hf : ∀ i (h : i < p.length), far s p[i] = false) : runP p (s ++ r) = runP p s := runF_more h hok s r hf _ 0 0 h.n1
end Go.Proofs.YthnpalcjfgbjeaaGreat
