/- A buffer of package rasm: how many are held where two parts came to one place; what is ready behind them. Conditions: those that each states. -/
import Derived.Test.YtldmcoagjgeeoaaRaV
namespace Go.Proofs.Ytldmcoagjgeeoaa.Ra
open Go.ChangeShapes Go.WideShapes Go.ChangeAt Go.RowKit Go.Deep
set_option linter.unusedVariables false
set_option linter.unusedSimpArgs false

theorem held_span (ys : Bs) (lo hi : Nat) (h : ∀ k (hk : k < ys.length), ys[k].isSome = decide (lo ≤ k ∧ k < hi)) : held ys = min ys.length hi - min ys.length lo := by
  have : ∀ j, j ≤ ys.length → held (ys.take j) = min j hi - min j lo := by
    intro j
    induction j with
    | zero => intro _; simp [held]
    | succ j ih =>
      intro hj
      rw [heldTake ys j (by omega), ih (by omega), h j (by omega)]
      by_cases h1 : lo ≤ j ∧ j < hi
      · rw [if_pos (by simpa using h1)]; omega
      · rw [if_neg (by simpa using h1)]; omega
  have := this ys.length (Nat.le_refl _)
  rwa [List.take_length] at this
theorem held_none (R : Nat) : held (List.replicate R none) = 0 := by simp [held]
theorem rdy_stop : ∀ (xs : Bs) (h : rdy xs < xs.length), xs[rdy xs] = none
  | [], h => by simp [rdy] at h
  | none :: xs, h => by simp [rdy]
  | some c :: xs, h => by
    have e : rdy (some c :: xs) = rdy xs + 1 := by unfold rdy; rw [List.takeWhile_cons_of_pos rfl, List.length_cons]
    simp only [e, List.getElem_cons_succ]
    exact rdy_stop xs (by rw [e] at h; simpa using h)
theorem rdy_ge (xs : Bs) (r : Nat) (hr : r ≤ xs.length) (h : ∀ k (hk : k < xs.length), k < r → xs[k].isSome = true) : r ≤ rdy xs := by
  rcases Nat.lt_or_ge (rdy xs) r with h1 | h1
  · have e := rdy_stop xs (by omega)
    have := h (rdy xs) (by omega) h1
    rw [e] at this
    cases this
  · exact h1

/-- Two parts at one place, and zeros ahead of it. -/
def two (R p : Nat) (a b : List UInt8) : Bs := putR (putR (List.replicate R none) (p : Int) a) (p : Int) b
theorem one_at (R p : Nat) (a : List UInt8) (k : Nat) (hk : k < R) : (putR (List.replicate R none) (p : Int) a)[k]'(by rw [putR_length]; simpa using hk) = if p ≤ k then a[k - p]? else none := by
  rw [putR_at _ _ _ _ (by simpa using hk), List.getElem_replicate]
  unfold cell1
  by_cases h : p ≤ k
  · rw [if_pos (by omega), if_pos h, show ((k : Int) - (p : Int)).toNat = k - p from by omega]
    simp
  · rw [if_neg (by omega), if_neg h]
theorem two_length (R p : Nat) (a b : List UInt8) : (two R p a b).length = R := by unfold two; rw [putR_length, putR_length]; simp
theorem two_at (R p : Nat) (a b : List UInt8) (k : Nat) (hk : k < R) : (two R p a b)[k]'(by rw [two_length]; exact hk) = if p ≤ k then (a[k - p]?).or b[k - p]? else none := by
  unfold two
  rw [putR_at _ _ _ _ (by rw [putR_length]; simpa using hk), one_at _ _ _ _ hk]
  unfold cell1
  by_cases h : p ≤ k
  · rw [if_pos (by omega), if_pos h, if_pos h, show ((k : Int) - (p : Int)).toNat = k - p from by omega]
  · rw [if_neg (by omega), if_neg h, if_neg h]
theorem isSome_get (a : List UInt8) (i : Nat) : (a[i]?).isSome = decide (i < a.length) := by
  by_cases h : i < a.length
  · rw [List.getElem?_eq_getElem h]; simp [h]
  · rw [List.getElem?_eq_none (by omega)]; simp [h]
theorem one_held (R p : Nat) (a : List UInt8) : held (putR (List.replicate R none) (p : Int) a) = min R (p + a.length) - min R p := by
  have := held_span (putR (List.replicate R none) (p : Int) a) p (p + a.length) (fun k hk => by
    rw [one_at _ _ _ _ (by rw [putR_length] at hk; simpa using hk)]
    split
    · rw [isSome_get, decide_eq_decide]; omega
    · symm; simp; omega)
  rw [putR_length, List.length_replicate] at this
  exact this
theorem two_held (R p : Nat) (a b : List UInt8) : held (two R p a b) = min R (p + max a.length b.length) - min R p := by
  have := held_span (two R p a b) p (p + max a.length b.length) (fun k hk => by
    rw [two_at _ _ _ _ _ (by rw [two_length] at hk; exact hk)]
    split
    · rw [Option.isSome_or, isSome_get, isSome_get, ← Bool.decide_or, decide_eq_decide]; omega
    · symm; simp; omega)
  rw [two_length] at this
  exact this
def full (R p : Nat) (a b : List UInt8) : Bs := putR (two R p a b) 0 (List.replicate p 0)
theorem full_length (R p : Nat) (a b : List UInt8) : (full R p a b).length = R := by unfold full; rw [putR_length, two_length]
theorem full_at (R p : Nat) (a b : List UInt8) (k : Nat) (hk : k < R) : (full R p a b)[k]'(by rw [full_length]; exact hk) = if k < p then some 0 else (a[k - p]?).or b[k - p]? := by
  unfold full
  rw [putR_at _ _ _ _ (by rw [two_length]; exact hk), two_at _ _ _ _ _ hk]
  unfold cell1
  rw [if_pos (by omega), show ((k : Int) - 0).toNat = k from by omega]
  by_cases h : k < p
  · rw [if_neg (by omega), if_pos h, List.getElem?_replicate, if_pos h]; rfl
  · rw [if_pos (by omega), if_neg h, List.getElem?_replicate, if_neg h]; simp
theorem full_rdy (R p : Nat) (a b : List UInt8) (i : Nat) (hi : i < max a.length b.length) (hR : p + i < R) : p + i < rdy (full R p a b) := by
  have := rdy_ge (full R p a b) (p + i + 1) (by rw [full_length]; omega) (fun k hk h => by
    rw [full_at _ _ _ _ _ (by omega)]
    split
    · rfl
    · rw [Option.isSome_or, isSome_get, isSome_get]; simp; omega)
  omega
theorem full_tk (R p : Nat) (a b : List UInt8) (i : Nat) (hi : i < max a.length b.length) (hR : p + i < R) : (tk (full R p a b))[p + i]? = (a[i]?).or b[i]? := by
  have h1 := full_rdy R p a b i hi hR
  have h2 := tk_get (full R p a b) (p + i) h1
  rw [full_at _ _ _ _ _ hR, if_neg (by omega), show p + i - p = i from by omega] at h2
  rw [h2, List.getElem?_eq_getElem (by rw [tk_length]; exact h1)]
theorem src_made (w : World) (n : Nat) (hn : n ≤ 2048) : Src (w.alloc (.cells (madeCells #[.int .u8 0] n) 5)) (some ⟨w.heap.size, 0, none⟩) n n (List.replicate n 0) := by
  refine ⟨⟨fun hp => ⟨w.heap.size, 0, rfl, (Blk.new w _ _).lt, fun j hj => ?_⟩, List.length_replicate, Nat.le_refl _, by omega⟩, fun e => by cases e⟩
  have hj' : j < n := by rw [bys_length, List.length_replicate] at hj; exact hj
  rw [(Blk.new w _ _).cell (0 + j), Nat.zero_add, made_at _ _ _ hj']
  simp [bys]
end Go.Proofs.Ytldmcoagjgeeoaa.Ra
