/- The document's own reader of layer 2: what it answers. Conditions: those that each states. -/
import Derived.Test.YtefnkednnnlhoaaGreatDoorMAR
import Derived.Test.YtefnkednnnlhoaaGreatDoorMAQ
import Derived.Test.YtefnkednnnlhoaaGreatDoorMAD
import Derived.Test.YtefnkednnnlhoaaGreatDoorMAP
import Derived.Test.YtefnkednnnlhoaaGreatDoorMAA
import Derived.Test.YtefnkednnnlhoaaGreatDoorShelf
import Derived.Lib.ConvBytes
import Derived.Deep.DeepCutAuto
namespace Go.Proofs.YtefnkednnnlhoaaGreatDoor
open Go.ChangeShapes Go.WideShapes Go.ChangeAt Go.RowKit Go.Deep
set_option linter.unusedVariables false

/-- What a call to a reader that holds l and has met err tells, what it leaves, and its error. -/
def takeR (l : List UInt8) (err n : Int) (b : Bool) : List UInt8 × List UInt8 × Int :=
  if err ≠ 0 then ([], l, err) else if n < 0 ∨ (b = true ∧ (n < 1 ∨ 8 < n)) then ([], [], 1) else if (l.length : Int) < n then ([], [], 50) else (l.take n.toNat, l.drop n.toNat, 0)
theorem takeR_met {l : List UInt8} {err n : Int} {b : Bool} (h : err ≠ 0) : takeR l err n b = ([], l, err) := by simp [takeR, h]
theorem takeR_bad {l : List UInt8} {n : Int} {b : Bool} (h : n < 0 ∨ (b = true ∧ (n < 1 ∨ 8 < n))) : takeR l 0 n b = ([], [], 1) := by
  unfold takeR; rw [if_neg (by simp), if_pos h]
theorem takeR_few {l : List UInt8} {n : Int} {b : Bool} (h : ¬ (n < 0 ∨ (b = true ∧ (n < 1 ∨ 8 < n)))) (h2 : (l.length : Int) < n) : takeR l 0 n b = ([], [], 50) := by
  unfold takeR; rw [if_neg (by simp), if_neg h, if_pos h2]
theorem takeR_ok {l : List UInt8} {n : Int} {b : Bool} (h : ¬ (n < 0 ∨ (b = true ∧ (n < 1 ∨ 8 < n)))) (h2 : ¬ (l.length : Int) < n) : takeR l 0 n b = (l.take n.toNat, l.drop n.toNat, 0) := by
  unfold takeR; rw [if_neg (by simp), if_neg h, if_neg h2]
theorem takeR_inv (l : List UInt8) (err n : Int) (b : Bool) (h : err ≠ 0 → l = []) : (takeR l err n b).2.2 ≠ 0 → (takeR l err n b).2.1 = [] := by
  unfold takeR
  split
  · exact h
  · split
    · simp
    · split <;> simp
theorem num_of (B g : Nat) (l : List UInt8) (err n : Int) (w : World) (r r2 : List UInt8) (e2 : Int) (hr : takeR l err n true = (r, r2, e2)) (hl : r.length ≤ 8)
    (hn : Calls Tryz.prog 148 #[.pointer (some ⟨g, 0, none⟩), .int .i64 n, .int .i64 1, .int .i64 8] w fun e w' => ∃ A c, e = .returned (.slice A r.length c) ∧ Src w' A r.length c r ∧ (EyeAt w' B g r2 e2 ∧ w.grownBy w' (some g))) :
    Calls Tryz.prog 149 #[.pointer (some ⟨g, 0, none⟩), .int .i64 n] w fun e w' => e = .returned (.int .u64 (numB (takeR l err n true).1 : Int)) ∧ EyeAt w' B g (takeR l err n true).2.1 (takeR l err n true).2.2 ∧ w.grownBy w' (some g) := by
  rw [hr]
  exact num_from (some ⟨g, 0, none⟩) n w r (fun w' => EyeAt w' B g r2 e2 ∧ w.grownBy w' (some g)) hl hn
theorem num_any (B g : Nat) (l : List UInt8) (err n : Int) (w : World) (h : EyeAt w B g l err) (hi : err ≠ 0 → l = []) :
    Calls Tryz.prog 149 #[.pointer (some ⟨g, 0, none⟩), .int .i64 n] w fun e w' => e = .returned (.int .u64 (numB (takeR l err n true).1 : Int)) ∧ EyeAt w' B g (takeR l err n true).2.1 (takeR l err n true).2.2 ∧ w.grownBy w' (some g) := by
  by_cases h0 : err = 0
  · subst h0
    by_cases h1 : n < 0 ∨ (true = true ∧ (n < 1 ∨ 8 < n))
    · exact num_of B g l 0 n w [] [] 1 (takeR_bad h1) (by simp) ((next_stop B g l 0 n 1 8 w h 1 (.inr (.inl ⟨rfl, by omega, rfl⟩))).mono fun e w' ⟨h1, h2⟩ => ⟨none, 0, h1, Src.nil _, h2⟩)
    · obtain ⟨g0, g1, g8⟩ : ¬ n < 0 ∧ ¬ n < 1 ∧ ¬ 8 < n := ⟨fun h => h1 (.inl h), fun h => h1 (.inr ⟨rfl, .inl h⟩), fun h => h1 (.inr ⟨rfl, .inr h⟩)⟩
      by_cases h2 : (l.length : Int) < n
      · exact num_of B g l 0 n w [] [] 50 (takeR_few h1 h2) (by simp) ((next_stop B g l 0 n 1 8 w h 50 (.inr (.inr ⟨rfl, by omega, by omega, h2, rfl⟩))).mono fun e w' ⟨h1, h2⟩ => ⟨none, 0, h1, Src.nil _, h2⟩)
      · obtain ⟨k, rfl⟩ : ∃ k : Nat, n = k := ⟨n.toNat, by omega⟩
        have hk : (l.take k).length = k := by simp; omega
        refine num_of B g l 0 k w (l.take k) (l.drop k) 0 (by rw [takeR_ok h1 h2, Int.toNat_natCast]) (by omega) ?_
        rw [hk]
        exact (next_ok B g l k 1 8 w h (by omega) (by omega) (by omega)).mono fun e w' ⟨A, c, h1, h2, h3⟩ => ⟨A, c, h1, h2, h3⟩
  · exact num_of B g l err n w [] [] err (by rw [takeR_met h0, hi h0]) (by simp) ((next_stop B g l err n 1 8 w h err (.inl ⟨h0, rfl⟩)).mono fun e w' ⟨h1, h2⟩ => ⟨none, 0, h1, Src.nil _, h2⟩)

theorem bytes_of (B g : Nat) (l : List UInt8) (err n : Int) (w : World) (r r2 : List UInt8) (e2 : Int) (hr : takeR l err n false = (r, r2, e2)) (hl : r.length ≤ 1000000)
    (hn : Calls Tryz.prog 148 #[.pointer (some ⟨g, 0, none⟩), .int .i64 n, .int .i64 0, .int .i64 n] w fun e w' => ∃ A c, e = .returned (.slice A r.length c) ∧ Src w' A r.length c r ∧ (EyeAt w' B g r2 e2 ∧ w.grownBy w' (some g))) :
    Calls Tryz.prog 126 #[.pointer (some ⟨g, 0, none⟩), .int .i64 n] w fun e w' => ∃ A c, e = .returned (.slice A (takeR l err n false).1.length c) ∧ Src w' A (takeR l err n false).1.length c (takeR l err n false).1 ∧ EyeAt w' B g (takeR l err n false).2.1 (takeR l err n false).2.2 ∧ w.grownBy w' (some g) := by
  rw [hr]
  refine (bytes_from (some ⟨g, 0, none⟩) n w r (fun w' => EyeAt w' B g r2 e2 ∧ w.grownBy w' (some g)) hl hn).mono ?_
  rintro e w2 ⟨A, c, w', rfl, h1, ⟨h2, h3⟩, h4⟩
  exact ⟨A, c, rfl, h1, h2.below h4, grown_trans h3 (grown_of_below h4 (some g))⟩
theorem bytes_any (B g : Nat) (l : List UInt8) (err n : Int) (w : World) (h : EyeAt w B g l err) (hi : err ≠ 0 → l = []) :
    Calls Tryz.prog 126 #[.pointer (some ⟨g, 0, none⟩), .int .i64 n] w fun e w' => ∃ A c, e = .returned (.slice A (takeR l err n false).1.length c) ∧ Src w' A (takeR l err n false).1.length c (takeR l err n false).1 ∧ EyeAt w' B g (takeR l err n false).2.1 (takeR l err n false).2.2 ∧ w.grownBy w' (some g) := by
  have hl := h.2.1
  by_cases h0 : err = 0
  · subst h0
    by_cases h1 : n < 0 ∨ (false = true ∧ (n < 1 ∨ 8 < n))
    · exact bytes_of B g l 0 n w [] [] 1 (takeR_bad h1) (by simp) ((next_stop B g l 0 n 0 n w h 1 (.inr (.inl ⟨rfl, by simp at h1; omega, rfl⟩))).mono fun e w' ⟨h1, h2⟩ => ⟨none, 0, h1, Src.nil _, h2⟩)
    · have h1' : ¬ n < 0 := fun h => h1 (.inl h)
      by_cases h2 : (l.length : Int) < n
      · exact bytes_of B g l 0 n w [] [] 50 (takeR_few h1 h2) (by simp) ((next_stop B g l 0 n 0 n w h 50 (.inr (.inr ⟨rfl, by omega, by omega, h2, rfl⟩))).mono fun e w' ⟨h1, h2⟩ => ⟨none, 0, h1, Src.nil _, h2⟩)
      · obtain ⟨k, rfl⟩ : ∃ k : Nat, n = k := ⟨n.toNat, by omega⟩
        have hk : (l.take k).length = k := by simp; omega
        refine bytes_of B g l 0 k w (l.take k) (l.drop k) 0 (by rw [takeR_ok h1 h2, Int.toNat_natCast]) (by omega) ?_
        rw [hk]
        exact (next_ok B g l k 0 k w h (by omega) (by omega) (by omega)).mono fun e w' ⟨A, c, h1, h2, h3⟩ => ⟨A, c, h1, h2, h3⟩
  · exact bytes_of B g l err n w [] [] err (by rw [takeR_met h0, hi h0]) (by simp) ((next_stop B g l err n 0 n w h err (.inl ⟨h0, rfl⟩)).mono fun e w' ⟨h1, h2⟩ => ⟨none, 0, h1, Src.nil _, h2⟩)
end Go.Proofs.YtefnkednnnlhoaaGreatDoor

/- Words (0 to 65535) as float64: which numbers have a word's value (no condition but the bounds that each states). -/
namespace Go.Proofs.YtefnkednnnlhoaaGreatDoor.Fl
open Ieee

def le16 (x : Nat) : Bool := double.order x 4679239875398991872 == some .lt || double.order x 4679239875398991872 == some .eq
def truncB (x : Nat) : Nat := double.write ((double.read x).integral .zero)
/-- Is it a whole number from 0 to 65535? -/
def isW (x : Nat) : Bool := geZ x && le16 x && (double.order x (truncB x) == some .eq)
theorem c16 : fl 65535 = 4679239875398991872 := by decide +kernel

theorem small_form16 {x : Nat} (h1 : geZ x = true) (h2 : le16 x = true) :
    ∃ s m k, double.read x = .number s m (-((k : Nat) : Int)) ∧ m < 2 ^ 53 ∧ (s = false ∨ m = 0) ∧ m ≤ 65535 * 2 ^ k := by
  unfold geZ Format.order at h1
  unfold le16 Format.order at h2
  obtain ⟨k', hC⟩ := read_fl (v := 65535) (by decide)
  rw [c16] at hC
  rw [read0] at h1
  rw [hC] at h2
  cases hx : double.read x with
  | nan s t => rw [hx] at h1; simp [Datum.order] at h1
  | infinity s =>
    rw [hx] at h1 h2
    cases s <;> simp [Datum.order] at h1 h2
  | number s m p =>
    rw [hx] at h1 h2
    obtain ⟨hm, hp52, hp⟩ := read_form hx
    simp only [Datum.order, signed_eq] at h1 h2
    have hsm : s = false ∨ m = 0 := by
      cases s with
      | false => exact .inl rfl
      | true =>
        right
        rcases Nat.eq_zero_or_pos m with h0 | h0
        · exact h0
        · exfalso
          have hpos : 0 < m * 2 ^ (p - min p (-1074)).toNat := Nat.mul_pos h0 (Nat.two_pow_pos _)
          generalize m * 2 ^ (p - min p (-1074)).toNat = q at h1 hpos
          have hlt : (-1 : Int) * (q : Int) < 1 * ((0 * 2 ^ (-1074 - min p (-1074)).toNat : Nat) : Int) := by rw [Nat.zero_mul]; omega
          simp only [if_true, Bool.false_eq_true, if_false] at h1
          simp only [compare, compareOfLessAndEq, hlt, if_true] at h1
          revert h1; decide
    have hle : m * 2 ^ (p - min p (-(k' : Int))).toNat ≤ 65535 * 2 ^ k' * 2 ^ (-(k' : Int) - min p (-(k' : Int))).toNat := by
      have e1 : (if s = true then (-1 : Int) else 1) * ((m * 2 ^ (p - min p (-(k' : Int))).toNat : Nat) : Int) = ((m * 2 ^ (p - min p (-(k' : Int))).toNat : Nat) : Int) := by
        rcases hsm with rfl | rfl
        · simp
        · simp
      rw [e1] at h2
      have e2 : (decide ((65535 : Int) < 0)) = false := by decide
      have e3 : (65535 : Int).natAbs = 65535 := rfl
      simp only [e2, e3, Bool.false_eq_true, if_false, Int.one_mul] at h2
      generalize m * 2 ^ (p - min p (-(k' : Int))).toNat = q at h2 ⊢
      generalize 65535 * 2 ^ k' * 2 ^ (-(k' : Int) - min p (-(k' : Int))).toNat = r at h2 ⊢
      rcases Nat.lt_or_ge r q with hlt | hge
      · exfalso
        have a1 : ¬ ((q : Int) < (r : Int)) := by omega
        have a2 : ¬ ((q : Int) = (r : Int)) := by omega
        simp only [compare, compareOfLessAndEq, a1, a2, if_false] at h2
        revert h2; decide
      · exact hge
    by_cases hpp : 0 < p
    · exfalso
      have h52 := hp52 hpp
      have e1 : (p - min p (-(k' : Int))).toNat = p.toNat + k' := by omega
      have e2 : (-(k' : Int) - min p (-(k' : Int))).toNat = 0 := by omega
      rw [e1, e2, Nat.pow_add, ← Nat.mul_assoc, Nat.pow_zero, Nat.mul_one] at hle
      have := mul_pow_le hle
      have hge : m * 1 ≤ m * 2 ^ p.toNat := Nat.mul_le_mul_left _ (Nat.two_pow_pos _)
      omega
    · refine ⟨s, m, (-p).toNat, by congr 1; omega, hm, hsm, ?_⟩
      generalize hk : (-p).toNat = k
      have hpk : p = -(k : Int) := by omega
      subst hpk
      have e1 : k + (-(k : Int) - min (-(k : Int)) (-(k' : Int))).toNat = max k k' := by omega
      have e2 : k' + (-(k' : Int) - min (-(k : Int)) (-(k' : Int))).toNat = max k k' := by omega
      rw [Nat.mul_assoc, ← Nat.pow_add, e2, ← e1, Nat.pow_add, ← Nat.mul_assoc] at hle
      exact mul_pow_le hle


theorem toInt_cut {x : Nat} {s : Bool} {m k : Nat} (hr : double.read x = .number s m (-((k : Nat) : Int))) (hs : s = false ∨ m = 0) (hle : m ≤ 65535 * 2 ^ k) :
    (double.read x).toInt .zero = some ((m / 2 ^ k : Nat) : Int) ∧ Rep (double.read (truncB x)) ((m / 2 ^ k : Nat) : Int) := by
  have hn : m / 2 ^ k ≤ 65535 := Nat.div_le_of_le_mul (by rw [Nat.mul_comm]; exact hle)
  have hz0 : (-(k : Int)).toNat = 0 := by omega
  have hz1 : (- -(k : Int)).toNat = k := by omega
  have hs' : s = false ∨ m / 2 ^ k = 0 := by
    rcases hs with h | h
    · exact .inl h
    · right; rw [h, Nat.zero_div]
  have hi : (double.read x).integral .zero = .number s (m / 2 ^ k) 0 := by
    rw [hr]; unfold Datum.integral; dsimp only
    rw [hz0, hz1, Nat.shiftLeft_zero, cut_floor _ _ _ _ (.inl rfl)]
  refine ⟨?_, ?_⟩
  · unfold Datum.toInt
    rw [hi]
    dsimp only
    rw [signed_eq, Nat.pow_zero, Nat.mul_one]
    congr 1
    rcases hs' with h | h
    · subst h; simp
    · rw [h]; simp
  · unfold truncB
    rw [hi]
    show Rep (double.read (double.nearest s (m / 2 ^ k) 0)) _
    have := nearest_exact s (n := m / 2 ^ k) (by omega) 0
    rw [Nat.pow_zero, Nat.mul_one] at this
    have h0 : double.nearest s (m / 2 ^ k) 0 = double.word s (rung (m / 2 ^ k)) := this
    rw [h0, read_word s (by omega)]
    by_cases hz : m / 2 ^ k = 0
    · rw [if_pos hz, hz]
      have hq : ∀ q : Nat, ∀ p : Int, p = -(q : Int) → Rep (.number s 0 p) ((0 : Nat) : Int) := fun q p hp => ⟨s, q, by rw [hp]; simp, fun h => absurd rfl h⟩
      exact hq 1074 _ (by omega)
    · rw [if_neg hz]
      have hl := log2_le (n := m / 2 ^ k) (by omega)
      rcases hs' with h | h
      · have := rep_nat (s := s) (n := m / 2 ^ k) (52 - (m / 2 ^ k).log2) (.inl h)
        unfold sig
        have e : ((m / 2 ^ k).log2 : Int) - 52 = -((52 - (m / 2 ^ k).log2 : Nat) : Int) := by omega
        rw [e]; exact this
      · exact absurd h hz

theorem isW_form {x : Nat} (h : isW x = true) : ∃ n : Nat, n ≤ 65535 ∧ Rep (double.read x) (n : Int) := by
  unfold isW at h
  simp only [Bool.and_eq_true] at h
  obtain ⟨s, m, k, hr, _, hs, hle⟩ := small_form16 h.1.1 h.1.2
  have ht := (toInt_cut hr hs hle).2
  have h3 := h.2
  unfold Format.order at h3
  rw [hr, (order_nat hs ht).1] at h3
  have hm' : m = m / 2 ^ k * 2 ^ k := of_decide_eq_true h3
  refine ⟨m / 2 ^ k, Nat.div_le_of_le_mul (by rw [Nat.mul_comm]; exact hle), ?_⟩
  rw [hr]
  have hs' : s = false ∨ m / 2 ^ k = 0 := by
    rcases hs with h | h
    · exact .inl h
    · right; rw [h, Nat.zero_div]
  have := rep_nat (s := s) (n := m / 2 ^ k) k hs'
  rwa [← hm'] at this

end Go.Proofs.YtefnkednnnlhoaaGreatDoor.Fl

/- A row of elements that is only read, at any place of its block. Conditions: those that each states. -/
namespace Go.Proofs.YtefnkednnnlhoaaGreatDoor.Rk
open Go.ChangeShapes Go.WideShapes Go.ChangeAt Go.RowKit Go.Deep
set_option linter.unusedVariables false
structure RowG (w : World) (sz : Nat) (A : Option Addr) (n c : Nat) (xs : List Value) : Prop where
  len : xs.length = n * sz
  cap : n ≤ c
  max : c ≤ maxLen
  none_ : A = none → n = 0 ∧ c = 0
  at_ : ∀ a, A = some a → 0 < n → a = ⟨a.block, a.off, none⟩ ∧ (a.block < w.heap.size ∧ ∀ j (h : j < xs.length), w.cell? ⟨a.block, a.off + j, none⟩ = some xs[j])
section
variable {w w' : World} {sz n c : Nat} {A : Option Addr} {xs : List Value} {S : Nat → Prop}
theorem RowG.chg (h : RowG w sz A n c xs) (k : Chg w w' S) (hn : ∀ a, A = some a → ¬ S a.block) : RowG w' sz A n c xs := by
  refine ⟨h.len, h.cap, h.max, h.none_, fun a e h0 => ?_⟩
  obtain ⟨h3, h1, h2⟩ := h.at_ a e h0
  refine ⟨h3, Nat.lt_of_lt_of_le h1 k.size, fun j hj => ?_⟩
  rw [World.cell?_of_block (w := w) (w' := w') (a := ⟨a.block, a.off + j, none⟩) (k.block a.block h1 (hn a e))]
  exact h2 j hj
theorem RowG.new (h : RowG w sz A n c xs) (k : Below w.heap.size w w') : RowG w' sz A n c xs := h.chg (Chg.of_new k fun _ => False) (fun _ _ => id)
theorem RowG.nil (w : World) (sz : Nat) : RowG w sz none 0 0 [] := ⟨by simp, Nat.le_refl _, Nat.zero_le _, fun _ => ⟨rfl, rfl⟩, fun a e => by cases e⟩
/-- What a row holds, one element. -/
theorem RowG.cell (h : RowG w sz A n c xs) {j : Nat} (hj : j < xs.length) : ∃ b o, A = some ⟨b, o, none⟩ ∧ b < w.heap.size ∧ w.cell? ⟨b, o + j, none⟩ = some xs[j] := by
  have hn : 0 < n := by
    rcases Nat.eq_zero_or_pos n with e | e
    · have := h.len; rw [e, Nat.zero_mul] at this; omega
    · exact e
  cases hA : A with
  | none => have := (h.none_ hA).1; omega
  | some a =>
    obtain ⟨e, h1, h2⟩ := h.at_ a hA hn
    exact ⟨a.block, a.off, by rw [← e], h1, h2 j hj⟩
theorem RowG.of_owns {B : Nat} {E : TypeId} {v : Value} (h : w.ownsRow B E sz v n xs) : ∃ A c, v = .slice A n c ∧ RowG w sz A n c xs ∧ ∀ a, A = some a → B ≤ a.block ∧ a.block < w.heap.size := by
  rcases h.2 with ⟨rfl, rfl⟩ | ⟨g, cap, cur, rfl, hg, hh, h1, h2, _⟩
  · have hl := h.1
    rw [Nat.zero_mul] at hl
    obtain rfl := List.length_eq_zero_iff.1 hl
    exact ⟨none, 0, rfl, ⟨by simp, Nat.le_refl _, Nat.zero_le _, fun _ => ⟨rfl, rfl⟩, fun a e => (by cases e)⟩, fun a e => (by cases e)⟩
  · have hlt := (Array.getElem?_eq_some_iff.1 hh).1
    refine ⟨some ⟨g, 0, none⟩, cap, rfl, ⟨h.1, h1, h2, fun e => (by cases e), fun a e => ?_⟩, fun a e => (by cases e; exact ⟨hg, hlt⟩)⟩
    cases e
    refine fun _ => ⟨rfl, hlt, fun j hj => ?_⟩
    have hc := World.ownsRow.cells h rfl j xs[j] (List.getElem?_eq_getElem hj)
    have ea : (⟨g, 0, none⟩ : Addr).add j = ⟨g, 0 + j, none⟩ := by unfold Addr.add; split <;> simp_all
    rw [ea] at hc
    exact hc
end
end Go.Proofs.YtefnkednnnlhoaaGreatDoor.Rk

/- How the store lays its files (layer 11), in plain words: what may be, texts, sealed blocks, and how a block is read. No condition. -/
namespace Go.Proofs.YtefnkednnnlhoaaGreatDoor.In
open Go.ChangeShapes Go.WideShapes Go.ChangeAt Go.RowKit Go.Deep Fl Rk
set_option linter.unusedVariables false

def isBlk (b : Int) : Bool := decide (2 ≤ b ∧ b < 512)
def mayCnt (n : Int) : Bool := decide (1 ≤ n ∧ n ≤ 1073741824)
/-- The 254 bytes of a text. -/
def pad (t : List UInt8) : List UInt8 := t ++ List.replicate (254 - t.length) 0
def sealL (t : List UInt8) : List UInt8 := pad t ++ be (65535 - fo (256 * evs (pad t) + ods (pad t))) 2
theorem pad_length {t : List UInt8} (h : t.length ≤ 254) : (pad t).length = 254 := by simp [pad]; omega
theorem sealL_length {t : List UInt8} (h : t.length ≤ 254) : (sealL t).length = 256 := by simp [sealL, pad_length h, be_length]

/-- What a root's text is made of. -/
def blkT (ds : List Int) : List UInt8 := ds.flatMap fun d => be d.toNat 2
def rootMay (g : Int) (ds : List Int) : Bool := mayCnt g && decide (ds.length ≤ 4) && ds.all isBlk
def rootT (g : Int) (ds : List Int) : List UInt8 := [80, 82, 79, 84] ++ be g.toNat 4 ++ be ds.length 1 ++ blkT ds
/-- An entry: a name, and a block. -/
structure Ent where
  name : List UInt8
  ino : Int
def Ent.may (e : Ent) : Bool := Pt.nameB e.name && isBlk e.ino
def dirMay (l : List Ent) : Bool := decide (1 ≤ l.length ∧ l.length ≤ 8) && l.all Ent.may
def Ent.text (e : Ent) : List UInt8 := be e.name.length 1 ++ e.name ++ List.replicate (24 - e.name.length) 0 ++ be e.ino.toNat 2
def dirT (l : List Ent) : List UInt8 := [68] ++ be l.length 1 ++ l.flatMap Ent.text
/-- A file: its parts as float64 words. -/
structure Fil where
  ver : Int
  mtime : Int
  len : Int
  blocks : List Int
  parts : List (Nat × Nat)
def isP (p : Nat × Nat) : Bool := isW p.1 && isW p.2
def cntB (n : Int) : Int := (n + 255).tdiv 256
def Fil.head (f : Fil) : Bool := mayCnt f.ver && decide (0 ≤ f.mtime ∧ f.mtime ≤ 253402300799) && decide (0 ≤ f.len ∧ f.len ≤ 8192)
def Fil.may (f : Fil) : Bool := f.head && (decide ((f.blocks.length : Int) = cntB f.len) && decide ((f.parts.length : Int) = cntB f.len) && f.blocks.all isBlk && f.parts.all isP)
/-- The whole number that a float64 word stands for, of those from 0 on. -/
def toN (x : Nat) : Nat := (((Ieee.double.read x).toInt .zero).getD 0).toNat
def trip (b : Int) (p : Nat × Nat) : List UInt8 := be b.toNat 2 ++ (be (toN p.1) 2 ++ be (toN p.2) 2)
def trips : List Int → List (Nat × Nat) → List UInt8
  | b :: bs, p :: ps => trip b p ++ trips bs ps
  | _, _ => []
def filT (f : Fil) : List UInt8 := [70] ++ be f.ver.toNat 4 ++ be f.mtime.toNat 8 ++ be f.len.toNat 2 ++ trips f.blocks f.parts

/-- A reader: the bytes that are left, and its error. -/
abbrev Rd := List UInt8 × Int
def numS (s : Rd) (k : Int) : Nat × Rd := (numB (takeR s.1 s.2 k true).1, (takeR s.1 s.2 k true).2)
def bytS (s : Rd) (k : Int) : List UInt8 × Rd := ((takeR s.1 s.2 k false).1, (takeR s.1 s.2 k false).2)
def intS (s : Rd) (k : Int) : Int × Rd := (IntKind.i64.wrap (numS s k).1, (numS s k).2)
def readInts : Nat → Rd → List Int × Rd
  | 0, s => ([], s)
  | j + 1, s => ((readInts j s).1 ++ [(intS (readInts j s).2 2).1], (intS (readInts j s).2 2).2)
/-- What is read for a root: Gen, and the state behind the number of directories. -/
def rootG (l : List UInt8) : Int × Rd := intS (bytS (l, 0) 4).2 4
def rootN (l : List UInt8) : Int × Rd := intS (rootG l).2 1
def rootR (l : List UInt8) : Int × List Int := ((rootG l).1, (readInts (rootN l).1.toNat (rootN l).2).1)
/-- The error of a block that would be read as a thing whose block is b. -/
def goodL (l : List UInt8) : Bool := decide (fo (256 * evs l + ods l) = 65535)
def errOf (l : List UInt8) (may : Bool) (t : List UInt8) : Int :=
  if l.length ≠ 256 then 50 else if goodL l = false then 51 else if may = true ∧ sealL t = l then 0 else 50

/-- Values in memory. -/
def vi (l : List Int) : List Value := l.map fun d => .int .i64 d
def vp (l : List (Nat × Nat)) : List Value := l.map fun p => .complex .f64 p.1 p.2
def ve (l : List Ent) : List Value := l.flatMap fun e => [.string ⟨e.name.toArray⟩, .int .i64 e.ino]
theorem ve_length (l : List Ent) : (ve l).length = l.length * 2 := by
  induction l with
  | nil => rfl
  | cons e l ih => simp only [ve, List.flatMap_cons, List.length_append, List.length_cons, List.length_nil] at ih ⊢; omega
theorem ve_get : ∀ (l : List Ent) (j : Nat) (h : j < l.length), (ve l)[j * 2]? = some (.string ⟨l[j].name.toArray⟩) ∧ (ve l)[j * 2 + 1]? = some (.int .i64 l[j].ino)
  | e :: l, 0, _ => ⟨rfl, rfl⟩
  | e :: l, j + 1, h => by
    have := ve_get l j (by simpa using h)
    have e0 : ve (e :: l) = [.string ⟨e.name.toArray⟩, .int .i64 e.ino] ++ ve l := rfl
    rw [e0, show (j + 1) * 2 = 2 + j * 2 from by omega]
    refine ⟨?_, ?_⟩
    · rw [List.getElem?_append_right (by simp)]
      simpa using this.1
    · rw [List.getElem?_append_right (by simp; omega), show 2 + j * 2 + 1 - [Value.string ⟨e.name.toArray⟩, Value.int .i64 e.ino].length = j * 2 + 1 from by simp; omega]
      simpa using this.2

end Go.Proofs.YtefnkednnnlhoaaGreatDoor.In

/- Package path: the bytes of a segment, segments. No condition. -/
namespace Go.Proofs.YtefnkednnnlhoaaGreatDoor.Pt
open Go.ChangeShapes Go.WideShapes Go.ChangeAt Go.RowKit Go.Deep
set_option linter.unusedVariables false
theorem plainC_nat (c : UInt8) : plainC c = (decide (97 ≤ c.toNat ∧ c.toNat ≤ 122) || decide (65 ≤ c.toNat ∧ c.toNat ≤ 90) || decide (48 ≤ c.toNat ∧ c.toNat ≤ 57) || decide (c.toNat = 46) || decide (c.toNat = 45) || decide (c.toNat = 95)) := by
  have h : ∀ k : Fin 256, plainC (UInt8.ofNat k.1) = (decide (97 ≤ k.1 ∧ k.1 ≤ 122) || decide (65 ≤ k.1 ∧ k.1 ≤ 90) || decide (48 ≤ k.1 ∧ k.1 ≤ 57) || decide (k.1 = 46) || decide (k.1 = 45) || decide (k.1 = 95)) := by decide +kernel
  have := h ⟨c.toNat, c.toNat_lt⟩
  simpa using this
theorem inSeg_any (c : UInt8) (w : World) : Calls Tryz.prog 57 #[.int .u8 (c.toNat : Int)] w fun e w' => e = .returned (.bool (plainC c)) ∧ w' = w := by
  rw [plainC_nat]
  have hc := c.toNat_lt
  generalize c.toNat = x at *
  rcases (by omega : (x < 45) ∨ (x = 45) ∨ (x = 46) ∨ (x = 47) ∨ (48 ≤ x ∧ x ≤ 57) ∨ (58 ≤ x ∧ x ≤ 64) ∨ (65 ≤ x ∧ x ≤ 90) ∨ (91 ≤ x ∧ x ≤ 94) ∨ (x = 95) ∨ (x = 96) ∨ (97 ≤ x ∧ x ≤ 122) ∨ (122 < x)) with h | h | h | h | h | h | h | h | h | h | h | h
  · have hv : (decide (97 ≤ x ∧ x ≤ 122) || decide (65 ≤ x ∧ x ≤ 90) || decide (48 ≤ x ∧ x ≤ 57) || decide (x = 46) || decide (x = 45) || decide (x = 95)) = false := by simp; omega
    rw [hv]
    have f97 : ¬ (97 : Int) ≤ (x : Int) := by omega
    have f122 : (x : Int) ≤ 122 := by omega
    have f65 : ¬ (65 : Int) ≤ (x : Int) := by omega
    have f90 : (x : Int) ≤ 90 := by omega
    have f48 : ¬ (48 : Int) ≤ (x : Int) := by omega
    have f57 : (x : Int) ≤ 57 := by omega
    have q46 : ((x : Int) == 46) = false := by simp; omega
    have q45 : ((x : Int) == 45) = false := by simp; omega
    have q95 : ((x : Int) == 95) = false := by simp; omega
    clear hv hc h
    go_enter Tryz.func57, Tryz.ntmps57
    go_wp2
    go_ret
    exact ⟨rfl, rfl⟩
  · subst h
    have hv : (decide (97 ≤ 45 ∧ 45 ≤ 122) || decide (65 ≤ 45 ∧ 45 ≤ 90) || decide (48 ≤ 45 ∧ 45 ≤ 57) || decide (45 = 46) || decide (45 = 45) || decide (45 = 95)) = true := by decide
    rw [hv]
    clear hv hc
    go_enter Tryz.func57, Tryz.ntmps57
    go_wp2
    go_ret
    exact ⟨rfl, rfl⟩
  · subst h
    have hv : (decide (97 ≤ 46 ∧ 46 ≤ 122) || decide (65 ≤ 46 ∧ 46 ≤ 90) || decide (48 ≤ 46 ∧ 46 ≤ 57) || decide (46 = 46) || decide (46 = 45) || decide (46 = 95)) = true := by decide
    rw [hv]
    clear hv hc
    go_enter Tryz.func57, Tryz.ntmps57
    go_wp2
    go_ret
    exact ⟨rfl, rfl⟩
  · subst h
    have hv : (decide (97 ≤ 47 ∧ 47 ≤ 122) || decide (65 ≤ 47 ∧ 47 ≤ 90) || decide (48 ≤ 47 ∧ 47 ≤ 57) || decide (47 = 46) || decide (47 = 45) || decide (47 = 95)) = false := by decide
    rw [hv]
    clear hv hc
    go_enter Tryz.func57, Tryz.ntmps57
    go_wp2
    go_ret
    exact ⟨rfl, rfl⟩
  · have hv : (decide (97 ≤ x ∧ x ≤ 122) || decide (65 ≤ x ∧ x ≤ 90) || decide (48 ≤ x ∧ x ≤ 57) || decide (x = 46) || decide (x = 45) || decide (x = 95)) = true := by simp; omega
    rw [hv]
    have f97 : ¬ (97 : Int) ≤ (x : Int) := by omega
    have f122 : (x : Int) ≤ 122 := by omega
    have f65 : ¬ (65 : Int) ≤ (x : Int) := by omega
    have f90 : (x : Int) ≤ 90 := by omega
    have f48 : (48 : Int) ≤ (x : Int) := by omega
    have f57 : (x : Int) ≤ 57 := by omega
    have q46 : ((x : Int) == 46) = false := by simp; omega
    have q45 : ((x : Int) == 45) = false := by simp; omega
    have q95 : ((x : Int) == 95) = false := by simp; omega
    clear hv hc h
    go_enter Tryz.func57, Tryz.ntmps57
    go_wp2
    go_ret
    exact ⟨rfl, rfl⟩
  · have hv : (decide (97 ≤ x ∧ x ≤ 122) || decide (65 ≤ x ∧ x ≤ 90) || decide (48 ≤ x ∧ x ≤ 57) || decide (x = 46) || decide (x = 45) || decide (x = 95)) = false := by simp; omega
    rw [hv]
    have f97 : ¬ (97 : Int) ≤ (x : Int) := by omega
    have f122 : (x : Int) ≤ 122 := by omega
    have f65 : ¬ (65 : Int) ≤ (x : Int) := by omega
    have f90 : (x : Int) ≤ 90 := by omega
    have f48 : (48 : Int) ≤ (x : Int) := by omega
    have f57 : ¬ (x : Int) ≤ 57 := by omega
    have q46 : ((x : Int) == 46) = false := by simp; omega
    have q45 : ((x : Int) == 45) = false := by simp; omega
    have q95 : ((x : Int) == 95) = false := by simp; omega
    clear hv hc h
    go_enter Tryz.func57, Tryz.ntmps57
    go_wp2
    go_ret
    exact ⟨rfl, rfl⟩
  · have hv : (decide (97 ≤ x ∧ x ≤ 122) || decide (65 ≤ x ∧ x ≤ 90) || decide (48 ≤ x ∧ x ≤ 57) || decide (x = 46) || decide (x = 45) || decide (x = 95)) = true := by simp; omega
    rw [hv]
    have f97 : ¬ (97 : Int) ≤ (x : Int) := by omega
    have f122 : (x : Int) ≤ 122 := by omega
    have f65 : (65 : Int) ≤ (x : Int) := by omega
    have f90 : (x : Int) ≤ 90 := by omega
    have f48 : (48 : Int) ≤ (x : Int) := by omega
    have f57 : ¬ (x : Int) ≤ 57 := by omega
    have q46 : ((x : Int) == 46) = false := by simp; omega
    have q45 : ((x : Int) == 45) = false := by simp; omega
    have q95 : ((x : Int) == 95) = false := by simp; omega
    clear hv hc h
    go_enter Tryz.func57, Tryz.ntmps57
    go_wp2
    go_ret
    exact ⟨rfl, rfl⟩
  · have hv : (decide (97 ≤ x ∧ x ≤ 122) || decide (65 ≤ x ∧ x ≤ 90) || decide (48 ≤ x ∧ x ≤ 57) || decide (x = 46) || decide (x = 45) || decide (x = 95)) = false := by simp; omega
    rw [hv]
    have f97 : ¬ (97 : Int) ≤ (x : Int) := by omega
    have f122 : (x : Int) ≤ 122 := by omega
    have f65 : (65 : Int) ≤ (x : Int) := by omega
    have f90 : ¬ (x : Int) ≤ 90 := by omega
    have f48 : (48 : Int) ≤ (x : Int) := by omega
    have f57 : ¬ (x : Int) ≤ 57 := by omega
    have q46 : ((x : Int) == 46) = false := by simp; omega
    have q45 : ((x : Int) == 45) = false := by simp; omega
    have q95 : ((x : Int) == 95) = false := by simp; omega
    clear hv hc h
    go_enter Tryz.func57, Tryz.ntmps57
    go_wp2
    go_ret
    exact ⟨rfl, rfl⟩
  · subst h
    have hv : (decide (97 ≤ 95 ∧ 95 ≤ 122) || decide (65 ≤ 95 ∧ 95 ≤ 90) || decide (48 ≤ 95 ∧ 95 ≤ 57) || decide (95 = 46) || decide (95 = 45) || decide (95 = 95)) = true := by decide
    rw [hv]
    clear hv hc
    go_enter Tryz.func57, Tryz.ntmps57
    go_wp2
    go_ret
    exact ⟨rfl, rfl⟩
  · subst h
    have hv : (decide (97 ≤ 96 ∧ 96 ≤ 122) || decide (65 ≤ 96 ∧ 96 ≤ 90) || decide (48 ≤ 96 ∧ 96 ≤ 57) || decide (96 = 46) || decide (96 = 45) || decide (96 = 95)) = false := by decide
    rw [hv]
    clear hv hc
    go_enter Tryz.func57, Tryz.ntmps57
    go_wp2
    go_ret
    exact ⟨rfl, rfl⟩
  · have hv : (decide (97 ≤ x ∧ x ≤ 122) || decide (65 ≤ x ∧ x ≤ 90) || decide (48 ≤ x ∧ x ≤ 57) || decide (x = 46) || decide (x = 45) || decide (x = 95)) = true := by simp; omega
    rw [hv]
    have f97 : (97 : Int) ≤ (x : Int) := by omega
    have f122 : (x : Int) ≤ 122 := by omega
    have f65 : (65 : Int) ≤ (x : Int) := by omega
    have f90 : ¬ (x : Int) ≤ 90 := by omega
    have f48 : (48 : Int) ≤ (x : Int) := by omega
    have f57 : ¬ (x : Int) ≤ 57 := by omega
    have q46 : ((x : Int) == 46) = false := by simp; omega
    have q45 : ((x : Int) == 45) = false := by simp; omega
    have q95 : ((x : Int) == 95) = false := by simp; omega
    clear hv hc h
    go_enter Tryz.func57, Tryz.ntmps57
    go_wp2
    go_ret
    exact ⟨rfl, rfl⟩
  · have hv : (decide (97 ≤ x ∧ x ≤ 122) || decide (65 ≤ x ∧ x ≤ 90) || decide (48 ≤ x ∧ x ≤ 57) || decide (x = 46) || decide (x = 45) || decide (x = 95)) = false := by simp; omega
    rw [hv]
    have f97 : (97 : Int) ≤ (x : Int) := by omega
    have f122 : ¬ (x : Int) ≤ 122 := by omega
    have f65 : (65 : Int) ≤ (x : Int) := by omega
    have f90 : ¬ (x : Int) ≤ 90 := by omega
    have f48 : (48 : Int) ≤ (x : Int) := by omega
    have f57 : ¬ (x : Int) ≤ 57 := by omega
    have q46 : ((x : Int) == 46) = false := by simp; omega
    have q45 : ((x : Int) == 45) = false := by simp; omega
    have q95 : ((x : Int) == 95) = false := by simp; omega
    clear hv hc h
    go_enter Tryz.func57, Tryz.ntmps57
    go_wp2
    go_ret
    exact ⟨rfl, rfl⟩
theorem segB_iff (l : List UInt8) : segB l = true ↔ l ≠ [] ∧ l ≠ [46] ∧ l ≠ [46, 46] ∧ ∀ c ∈ l, plainC c = true := by
  unfold segB
  simp only [Bool.and_eq_true, bne_iff_ne, List.all_eq_true, and_assoc]
theorem isSeg_any (l : List UInt8) (hl : l.length ≤ 1000) (w : World) : Calls Tryz.prog 34 #[.string ⟨l.toArray⟩] w fun e w' => e = .returned (.bool (segB l)) ∧ w' = w := by
  have hsz : (⟨l.toArray⟩ : ByteArray).size = l.length := rfl
  by_cases h1 : l = []
  · subst h1
    go_enter Tryz.func34, Tryz.ntmps34
    go_wp2
    go_ret
    exact ⟨rfl, rfl⟩
  by_cases h2 : l = [46]
  · subst h2
    go_enter Tryz.func34, Tryz.ntmps34
    go_wp2
    go_ret
    exact ⟨rfl, rfl⟩
  by_cases h3 : l = [46, 46]
  · subst h3
    go_enter Tryz.func34, Tryz.ntmps34
    go_wp2
    go_ret
    exact ⟨rfl, rfl⟩
  have HV := Lib.hid (show segB l = decide (∀ c ∈ l, plainC c = true) from by
    rw [Bool.eq_iff_iff, segB_iff, decide_eq_true_eq]
    exact ⟨fun h => h.2.2.2, fun h => ⟨h1, h2, h3, h⟩⟩)
  have i1 : l.isEmpty = false := by cases l <;> simp_all
  have i2 : (l == [46]) = false := by simpa using h2
  have i3 : (l == [46, 46]) = false := by simpa using h3
  go_enter Tryz.func34, Tryz.ntmps34
  go_wp2
  clear h1 h2 h3 i1 i2 i3
  go_loop [16] (fun i => ∃ j : Nat, j ≤ l.length ∧ i = .int .i64 (j : Int) ∧ Hid (∀ k (h : k < j) (h' : k < l.length), plainC l[k] = true)) (fun i => l.length - (intOf i).toNat)
  case atStart => exact ⟨0, Nat.zero_le _, rfl, Lib.hid (fun k h => absurd h (by omega))⟩
  case round =>
    obtain ⟨j, hj, rfl, HP⟩ := hrel
    by_cases hlt : j < l.length
    · have hlt' : (j : Int) < (l.length : Int) := by omega
      have j0 : (0 : Int) ≤ (j : Int) := by omega
      have xj := IntWalk.i64_in ((j : Int) + 1) (by omega)
      cases hp : plainC l[j] with
      | true =>
        have CI := Lib.hid (inSeg_any l[j] w)
        rw [hp] at CI
        have HP2 := Lib.hid (show ∀ k (h : k < j + 1) (h' : k < l.length), plainC l[k] = true from fun k h h' => by
          by_cases e : k = j
          · subst e; exact hp
          · exact HP.out k (by omega) h')
        clear hp HP
        go_wp2_with fail
        refine CI.out.mono ?_; rintro e w1 ⟨rfl, rfl⟩
        go_wp2
        go_round
        case rel => exact ⟨j + 1, by omega, by simp, HP2⟩
        case measure => simp [intOf]; omega
      | false =>
        have CI := Lib.hid (inSeg_any l[j] w)
        rw [hp] at CI
        have EV := Lib.hid (show segB l = false from by
          rw [HV.out, decide_eq_false_iff_not]
          intro h
          have := h l[j] (List.getElem_mem hlt)
          rw [hp] at this; cases this)
        clear hp HP
        go_wp2_with fail
        refine CI.out.mono ?_; rintro e w1 ⟨rfl, rfl⟩
        go_wp2
        go_ret
        exact ⟨by rw [EV.out]; rfl, rfl⟩
    · have hge : ¬ (j : Int) < (l.length : Int) := by omega
      have EV := Lib.hid (show segB l = true from by
        rw [HV.out, decide_eq_true_eq]
        intro c hc
        obtain ⟨k, hk, rfl⟩ := List.mem_iff_getElem.1 hc
        exact HP.out k (by omega) hk)
      go_wp2
      go_ret
      exact ⟨by rw [EV.out]; rfl, rfl⟩
end Go.Proofs.YtefnkednnnlhoaaGreatDoor.Pt

/- Package strconv's ParseUint at base 16, of two bytes; package path's first. Conditions: those that each states. -/
namespace Go.Proofs.YtefnkednnnlhoaaGreatDoor.Pt
open Go.ChangeShapes Go.WideShapes Go.ChangeAt Go.RowKit Go.Deep
set_option linter.unusedVariables false
theorem cut_str (l : List UInt8) (a b : Nat) : (⟨l.toArray⟩ : ByteArray).extract a b = ⟨((l.drop a).take (b - a)).toArray⟩ := by
  apply ByteArray.ext
  rw [← Array.toList_inj]
  exact Lib.extract_data ⟨l.toArray⟩ a b
end Go.Proofs.YtefnkednnnlhoaaGreatDoor.Pt
