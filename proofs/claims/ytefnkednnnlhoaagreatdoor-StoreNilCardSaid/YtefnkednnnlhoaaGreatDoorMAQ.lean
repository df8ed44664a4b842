/- Plain facts on whole numbers as float64 words (no condition but the bounds that each states). -/
import Derived.Laws.FloatArith
import Derived.Test.YtefnkednnnlhoaaGreatDoorMAA
import Derived.WalkSpells
import Derived.WalkLawsBesides
import Derived.Laws.ComplexArith
import Derived.Deep.QuietTactic
import Derived.BigQuiet
namespace Go.Proofs.YtefnkednnnlhoaaGreatDoor.Fl
open Ieee

theorem dbl_least : double.leastPlace = -1074 := by decide
theorem dbl_bin : double.binade = 2 ^ 52 := rfl
theorem dbl_inf : double.infRung = 2047 * 2 ^ 52 := by decide
theorem dbl_sw : double.signWeight = 2 ^ 63 := rfl

/-- The significand of n, 53 digits. -/
def sig (n : Nat) : Nat := n * 2 ^ (52 - n.log2)

theorem log2_le {n : Nat} (h : n < 2 ^ 53) : n.log2 ≤ 52 := by
  rcases Nat.eq_zero_or_pos n with rfl | hp
  · simp
  · have := (Nat.log2_lt (by omega : n ≠ 0)).2 h; omega

theorem sig_lo {n : Nat} (h0 : 0 < n) (h : n < 2 ^ 53) : 2 ^ 52 ≤ sig n := by
  have hl := log2_le h
  have h1 : 2 ^ n.log2 ≤ n := Nat.log2_self_le (by omega)
  unfold sig
  calc 2 ^ 52 = 2 ^ n.log2 * 2 ^ (52 - n.log2) := by rw [← Nat.pow_add]; congr 1; omega
    _ ≤ _ := Nat.mul_le_mul_right _ h1

theorem sig_hi {n : Nat} (h : n < 2 ^ 53) : sig n < 2 ^ 53 := by
  have hl := log2_le h
  have h1 : n < 2 ^ (n.log2 + 1) := Nat.lt_log2_self
  unfold sig
  calc n * 2 ^ (52 - n.log2) < 2 ^ (n.log2 + 1) * 2 ^ (52 - n.log2) := Nat.mul_lt_mul_of_pos_right h1 (Nat.two_pow_pos _)
    _ = 2 ^ 53 := by rw [← Nat.pow_add]; congr 1; omega

/-- The rung of n. -/
def rung (n : Nat) : Nat := if n = 0 then 0 else (n.log2 + 1022) * 2 ^ 52 + sig n

theorem log2_mul_pow {n : Nat} (h : 0 < n) (k : Nat) : (n * 2 ^ k).log2 = n.log2 + k := by
  have e : n * 2 ^ k ≠ 0 := Nat.mul_ne_zero (by omega) (Nat.ne_of_gt (Nat.two_pow_pos _))
  rw [Nat.log2_eq_iff e]
  have h1 : 2 ^ n.log2 ≤ n := Nat.log2_self_le (by omega)
  have h2 : n < 2 ^ (n.log2 + 1) := Nat.lt_log2_self
  refine ⟨?_, ?_⟩
  · rw [Nat.pow_add]; exact Nat.mul_le_mul_right _ h1
  · have : n.log2 + k + 1 = (n.log2 + 1) + k := by omega
    rw [this, Nat.pow_add]; exact Nat.mul_lt_mul_of_pos_right h2 (Nat.two_pow_pos _)

theorem cut_exact (way : Toward) (neg : Bool) (a d : Nat) : way.cut neg (a * 2 ^ d) d = a := by
  rcases Nat.eq_zero_or_pos a with rfl | ha
  · unfold Toward.cut
    have hz : (Nat.log2 (0 * 2 ^ d)) = 0 := by rw [Nat.zero_mul]; rfl
    simp only [Nat.zero_mul, Nat.zero_div, Nat.zero_mod]
    cases way <;> simp [Nat.shiftLeft_eq]
  · unfold Toward.cut
    have hl : min d ((a * 2 ^ d).log2 + 2) = d := by rw [log2_mul_pow ha]; omega
    have hp : 0 < 2 ^ d := Nat.two_pow_pos _
    rw [hl]
    have e1 : 1 <<< d = 2 ^ d := by rw [Nat.shiftLeft_eq, Nat.one_mul]
    simp only [e1, Nat.mul_div_cancel _ hp, Nat.mul_mod_left]
    cases way <;> simp <;> omega

theorem nearest_exact (s : Bool) {n : Nat} (h : n < 2 ^ 53) (k : Nat) : double.nearest s (n * 2 ^ k) (-(k : Int)) = double.word s (rung n) := by
  unfold Format.nearest
  rcases Nat.eq_zero_or_pos n with rfl | hp
  · rw [if_pos (by simp)]; rfl
  · have e : n * 2 ^ k ≠ 0 := Nat.mul_ne_zero (by omega) (Nat.ne_of_gt (Nat.two_pow_pos _))
    rw [if_neg e]
    have hl := log2_le h
    have lo := sig_lo hp h
    have hi := sig_hi h
    have hlast : max (-(k : Int) + ((n * 2 ^ k).log2 : Int) - (double.fractionBits : Int)) double.leastPlace = (n.log2 : Int) - 52 := by
      rw [log2_mul_pow hp, dbl_least]
      show max (-(k : Int) + ((n.log2 + k : Nat) : Int) - 52) (-1074) = _
      omega
    have hk : Toward.even.cut s ((n * 2 ^ k) <<< (-(k : Int) - ((n.log2 : Int) - 52)).toNat) (((n.log2 : Int) - 52) - -(k : Int)).toNat = sig n := by
      rw [Nat.shiftLeft_eq]
      by_cases hc : k ≤ 52 - n.log2
      · have a1 : (-(k : Int) - ((n.log2 : Int) - 52)).toNat = 52 - n.log2 - k := by omega
        have a2 : (((n.log2 : Int) - 52) - -(k : Int)).toNat = 0 := by omega
        rw [a1, a2]
        have : n * 2 ^ k * 2 ^ (52 - n.log2 - k) = sig n * 2 ^ 0 := by
          unfold sig; rw [Nat.mul_assoc, ← Nat.pow_add, Nat.pow_zero, Nat.mul_one]; congr 2; omega
        rw [this]; exact cut_exact _ _ _ _
      · have a1 : (-(k : Int) - ((n.log2 : Int) - 52)).toNat = 0 := by omega
        have a2 : (((n.log2 : Int) - 52) - -(k : Int)).toNat = k - (52 - n.log2) := by omega
        rw [a1, a2]
        have : n * 2 ^ k * 2 ^ 0 = sig n * 2 ^ (k - (52 - n.log2)) := by
          unfold sig; rw [Nat.mul_assoc, ← Nat.pow_add, Nat.mul_assoc, ← Nat.pow_add]; congr 2; omega
        rw [this]; exact cut_exact _ _ _ _
    simp only [hlast, hk]
    congr 1
    rw [dbl_least, dbl_bin, dbl_inf]
    unfold rung
    rw [if_neg (by omega)]
    have : (((n.log2 : Int) - 52) - (-1074)).toNat = n.log2 + 1022 := by omega
    rw [this]
    omega

theorem rung_lt {n : Nat} (h : n < 2 ^ 53) : rung n < 2047 * 2 ^ 52 := by
  unfold rung
  split
  · omega
  · have := log2_le h; have := sig_hi h; omega

theorem read_word (s : Bool) {n : Nat} (h : n < 2 ^ 53) : double.read (double.word s (rung n)) = if n = 0 then .number s 0 (-1074) else .number s (sig n) ((n.log2 : Int) - 52) := by
  have hr := rung_lt h
  have hw : double.word s (rung n) / double.signWeight % 2 = s.toNat ∧ double.word s (rung n) % double.signWeight = rung n := by
    unfold Format.word; rw [dbl_sw]
    cases s <;> simp <;> omega
  unfold Format.read
  rw [hw.1, hw.2]
  have hb : ((s.toNat == 1) : Bool) = s := by cases s <;> rfl
  simp only [hb]
  by_cases hz : n = 0
  · subst hz; rfl
  · have lo := sig_lo (by omega) h
    have hi := sig_hi h
    have hl := log2_le h
    rw [if_neg hz, dbl_bin, dbl_inf, dbl_least]
    unfold rung
    rw [if_neg hz, if_neg (by omega), if_pos (by omega)]
    have a1 : ((n.log2 + 1022) * 2 ^ 52 + sig n) % 2 ^ 52 = sig n - 2 ^ 52 := by omega
    have a2 : ((n.log2 + 1022) * 2 ^ 52 + sig n) / 2 ^ 52 = n.log2 + 1023 := by omega
    have e1 : 2 ^ 52 + (sig n - 2 ^ 52) = sig n := by omega
    have e2 : (-1074 : Int) + ((n.log2 + 1023 - 1 : Nat) : Int) = (n.log2 : Int) - 52 := by omega
    rw [a1, a2, e1, e2]

/-- The float64 word of a whole number. -/
def fl (v : Int) : Nat := floatOfInt .f64 v

theorem fl_word {v : Int} (h : v.natAbs < 2 ^ 53) : fl v = double.word (decide (v < 0)) (rung v.natAbs) := by
  have := nearest_exact (decide (v < 0)) h 0
  rw [Nat.pow_zero, Nat.mul_one] at this
  exact this

/-- A datum that stands for the whole number v; the sign of a nought is left open. -/
def Rep (d : Datum) (v : Int) : Prop := ∃ (s : Bool) (k : Nat), d = .number s (v.natAbs * 2 ^ k) (-(k : Int)) ∧ (v ≠ 0 → s = decide (v < 0))
/-- The same, and nought bears no sign. -/
def RepS (d : Datum) (v : Int) : Prop := ∃ k : Nat, d = .number (decide (v < 0)) (v.natAbs * 2 ^ k) (-(k : Int))

theorem RepS.rep {d : Datum} {v : Int} (h : RepS d v) : Rep d v := by
  obtain ⟨k, rfl⟩ := h; exact ⟨_, k, rfl, fun _ => rfl⟩

theorem read_fl {v : Int} (h : v.natAbs < 2 ^ 53) : RepS (double.read (fl v)) v := by
  rw [fl_word h, read_word _ h]
  by_cases hz : v.natAbs = 0
  · rw [if_pos hz]
    have hk : ∀ k : Nat, ∀ p : Int, p = -(k : Int) → Datum.number (decide (v < 0)) 0 p = .number (decide (v < 0)) (v.natAbs * 2 ^ k) (-(k : Int)) := fun k p hp => by rw [hz, Nat.zero_mul, hp]
    exact ⟨_, hk 1074 _ (by omega)⟩
  · rw [if_neg hz]
    have := log2_le h
    refine ⟨52 - v.natAbs.log2, ?_⟩
    unfold sig
    congr 1
    omega

theorem write_rep {d : Datum} {v : Int} (h : RepS d v) (hv : v.natAbs < 2 ^ 53) : double.write d = fl v := by
  obtain ⟨k, rfl⟩ := h
  rw [fl_word hv]
  exact nearest_exact _ hv k

theorem signed_eq (s : Bool) (m j : Nat) : signed s m j = (if s then -1 else 1) * ((m * 2 ^ j : Nat) : Int) := by
  unfold signed
  rw [Nat.shiftLeft_eq]
  cases s <;> simp

theorem signed_rep {s : Bool} {v : Int} (hs : v ≠ 0 → s = decide (v < 0)) (k j : Nat) : signed s (v.natAbs * 2 ^ k) j = v * ((2 ^ (k + j) : Nat) : Int) := by
  rw [signed_eq]
  have e : v.natAbs * 2 ^ k * 2 ^ j = v.natAbs * 2 ^ (k + j) := by rw [Nat.mul_assoc, ← Nat.pow_add]
  rw [e, Int.natCast_mul, ← Int.mul_assoc]
  congr 1
  by_cases hz : v = 0
  · subst hz; cases s <;> rfl
  · rw [hs hz]
    by_cases hn : v < 0
    · simp [hn]; omega
    · simp [hn]; omega

theorem pow_pos_int (k : Nat) : (0 : Int) < ((2 ^ k : Nat) : Int) := by
  have : 0 < 2 ^ k := Nat.two_pow_pos k
  omega

theorem order_rep {d e : Datum} {a b : Int} (h : Rep d a) (g : Rep e b) : d.order e = some (compare a b) := by
  obtain ⟨s, k, rfl, hs⟩ := h
  obtain ⟨t, j, rfl, ht⟩ := g
  unfold Datum.order
  dsimp only
  rw [signed_rep hs, signed_rep ht]
  have e1 : k + (-(k : Int) - min (-(k : Int)) (-(j : Int))).toNat = max k j := by omega
  have e2 : j + (-(j : Int) - min (-(k : Int)) (-(j : Int))).toNat = max k j := by omega
  rw [e1, e2]
  have hp := pow_pos_int (max k j)
  congr 1
  unfold compare instOrdInt compareOfLessAndEq
  dsimp only
  have c1 : (a * ((2 ^ max k j : Nat) : Int) < b * ((2 ^ max k j : Nat) : Int)) ↔ a < b := Int.mul_lt_mul_right hp
  have c2 : (a * ((2 ^ max k j : Nat) : Int) = b * ((2 ^ max k j : Nat) : Int)) ↔ a = b := Int.mul_eq_mul_right_iff (by omega)
  simp only [c1, c2]

theorem sum_rep {d e : Datum} {a b : Int} (h : RepS d a) (g : Rep e b) : ∃ x, d.sum e = some x ∧ RepS x (a + b) := by
  obtain ⟨k, rfl⟩ := h
  obtain ⟨t, j, rfl, ht⟩ := g
  refine ⟨_, rfl, ?_⟩
  have h1 := signed_rep (s := decide (a < 0)) (v := a) (fun _ => rfl) k (-(k : Int) - min (-(k : Int)) (-(j : Int))).toNat
  have h2 := signed_rep ht j (-(j : Int) - min (-(k : Int)) (-(j : Int))).toNat
  have e1 : k + (-(k : Int) - min (-(k : Int)) (-(j : Int))).toNat = max k j := by omega
  have e2 : j + (-(j : Int) - min (-(k : Int)) (-(j : Int))).toNat = max k j := by omega
  rw [e1] at h1
  rw [e2] at h2
  refine ⟨max k j, ?_⟩
  rw [h1, h2, ← Int.add_mul]
  have hp := pow_pos_int (max k j)
  have hm : ((a + b) * ((2 ^ max k j : Nat) : Int)).natAbs = (a + b).natAbs * 2 ^ max k j := by rw [Int.natAbs_mul]; rfl
  rw [hm]
  have hpl : min (-(k : Int)) (-(j : Int)) = -((max k j : Nat) : Int) := by omega
  rw [hpl]
  congr 1
  by_cases hz : a + b = 0
  · rw [hz, Int.zero_mul, if_pos rfl]
    by_cases ha : a = 0
    · subst ha; rfl
    · have hb : b ≠ 0 := by omega
      rw [ht hb]
      by_cases hn : a < 0
      · have : ¬ b < 0 := by omega
        simp [this]
      · simp [hn]
  · have hne : (a + b) * ((2 ^ max k j : Nat) : Int) ≠ 0 := Int.mul_ne_zero hz (by omega)
    rw [if_neg hne]
    by_cases hn : a + b < 0
    · have : (a + b) * ((2 ^ max k j : Nat) : Int) < 0 := Int.mul_neg_of_neg_of_pos hn hp
      rw [decide_eq_true this, decide_eq_true hn]
    · have : ¬ (a + b) * ((2 ^ max k j : Nat) : Int) < 0 := by
        have := Int.mul_nonneg (a := a + b) (b := ((2 ^ max k j : Nat) : Int)) (by omega) (by omega)
        omega
      rw [decide_eq_false this, decide_eq_false hn]

theorem integral_rep {d : Datum} {v : Int} (way : Toward) (h : Rep d v) : ∃ s, d.integral way = .number s v.natAbs 0 ∧ (v ≠ 0 → s = decide (v < 0)) := by
  obtain ⟨s, k, rfl, hs⟩ := h
  refine ⟨s, ?_, hs⟩
  unfold Datum.integral
  dsimp only
  have e1 : (-(k : Int)).toNat = 0 := by omega
  have e2 : (- -(k : Int)).toNat = k := by omega
  rw [e1, e2, Nat.shiftLeft_zero, cut_exact]

theorem toInt_rep {d : Datum} {v : Int} (way : Toward) (h : Rep d v) : d.toInt way = some v := by
  obtain ⟨s, hi, hs⟩ := integral_rep way h
  unfold Datum.toInt
  rw [hi]
  dsimp only
  have := signed_rep hs 0 0
  rw [Nat.pow_zero, Nat.mul_one] at this
  rw [this]
  simp

theorem fl_add_rep {a b : Int} {y : Nat} (ha : a.natAbs < 2 ^ 53) (hb : Rep (double.read y) b) (hab : (a + b).natAbs < 2 ^ 53) : double.add (fl a) y = some (fl (a + b)) := by
  obtain ⟨x, hx, hr⟩ := sum_rep (read_fl ha) hb
  unfold Format.add
  rw [hx, Option.map_some, write_rep hr hab]

theorem read_form {x : Nat} {s : Bool} {m : Nat} {p : Int} (h : double.read x = .number s m p) : m < 2 ^ 53 ∧ (0 < p → 2 ^ 52 ≤ m) ∧ -1074 ≤ p := by
  unfold Format.read at h
  rw [dbl_sw, dbl_bin, dbl_inf, dbl_least] at h
  dsimp only at h
  split at h
  · injection h with _ hm hp
    subst hm hp
    refine ⟨by omega, by omega, by omega⟩
  · split at h
    · injection h with _ hm hp
      subst hm hp
      refine ⟨by omega, by omega, by omega⟩
    · split at h <;> cases h

theorem cut_floor (s : Bool) (m k : Nat) (way : Toward) (hw : way = .zero ∨ (way = .down ∧ (s = false ∨ m = 0))) : way.cut s m k = m / 2 ^ k := by
  unfold Toward.cut
  have e1 : 1 <<< min k (m.log2 + 2) = 2 ^ min k (m.log2 + 2) := by rw [Nat.shiftLeft_eq, Nat.one_mul]
  have e2 : m / 2 ^ min k (m.log2 + 2) = m / 2 ^ k := by
    by_cases hk : k ≤ m.log2 + 2
    · rw [Nat.min_eq_left hk]
    · rw [Nat.min_eq_right (by omega)]
      have h1 : m < 2 ^ (m.log2 + 1) := Nat.lt_log2_self
      have h2 : 2 ^ (m.log2 + 1) ≤ 2 ^ (m.log2 + 2) := Nat.pow_le_pow_right (by omega) (by omega)
      have h3 : 2 ^ (m.log2 + 2) ≤ 2 ^ k := Nat.pow_le_pow_right (by omega) (by omega)
      rw [Nat.div_eq_of_lt (by omega), Nat.div_eq_of_lt (by omega)]
  simp only [e1, e2]
  rcases hw with rfl | ⟨rfl, rfl | rfl⟩
  · simp
  · simp
  · simp

def geZ (x : Nat) : Bool := double.order x 0 == some .gt || double.order x 0 == some .eq
def le40 (x : Nat) : Bool := double.order x 4787326403894837248 == some .lt || double.order x 4787326403894837248 == some .eq
def floorB (x : Nat) : Nat := double.write ((double.read x).integral .down)
def wholeB (x : Nat) : Bool := geZ x && le40 x && (double.order x (floorB x) == some .eq)

theorem c40 : fl 1099511627776 = 4787326403894837248 := by decide +kernel
theorem read0 : double.read 0 = .number false 0 (-1074) := by decide +kernel

theorem rep0 : Rep (double.read 0) 0 := by
  have hq : ∀ q : Nat, ∀ p : Int, p = -(q : Int) → Rep (.number false 0 p) 0 := fun q p hp => ⟨false, q, by rw [hp]; simp, fun h => absurd rfl h⟩
  rw [read0]; exact hq 1074 _ (by omega)

theorem mul_pow_le {a b k : Nat} (h : a * 2 ^ k ≤ b * 2 ^ k) : a ≤ b := Nat.le_of_mul_le_mul_right h (Nat.two_pow_pos k)

theorem small_form {x : Nat} (h1 : geZ x = true) (h2 : le40 x = true) :
    ∃ s m k, double.read x = .number s m (-((k : Nat) : Int)) ∧ m < 2 ^ 53 ∧ (s = false ∨ m = 0) ∧ m ≤ 2 ^ 40 * 2 ^ k := by
  unfold geZ Format.order at h1
  unfold le40 Format.order at h2
  obtain ⟨k', hC⟩ := read_fl (v := 1099511627776) (by decide)
  rw [c40] at hC
  rw [read0] at h1
  rw [hC] at h2
  cases hx : double.read x with
  | nan s t => rw [hx] at h1; simp [Datum.order] at h1
  | infinity s =>
    rw [hx] at h1 h2
    cases s <;> simp [Datum.order] at h1 h2
  | number s m p =>
    rw [hx] at h1 h2
    obtain ⟨hm, hp52, hp⟩ := read_form hx
    simp only [Datum.order, signed_eq] at h1 h2
    have hsm : s = false ∨ m = 0 := by
      cases s with
      | false => exact .inl rfl
      | true =>
        right
        rcases Nat.eq_zero_or_pos m with h0 | h0
        · exact h0
        · exfalso
          have hpos : 0 < m * 2 ^ (p - min p (-1074)).toNat := Nat.mul_pos h0 (Nat.two_pow_pos _)
          generalize m * 2 ^ (p - min p (-1074)).toNat = q at h1 hpos
          have hlt : (-1 : Int) * (q : Int) < 1 * ((0 * 2 ^ (-1074 - min p (-1074)).toNat : Nat) : Int) := by rw [Nat.zero_mul]; omega
          simp only [if_true, Bool.false_eq_true, if_false] at h1
          simp only [compare, compareOfLessAndEq, hlt, if_true] at h1
          revert h1; decide
    have hle : m * 2 ^ (p - min p (-(k' : Int))).toNat ≤ 1099511627776 * 2 ^ k' * 2 ^ (-(k' : Int) - min p (-(k' : Int))).toNat := by
      have e1 : (if s = true then (-1 : Int) else 1) * ((m * 2 ^ (p - min p (-(k' : Int))).toNat : Nat) : Int) = ((m * 2 ^ (p - min p (-(k' : Int))).toNat : Nat) : Int) := by
        rcases hsm with rfl | rfl
        · simp
        · simp
      rw [e1] at h2
      have e2 : (decide ((1099511627776 : Int) < 0)) = false := by decide
      have e3 : (1099511627776 : Int).natAbs = 1099511627776 := rfl
      simp only [e2, e3, Bool.false_eq_true, if_false, Int.one_mul] at h2
      generalize m * 2 ^ (p - min p (-(k' : Int))).toNat = q at h2 ⊢
      generalize 1099511627776 * 2 ^ k' * 2 ^ (-(k' : Int) - min p (-(k' : Int))).toNat = r at h2 ⊢
      rcases Nat.lt_or_ge r q with hlt | hge
      · exfalso
        have a1 : ¬ ((q : Int) < (r : Int)) := by omega
        have a2 : ¬ ((q : Int) = (r : Int)) := by omega
        simp only [compare, compareOfLessAndEq, a1, a2, if_false] at h2
        revert h2; decide
      · exact hge
    by_cases hpp : 0 < p
    · exfalso
      have h52 := hp52 hpp
      have e1 : (p - min p (-(k' : Int))).toNat = p.toNat + k' := by omega
      have e2 : (-(k' : Int) - min p (-(k' : Int))).toNat = 0 := by omega
      rw [e1, e2, Nat.pow_add, ← Nat.mul_assoc, Nat.pow_zero, Nat.mul_one] at hle
      have := mul_pow_le hle
      have hge : m * 1 ≤ m * 2 ^ p.toNat := Nat.mul_le_mul_left _ (Nat.two_pow_pos _)
      omega
    · refine ⟨s, m, (-p).toNat, by congr 1; omega, hm, hsm, ?_⟩
      generalize hk : (-p).toNat = k
      have hpk : p = -(k : Int) := by omega
      subst hpk
      have e1 : k + (-(k : Int) - min (-(k : Int)) (-(k' : Int))).toNat = max k k' := by omega
      have e2 : k' + (-(k' : Int) - min (-(k : Int)) (-(k' : Int))).toNat = max k k' := by omega
      rw [Nat.mul_assoc, ← Nat.pow_add, e2, ← e1, Nat.pow_add, ← Nat.mul_assoc] at hle
      exact mul_pow_le hle

theorem rep_nat {s : Bool} {n : Nat} (k : Nat) (hs : s = false ∨ n = 0) : Rep (.number s (n * 2 ^ k) (-(k : Int))) (n : Int) := by
  refine ⟨s, k, rfl, fun hn => ?_⟩
  rcases hs with rfl | rfl
  · symm; simp
  · exact absurd rfl hn

theorem order_nat {s : Bool} {m n k : Nat} {d : Datum} (hs : s = false ∨ m = 0) (hd : Rep d (n : Int)) :
    (Datum.order (.number s m (-(k : Int))) d == some .eq) = decide (m = n * 2 ^ k) ∧ (Datum.order d (.number s m (-(k : Int))) == some .eq) = decide (m = n * 2 ^ k) := by
  obtain ⟨t, j, rfl, ht⟩ := hd
  have e1 : k + (-(k : Int) - min (-(k : Int)) (-(j : Int))).toNat = max k j := by omega
  have e2 : j + (-(j : Int) - min (-(k : Int)) (-(j : Int))).toNat = max k j := by omega
  have f1 : (if s = true then (-1 : Int) else 1) * ((m * 2 ^ (-(k : Int) - min (-(k : Int)) (-(j : Int))).toNat : Nat) : Int) = ((m * 2 ^ (-(k : Int) - min (-(k : Int)) (-(j : Int))).toNat : Nat) : Int) := by
    rcases hs with rfl | rfl <;> simp
  have f2 : signed t ((n : Int).natAbs * 2 ^ j) (-(j : Int) - min (-(k : Int)) (-(j : Int))).toNat = ((n * 2 ^ k * 2 ^ (-(k : Int) - min (-(k : Int)) (-(j : Int))).toNat : Nat) : Int) := by
    rw [signed_rep ht, e2, ← e1, ← Int.natCast_mul, Nat.pow_add, ← Nat.mul_assoc]
  have hm : min (-(j : Int)) (-(k : Int)) = min (-(k : Int)) (-(j : Int)) := by omega
  have key : ∀ a b c : Nat, 0 < c → ((a * c : Nat) = b * c ↔ a = b) := fun a b c hc => ⟨fun h => Nat.eq_of_mul_eq_mul_right hc h, fun h => by rw [h]⟩
  have hpos := Nat.two_pow_pos (-(k : Int) - min (-(k : Int)) (-(j : Int))).toNat
  have hk := key m (n * 2 ^ k) _ hpos
  unfold Datum.order
  dsimp only
  rw [hm, f2, signed_eq, f1]
  generalize m * 2 ^ (-(k : Int) - min (-(k : Int)) (-(j : Int))).toNat = q at hk ⊢
  generalize n * 2 ^ k * 2 ^ (-(k : Int) - min (-(k : Int)) (-(j : Int))).toNat = r at hk ⊢
  have fin : ∀ q r : Nat, (some (compare (q : Int) (r : Int)) == some Ordering.eq) = decide (q = r) := by
    intro q r
    simp only [compare, compareOfLessAndEq]
    by_cases h1 : q = r
    · subst h1; simp
    · by_cases h2 : (q : Int) < (r : Int)
      · simp [h1, h2]
      · have h3 : ¬ ((q : Int) = (r : Int)) := by omega
        simp [h1, h2, h3]
  refine ⟨by rw [fin]; simp only [hk], by rw [fin]; simp only [← hk, eq_comm]⟩

/-- What is between 0 and 2^40 has a whole part n; the two tests for a whole number agree. -/
theorem between {x : Nat} (h1 : geZ x = true) (h2 : le40 x = true) :
    ∃ n : Nat, n ≤ 1099511627776 ∧ (double.read x).toInt .zero = some (n : Int) ∧ (∃ s m p, double.read x = .number s m p) ∧
      (double.order x (floorB x) == some .eq) = (double.order (fl n) x == some .eq) ∧ ((double.order x (floorB x) == some .eq) = true → Rep (double.read x) (n : Int)) := by
  obtain ⟨s, m, k, hr, hm, hs, hle⟩ := small_form h1 h2
  have hn : m / 2 ^ k ≤ 1099511627776 := Nat.div_le_of_le_mul (by rw [Nat.mul_comm]; exact hle)
  have hz0 : (-(k : Int)).toNat = 0 := by omega
  have hz1 : (- -(k : Int)).toNat = k := by omega
  have hs' : s = false ∨ m / 2 ^ k = 0 := by
    rcases hs with h | h
    · exact .inl h
    · right; rw [h, Nat.zero_div]
  have hd : (double.read x).integral .down = .number s (m / 2 ^ k) 0 := by
    rw [hr]; unfold Datum.integral; dsimp only
    rw [hz0, hz1, Nat.shiftLeft_zero, cut_floor _ _ _ _ (.inr ⟨rfl, hs⟩)]
  have hi : (double.read x).integral .zero = .number s (m / 2 ^ k) 0 := by
    rw [hr]; unfold Datum.integral; dsimp only
    rw [hz0, hz1, Nat.shiftLeft_zero, cut_floor _ _ _ _ (.inl rfl)]
  have hrf : Rep (double.read (floorB x)) ((m / 2 ^ k : Nat) : Int) := by
    unfold floorB
    rw [hd]
    show Rep (double.read (double.nearest s (m / 2 ^ k) 0)) _
    have := nearest_exact s (n := m / 2 ^ k) (by omega) 0
    rw [Nat.pow_zero, Nat.mul_one] at this
    have h0 : double.nearest s (m / 2 ^ k) 0 = double.word s (rung (m / 2 ^ k)) := this
    rw [h0, read_word s (by omega)]
    by_cases hz : m / 2 ^ k = 0
    · rw [if_pos hz, hz]
      have hq : ∀ q : Nat, ∀ p : Int, p = -(q : Int) → Rep (.number s 0 p) ((0 : Nat) : Int) := fun q p hp => ⟨s, q, by rw [hp]; simp, fun h => absurd rfl h⟩
      exact hq 1074 _ (by omega)
    · rw [if_neg hz]
      have hl := log2_le (n := m / 2 ^ k) (by omega)
      rcases hs' with h | h
      · have := rep_nat (s := s) (n := m / 2 ^ k) (52 - (m / 2 ^ k).log2) (.inl h)
        unfold sig
        have e : ((m / 2 ^ k).log2 : Int) - 52 = -((52 - (m / 2 ^ k).log2 : Nat) : Int) := by omega
        rw [e]; exact this
      · exact absurd h hz
  refine ⟨m / 2 ^ k, hn, ?_, ⟨s, m, _, hr⟩, ?_, ?_⟩
  · unfold Datum.toInt
    rw [hi]
    dsimp only
    rw [signed_eq, Nat.pow_zero, Nat.mul_one]
    congr 1
    rcases hs' with h | h
    · subst h; simp
    · rw [h]; simp
  · unfold Format.order
    have hnf : ((m / 2 ^ k : Nat) : Int).natAbs < 2 ^ 53 := by rw [Int.natAbs_natCast]; omega
    rw [hr, (order_nat hs hrf).1, (order_nat hs (read_fl hnf).rep).2]
  · intro h
    unfold Format.order at h
    rw [hr, (order_nat hs hrf).1] at h
    have hm' : m = m / 2 ^ k * 2 ^ k := of_decide_eq_true h
    rw [hr]
    have := rep_nat (s := s) (n := m / 2 ^ k) k hs'
    rwa [← hm'] at this

theorem rep_nn {d : Datum} {v : Int} (h : Rep d v) (x : Nat) (hx : double.read x = d) (h0 : 0 ≤ v) (h40 : v ≤ 1099511627776) : geZ x = true ∧ le40 x = true := by
  have r0 : Rep (double.read 0) 0 := by
    have hq : ∀ q : Nat, ∀ p : Int, p = -(q : Int) → Rep (.number false 0 p) 0 := fun q p hp => ⟨false, q, by rw [hp]; simp, fun h => absurd rfl h⟩
    rw [read0]; exact hq 1074 _ (by omega)
  have r1 : Rep (double.read 4787326403894837248) 1099511627776 := by rw [← c40]; exact (read_fl (by decide)).rep
  unfold geZ le40 Format.order
  rw [hx, order_rep h r0, order_rep h r1]
  simp only [compare, compareOfLessAndEq]
  refine ⟨?_, ?_⟩
  · have : ¬ v < 0 := by omega
    by_cases e : v = 0 <;> simp [this, e]
  · by_cases e : v = 1099511627776
    · subst e; decide
    · have : v < 1099511627776 := by omega
      simp [this]

theorem whole_rep {x : Nat} {v : Int} (h : Rep (double.read x) v) : wholeB x = decide (0 ≤ v ∧ v ≤ 1099511627776) := by
  by_cases hv : 0 ≤ v ∧ v ≤ 1099511627776
  · obtain ⟨g1, g2⟩ := rep_nn h x rfl hv.1 hv.2
    obtain ⟨n, hn, ht, _, he, _⟩ := between g1 g2
    rw [toInt_rep .zero h] at ht
    have hvn : v = n := by injection ht
    unfold wholeB
    rw [g1, g2, he]
    unfold Format.order
    rw [hvn] at h
    rw [order_rep (read_fl (v := (n : Int)) (by omega)).rep h]
    simp [hv, compare, compareOfLessAndEq]
  · have r0 : Rep (double.read 0) 0 := by
      have hq : ∀ q : Nat, ∀ p : Int, p = -(q : Int) → Rep (.number false 0 p) 0 := fun q p hp => ⟨false, q, by rw [hp]; simp, fun h => absurd rfl h⟩
      rw [read0]; exact hq 1074 _ (by omega)
    have r1 : Rep (double.read 4787326403894837248) 1099511627776 := by rw [← c40]; exact (read_fl (by decide)).rep
    rw [decide_eq_false hv]
    unfold wholeB geZ le40 Format.order
    rw [order_rep h r0, order_rep h r1]
    simp only [compare, compareOfLessAndEq]
    by_cases hn : v < 0
    · simp [hn]
    · have a1 : ¬ v < 1099511627776 := by omega
      have a2 : ¬ v = 1099511627776 := by omega
      simp [a1, a2]

theorem toInt64 {x : Nat} {v : Int} (h : Rep (double.read x) v) (h0 : -9223372036854775808 ≤ v) (h1 : v ≤ 9223372036854775807) : floatToIntVal .f64 x .i64 = some v := by
  have : (FloatKind.f64.decode x).toInt .zero = some v := toInt_rep .zero h
  unfold floatToIntVal
  rw [this]
  dsimp only
  rw [if_pos ⟨h0, h1⟩]
end Go.Proofs.YtefnkednnnlhoaaGreatDoor.Fl

/- What each function of package sums does, said of its arguments. Conditions: those that each states. -/
namespace Go.Proofs.YtefnkednnnlhoaaGreatDoor
open Go.ChangeShapes Go.WideShapes Go.ChangeAt Go.RowKit Fl

theorem arch_run (x : Nat) (w : World) (h : ∃ s m p, Ieee.double.read x = .number s m p) :
    (callFunc 176 #[.float .f64 x]).run Tryz.prog w = .ok (.value (.float .f64 (floorB x))) w := by
  obtain ⟨s, m, p, hr⟩ := h
  have hd : FloatKind.f64.decode x = .number s m p := hr
  have he : Extern.find Tryz.f176 = some (Extern.MathFloor.toIntegral "math.archFloor" .down) := by kernel_rfl
  rw [run_callFunc_extern Tryz.func176 (by kernel_rfl) (by kernel_rfl) (by kernel_rfl) he]
  have : (Extern.MathFloor.toIntegral "math.archFloor" .down #[.float .f64 x]).run Tryz.prog w = .ok (.float .f64 (floorB x)) w := by
    unfold floorB
    rw [hr]
    show Sem.run Tryz.prog (match FloatKind.f64.decode x with
      | .nan s t =>
        if FloatKind.f64.format.quiet t = t then pure (Value.float .f64 x) else do
        let kept ← choose (.extern "math.Floor,Ceil,Trunc,RoundToEven.signallingNaN kept" 2)
        pure (Value.float .f64 (if kept == 1 then x else FloatKind.f64.encode (.nan s (FloatKind.f64.format.quiet t))))
      | d => pure (Value.float .f64 (FloatKind.f64.encode (d.integral .down)))) w = _
    rw [hd]
    rfl
  rw [this]; rfl

theorem floor_any (x : Nat) (w : World) (h : ∃ s m p, Ieee.double.read x = .number s m p) :
    Calls Tryz.prog 171 #[.float .f64 x] w fun e w' => e = .returned (.float .f64 (floorB x)) ∧ w = w' := by
  have ha := fun w => arch_run x w h
  go_enter Tryz.func171, Tryz.ntmps171
  go_wp2
  go_ret
  exact ⟨rfl, rfl⟩

theorem whole_any (x : Nat) (w : World) : Calls Tryz.prog 168 #[.float .f64 x] w fun e w' => e = .returned (.bool (wholeB x)) ∧ w = w' := by
  by_cases h1 : geZ x = true
  · by_cases h2 : le40 x = true
    · obtain ⟨n, hn, hi, hf, he, hr⟩ := between h1 h2
      have hw : wholeB x = (Ieee.double.order x (floorB x) == some .eq) := by unfold wholeB; rw [h1, h2]; rfl
      rw [hw]
      clear hn hi he hr hw
      have g1 : (FloatKind.f64.format.order x 0 == some .gt || FloatKind.f64.format.order x 0 == some .eq) = true := h1
      have g2 : (FloatKind.f64.format.order x 4787326403894837248 == some .lt || FloatKind.f64.format.order x 4787326403894837248 == some .eq) = true := h2
      clear h1 h2
      go_enter Tryz.func168, Tryz.ntmps168
      go_wp2_with (go_at_call 171; refine (floor_any _ _ (by assumption)).mono ?_; rintro e w' ⟨rfl, rfl⟩)
      go_ret
      exact ⟨rfl, rfl⟩
    · have hw : wholeB x = false := by unfold wholeB; rw [Bool.eq_false_iff.2 h2]; simp
      rw [hw]
      have g1 : (FloatKind.f64.format.order x 0 == some .gt || FloatKind.f64.format.order x 0 == some .eq) = true := h1
      have g2 : (FloatKind.f64.format.order x 4787326403894837248 == some .lt || FloatKind.f64.format.order x 4787326403894837248 == some .eq) = false := Bool.eq_false_iff.2 h2
      clear h1 h2 hw
      go_enter Tryz.func168, Tryz.ntmps168
      go_wp2
      go_ret
      exact ⟨rfl, rfl⟩
  · have hw : wholeB x = false := by unfold wholeB; rw [Bool.eq_false_iff.2 h1]; simp
    rw [hw]
    have g1 : (FloatKind.f64.format.order x 0 == some .gt || FloatKind.f64.format.order x 0 == some .eq) = false := Bool.eq_false_iff.2 h1
    clear h1 hw
    go_enter Tryz.func168, Tryz.ntmps168
    go_wp2
    go_ret
    exact ⟨rfl, rfl⟩

def smB (x y : Nat) : Bool := wholeB x && wholeB y

theorem mayBe_any (x y : Nat) (w : World) : Calls Tryz.prog 163 #[.complex .f64 x y] w fun e w' => e = .returned (.bool (smB x y)) ∧ w = w' := by
  unfold smB
  by_cases h1 : wholeB x = true
  · go_enter Tryz.func163, Tryz.ntmps163
    go_wp2_with (go_at_call 168; refine (whole_any _ _).mono ?_; rintro e w' ⟨rfl, rfl⟩)
    go_ret
    exact ⟨by rw [h1, Bool.true_and]; rfl, rfl⟩
  · have h1 : wholeB x = false := Bool.eq_false_iff.2 h1
    go_enter Tryz.func163, Tryz.ntmps163
    go_wp2_with (go_at_call 168; refine (whole_any _ _).mono ?_; rintro e w' ⟨rfl, rfl⟩)
    go_ret
    exact ⟨by rw [h1, Bool.false_and]; rfl, rfl⟩

/-- One round of a fold, and the word that a number is folded to. -/
def fo (n : Nat) : Nat := if n = 0 then 0 else (n - 1) % 65535 + 1
theorem fo_small {n : Nat} (h : n ≤ 65535) : fo n = n := by unfold fo; split <;> omega
theorem fo_step {n : Nat} (h : 65535 < n) : fo (n % 65536 + n / 65536) = fo n ∧ n % 65536 + n / 65536 < n := by
  have e : n - 1 = (n % 65536 + n / 65536 - 1) + 65535 * (n / 65536) := by omega
  refine ⟨?_, by omega⟩
  unfold fo
  rw [if_neg (by omega), if_neg (by omega), e, Nat.add_mul_mod_self_left]
theorem fo_le (n : Nat) : fo n ≤ 65535 := by unfold fo; split <;> omega

theorem fold_ok (x y : Nat) (a b : Nat) (w : World) (hx : Rep (Ieee.double.read x) (a : Int)) (hy : Rep (Ieee.double.read y) (b : Int)) (ha : a ≤ 1099511627776) (hb : b ≤ 1099511627776) :
    Calls Tryz.prog 146 #[.complex .f64 x y] w fun e w' => e = .returned (.tuple #[.int .u16 (fo (256 * a + b) : Nat), .int .i64 0]) ∧ w = w' := by
  have hm : smB x y = true := by
    unfold smB; rw [whole_rep hx, whole_rep hy]; simp; omega
  have cx := fun w => run_convert_float_int (P := Tryz.prog) w 218 2 .f64 .i64 x a (by kernel_rfl) Tryz.underlying2 (toInt64 hx (by omega) (by omega))
  have cy := fun w => run_convert_float_int (P := Tryz.prog) w 218 2 .f64 .i64 y b (by kernel_rfl) Tryz.underlying2 (toInt64 hy (by omega) (by omega))
  clear hx hy
  go_enter Tryz.func146, Tryz.ntmps146
  go_wp2_with (go_at_call 163; refine (mayBe_any _ _ _).mono ?_; rintro e w' ⟨rfl, rfl⟩)
  go_loop [4] (fun t => ∃ n : Nat, n ≤ 300000000000000 ∧ fo n = fo (256 * a + b) ∧ t = .int .i64 n) (fun t => (intOf t).toNat)
  case atStart => exact ⟨256 * a + b, by omega, rfl, by go_num⟩
  case round =>
    obtain ⟨n, hn, hf, rfl⟩ := hrel
    have HF := Lib.hid hf
    clear hf
    by_cases hlt : 65535 < n
    · have hlt' : (65535 : Int) < n := by omega
      have hs := fo_step hlt
      go_wp2
      go_round
      case rel => exact ⟨n % 65536 + n / 65536, by omega, by rw [hs.1, HF.out], by go_num⟩
      case measure => simp [intOf]; omega
    · have hlt' : ¬ (65535 : Int) < n := by omega
      go_wp2
      go_ret2
      have := fo_small (n := n) (by omega)
      rw [HF.out] at this
      exact ⟨by rw [this]; rfl, rfl⟩

theorem cadd {a b c d : Int} {y z : Nat} (t : TypeId) (ha : a.natAbs < 2 ^ 53) (hb : b.natAbs < 2 ^ 53) (hy : Rep (Ieee.double.read y) c) (hz : Rep (Ieee.double.read z) d) (hac : (a + c).natAbs < 2 ^ 53) (hbd : (b + d).natAbs < 2 ^ 53) (w : World) :
    (binOp .add t (.complex .f64 (fl a) (fl b)) (.complex .f64 y z)).run Tryz.prog w = .ok (.complex .f64 (fl (a + c)) (fl (b + d))) w := by
  refine run_complex_sum w .add (.inl rfl) t .f64 _ _ _ _ _ _ ?_
  unfold cSumBits floatBits
  have h1 : FloatKind.f64.format.add (fl a) y = some (fl (a + c)) := fl_add_rep ha hy hac
  have h2 : FloatKind.f64.format.add (fl b) z = some (fl (b + d)) := fl_add_rep hb hz hbd
  simp only [h1, h2, Option.bind_some]

theorem cadd_fl {a b c d : Int} (t : TypeId) (ha : a.natAbs < 2 ^ 53) (hb : b.natAbs < 2 ^ 53) (hc : c.natAbs < 2 ^ 53) (hd : d.natAbs < 2 ^ 53) (hac : (a + c).natAbs < 2 ^ 53) (hbd : (b + d).natAbs < 2 ^ 53) (w : World) :
    (binOp .add t (.complex .f64 (fl a) (fl b)) (.complex .f64 (fl c) (fl d))).run Tryz.prog w = .ok (.complex .f64 (fl (a + c)) (fl (b + d))) w :=
  cadd t ha hb (read_fl hc).rep (read_fl hd).rep hac hbd w

theorem sum_ok (x y : Nat) (a b : Nat) (w : World) (hx : Rep (Ieee.double.read x) (a : Int)) (hy : Rep (Ieee.double.read y) (b : Int)) (ha : a ≤ 1099511627776) (hb : b ≤ 1099511627776) :
    Calls Tryz.prog 132 #[.complex .f64 x y] w fun e w' => e = .returned (.tuple #[.int .u16 (65535 - fo (256 * a + b) : Nat), .int .i64 0]) ∧ w = w' := by
  have hl := fo_le (256 * a + b)
  go_enter Tryz.func132, Tryz.ntmps132
  go_wp2_with (go_at_call 146; refine (fold_ok _ _ a b _ (by assumption) (by assumption) (by assumption) (by assumption)).mono ?_; rintro e w' ⟨rfl, rfl⟩)
  go_ret2
  refine ⟨?_, rfl⟩
  have : ((65535 - fo (256 * a + b) : Nat) : Int) = 65535 - (fo (256 * a + b) : Int) := by omega
  rw [this]; rfl

end Go.Proofs.YtefnkednnnlhoaaGreatDoor
