/- Words (0 to 65535) as float64: which numbers have a word's value (no condition but the bounds that each states). -/
import Derived.Test.YtjjoohmfeglicaaDoorFl
namespace Go.Proofs.YtjjoohmfeglicaaDoor.Fl
open Ieee

def le16 (x : Nat) : Bool := double.order x 4679239875398991872 == some .lt || double.order x 4679239875398991872 == some .eq
def truncB (x : Nat) : Nat := double.write ((double.read x).integral .zero)
/-- Is it a whole number from 0 to 65535? -/
def isW (x : Nat) : Bool := geZ x && le16 x && (double.order x (truncB x) == some .eq)
theorem c16 : fl 65535 = 4679239875398991872 := by decide +kernel

theorem small_form16 {x : Nat} (h1 : geZ x = true) (h2 : le16 x = true) :
    ∃ s m k, double.read x = .number s m (-((k : Nat) : Int)) ∧ m < 2 ^ 53 ∧ (s = false ∨ m = 0) ∧ m ≤ 65535 * 2 ^ k := by
  unfold geZ Format.order at h1
  unfold le16 Format.order at h2
  obtain ⟨k', hC⟩ := read_fl (v := 65535) (by decide)
  rw [c16] at hC
  rw [read0] at h1
  rw [hC] at h2
  cases hx : double.read x with
  | nan s t => rw [hx] at h1; simp [Datum.order] at h1
  | infinity s =>
    rw [hx] at h1 h2
    cases s <;> simp [Datum.order] at h1 h2
  | number s m p =>
    rw [hx] at h1 h2
    obtain ⟨hm, hp52, hp⟩ := read_form hx
    simp only [Datum.order, signed_eq] at h1 h2
    have hsm : s = false ∨ m = 0 := by
      cases s with
      | false => exact .inl rfl
      | true =>
        right
        rcases Nat.eq_zero_or_pos m with h0 | h0
        · exact h0
        · exfalso
          have hpos : 0 < m * 2 ^ (p - min p (-1074)).toNat := Nat.mul_pos h0 (Nat.two_pow_pos _)
          generalize m * 2 ^ (p - min p (-1074)).toNat = q at h1 hpos
          have hlt : (-1 : Int) * (q : Int) < 1 * ((0 * 2 ^ (-1074 - min p (-1074)).toNat : Nat) : Int) := by rw [Nat.zero_mul]; omega
          simp only [if_true, Bool.false_eq_true, if_false] at h1
          simp only [compare, compareOfLessAndEq, hlt, if_true] at h1
          revert h1; decide
    have hle : m * 2 ^ (p - min p (-(k' : Int))).toNat ≤ 65535 * 2 ^ k' * 2 ^ (-(k' : Int) - min p (-(k' : Int))).toNat := by
      have e1 : (if s = true then (-1 : Int) else 1) * ((m * 2 ^ (p - min p (-(k' : Int))).toNat : Nat) : Int) = ((m * 2 ^ (p - min p (-(k' : Int))).toNat : Nat) : Int) := by
        rcases hsm with rfl | rfl
        · simp
        · simp
      rw [e1] at h2
      have e2 : (decide ((65535 : Int) < 0)) = false := by decide
      have e3 : (65535 : Int).natAbs = 65535 := rfl
      simp only [e2, e3, Bool.false_eq_true, if_false, Int.one_mul] at h2
      generalize m * 2 ^ (p - min p (-(k' : Int))).toNat = q at h2 ⊢
      generalize 65535 * 2 ^ k' * 2 ^ (-(k' : Int) - min p (-(k' : Int))).toNat = r at h2 ⊢
      rcases Nat.lt_or_ge r q with hlt | hge
      · exfalso
        have a1 : ¬ ((q : Int) < (r : Int)) := by omega
        have a2 : ¬ ((q : Int) = (r : Int)) := by omega
        simp only [compare, compareOfLessAndEq, a1, a2, if_false] at h2
        revert h2; decide
      · exact hge
    by_cases hpp : 0 < p
    · exfalso
      have h52 := hp52 hpp
      have e1 : (p - min p (-(k' : Int))).toNat = p.toNat + k' := by omega
      have e2 : (-(k' : Int) - min p (-(k' : Int))).toNat = 0 := by omega
      rw [e1, e2, Nat.pow_add, ← Nat.mul_assoc, Nat.pow_zero, Nat.mul_one] at hle
      have := mul_pow_le hle
      have hge : m * 1 ≤ m * 2 ^ p.toNat := Nat.mul_le_mul_left _ (Nat.two_pow_pos _)
      omega
    · refine ⟨s, m, (-p).toNat, by congr 1; omega, hm, hsm, ?_⟩
      generalize hk : (-p).toNat = k
      have hpk : p = -(k : Int) := by omega
      subst hpk
      have e1 : k + (-(k : Int) - min (-(k : Int)) (-(k' : Int))).toNat = max k k' := by omega
      have e2 : k' + (-(k' : Int) - min (-(k : Int)) (-(k' : Int))).toNat = max k k' := by omega
      rw [Nat.mul_assoc, ← Nat.pow_add, e2, ← e1, Nat.pow_add, ← Nat.mul_assoc] at hle
      exact mul_pow_le hle


theorem toInt_cut {x : Nat} {s : Bool} {m k : Nat} (hr : double.read x = .number s m (-((k : Nat) : Int))) (hs : s = false ∨ m = 0) (hle : m ≤ 65535 * 2 ^ k) :
    (double.read x).toInt .zero = some ((m / 2 ^ k : Nat) : Int) ∧ Rep (double.read (truncB x)) ((m / 2 ^ k : Nat) : Int) := by
  have hn : m / 2 ^ k ≤ 65535 := Nat.div_le_of_le_mul (by rw [Nat.mul_comm]; exact hle)
  have hz0 : (-(k : Int)).toNat = 0 := by omega
  have hz1 : (- -(k : Int)).toNat = k := by omega
  have hs' : s = false ∨ m / 2 ^ k = 0 := by
    rcases hs with h | h
    · exact .inl h
    · right; rw [h, Nat.zero_div]
  have hi : (double.read x).integral .zero = .number s (m / 2 ^ k) 0 := by
    rw [hr]; unfold Datum.integral; dsimp only
    rw [hz0, hz1, Nat.shiftLeft_zero, cut_floor _ _ _ _ (.inl rfl)]
  refine ⟨?_, ?_⟩
  · unfold Datum.toInt
    rw [hi]
    dsimp only
    rw [signed_eq, Nat.pow_zero, Nat.mul_one]
    congr 1
    rcases hs' with h | h
    · subst h; simp
    · rw [h]; simp
  · unfold truncB
    rw [hi]
    show Rep (double.read (double.nearest s (m / 2 ^ k) 0)) _
    have := nearest_exact s (n := m / 2 ^ k) (by omega) 0
    rw [Nat.pow_zero, Nat.mul_one] at this
    have h0 : double.nearest s (m / 2 ^ k) 0 = double.word s (rung (m / 2 ^ k)) := this
    rw [h0, read_word s (by omega)]
    by_cases hz : m / 2 ^ k = 0
    · rw [if_pos hz, hz]
      have hq : ∀ q : Nat, ∀ p : Int, p = -(q : Int) → Rep (.number s 0 p) ((0 : Nat) : Int) := fun q p hp => ⟨s, q, by rw [hp]; simp, fun h => absurd rfl h⟩
      exact hq 1074 _ (by omega)
    · rw [if_neg hz]
      have hl := log2_le (n := m / 2 ^ k) (by omega)
      rcases hs' with h | h
      · have := rep_nat (s := s) (n := m / 2 ^ k) (52 - (m / 2 ^ k).log2) (.inl h)
        unfold sig
        have e : ((m / 2 ^ k).log2 : Int) - 52 = -((52 - (m / 2 ^ k).log2 : Nat) : Int) := by omega
        rw [e]; exact this
      · exact absurd h hz

theorem isW_form {x : Nat} (h : isW x = true) : ∃ n : Nat, n ≤ 65535 ∧ Rep (double.read x) (n : Int) := by
  unfold isW at h
  simp only [Bool.and_eq_true] at h
  obtain ⟨s, m, k, hr, _, hs, hle⟩ := small_form16 h.1.1 h.1.2
  have ht := (toInt_cut hr hs hle).2
  have h3 := h.2
  unfold Format.order at h3
  rw [hr, (order_nat hs ht).1] at h3
  have hm' : m = m / 2 ^ k * 2 ^ k := of_decide_eq_true h3
  refine ⟨m / 2 ^ k, Nat.div_le_of_le_mul (by rw [Nat.mul_comm]; exact hle), ?_⟩
  rw [hr]
  have hs' : s = false ∨ m / 2 ^ k = 0 := by
    rcases hs with h | h
    · exact .inl h
    · right; rw [h, Nat.zero_div]
  have := rep_nat (s := s) (n := m / 2 ^ k) k hs'
  rwa [← hm'] at this

theorem rep16 {d : Datum} {v : Int} (h : Rep d v) (x : Nat) (hx : double.read x = d) : geZ x = decide (0 ≤ v) ∧ le16 x = decide (v ≤ 65535) := by
  have r1 : Rep (double.read 4679239875398991872) 65535 := by rw [← c16]; exact (read_fl (by decide)).rep
  unfold geZ le16 Format.order
  rw [hx, order_rep h rep0, order_rep h r1]
  simp only [compare, compareOfLessAndEq]
  refine ⟨?_, ?_⟩
  · by_cases e : v < 0
    · have : ¬ 0 ≤ v := by omega
      simp [this, e]
    · have h2 : 0 ≤ v := by omega
      by_cases e0 : v = 0 <;> simp [e, e0, h2]
  · by_cases e : v < 65535
    · have : v ≤ 65535 := by omega
      simp [this, e]
    · by_cases e0 : v = 65535
      · subst e0; decide
      · have : ¬ v ≤ 65535 := by omega
        simp [this, e, e0]

theorem isW_rep {x : Nat} {v : Int} (h : Rep (double.read x) v) : isW x = decide (0 ≤ v ∧ v ≤ 65535) := by
  obtain ⟨g1, g2⟩ := rep16 h x rfl
  unfold isW
  rw [g1, g2]
  by_cases hv : 0 ≤ v ∧ v ≤ 65535
  · rw [decide_eq_true hv.1] at g1 ⊢
    rw [decide_eq_true hv.2] at g2 ⊢
    rw [decide_eq_true hv]
    obtain ⟨s, m, k, hr, _, hs, hle⟩ := small_form16 g1 g2
    obtain ⟨ht, hrt⟩ := toInt_cut hr hs hle
    rw [toInt_rep .zero h] at ht
    have hvn : v = ((m / 2 ^ k : Nat) : Int) := by injection ht
    rw [← hvn] at hrt
    unfold Format.order
    rw [order_rep h hrt]
    simp [compare, compareOfLessAndEq]
  · rw [decide_eq_false hv]
    by_cases h0 : 0 ≤ v
    · have : ¬ v ≤ 65535 := fun h => hv ⟨h0, h⟩
      simp [this]
    · simp [h0]

theorem kept_huge (s : Bool) {n L : Nat} (hL : n.log2 = L) (lo : 53 ≤ L) (hne : n ≠ 0) :
    2 ^ 52 ≤ Toward.even.cut s n (L - 52) ∧ Toward.even.cut s n (L - 52) ≤ 2 ^ 53 := by
  have p1 : 2 ^ L ≤ n := by rw [← hL]; exact Nat.log2_self_le hne
  have p2 : n < 2 ^ (L + 1) := by rw [← hL]; exact Nat.lt_log2_self
  unfold Toward.cut
  have g : (1 <<< min (L - 52) (n.log2 + 2)) = 2 ^ (L - 52) := by
    rw [hL, Nat.shiftLeft_eq, Nat.one_mul, Nat.min_eq_left (by omega)]
  simp only [g]
  have q1 : 2 ^ 52 ≤ n / 2 ^ (L - 52) := by
    rw [Nat.le_div_iff_mul_le (Nat.two_pow_pos _), ← Nat.pow_add]
    have : 52 + (L - 52) = L := by omega
    rw [this]; exact p1
  have q2 : n / 2 ^ (L - 52) < 2 ^ 53 := by
    rw [Nat.div_lt_iff_lt_mul (Nat.two_pow_pos _), ← Nat.pow_add]
    have : 53 + (L - 52) = L + 1 := by omega
    rw [this]; exact p2
  generalize n / 2 ^ (L - 52) = q at *
  generalize n % 2 ^ (L - 52) = r at *
  have hb : ∀ b : Bool, b.toNat ≤ 1 := by intro b; cases b <;> decide
  have := hb (decide (2 ^ (L - 52) < 2 * r) || (2 ^ (L - 52) == 2 * r && q % 2 == 1))
  omega

theorem nearest_huge (s : Bool) {n L : Nat} (hL : n.log2 = L) (lo : 53 ≤ L) (hi : L < 64) (hne : n ≠ 0) :
    ∃ R, double.nearest s n 0 = double.word s R ∧ 1076 * 2 ^ 52 ≤ R ∧ R < 2047 * 2 ^ 52 := by
  obtain ⟨k1, k2⟩ := kept_huge s hL lo hne
  have hlast : max (0 + (n.log2 : Int) - (double.fractionBits : Int)) double.leastPlace = (L : Int) - 52 := by
    rw [dbl_least, hL]
    show max (0 + (L : Int) - 52) (-1074) = _
    omega
  have a1 : (0 - ((L : Int) - 52)).toNat = 0 := by omega
  have a2 : (((L : Int) - 52) - 0).toNat = L - 52 := by omega
  have a3 : (((L : Int) - 52) - (-1074)).toNat = L + 1022 := by omega
  unfold Format.nearest
  rw [if_neg hne]
  simp only [hlast]
  rw [a1, a2, Nat.shiftLeft_zero, dbl_least, dbl_bin, dbl_inf, a3]
  generalize Toward.even.cut s n (L - 52) = kept at *
  exact ⟨_, rfl, by omega, by omega⟩

theorem read_big (s : Bool) {R : Nat} (r1 : 1076 * 2 ^ 52 ≤ R) (r2 : R < 2047 * 2 ^ 52) : ∃ s' m p, double.read (double.word s R) = .number s' m p ∧ 0 < p := by
  have hw : double.word s R % double.signWeight = R := by
    unfold Format.word; rw [dbl_sw]
    cases s <;> simp <;> omega
  unfold Format.read
  rw [hw, dbl_bin, dbl_inf, dbl_least, if_neg (by omega), if_pos r2]
  exact ⟨_, _, _, rfl, by omega⟩

/-- A number that needs more than 53 digits is no word. -/
theorem huge_form {v : Int} (h : 2 ^ 53 ≤ v.natAbs) (h2 : v.natAbs < 2 ^ 64) : ∃ s m p, double.read (fl v) = .number s m p ∧ 0 < p := by
  have hne : v.natAbs ≠ 0 := by omega
  have lo : 53 ≤ v.natAbs.log2 := (Nat.le_log2 hne).2 h
  have hi : v.natAbs.log2 < 64 := (Nat.log2_lt hne).2 h2
  obtain ⟨R, e, r1, r2⟩ := nearest_huge (decide (v < 0)) rfl lo hi hne
  obtain ⟨s, m, p, hr, hp⟩ := read_big (decide (v < 0)) r1 r2
  refine ⟨s, m, p, ?_, hp⟩
  rw [← hr, ← e]
  rfl

/-- The words among the whole numbers of 64 bits. -/
theorem isW_fl {v : Int} (h : -(2 ^ 63) ≤ v ∧ v < 2 ^ 63) : isW (fl v) = decide (0 ≤ v ∧ v ≤ 65535) := by
  by_cases hb : v.natAbs < 2 ^ 53
  · exact isW_rep (read_fl hb).rep
  · obtain ⟨s, m, p, hr, hp⟩ := huge_form (v := v) (by omega) (by omega)
    rw [decide_eq_false (by omega)]
    cases hw : isW (fl v) with
    | false => rfl
    | true =>
      exfalso
      unfold isW at hw
      simp only [Bool.and_eq_true] at hw
      obtain ⟨s', m', k, hr', _⟩ := small_form16 hw.1.1 hw.1.2
      rw [hr] at hr'
      injection hr' with _ _ h3
      omega
end Go.Proofs.YtjjoohmfeglicaaDoor.Fl
