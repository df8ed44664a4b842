/- Days, months and years: the plain mathematics of dates. Conditions: those that each states. -/
import Derived.Handy
namespace Go.Proofs.YtbmnfefpkahejaaDoor
/-- One where the year has a day more, else none. -/
def lp (y : Int) : Int := if y % 4 = 0 ∧ (y % 100 ≠ 0 ∨ y % 400 = 0) then 1 else 0
/-- Days ahead of January 1 of a year. -/
def bef (y : Int) : Int := 365 * (y - 1) + (y - 1) / 4 - (y - 1) / 100 + (y - 1) / 400 - 719162
/-- Days of a month. -/
def dm (y m : Int) : Int := if m = 2 then 28 + lp y else if m = 4 ∨ m = 6 ∨ m = 9 ∨ m = 11 then 30 else 31
/-- Days of a year ahead of a month. -/
def cum (y m : Int) : Int := if m ≤ 1 then 0 else if m = 2 then 31 else (153 * (m - 3) + 2) / 5 + 59 + lp y

theorem lp_01 (y : Int) : 0 ≤ lp y ∧ lp y ≤ 1 := by unfold lp; split <;> omega
theorem lp_step (y : Int) : lp y = y / 4 - (y - 1) / 4 - (y / 100 - (y - 1) / 100) + (y / 400 - (y - 1) / 400) := by
  unfold lp
  split <;> omega
theorem bef_step (y : Int) : bef (y + 1) = bef y + 365 + lp y := by
  have h := lp_step y
  unfold bef
  have e : y + 1 - 1 = y := by omega
  rw [e]
  omega
theorem bef_zero : bef 1970 = 0 := by decide
theorem bef_end : bef 10000 = 2932897 := by decide
theorem bef_mono {a b : Int} (h : a ≤ b) : bef a ≤ bef b := by unfold bef; omega
theorem twelve {m : Int} (h0 : 1 ≤ m) (h1 : m ≤ 12) : m = 1 ∨ m = 2 ∨ m = 3 ∨ m = 4 ∨ m = 5 ∨ m = 6 ∨ m = 7 ∨ m = 8 ∨ m = 9 ∨ m = 10 ∨ m = 11 ∨ m = 12 := by omega
theorem cum_step (y m : Int) (h0 : 1 ≤ m) (h1 : m ≤ 12) : cum y (m + 1) = cum y m + dm y m := by
  rcases twelve h0 h1 with rfl | rfl | rfl | rfl | rfl | rfl | rfl | rfl | rfl | rfl | rfl | rfl <;> simp [cum, dm] <;> omega
theorem cum_one (y : Int) : cum y 1 = 0 := by simp [cum]
theorem cum_end (y : Int) : cum y 13 = 365 + lp y := by simp [cum]
theorem cum_mono (y : Int) {a b : Int} (h : a ≤ b) (_h0 : 1 ≤ a) (h1 : b ≤ 13) : cum y a ≤ cum y b := by
  have := lp_01 y
  unfold cum
  repeat' split
  all_goals omega
theorem dm_bd (y m : Int) : 28 ≤ dm y m ∧ dm y m ≤ 31 := by
  have := lp_01 y
  unfold dm
  repeat' split
  all_goals omega
theorem cum_bd (y m : Int) (h0 : 1 ≤ m) (h1 : m ≤ 13) : 0 ≤ cum y m ∧ cum y m ≤ 366 := by
  have := cum_mono y h0 (by omega) h1
  have := cum_mono y h1 h0 (by omega)
  have := lp_01 y
  have := cum_one y
  have := cum_end y
  omega

/-- Day number k, January 1, 1970, being number 0, is day d of month m of year y. -/
structure IsDay (k y m d : Int) : Prop where
  y0 : 1970 ≤ y
  y1 : y ≤ 9999
  m0 : 1 ≤ m
  m1 : m ≤ 12
  d0 : 1 ≤ d
  d1 : d ≤ dm y m
  eq : k = bef y + cum y m + (d - 1)
theorem IsDay.bd {k y m d : Int} (h : IsDay k y m d) : 0 ≤ k ∧ k ≤ 2932896 ∧ bef y ≤ k ∧ k < bef (y + 1) ∧ bef y + cum y m ≤ k ∧ k < bef y + cum y (m + 1) := by
  obtain ⟨y0, y1, m0, m1, d0, d1, e⟩ := h
  have a1 := bef_mono y0
  have a2 := bef_mono (show y + 1 ≤ 10000 by omega)
  have a3 := bef_zero
  have a4 := bef_end
  have a5 := bef_step y
  have a6 := cum_step y m m0 m1
  have a7 := cum_mono y (show m + 1 ≤ 13 by omega) (by omega) (by omega)
  have a8 := cum_end y
  have a9 := cum_bd y m m0 (by omega)
  omega
/-- Later dates are of later days. -/
theorem IsDay.later {k y m d k' y' m' d' : Int} (h : IsDay k y m d) (h' : IsDay k' y' m' d') (hl : y < y' ∨ y = y' ∧ (m < m' ∨ m = m' ∧ d < d')) : k < k' := by
  have b := h.bd
  have b' := h'.bd
  have e := h.eq
  have e' := h'.eq
  rcases hl with hl | ⟨rfl, hl | ⟨rfl, hl⟩⟩
  · have := bef_mono (show y + 1 ≤ y' by omega)
    omega
  · have := cum_mono y (show m + 1 ≤ m' by omega) (by have := h.m0; omega) (by have := h'.m1; omega)
    omega
  · omega
theorem IsDay.order {k y m d k' y' m' d' : Int} (h : IsDay k y m d) (h' : IsDay k' y' m' d') (hk : k < k') : y < y' ∨ y = y' ∧ (m < m' ∨ m = m' ∧ d < d') := by
  rcases Int.lt_trichotomy y y' with a | rfl | a
  · exact .inl a
  · rcases Int.lt_trichotomy m m' with b | rfl | b
    · exact .inr ⟨rfl, .inl b⟩
    · rcases Int.lt_trichotomy d d' with c | rfl | c
      · exact .inr ⟨rfl, .inr ⟨rfl, c⟩⟩
      · have := h.eq; have := h'.eq; omega
      · have := h'.later h (.inr ⟨rfl, .inr ⟨rfl, c⟩⟩); omega
    · have := h'.later h (.inr ⟨rfl, .inl b⟩); omega
  · have := h'.later h (.inl a); omega
theorem IsDay.same {k y m d y' m' d' : Int} (h : IsDay k y m d) (h' : IsDay k y' m' d') : y = y' ∧ m = m' ∧ d = d' := by
  rcases Int.lt_trichotomy y y' with a | rfl | a
  · have := h.later h' (.inl a); omega
  · rcases Int.lt_trichotomy m m' with b | rfl | b
    · have := h.later h' (.inr ⟨rfl, .inl b⟩); omega
    · exact ⟨rfl, rfl, by have := h.eq; have := h'.eq; omega⟩
    · have := h'.later h (.inr ⟨rfl, .inl b⟩); omega
  · have := h'.later h (.inl a); omega

/-- The year of an era of a day of it, by the document's own way. -/
def yoe (e : Int) : Int := (e - e / 1460 + e / 36524 - e / 146096) / 365
def doy (e : Int) : Int := e - (365 * yoe e + yoe e / 4 - yoe e / 100)
def mp (e : Int) : Int := (5 * doy e + 2) / 153
theorem lp_per (y k : Int) : lp (y + 400 * k) = lp y := by
  unfold lp
  have h1 : (y + 400 * k) % 4 = y % 4 := by omega
  have h2 : (y + 400 * k) % 100 = y % 100 := by omega
  have h3 : (y + 400 * k) % 400 = y % 400 := by omega
  rw [h1, h2, h3]

theorem era_parts (e : Int) (h0 : 0 ≤ e) (h1 : e < 146097) : ∃ b a c r : Int, 0 ≤ b ∧ b ≤ 3 ∧ 0 ≤ a ∧ a ≤ 24 ∧ 0 ≤ c ∧ c ≤ 3 ∧ 0 ≤ r ∧ r ≤ 365 ∧ (r = 365 → c = 3 ∧ (a < 24 ∨ b = 3)) ∧ e = 36524 * b + 1461 * a + 365 * c + r := by
  by_cases hb : e = 146096
  · exact ⟨3, 24, 3, 365, by omega, by omega, by omega, by omega, by omega, by omega, by omega, by omega, by omega, by omega⟩
  · by_cases hc : e % 36524 % 1461 = 1460
    · exact ⟨e / 36524, e % 36524 / 1461, 3, 365, by omega, by omega, by omega, by omega, by omega, by omega, by omega, by omega, by omega, by omega⟩
    · exact ⟨e / 36524, e % 36524 / 1461, e % 36524 % 1461 / 365, e % 36524 % 1461 % 365, by omega, by omega, by omega, by omega, by omega, by omega, by omega, by omega, by omega, by omega⟩
theorem yoe_is (b a c r : Int) (hb0 : 0 ≤ b) (hb1 : b ≤ 3) (ha0 : 0 ≤ a) (ha1 : a ≤ 24) (hc0 : 0 ≤ c) (hc1 : c ≤ 3) (hr0 : 0 ≤ r) (hr1 : r ≤ 365) (hr : r = 365 → c = 3 ∧ (a < 24 ∨ b = 3)) :
    yoe (36524 * b + 1461 * a + 365 * c + r) = 100 * b + 4 * a + c := by
  unfold yoe
  generalize he : 36524 * b + 1461 * a + 365 * c + r = e
  by_cases hx : r = 365
  · obtain ⟨rfl, hy⟩ := hr hx
    subst hx
    by_cases hz : a = 24
    · have : b = 3 := by omega
      subst hz this
      have : e = 146096 := by omega
      subst this
      decide
    · have e3 : e / 146096 = 0 := by omega
      have e2 : e / 36524 = b := by omega
      have e1 : e / 1460 = 25 * b + a + 1 := by omega
      rw [e1, e2, e3]
      omega
  · have e3 : e / 146096 = 0 := by omega
    have e2 : e / 36524 = b := by omega
    have e1 : e / 1460 = 25 * b + a ∨ e / 1460 = 25 * b + a + 1 ∧ 269 ≤ r := by omega
    rw [e2, e3]
    rcases e1 with e1 | ⟨e1, _⟩ <;> rw [e1] <;> omega
theorem doy_bd (e : Int) (h0 : 0 ≤ e) (h1 : e < 146097) : 0 ≤ yoe e ∧ yoe e ≤ 399 ∧ 0 ≤ doy e ∧ doy e ≤ 364 + lp (yoe e + 1) := by
  obtain ⟨b, a, c, r, hb0, hb1, ha0, ha1, hc0, hc1, hr0, hr1, hr, rfl⟩ := era_parts e h0 h1
  have hy := yoe_is b a c r hb0 hb1 ha0 ha1 hc0 hc1 hr0 hr1 hr
  have hd : doy (36524 * b + 1461 * a + 365 * c + r) = r := by
    unfold doy
    rw [hy]
    have q4 : (100 * b + 4 * a + c) / 4 = 25 * b + a := by omega
    have q100 : (100 * b + 4 * a + c) / 100 = b := by omega
    rw [q4, q100]
    omega
  rw [hd, hy]
  refine ⟨by omega, by omega, hr0, ?_⟩
  unfold lp
  split <;> omega
theorem mp_bd (e : Int) (h0 : 0 ≤ e) (h1 : e < 146097) : 0 ≤ mp e ∧ mp e ≤ 11 := by
  have := doy_bd e h0 h1
  have := lp_01 (yoe e + 1)
  unfold mp
  omega

def eraOf (k : Int) : Int := (k + 719468) / 146097
def doeOf (k : Int) : Int := (k + 719468) % 146097
def yr (k : Int) : Int := yoe (doeOf k) + eraOf k * 400 + if mp (doeOf k) < 10 then 0 else 1
def mo (k : Int) : Int := if mp (doeOf k) < 10 then mp (doeOf k) + 3 else mp (doeOf k) - 9
def da (k : Int) : Int := doy (doeOf k) - (153 * mp (doeOf k) + 2) / 5 + 1

theorem isDay_of (k : Int) (h0 : 0 ≤ k) (h1 : k ≤ 2932896) : IsDay k (yr k) (mo k) (da k) := by
  have b0 : 0 ≤ doeOf k := by unfold doeOf; omega
  have b1 : doeOf k < 146097 := by unfold doeOf; omega
  obtain ⟨c0, c1, c2, c3⟩ := doy_bd _ b0 b1
  obtain ⟨d0, d1⟩ := mp_bd _ b0 b1
  have hE : k + 719468 = 146097 * eraOf k + doeOf k := by unfold eraOf doeOf; omega
  have hdoy : doeOf k = 365 * yoe (doeOf k) + yoe (doeOf k) / 4 - yoe (doeOf k) / 100 + doy (doeOf k) := by unfold doy; omega
  have hmp : mp (doeOf k) = (5 * doy (doeOf k) + 2) / 153 := rfl
  have key : 1 ≤ mo k ∧ mo k ≤ 12 ∧ 1 ≤ da k ∧ da k ≤ dm (yr k) (mo k) ∧ k = bef (yr k) + cum (yr k) (mo k) + (da k - 1) := by
    unfold yr mo da
    generalize mp (doeOf k) = M at *
    generalize yoe (doeOf k) = Y at *
    generalize doy (doeOf k) = D at *
    generalize eraOf k = E at *
    generalize doeOf k = e at *
    have hl1 := lp_per (Y + 1) E
    have hs := lp_step (Y + E * 400)
    have hs0 := lp_01 (Y + E * 400)
    have hs1 := lp_01 (Y + 1)
    have q4 : (Y + E * 400) / 4 = Y / 4 + 100 * E := by omega
    have q100 : (Y + E * 400) / 100 = Y / 100 + 4 * E := by omega
    have q400 : (Y + E * 400) / 400 = E := by omega
    by_cases hM : M < 10
    · rw [if_pos hM, if_pos hM]
      have hm : M = 0 ∨ M = 1 ∨ M = 2 ∨ M = 3 ∨ M = 4 ∨ M = 5 ∨ M = 6 ∨ M = 7 ∨ M = 8 ∨ M = 9 := by omega
      rw [Int.add_zero]
      unfold bef
      rcases hm with rfl | rfl | rfl | rfl | rfl | rfl | rfl | rfl | rfl | rfl <;> simp [cum, dm] <;> omega
    · rw [if_neg hM, if_neg hM]
      have hy1 : Y + E * 400 + 1 = Y + 1 + 400 * E := by omega
      rw [hy1]
      have hb := bef_step (Y + E * 400)
      rw [hy1] at hb
      rw [hb]
      have hm : M = 10 ∨ M = 11 := by omega
      unfold bef
      rcases hm with rfl | rfl <;> simp [cum, dm, hl1] <;> omega
  obtain ⟨k1, k2, k3, k4, k5⟩ := key
  have hcb := cum_bd (yr k) (mo k) k1 (by omega)
  have hcs := cum_step (yr k) (mo k) k1 k2
  have hcm := cum_mono (yr k) (show mo k + 1 ≤ 13 by omega) (by omega) (by omega)
  have hce := cum_end (yr k)
  have hbs := bef_step (yr k)
  refine ⟨?_, ?_, k1, k2, k3, k4, k5⟩
  · rcases Int.lt_or_le (yr k) 1970 with h | h
    · have := bef_mono (show yr k + 1 ≤ 1970 by omega)
      have := bef_zero
      omega
    · exact h
  · rcases Int.lt_or_le 9999 (yr k) with h | h
    · have := bef_mono (show 10000 ≤ yr k by omega)
      have := bef_end
      omega
    · exact h

/-- The day number as the document reckons it of a date. -/
def refDays (y m d : Int) : Int := if m ≤ 2 then 365 * (y - 1) + (y - 1) / 4 - (y - 1) / 100 + (y - 1) / 400 + (153 * (m + 12 - 3) + 2) / 5 + d - 1 - 719468 else 365 * y + y / 4 - y / 100 + y / 400 + (153 * (m - 3) + 2) / 5 + d - 1 - 719468
theorem refDays_eq (y m d : Int) (h0 : 1 ≤ m) (h1 : m ≤ 12) : refDays y m d = bef y + cum y m + (d - 1) := by
  have hs := lp_step y
  unfold refDays bef
  rcases twelve h0 h1 with rfl | rfl | rfl | rfl | rfl | rfl | rfl | rfl | rfl | rfl | rfl | rfl <;> simp [cum] <;> omega
/-- Four hundred years later. -/
theorem IsDay.age {k y m d : Int} (h : IsDay k y m d) (hk : k + 146097 ≤ 2932896) : IsDay (k + 146097) (y + 400) m d := by
  have hl := lp_per y 1
  have hb : bef (y + 400) = bef y + 146097 := by unfold bef; omega
  have hb1 : bef (y + 400 + 1) = bef (y + 1) + 146097 := by unfold bef; omega
  have bd := h.bd
  obtain ⟨y0, y1, m0, m1, d0, d1, e⟩ := h
  have hl' : lp (y + 400) = lp y := by simpa using hl
  have hd : dm (y + 400) m = dm y m := by unfold dm; rw [hl']
  have hc : cum (y + 400) m = cum y m := by unfold cum; rw [hl']
  refine ⟨by omega, ?_, m0, m1, d0, by rw [hd]; exact d1, by rw [hb, hc]; omega⟩
  rcases Int.lt_or_le 9999 (y + 400) with h | h
  · have := bef_mono (show 10000 ≤ y + 400 by omega)
    have := bef_end
    omega
  · exact h
end Go.Proofs.YtbmnfefpkahejaaDoor
