/- A second's date as one fact: plain mathematics. Conditions: those that each states. -/
import Derived.Test.YtbmnfefpkahejaaDoorCal
namespace Go.Proofs.YtbmnfefpkahejaaDoor

/-- Second n is Y-M-D, H:I:S, weekday W. -/
structure Dat (n Y M D H I S W : Int) : Prop where
  n0 : 0 ≤ n
  n1 : n ≤ 253402300799
  day : IsDay (n / 86400) Y M D
  h : H = n % 86400 / 3600
  i : I = n % 86400 % 3600 / 60
  s : S = n % 86400 % 60
  w : W = (n / 86400 + 4) % 7
theorem Dat.bd {n Y M D H I S W : Int} (h : Dat n Y M D H I S W) : 1970 ≤ Y ∧ Y ≤ 9999 ∧ 1 ≤ M ∧ M ≤ 12 ∧ 1 ≤ D ∧ D ≤ 31 ∧ 0 ≤ H ∧ H ≤ 23 ∧ 0 ≤ I ∧ I ≤ 59 ∧ 0 ≤ S ∧ S ≤ 59 ∧ 0 ≤ W ∧ W ≤ 6 := by
  obtain ⟨n0, n1, ⟨y0, y1, m0, m1, d0, d1, e⟩, h, i, s, w⟩ := h
  have := dm_bd Y M
  omega
theorem Dat.kbd {n Y M D H I S W : Int} (h : Dat n Y M D H I S W) : 0 ≤ n / 86400 ∧ n / 86400 ≤ 2932896 := by have := h.n0; have := h.n1; omega
theorem dat_ex (n : Int) (h0 : 0 ≤ n) (h1 : n ≤ 253402300799) : ∃ Y M D H I S W, Dat n Y M D H I S W :=
  ⟨_, _, _, _, _, _, _, h0, h1, isDay_of (n / 86400) (by omega) (by omega), rfl, rfl, rfl, rfl⟩
theorem Dat.same {n Y M D H I S W Y' M' D' H' I' S' W' : Int} (h : Dat n Y M D H I S W) (h' : Dat n Y' M' D' H' I' S' W') : Y = Y' ∧ M = M' ∧ D = D' ∧ H = H' ∧ I = I' ∧ S = S' ∧ W = W' := by
  obtain ⟨a, b, c⟩ := h.day.same h'.day
  exact ⟨a, b, c, h.h.trans h'.h.symm, h.i.trans h'.i.symm, h.s.trans h'.s.symm, h.w.trans h'.w.symm⟩
theorem Dat.back {n Y M D H I S W : Int} (h : Dat n Y M D H I S W) : n = (bef Y + cum Y M + (D - 1)) * 86400 + (H * 3600 + I * 60 + S) := by
  have e := h.day.eq
  have := h.n0; have := h.h; have := h.i; have := h.s
  omega
theorem Dat.inj {n n' Y M D H I S W : Int} (h : Dat n Y M D H I S W) (h' : Dat n' Y M D H I S W) : n = n' := h.back.trans h'.back.symm
/-- What makes seven numbers a date. -/
def good (Y M D H I S W : Int) : Prop :=
  (1970 ≤ Y ∧ Y ≤ 9999 ∧ 1 ≤ M ∧ M ≤ 12 ∧ 1 ≤ D ∧ D ≤ dm Y M) ∧ (0 ≤ H ∧ H < 24 ∧ 0 ≤ I ∧ I < 60 ∧ 0 ≤ S ∧ S < 60) ∧ W = (bef Y + cum Y M + (D - 1) + 4) % 7
theorem dat_of {Y M D H I S W : Int} (h : good Y M D H I S W) : Dat ((bef Y + cum Y M + (D - 1)) * 86400 + (H * 3600 + I * 60 + S)) Y M D H I S W := by
  obtain ⟨⟨y0, y1, m0, m1, d0, d1⟩, ⟨h0, h1, i0, i1, s0, s1⟩, hw⟩ := h
  have hd : IsDay (bef Y + cum Y M + (D - 1)) Y M D := ⟨y0, y1, m0, m1, d0, d1, rfl⟩
  have bd := hd.bd
  subst hw
  generalize bef Y + cum Y M + (D - 1) = k at *
  have e : (k * 86400 + (H * 3600 + I * 60 + S)) / 86400 = k := by omega
  refine ⟨by omega, by omega, by rw [e]; exact hd, by omega, by omega, by omega, by omega⟩
theorem Dat.good {n Y M D H I S W : Int} (h : Dat n Y M D H I S W) : good Y M D H I S W := by
  have b := h.bd
  have w := h.w
  have e := h.day.eq
  have d := h.day.d1
  rw [e] at w
  exact ⟨⟨by omega, by omega, by omega, by omega, by omega, d⟩, ⟨by omega, by omega, by omega, by omega, by omega, by omega⟩, w⟩
/-- A second later is never an earlier date. -/
theorem Dat.next {n Y M D H I S W Y' M' D' H' I' S' W' : Int} (h : Dat n Y M D H I S W) (h' : Dat (n + 1) Y' M' D' H' I' S' W') :
    Y < Y' ∨ Y = Y' ∧ (M < M' ∨ M = M' ∧ (D < D' ∨ D = D' ∧ 3600 * H' + 60 * I' + S' = 3600 * H + 60 * I + S + 1)) := by
  have b := h.bd; have b' := h'.bd
  by_cases hk : n / 86400 < (n + 1) / 86400
  · rcases h.day.order h'.day hk with a | ⟨z, a | ⟨c, d⟩⟩
    · exact .inl a
    · exact .inr ⟨z, .inl a⟩
    · exact .inr ⟨z, .inr ⟨c, .inl d⟩⟩
  · have hk' : (n + 1) / 86400 = n / 86400 := by omega
    have hd := h'.day
    rw [hk'] at hd
    obtain ⟨rfl, rfl, rfl⟩ := h.day.same hd
    refine .inr ⟨rfl, .inr ⟨rfl, .inr ⟨rfl, ?_⟩⟩⟩
    have := h.h; have := h.i; have := h.s; have := h'.h; have := h'.i; have := h'.s; have := h.n0
    omega
/-- A day later. -/
theorem Dat.morrow {n Y M D H I S W Y' M' D' H' I' S' W' : Int} (h : Dat n Y M D H I S W) (h' : Dat (n + 86400) Y' M' D' H' I' S' W') : W' = (W + 1) % 7 ∧ H' = H ∧ I' = I := by
  have := h.h; have := h.i; have := h.w; have := h'.h; have := h'.i; have := h'.w; have := h.n0
  omega
/-- Four hundred years later. -/
theorem Dat.age {n Y M D H I S W : Int} (h : Dat n Y M D H I S W) (hn : n ≤ 240779519999) : Dat (n + 12622780800) (Y + 400) M D H I S W := by
  have e : (n + 12622780800) / 86400 = n / 86400 + 146097 := by omega
  have := h.n0
  refine ⟨by omega, by omega, by rw [e]; exact h.day.age (by omega), ?_, ?_, ?_, ?_⟩
  · have := h.h; omega
  · have := h.i; omega
  · have := h.s; omega
  · have := h.w; omega
theorem leap_age (y : Int) : lp (y + 400) = lp y := by simpa using lp_per y 1
end Go.Proofs.YtbmnfefpkahejaaDoor
