/- Which floats are parts, up to 2^30; what Head tells of any part. Conditions: those that each states. -/
import Derived.Test.YtgemmciokioaiaaSgB
namespace Go.Proofs.Ytgemmciokioaiaa.Sg
open Go.ChangeShapes Go.WideShapes Go.ChangeAt Go.RowKit Go.Deep Rk Fl Gx Di
open Ip (wb vw vw_length vw_get wb_append wb_length be2 nb1 nb0 evs_word evs_snocw or16 tot tot_wb psW psW_small psW_bytes be_two be_four u8_eq)
open Ieee
set_option linter.unusedVariables false
set_option linter.unusedSimpArgs false

def le30 (x : Nat) : Bool := double.order x 4742290407621132288 == some .lt || double.order x 4742290407621132288 == some .eq
def gt30 (x : Nat) : Bool := double.order x 4742290407621132288 == some .gt
theorem read30 : double.read 4742290407621132288 = .number false (2 ^ 52) (-22) := by decide +kernel
theorem read40 : double.read 4787326403894837248 = .number false (2 ^ 52) (-12) := by decide +kernel
theorem cmp_le (u v : Int) : (some (compare u v) == some Ordering.lt || some (compare u v) == some Ordering.eq) = decide (u ≤ v) := by
  simp only [compare, compareOfLessAndEq]
  by_cases h1 : u < v
  · rw [if_pos h1, decide_eq_true (by omega)]; rfl
  · rw [if_neg h1]
    by_cases h2 : u = v
    · rw [if_pos h2, decide_eq_true (by omega)]; rfl
    · rw [if_neg h2, decide_eq_false (by omega)]; rfl
theorem le30_le40 {x : Nat} (h : le30 x = true) : le40 x = true := by
  unfold le30 Format.order at h
  unfold le40 Format.order
  rw [read30] at h
  rw [read40]
  cases hx : double.read x with
  | nan s t => rw [hx] at h; simp [Datum.order] at h
  | infinity s =>
    rw [hx] at h
    cases s
    · simp [Datum.order] at h
    · simp [Datum.order]
  | number s m p =>
    rw [hx] at h
    simp only [Datum.order, signed_eq, Bool.false_eq_true, if_false, Int.one_mul] at h ⊢
    rw [cmp_le] at h ⊢
    have h := of_decide_eq_true h
    refine decide_eq_true ?_
    cases s with
    | true =>
      simp only [if_true]
      have h1 : (0 : Int) ≤ ((m * 2 ^ (p - min p (-12)).toNat : Nat) : Int) := Int.natCast_nonneg _
      have h2 : (0 : Int) ≤ ((2 ^ 52 * 2 ^ (-12 - min p (-12)).toNat : Nat) : Int) := Int.natCast_nonneg _
      omega
    | false =>
      simp only [Bool.false_eq_true, if_false, Int.one_mul] at h ⊢
      have h := Int.ofNat_le.1 h
      refine Int.ofNat_le.2 ?_
      rcases Int.lt_or_le (-22) p with hp | hp
      · have e1 : (-22 - min p (-22)).toNat = 0 := by omega
        rw [e1, Nat.pow_zero, Nat.mul_one] at h
        have k1 : m * 1 ≤ m * 2 ^ (p - min p (-22)).toNat := Nat.mul_le_mul_left _ (Nat.two_pow_pos _)
        rcases Int.lt_or_le (-12) p with hq | hq
        · have e2 : (-12 - min p (-12)).toNat = 0 := by omega
          rw [e2, Nat.pow_zero, Nat.mul_one]
          refine Nat.le_trans (Nat.mul_le_mul_left m (Nat.pow_le_pow_right (by decide) ?_)) h
          omega
        · have e2 : (p - min p (-12)).toNat = 0 := by omega
          rw [e2, Nat.pow_zero, Nat.mul_one]
          have k2 : 2 ^ 52 * 1 ≤ 2 ^ 52 * 2 ^ (-12 - min p (-12)).toNat := Nat.mul_le_mul_left _ (Nat.two_pow_pos _)
          omega
      · have e1 : (p - min p (-22)).toNat = 0 := by omega
        have e2 : (p - min p (-12)).toNat = 0 := by omega
        rw [e1, Nat.pow_zero, Nat.mul_one] at h
        rw [e2, Nat.pow_zero, Nat.mul_one]
        exact Nat.le_trans h (Nat.mul_le_mul_left _ (Nat.pow_le_pow_right (by decide) (by omega)))
theorem not_gt30 {x : Nat} (h1 : geZ x = true) (h : gt30 x = false) : le30 x = true := by
  unfold geZ Format.order at h1
  unfold gt30 Format.order at h
  unfold le30 Format.order
  rw [read0] at h1
  rw [read30] at h ⊢
  cases hx : double.read x with
  | nan s t => rw [hx] at h1; simp [Datum.order] at h1
  | infinity s => rw [hx] at h; cases s <;> simp [Datum.order] at h ⊢
  | number s m p =>
    rw [hx] at h
    simp only [Datum.order] at h ⊢
    generalize (compare (_ : Int) (_ : Int)) = o at *
    cases o <;> simp_all
theorem gt30_le30 {x : Nat} (h : gt30 x = true) : le30 x = false := by
  unfold gt30 at h
  unfold le30
  generalize double.order x 4742290407621132288 = o at *
  have h := beq_iff_eq.1 h
  rw [h]; rfl
theorem conv_of {x : Nat} {v : Int} (h : (Ieee.double.read x).toInt .zero = some v) (h0 : -9223372036854775808 ≤ v) (h1 : v ≤ 9223372036854775807) : floatToIntVal .f64 x .i64 = some v := by
  have : (FloatKind.f64.decode x).toInt .zero = some v := h
  unfold floatToIntVal
  rw [this]
  dsimp only
  rw [if_pos ⟨h0, h1⟩]
/-- The law's tests, where neither is above 2^30: they tell what may be a part. -/
theorem may_30 {x y : Nat} (hx : gt30 x = false) (hy : gt30 y = false) : smB x y = (geZ x && le30 x && geZ y && le30 y && wholeB x && wholeB y) := by
  unfold smB
  cases h1 : geZ x with
  | false => unfold wholeB; rw [h1]; simp
  | true =>
    rw [not_gt30 h1 hx]
    cases h2 : geZ y with
    | false => unfold wholeB; rw [h2]; simp
    | true => rw [not_gt30 h2 hy]; simp

/-- The error of Head, with a part that may be or not. -/
def hdE (g m n : Int) (may : Bool) : Int := if ckR g m n = 0 then (if may then 0 else 1) else ckR g m n
theorem head_err (f t q a : Nat) (g : Int) (wi : Nat) (m : Int) (hf : f ≤ 65535) (ht : t ≤ 65535) (hq : q ≤ 4294967295) (ha : a ≤ 4294967295) (hwi : wi ≤ 65535) (A : Option Addr) (n0 c0 : Nat) (s d x y : Nat) (hs : s ≤ 4294967295) (hd : d ≤ 4294967295) (n : Int) (w : World) :
    Calls Try.prog 13 #[.agg (sgV f t q a g wi m A n0 c0), .int .u32 (s : Int), .int .u32 (d : Int), .complex .f64 x y, .int .i64 n] w fun e w' => (∃ A' n' c', e = .returned (.tuple #[.slice A' n' c', .int .i64 (hdE g m n (smB x y))])) ∧ Below w.heap.size w w' := by
  by_cases hc : ckR g m n = 0
  · have he : hdE g m n (smB x y) = if smB x y then 0 else 1 := by unfold hdE; rw [if_pos hc]
    rw [he]
    cases hm : smB x y with
    | false =>
      refine (head_nopart f t q a g wi m A n0 c0 s d x y n hc hm w).mono ?_
      rintro e w' ⟨rfl, b⟩
      exact ⟨⟨_, _, _, rfl⟩, b⟩
    | true =>
      obtain ⟨g, m, n, rfl, rfl, rfl, hg, hmm, h9⟩ := ck_ok hc
      have hx : wholeB x = true ∧ wholeB y = true := by unfold smB at hm; simpa using hm
      obtain ⟨u, hu, ru⟩ := rep_of_whole hx.1
      obtain ⟨v, hv, rv⟩ := rep_of_whole hx.2
      refine (head_ok f t q a g wi m ⟨hf, ht, hq, ha, hg, hwi, hmm⟩ A n0 c0 s d x y hs hd n h9 (fo (256 * u + v)) (fo_le _) (fun W => fold_ok x y u v W ru rv hu hv) w).mono ?_
      rintro e w' ⟨⟨b, c, rfl, _⟩, bl⟩
      exact ⟨⟨_, _, _, rfl⟩, bl⟩
  · have he : hdE g m n (smB x y) = ckR g m n := by unfold hdE; rw [if_neg hc]
    rw [he]
    refine (head_bad f t q a g wi m A n0 c0 s d x y n hc w).mono ?_
    rintro e w' ⟨rfl, b⟩
    exact ⟨⟨_, _, _, rfl⟩, b⟩
/-- Head, of the part of bytes. -/
theorem head_of (f t q a : Nat) (g : Int) (wi : Nat) (m : Int) (hf : f ≤ 65535) (ht : t ≤ 65535) (hq : q ≤ 4294967295) (ha : a ≤ 4294967295) (hwi : wi ≤ 65535) (A : Option Addr) (n0 c0 : Nat) (s d : Nat) (hs : s ≤ 4294967295) (hd : d ≤ 4294967295) (l : List UInt8) (w : World) :
    Calls Try.prog 13 #[.agg (sgV f t q a g wi m A n0 c0), .int .u32 (s : Int), .int .u32 (d : Int), .complex .f64 (fl (evs l)) (fl (ods l)), .int .i64 (l.length : Int)] w fun e w' => Tells w w' e (decide (ckR g m l.length = 0)) (sgB s d f t q a g.toNat wi m.toNat l.length (fo (tot l))) (ckR g m l.length) ∧ Below w.heap.size w w' := by
  by_cases hc : ckR g m l.length = 0
  · have hc2 := hc
    obtain ⟨g, m, n, rfl, rfl, hn, hg, hmm, h9⟩ := ck_ok hc2
    have h9 : l.length ≤ 900 := by omega
    refine (head_ok f t q a g wi m ⟨hf, ht, hq, ha, hg, hwi, hmm⟩ A n0 c0 s d _ _ hs hd l.length h9 (fo (tot l)) (fo_le _) (fun W => by
      have hle := evs_le l
      exact fold_ok _ _ (evs l) (ods l) W (read_fl (by omega)).rep (read_fl (by omega)).rep (by omega) (by omega)) w).mono ?_
    rintro e w' ⟨⟨b, c, rfl, O⟩, bl⟩
    refine ⟨.inr ⟨decide_eq_true hc, b, c, ?_, ?_⟩, bl⟩
    · rw [Int.toNat_natCast, Int.toNat_natCast, sgB_length]
    · rw [Int.toNat_natCast, Int.toNat_natCast, sgB_length]; exact O
  · refine (head_bad f t q a g wi m A n0 c0 s d _ _ _ hc w).mono ?_
    rintro e w' ⟨rfl, b⟩
    exact ⟨.inl ⟨decide_eq_false hc, rfl⟩, b⟩
end Go.Proofs.Ytgemmciokioaiaa.Sg
