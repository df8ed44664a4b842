/- Texts of dates: plain mathematics. Conditions: those that each states. -/
import Derived.Test.YtbmnfefpkahejaaDoorDat
import Derived.Test.YtbmnfefpkahejaaDoorVarsC
namespace Go.Proofs.YtbmnfefpkahejaaDoor

/-- A digit. -/
def dgt (k : Int) : UInt8 := UInt8.ofNat (48 + k.toNat)
theorem dgt_nat {k : Int} (h : k < 10) : (dgt k).toNat = 48 + k.toNat := by simp [dgt, UInt8.toNat_ofNat']; omega
/-- Two digits, four. -/
def two (n : Int) : List UInt8 := [dgt (n / 10 % 10), dgt (n % 10)]
def four (n : Int) : List UInt8 := two (n / 100) ++ two (n % 100)
theorem two_len (n : Int) : (two n).length = 2 := rfl
theorem four_len (n : Int) : (four n).length = 4 := rfl
/-- Zeros ahead, up to a width. -/
def pad (k : Nat) (l : List UInt8) : List UInt8 := List.replicate (k - l.length) 48 ++ l
theorem pad_more {k : Nat} {l : List UInt8} (h : l.length < k) : pad k (48 :: l) = pad k l := by
  unfold pad
  have e : k - l.length = k - (48 :: l).length + 1 := by simp; omega
  rw [e, List.replicate_succ']
  simp
theorem pad_done {k : Nat} {l : List UInt8} (h : k ≤ l.length) : pad k l = l := by
  unfold pad
  rw [show k - l.length = 0 by omega]
  rfl
theorem dec1 {n : Nat} (h : n < 10) : Lib.decDigits n = [UInt8.ofNat (48 + n)] := by rw [Lib.decDigits, dif_pos h]
theorem dec2 {n : Nat} (h0 : 10 ≤ n) (h : n < 100) : Lib.decDigits n = [UInt8.ofNat (48 + n / 10), UInt8.ofNat (48 + n % 10)] := by
  rw [Lib.decDigits, dif_neg (by omega), dec1 (by omega)]; rfl
theorem dec3 {n : Nat} (h0 : 100 ≤ n) (h : n < 1000) : Lib.decDigits n = [UInt8.ofNat (48 + n / 10 / 10), UInt8.ofNat (48 + n / 10 % 10), UInt8.ofNat (48 + n % 10)] := by
  rw [Lib.decDigits, dif_neg (by omega), dec2 (by omega) (by omega)]; rfl
theorem dec4 {n : Nat} (h0 : 1000 ≤ n) (h : n < 10000) : Lib.decDigits n = [UInt8.ofNat (48 + n / 10 / 10 / 10), UInt8.ofNat (48 + n / 10 / 10 % 10), UInt8.ofNat (48 + n / 10 % 10), UInt8.ofNat (48 + n % 10)] := by
  rw [Lib.decDigits, dif_neg (by omega), dec3 (by omega) (by omega)]; rfl
theorem pad_two {n : Nat} (h : n < 100) : pad 2 (Lib.decDigits n) = two n ∧ (Lib.decDigits n).length ≤ 2 := by
  by_cases h1 : n < 10
  · rw [dec1 h1]
    refine ⟨?_, by simp⟩
    have e1 : ((n : Int) / 10 % 10).toNat = 0 := by omega
    have e2 : ((n : Int) % 10).toNat = n := by omega
    simp [pad, two, dgt, e1, e2]
  · rw [dec2 (by omega) h]
    refine ⟨?_, by simp⟩
    have e1 : ((n : Int) / 10 % 10).toNat = n / 10 := by omega
    have e2 : ((n : Int) % 10).toNat = n % 10 := by omega
    simp [pad, two, dgt, e1, e2]
theorem pad_four {n : Nat} (h0 : 1000 ≤ n) (h : n < 10000) : pad 4 (Lib.decDigits n) = four n ∧ (Lib.decDigits n).length ≤ 4 := by
  rw [dec4 h0 h]
  refine ⟨?_, by simp⟩
  have e1 : ((n : Int) / 100 / 10 % 10).toNat = n / 10 / 10 / 10 := by omega
  have e2 : ((n : Int) / 100 % 10).toNat = n / 10 / 10 % 10 := by omega
  have e3 : ((n : Int) % 100 / 10 % 10).toNat = n / 10 % 10 := by omega
  have e4 : ((n : Int) % 100 % 10).toNat = n % 10 := by omega
  simp only [pad, four, two, dgt, e1, e2, e3, e4]
  simp

/-- A number of digits, and -1 where something else is among them. -/
def isDig (c : UInt8) : Bool := 48 ≤ c.toNat && c.toNat ≤ 57
def valOf (l : List UInt8) : Int := l.foldl (fun a c => 10 * a + ((c.toNat : Int) - 48)) 0
def numOf (l : List UInt8) : Int := if l.all isDig then valOf l else -1
theorem valOf_snoc (l : List UInt8) (c : UInt8) : valOf (l ++ [c]) = 10 * valOf l + ((c.toNat : Int) - 48) := by simp [valOf]
theorem valOf_bd : ∀ (l : List UInt8), l.all isDig = true → l.length ≤ 4 → 0 ≤ valOf l ∧ valOf l ≤ 9999
  | [], _, _ => by simp [valOf]
  | [a], h, _ => by simp [isDig] at h; simp [valOf]; omega
  | [a, b], h, _ => by simp [isDig] at h; simp [valOf]; omega
  | [a, b, c], h, _ => by simp [isDig] at h; simp [valOf]; omega
  | [a, b, c, d], h, _ => by simp [isDig] at h; simp [valOf]; omega
  | _ :: _ :: _ :: _ :: _ :: _, _, h => by simp at h
theorem numOf_bd (l : List UInt8) (h : l.length ≤ 4) : -1 ≤ numOf l ∧ numOf l ≤ 9999 := by
  unfold numOf
  split
  · have := valOf_bd l (by assumption) h; omega
  · omega
theorem isDig_dgt {k : Int} (h : k < 10) : isDig (dgt k) = true := by
  have := dgt_nat h
  simp only [isDig, Bool.and_eq_true, decide_eq_true_eq]
  omega
theorem num_two {n : Int} (h0 : 0 ≤ n) (h : n < 100) : numOf (two n) = n := by
  have a := dgt_nat (show n / 10 % 10 < 10 by omega)
  have b := dgt_nat (show n % 10 < 10 by omega)
  have ha := isDig_dgt (show n / 10 % 10 < 10 by omega)
  have hb := isDig_dgt (show n % 10 < 10 by omega)
  simp only [numOf, two, List.all_cons, List.all_nil, ha, hb, valOf, List.foldl_cons, List.foldl_nil, a, b]
  simp
  omega
theorem num_four {n : Int} (h0 : 0 ≤ n) (h : n < 10000) : numOf (four n) = n := by
  have a := dgt_nat (show n / 100 / 10 % 10 < 10 by omega)
  have b := dgt_nat (show n / 100 % 10 < 10 by omega)
  have c := dgt_nat (show n % 100 / 10 % 10 < 10 by omega)
  have d := dgt_nat (show n % 100 % 10 < 10 by omega)
  have ha := isDig_dgt (show n / 100 / 10 % 10 < 10 by omega)
  have hb := isDig_dgt (show n / 100 % 10 < 10 by omega)
  have hc := isDig_dgt (show n % 100 / 10 % 10 < 10 by omega)
  have hd := isDig_dgt (show n % 100 % 10 < 10 by omega)
  simp only [numOf, four, two, List.cons_append, List.nil_append, List.all_cons, List.all_nil, ha, hb, hc, hd, valOf, List.foldl_cons, List.foldl_nil, a, b, c, d]
  simp
  omega

/-- The place of a name in a table, and how many there are where it is in none. -/
def idx (ns : List (List UInt8)) (l : List UInt8) : Nat := ns.findIdx (· == l)
theorem idx_not {ns : List (List UInt8)} {l : List UInt8} {j : Nat} (h : j < idx ns l) : ns.getD j [] ≠ l := by
  have hl : j < ns.length := Nat.lt_of_lt_of_le h List.findIdx_le_length
  have := List.not_of_lt_findIdx h
  simpa [List.getD, hl] using this
theorem idx_is {ns : List (List UInt8)} {l : List UInt8} {j : Nat} (h : j ≤ idx ns l) (_hl : j < ns.length) (he : ns.getD j [] = l) : j = idx ns l := by
  rcases Nat.lt_or_ge j (idx ns l) with hlt | hge
  · exact absurd he (idx_not hlt)
  · omega
theorem idx_le {ns : List (List UInt8)} {l : List UInt8} : idx ns l ≤ ns.length := List.findIdx_le_length
theorem idx_at {ns : List (List UInt8)} {l : List UInt8} (h : idx ns l < ns.length) : ns.getD (idx ns l) [] = l := by
  have h0 := List.findIdx_getElem (p := (· == l)) (xs := ns) (w := h)
  have h1 : ns[idx ns l]'h = l := eq_of_beq h0
  have e : ns.getD (idx ns l) [] = ns[idx ns l]'h := by
    rw [List.getD_eq_getElem?_getD, List.getElem?_eq_getElem h]
    rfl
  rw [e, h1]

theorem wd_len : ∀ i < 7, (wdNames.getD i []).length = 3 := by decide
theorem mo_len : ∀ i < 12, (moNames.getD i []).length = 3 := by decide
theorem wd_idx : ∀ i < 7, idx wdNames (wdNames.getD i []) = i := by decide
theorem mo_idx : ∀ i < 12, idx moNames (moNames.getD i []) = i := by decide

/-- How a date is told. -/
def text (Y M D H I S W : Int) : List UInt8 :=
  wdNames.getD W.toNat [] ++ [44, 32] ++ two D ++ [32] ++ moNames.getD (M - 1).toNat [] ++ [32] ++ four Y ++ [32] ++ (two H ++ [58] ++ two I ++ [58] ++ two S) ++ [32, 71, 77, 84]
end Go.Proofs.YtbmnfefpkahejaaDoor
