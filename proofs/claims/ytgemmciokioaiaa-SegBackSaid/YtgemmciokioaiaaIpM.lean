/- A head's words, its sum, its bytes, in plain words. Conditions: those that each states. -/
import Derived.Test.YtgemmciokioaiaaIp
import Derived.Test.YtgemmciokioaiaaEy2
namespace Go.Proofs.Ytgemmciokioaiaa.Ip
open Go.ChangeShapes Go.WideShapes Go.ChangeAt Go.RowKit Go.Deep Rk Fl
set_option linter.unusedVariables false

/-- The sum of words, as a part's numbers tell it. -/
def tot (l : List UInt8) : Nat := 256 * evs l + ods l
theorem tot_wb : ∀ ws : List Nat, (∀ x ∈ ws, x ≤ 65535) → tot (wb ws) = ws.sum
  | [], _ => rfl
  | x :: r, h => by
    have ih := tot_wb r fun y hy => h y (List.mem_cons_of_mem _ hy)
    have hw := evs_word x (wb r) (h x (List.mem_cons_self ..))
    unfold tot at ih ⊢
    simp only [wb, hw.1, hw.2, List.sum_cons, ← ih]
    omega
/-- A head's words; k is its sum. -/
def hW (i t p s d n k : Nat) : List Nat := [17664, 20 + n, i, 16384, t * 256 + p, k, s / 65536, s % 65536, d / 65536, d % 65536]
/-- What is small enough. -/
structure Pk (i t p s d : Nat) : Prop where
  i : i ≤ 65535
  t : t ≤ 255
  p : p ≤ 255
  s : s ≤ 4294967295
  d : d ≤ 4294967295
theorem hW_small {i t p s d n k : Nat} (h : Pk i t p s d) (hn : n ≤ 990) (hk : k ≤ 65535) : ∀ x ∈ hW i t p s d n k, x ≤ 65535 := by
  obtain ⟨h1, h2, h3, h4, h5⟩ := h
  intro x hx
  simp only [hW, List.mem_cons, List.not_mem_nil, or_false] at hx
  rcases hx with rfl | rfl | rfl | rfl | rfl | rfl | rfl | rfl | rfl | rfl <;> omega
/-- The sum of a head. -/
def hSum (i t p s d n : Nat) : Nat := 65535 - fo (tot (wb (hW i t p s d n 0)))
/-- A head's bytes. -/
def ipHead (i t p s d n : Nat) : List UInt8 := wb (hW i t p s d n (hSum i t p s d n))
theorem hSum_le (i t p s d n : Nat) : hSum i t p s d n ≤ 65535 := by unfold hSum; omega
theorem ipHead_length (i t p s d n : Nat) : (ipHead i t p s d n).length = 20 := wb_length _
theorem fo_add_sum {S : Nat} (h : 0 < S) : fo (S + (65535 - fo S)) = 65535 := by
  unfold fo
  rw [if_neg (by omega), if_neg (by omega)]
  omega
theorem fo_good {n : Nat} : fo n = 65535 ↔ 0 < n ∧ n % 65535 = 0 := by
  unfold fo
  split <;> omega
theorem tot_head {i t p s d n : Nat} (h : Pk i t p s d) (hn : n ≤ 990) : tot (ipHead i t p s d n) = (hW i t p s d n 0).sum + hSum i t p s d n := by
  unfold ipHead
  rw [tot_wb _ (hW_small h hn (hSum_le ..))]
  simp only [hW, List.sum_cons, List.sum_nil]
  omega
theorem head_good {i t p s d n : Nat} (h : Pk i t p s d) (hn : n ≤ 990) : fo (tot (ipHead i t p s d n)) = 65535 := by
  rw [tot_head h hn]
  unfold hSum
  rw [tot_wb _ (hW_small h hn (by omega))]
  exact fo_add_sum (by simp only [hW, List.sum_cons]; omega)

theorem u8_eq {a b : UInt8} (h : a.toNat = b.toNat) : a = b := UInt8.toNat_inj.1 h
theorem be_two (a b : Nat) (ha : a ≤ 255) (hb : b ≤ 255) : be (a * 256 + b) 2 = be a 1 ++ be b 1 := by
  simp only [be, List.cons_append, List.nil_append, List.cons.injEq, and_true]
  exact ⟨u8_eq (by simp only [nb_eq]; omega), u8_eq (by simp only [nb_eq]; omega)⟩
theorem be_four (a : Nat) : be (a / 65536) 2 ++ be (a % 65536) 2 = be a 4 := by
  simp only [be, List.cons_append, List.nil_append, List.cons.injEq, and_true]
  exact ⟨u8_eq (by simp only [nb_eq]; omega), u8_eq (by simp only [nb_eq]; omega), u8_eq (by simp only [nb_eq]; omega), u8_eq (by simp only [nb_eq]; omega)⟩
/-- A head's bytes as the document writes them. -/
def dHead (i t p s d n : Nat) (k : List UInt8) : List UInt8 := [69, 0] ++ be (20 + n) 2 ++ be i 2 ++ [64, 0] ++ be t 1 ++ be p 1 ++ k ++ (be s 4 ++ be d 4)
theorem wb_hW (i t p s d n k : Nat) (h : Pk i t p s d) : wb (hW i t p s d n k) = dHead i t p s d n (be k 2) := by
  have e1 : be 17664 2 = [69, 0] := by decide
  have e2 : be 16384 2 = [64, 0] := by decide
  have e3 := be_two t p h.t h.p
  have e4 := be_four s
  have e5 := be_four d
  unfold dHead
  rw [← e4, ← e5]
  simp only [hW, wb, e1, e2, e3, List.append_assoc, List.append_nil]

theorem cutbits {c : Nat} (h : c ≤ 65535) : bits .andNot .u64 (c : Int) 16384 = 0 ↔ (c = 0 ∨ c = 16384) := by
  show IntKind.u64.wrap ((BitVec.ofInt 64 (c : Int) &&& ~~~BitVec.ofInt 64 ((16384 : Nat) : Int)).toNat : Int) = 0 ↔ _
  rw [BitVec.ofInt_natCast, BitVec.ofInt_natCast, IntKind.wrap_u64]
  constructor
  · intro h0
    have hb : (BitVec.ofNat 64 c &&& ~~~BitVec.ofNat 64 16384) = 0#64 := by
      apply BitVec.eq_of_toNat_eq
      have := (BitVec.ofNat 64 c &&& ~~~BitVec.ofNat 64 16384).isLt
      simp only [BitVec.toNat_ofNat]
      omega
    have hx : BitVec.ofNat 64 c = BitVec.ofNat 64 c &&& BitVec.ofNat 64 16384 := by
      apply BitVec.eq_of_getLsbD_eq
      intro j hj
      have hj' := congrArg (fun x => x.getLsbD j) hb
      simp only [BitVec.getLsbD_and, BitVec.getLsbD_not, BitVec.getLsbD_zero, hj, decide_true, Bool.true_and] at hj' ⊢
      revert hj'
      cases (BitVec.ofNat 64 c).getLsbD j <;> cases (BitVec.ofNat 64 16384).getLsbD j <;> simp
    have hn := congrArg BitVec.toNat hx
    rw [BitVec.toNat_and, BitVec.toNat_ofNat, BitVec.toNat_ofNat, Nat.mod_eq_of_lt (by omega), show (16384 : Nat) % 2 ^ 64 = 2 ^ 14 from by decide] at hn
    have hle : c ≤ 2 ^ 14 := by rw [hn]; exact Nat.and_le_right
    by_cases hlt : c < 2 ^ 14
    · left
      rw [hn]
      apply Nat.eq_of_testBit_eq
      intro j
      rw [Nat.testBit_and, Nat.testBit_two_pow, Nat.zero_testBit]
      by_cases hj : 14 = j
      · subst hj; rw [Nat.testBit_lt_two_pow hlt]; rfl
      · simp [hj]
    · right; omega
  · rintro (rfl | rfl) <;> decide
end Go.Proofs.Ytgemmciokioaiaa.Ip
