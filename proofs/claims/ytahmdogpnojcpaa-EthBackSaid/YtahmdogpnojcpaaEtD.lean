/- There and back: what is built is parsed (layer 14), in plain words. Conditions: those that each states. -/
import Derived.Test.YtahmdogpnojcpaaEtC
namespace Go.Proofs.Ytahmdogpnojcpaa.Et
open Go.ChangeShapes Go.WideShapes Go.ChangeAt Go.RowKit Go.Deep Rk Es Di
set_option linter.unusedVariables false
set_option linter.unusedSimpArgs false

theorem be_snoc (n : Nat) : ∀ k, numB (be n k) = n % 256 ^ k
  | 0 => by simp [numB, be, Nat.mod_one]
  | k + 1 => by
    have h : ∀ (l : List UInt8) (z : Nat), l.foldl (fun a c => a * 256 + c.toNat) z = z * 256 ^ l.length + numB l := by
      intro l
      induction l with
      | nil => intro z; simp [numB]
      | cons c l ih =>
        intro z
        have e1 := ih (z * 256 + c.toNat)
        have e2 := ih (0 * 256 + c.toNat)
        simp only [List.foldl_cons, numB, List.length_cons] at *
        rw [e1, e2, Nat.pow_succ]
        simp only [Nat.add_mul, Nat.zero_mul, Nat.zero_add, Nat.mul_assoc, Nat.mul_comm (256 ^ l.length) 256]
        omega
    have e := h (be n k) (0 * 256 + (nb n k).toNat)
    rw [be_length, be_snoc n k] at e
    show List.foldl _ _ (be n k) = _
    rw [e, nb_eq, Nat.zero_mul, Nat.zero_add, Nat.pow_succ, Nat.mod_mul]
    rw [Nat.mul_comm, Nat.add_comm]

theorem numB_be {n k : Nat} (h : n < 256 ^ k) : numB (be n k) = n := by rw [be_snoc, Nat.mod_eq_of_lt h]
theorem at2_mid (a r : List UInt8) {n k i : Nat} (h : n < 256 ^ k) (hi : a.length = i) : at2 (a ++ (be n k ++ r)) i k = n := by
  unfold at2
  rw [← hi, List.drop_left, List.take_append_of_le_length (by rw [be_length]; exact Nat.le_refl _), List.take_of_length_le (by rw [be_length]; exact Nat.le_refl _), numB_be h]
theorem ar_back {o : Int} {m i m' i' : Nat} (hi : i ≤ 4294967295) (hi' : i' ≤ 4294967295) (h : arMay o m m' = true) :
    arOk (arL o m i m' i') = true ∧ arOp (arL o m i m' i') = o ∧ at2 (arL o m i m' i') 8 6 = m ∧ at2 (arL o m i m' i') 14 4 = i ∧ at2 (arL o m i m' i') 18 6 = m' ∧ at2 (arL o m i m' i') 24 4 = i' := by
  unfold arMay at h
  simp only [Bool.and_eq_true, decide_eq_true_eq] at h
  obtain ⟨ho, hm, hm'⟩ := h
  have k6 : at2 (arL o m i m' i') 6 2 = o.toNat := at2_mid arHead _ (by simp; omega) rfl
  have e8 : arL o m i m' i' = (arHead ++ be o.toNat 2) ++ (be m 6 ++ (be i 4 ++ (be m' 6 ++ be i' 4))) := by simp [arL]
  have e14 : arL o m i m' i' = (arHead ++ be o.toNat 2 ++ be m 6) ++ (be i 4 ++ (be m' 6 ++ be i' 4)) := by simp [arL]
  have e18 : arL o m i m' i' = (arHead ++ be o.toNat 2 ++ be m 6 ++ be i 4) ++ (be m' 6 ++ be i' 4) := by simp [arL]
  have e24 : arL o m i m' i' = (arHead ++ be o.toNat 2 ++ be m 6 ++ be i 4 ++ be m' 6) ++ (be i' 4 ++ []) := by simp [arL]
  have hop : arOp (arL o m i m' i') = o := by unfold arOp; rw [k6]; omega
  refine ⟨?_, hop, ?_, ?_, ?_, ?_⟩
  · unfold arOk
    rw [hop, arL_length]
    have ht : (arL o m i m' i').take 6 = arHead := by unfold arL; exact List.take_left' rfl
    rw [decide_eq_true ht, decide_eq_true ho]; rfl
  · rw [e8]; exact at2_mid _ _ hm (by simp [arHead, be_length])
  · rw [e14]; exact at2_mid _ _ (by simp; omega) (by simp [arHead, be_length])
  · rw [e18]; exact at2_mid _ _ hm' (by simp [arHead, be_length])
  · rw [e24]; exact at2_mid _ _ (by simp; omega) (by simp [arHead, be_length])
theorem pk_back {t f y : Nat} {l : List UInt8} (hy : y ≤ 65535) (h : pkMay t f l.length = true) :
    parErr (headL t f y ++ l).length = 0 ∧ numB ((headL t f y ++ l).take 6) = t ∧ numB (((headL t f y ++ l).drop 6).take 6) = f ∧ numB (((headL t f y ++ l).drop 12).take 2) = y ∧ (headL t f y ++ l).drop 14 = l := by
  unfold pkMay headMay at h
  simp only [Bool.and_eq_true, decide_eq_true_eq] at h
  obtain ⟨⟨ht, hf⟩, hl⟩ := h
  have e0 : headL t f y ++ l = [] ++ (be t 6 ++ (be f 6 ++ (be y 2 ++ l))) := by simp [headL]
  have e6 : headL t f y ++ l = be t 6 ++ (be f 6 ++ (be y 2 ++ l)) := by simp [headL]
  have e12 : headL t f y ++ l = (be t 6 ++ be f 6) ++ (be y 2 ++ l) := by simp [headL]
  refine ⟨?_, ?_, ?_, ?_, ?_⟩
  · rw [List.length_append, headL_length]; unfold parErr; rw [if_neg (by omega), if_neg (by omega)]
  · have := at2_mid [] (be f 6 ++ (be y 2 ++ l)) ht rfl (i := 0); rw [e0]; exact this
  · rw [e6]; exact at2_mid _ _ hf (by simp [be_length])
  · rw [e12]; exact at2_mid _ _ (by simp; omega) (by simp [be_length])
  · exact List.drop_left' (headL_length t f y)
end Go.Proofs.Ytahmdogpnojcpaa.Et
