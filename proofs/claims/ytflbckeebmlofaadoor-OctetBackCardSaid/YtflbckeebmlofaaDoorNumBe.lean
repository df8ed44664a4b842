/- The number that a number's bytes tell. Conditions: those that each states. -/
import Derived.Test.YtflbckeebmlofaaDoorTake
import Derived.Test.YtflbckeebmlofaaDoorHex
namespace Go.Proofs.YtflbckeebmlofaaDoor
open Go.ChangeShapes Go.WideShapes Go.ChangeAt Go.RowKit Go.Deep
set_option linter.unusedVariables false

theorem numB_be (n : Nat) : ∀ k, numB (be n k) = n % 256 ^ k
  | 0 => by simp [numB, be, Nat.mod_one]
  | k + 1 => by
    have h : ∀ (l : List UInt8) (z : Nat), l.foldl (fun a c => a * 256 + c.toNat) z = z * 256 ^ l.length + numB l := by
      intro l
      induction l with
      | nil => intro z; simp [numB]
      | cons c l ih =>
        intro z
        have e1 := ih (z * 256 + c.toNat)
        have e2 := ih (0 * 256 + c.toNat)
        simp only [List.foldl_cons, numB, List.length_cons] at *
        rw [e1, e2, Nat.pow_succ]
        simp only [Nat.add_mul, Nat.zero_mul, Nat.zero_add, Nat.mul_assoc, Nat.mul_comm (256 ^ l.length) 256]
        omega
    have e := h (be n k) (0 * 256 + (nb n k).toNat)
    rw [be_length, numB_be n k] at e
    show List.foldl _ _ (be n k) = _
    rw [e, nb_eq, Nat.zero_mul, Nat.zero_add, Nat.pow_succ, Nat.mod_mul]
    rw [Nat.mul_comm, Nat.add_comm]

end Go.Proofs.YtflbckeebmlofaaDoor
