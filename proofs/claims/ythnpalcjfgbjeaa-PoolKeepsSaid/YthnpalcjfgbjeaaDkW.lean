/- What is seen behind a Write and a settling; the cells of an act. Conditions: those that each states. -/
import Derived.Test.YthnpalcjfgbjeaaDkA
namespace Go.Proofs.Ythnpalcjfgbjeaa
open Go.ChangeShapes Go.WideShapes Go.ChangeAt Go.RowKit Go.Deep Di
set_option linter.unusedVariables false

theorem see_laid (d : Dk) (b b' : Nat) (s : List UInt8) : see (laid d b s) b' = if b = b' then s else see d b' := by
  unfold see
  show seen (d.line ++ [⟨b, s⟩]) b' _ = _
  rw [seen_append]
  rfl
theorem see_settle {d : Dk} (b : Nat) (hb : b < d.blocks.length) : see (settleR d d.line.length) b = see d b := by
  unfold see
  show seen [] b ((put d.blocks (d.line.take d.line.length)).getD b []) = _
  rw [List.take_length, put_get _ _ _ hb]
  rfl
theorem text_back (s : ByteArray) : (⟨s.data.toList.toArray⟩ : ByteArray) = s := by simp

end Go.Proofs.Ythnpalcjfgbjeaa
