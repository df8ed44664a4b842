/- Generic steps: texts put together in a drawing region; bytes of a text by place. Conditions: those that each states. -/
import Derived.Test.YtgemmciokioaiaaGx
import Derived.Laws.Concat
namespace Go.Proofs.Ytgemmciokioaiaa.Gx
open Go.ChangeShapes Go.WideShapes Go.ChangeAt Go.RowKit Go.Deep Rk
set_option linter.unusedVariables false

/-- Two texts put together. -/
theorem exec_cat {P : Program} {a : Act} {o : Oper} {t t' : TypeId} {x y : Operand} {l r : List UInt8} (ho : o.op = .binOp .add t x y t') (hx : a.eval x = .string ⟨l.toArray⟩) (hy : a.eval y = .string ⟨r.toArray⟩) (h : l.length + r.length ≤ 9223372036854775807) (w : World) :
    (execOp a.eval o).run P w = .ok (.value (.string ⟨(l ++ r).toArray⟩)) w := by
  have hs := run_string_add_sum (P := P) (w := w) ⟨l.toArray⟩ ⟨r.toArray⟩ h
  have e : (⟨l.toArray⟩ : ByteArray) ++ ⟨r.toArray⟩ = ⟨(l ++ r).toArray⟩ := by rw [ByteArray.mk_append_mk]
  rw [e] at hs
  unfold execOp
  simp only [ho, hx, hy, binOp_string_add]
  simp [eqGuard, hs, go_sem]
end Go.Proofs.Ytgemmciokioaiaa.Gx
