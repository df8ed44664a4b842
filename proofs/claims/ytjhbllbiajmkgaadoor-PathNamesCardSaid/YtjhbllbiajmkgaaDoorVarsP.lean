/- What the rows of path's laws lay. Conditions: those that each states. -/
import Derived.Test.YtjhbllbiajmkgaaDoorPa6
import Derived.Test.YtjhbllbiajmkgaaDoorCards
import Derived.Test.YtjhbllbiajmkgaaDoorTie
import Derived.Lay
import Derived.LaidMore
import Derived.MakeChecks
import Derived.JoinedCond
import Derived.Deep.DeepHandedRow
import Derived.Stop.LaidErr
namespace Go.Proofs.YtjhbllbiajmkgaaDoor
open Go.ChangeShapes Go.WideShapes Go.ChangeAt Go.RowKit
/-- What the library's calls read. -/
def Vars (w : World) : Prop := Pt.VarsP w
theorem gSyn : Tryd.prog.globalNamed "strconv.ErrSyntax" = some 3 := by kernel_rfl
theorem gSynT : (Tryd.prog.globals[3]?).map (·.type) = some 48 := by kernel_rfl
theorem starE : "*" ++ "errors.errorString" = "*errors.errorString" := by decide
theorem rowE (u : TypeId) (h : Tryd.prog.typeName? 3 u = some "*errors.errorString") : u = 74 :=
  typeName_ptr_named (nm := "errors.errorString") (by rw [starE]; kernel_rfl) (by kernel_rfl) (by decide) u (by rw [starE]; exact h)
theorem Vars.of {W : World} (hL : laidMetH Tryd.prog Rows.pathNamesRow.laid W) : Vars W := by
  rw [MakeChecks.laidMetH_plain _ _ _ (by kernel_rfl)] at hL
  have h2 := hL.tail.tail.tail.tail.tail
  obtain ⟨a0, s0, hv, _⟩ := laid_sentinel h2 gSyn gSynT Tryd.underlying48 rowE Tryd.underlying74 Tryd.underlying76 rfl rfl Tryd.underlying9 (by kernel_rfl) (by kernel_rfl)
  refine ⟨.iface 74 (.pointer (some a0)), ?_, .inr ⟨_, _, rfl⟩⟩
  have := World.var?_cell gSyn hv 0
  simpa using this
end Go.Proofs.YtjhbllbiajmkgaaDoor
