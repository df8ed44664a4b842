/- Package filter: a number of a packet; how many steps are left out; the document's steps as the program's. Conditions: those that each states. -/
import Derived.Test.YthnpalcjfgbjeaaGreatFlt2
namespace Go.Proofs.YthnpalcjfgbjeaaGreat
open Go.ChangeShapes Go.WideShapes Go.ChangeAt Go.RowKit Go.Deep
set_option linter.unusedVariables false
theorem joined_snoc (l : List UInt8) (b : UInt8) : joined (l ++ [b]) = bits .or .u32 (joined l * 256 % 4294967296) ((b.toNat : Int) % 4294967296) := by unfold joined; rw [List.foldl_append]; rfl
def Found (o : Option Int) (e : Ending) : Prop := e = .returned (.tuple #[.int .u32 (o.getD 0), .bool o.isSome])
end Go.Proofs.YthnpalcjfgbjeaaGreat
