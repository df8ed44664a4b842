/- The document's interpreter: it ends, after at most as many steps as the program has. Conditions: those that each states. -/
import Derived.Test.YthnpalcjfgbjeaaGreatFlt5
namespace Go.Proofs.YthnpalcjfgbjeaaGreat
open Go.ChangeShapes Go.WideShapes Go.ChangeAt Go.RowKit Go.Deep
set_option linter.unusedVariables false
def SomeNum (e : Ending) : Prop := ∃ (x : Int) (b : Bool), e = .returned (.tuple #[.int .u32 x, .bool b])
def Ended (n : Nat) (e : Ending) : Prop := ∃ (x : Int) (k : Nat), e = .returned (.tuple #[.int .u32 x, .int .i64 (k : Int)]) ∧ k ≤ n
end Go.Proofs.YthnpalcjfgbjeaaGreat
