/- The document's interpreter: it ends, after at most as many steps as the program has. Conditions: those that each states. -/
import Derived.Test.YtbkjjakkihbcdaaGreatMAB
namespace Go.Proofs.YtbkjjakkihbcdaaGreat
open Go.ChangeShapes Go.WideShapes Go.ChangeAt Go.RowKit Go.Deep
set_option linter.unusedVariables false
end Go.Proofs.YtbkjjakkihbcdaaGreat
