/- What the rows of inode's laws lay: nothing of it is read. No condition. -/
import Derived.Test.YtjjoohmfeglicaaDoorIn9
import Derived.Test.YtjjoohmfeglicaaDoorCards
import Derived.Test.YtjjoohmfeglicaaDoorTie
import Derived.Lay
import Derived.LaidMore
import Derived.MakeChecks
import Derived.JoinedCond
import Derived.Deep.DeepHandedRow
import Derived.Stop.LaidErr
namespace Go.Proofs.YtjjoohmfeglicaaDoor
/-- What the library's calls read. -/
def Vars (w : World) : Prop := w = w
theorem Vars.of {W : World} {p : Prop} (_ : p) : Vars W := rfl
end Go.Proofs.YtjjoohmfeglicaaDoor
