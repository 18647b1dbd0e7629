/- Whether an object is formed: what the document's answer is; and so for every value. -/
import Derived.Test.YtijibjdgnaphiabDoorFormg
import Derived.Lib.QuietBelow
import Derived.BigQuiet
namespace Go.Proofs.YtijibjdgnaphiabDoor
open Go.ChangeShapes Go.WideShapes Go.Deep Go.RowKit Go.Lib

end Go.Proofs.YtijibjdgnaphiabDoor
