/- The program is awake (a number is formed); how deep a value is, by the program's and the document's calls. -/
import Derived.Test.YtijibjdgnaphiabDoorFew
namespace Go.Proofs.YtijibjdgnaphiabDoor
open Go.ChangeShapes Go.WideShapes Go.Deep Go.RowKit

end Go.Proofs.YtijibjdgnaphiabDoor
