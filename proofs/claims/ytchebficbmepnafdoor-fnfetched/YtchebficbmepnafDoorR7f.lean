/-
  FnExactFetch's call of the specification, whatever order its parts come in.
-/
import Derived.Test.YtchebficbmepnafDoorV0
import Derived.Test.YtchebficbmepnafDoorCB
import Derived.Test.YtchebficbmepnafDoorU0
namespace Go.Proofs.YtchebficbmepnafDoor
set_option linter.unusedVariables false
open Go.ChangeShapes Go.WideShapes Go.ChangeAt Go.RowKit
end Go.Proofs.YtchebficbmepnafDoor
