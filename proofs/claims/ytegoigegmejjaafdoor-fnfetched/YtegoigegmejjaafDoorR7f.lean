/-
  FnExactFetch's call of the specification, whatever order its parts come in.
-/
import Derived.Test.YtegoigegmejjaafDoorV0
import Derived.Test.YtegoigegmejjaafDoorCB
import Derived.Test.YtegoigegmejjaafDoorU0
namespace Go.Proofs.YtegoigegmejjaafDoor
set_option linter.unusedVariables false
open Go.ChangeShapes Go.WideShapes Go.ChangeAt Go.RowKit
end Go.Proofs.YtegoigegmejjaafDoor
