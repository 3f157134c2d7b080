/-
  FnExactFetch's call of the specification, whatever order its parts come in.
-/
import Derived.Test.YtndhhgnojeaaiafDoorV0
import Derived.Test.YtndhhgnojeaaiafDoorCB
import Derived.Test.YtndhhgnojeaaiafDoorU0
namespace Go.Proofs.YtndhhgnojeaaiafDoor
set_option linter.unusedVariables false
open Go.ChangeShapes Go.WideShapes Go.ChangeAt Go.RowKit
end Go.Proofs.YtndhhgnojeaaiafDoor
