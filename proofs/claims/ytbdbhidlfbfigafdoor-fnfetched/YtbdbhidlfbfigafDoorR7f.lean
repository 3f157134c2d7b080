/-
  FnExactFetch's call of the specification, whatever order its parts come in.
-/
import Derived.Test.YtbdbhidlfbfigafDoorV0
import Derived.Test.YtbdbhidlfbfigafDoorCB
import Derived.Test.YtbdbhidlfbfigafDoorU0
namespace Go.Proofs.YtbdbhidlfbfigafDoor
set_option linter.unusedVariables false
open Go.ChangeShapes Go.WideShapes Go.ChangeAt Go.RowKit
end Go.Proofs.YtbdbhidlfbfigafDoor
