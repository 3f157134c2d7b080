/-
  FnExactFetch's call of the specification, whatever order its parts come in.
-/
import Derived.Test.YtbndigdplcphnafDoorV0
import Derived.Test.YtbndigdplcphnafDoorCB
import Derived.Test.YtbndigdplcphnafDoorU0
namespace Go.Proofs.YtbndigdplcphnafDoor
set_option linter.unusedVariables false
open Go.ChangeShapes Go.WideShapes Go.ChangeAt Go.RowKit
end Go.Proofs.YtbndigdplcphnafDoor
