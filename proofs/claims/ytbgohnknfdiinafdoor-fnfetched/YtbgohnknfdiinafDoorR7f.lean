/-
  FnExactFetch's call of the specification, whatever order its parts come in.
-/
import Derived.Test.YtbgohnknfdiinafDoorV0
import Derived.Test.YtbgohnknfdiinafDoorCB
import Derived.Test.YtbgohnknfdiinafDoorU0
namespace Go.Proofs.YtbgohnknfdiinafDoor
set_option linter.unusedVariables false
open Go.ChangeShapes Go.WideShapes Go.ChangeAt Go.RowKit
end Go.Proofs.YtbgohnknfdiinafDoor
