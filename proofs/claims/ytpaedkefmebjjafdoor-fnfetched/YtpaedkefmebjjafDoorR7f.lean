/-
  FnExactFetch's call of the specification, whatever order its parts come in.
-/
import Derived.Test.YtpaedkefmebjjafDoorV0
import Derived.Test.YtpaedkefmebjjafDoorCB
import Derived.Test.YtpaedkefmebjjafDoorU0
namespace Go.Proofs.YtpaedkefmebjjafDoor
set_option linter.unusedVariables false
open Go.ChangeShapes Go.WideShapes Go.ChangeAt Go.RowKit
end Go.Proofs.YtpaedkefmebjjafDoor
