/-
  FnExactFetch's call of the specification, whatever order its parts come in.
-/
import Derived.Test.YtdlgklibfcfaoafDoorV0
import Derived.Test.YtdlgklibfcfaoafDoorCB
import Derived.Test.YtdlgklibfcfaoafDoorU0
namespace Go.Proofs.YtdlgklibfcfaoafDoor
set_option linter.unusedVariables false
open Go.ChangeShapes Go.WideShapes Go.ChangeAt Go.RowKit
end Go.Proofs.YtdlgklibfcfaoafDoor
