/-
  FnExactFetch's call of the specification, whatever order its parts come in.
-/
import Derived.Test.YtcmjecgkeocabafDoorV0
import Derived.Test.YtcmjecgkeocabafDoorCB
import Derived.Test.YtcmjecgkeocabafDoorU0
namespace Go.Proofs.YtcmjecgkeocabafDoor
set_option linter.unusedVariables false
open Go.ChangeShapes Go.WideShapes Go.ChangeAt Go.RowKit
end Go.Proofs.YtcmjecgkeocabafDoor
