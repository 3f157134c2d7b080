/-
  The specification's MemNew (chapter 6) by its contract.
-/
import Derived.Test.YtchebficbmepnanDoorC8
namespace Go.Proofs.YtchebficbmepnanDoor
set_option linter.unusedVariables false
open Go.ChangeShapes Go.WideShapes Go.ChangeAt Go.RowKit
end Go.Proofs.YtchebficbmepnanDoor
