/-
  The specification's MemNew (chapter 6) by its contract.
-/
import Derived.Test.YtpaedkefmebjjanDoorC8
namespace Go.Proofs.YtpaedkefmebjjanDoor
set_option linter.unusedVariables false
open Go.ChangeShapes Go.WideShapes Go.ChangeAt Go.RowKit
end Go.Proofs.YtpaedkefmebjjanDoor
