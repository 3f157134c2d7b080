/-
  The program's Poke and MemNew (chapter 6), by their contracts.
-/
import Derived.Test.YtpaedkefmebjjanDoorI6c
namespace Go.Proofs.YtpaedkefmebjjanDoor
set_option linter.unusedVariables false
open Go.ChangeShapes Go.WideShapes Go.ChangeAt Go.RowKit
end Go.Proofs.YtpaedkefmebjjanDoor
