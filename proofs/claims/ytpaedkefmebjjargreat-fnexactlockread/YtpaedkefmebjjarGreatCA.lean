/-
  The specification's MemNew (chapter 6) by its contract.
-/
import Derived.Test.YtpaedkefmebjjarGreatC8
namespace Go.Proofs.YtpaedkefmebjjarGreat
set_option linter.unusedVariables false
open Go.ChangeShapes Go.WideShapes Go.ChangeAt Go.RowKit
end Go.Proofs.YtpaedkefmebjjarGreat
