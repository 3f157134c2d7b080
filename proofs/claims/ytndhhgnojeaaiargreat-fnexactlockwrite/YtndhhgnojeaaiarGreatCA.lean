/-
  The specification's MemNew (chapter 6) by its contract.
-/
import Derived.Test.YtndhhgnojeaaiarGreatC8
namespace Go.Proofs.YtndhhgnojeaaiarGreat
set_option linter.unusedVariables false
open Go.ChangeShapes Go.WideShapes Go.ChangeAt Go.RowKit
end Go.Proofs.YtndhhgnojeaaiarGreat
