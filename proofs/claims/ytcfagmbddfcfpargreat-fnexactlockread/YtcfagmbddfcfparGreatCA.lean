/-
  The specification's MemNew (chapter 6) by its contract.
-/
import Derived.Test.YtcfagmbddfcfparGreatC8
namespace Go.Proofs.YtcfagmbddfcfparGreat
set_option linter.unusedVariables false
open Go.ChangeShapes Go.WideShapes Go.ChangeAt Go.RowKit
end Go.Proofs.YtcfagmbddfcfparGreat
