/-
  The program's picture unit (chapter 8), by its contracts: PpuNew, PpuWrite, PpuRead.
-/
import Derived.Test.YtbdbhidlfbfigagI8b
import Derived.Test.YtbdbhidlfbfigagI8e
import Derived.Test.YtbdbhidlfbfigagW8
namespace Go.Proofs.Ytbdbhidlfbfigag
set_option linter.unusedVariables false
set_option linter.unusedSimpArgs false
open Go.ChangeShapes Go.WideShapes Go.ChangeAt Go.RowKit
end Go.Proofs.Ytbdbhidlfbfigag
