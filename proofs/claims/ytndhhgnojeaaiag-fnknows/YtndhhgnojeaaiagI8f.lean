/-
  The program's picture unit (chapter 8), by its contracts: PpuNew, PpuWrite, PpuRead.
-/
import Derived.Test.YtndhhgnojeaaiagI8b
import Derived.Test.YtndhhgnojeaaiagI8e
import Derived.Test.YtndhhgnojeaaiagW8
namespace Go.Proofs.Ytndhhgnojeaaiag
set_option linter.unusedVariables false
set_option linter.unusedSimpArgs false
open Go.ChangeShapes Go.WideShapes Go.ChangeAt Go.RowKit
end Go.Proofs.Ytndhhgnojeaaiag
