/-
  The program's picture unit (chapter 8), by its contracts: PpuNew, PpuWrite, PpuRead.
-/
import Derived.Test.YtegoigegmejjaagI8b
import Derived.Test.YtegoigegmejjaagI8e
import Derived.Test.YtegoigegmejjaagW8
namespace Go.Proofs.Ytegoigegmejjaag
set_option linter.unusedVariables false
set_option linter.unusedSimpArgs false
open Go.ChangeShapes Go.WideShapes Go.ChangeAt Go.RowKit
end Go.Proofs.Ytegoigegmejjaag
