/-
  The program's picture unit (chapter 8), by its contracts: PpuNew, PpuWrite, PpuRead.
-/
import Derived.Test.YtchebficbmepnagI8b
import Derived.Test.YtchebficbmepnagI8e
import Derived.Test.YtchebficbmepnagW8
namespace Go.Proofs.Ytchebficbmepnag
set_option linter.unusedVariables false
set_option linter.unusedSimpArgs false
open Go.ChangeShapes Go.WideShapes Go.ChangeAt Go.RowKit
end Go.Proofs.Ytchebficbmepnag
