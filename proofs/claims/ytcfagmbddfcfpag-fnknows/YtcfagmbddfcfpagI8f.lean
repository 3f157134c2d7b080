/-
  The program's picture unit (chapter 8), by its contracts: PpuNew, PpuWrite, PpuRead.
-/
import Derived.Test.YtcfagmbddfcfpagI8b
import Derived.Test.YtcfagmbddfcfpagI8e
import Derived.Test.YtcfagmbddfcfpagW8
namespace Go.Proofs.Ytcfagmbddfcfpag
set_option linter.unusedVariables false
set_option linter.unusedSimpArgs false
open Go.ChangeShapes Go.WideShapes Go.ChangeAt Go.RowKit
end Go.Proofs.Ytcfagmbddfcfpag
