/-
  The program's picture unit (chapter 8), by its contracts: PpuNew, PpuWrite, PpuRead.
-/
import Derived.Test.YtpaedkefmebjjagI8b
import Derived.Test.YtpaedkefmebjjagI8e
import Derived.Test.YtpaedkefmebjjagW8
namespace Go.Proofs.Ytpaedkefmebjjag
set_option linter.unusedVariables false
set_option linter.unusedSimpArgs false
open Go.ChangeShapes Go.WideShapes Go.ChangeAt Go.RowKit
end Go.Proofs.Ytpaedkefmebjjag
