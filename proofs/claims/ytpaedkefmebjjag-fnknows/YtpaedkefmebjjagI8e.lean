/-
  The program's picture unit (chapter 8), by its contracts: what is written and read, through a pointer.
-/
import Derived.Test.YtpaedkefmebjjagI8c
import Derived.Test.YtpaedkefmebjjagC1
import Derived.Deep.RegionHeld3
namespace Go.Proofs.Ytpaedkefmebjjag
set_option linter.unusedVariables false
set_option linter.unusedSimpArgs false
open Go.ChangeShapes Go.WideShapes Go.ChangeAt Go.RowKit
end Go.Proofs.Ytpaedkefmebjjag
