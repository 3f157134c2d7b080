/-
  The program's picture unit (chapter 8), by its contracts: what is written and read, through a pointer.
-/
import Derived.Test.YtpaedkefmebjjarI8c
import Derived.Test.YtpaedkefmebjjarC1
import Derived.Deep.RegionHeld3
namespace Go.Proofs.Ytpaedkefmebjjar
set_option linter.unusedVariables false
set_option linter.unusedSimpArgs false
open Go.ChangeShapes Go.WideShapes Go.ChangeAt Go.RowKit
end Go.Proofs.Ytpaedkefmebjjar
