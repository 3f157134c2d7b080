/-
  The program's chapter 10 by its contracts: a cycle.
-/
import Derived.Test.YtpaedkefmebjjarGreatAIb
namespace Go.Proofs.YtpaedkefmebjjarGreat
set_option linter.unusedVariables false
set_option linter.unusedSimpArgs false
open Go.ChangeShapes Go.WideShapes Go.ChangeAt Go.RowKit Go.Sort
end Go.Proofs.YtpaedkefmebjjarGreat
