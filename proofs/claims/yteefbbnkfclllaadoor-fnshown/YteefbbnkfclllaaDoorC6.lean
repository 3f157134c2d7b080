/-
  Chapter 6 by its contracts: the mirror of a memory: sizes, copies, comparisons, marks.
-/
import Derived.Test.YteefbbnkfclllaaDoorC5
import Derived.Test.YteefbbnkfclllaaDoorB2
import Derived.Lib.Builder
import Derived.Deep.RegionWith
import Derived.Deep.DeepCutAuto
namespace Go.Proofs.YteefbbnkfclllaaDoor
set_option linter.unusedVariables false
open Go.ChangeShapes Go.WideShapes Go.ChangeAt Go.RowKit
def rgN (a : Int) : Int := if a < 8192 then 1 else if a < 16384 then 2 else if a < 16388 then 3 else if a = 16406 then 4 else if a < 32768 then 7 else if a < 49152 then 5 else 6
def rgP (a : Int) : Int := if a < 8192 then a % 512 else if a < 16384 then a % 8 else if a < 16388 then a % 4 else if a = 16406 then 0 else if a < 32768 then 0 else a % 256
end Go.Proofs.YteefbbnkfclllaaDoor
