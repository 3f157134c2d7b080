/-
  What the laws over a console apart start from.
-/
import Derived.Test.YtjcaligejlhjdaaGreatUB
import Derived.Deep.WholeRow
namespace Go.Proofs.YtjcaligejlhjdaaGreat
set_option linter.unusedVariables false
set_option linter.unusedSimpArgs false
open Go.ChangeShapes Go.WideShapes Go.ChangeAt Go.RowKit
theorem infoAtU {P : Program} {ty : TypeId} {n : Nat} {cs : Array Value} (h : (P.info? ty).map (·.size) = some n) (hs : cs.size = n) : (P.info? ty).map (·.size) = some cs.size := by rw [hs]; exact h
end Go.Proofs.YtjcaligejlhjdaaGreat
