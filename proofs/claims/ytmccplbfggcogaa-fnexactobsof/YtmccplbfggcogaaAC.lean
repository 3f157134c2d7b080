/-
  Chapter 10: the specification's cycle, write and read of whatever sound unit.
-/
import Derived.Test.YtmccplbfggcogaaAA
namespace Go.Proofs.Ytmccplbfggcogaa
set_option linter.unusedVariables false
set_option linter.unusedSimpArgs false
open Go.ChangeShapes Go.WideShapes Go.ChangeAt Go.RowKit
theorem box_set7 {W : World} {b : Nat} {cs : Array Value} {t : TypeId} {fr : Nat × Nat} (h : W.heap[b]? = some (.cells cs t fr)) (o : Nat) (x : Value) : (W.setCell ⟨b, o, none⟩ x).heap[b]? = some (.cells (cs.setIfInBounds o x) t fr) := by
  simp [World.setCell, Array.getElem?_modify, h]
/- Whatever a cycle makes of it: seven fields, a number, a truth. -/
end Go.Proofs.Ytmccplbfggcogaa
