/-
  Chapter 10: the specification's cycle, write and read of whatever sound unit.
-/
import Derived.Test.YtpaedkefmebjjatAA
namespace Go.Proofs.Ytpaedkefmebjjat
set_option linter.unusedVariables false
set_option linter.unusedSimpArgs false
open Go.ChangeShapes Go.WideShapes Go.ChangeAt Go.RowKit
theorem box_set7 {W : World} {b : Nat} {cs : Array Value} {t : TypeId} {fr : Nat × Nat} (h : W.heap[b]? = some (.cells cs t fr)) (o : Nat) (x : Value) : (W.setCell ⟨b, o, none⟩ x).heap[b]? = some (.cells (cs.setIfInBounds o x) t fr) := by
  simp [World.setCell, Array.getElem?_modify, h]
theorem okApu_of {T P C B L : Int} (h : okApu T P C B L = true) : IsApu T P C B L := (okApu_iff _ _ _ _ _).1 h
/- Whatever a cycle makes of it: seven fields, a number, a truth. -/
end Go.Proofs.Ytpaedkefmebjjat
