/-
  Chapter 17: what is seen, held against each other: ObsBegins, ObsSame.
-/
import Derived.Test.YtmccplbfggcogaaKO
import Derived.Test.YtmccplbfggcogaaE2
import Derived.BigQuiet
import Derived.Deep.RegionHeld3
namespace Go.Proofs.Ytmccplbfggcogaa
set_option linter.unusedVariables false
set_option linter.unusedSimpArgs false
open Go.ChangeShapes Go.WideShapes Go.ChangeAt Go.RowKit
/-- What is seen, in numbers. -/
structure ObD where
  mf : Nat
  lf : Nat → Nat
  fr : Nat → Nat → Int
  ns : Nat
  sm : Nat → Int
  nq : Nat
  rd : Nat → Int
def ObA (W : World) (D : Nat → Nat → Prop) (v : Value) (o : ObD) : Prop := ObsOn W D v o.mf o.lf o.fr o.ns o.sm o.nq o.rd
theorem ListOn.ints17 {W : World} {D : Nat → Prop} {u : Value} {n : Nat} {f : Nat → Int} (H : ListOn W D u n f) : Ints .i64 W (On D) u n f := by
  obtain ⟨d, z, rfl, h⟩ := H
  exact h.ints z
theorem ObsOn.below {W W' : World} {D : Nat → Nat → Prop} {v : Value} {mf : Nat} {lf : Nat → Nat} {fr : Nat → Nat → Int} {ns : Nat} {sm : Nat → Int} {nq : Nat} {rd : Nat → Int} (H : ObsOn W D v mf lf fr ns sm nq rd) (L : Below W.heap.size W W') : ObsOn W' D v mf lf fr ns sm nq rd := by
  obtain ⟨u5, u6, u7, rfl, h5, h6, h7⟩ := H
  exact ⟨u5, u6, u7, rfl, h5.below L, h6.below L, h7.below L⟩

end Go.Proofs.Ytmccplbfggcogaa
