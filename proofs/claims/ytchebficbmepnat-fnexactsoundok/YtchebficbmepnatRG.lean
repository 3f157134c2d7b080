/-
  Chapter 13 of the specification by its contracts: RingTake.
-/
import Derived.Test.YtchebficbmepnatRF
import Derived.Test.YtchebficbmepnatG1
import Derived.Deep.RegionHeld3
import Derived.Deep.DeepCutAuto
namespace Go.Proofs.Ytchebficbmepnat
set_option linter.unusedVariables false
set_option linter.unusedSimpArgs false
open Go.ChangeShapes Go.WideShapes Go.ChangeAt Go.RowKit Go.Sort
theorem RowOf.tail3 {W : World} {b off n : Nat} {f : Nat → Int} (h : RowOf .i64 W (some ⟨b, off, none⟩) (n * 3) f) (hn : 0 < n) : RowOf .i64 W (some ⟨b, off + 3, none⟩) ((n - 1) * 3) (fun i => f (i + 3)) := fun i hi => by
  obtain ⟨b', off', e, hc⟩ := h (i + 3) (by omega)
  simp only [Option.some.injEq, Addr.mk.injEq, and_true] at e
  obtain ⟨rfl, rfl⟩ := e
  exact ⟨b, off + 3, rfl, by rw [show off + 3 + i = off + (i + 3) by omega]; exact hc⟩
def takeN (ok : Bool) (n : Nat) : Nat := if ok then n - 1 else 0
def takeF (ok : Bool) (f : Nat → Int) : Nat → Int := if ok then (fun i => f (i + 3)) else fun _ => 0
end Go.Proofs.Ytchebficbmepnat
