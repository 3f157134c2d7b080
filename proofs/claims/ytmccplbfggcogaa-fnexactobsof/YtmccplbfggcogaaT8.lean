/-
  Chapter 8 of the specification by its contracts: a tick.
-/
import Derived.Test.YtmccplbfggcogaaU8
import Derived.Test.YtmccplbfggcogaaG0
import Derived.Test.YtmccplbfggcogaaA8
import Derived.Deep.QuietTactic
import Derived.BigQuiet
import Derived.Lib.QuietBelow
namespace Go.Proofs.Ytmccplbfggcogaa
set_option linter.unusedVariables false
set_option linter.unusedSimpArgs false
open Go.ChangeShapes Go.WideShapes Go.ChangeAt Go.RowKit
/-- A list of numbers, as a value, on blocks of a kind. -/
structure ListOn (W : World) (D : Nat → Prop) (u : Value) (k : Nat) (h : Nat → Int) : Prop where
  ex : ∃ d z, u = .slice d k z ∧ SlOn W D d k h
/-- A list that is none, or one of an own block. -/
def DotsOf (W : World) (lo p : Nat) (dd : Value) (m : Nat) (g : Nat → Int) : Prop := (dd = .slice none 0 0 ∧ m = 0) ∨ ∃ q y, dd = .slice (some ⟨q, 0, none⟩) m y ∧ Row W lo q m y g ∧ p ≠ q
theorem SlOn.zero {W : World} {D : Nat → Prop} (a : Option Addr) (f : Nat → Int) : SlOn W D a 0 f := ⟨by omega, fun i hi => absurd hi (Nat.not_lt_zero _), fun b o hF => absurd hF (foot_none _ _ _), fun b o hF => absurd hF (foot_none _ _ _)⟩
theorem Row.onD {W : World} {lo g n c : Nat} {f : Nat → Int} {D : Nat → Prop} (h : Row W lo g n c f) (hd : D g) : SlOn W D (some ⟨g, 0, none⟩) n f := h.sl.mono (fun b _ e => e ▸ hd)
end Go.Proofs.Ytmccplbfggcogaa
