/-
  The specification's memory (chapter 6) by its contracts: copies, Poke, Push, Pull.
-/
import Derived.Test.YtmccplbfggcogaaC6
import Derived.Deep.RegionLaw
import Derived.Deep.RegionLawGrows
namespace Go.Proofs.Ytmccplbfggcogaa
set_option linter.unusedVariables false
open Go.ChangeShapes Go.WideShapes Go.ChangeAt Go.RowKit
theorem OwnInts.mono {w : World} {lo lo' : Nat} {v : Value} {n : Nat} {f : Nat → Int} (h : OwnInts w lo v n f) (hl : lo' ≤ lo) : OwnInts w lo' v n f := by
  obtain ⟨a, cap, hv, hn, hR, hF, hL⟩ := h
  exact ⟨a, cap, hv, hn, hR, hF, fun b o h => Nat.le_trans hl (hL b o h)⟩
end Go.Proofs.Ytmccplbfggcogaa
