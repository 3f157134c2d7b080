/-
  The program's chapter 10 by its contracts: the sound unit.
-/
import Derived.Test.YtpaedkefmebjjaqAIc
import Derived.Laws.EntriesVeiled
import Derived.Deep.RegionHeld3
namespace Go.Proofs.Ytpaedkefmebjjaq
set_option linter.unusedVariables false
set_option linter.unusedSimpArgs false
open Go.ChangeShapes Go.WideShapes Go.ChangeAt Go.RowKit Go.Sort
theorem below_drew10 {n : Nat} {u w : World} (h : Below n u w) : Below n u w.drew := ⟨h.os, h.tape, h.output, h.size, h.block⟩
end Go.Proofs.Ytpaedkefmebjjaq
