/-
  The program's chapter 10 by its contracts: what a cycle turns, through a pointer.
-/
import Derived.Test.YtpaedkefmebjjaqAIa
namespace Go.Proofs.Ytpaedkefmebjjaq
set_option linter.unusedVariables false
set_option linter.unusedSimpArgs false
open Go.ChangeShapes Go.WideShapes Go.ChangeAt Go.RowKit Go.Sort
def beatL (L : Int) : Int := if 0 < L then L - 1 else L
def beatQ (L : Int) (S Q : Bool) : Bool := if 0 < L then Q || (decide (L - 1 = 0) && S) else Q
end Go.Proofs.Ytpaedkefmebjjaq
