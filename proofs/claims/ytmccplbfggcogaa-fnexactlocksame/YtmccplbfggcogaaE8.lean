/-
  Chapter 8 of the specification by its contracts: copies, dots, ticks, registers.
-/
import Derived.Test.YtmccplbfggcogaaS8
import Derived.Test.YtmccplbfggcogaaA8
import Derived.Lib.QuietBelow
namespace Go.Proofs.Ytmccplbfggcogaa
set_option linter.unusedVariables false
open Go.ChangeShapes Go.WideShapes Go.ChangeAt Go.RowKit
def dotV (f : Nat → Int) (s pl a : Int) : Int := bits .xor .i64 (f ((a % 8 + s + a / 8) % 16).toNat) pl
def dotOf (ok : Bool) (f : Nat → Int) (s pl a : Int) : Int := if ok = true ∧ 0 ≤ a ∧ a ≤ 47 then dotV f s pl a else 0
end Go.Proofs.Ytmccplbfggcogaa
