/-
  Chapter 14 of the specification: SoundOk.
-/
import Derived.Test.YtpaedkefmebjjasTA
import Derived.Test.YtpaedkefmebjjasRC
import Derived.Lib.QuietBelow
import Derived.BigQuiet
namespace Go.Proofs.Ytpaedkefmebjjas
set_option linter.unusedVariables false
set_option linter.unusedSimpArgs false
open Go.ChangeShapes Go.WideShapes Go.ChangeAt Go.RowKit Go.Sort
/-- The ring's first record is not behind the time. -/
def lateOk (n : Nat) (f : Nat → Int) (t : Int) : Bool := n == 0 || decide (t ≤ f 0)
end Go.Proofs.Ytpaedkefmebjjas
