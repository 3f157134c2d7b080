/-
  Chapter 14 of the specification: SoundOk.
-/
import Derived.Test.YtchebficbmepnasTA
import Derived.Test.YtchebficbmepnasRC
import Derived.Lib.QuietBelow
import Derived.BigQuiet
namespace Go.Proofs.Ytchebficbmepnas
set_option linter.unusedVariables false
set_option linter.unusedSimpArgs false
open Go.ChangeShapes Go.WideShapes Go.ChangeAt Go.RowKit Go.Sort
/-- The ring's first record is not behind the time. -/
def lateOk (n : Nat) (f : Nat → Int) (t : Int) : Bool := n == 0 || decide (t ≤ f 0)
def okSn (d : SnD) : Bool := okApu d.T d.P d.C d.B d.L && (okRing d.cap d.n d.f && (lateOk d.n d.f d.T && ((d.ns : Int) == d.T / 16)))
end Go.Proofs.Ytchebficbmepnas
