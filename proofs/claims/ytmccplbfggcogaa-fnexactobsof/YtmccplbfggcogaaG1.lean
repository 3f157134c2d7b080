/-
  A rule for regions that draw, with the blocks that came in each operation's time.
-/
import Derived.Test.YtmccplbfggcogaaG0
namespace Go.Proofs.Ytmccplbfggcogaa
set_option linter.unusedVariables false
open Go.ChangeShapes Go.WideShapes Go.ChangeAt Go.RowKit
def updV (V : Nat → Value) (i : Nat) (v : Value) : Nat → Value := fun k => if k = i then v else V k
theorem updV_same (V : Nat → Value) (i : Nat) (v : Value) : updV V i v i = v := if_pos rfl
theorem updV_ne (V : Nat → Value) {i k : Nat} (v : Value) (h : k ≠ i) : updV V i v k = V k := if_neg h
section
variable {P : Program} {ops : Array Oper} {Q : Exit → Act → World → Prop}
end
end Go.Proofs.Ytmccplbfggcogaa
