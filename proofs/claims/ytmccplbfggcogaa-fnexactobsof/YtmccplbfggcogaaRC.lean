/-
  Chapter 13 of the specification by its contracts: what is a right ring.
-/
import Derived.Test.YtmccplbfggcogaaRB
import Derived.Lib.QuietBelow
import Derived.BigQuiet
import Derived.Deep.DeepCutAuto
namespace Go.Proofs.Ytmccplbfggcogaa
set_option linter.unusedVariables false
set_option linter.unusedSimpArgs false
open Go.ChangeShapes Go.WideShapes Go.ChangeAt Go.RowKit Go.Sort
/-- A right record. -/
def okRec (f : Nat → Int) (i : Nat) : Bool := inB (f (i * 3)) 0 20000 && (inB (f (i * 3 + 1)) 0 7 && inB (f (i * 3 + 2)) 0 255)
/-- Right records, up to one, in the order of their times. -/
def okUpto (f : Nat → Int) (q : Nat) : Prop := ∀ i, i < q → okRec f i = true ∧ (0 < i → f ((i - 1) * 3) ≤ f (i * 3))
instance okUptoD (f : Nat → Int) (q : Nat) : Decidable (okUpto f q) := by unfold okUpto; infer_instance
end Go.Proofs.Ytmccplbfggcogaa
