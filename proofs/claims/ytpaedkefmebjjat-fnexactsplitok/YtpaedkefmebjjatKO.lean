/-
  What is seen (Obs): sizes, copies, comparisons, marks.
-/
import Derived.Test.YtpaedkefmebjjatK0
namespace Go.Proofs.Ytpaedkefmebjjat
set_option linter.unusedVariables false
set_option linter.unusedSimpArgs false
open Go.ChangeShapes Go.WideShapes Go.ChangeAt Go.RowKit
/-- Kinds that share no block. -/
def Dis (D : Nat → Nat → Prop) : Prop := ∀ i j b, D i b → D j b → i = j
end Go.Proofs.Ytpaedkefmebjjat
