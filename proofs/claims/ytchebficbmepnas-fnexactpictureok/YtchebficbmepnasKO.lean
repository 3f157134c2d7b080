/-
  What is seen (Obs): sizes, copies, comparisons, marks.
-/
import Derived.Test.YtchebficbmepnasK0
namespace Go.Proofs.Ytchebficbmepnas
set_option linter.unusedVariables false
set_option linter.unusedSimpArgs false
open Go.ChangeShapes Go.WideShapes Go.ChangeAt Go.RowKit
/-- What is seen, on blocks of three kinds. -/
structure ObsOn (W : World) (D : Nat → Nat → Prop) (v : Value) (mf : Nat) (lf : Nat → Nat) (fr : Nat → Nat → Int) (ns : Nat) (sm : Nat → Int) (nq : Nat) (rd : Nat → Int) : Prop where
  ex : ∃ u5 u6 u7, v = .agg #[u5, u6, u7] ∧ SsOn W (D 4) u5 mf lf fr ∧ ListOn W (D 5) u6 ns sm ∧ ListOn W (D 6) u7 nq rd
/-- Kinds that share no block. -/
def Dis (D : Nat → Nat → Prop) : Prop := ∀ i j b, D i b → D j b → i = j
end Go.Proofs.Ytchebficbmepnas
