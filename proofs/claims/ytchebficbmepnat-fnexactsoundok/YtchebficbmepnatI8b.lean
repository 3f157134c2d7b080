/-
  The program's picture unit (chapter 8), by its contracts: what is right; a copy; a dot.
-/
import Derived.Test.YtchebficbmepnatI8a
import Derived.Test.YtchebficbmepnatX8
namespace Go.Proofs.Ytchebficbmepnat
set_option linter.unusedVariables false
set_option linter.unusedSimpArgs false
open Go.ChangeShapes Go.WideShapes Go.ChangeAt Go.RowKit Go.Sort
theorem mod_in16 (x : Int) : (x == x % 16) = inB x 0 15 := by
  by_cases h : 0 ≤ x ∧ x ≤ 15
  · rw [inB_yes h]; exact beq_iff_eq.2 (by omega)
  · rw [inB_no h]; exact beq_eq_false_iff_ne.2 (by omega)
theorem mod_in64 (x : Int) : (x == x % 64) = inB x 0 63 := by
  by_cases h : 0 ≤ x ∧ x ≤ 63
  · rw [inB_yes h]; exact beq_iff_eq.2 (by omega)
  · rw [inB_no h]; exact beq_eq_false_iff_ne.2 (by omega)
theorem boxR {W : World} {b : Nat} {cs : Array Value} {T : TypeId} (h : W.heap[b]? = some (.cells cs T (0, 0))) (d : Nat) (os : Array Obj) (j : Nat) : (grow (redrawn W d) os).cell? ⟨b, j, none⟩ = cs[j]? := boxC (((below_regrown W d os).block _ (boxLt h)).trans h) j
end Go.Proofs.Ytchebficbmepnat
