/-
  Chapter 11 by its contracts: the mirror of a pad, and the specification's functions on it.
-/
import Derived.Test.YtmccplbfggcogaaC5
import Derived.Test.YtmccplbfggcogaaS2
import Derived.Deep.DeepCutAuto
namespace Go.Proofs.Ytmccplbfggcogaa
set_option linter.unusedVariables false
set_option linter.unusedSimpArgs false
open Go.ChangeShapes Go.WideShapes Go.ChangeAt Go.RowKit
/- What is held behind a write, and the byte that is told from then on. -/
theorem toPad (w : World) (H : Bool) (S : Int) : Calls Try.prog 37 #[.agg #[.bool H, .int .i64 S]] w
    fun e w' => e = .returned (.agg #[.bool H, .int .i64 S]) ∧ Below w.heap.size w w' := by
  go_enter Try.func37, Try.ntmps37
  go_wp2
  refine bodyPost_ret (v := .agg #[.bool H, .int .i64 S]) (by simp [results, Try.results37, go_sem]) rfl ?_
  exact ⟨rfl, (((Below.refl _ _).alloc (Nat.le_refl _) _).alloc (by simp) _).alloc (by simp; omega) _⟩
theorem eqPad_same (w : World) (H : Bool) (S : Int) : Calls Try.prog 47 #[.agg #[.bool H, .int .i64 S], .agg #[.bool H, .int .i64 S]] w
    fun e w' => e = .returned (.bool true) ∧ Below w.heap.size w w' := by
  go_enter Try.func47, Try.ntmps47
  go_wp2
  go_ret
  exact ⟨rfl, ((Below.refl _ _).alloc (Nat.le_refl _) _).alloc (by simp) _⟩
end Go.Proofs.Ytmccplbfggcogaa
