/-
  Chapter 8 of the specification by its contracts: PpuTick.
-/
import Derived.Test.YtmccplbfggcogaaT8
namespace Go.Proofs.Ytmccplbfggcogaa
set_option linter.unusedVariables false
set_option linter.unusedSimpArgs false
open Go.ChangeShapes Go.WideShapes Go.ChangeAt Go.RowKit
theorem DotsOf.keep {R : Nat → Nat → Prop} {W W' : World} {lo lo' p : Nat} {dd : Value} {m : Nat} {g : Nat → Int} (h : DotsOf W lo p dd m g) (hw : Wrote R W W') (hd : ∀ b o, lo ≤ b → ¬ R b o) (hl : lo' ≤ lo) : DotsOf W' lo' p dd m g := by
  rcases h with h | ⟨q, y, e, r, hne⟩
  · exact Or.inl h
  · exact Or.inr ⟨q, y, e, (r.keep hw (fun o => hd q o r.parts.1)).mono hl, hne⟩
end Go.Proofs.Ytmccplbfggcogaa
