/-
  Chapter 8 of the specification by its contracts: PpuTick.
-/
import Derived.Test.YtmccplbfggcogaaT8
namespace Go.Proofs.Ytmccplbfggcogaa
set_option linter.unusedVariables false
set_option linter.unusedSimpArgs false
open Go.ChangeShapes Go.WideShapes Go.ChangeAt Go.RowKit
/-- What PpuTick answers of any picture unit. -/
def TickedAs (ok : Bool) (w W : World) (v u : Value) (t c s ad pl : Int) (bl : Bool) (n : Nat) (f : Nat → Int) (m : Nat) (g : Nat → Int) : Prop :=
  if ok = true then Ticked w W v u (tkT t) c s ad pl (tkB t bl) n f (tkM t m) (tkG t f s pl m g) (tlM t m) g else Ticked w W v u 0 0 0 0 0 false 0 f 0 g 0 g
def TickedAsR (ok : Bool) (w W : World) (v u : Value) (t c s ad pl : Int) (bl : Bool) (n : Nat) (f : Nat → Int) (m : Nat) (g : Nat → Int) : Prop :=
  if ok = true then TickedR w W v u (tkT t) c s ad pl (tkB t bl) n f (tkM t m) (tkG t f s pl m g) (tlM t m) g else Ticked w W v u 0 0 0 0 0 false 0 f 0 g 0 g
theorem TickedAsR.as {ok : Bool} {w W : World} {v u : Value} {t c s ad pl : Int} {bl : Bool} {n : Nat} {f : Nat → Int} {m : Nat} {g : Nat → Int} (h : TickedAsR ok w W v u t c s ad pl bl n f m g) : TickedAs ok w W v u t c s ad pl bl n f m g := by
  cases ok
  · exact h
  · exact TickedR.tk h
theorem DotsOf.keep {R : Nat → Nat → Prop} {W W' : World} {lo lo' p : Nat} {dd : Value} {m : Nat} {g : Nat → Int} (h : DotsOf W lo p dd m g) (hw : Wrote R W W') (hd : ∀ b o, lo ≤ b → ¬ R b o) (hl : lo' ≤ lo) : DotsOf W' lo' p dd m g := by
  rcases h with h | ⟨q, y, e, r, hne⟩
  · exact Or.inl h
  · exact Or.inr ⟨q, y, e, (r.keep hw (fun o => hd q o r.parts.1)).mono hl, hne⟩
def tlNk (ok : Bool) (t c : Int) : Bool := if ok = true then tlN t c else false
end Go.Proofs.Ytmccplbfggcogaa
