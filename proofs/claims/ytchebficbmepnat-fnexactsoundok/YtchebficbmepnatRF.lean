/-
  Chapter 13 of the specification by its contracts: RingPut, RingTake.
-/
import Derived.Test.YtchebficbmepnatRE
import Derived.Deep.DeepCutAuto
namespace Go.Proofs.Ytchebficbmepnat
set_option linter.unusedVariables false
set_option linter.unusedSimpArgs false
open Go.ChangeShapes Go.WideShapes Go.ChangeAt Go.RowKit Go.Sort
theorem okRing_small {cap : Int} {n : Nat} {f : Nat → Int} (h : okRing cap n f = true) : n ≤ 16 := by
  unfold okRing at h
  simp only [Bool.and_eq_true, decide_eq_true_eq] at h
  have := ((inB_iff _ _ _).1 h.2.1).2
  omega
def putC (ok : Bool) (cap : Int) : Int := if ok then cap else 0
def putN (ok ok2 : Bool) (n : Nat) : Nat := if ok2 then n + 1 else if ok then n else 0
def putF (ok ok2 : Bool) (f : Nat → Int) (n : Nat) (t r x : Int) : Nat → Int := if ok2 then put3 f n t r x else if ok then f else fun _ => 0
theorem box_keepW {w w' : World} {b g : Nat} {o : Obj} (h : w.heap[b]? = some o) (hw : Wrote (fun b _ => b = g) w w') (hd : b ≠ g) : w'.heap[b]? = some o := boxWroteR h hw (fun _ e => hd e)
/-- A ring in new memory. -/
structure RgNw (w w' : World) (v : Value) (cap : Int) (n : Nat) (f : Nat → Int) : Prop where
  ex : RgOn w' (fun b => w.heap.size ≤ b ∧ b < w'.heap.size) v cap n f
end Go.Proofs.Ytchebficbmepnat
