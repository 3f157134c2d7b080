/-
  Contracts of chapter 2's functions of the program: what an image is.
-/
import Derived.Test.YtlakoggfblaegajDoorS2
namespace Go.Proofs.YtlakoggfblaegajDoor
open Go.ChangeShapes Go.WideShapes Go.ChangeAt Go.RowKit
def allB (n : Nat) (f : Nat → Int) : Bool := decide (∀ j, j < n → inB (f j) 0 255 = true)
theorem allB_no {n j : Nat} {f : Nat → Int} (hj : j < n) (h : inB (f j) 0 255 = false) : allB n f = false := decide_eq_false (fun x => by have := x j hj; rw [h] at this; cases this)
theorem allB_yes {n : Nat} {f : Nat → Int} (h : ∀ j, j < n → inB (f j) 0 255 = true) : allB n f = true := decide_eq_true h
theorem okBank_all {f : Nat → Int} : okBank 256 f = allB 256 f := by
  unfold okBank allB
  simp
end Go.Proofs.YtlakoggfblaegajDoor
