/-
  Contracts of chapter 2's functions of the program: what an image is.
-/
import Derived.Test.YteefbbnkfclllaaDoorS2
namespace Go.Proofs.YteefbbnkfclllaaDoor
open Go.ChangeShapes Go.WideShapes Go.ChangeAt Go.RowKit
def allB (n : Nat) (f : Nat → Int) : Bool := decide (∀ j, j < n → inB (f j) 0 255 = true)
theorem allB_no {n j : Nat} {f : Nat → Int} (hj : j < n) (h : inB (f j) 0 255 = false) : allB n f = false := decide_eq_false (fun x => by have := x j hj; rw [h] at this; cases this)
theorem allB_yes {n : Nat} {f : Nat → Int} (h : ∀ j, j < n → inB (f j) 0 255 = true) : allB n f = true := decide_eq_true h
theorem okBank_all {f : Nat → Int} : okBank 256 f = allB 256 f := by
  unfold okBank allB
  simp
def isRow (n : Nat) (f : Nat → Int) (many : Int) : Bool := decide ((n : Int) = many) && allB n f
theorem isRow_no {n : Nat} {f : Nat → Int} {many : Int} (h : ¬ (n : Int) = many) : isRow n f many = false := by unfold isRow; rw [decide_eq_false h]; rfl
theorem isRow_yes {n : Nat} {f : Nat → Int} {many : Int} (h : (n : Int) = many) : isRow n f many = allB n f := by unfold isRow; rw [decide_eq_true h]; rfl
theorem okBank_isRow {n : Nat} {f : Nat → Int} : okBank n f = isRow n f 256 := by
  by_cases h : n = 256
  · subst h
    rw [isRow_yes (by rfl)]
    exact okBank_all
  · rw [isRow_no (by omega), okBank_len h]
end Go.Proofs.YteefbbnkfclllaaDoor
