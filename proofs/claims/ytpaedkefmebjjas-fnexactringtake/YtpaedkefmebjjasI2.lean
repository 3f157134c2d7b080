/-
  Contracts of chapter 2's functions of the program: what an image is.
-/
import Derived.Test.YtpaedkefmebjjasS2
namespace Go.Proofs.Ytpaedkefmebjjas
open Go.ChangeShapes Go.WideShapes Go.ChangeAt Go.RowKit
theorem isByte (x : Int) (w : World) : Calls Try.prog 59 #[.int .i64 x] w fun e w' => e = .returned (.bool (inB x 0 255)) ∧ w' = w := by
  by_cases h : 0 ≤ x ∧ x ≤ 255
  · have e := hide (inB_yes h)
    go_enter Try.func59, Try.ntmps59
    go_wp2
    go_ret
    exact ⟨ret_bool ((by first | rfl | (simp; done) | (simp; omega) : _ = true).trans (unhide e).symm), rfl⟩
  · have e := hide (inB_no h)
    go_enter Try.func59, Try.ntmps59
    go_wp2
    go_ret
    exact ⟨ret_bool ((by simp; omega : _ = false).trans (unhide e).symm), rfl⟩
def allB (n : Nat) (f : Nat → Int) : Bool := decide (∀ j, j < n → inB (f j) 0 255 = true)
theorem allB_no {n j : Nat} {f : Nat → Int} (hj : j < n) (h : inB (f j) 0 255 = false) : allB n f = false := decide_eq_false (fun x => by have := x j hj; rw [h] at this; cases this)
theorem allB_yes {n : Nat} {f : Nat → Int} (h : ∀ j, j < n → inB (f j) 0 255 = true) : allB n f = true := decide_eq_true h
theorem okBank_all {f : Nat → Int} : okBank 256 f = allB 256 f := by
  unfold okBank allB
  simp
def isRow (n : Nat) (f : Nat → Int) (many : Int) : Bool := decide ((n : Int) = many) && allB n f
theorem isRow_no {n : Nat} {f : Nat → Int} {many : Int} (h : ¬ (n : Int) = many) : isRow n f many = false := by unfold isRow; rw [decide_eq_false h]; rfl
theorem isRow_yes {n : Nat} {f : Nat → Int} {many : Int} (h : (n : Int) = many) : isRow n f many = allB n f := by unfold isRow; rw [decide_eq_true h]; rfl
theorem okBank_isRow {n : Nat} {f : Nat → Int} : okBank n f = isRow n f 256 := by
  by_cases h : n = 256
  · subst h
    rw [isRow_yes (by rfl)]
    exact okBank_all
  · rw [isRow_no (by omega), okBank_len h]
end Go.Proofs.Ytpaedkefmebjjas
