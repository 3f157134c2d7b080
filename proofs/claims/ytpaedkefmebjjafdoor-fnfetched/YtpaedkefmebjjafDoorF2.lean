/-
  The program's ImageRead: a file that is an image's is read, others lead to the first fault.
-/
import Derived.Test.YtpaedkefmebjjafDoorK2
namespace Go.Proofs.YtpaedkefmebjjafDoor
open Go.ChangeShapes Go.WideShapes Go.ChangeAt Go.RowKit
structure Bytes (w : World) (a : Option Addr) (n : Nat) (f : Nat → Int) : Prop where
  row : RowOf .u8 w a n f
  len : n ≤ 1048576
  byte : ∀ i, i < n → 0 ≤ f i ∧ f i ≤ 255
def headB (n : Nat) (f : Nat → Int) : Bool := decide (6 ≤ n ∧ f 0 = 50 ∧ f 1 = 67 ∧ f 2 = 76 ∧ f 3 = 75)
def magic (j : Nat) : Int := if j = 0 then 50 else if j = 1 then 67 else if j = 2 then 76 else 75
theorem headB_no {n : Nat} {f : Nat → Int} {j : Nat} (hj : j < 4) (h : ¬ f j = magic j) : headB n f = false := decide_eq_false (fun ⟨_, h0, h1, h2, h3⟩ => h (by
  have e : j = 0 ∨ j = 1 ∨ j = 2 ∨ j = 3 := by omega
  rcases e with rfl | rfl | rfl | rfl <;> simp [magic, h0, h1, h2, h3]))
theorem headB_short {n : Nat} {f : Nat → Int} (h : n < 6) : headB n f = false := decide_eq_false (fun x => by omega)
theorem headB_yes {n : Nat} {f : Nat → Int} (h : 6 ≤ n) (g : ∀ j, j < 4 → f j = magic j) : headB n f = true := decide_eq_true ⟨h, g 0 (by omega), g 1 (by omega), g 2 (by omega), g 3 (by omega)⟩
def headC (n : Nat) (f : Nat → Int) : Int := if headB n f then 0 else 1
theorem headC_no {n : Nat} {f : Nat → Int} (h : headB n f = false) : headC n f = 1 := by simp [headC, h]
theorem headC_yes {n : Nat} {f : Nat → Int} (h : headB n f = true) : headC n f = 0 := by simp [headC, h]
def sizeC (n : Nat) (c : Int) : Int := if c < 1 ∨ 8 < c then 2 else if (n : Int) < 6 + c * 256 then 3 else if 6 + c * 256 < (n : Int) then 4 else 0
end Go.Proofs.YtpaedkefmebjjafDoor
