/-
  The specification's memory (chapter 6) by its contracts: MemOk, Peek.
-/
import Derived.Test.YtmccplbfggcogaaC6
namespace Go.Proofs.Ytmccplbfggcogaa
set_option linter.unusedVariables false
open Go.ChangeShapes Go.WideShapes Go.ChangeAt Go.RowKit
def okRam (n : Nat) (g : Nat → Int) : Bool := decide (∀ i, i < n → inB (g i) 0 255 = true)
def okMem (m : Nat) (ln : Nat → Nat) (f : Nat → Nat → Int) (n : Nat) (g : Nat → Int) (bank : Int) : Bool := okImg m ln f && (decide (n = 512) && (inB bank 0 ((m : Int) - 1) && okRam n g))
theorem okMem_img {m : Nat} {ln : Nat → Nat} {f : Nat → Nat → Int} {n : Nat} {g : Nat → Int} {bank : Int} (h : okImg m ln f = false) : okMem m ln f n g bank = false := by unfold okMem; rw [h]; rfl
theorem okMem_len {m : Nat} {ln : Nat → Nat} {f : Nat → Nat → Int} {n : Nat} {g : Nat → Int} {bank : Int} (h : ¬ n = 512) : okMem m ln f n g bank = false := by unfold okMem; rw [decide_eq_false h]; simp
theorem okMem_bank {m : Nat} {ln : Nat → Nat} {f : Nat → Nat → Int} {n : Nat} {g : Nat → Int} {bank : Int} (h : inB bank 0 ((m : Int) - 1) = false) : okMem m ln f n g bank = false := by unfold okMem; rw [h]; simp
theorem okMem_ram {m : Nat} {ln : Nat → Nat} {f : Nat → Nat → Int} {n : Nat} {g : Nat → Int} {bank : Int} {j : Nat} (hj : j < n) (h : ¬ (0 ≤ g j ∧ g j ≤ 255)) : okMem m ln f n g bank = false := by
  have : okRam n g = false := decide_eq_false (fun x => h ((inB_iff _ _ _).1 (x j hj)))
  unfold okMem
  rw [this]
  simp
theorem okMem_yes {m : Nat} {ln : Nat → Nat} {f : Nat → Nat → Int} {n : Nat} {g : Nat → Int} {bank : Int} (h1 : okImg m ln f = true) (h2 : n = 512) (h3 : inB bank 0 ((m : Int) - 1) = true) (h4 : ∀ j, j < 512 → 0 ≤ g j ∧ g j ≤ 255) : okMem m ln f n g bank = true := by
  have : okRam n g = true := decide_eq_true (fun i hi => inB_yes (h4 i (by omega)))
  unfold okMem
  rw [h1, decide_eq_true h2, h3, this]
  rfl
theorem okMem_of {m : Nat} {ln : Nat → Nat} {f : Nat → Nat → Int} {n : Nat} {g : Nat → Int} {bank : Int} (h : okMem m ln f n g bank = true) : okImg m ln f = true ∧ n = 512 ∧ (0 ≤ bank ∧ bank ≤ (m : Int) - 1) ∧ ∀ j, j < 512 → 0 ≤ g j ∧ g j ≤ 255 := by
  unfold okMem at h
  rw [Bool.and_eq_true, Bool.and_eq_true, Bool.and_eq_true] at h
  have hn : n = 512 := of_decide_eq_true h.2.1
  have hr : ∀ i, i < n → inB (g i) 0 255 = true := of_decide_eq_true h.2.2.2
  exact ⟨h.1, hn, (inB_iff _ _ _).1 h.2.2.1, fun j hj => (inB_iff _ _ _).1 (hr j (by omega))⟩
def peekOf (m : Nat) (f : Nat → Nat → Int) (g : Nat → Int) (bank a : Int) : Int := if rgN a = 1 then g (rgP a).toNat else if rgN a = 5 then f bank.toNat (rgP a).toNat else if rgN a = 6 then f (m - 1) (rgP a).toNat else 0
theorem rg_cases (a : Int) (h0 : 0 ≤ a) (h1 : a < 65536) : (rgN a = 1 ∧ 0 ≤ rgP a ∧ rgP a < 512) ∨ (rgN a = 5 ∧ 0 ≤ rgP a ∧ rgP a < 256) ∨ (rgN a = 6 ∧ 0 ≤ rgP a ∧ rgP a < 256) ∨ (rgN a = 2 ∨ rgN a = 3 ∨ rgN a = 4 ∨ rgN a = 7) := by
  unfold rgN rgP
  repeat' split
  all_goals omega
end Go.Proofs.Ytmccplbfggcogaa
