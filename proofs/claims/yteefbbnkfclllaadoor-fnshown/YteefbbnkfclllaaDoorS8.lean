/-
  Chapter 8 of the specification by its contracts: the picture unit.
-/
import Derived.Test.YteefbbnkfclllaaDoorU8
import Derived.Test.YteefbbnkfclllaaDoorG0
import Derived.Deep.QuietTactic
import Derived.BigQuiet
namespace Go.Proofs.YteefbbnkfclllaaDoor
set_option linter.unusedVariables false
open Go.ChangeShapes Go.WideShapes Go.ChangeAt Go.RowKit
def dotsN (t : Int) : Int := if 48 < t % 64 then 0 else t % 64
def allIn (n : Nat) (f : Nat → Int) (lo hi : Int) : Bool := decide (∀ i, i < n → inB (f i) lo hi = true)
def okPpu (t c s ad pl : Int) (n : Nat) (f : Nat → Int) (m : Nat) (g : Nat → Int) : Bool := inB t 0 20000 && (inB c 0 255 && (inB s 0 255 && (inB ad 0 15 && (inB pl 0 63 && (decide (n = 16) && (decide ((m : Int) = dotsN t) && (allIn n f 0 63 && allIn m g 0 63)))))))
section
variable {t c s ad pl : Int} {n : Nat} {f : Nat → Int} {m : Nat} {g : Nat → Int}
theorem allIn_no {n : Nat} {f : Nat → Int} {lo hi : Int} {j : Nat} (hj : j < n) (h : ¬ (lo ≤ f j ∧ f j ≤ hi)) : allIn n f lo hi = false := decide_eq_false (fun x => h ((inB_iff _ _ _).1 (x j hj)))
theorem allIn_yes {n : Nat} {f : Nat → Int} {lo hi : Int} (h : ∀ j, j < n → lo ≤ f j ∧ f j ≤ hi) : allIn n f lo hi = true := decide_eq_true (fun i hi => inB_yes (h i hi))
theorem allIn_of {n : Nat} {f : Nat → Int} {lo hi : Int} (h : allIn n f lo hi = true) : ∀ j, j < n → lo ≤ f j ∧ f j ≤ hi := fun j hj => (inB_iff _ _ _).1 ((of_decide_eq_true h) j hj)
theorem okPpu_t (h : inB t 0 20000 = false) : okPpu t c s ad pl n f m g = false := by unfold okPpu; rw [h]; rfl
theorem okPpu_c (h : inB c 0 255 = false) : okPpu t c s ad pl n f m g = false := by unfold okPpu; rw [h]; simp
theorem okPpu_s (h : inB s 0 255 = false) : okPpu t c s ad pl n f m g = false := by unfold okPpu; rw [h]; simp
theorem okPpu_ad (h : inB ad 0 15 = false) : okPpu t c s ad pl n f m g = false := by unfold okPpu; rw [h]; simp
theorem okPpu_pl (h : inB pl 0 63 = false) : okPpu t c s ad pl n f m g = false := by unfold okPpu; rw [h]; simp
theorem okPpu_n (h : ¬ n = 16) : okPpu t c s ad pl n f m g = false := by unfold okPpu; rw [decide_eq_false h]; simp
theorem okPpu_m (h : ¬ (m : Int) = dotsN t) : okPpu t c s ad pl n f m g = false := by unfold okPpu; rw [decide_eq_false h]; simp
theorem okPpu_f {j : Nat} (hj : j < n) (h : ¬ (0 ≤ f j ∧ f j ≤ 63)) : okPpu t c s ad pl n f m g = false := by unfold okPpu; rw [allIn_no hj h]; simp
theorem okPpu_g {j : Nat} (hj : j < m) (h : ¬ (0 ≤ g j ∧ g j ≤ 63)) : okPpu t c s ad pl n f m g = false := by unfold okPpu; rw [allIn_no hj h]; simp
theorem okPpu_yes (h1 : inB t 0 20000 = true) (h2 : inB c 0 255 = true) (h3 : inB s 0 255 = true) (h4 : inB ad 0 15 = true) (h5 : inB pl 0 63 = true) (h6 : n = 16) (h7 : (m : Int) = dotsN t) (h8 : ∀ j, j < n → 0 ≤ f j ∧ f j ≤ 63) (h9 : ∀ j, j < m → 0 ≤ g j ∧ g j ≤ 63) : okPpu t c s ad pl n f m g = true := by
  unfold okPpu; rw [h1, h2, h3, h4, h5, decide_eq_true h6, decide_eq_true h7, allIn_yes h8, allIn_yes h9]; rfl
structure IsPpu (t c s ad pl : Int) (n : Nat) (f : Nat → Int) (m : Nat) (g : Nat → Int) : Prop where
  t0 : 0 ≤ t
  t1 : t ≤ 20000
  c0 : 0 ≤ c
  c1 : c ≤ 255
  s0 : 0 ≤ s
  s1 : s ≤ 255
  a0 : 0 ≤ ad
  a1 : ad ≤ 15
  p0 : 0 ≤ pl
  p1 : pl ≤ 63
  n16 : n = 16
  dots : (m : Int) = dotsN t
  tab : ∀ j, j < n → 0 ≤ f j ∧ f j ≤ 63
  dot : ∀ j, j < m → 0 ≤ g j ∧ g j ≤ 63
theorem okPpu_of (h : okPpu t c s ad pl n f m g = true) : IsPpu t c s ad pl n f m g := by
  unfold okPpu at h
  simp only [Bool.and_eq_true] at h
  obtain ⟨h1, h2, h3, h4, h5, h6, h7, h8, h9⟩ := h
  rw [inB_iff] at h1 h2 h3 h4 h5
  exact ⟨h1.1, h1.2, h2.1, h2.2, h3.1, h3.2, h4.1, h4.2, h5.1, h5.2, of_decide_eq_true h6, of_decide_eq_true h7, allIn_of h8, allIn_of h9⟩
end
end Go.Proofs.YteefbbnkfclllaaDoor
