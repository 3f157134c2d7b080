/-
  Chapter 13 of the specification by its contracts: what is a right ring.
-/
import Derived.Test.YtndhhgnojeaaiadDoorR1
import Derived.Lib.QuietBelow
import Derived.BigQuiet
import Derived.Deep.DeepCutAuto
namespace Go.Proofs.YtndhhgnojeaaiadDoor
set_option linter.unusedVariables false
set_option linter.unusedSimpArgs false
open Go.ChangeShapes Go.WideShapes Go.ChangeAt Go.RowKit Go.Sort
theorem boxRR {W : World} {b : Nat} {cs : Array Value} {T : TypeId} (h : W.heap[b]? = some (.cells cs T (0, 0))) (d : Nat) (os : Array Obj) (j : Nat) : (grow (redrawn W d) os).cell? ⟨b, j, none⟩ = cs[j]? := boxC (((below_regrown W d os).block _ (boxLt h)).trans h) j
/-- A right record. -/
def okRec (f : Nat → Int) (i : Nat) : Bool := inB (f (i * 3)) 0 20000 && (inB (f (i * 3 + 1)) 0 7 && inB (f (i * 3 + 2)) 0 255)
/-- Right records, up to one, in the order of their times. -/
def okUpto (f : Nat → Int) (q : Nat) : Prop := ∀ i, i < q → okRec f i = true ∧ (0 < i → f ((i - 1) * 3) ≤ f (i * 3))
instance okUptoD (f : Nat → Int) (q : Nat) : Decidable (okUpto f q) := by unfold okUpto; infer_instance
def okRing (cap : Int) (n : Nat) (f : Nat → Int) : Bool := (decide (okUpto f n) && (inB cap 1 16 && decide ((n : Int) ≤ cap)))
theorem okUpto.step {f : Nat → Int} {q : Nat} (h : okUpto f q) (h1 : okRec f q = true) (h2 : 0 < q → f ((q - 1) * 3) ≤ f (q * 3)) : okUpto f (q + 1) := fun i hi => by
  by_cases e : i = q
  · subst e; exact ⟨h1, h2⟩
  · exact h i (by omega)
theorem okRing_rec {cap : Int} {n q : Nat} {f : Nat → Int} (hq : q < n) (h : okRec f q = false) : okRing cap n f = false := by
  unfold okRing
  rw [decide_eq_false (fun x => by have := (x q hq).1; rw [h] at this; cases this)]
  rfl
theorem okRing_time {cap : Int} {n r : Nat} {f : Nat → Int} (hq : r + 1 < n) (h : ¬ f (r * 3) ≤ f ((r + 1) * 3)) : okRing cap n f = false := by
  unfold okRing
  rw [decide_eq_false (fun x => h ((x (r + 1) hq).2 (by omega)))]
  rfl
theorem okRing_end {cap : Int} {n : Nat} {f : Nat → Int} (h : okUpto f n) : okRing cap n f = (inB cap 1 16 && decide ((n : Int) ≤ cap)) := by
  unfold okRing
  rw [decide_eq_true h]
  rfl
end Go.Proofs.YtndhhgnojeaaiadDoor
