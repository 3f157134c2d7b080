/-
  Contracts of the exact laws' helpers over slices of integers: sizes, copies, comparisons.
-/
import Derived.Test.YteefbbnkfclllaaDoorRows
import Derived.Test.YteefbbnkfclllaaDoorMath
import Derived.Test.YteefbbnkfclllaaDoorH
import Derived.Deep.OwnRows
namespace Go.Proofs.YteefbbnkfclllaaDoor
open Go.ChangeShapes Go.WideShapes Go.ChangeAt Go.RowKit
theorem step_if (f : Nat → Int) (k j : Nat) : (if j = k then Value.int .i64 (f k) else .int .i64 (if j < k then f j else 0)) = .int .i64 (if j < k + 1 then f j else 0) := by
  by_cases h : j = k
  · subst h; simp
  · by_cases h2 : j < k
    · rw [if_neg h, if_pos h2, if_pos (by omega)]
    · rw [if_neg h, if_neg h2, if_neg (by omega)]
def eqInts (n m : Nat) (f g : Nat → Int) : Bool := decide (n = m ∧ ∀ i, i < n → f i = g i)
theorem eqInts_ne {n m : Nat} {f g : Nat → Int} (h : ¬ n = m) : eqInts n m f g = false := decide_eq_false (fun x => h x.1)
theorem eqInts_no {n k : Nat} {f g : Nat → Int} (hk : k < n) (h : ¬ f k = g k) : eqInts n n f g = false := decide_eq_false (fun x => h (x.2 k hk))
theorem eqInts_yes {n : Nat} {f g : Nat → Int} (h : ∀ i, i < n → f i = g i) : eqInts n n f g = true := decide_eq_true ⟨rfl, h⟩
theorem eqInts_refl (n : Nat) (f : Nat → Int) : eqInts n n f f = true := eqInts_yes fun _ _ => rfl
theorem eq_snoc {k : Nat} {f g : Nat → Int} (h : ∀ j, j < k → f j = g j) (hk : f k = g k) : ∀ j, j < k + 1 → f j = g j := fun j hj => by
  by_cases e : j = k
  · rw [e]; exact hk
  · exact h j (by omega)
def szOut (left : Int) (n : Nat) : Int := if left < n then -1 else left - n
theorem szOut_no {left : Int} {n : Nat} (h : left < n) : szOut left n = -1 := if_pos h
theorem szOut_ok {left : Int} {n : Nat} (h : (n : Int) ≤ left) : szOut left n = left - n := if_neg (by omega)
theorem info3 : (Tryd.prog.info? 3).map (fun i => (i.zero, i.size, i.bytes)) = some (some (.int .i64 0), 1, 8) := by kernel_rfl
theorem infoInts : (Tryd.prog.info? 24).map (fun i => (i.zero, i.size, i.bytes)) = some (some (.slice none 0 0), 1, 24) := by kernel_rfl
structure Rows2 (w : World) (b0 m : Nat) (ln : Nat → Nat) (f : Nat → Nat → Int) : Prop where
  outer : w.rowIs b0 24 m (fun i => .slice (some ⟨b0 + 1 + i, 0, none⟩) (ln i) (ln i))
  inner : ∀ i, i < m → w.rowIs (b0 + 1 + i) 3 (ln i) (fun j => .int .i64 (f i j))
theorem step_if2 (b0 k j : Nat) (ln : Nat → Nat) : (if j = k then Value.slice (some ⟨b0 + 1 + k, 0, none⟩) (ln k) (ln k) else (if j < k then .slice (some ⟨b0 + 1 + j, 0, none⟩) (ln j) (ln j) else .slice none 0 0)) = if j < k + 1 then .slice (some ⟨b0 + 1 + j, 0, none⟩) (ln j) (ln j) else .slice none 0 0 := by
  by_cases h : j = k
  · subst h; simp
  · by_cases h2 : j < k
    · rw [if_neg h, if_pos h2, if_pos (by omega)]
    · rw [if_neg h, if_neg h2, if_neg (by omega)]
def eqIntss (m n : Nat) (ln lg : Nat → Nat) (f g : Nat → Nat → Int) : Bool := decide (m = n ∧ ∀ i, i < m → eqInts (ln i) (lg i) (f i) (g i) = true)
theorem eqIntss_ne {m n : Nat} {ln lg : Nat → Nat} {f g : Nat → Nat → Int} (h : ¬ m = n) : eqIntss m n ln lg f g = false := decide_eq_false (fun x => h x.1)
theorem eqIntss_no {n k : Nat} {ln lg : Nat → Nat} {f g : Nat → Nat → Int} (hk : k < n) (h : eqInts (ln k) (lg k) (f k) (g k) = false) : eqIntss n n ln lg f g = false :=
  decide_eq_false (fun x => by have := x.2 k hk; rw [h] at this; cases this)
theorem eqIntss_yes {n : Nat} {ln lg : Nat → Nat} {f g : Nat → Nat → Int} (h : ∀ i, i < n → eqInts (ln i) (lg i) (f i) (g i) = true) : eqIntss n n ln lg f g = true := decide_eq_true ⟨rfl, h⟩
theorem eqIntss_refl (n : Nat) (ln : Nat → Nat) (f : Nat → Nat → Int) : eqIntss n n ln ln f f = true := eqIntss_yes fun _ _ => eqInts_refl _ _
theorem eqs_snoc {k : Nat} {ln lg : Nat → Nat} {f g : Nat → Nat → Int} (h : ∀ i, i < k → eqInts (ln i) (lg i) (f i) (g i) = true) (hk : eqInts (ln k) (lg k) (f k) (g k) = true) : ∀ j, j < k + 1 → eqInts (ln j) (lg j) (f j) (g j) = true := fun j hj => by
  by_cases e : j = k
  · rw [e]; exact hk
  · exact h j (by omega)
theorem ints_drewN {k : IntKind} {w : World} {F : Nat → Nat → Prop} {v : Value} {n : Nat} {f : Nat → Int} (h : Ints k w F v n f) (d : Nat) : Ints k (w.drewN d) F v n f := h
end Go.Proofs.YteefbbnkfclllaaDoor
