/-
  Contracts of the exact laws' helpers that mark an answer's memory and look whether the marks are held.
-/
import Derived.Test.YteefbbnkfclllaaDoorE2
namespace Go.Proofs.YteefbbnkfclllaaDoor
open Go.ChangeShapes Go.WideShapes Go.ChangeAt Go.RowKit
theorem row_marked {kd : IntKind} {w : World} {b off n : Nat} {f : Nat → Int} {j : Nat} {x : Int} (H : RowOf kd w (some ⟨b, off, none⟩) n f) (hj : j < n) :
    RowOf kd (w.setCell ⟨b, off + j, none⟩ (.int kd x)) (some ⟨b, off, none⟩) n (fun i => if i = j then x else f i) := fun i hi => by
  obtain ⟨b', off', e, hc⟩ := H i hi
  simp only [Option.some.injEq, Addr.mk.injEq, and_true] at e
  obtain ⟨rfl, rfl⟩ := e
  refine ⟨b, off, rfl, ?_⟩
  by_cases e : i = j
  · subst e
    rw [World.cell?_setCell_same _ _ _ hc]
    simp
  · rw [World.cell?_setCell_other _ _ _ _ (by intro h; simp only [Addr.mk.injEq] at h; omega), hc]
    show _ = some (Value.int kd (if i = j then x else f i))
    rw [if_neg e]
structure Sep (w : World) (v : Value) (m : Nat) (ra : Nat → Option Addr) (ln rc : Nat → Nat) : Prop where
  outer : ∃ a cap, v = .slice a m cap ∧ m ≤ 1048576 ∧ ∀ i, i < m → ∃ b off, a = some ⟨b, off, none⟩ ∧ w.cell? ⟨b, off + i, none⟩ = some (.slice (ra i) (ln i) (rc i)) ∧ ∀ j, j < m → ¬ Foot (ra j) (ln j) b (off + i)
  free : ∀ i, i < m → Free w (Foot (ra i) (ln i))
  disj : ∀ i j, i < m → j < m → i ≠ j → ∀ b o, Foot (ra i) (ln i) b o → ¬ Foot (ra j) (ln j) b o
  small : psum ln m ≤ 1099511627776
theorem Sep.keep {w w' : World} {v : Value} {m : Nat} {ra : Nat → Option Addr} {ln rc : Nat → Nat} {R : Nat → Nat → Prop} (h : Sep w v m ra ln rc) (hw : Wrote R w w') (hd : ∀ b o, R b o → ∃ i, i < m ∧ Foot (ra i) (ln i) b o) : Sep w' v m ra ln rc := by
  obtain ⟨⟨a, cap, hv, hm, ho⟩, hf, hdj, hs⟩ := h
  refine ⟨⟨a, cap, hv, hm, fun i hi => ?_⟩, fun i hi => (hf i hi).keep hw, hdj, hs⟩
  obtain ⟨b, off, ha, hc, hn⟩ := ho i hi
  refine ⟨b, off, ha, ?_, hn⟩
  rw [hw.cell b (off + i) (block_lt_of_cell hc) (fun h => by obtain ⟨j, hj, hF⟩ := hd _ _ h; exact hn j hj hF)]
  exact hc
end Go.Proofs.YteefbbnkfclllaaDoor
