/-
  Chapter 8 of the specification by its contracts: what is read, and a tick.
-/
import Derived.Test.YtmccplbfggcogaaF8
namespace Go.Proofs.Ytmccplbfggcogaa
set_option linter.unusedVariables false
set_option linter.unusedSimpArgs false
open Go.ChangeShapes Go.WideShapes Go.ChangeAt Go.RowKit
theorem put8_ne' (w : World) (d : Nat) (v0 v1 v2 v3 v4 v5 v6 v7 : Value) {b o : Nat} (h : b ≠ d) : ((((((((w.setCell ⟨d, 0, none⟩ (v0)).setCell ⟨d, 1, none⟩ (v1)).setCell ⟨d, 2, none⟩ (v2)).setCell ⟨d, 3, none⟩ (v3)).setCell ⟨d, 4, none⟩ (v4)).setCell ⟨d, 5, none⟩ (v5)).setCell ⟨d, 6, none⟩ (v6)).setCell ⟨d, 7, none⟩ (v7)).cell? ⟨b, o, none⟩ = w.cell? ⟨b, o, none⟩ := by
  have e : ∀ (W : World) (k : Nat) (v : Value), (W.setCell ⟨d, k, none⟩ v).cell? ⟨b, o, none⟩ = W.cell? ⟨b, o, none⟩ := fun W k v => World.cell?_setCell_other _ _ _ _ (fun e => h (congrArg Addr.block e).symm)
  rw [e, e, e, e, e, e, e, e]
theorem put8_wrote (W : World) (d : Nat) (v0 v1 v2 v3 v4 v5 v6 v7 : Value) : Wrote (fun b _ => b = d) W ((((((((W.setCell ⟨d, 0, none⟩ v0).setCell ⟨d, 1, none⟩ v1).setCell ⟨d, 2, none⟩ v2).setCell ⟨d, 3, none⟩ v3).setCell ⟨d, 4, none⟩ v4).setCell ⟨d, 5, none⟩ v5).setCell ⟨d, 6, none⟩ v6).setCell ⟨d, 7, none⟩ v7) :=
  Wrote.setCell (Wrote.setCell (Wrote.setCell (Wrote.setCell (Wrote.setCell (Wrote.setCell (Wrote.setCell (Wrote.setCell (Wrote.refl (fun b _ => b = d) W) (fun _ => rfl) _) (fun _ => rfl) _) (fun _ => rfl) _) (fun _ => rfl) _) (fun _ => rfl) _) (fun _ => rfl) _) (fun _ => rfl) _) (fun _ => rfl) _
theorem put8_box {W : World} {d : Nat} {T : TypeId} {u0 u1 u2 u3 u4 u5 u6 u7 : Value} (h : W.heap[d]? = some (.cells #[u0, u1, u2, u3, u4, u5, u6, u7] T (0, 0))) (v0 v1 v2 v3 v4 v5 v6 v7 : Value) : ((((((((W.setCell ⟨d, 0, none⟩ v0).setCell ⟨d, 1, none⟩ v1).setCell ⟨d, 2, none⟩ v2).setCell ⟨d, 3, none⟩ v3).setCell ⟨d, 4, none⟩ v4).setCell ⟨d, 5, none⟩ v5).setCell ⟨d, 6, none⟩ v6).setCell ⟨d, 7, none⟩ v7).heap[d]? = some (.cells #[v0, v1, v2, v3, v4, v5, v6, v7] T (0, 0)) := by
  have h0 := box_set (o := 0) h v0
  simp only [List.setIfInBounds_toArray, List.set_cons_zero, List.set_cons_succ] at h0
  have h1 := box_set (o := 1) h0 v1
  simp only [List.setIfInBounds_toArray, List.set_cons_zero, List.set_cons_succ] at h1
  have h2 := box_set (o := 2) h1 v2
  simp only [List.setIfInBounds_toArray, List.set_cons_zero, List.set_cons_succ] at h2
  have h3 := box_set (o := 3) h2 v3
  simp only [List.setIfInBounds_toArray, List.set_cons_zero, List.set_cons_succ] at h3
  have h4 := box_set (o := 4) h3 v4
  simp only [List.setIfInBounds_toArray, List.set_cons_zero, List.set_cons_succ] at h4
  have h5 := box_set (o := 5) h4 v5
  simp only [List.setIfInBounds_toArray, List.set_cons_zero, List.set_cons_succ] at h5
  have h6 := box_set (o := 6) h5 v6
  simp only [List.setIfInBounds_toArray, List.set_cons_zero, List.set_cons_succ] at h6
  have h7 := box_set (o := 7) h6 v7
  simp only [List.setIfInBounds_toArray, List.set_cons_zero, List.set_cons_succ] at h7
  exact h7
def rdA (ok : Bool) (reg ad : Int) : Int := if ok = true ∧ reg = 4 then (ad + 1) % 16 else ad
def rdB (ok : Bool) (reg : Int) (bl : Bool) : Bool := if ok = true ∧ reg = 2 then false else bl
def rdV (ok : Bool) (reg : Int) (bl : Bool) (ad : Int) (f : Nat → Int) : Int := if ok = true ∧ reg = 2 then 128 * bitOf bl else if ok = true ∧ reg = 4 then f ad.toNat else 0
end Go.Proofs.Ytmccplbfggcogaa
