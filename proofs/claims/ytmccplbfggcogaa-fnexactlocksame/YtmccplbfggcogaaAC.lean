/-
  Chapter 10: the specification's cycle, write and read of whatever sound unit.
-/
import Derived.Test.YtmccplbfggcogaaAB
namespace Go.Proofs.Ytmccplbfggcogaa
set_option linter.unusedVariables false
set_option linter.unusedSimpArgs false
open Go.ChangeShapes Go.WideShapes Go.ChangeAt Go.RowKit
theorem box_set7 {W : World} {b : Nat} {cs : Array Value} {t : TypeId} {fr : Nat × Nat} (h : W.heap[b]? = some (.cells cs t fr)) (o : Nat) (x : Value) : (W.setCell ⟨b, o, none⟩ x).heap[b]? = some (.cells (cs.setIfInBounds o x) t fr) := by
  simp [World.setCell, Array.getElem?_modify, h]
theorem box_ne7 {w : World} {b d : Nat} {ob : Obj} (h : w.heap[b]? = some ob) (hd : b ≠ d) (o : Nat) (x : Value) : (w.setCell ⟨d, o, none⟩ x).heap[b]? = some ob := by
  simp [World.setCell, Array.getElem?_modify, h, Ne.symm hd]
theorem put7_box {W : World} {d : Nat} {T : TypeId} {u0 u1 u2 u3 u4 u5 u6 : Value} (h : W.heap[d]? = some (.cells #[u0, u1, u2, u3, u4, u5, u6] T (0, 0))) (v0 v1 v2 v3 v4 v5 v6 : Value) : (((((((W.setCell ⟨d, 0, none⟩ v0).setCell ⟨d, 1, none⟩ v1).setCell ⟨d, 2, none⟩ v2).setCell ⟨d, 3, none⟩ v3).setCell ⟨d, 4, none⟩ v4).setCell ⟨d, 5, none⟩ v5).setCell ⟨d, 6, none⟩ v6).heap[d]? = some (.cells #[v0, v1, v2, v3, v4, v5, v6] T (0, 0)) := by
  have h0 := box_set7 h 0 v0
  simp only [List.setIfInBounds_toArray, List.set_cons_zero, List.set_cons_succ] at h0
  have h1 := box_set7 h0 1 v1
  simp only [List.setIfInBounds_toArray, List.set_cons_zero, List.set_cons_succ] at h1
  have h2 := box_set7 h1 2 v2
  simp only [List.setIfInBounds_toArray, List.set_cons_zero, List.set_cons_succ] at h2
  have h3 := box_set7 h2 3 v3
  simp only [List.setIfInBounds_toArray, List.set_cons_zero, List.set_cons_succ] at h3
  have h4 := box_set7 h3 4 v4
  simp only [List.setIfInBounds_toArray, List.set_cons_zero, List.set_cons_succ] at h4
  have h5 := box_set7 h4 5 v5
  simp only [List.setIfInBounds_toArray, List.set_cons_zero, List.set_cons_succ] at h5
  have h6 := box_set7 h5 6 v6
  simp only [List.setIfInBounds_toArray, List.set_cons_zero, List.set_cons_succ] at h6
  exact h6
theorem put7 (w : World) (d : Nat) (v0 v1 v2 v3 v4 v5 v6 : Value) : Below d w (((((((w.setCell ⟨d, 0, none⟩ v0).setCell ⟨d, 1, none⟩ v1).setCell ⟨d, 2, none⟩ v2).setCell ⟨d, 3, none⟩ v3).setCell ⟨d, 4, none⟩ v4).setCell ⟨d, 5, none⟩ v5).setCell ⟨d, 6, none⟩ v6) :=
  ((((((((Below.refl d w).setCell (Nat.le_refl _) _).setCell (Nat.le_refl _) _).setCell (Nat.le_refl _) _).setCell (Nat.le_refl _) _).setCell (Nat.le_refl _) _).setCell (Nat.le_refl _) _).setCell (Nat.le_refl _) _)
def wpA (ok : Bool) (P reg v : Int) : Int := if ok = true ∧ reg = 0 then v % 256 else P
def wlA (ok : Bool) (L reg v : Int) : Int := if ok = true ∧ reg = 1 then v % 32 else L
def wsA (ok : Bool) (S : Bool) (reg v : Int) : Bool := if ok = true ∧ reg = 2 then v % 2 == 1 else S
def wqA (ok : Bool) (Q : Bool) (reg v : Int) : Bool := if ok = true ∧ reg = 2 then Q && (v % 2 == 1) else if ok = true ∧ reg = 3 then false else Q
def rqA (ok : Bool) (Q : Bool) (reg : Int) : Bool := if ok = true ∧ reg = 2 then false else Q
def rvA (ok : Bool) (L : Int) (Q : Bool) (reg : Int) : Int := if ok = true ∧ reg = 2 then 128 * bitOf Q + bitOf (decide (0 < L)) else 0
theorem okApu_of {T P C B L : Int} (h : okApu T P C B L = true) : IsApu T P C B L := (okApu_iff _ _ _ _ _).1 h
theorem okApu_is {T P C B L : Int} (h : IsApu T P C B L) : okApu T P C B L = true := (okApu_iff _ _ _ _ _).2 h
/- Whatever a cycle makes of it: seven fields, a number, a truth. -/
theorem tickA_flat (T P C B L : Int) (S Q : Bool) : ∃ t p c b l : Int, ∃ s q : Bool, ∃ v : Int, ∃ d : Bool, tickA T P C B L S Q = .tuple #[.agg #[.int .i64 t, .int .i64 p, .int .i64 c, .int .i64 b, .int .i64 l, .bool s, .bool q], .int .i64 v, .bool d] := by
  unfold tickA
  split
  · split
    · exact ⟨_, _, _, _, _, _, _, _, _, rfl⟩
    · exact ⟨_, _, _, _, _, _, _, _, _, rfl⟩
  · exact ⟨_, _, _, _, _, _, _, _, _, rfl⟩
end Go.Proofs.Ytmccplbfggcogaa
