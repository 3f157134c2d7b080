/-
  The specification's memory (chapter 6) by its contracts: copies, Poke, Push, Pull.
-/
import Derived.Test.YtmccplbfggcogaaC7
import Derived.Deep.RegionLaw
import Derived.Deep.RegionLawGrows
namespace Go.Proofs.Ytmccplbfggcogaa
set_option linter.unusedVariables false
open Go.ChangeShapes Go.WideShapes Go.ChangeAt Go.RowKit
theorem OwnInts.setLow {w : World} {lo : Nat} {v : Value} {n : Nat} {f : Nat → Int} (h : OwnInts w lo v n f) {d o : Nat} (hd : d < lo) (x : Value) : OwnInts (w.setCell ⟨d, o, none⟩ x) lo v n f := by
  obtain ⟨a, cap, hv, hn, hR, hF, hL⟩ := h
  have W1 : Wrote (fun b _ => b = d) w (w.setCell ⟨d, o, none⟩ x) := Wrote.setCell (R := fun b _ => b = d) (Wrote.refl _ w) (fun _ => rfl) x
  exact ⟨a, cap, hv, hn, hR.keep W1 (fun b o h e => by have := hL b o h; omega), hF.keep W1, hL⟩
theorem OwnInts.mono {w : World} {lo lo' : Nat} {v : Value} {n : Nat} {f : Nat → Int} (h : OwnInts w lo v n f) (hl : lo' ≤ lo) : OwnInts w lo' v n f := by
  obtain ⟨a, cap, hv, hn, hR, hF, hL⟩ := h
  exact ⟨a, cap, hv, hn, hR, hF, fun b o h => Nat.le_trans hl (hL b o h)⟩
theorem wrap_byte (x : Int) : wrap64 x % 256 = x % 256 := by
  unfold wrap64
  omega
theorem step_go {P : Program} {ops : Array Oper} {o : Oper} {a : Act} {w : World} {K : Act → World → Prop} {Q : Exit → Act → World → Prop} {E : Prop} (hg : o.guard = none) (f : FuncId) (vs : Array Value)
    (hE : (execOp a.eval o).run P w = .ok (.enter f vs) w)
    (h : Calls P f vs w fun e w' => ∃ v, e = .returned v ∧ K (a.put o.dst v) w') : if Region.wanted o (yielded ops a.tmps) = true then Oper.wp P o a w K Q else E := by
  have hw : Region.wanted o (yielded ops a.tmps) = true := by simp [Region.wanted, hg]
  rw [if_pos hw]
  unfold Oper.wp
  rw [hE, Oper.upon_enter]
  exact h.mono (by rintro e w' ⟨v, rfl, hk⟩; exact hk)
theorem only8' (w : World) (d : Nat) (v0 v1 v2 v3 v4 v5 v6 v7 : Value) : Below d w ((((((((w.setCell ⟨d, 0, none⟩ v0).setCell ⟨d, 1, none⟩ v1).setCell ⟨d, 2, none⟩ v2).setCell ⟨d, 3, none⟩ v3).setCell ⟨d, 4, none⟩ v4).setCell ⟨d, 5, none⟩ v5).setCell ⟨d, 6, none⟩ v6).setCell ⟨d, 7, none⟩ v7) :=
  ((((((((Below.refl d w).setCell (Nat.le_refl _) _).setCell (Nat.le_refl _) _).setCell (Nat.le_refl _) _).setCell (Nat.le_refl _) _).setCell (Nat.le_refl _) _).setCell (Nat.le_refl _) _).setCell (Nat.le_refl _) _).setCell (Nat.le_refl _) _
end Go.Proofs.Ytmccplbfggcogaa
