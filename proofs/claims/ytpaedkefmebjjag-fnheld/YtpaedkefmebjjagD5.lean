/-
  Chapter 5's draws: each yields a processor and integers of whatever value, and turns nothing that was there but the cursor.
-/
import Derived.Test.YtpaedkefmebjjagD1
import Derived.Test.YtpaedkefmebjjagC5
import Derived.Lib.Builder
import Derived.Deep.RegionWith
import Derived.Lib.QuietBelow
import Derived.Deep.RegionLaw
import Derived.Deep.DeepCutAuto
namespace Go.Proofs.Ytpaedkefmebjjag
set_option linter.unusedVariables false
open Go.ChangeShapes Go.WideShapes Go.ChangeAt Go.RowKit
theorem Step.box {c b : Nat} {w w' : World} {o : Obj} (h : Step c w w') (hb : w.heap[b]? = some o) (hc : b ≠ c) : w'.heap[b]? = some o := by
  have hlt : b < w.heap.size := by
    rcases Nat.lt_or_ge b w.heap.size with h' | h'
    · exact h'
    · simp [Array.getElem?_eq_none h'] at hb
  exact (h.block b hlt hc).trans hb
theorem box_lt {w : World} {b : Nat} {o : Obj} (hb : w.heap[b]? = some o) : b < w.heap.size := by
  rcases Nat.lt_or_ge b w.heap.size with h' | h'
  · exact h'
  · simp [Array.getElem?_eq_none h'] at hb
theorem box_alloc {w : World} {b : Nat} {o : Obj} (hb : w.heap[b]? = some o) (x : Obj) : (w.alloc x).heap[b]? = some o := box_keep hb ((Below.refl w.heap.size w).alloc (Nat.le_refl _) x) (box_lt hb)
theorem free8 {w : World} {b : Nat} {cs : Array Value} {t : TypeId} (h : w.heap[b]? = some (.cells cs t (0, 0))) : ∀ i, w.frozen? ⟨b, i, none⟩ = false := fun i => Lib.frozen_of_heap h i
theorem Step.only {c d : Nat} {u w w' : World} (S : Step c u w) (O : OnlyAt d w w') (hd : u.heap.size ≤ d) : Step c u w' :=
  ⟨O.os.trans S.os, O.tape.trans S.tape, O.output.trans S.output, Nat.le_trans S.size (Nat.le_of_eq O.size.symm), fun k hk hc => (O.block k (by omega)).trans (S.block k hk hc)⟩
theorem step_fn {P : Program} {ops : Array Oper} {o : Oper} {a : Act} {w : World} {K : Act → World → Prop} {Q : Exit → Act → World → Prop} {E : Prop} (hg : o.guard = none) (f : FuncId) (vs : Array Value)
    (hE : (execOp a.eval o).run P w = .ok (.enter f vs) w)
    (h : Calls P f vs w fun e w' => ∃ v, e = .returned v ∧ K (a.put o.dst v) w') : if Region.wanted o (yielded ops a.tmps) = true then Oper.wp P o a w K Q else E := by
  have hw : Region.wanted o (yielded ops a.tmps) = true := by simp [Region.wanted, hg]
  rw [if_pos hw]
  unfold Oper.wp
  rw [hE, Oper.upon_enter]
  exact h.mono (by rintro e w' ⟨v, rfl, hk⟩; exact hk)
def pickS (j : Nat) : Int := [0, 1, 2, 255, 254, 128].getD j 0
def pickP (j : Nat) : Int := [0, 49152, 49200, 65535, 65534, 32768, 8192, 511].getD j 0
theorem only8 (w : World) (d : Nat) (v0 v1 v2 v3 v4 v5 v6 v7 : Value) : OnlyAt d w ((((((((w.setCell ⟨d, 0, none⟩ v0).setCell ⟨d, 1, none⟩ v1).setCell ⟨d, 2, none⟩ v2).setCell ⟨d, 3, none⟩ v3).setCell ⟨d, 4, none⟩ v4).setCell ⟨d, 5, none⟩ v5).setCell ⟨d, 6, none⟩ v6).setCell ⟨d, 7, none⟩ v7) :=
  ((((((((OnlyAt.refl d w).setCell _).setCell _).setCell _).setCell _).setCell _).setCell _).setCell _).setCell _
theorem set8 {w : World} {b : Nat} {t : TypeId} {z0 z1 z2 z3 z4 z5 z6 z7 : Value} (h : w.heap[b]? = some (.cells #[z0, z1, z2, z3, z4, z5, z6, z7] t (0, 0))) (v0 v1 v2 v3 v4 v5 v6 v7 : Value) :
    ((((((((w.setCell ⟨b, 0, none⟩ v0).setCell ⟨b, 1, none⟩ v1).setCell ⟨b, 2, none⟩ v2).setCell ⟨b, 3, none⟩ v3).setCell ⟨b, 4, none⟩ v4).setCell ⟨b, 5, none⟩ v5).setCell ⟨b, 6, none⟩ v6).setCell ⟨b, 7, none⟩ v7).heap[b]? = some (.cells #[v0, v1, v2, v3, v4, v5, v6, v7] t (0, 0)) := by
  simp [World.setCell, Array.getElem?_modify, h]
theorem keep8 {w : World} {b d : Nat} (hd : b ≠ d) (v0 v1 v2 v3 v4 v5 v6 v7 : Value) :
    ((((((((w.setCell ⟨d, 0, none⟩ v0).setCell ⟨d, 1, none⟩ v1).setCell ⟨d, 2, none⟩ v2).setCell ⟨d, 3, none⟩ v3).setCell ⟨d, 4, none⟩ v4).setCell ⟨d, 5, none⟩ v5).setCell ⟨d, 6, none⟩ v6).setCell ⟨d, 7, none⟩ v7).heap[b]? = w.heap[b]? := (only8 w d v0 v1 v2 v3 v4 v5 v6 v7).block b hd
theorem size8 {w : World} {d : Nat} (v0 v1 v2 v3 v4 v5 v6 v7 : Value) :
    ((((((((w.setCell ⟨d, 0, none⟩ v0).setCell ⟨d, 1, none⟩ v1).setCell ⟨d, 2, none⟩ v2).setCell ⟨d, 3, none⟩ v3).setCell ⟨d, 4, none⟩ v4).setCell ⟨d, 5, none⟩ v5).setCell ⟨d, 6, none⟩ v6).setCell ⟨d, 7, none⟩ v7).heap.size = w.heap.size := (only8 w d v0 v1 v2 v3 v4 v5 v6 v7).size
theorem below_set8 {B : Nat} {u w : World} (h : Below B u w) {d : Nat} (hd : B ≤ d) (v0 v1 v2 v3 v4 v5 v6 v7 : Value) :
    Below B u ((((((((w.setCell ⟨d, 0, none⟩ v0).setCell ⟨d, 1, none⟩ v1).setCell ⟨d, 2, none⟩ v2).setCell ⟨d, 3, none⟩ v3).setCell ⟨d, 4, none⟩ v4).setCell ⟨d, 5, none⟩ v5).setCell ⟨d, 6, none⟩ v6).setCell ⟨d, 7, none⟩ v7) := h.trans ((only8 w d v0 v1 v2 v3 v4 v5 v6 v7).below hd)
theorem box_new' {w : World} {n : Nat} (h : w.heap.size = n) (cs : Array Value) (t : TypeId) : (w.alloc (.cells cs t)).heap[n]? = some (.cells cs t (0, 0)) := by subst h; exact box_new w cs t
def pickM (j : Nat) : Int := [-1, 65536].getD j 0
end Go.Proofs.Ytpaedkefmebjjag
