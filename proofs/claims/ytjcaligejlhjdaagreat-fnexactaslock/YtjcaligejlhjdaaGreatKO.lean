/-
  What is seen (Obs): sizes, copies, comparisons, marks.
-/
import Derived.Test.YtjcaligejlhjdaaGreatPD
namespace Go.Proofs.YtjcaligejlhjdaaGreat
set_option linter.unusedVariables false
set_option linter.unusedSimpArgs false
open Go.ChangeShapes Go.WideShapes Go.ChangeAt Go.RowKit
/-- What is seen, on blocks of three kinds. -/
structure ObsOn (W : World) (D : Nat → Nat → Prop) (v : Value) (mf : Nat) (lf : Nat → Nat) (fr : Nat → Nat → Int) (ns : Nat) (sm : Nat → Int) (nq : Nat) (rd : Nat → Int) : Prop where
  ex : ∃ u5 u6 u7, v = .agg #[u5, u6, u7] ∧ SsOn W (D 4) u5 mf lf fr ∧ ListOn W (D 5) u6 ns sm ∧ ListOn W (D 6) u7 nq rd
/-- Kinds that share no block. -/
def Dis (D : Nat → Nat → Prop) : Prop := ∀ i j b, D i b → D j b → i = j
theorem onEqObs (w : World) (D E : Nat → Nat → Prop) (v u : Value) (mf : Nat) (lf : Nat → Nat) (fr : Nat → Nat → Int) (ns : Nat) (sm : Nat → Int) (nq : Nat) (rd : Nat → Int) (H : ObsOn w D v mf lf fr ns sm nq rd) (K : ObsOn w E u mf lf fr ns sm nq rd) :
    Calls Tryz.prog 74 #[v, u] w fun e w' => e = .returned (.bool true) ∧ Below w.heap.size w w' := by
  obtain ⟨u5, u6, u7, rfl, h5, h6, h7⟩ := H
  obtain ⟨v5, v6, v7, rfl, k5, k6, k7⟩ := K
  have L0 : Below w.heap.size w ((w.alloc (.cells #[u5, u6, u7] 74)).alloc (.cells #[v5, v6, v7] 74)) := ((Below.refl _ _).alloc (Nat.le_refl _) _).alloc (by simp) _
  have B0 : ((w.alloc (.cells #[u5, u6, u7] 74)).alloc (.cells #[v5, v6, v7] 74)).heap[w.heap.size]? = some (.cells #[u5, u6, u7] 74 (0, 0)) := boxA (box_new w #[u5, u6, u7] 74) _
  have B1 : ((w.alloc (.cells #[u5, u6, u7] 74)).alloc (.cells #[v5, v6, v7] 74)).heap[w.heap.size + 1]? = some (.cells #[v5, v6, v7] 74 (0, 0)) := by simpa using box_new (w.alloc (.cells #[u5, u6, u7] 74)) #[v5, v6, v7] 74
  replace h5 := h5.below L0
  replace h6 := h6.below L0
  replace h7 := h7.below L0
  replace k5 := k5.below L0
  replace k6 := k6.below L0
  replace k7 := k7.below L0
  go_enter Tryz.func74, Tryz.ntmps74
  go_wp2_with fail
  generalize (w.alloc (.cells #[u5, u6, u7] 74)).alloc (.cells #[v5, v6, v7] 74) = W0 at *
  refine (onEqSS _ _ _ _ _ mf lf fr h5 k5).mono ?_
  rintro e W1 ⟨rfl, L⟩
  replace L0 := below_snoc L0 L
  replace B0 := box_keep B0 L (boxLt B0)
  replace B1 := box_keep B1 L (boxLt B1)
  replace h6 := h6.below L
  replace h7 := h7.below L
  replace k6 := k6.below L
  replace k7 := k7.below L
  clear h5 k5 L
  have c0 := boxC B0
  have c1 := boxC B1
  go_wp2_with fail
  clear c0 c1
  refine (onEqList _ _ _ _ _ ns sm h6 k6).mono ?_
  rintro e W2 ⟨rfl, L⟩
  replace L0 := below_snoc L0 L
  replace B0 := box_keep B0 L (boxLt B0)
  replace B1 := box_keep B1 L (boxLt B1)
  replace h7 := h7.below L
  replace k7 := k7.below L
  clear h6 k6 L
  have c0 := boxC B0
  have c1 := boxC B1
  go_wp2_with fail
  clear c0 c1
  refine (onEqList _ _ _ _ _ nq rd h7 k7).mono ?_
  rintro e W3 ⟨rfl, L⟩
  replace L0 := below_snoc L0 L
  clear h7 k7 L
  go_wp2
  go_ret
  exact ⟨rfl, L0⟩
theorem onMarkObs (w : World) (D : Nat → Nat → Prop) (v : Value) (mf : Nat) (lf : Nat → Nat) (fr : Nat → Nat → Int) (ns : Nat) (sm : Nat → Int) (nq : Nat) (rd : Nat → Int) (k : Int) (H : ObsOn w D v mf lf fr ns sm nq rd) (dis : Dis D) (lt : ∀ i b, D i b → b < w.heap.size) (k0 : 0 ≤ k) (k1 : k + psum lf mf + ns + nq ≤ 1099511627776) :
    Calls Tryz.prog 76 #[v, .int .i64 k] w fun e w' => e = .returned (.int .i64 (k + psum lf mf + ns + nq)) ∧ ObsOn w' D v mf lf (fun i j => k + psum lf i + j) ns (fun i => k + psum lf mf + i) nq (fun i => k + psum lf mf + ns + i) ∧ Wrote (fun b _ => D 4 b ∨ D 5 b ∨ D 6 b) w w' := by
  obtain ⟨u5, u6, u7, rfl, h5, h6, h7⟩ := H
  have L0 : Below w.heap.size w (w.alloc (.cells #[u5, u6, u7] 74)) := (Below.refl _ _).alloc (Nat.le_refl _) _
  have B0 := box_new w #[u5, u6, u7] 74
  have WW := wrote_below L0 (fun b _ => D 4 b ∨ D 5 b ∨ D 6 b)
  replace h5 := h5.below L0
  replace h6 := h6.below L0
  replace h7 := h7.below L0
  obtain ⟨s5, hs5⟩ : ∃ s : Int, Hid (s = (psum lf mf : Nat)) := ⟨_, rfl⟩
  have s50 : 0 ≤ s5 := by rw [hs5.out]; omega
  have M5 := hide (fun W h => onMarkSS W (D 4) u5 mf lf fr k h k0 (by omega))
  rw [← hs5.out] at k1 M5 ⊢
  clear L0 hs5
  go_enter Tryz.func76, Tryz.ntmps76
  go_wp2_with fail
  generalize w.alloc (.cells #[u5, u6, u7] 74) = W0 at *
  refine (M5.out _ h5).mono ?_
  rintro e W1 ⟨rfl, h5, T⟩
  replace B0 := box_wrote B0 T (fun o (h : D 4 _) => by have := lt _ _ h; omega)
  replace WW := WW.trans (T.mono (fun b o _ h => Or.inl h))
  replace h6 := h6.keep T (fun b o hb _ h => absurd (dis _ _ b hb h) (by decide))
  replace h7 := h7.keep T (fun b o hb _ h => absurd (dis _ _ b hb h) (by decide))
  clear T M5
  have c1 := boxC B0
  go_wp2_with fail
  clear c1
  refine (onMarkList _ (D 5) _ ns sm (k + s5) h6 (by omega) (by omega)).mono ?_
  rintro e W2 ⟨rfl, h6, T⟩
  replace B0 := box_wrote B0 T (fun o (h : D 5 _) => by have := lt _ _ h; omega)
  replace WW := WW.trans (T.mono (fun b o _ h => Or.inr (Or.inl h)))
  replace h5 := h5.keep T (fun b o hb _ h => absurd (dis _ _ b hb h) (by decide))
  replace h7 := h7.keep T (fun b o hb _ h => absurd (dis _ _ b hb h) (by decide))
  clear T
  have c1 := boxC B0
  go_wp2_with fail
  clear c1
  refine (onMarkList _ (D 6) _ nq rd (k + s5 + ns) h7 (by omega) (by omega)).mono ?_
  rintro e W3 ⟨rfl, h7, T⟩
  replace WW := WW.trans (T.mono (fun b o _ h => Or.inr (Or.inr h)))
  replace h5 := h5.keep T (fun b o hb _ h => absurd (dis _ _ b hb h) (by decide))
  replace h6 := h6.keep T (fun b o hb _ h => absurd (dis _ _ b hb h) (by decide))
  have HE := hide (And.intro h5 (And.intro h6 (And.intro h7 WW)))
  clear T h5 h6 h7 WW B0
  go_wp2
  go_ret
  exact ⟨rfl, ⟨_, _, _, rfl, HE.out.1, HE.out.2.1, HE.out.2.2.1⟩, HE.out.2.2.2⟩
theorem onHeldObs (w : World) (D : Nat → Nat → Prop) (v : Value) (mf : Nat) (lf : Nat → Nat) (ns nq : Nat) (k : Int) (H : ObsOn w D v mf lf (fun i j => k + psum lf i + j) ns (fun i => k + psum lf mf + i) nq (fun i => k + psum lf mf + ns + i)) (k0 : 0 ≤ k) (k1 : k + psum lf mf + ns + nq ≤ 1099511627776) :
    Calls Tryz.prog 78 #[v, .int .i64 k] w fun e w' => e = .returned (.int .i64 (k + psum lf mf + ns + nq)) ∧ Below w.heap.size w w' := by
  obtain ⟨u5, u6, u7, rfl, h5, h6, h7⟩ := H
  have L0 : Below w.heap.size w (w.alloc (.cells #[u5, u6, u7] 74)) := (Below.refl _ _).alloc (Nat.le_refl _) _
  have B0 := box_new w #[u5, u6, u7] 74
  replace h5 := h5.below L0
  replace h6 := h6.below L0
  replace h7 := h7.below L0
  have M5 := hide (fun W h => onHeldSS W (D 4) u5 mf lf k h k0 (by omega))
  have M6 := hide (fun W h => onHeldList W (D 5) u6 ns (k + psum lf mf) h (by omega) (by omega))
  have M7 := hide (fun W h => onHeldList W (D 6) u7 nq (k + psum lf mf + ns) h (by omega) (by omega))
  have R5 := hide h5
  have R6 := hide h6
  have R7 := hide h7
  obtain ⟨s5, hs5⟩ : ∃ s : Int, Hid (s = (psum lf mf : Nat)) := ⟨_, rfl⟩
  have s50 : 0 ≤ s5 := by rw [hs5.out]; omega
  rw [← hs5.out] at k1 M5 M6 M7 R6 R7 ⊢
  clear hs5 h5 h6 h7
  go_enter Tryz.func78, Tryz.ntmps78
  go_wp2_with fail
  generalize w.alloc (.cells #[u5, u6, u7] 74) = W0 at *
  refine (M5.out _ R5.out).mono ?_
  rintro e W1 ⟨rfl, L⟩
  replace L0 := below_snoc L0 L
  replace B0 := box_keep B0 L (boxLt B0)
  have S6 := hide (R6.out.below L)
  have S7 := hide (R7.out.below L)
  clear L M5 R5 R6 R7
  have c1 := boxC B0
  go_wp2_with fail
  clear c1
  refine (M6.out _ S6.out).mono ?_
  rintro e W2 ⟨rfl, L⟩
  replace L0 := below_snoc L0 L
  replace B0 := box_keep B0 L (boxLt B0)
  have T7 := hide (S7.out.below L)
  clear L M6 S6 S7
  have c1 := boxC B0
  go_wp2_with fail
  clear c1
  refine (M7.out _ T7.out).mono ?_
  rintro e W3 ⟨rfl, L⟩
  replace L0 := below_snoc L0 L
  clear L M7 T7
  go_wp2
  go_ret
  exact ⟨rfl, L0⟩
end Go.Proofs.YtjcaligejlhjdaaGreat
