/-
  What is seen (Obs): sizes, copies, comparisons, marks.
-/
import Derived.Test.YtmccplbfggcogaaK0
namespace Go.Proofs.Ytmccplbfggcogaa
set_option linter.unusedVariables false
set_option linter.unusedSimpArgs false
open Go.ChangeShapes Go.WideShapes Go.ChangeAt Go.RowKit
/-- What is seen, on blocks of three kinds. -/
structure ObsOn (W : World) (D : Nat → Nat → Prop) (v : Value) (mf : Nat) (lf : Nat → Nat) (fr : Nat → Nat → Int) (ns : Nat) (sm : Nat → Int) (nq : Nat) (rd : Nat → Int) : Prop where
  ex : ∃ u5 u6 u7, v = .agg #[u5, u6, u7] ∧ SsOn W (D 4) u5 mf lf fr ∧ ListOn W (D 5) u6 ns sm ∧ ListOn W (D 6) u7 nq rd
/-- Kinds that share no block. -/
def Dis (D : Nat → Nat → Prop) : Prop := ∀ i j b, D i b → D j b → i = j
theorem szOut_neg {left : Int} {n : Nat} (h : szOut left n < 0) (h0 : 0 ≤ left) : szOut left n = -1 ∧ left < n := by
  unfold szOut at *
  by_cases q : left < n
  · rw [if_pos q]; exact ⟨rfl, q⟩
  · rw [if_neg q] at h; omega
set_option maxHeartbeats 1000000 in
theorem szObs (w : World) (u5 : Value) (mf : Nat) (ra : Nat → Option Addr) (lf rc : Nat → Nat) (fr : Nat → Nat → Int) (a6 : Option Addr) (ns c6 : Nat) (a7 : Option Addr) (nq c7 : Nat) (left : Int) (H : RawSS w u5 mf ra lf rc fr) (h6 : ns ≤ 9223372036854775807) (h7 : nq ≤ 9223372036854775807) (h0 : 0 ≤ left) (h2 : left ≤ 1048576) :
    Calls Try.prog 16 #[.agg #[u5, .slice a6 ns c6, .slice a7 nq c7], .int .i64 left] w fun e w' => e = .returned (.int .i64 (szOut left (mf + psum lf mf + ns + nq))) ∧ Below w.heap.size w w' := by
  have L0 : Below w.heap.size w (w.alloc (.cells #[u5, .slice a6 ns c6, .slice a7 nq c7] 70)) := (Below.refl _ _).alloc (Nat.le_refl _) _
  have H0 := H.below L0
  have B0 := box_new w #[u5, .slice a6 ns c6, .slice a7 nq c7] 70
  obtain ⟨s1, hs1⟩ : ∃ s, Hid (s = mf + psum lf mf) := ⟨_, rfl⟩
  have HZ := hide (fun W h => szIntSS W u5 mf ra lf rc fr h left h0 h2)
  rw [← hs1.out] at HZ ⊢
  obtain ⟨a5, c5, e5, -⟩ := H.outer
  subst e5
  clear hs1 H
  by_cases g1 : left < s1
  · have HS := hide (szOut_no g1)
    have HT : Hid (szOut left (s1 + ns + nq) = -1) := szOut_no (by omega)
    rw [HT.out]
    rw [HS.out] at HZ
    go_enter Try.func16, Try.ntmps16
    go_wp2_with fail
    generalize w.alloc (.cells #[.slice a5 mf c5, .slice a6 ns c6, .slice a7 nq c7] 70) = W0 at *
    refine (HZ.out _ H0).mono ?_
    rintro e W1 ⟨rfl, hw1⟩
    have L1 : Below W0.heap.size W0 W1 := by rw [hw1]; exact Below.refl _ _
    clear hw1
    have C1 := below_snoc L0 L1
    clear H0 L0 L1
    go_wp2
    go_ret
    exact ⟨rfl, C1⟩
  have HS := hide (szOut_ok (show (s1 : Int) ≤ left by omega))
  rw [HS.out] at HZ
  by_cases g2 : left - s1 < ns
  · have HT : Hid (szOut left (s1 + ns + nq) = -1) := szOut_no (by omega)
    rw [HT.out]
    go_enter Try.func16, Try.ntmps16
    go_wp2_with fail
    generalize w.alloc (.cells #[.slice a5 mf c5, .slice a6 ns c6, .slice a7 nq c7] 70) = W0 at *
    refine (HZ.out _ H0).mono ?_
    rintro e W1 ⟨rfl, hw1⟩
    have L1 : Below W0.heap.size W0 W1 := by rw [hw1]; exact Below.refl _ _
    clear hw1
    have C1 := below_snoc L0 L1
    replace B0 := box_keep B0 L1 (boxLt B0)
    clear H0 L0 L1
    have c1 := boxC B0
    go_wp2_with fail
    have HU := hide (szOut_no g2)
    refine (szIntS _ _ _ _ _ (by omega) (by omega) (by omega)).mono ?_
    rintro e w2 ⟨rfl, rfl⟩
    rw [HU.out]
    go_wp2
    go_ret
    exact ⟨rfl, C1⟩
  have HU := hide (szOut_ok (show (ns : Int) ≤ left - s1 by omega))
  by_cases g3 : left - s1 - ns < nq
  · have HT : Hid (szOut left (s1 + ns + nq) = -1) := szOut_no (by omega)
    rw [HT.out]
    go_enter Try.func16, Try.ntmps16
    go_wp2_with fail
    generalize w.alloc (.cells #[.slice a5 mf c5, .slice a6 ns c6, .slice a7 nq c7] 70) = W0 at *
    refine (HZ.out _ H0).mono ?_
    rintro e W1 ⟨rfl, hw1⟩
    have L1 : Below W0.heap.size W0 W1 := by rw [hw1]; exact Below.refl _ _
    clear hw1
    have C1 := below_snoc L0 L1
    replace B0 := box_keep B0 L1 (boxLt B0)
    clear H0 L0 L1
    have c1 := boxC B0
    go_wp2_with fail
    refine (szIntS _ _ _ _ _ (by omega) (by omega) (by omega)).mono ?_
    rintro e w2 ⟨rfl, rfl⟩
    rw [HU.out]
    go_wp2_with fail
    have HV := hide (szOut_no g3)
    refine (szIntS _ _ _ _ _ (by omega) (by omega) (by omega)).mono ?_
    rintro e w3 ⟨rfl, rfl⟩
    rw [HV.out]
    go_wp2
    go_ret
    exact ⟨rfl, C1⟩
  · have HT : Hid (szOut left (s1 + ns + nq) = left - s1 - ns - nq) := by show _ = _; rw [szOut_ok (by omega)]; omega
    have HV := hide (szOut_ok (show (nq : Int) ≤ left - s1 - ns by omega))
    rw [HT.out]
    go_enter Try.func16, Try.ntmps16
    go_wp2_with fail
    generalize w.alloc (.cells #[.slice a5 mf c5, .slice a6 ns c6, .slice a7 nq c7] 70) = W0 at *
    refine (HZ.out _ H0).mono ?_
    rintro e W1 ⟨rfl, hw1⟩
    have L1 : Below W0.heap.size W0 W1 := by rw [hw1]; exact Below.refl _ _
    clear hw1
    have C1 := below_snoc L0 L1
    replace B0 := box_keep B0 L1 (boxLt B0)
    clear H0 L0 L1
    have c1 := boxC B0
    go_wp2_with fail
    refine (szIntS _ _ _ _ _ (by omega) (by omega) (by omega)).mono ?_
    rintro e w2 ⟨rfl, rfl⟩
    rw [HU.out]
    go_wp2_with fail
    refine (szIntS _ _ _ _ _ (by omega) (by omega) (by omega)).mono ?_
    rintro e w3 ⟨rfl, rfl⟩
    rw [HV.out]
    go_wp2
    go_ret
    exact ⟨rfl, C1⟩
theorem onEqObs (w : World) (D E : Nat → Nat → Prop) (v u : Value) (mf : Nat) (lf : Nat → Nat) (fr : Nat → Nat → Int) (ns : Nat) (sm : Nat → Int) (nq : Nat) (rd : Nat → Int) (H : ObsOn w D v mf lf fr ns sm nq rd) (K : ObsOn w E u mf lf fr ns sm nq rd) :
    Calls Try.prog 11 #[v, u] w fun e w' => e = .returned (.bool true) ∧ Below w.heap.size w w' := by
  obtain ⟨u5, u6, u7, rfl, h5, h6, h7⟩ := H
  obtain ⟨v5, v6, v7, rfl, k5, k6, k7⟩ := K
  have L0 : Below w.heap.size w ((w.alloc (.cells #[u5, u6, u7] 47)).alloc (.cells #[v5, v6, v7] 47)) := ((Below.refl _ _).alloc (Nat.le_refl _) _).alloc (by simp) _
  have B0 : ((w.alloc (.cells #[u5, u6, u7] 47)).alloc (.cells #[v5, v6, v7] 47)).heap[w.heap.size]? = some (.cells #[u5, u6, u7] 47 (0, 0)) := boxA (box_new w #[u5, u6, u7] 47) _
  have B1 : ((w.alloc (.cells #[u5, u6, u7] 47)).alloc (.cells #[v5, v6, v7] 47)).heap[w.heap.size + 1]? = some (.cells #[v5, v6, v7] 47 (0, 0)) := by simpa using box_new (w.alloc (.cells #[u5, u6, u7] 47)) #[v5, v6, v7] 47
  replace h5 := h5.below L0
  replace h6 := h6.below L0
  replace h7 := h7.below L0
  replace k5 := k5.below L0
  replace k6 := k6.below L0
  replace k7 := k7.below L0
  go_enter Try.func11, Try.ntmps11
  go_wp2_with fail
  generalize (w.alloc (.cells #[u5, u6, u7] 47)).alloc (.cells #[v5, v6, v7] 47) = W0 at *
  refine (onEqSS _ _ _ _ _ mf lf fr h5 k5).mono ?_
  rintro e W1 ⟨rfl, L⟩
  replace L0 := below_snoc L0 L
  replace B0 := box_keep B0 L (boxLt B0)
  replace B1 := box_keep B1 L (boxLt B1)
  replace h6 := h6.below L
  replace h7 := h7.below L
  replace k6 := k6.below L
  replace k7 := k7.below L
  clear h5 k5 L
  have c0 := boxC B0
  have c1 := boxC B1
  go_wp2_with fail
  clear c0 c1
  refine (onEqList _ _ _ _ _ ns sm h6 k6).mono ?_
  rintro e W2 ⟨rfl, L⟩
  replace L0 := below_snoc L0 L
  replace B0 := box_keep B0 L (boxLt B0)
  replace B1 := box_keep B1 L (boxLt B1)
  replace h7 := h7.below L
  replace k7 := k7.below L
  clear h6 k6 L
  have c0 := boxC B0
  have c1 := boxC B1
  go_wp2_with fail
  clear c0 c1
  refine (onEqList _ _ _ _ _ nq rd h7 k7).mono ?_
  rintro e W3 ⟨rfl, L⟩
  replace L0 := below_snoc L0 L
  clear h7 k7 L
  go_wp2
  go_ret
  exact ⟨rfl, L0⟩
theorem onMarkObs (w : World) (D : Nat → Nat → Prop) (v : Value) (mf : Nat) (lf : Nat → Nat) (fr : Nat → Nat → Int) (ns : Nat) (sm : Nat → Int) (nq : Nat) (rd : Nat → Int) (k : Int) (H : ObsOn w D v mf lf fr ns sm nq rd) (dis : Dis D) (lt : ∀ i b, D i b → b < w.heap.size) (k0 : 0 ≤ k) (k1 : k + psum lf mf + ns + nq ≤ 1099511627776) :
    Calls Try.prog 14 #[v, .int .i64 k] w fun e w' => e = .returned (.int .i64 (k + psum lf mf + ns + nq)) ∧ ObsOn w' D v mf lf (fun i j => k + psum lf i + j) ns (fun i => k + psum lf mf + i) nq (fun i => k + psum lf mf + ns + i) ∧ Wrote (fun b _ => D 4 b ∨ D 5 b ∨ D 6 b) w w' := by
  obtain ⟨u5, u6, u7, rfl, h5, h6, h7⟩ := H
  have L0 : Below w.heap.size w (w.alloc (.cells #[u5, u6, u7] 47)) := (Below.refl _ _).alloc (Nat.le_refl _) _
  have B0 := box_new w #[u5, u6, u7] 47
  have WW := wrote_below L0 (fun b _ => D 4 b ∨ D 5 b ∨ D 6 b)
  replace h5 := h5.below L0
  replace h6 := h6.below L0
  replace h7 := h7.below L0
  obtain ⟨s5, hs5⟩ : ∃ s : Int, Hid (s = (psum lf mf : Nat)) := ⟨_, rfl⟩
  have s50 : 0 ≤ s5 := by rw [hs5.out]; omega
  have M5 := hide (fun W h => onMarkSS W (D 4) u5 mf lf fr k h k0 (by omega))
  rw [← hs5.out] at k1 M5 ⊢
  clear L0 hs5
  go_enter Try.func14, Try.ntmps14
  go_wp2_with fail
  generalize w.alloc (.cells #[u5, u6, u7] 47) = W0 at *
  refine (M5.out _ h5).mono ?_
  rintro e W1 ⟨rfl, h5, T⟩
  replace B0 := box_wrote B0 T (fun o (h : D 4 _) => by have := lt _ _ h; omega)
  replace WW := WW.trans (T.mono (fun b o _ h => Or.inl h))
  replace h6 := h6.keep T (fun b o hb _ h => absurd (dis _ _ b hb h) (by decide))
  replace h7 := h7.keep T (fun b o hb _ h => absurd (dis _ _ b hb h) (by decide))
  clear T M5
  have c1 := boxC B0
  go_wp2_with fail
  clear c1
  refine (onMarkList _ (D 5) _ ns sm (k + s5) h6 (by omega) (by omega)).mono ?_
  rintro e W2 ⟨rfl, h6, T⟩
  replace B0 := box_wrote B0 T (fun o (h : D 5 _) => by have := lt _ _ h; omega)
  replace WW := WW.trans (T.mono (fun b o _ h => Or.inr (Or.inl h)))
  replace h5 := h5.keep T (fun b o hb _ h => absurd (dis _ _ b hb h) (by decide))
  replace h7 := h7.keep T (fun b o hb _ h => absurd (dis _ _ b hb h) (by decide))
  clear T
  have c1 := boxC B0
  go_wp2_with fail
  clear c1
  refine (onMarkList _ (D 6) _ nq rd (k + s5 + ns) h7 (by omega) (by omega)).mono ?_
  rintro e W3 ⟨rfl, h7, T⟩
  replace WW := WW.trans (T.mono (fun b o _ h => Or.inr (Or.inr h)))
  replace h5 := h5.keep T (fun b o hb _ h => absurd (dis _ _ b hb h) (by decide))
  replace h6 := h6.keep T (fun b o hb _ h => absurd (dis _ _ b hb h) (by decide))
  have HE := hide (And.intro h5 (And.intro h6 (And.intro h7 WW)))
  clear T h5 h6 h7 WW B0
  go_wp2
  go_ret
  exact ⟨rfl, ⟨_, _, _, rfl, HE.out.1, HE.out.2.1, HE.out.2.2.1⟩, HE.out.2.2.2⟩
theorem onHeldObs (w : World) (D : Nat → Nat → Prop) (v : Value) (mf : Nat) (lf : Nat → Nat) (ns nq : Nat) (k : Int) (H : ObsOn w D v mf lf (fun i j => k + psum lf i + j) ns (fun i => k + psum lf mf + i) nq (fun i => k + psum lf mf + ns + i)) (k0 : 0 ≤ k) (k1 : k + psum lf mf + ns + nq ≤ 1099511627776) :
    Calls Try.prog 15 #[v, .int .i64 k] w fun e w' => e = .returned (.int .i64 (k + psum lf mf + ns + nq)) ∧ Below w.heap.size w w' := by
  obtain ⟨u5, u6, u7, rfl, h5, h6, h7⟩ := H
  have L0 : Below w.heap.size w (w.alloc (.cells #[u5, u6, u7] 47)) := (Below.refl _ _).alloc (Nat.le_refl _) _
  have B0 := box_new w #[u5, u6, u7] 47
  replace h5 := h5.below L0
  replace h6 := h6.below L0
  replace h7 := h7.below L0
  have M5 := hide (fun W h => onHeldSS W (D 4) u5 mf lf k h k0 (by omega))
  have M6 := hide (fun W h => onHeldList W (D 5) u6 ns (k + psum lf mf) h (by omega) (by omega))
  have M7 := hide (fun W h => onHeldList W (D 6) u7 nq (k + psum lf mf + ns) h (by omega) (by omega))
  have R5 := hide h5
  have R6 := hide h6
  have R7 := hide h7
  obtain ⟨s5, hs5⟩ : ∃ s : Int, Hid (s = (psum lf mf : Nat)) := ⟨_, rfl⟩
  have s50 : 0 ≤ s5 := by rw [hs5.out]; omega
  rw [← hs5.out] at k1 M5 M6 M7 R6 R7 ⊢
  clear hs5 h5 h6 h7
  go_enter Try.func15, Try.ntmps15
  go_wp2_with fail
  generalize w.alloc (.cells #[u5, u6, u7] 47) = W0 at *
  refine (M5.out _ R5.out).mono ?_
  rintro e W1 ⟨rfl, L⟩
  replace L0 := below_snoc L0 L
  replace B0 := box_keep B0 L (boxLt B0)
  have S6 := hide (R6.out.below L)
  have S7 := hide (R7.out.below L)
  clear L M5 R5 R6 R7
  have c1 := boxC B0
  go_wp2_with fail
  clear c1
  refine (M6.out _ S6.out).mono ?_
  rintro e W2 ⟨rfl, L⟩
  replace L0 := below_snoc L0 L
  replace B0 := box_keep B0 L (boxLt B0)
  have T7 := hide (S7.out.below L)
  clear L M6 S6 S7
  have c1 := boxC B0
  go_wp2_with fail
  clear c1
  refine (M7.out _ T7.out).mono ?_
  rintro e W3 ⟨rfl, L⟩
  replace L0 := below_snoc L0 L
  clear L M7 T7
  go_wp2
  go_ret
  exact ⟨rfl, L0⟩
set_option maxHeartbeats 1000000 in
theorem onToObs (w : World) (F G I : Nat → Nat → Prop) (u5 u6 u7 : Value) (mf : Nat) (lf : Nat → Nat) (fr : Nat → Nat → Int) (ns : Nat) (sm : Nat → Int) (nq : Nat) (rd : Nat → Int) (H5 : IntSS .i64 w F u5 mf lf fr) (H6 : Ints .i64 w G u6 ns sm) (H7 : Ints .i64 w I u7 nq rd) (hm : mf + psum lf mf ≤ 1048576) :
    Calls Try.prog 18 #[.agg #[u5, u6, u7]] w fun e w' => ∃ v, e = .returned v ∧ (∃ D, ObsOn w' D v mf lf fr ns sm nq rd ∧ Dis D ∧ ∀ i b, D i b → w.heap.size ≤ b ∧ b < w'.heap.size) ∧ Below w.heap.size w w' := by
  obtain ⟨a5, c5, rfl, -⟩ := id H5
  obtain ⟨a6, c6, rfl, -⟩ := id H6
  obtain ⟨a7, c7, rfl, -⟩ := id H7
  have L0 : Below w.heap.size w (((w.alloc (.cells #[.slice a5 mf c5, .slice a6 ns c6, .slice a7 nq c7] 70)).alloc (.cells #[.slice none 0 0, .slice none 0 0, .slice none 0 0] 47)).alloc (.cells #[.slice none 0 0, .slice none 0 0, .slice none 0 0] 47)) := (((Below.refl _ _).alloc (Nat.le_refl _) _).alloc (by simp) _).alloc (by simp; omega) _
  have B0 : (((w.alloc (.cells #[.slice a5 mf c5, .slice a6 ns c6, .slice a7 nq c7] 70)).alloc (.cells #[.slice none 0 0, .slice none 0 0, .slice none 0 0] 47)).alloc (.cells #[.slice none 0 0, .slice none 0 0, .slice none 0 0] 47)).heap[w.heap.size]? = some (.cells #[.slice a5 mf c5, .slice a6 ns c6, .slice a7 nq c7] 70 (0, 0)) := boxA (boxA (box_new w _ _) _) _
  have B1 : (((w.alloc (.cells #[.slice a5 mf c5, .slice a6 ns c6, .slice a7 nq c7] 70)).alloc (.cells #[.slice none 0 0, .slice none 0 0, .slice none 0 0] 47)).alloc (.cells #[.slice none 0 0, .slice none 0 0, .slice none 0 0] 47)).heap[w.heap.size + 1]? = some (.cells #[.slice none 0 0, .slice none 0 0, .slice none 0 0] 47 (0, 0)) := by simpa using boxA (box_new (w.alloc (.cells #[.slice a5 mf c5, .slice a6 ns c6, .slice a7 nq c7] 70)) #[.slice none 0 0, .slice none 0 0, .slice none 0 0] 47) (.cells #[.slice none 0 0, .slice none 0 0, .slice none 0 0] 47)
  have B2 : (((w.alloc (.cells #[.slice a5 mf c5, .slice a6 ns c6, .slice a7 nq c7] 70)).alloc (.cells #[.slice none 0 0, .slice none 0 0, .slice none 0 0] 47)).alloc (.cells #[.slice none 0 0, .slice none 0 0, .slice none 0 0] 47)).heap[w.heap.size + 1 + 1]? = some (.cells #[.slice none 0 0, .slice none 0 0, .slice none 0 0] 47 (0, 0)) := by simpa using box_new ((w.alloc (.cells #[.slice a5 mf c5, .slice a6 ns c6, .slice a7 nq c7] 70)).alloc (.cells #[.slice none 0 0, .slice none 0 0, .slice none 0 0] 47)) #[.slice none 0 0, .slice none 0 0, .slice none 0 0] 47
  go_enter Try.func18, Try.ntmps18
  go_wp2_with fail
  generalize ((w.alloc (.cells #[.slice a5 mf c5, .slice a6 ns c6, .slice a7 nq c7] 70)).alloc (.cells #[.slice none 0 0, .slice none 0 0, .slice none 0 0] 47)).alloc (.cells #[.slice none 0 0, .slice none 0 0, .slice none 0 0] 47) = W0 at *
  refine (onToSS _ F _ mf lf fr (H5.keep (wrote_below L0 Nowhere) (fun _ _ _ x => x)) hm).mono ?_
  rintro e W1 ⟨v5, rfl, h5, L⟩
  have z2 := boxLt B2
  obtain ⟨p0, hp0⟩ : ∃ p, Hid (p = W0.heap.size) := ⟨_, rfl⟩
  obtain ⟨p1, hp1⟩ : ∃ p, Hid (p = W1.heap.size) := ⟨_, rfl⟩
  have l01 : p0 ≤ p1 := by rw [hp0.out, hp1.out]; exact L.size
  have l0 : w.heap.size + 1 + 1 < p0 := by rw [hp0.out]; exact z2
  rw [← hp0.out, ← hp1.out] at h5
  replace L0 := below_snoc L0 L
  replace B0 := box_keep B0 L (boxLt B0)
  replace B1 := box_keep B1 L (boxLt B1)
  replace B2 := box_keep B2 L (boxLt B2)
  clear L z2 hp0
  obtain ⟨x5, y5, rfl⟩ := h5.form
  have c0 := boxC B0
  have c2 := boxC B2
  have f2 := boxF B2
  go_wp2_with fail
  clear c0 c2 f2
  replace B0 := box_set_ne8 (o := 0) (x := .slice x5 mf y5) B0 (show w.heap.size ≠ w.heap.size + 1 + 1 by omega)
  replace B1 := box_set_ne8 (o := 0) (x := .slice x5 mf y5) B1 (show w.heap.size + 1 ≠ w.heap.size + 1 + 1 by omega)
  replace B2 := box_set (o := 0) B2 (.slice x5 mf y5)
  replace L0 := L0.setCell (p := ⟨w.heap.size + 1 + 1, 0, none⟩) (by show w.heap.size ≤ w.heap.size + 1 + 1; omega) (.slice x5 mf y5)
  replace h5 := h5.keep (Wrote.setCell (b := w.heap.size + 1 + 1) (o := 0) (R := fun b _ => b = w.heap.size + 1 + 1) (Wrote.refl _ W1) (fun _ => rfl) (.slice x5 mf y5)) (fun b o hb _ h => by obtain ⟨h1, h2⟩ := hb; omega)
  replace hp1 : Hid (p1 = (W1.setCell ⟨w.heap.size + 1 + 1, 0, none⟩ (.slice x5 mf y5)).heap.size) := by show _ = _; rw [hp1.out]; simp
  generalize W1.setCell ⟨w.heap.size + 1 + 1, 0, none⟩ (.slice x5 mf y5) = W2 at *
  refine (onToList _ G _ ns sm (H6.keep (wrote_below L0 Nowhere) (fun _ _ _ x => x))).mono ?_
  rintro e W3 ⟨v6, rfl, h6, L⟩
  obtain ⟨p2, hp2⟩ : ∃ p, Hid (p = W3.heap.size) := ⟨_, rfl⟩
  have l12 : p1 ≤ p2 := by rw [hp1.out, hp2.out]; exact L.size
  rw [← hp1.out, ← hp2.out] at h6
  replace L0 := below_snoc L0 L
  replace B0 := box_keep B0 L (boxLt B0)
  replace B1 := box_keep B1 L (boxLt B1)
  replace B2 := box_keep B2 L (boxLt B2)
  replace h5 := h5.below L
  clear L hp1
  obtain ⟨x6, y6, rfl⟩ := h6.two
  simp only [List.setIfInBounds_toArray, List.set_cons_succ, List.set_cons_zero] at B2
  have c0 := boxC B0
  have c2 := boxC B2
  have f2 := boxF B2
  go_wp2_with fail
  clear c0 c2 f2
  replace B0 := box_set_ne8 (o := 1) (x := .slice x6 ns y6) B0 (show w.heap.size ≠ w.heap.size + 1 + 1 by omega)
  replace B1 := box_set_ne8 (o := 1) (x := .slice x6 ns y6) B1 (show w.heap.size + 1 ≠ w.heap.size + 1 + 1 by omega)
  replace B2 := box_set (o := 1) B2 (.slice x6 ns y6)
  replace L0 := L0.setCell (p := ⟨w.heap.size + 1 + 1, 1, none⟩) (by show w.heap.size ≤ w.heap.size + 1 + 1; omega) (.slice x6 ns y6)
  have TT := Wrote.setCell (b := w.heap.size + 1 + 1) (o := 1) (R := fun b _ => b = w.heap.size + 1 + 1) (Wrote.refl _ W3) (fun _ => rfl) (.slice x6 ns y6)
  replace h5 := h5.keep TT (fun b o hb _ h => by obtain ⟨h1, h2⟩ := hb; omega)
  replace h6 := h6.keep TT (fun b o hb _ h => by obtain ⟨h1, h2⟩ := hb; omega)
  clear TT
  replace hp2 : Hid (p2 = (W3.setCell ⟨w.heap.size + 1 + 1, 1, none⟩ (.slice x6 ns y6)).heap.size) := by show _ = _; rw [hp2.out]; simp
  generalize W3.setCell ⟨w.heap.size + 1 + 1, 1, none⟩ (.slice x6 ns y6) = W4 at *
  refine (onToList _ I _ nq rd (H7.keep (wrote_below L0 Nowhere) (fun _ _ _ x => x))).mono ?_
  rintro e W5 ⟨v7, rfl, h7, L⟩
  obtain ⟨p3, hp3⟩ : ∃ p, Hid (p = W5.heap.size) := ⟨_, rfl⟩
  have l23 : p2 ≤ p3 := by rw [hp2.out, hp3.out]; exact L.size
  rw [← hp2.out, ← hp3.out] at h7
  replace L0 := below_snoc L0 L
  replace B1 := box_keep B1 L (boxLt B1)
  replace B2 := box_keep B2 L (boxLt B2)
  replace h5 := h5.below L
  replace h6 := h6.below L
  clear L hp2 B0
  obtain ⟨x7, y7, rfl⟩ := h7.two
  simp only [List.setIfInBounds_toArray, List.set_cons_succ, List.set_cons_zero] at B2
  have c1 := boxC B1
  have c2 := boxC B2
  have f1 := boxF B1
  have f2 := boxF B2
  have HR := hide (And.intro h5 (And.intro h6 h7))
  clear h5 h6 h7 B1 B2 H5 H6 H7
  go_wp2
  refine bodyPost_ret (v := .agg #[.slice x5 mf y5, .slice x6 ns y6, .slice x7 nq y7]) (by simp [results, Try.results18, go_sem, c1]) rfl ?_
  have key : ∀ W6, Wrote (fun b _ => b = w.heap.size + 1 ∨ b = w.heap.size + 1 + 1) W5 W6 → (∃ D, ObsOn W6 D (.agg #[.slice x5 mf y5, .slice x6 ns y6, .slice x7 nq y7]) mf lf fr ns sm nq rd ∧ Dis D ∧ ∀ i b, D i b → w.heap.size ≤ b ∧ b < W6.heap.size) ∧ Below w.heap.size w W6 := fun W6 WW =>
    ⟨⟨fun i b => (i = 4 ∧ p0 ≤ b ∧ b < p1) ∨ (i = 5 ∧ p1 ≤ b ∧ b < p2) ∨ (i = 6 ∧ p2 ≤ b ∧ b < p3),
      ⟨_, _, _, rfl, (HR.out.1.keep WW (fun b o hb _ h => by obtain ⟨h1, h2⟩ := hb; omega)).mono (fun b _ h => Or.inl ⟨rfl, h⟩), (HR.out.2.1.keep WW (fun b o hb _ h => by obtain ⟨h1, h2⟩ := hb; omega)).mono (fun b _ h => Or.inr (Or.inl ⟨rfl, h⟩)), (HR.out.2.2.keep WW (fun b o hb _ h => by obtain ⟨h1, h2⟩ := hb; omega)).mono (fun b _ h => Or.inr (Or.inr ⟨rfl, h⟩))⟩,
      fun i j b h1 h2 => by rcases h1 with ⟨rfl, _, _⟩ | ⟨rfl, _, _⟩ | ⟨rfl, _, _⟩ <;> rcases h2 with ⟨rfl, _, _⟩ | ⟨rfl, _, _⟩ | ⟨rfl, _, _⟩ <;> first | rfl | omega,
      fun i b h => by have := WW.size; have := hp3.out; rcases h with ⟨rfl, _, _⟩ | ⟨rfl, _, _⟩ | ⟨rfl, _, _⟩ <;> omega⟩, L0.trans (WW.below L0.size (fun b o hb h => by omega))⟩
  refine ⟨_, rfl, key _ ?_⟩
  iterate 4 (refine Wrote.setCell ?_ (fun _ => by omega) _)
  exact Wrote.refl _ _
end Go.Proofs.Ytmccplbfggcogaa
