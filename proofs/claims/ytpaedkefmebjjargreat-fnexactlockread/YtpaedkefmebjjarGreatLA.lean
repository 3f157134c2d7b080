/-
  Chapter 12: consoles in step as records of numbers; lists of lists.
-/
import Derived.Test.YtpaedkefmebjjarGreatW8
import Derived.Test.YtpaedkefmebjjarGreatQ2
import Derived.Test.YtpaedkefmebjjarGreatAA
import Derived.Test.YtpaedkefmebjjarGreatPD
import Derived.Test.YtpaedkefmebjjarGreatG0
import Derived.Test.YtpaedkefmebjjarGreatAC
import Derived.Test.YtpaedkefmebjjarGreatC7
import Derived.Laws.Rows
import Derived.Laws.Tables
import Derived.Deep.DeepCutAuto
import Derived.Deep.WholeRow
import Derived.Deep.AppendLies
namespace Go.Proofs.YtpaedkefmebjjarGreat
set_option linter.unusedVariables false
set_option linter.unusedSimpArgs false
open Go.ChangeShapes Go.WideShapes Go.ChangeAt Go.RowKit
/-- A list of lists of numbers on blocks of a kind. -/
structure SsOn (W : World) (D : Nat → Prop) (u : Value) (m : Nat) (ln : Nat → Nat) (f : Nat → Nat → Int) : Prop where
  ex : ∃ ra rc, Sep W u m ra ln rc ∧ (∀ i, i < m → RowOf .i64 W (ra i) (ln i) (f i)) ∧ (∀ i, i < m → ∀ b o, Foot (ra i) (ln i) b o → D b) ∧ (∀ a cap, u = .slice a m cap → ∀ b o, Foot a m b o → D b) ∧ (∀ i, i < m → ln i ≤ 1048576)
section
variable {R : Nat → Nat → Prop} {W W' : World} {D E : Nat → Prop} {u : Value} {m : Nat} {ln : Nat → Nat} {f : Nat → Nat → Int}
theorem SsOn.keep (H : SsOn W D u m ln f) (hw : Wrote R W W') (hd : ∀ b o, D b → b < W.heap.size → ¬ R b o) : SsOn W' D u m ln f := by
  obtain ⟨ra, rc, ⟨⟨a, cap, hv, hm, ho⟩, hf, hdj, hs⟩, hr, hi, hou, hl⟩ := H
  refine ⟨ra, rc, ⟨⟨a, cap, hv, hm, fun i hi' => ?_⟩, fun i hi' => (hf i hi').keep hw, hdj, hs⟩, fun i hi' => (hr i hi').keep hw (fun b o hF => hd b o (hi i hi' b o hF) ((hr i hi').lt hF)), hi, hou, hl⟩
  obtain ⟨b, off, ha, hc, hn⟩ := ho i hi'
  refine ⟨b, off, ha, ?_, hn⟩
  rw [hw.cell b (off + i) (block_lt_of_cell hc) (hd b _ (hou a cap hv b _ (ha ▸ foot_at hi')) (block_lt_of_cell hc))]
  exact hc
theorem SsOn.below (H : SsOn W D u m ln f) (L : Below W.heap.size W W') : SsOn W' D u m ln f := H.keep (wrote_below L Nowhere) (fun _ _ _ _ x => x)
theorem SsOn.mono (H : SsOn W D u m ln f) (hd : ∀ b, b < W.heap.size → D b → E b) : SsOn W E u m ln f := by
  obtain ⟨ra, rc, hS, hr, hi, hou, hl⟩ := H
  refine ⟨ra, rc, hS, hr, fun i hi' b o hF => hd b ((hr i hi').lt hF) (hi i hi' b o hF), fun a cap hv b o hF => hd b ?_ (hou a cap hv b o hF), hl⟩
  obtain ⟨a', cap', hv', -, ho⟩ := hS.outer
  rw [hv] at hv'
  simp only [Value.slice.injEq, true_and] at hv'
  obtain ⟨rfl, rfl⟩ := hv'
  obtain ⟨off, e, h1, h2⟩ := hF
  obtain ⟨b', off', e', hc, -⟩ := ho (o - off) (by omega)
  rw [e] at e'
  simp only [Option.some.injEq, Addr.mk.injEq, and_true] at e'
  rw [e'.1]
  exact block_lt_of_cell hc
theorem SsOn.form (H : SsOn W D u m ln f) : ∃ a c, u = .slice a m c := by
  obtain ⟨ra, rc, ⟨⟨a, cap, hv, -⟩, -⟩, -⟩ := H
  exact ⟨a, cap, hv⟩
theorem SsOn.small (H : SsOn W D u m ln f) : psum ln m ≤ 1099511627776 := by
  obtain ⟨ra, rc, hS, -⟩ := H
  exact hS.small
theorem SsOn.many (H : SsOn W D u m ln f) : m ≤ 1048576 := by
  obtain ⟨ra, rc, ⟨⟨a, cap, hv, hm, -⟩, -⟩, -⟩ := H
  exact hm
theorem SsOn.ints (H : SsOn W D u m ln f) : IntSS .i64 W (On D) u m ln f := by
  obtain ⟨ra, rc, ⟨⟨a, cap, hv, hm, ho⟩, hf, hdj, hs⟩, hr, hi, hou, hl⟩ := H
  refine ⟨a, cap, hv, hm, hou a cap hv, fun i hi' => ?_⟩
  obtain ⟨b, off, ha, hc, -⟩ := ho i hi'
  exact ⟨b, off, _, ha, hc, _, _, rfl, hl i hi', hr i hi', hi i hi'⟩
end
theorem Rows2.on {W : World} {b0 m : Nat} {ln : Nat → Nat} {f : Nat → Nat → Int} {D : Nat → Prop} (h : Rows2 W b0 m ln f) (hm : m + psum ln m ≤ 1048576) (hd : ∀ b, b0 ≤ b → b < b0 + 1 + m → D b) : SsOn W D (.slice (some ⟨b0, 0, none⟩) m m) m ln f := by
  refine ⟨_, _, h.sep hm, fun i hi => h.rowOf i hi, fun i hi b o hF => ?_, fun a cap hv b o hF => ?_, fun i hi => by have := psum_le ln hi; omega⟩
  · obtain ⟨off, e, _⟩ := hF
    simp only [Option.some.injEq, Addr.mk.injEq, and_true] at e
    exact hd b (by omega) (by omega)
  · simp only [Value.slice.injEq, true_and] at hv
    obtain ⟨rfl, -⟩ := hv
    obtain ⟨off, e, _⟩ := hF
    simp only [Option.some.injEq, Addr.mk.injEq, and_true] at e
    exact hd b (by omega) (by omega)
theorem onEqSS (w : World) (D E : Nat → Prop) (u v : Value) (m : Nat) (ln : Nat → Nat) (f : Nat → Nat → Int) (H : SsOn w D u m ln f) (K : SsOn w E v m ln f) : Calls Tryz.prog 90 #[u, v] w fun e w' => e = .returned (.bool true) ∧ Below w.heap.size w w' := by
  refine (eqIntSS w _ _ _ _ m m ln ln f f H.ints K.ints).mono ?_
  rintro e w' ⟨rfl, dd, rfl⟩
  exact ⟨by rw [eqIntss_refl], below_drewN (Below.refl _ _) dd⟩
theorem onEqImg (w : World) (D E : Nat → Prop) (u v : Value) (m : Nat) (ln : Nat → Nat) (f : Nat → Nat → Int) (H : SsOn w D u m ln f) (K : SsOn w E v m ln f) : Calls Tryz.prog 33 #[.agg #[u], .agg #[v]] w fun e w' => e = .returned (.bool true) ∧ Below w.heap.size w w' := by
  refine (eqImage w _ _ _ _ m m ln ln f f H.ints K.ints).mono ?_
  rintro e w' ⟨rfl, L⟩
  exact ⟨by rw [eqIntss_refl], L⟩
theorem onMarkSS (w : World) (D : Nat → Prop) (u : Value) (m : Nat) (ln : Nat → Nat) (f : Nat → Nat → Int) (k : Int) (H : SsOn w D u m ln f) (k0 : 0 ≤ k) (k1 : k ≤ 1099511627776) : Calls Tryz.prog 91 #[u, .int .i64 k] w fun e w' => e = .returned (.int .i64 (k + psum ln m)) ∧ SsOn w' D u m ln (fun i j => k + psum ln i + j) ∧ Wrote (On D) w w' := by
  obtain ⟨ra, rc, hS, hr, hi, hou, hl⟩ := H
  refine (markIntSS w u m ra ln rc f k hS hr k0 k1).mono ?_
  rintro e w' ⟨rfl, hR, T, -⟩
  exact ⟨rfl, ⟨ra, rc, hS.keep T (fun b o h => h), hR, hi, hou, hl⟩, T.mono (fun b o _ ⟨i, hi', hF⟩ => hi i hi' b o hF)⟩
theorem onMarkImg (w : World) (D : Nat → Prop) (u : Value) (m : Nat) (ln : Nat → Nat) (f : Nat → Nat → Int) (k : Int) (H : SsOn w D u m ln f) (k0 : 0 ≤ k) (k1 : k ≤ 1099511627776) : Calls Tryz.prog 41 #[.agg #[u], .int .i64 k] w fun e w' => e = .returned (.int .i64 (k + psum ln m)) ∧ SsOn w' D u m ln (fun i j => k + psum ln i + j) ∧ Wrote (On D) w w' := by
  obtain ⟨ra, rc, hS, hr, hi, hou, hl⟩ := H
  refine (markImage w u m ra ln rc f k hS hr k0 k1).mono ?_
  rintro e w' ⟨rfl, hR, T⟩
  exact ⟨rfl, ⟨ra, rc, hS.keep T (fun b o h => h), hR, hi, hou, hl⟩, T.mono (fun b o _ ⟨i, hi', hF⟩ => hi i hi' b o hF)⟩
theorem onHeldSS (w : World) (D : Nat → Prop) (u : Value) (m : Nat) (ln : Nat → Nat) (k : Int) (H : SsOn w D u m ln (fun i j => k + psum ln i + j)) (k0 : 0 ≤ k) (k1 : k ≤ 1099511627776) : Calls Tryz.prog 92 #[u, .int .i64 k] w fun e w' => e = .returned (.int .i64 (k + psum ln m)) ∧ Below w.heap.size w w' := by
  obtain ⟨ra, rc, hS, hr, hi, hou, hl⟩ := H
  refine (heldIntSS w u m ra ln rc k hS hr k0 k1).mono ?_
  rintro e w' ⟨rfl, rfl⟩
  exact ⟨rfl, Below.refl _ _⟩
theorem onHeldImg (w : World) (D : Nat → Prop) (u : Value) (m : Nat) (ln : Nat → Nat) (k : Int) (H : SsOn w D u m ln (fun i j => k + psum ln i + j)) (k0 : 0 ≤ k) (k1 : k ≤ 1099511627776) : Calls Tryz.prog 46 #[.agg #[u], .int .i64 k] w fun e w' => e = .returned (.int .i64 (k + psum ln m)) ∧ Below w.heap.size w w' := by
  obtain ⟨ra, rc, hS, hr, hi, hou, hl⟩ := H
  refine (heldImage w u m ra ln rc k hS hr k0 k1).mono ?_
  rintro e w' ⟨rfl, L⟩
  exact ⟨rfl, L⟩
theorem onToImg (w : World) (F : Nat → Nat → Prop) (u : Value) (m : Nat) (ln : Nat → Nat) (f : Nat → Nat → Int) (H : IntSS .i64 w F u m ln f) (hm : m + psum ln m ≤ 1048576) : Calls Tryz.prog 22 #[.agg #[u]] w fun e w' => ∃ v, e = .returned (.agg #[v]) ∧ SsOn w' (fun b => w.heap.size ≤ b ∧ b < w'.heap.size) v m ln f ∧ Below w.heap.size w w' := by
  refine (toImage w F u m ln f H).mono ?_
  rintro e w' ⟨b0, h0, rfl, hr, hs, L⟩
  exact ⟨_, rfl, hr.on hm (fun b h1 h2 => ⟨by omega, by omega⟩), L⟩
theorem onToSS (w : World) (F : Nat → Nat → Prop) (u : Value) (m : Nat) (ln : Nat → Nat) (f : Nat → Nat → Int) (H : IntSS .i64 w F u m ln f) (hm : m + psum ln m ≤ 1048576) : Calls Tryz.prog 71 #[u] w fun e w' => ∃ v, e = .returned v ∧ SsOn w' (fun b => w.heap.size ≤ b ∧ b < w'.heap.size) v m ln f ∧ Below w.heap.size w w' := by
  refine (toIntSS w F u m ln f H).mono ?_
  rintro e w' ⟨rfl, hr, hs, L⟩
  exact ⟨_, rfl, hr.on hm (fun b h1 h2 => ⟨by omega, by omega⟩), L⟩
theorem onToList (w : World) (F : Nat → Nat → Prop) (u : Value) (n : Nat) (f : Nat → Int) (H : Ints .i64 w F u n f) : Calls Tryz.prog 23 #[u] w fun e w' => ∃ v, e = .returned v ∧ ListOn w' (fun b => w.heap.size ≤ b ∧ b < w'.heap.size) v n f ∧ Below w.heap.size w w' := by
  have hn : n ≤ 1048576 := by obtain ⟨a, c, e, h, -⟩ := H; exact h
  refine (toIntS w F u n f H).mono ?_
  rintro e w' ⟨rfl, hr, hs, L⟩
  exact ⟨_, rfl, ⟨_, _, rfl, (SlOn.fresh hr hn (Nat.le_refl _)).mono (fun b hb h => ⟨h, hb⟩)⟩, L⟩
end Go.Proofs.YtpaedkefmebjjarGreat
namespace Go.Proofs.YtpaedkefmebjjarGreat
set_option linter.unusedVariables false
set_option linter.unusedSimpArgs false
open Go.ChangeShapes Go.WideShapes Go.ChangeAt Go.RowKit
/-- What is seen, on blocks of three kinds. -/
structure ObsOn (W : World) (D : Nat → Nat → Prop) (v : Value) (mf : Nat) (lf : Nat → Nat) (fr : Nat → Nat → Int) (ns : Nat) (sm : Nat → Int) (nq : Nat) (rd : Nat → Int) : Prop where
  ex : ∃ u5 u6 u7, v = .agg #[u5, u6, u7] ∧ SsOn W (D 4) u5 mf lf fr ∧ ListOn W (D 5) u6 ns sm ∧ ListOn W (D 6) u7 nq rd
/-- Kinds that share no block. -/
def Dis (D : Nat → Nat → Prop) : Prop := ∀ i j b, D i b → D j b → i = j
theorem szOut_neg {left : Int} {n : Nat} (h : szOut left n < 0) (h0 : 0 ≤ left) : szOut left n = -1 ∧ left < n := by
  unfold szOut at *
  by_cases q : left < n
  · rw [if_pos q]; exact ⟨rfl, q⟩
  · rw [if_neg q] at h; omega
set_option maxHeartbeats 1000000 in
theorem szObs (w : World) (u5 : Value) (mf : Nat) (ra : Nat → Option Addr) (lf rc : Nat → Nat) (fr : Nat → Nat → Int) (a6 : Option Addr) (ns c6 : Nat) (a7 : Option Addr) (nq c7 : Nat) (left : Int) (H : RawSS w u5 mf ra lf rc fr) (h6 : ns ≤ 9223372036854775807) (h7 : nq ≤ 9223372036854775807) (h0 : 0 ≤ left) (h2 : left ≤ 1048576) :
    Calls Tryz.prog 18 #[.agg #[u5, .slice a6 ns c6, .slice a7 nq c7], .int .i64 left] w fun e w' => e = .returned (.int .i64 (szOut left (mf + psum lf mf + ns + nq))) ∧ Below w.heap.size w w' := by
  have L0 : Below w.heap.size w (w.alloc (.cells #[u5, .slice a6 ns c6, .slice a7 nq c7] 37)) := (Below.refl _ _).alloc (Nat.le_refl _) _
  have H0 := H.below L0
  have B0 := box_new w #[u5, .slice a6 ns c6, .slice a7 nq c7] 37
  obtain ⟨s1, hs1⟩ : ∃ s, Hid (s = mf + psum lf mf) := ⟨_, rfl⟩
  have HZ := hide (fun W h => szIntSS W u5 mf ra lf rc fr h left h0 h2)
  rw [← hs1.out] at HZ ⊢
  obtain ⟨a5, c5, e5, -⟩ := H.outer
  subst e5
  clear hs1 H
  by_cases g1 : left < s1
  · have HS := hide (szOut_no g1)
    have HT : Hid (szOut left (s1 + ns + nq) = -1) := szOut_no (by omega)
    rw [HT.out]
    rw [HS.out] at HZ
    go_enter Tryz.func18, Tryz.ntmps18
    go_wp2_with fail
    generalize w.alloc (.cells #[.slice a5 mf c5, .slice a6 ns c6, .slice a7 nq c7] 37) = W0 at *
    refine (HZ.out _ H0).mono ?_
    rintro e W1 ⟨rfl, hw1⟩
    have L1 : Below W0.heap.size W0 W1 := by rw [hw1]; exact Below.refl _ _
    clear hw1
    have C1 := below_snoc L0 L1
    clear H0 L0 L1
    go_wp2
    go_ret
    exact ⟨rfl, C1⟩
  have HS := hide (szOut_ok (show (s1 : Int) ≤ left by omega))
  rw [HS.out] at HZ
  by_cases g2 : left - s1 < ns
  · have HT : Hid (szOut left (s1 + ns + nq) = -1) := szOut_no (by omega)
    rw [HT.out]
    go_enter Tryz.func18, Tryz.ntmps18
    go_wp2_with fail
    generalize w.alloc (.cells #[.slice a5 mf c5, .slice a6 ns c6, .slice a7 nq c7] 37) = W0 at *
    refine (HZ.out _ H0).mono ?_
    rintro e W1 ⟨rfl, hw1⟩
    have L1 : Below W0.heap.size W0 W1 := by rw [hw1]; exact Below.refl _ _
    clear hw1
    have C1 := below_snoc L0 L1
    replace B0 := box_keep B0 L1 (boxLt B0)
    clear H0 L0 L1
    have c1 := boxC B0
    go_wp2_with fail
    have HU := hide (szOut_no g2)
    refine (szIntS _ _ _ _ _ (by omega) (by omega) (by omega)).mono ?_
    rintro e w2 ⟨rfl, rfl⟩
    rw [HU.out]
    go_wp2
    go_ret
    exact ⟨rfl, C1⟩
  have HU := hide (szOut_ok (show (ns : Int) ≤ left - s1 by omega))
  by_cases g3 : left - s1 - ns < nq
  · have HT : Hid (szOut left (s1 + ns + nq) = -1) := szOut_no (by omega)
    rw [HT.out]
    go_enter Tryz.func18, Tryz.ntmps18
    go_wp2_with fail
    generalize w.alloc (.cells #[.slice a5 mf c5, .slice a6 ns c6, .slice a7 nq c7] 37) = W0 at *
    refine (HZ.out _ H0).mono ?_
    rintro e W1 ⟨rfl, hw1⟩
    have L1 : Below W0.heap.size W0 W1 := by rw [hw1]; exact Below.refl _ _
    clear hw1
    have C1 := below_snoc L0 L1
    replace B0 := box_keep B0 L1 (boxLt B0)
    clear H0 L0 L1
    have c1 := boxC B0
    go_wp2_with fail
    refine (szIntS _ _ _ _ _ (by omega) (by omega) (by omega)).mono ?_
    rintro e w2 ⟨rfl, rfl⟩
    rw [HU.out]
    go_wp2_with fail
    have HV := hide (szOut_no g3)
    refine (szIntS _ _ _ _ _ (by omega) (by omega) (by omega)).mono ?_
    rintro e w3 ⟨rfl, rfl⟩
    rw [HV.out]
    go_wp2
    go_ret
    exact ⟨rfl, C1⟩
  · have HT : Hid (szOut left (s1 + ns + nq) = left - s1 - ns - nq) := by show _ = _; rw [szOut_ok (by omega)]; omega
    have HV := hide (szOut_ok (show (nq : Int) ≤ left - s1 - ns by omega))
    rw [HT.out]
    go_enter Tryz.func18, Tryz.ntmps18
    go_wp2_with fail
    generalize w.alloc (.cells #[.slice a5 mf c5, .slice a6 ns c6, .slice a7 nq c7] 37) = W0 at *
    refine (HZ.out _ H0).mono ?_
    rintro e W1 ⟨rfl, hw1⟩
    have L1 : Below W0.heap.size W0 W1 := by rw [hw1]; exact Below.refl _ _
    clear hw1
    have C1 := below_snoc L0 L1
    replace B0 := box_keep B0 L1 (boxLt B0)
    clear H0 L0 L1
    have c1 := boxC B0
    go_wp2_with fail
    refine (szIntS _ _ _ _ _ (by omega) (by omega) (by omega)).mono ?_
    rintro e w2 ⟨rfl, rfl⟩
    rw [HU.out]
    go_wp2_with fail
    refine (szIntS _ _ _ _ _ (by omega) (by omega) (by omega)).mono ?_
    rintro e w3 ⟨rfl, rfl⟩
    rw [HV.out]
    go_wp2
    go_ret
    exact ⟨rfl, C1⟩
theorem onEqObs (w : World) (D E : Nat → Nat → Prop) (v u : Value) (mf : Nat) (lf : Nat → Nat) (fr : Nat → Nat → Int) (ns : Nat) (sm : Nat → Int) (nq : Nat) (rd : Nat → Int) (H : ObsOn w D v mf lf fr ns sm nq rd) (K : ObsOn w E u mf lf fr ns sm nq rd) :
    Calls Tryz.prog 40 #[v, u] w fun e w' => e = .returned (.bool true) ∧ Below w.heap.size w w' := by
  obtain ⟨u5, u6, u7, rfl, h5, h6, h7⟩ := H
  obtain ⟨v5, v6, v7, rfl, k5, k6, k7⟩ := K
  have L0 : Below w.heap.size w ((w.alloc (.cells #[u5, u6, u7] 47)).alloc (.cells #[v5, v6, v7] 47)) := ((Below.refl _ _).alloc (Nat.le_refl _) _).alloc (by simp) _
  have B0 : ((w.alloc (.cells #[u5, u6, u7] 47)).alloc (.cells #[v5, v6, v7] 47)).heap[w.heap.size]? = some (.cells #[u5, u6, u7] 47 (0, 0)) := boxA (box_new w #[u5, u6, u7] 47) _
  have B1 : ((w.alloc (.cells #[u5, u6, u7] 47)).alloc (.cells #[v5, v6, v7] 47)).heap[w.heap.size + 1]? = some (.cells #[v5, v6, v7] 47 (0, 0)) := by simpa using box_new (w.alloc (.cells #[u5, u6, u7] 47)) #[v5, v6, v7] 47
  replace h5 := h5.below L0
  replace h6 := h6.below L0
  replace h7 := h7.below L0
  replace k5 := k5.below L0
  replace k6 := k6.below L0
  replace k7 := k7.below L0
  go_enter Tryz.func40, Tryz.ntmps40
  go_wp2_with fail
  generalize (w.alloc (.cells #[u5, u6, u7] 47)).alloc (.cells #[v5, v6, v7] 47) = W0 at *
  refine (onEqSS _ _ _ _ _ mf lf fr h5 k5).mono ?_
  rintro e W1 ⟨rfl, L⟩
  replace L0 := below_snoc L0 L
  replace B0 := box_keep B0 L (boxLt B0)
  replace B1 := box_keep B1 L (boxLt B1)
  replace h6 := h6.below L
  replace h7 := h7.below L
  replace k6 := k6.below L
  replace k7 := k7.below L
  clear h5 k5 L
  have c0 := boxC B0
  have c1 := boxC B1
  go_wp2_with fail
  clear c0 c1
  refine (onEqList _ _ _ _ _ ns sm h6 k6).mono ?_
  rintro e W2 ⟨rfl, L⟩
  replace L0 := below_snoc L0 L
  replace B0 := box_keep B0 L (boxLt B0)
  replace B1 := box_keep B1 L (boxLt B1)
  replace h7 := h7.below L
  replace k7 := k7.below L
  clear h6 k6 L
  have c0 := boxC B0
  have c1 := boxC B1
  go_wp2_with fail
  clear c0 c1
  refine (onEqList _ _ _ _ _ nq rd h7 k7).mono ?_
  rintro e W3 ⟨rfl, L⟩
  replace L0 := below_snoc L0 L
  clear h7 k7 L
  go_wp2
  go_ret
  exact ⟨rfl, L0⟩
theorem onMarkObs (w : World) (D : Nat → Nat → Prop) (v : Value) (mf : Nat) (lf : Nat → Nat) (fr : Nat → Nat → Int) (ns : Nat) (sm : Nat → Int) (nq : Nat) (rd : Nat → Int) (k : Int) (H : ObsOn w D v mf lf fr ns sm nq rd) (dis : Dis D) (lt : ∀ i b, D i b → b < w.heap.size) (k0 : 0 ≤ k) (k1 : k + psum lf mf + ns + nq ≤ 1099511627776) :
    Calls Tryz.prog 45 #[v, .int .i64 k] w fun e w' => e = .returned (.int .i64 (k + psum lf mf + ns + nq)) ∧ ObsOn w' D v mf lf (fun i j => k + psum lf i + j) ns (fun i => k + psum lf mf + i) nq (fun i => k + psum lf mf + ns + i) ∧ Wrote (fun b _ => D 4 b ∨ D 5 b ∨ D 6 b) w w' := by
  obtain ⟨u5, u6, u7, rfl, h5, h6, h7⟩ := H
  have L0 : Below w.heap.size w (w.alloc (.cells #[u5, u6, u7] 47)) := (Below.refl _ _).alloc (Nat.le_refl _) _
  have B0 := box_new w #[u5, u6, u7] 47
  have WW := wrote_below L0 (fun b _ => D 4 b ∨ D 5 b ∨ D 6 b)
  replace h5 := h5.below L0
  replace h6 := h6.below L0
  replace h7 := h7.below L0
  obtain ⟨s5, hs5⟩ : ∃ s : Int, Hid (s = (psum lf mf : Nat)) := ⟨_, rfl⟩
  have s50 : 0 ≤ s5 := by rw [hs5.out]; omega
  have M5 := hide (fun W h => onMarkSS W (D 4) u5 mf lf fr k h k0 (by omega))
  rw [← hs5.out] at k1 M5 ⊢
  clear L0 hs5
  go_enter Tryz.func45, Tryz.ntmps45
  go_wp2_with fail
  generalize w.alloc (.cells #[u5, u6, u7] 47) = W0 at *
  refine (M5.out _ h5).mono ?_
  rintro e W1 ⟨rfl, h5, T⟩
  replace B0 := box_wrote B0 T (fun o (h : D 4 _) => by have := lt _ _ h; omega)
  replace WW := WW.trans (T.mono (fun b o _ h => Or.inl h))
  replace h6 := h6.keep T (fun b o hb _ h => absurd (dis _ _ b hb h) (by decide))
  replace h7 := h7.keep T (fun b o hb _ h => absurd (dis _ _ b hb h) (by decide))
  clear T M5
  have c1 := boxC B0
  go_wp2_with fail
  clear c1
  refine (onMarkList _ (D 5) _ ns sm (k + s5) h6 (by omega) (by omega)).mono ?_
  rintro e W2 ⟨rfl, h6, T⟩
  replace B0 := box_wrote B0 T (fun o (h : D 5 _) => by have := lt _ _ h; omega)
  replace WW := WW.trans (T.mono (fun b o _ h => Or.inr (Or.inl h)))
  replace h5 := h5.keep T (fun b o hb _ h => absurd (dis _ _ b hb h) (by decide))
  replace h7 := h7.keep T (fun b o hb _ h => absurd (dis _ _ b hb h) (by decide))
  clear T
  have c1 := boxC B0
  go_wp2_with fail
  clear c1
  refine (onMarkList _ (D 6) _ nq rd (k + s5 + ns) h7 (by omega) (by omega)).mono ?_
  rintro e W3 ⟨rfl, h7, T⟩
  replace WW := WW.trans (T.mono (fun b o _ h => Or.inr (Or.inr h)))
  replace h5 := h5.keep T (fun b o hb _ h => absurd (dis _ _ b hb h) (by decide))
  replace h6 := h6.keep T (fun b o hb _ h => absurd (dis _ _ b hb h) (by decide))
  have HE := hide (And.intro h5 (And.intro h6 (And.intro h7 WW)))
  clear T h5 h6 h7 WW B0
  go_wp2
  go_ret
  exact ⟨rfl, ⟨_, _, _, rfl, HE.out.1, HE.out.2.1, HE.out.2.2.1⟩, HE.out.2.2.2⟩
theorem onHeldObs (w : World) (D : Nat → Nat → Prop) (v : Value) (mf : Nat) (lf : Nat → Nat) (ns nq : Nat) (k : Int) (H : ObsOn w D v mf lf (fun i j => k + psum lf i + j) ns (fun i => k + psum lf mf + i) nq (fun i => k + psum lf mf + ns + i)) (k0 : 0 ≤ k) (k1 : k + psum lf mf + ns + nq ≤ 1099511627776) :
    Calls Tryz.prog 50 #[v, .int .i64 k] w fun e w' => e = .returned (.int .i64 (k + psum lf mf + ns + nq)) ∧ Below w.heap.size w w' := by
  obtain ⟨u5, u6, u7, rfl, h5, h6, h7⟩ := H
  have L0 : Below w.heap.size w (w.alloc (.cells #[u5, u6, u7] 47)) := (Below.refl _ _).alloc (Nat.le_refl _) _
  have B0 := box_new w #[u5, u6, u7] 47
  replace h5 := h5.below L0
  replace h6 := h6.below L0
  replace h7 := h7.below L0
  have M5 := hide (fun W h => onHeldSS W (D 4) u5 mf lf k h k0 (by omega))
  have M6 := hide (fun W h => onHeldList W (D 5) u6 ns (k + psum lf mf) h (by omega) (by omega))
  have M7 := hide (fun W h => onHeldList W (D 6) u7 nq (k + psum lf mf + ns) h (by omega) (by omega))
  have R5 := hide h5
  have R6 := hide h6
  have R7 := hide h7
  obtain ⟨s5, hs5⟩ : ∃ s : Int, Hid (s = (psum lf mf : Nat)) := ⟨_, rfl⟩
  have s50 : 0 ≤ s5 := by rw [hs5.out]; omega
  rw [← hs5.out] at k1 M5 M6 M7 R6 R7 ⊢
  clear hs5 h5 h6 h7
  go_enter Tryz.func50, Tryz.ntmps50
  go_wp2_with fail
  generalize w.alloc (.cells #[u5, u6, u7] 47) = W0 at *
  refine (M5.out _ R5.out).mono ?_
  rintro e W1 ⟨rfl, L⟩
  replace L0 := below_snoc L0 L
  replace B0 := box_keep B0 L (boxLt B0)
  have S6 := hide (R6.out.below L)
  have S7 := hide (R7.out.below L)
  clear L M5 R5 R6 R7
  have c1 := boxC B0
  go_wp2_with fail
  clear c1
  refine (M6.out _ S6.out).mono ?_
  rintro e W2 ⟨rfl, L⟩
  replace L0 := below_snoc L0 L
  replace B0 := box_keep B0 L (boxLt B0)
  have T7 := hide (S7.out.below L)
  clear L M6 S6 S7
  have c1 := boxC B0
  go_wp2_with fail
  clear c1
  refine (M7.out _ T7.out).mono ?_
  rintro e W3 ⟨rfl, L⟩
  replace L0 := below_snoc L0 L
  clear L M7 T7
  go_wp2
  go_ret
  exact ⟨rfl, L0⟩
set_option maxHeartbeats 1000000 in
theorem onToObs (w : World) (F G I : Nat → Nat → Prop) (u5 u6 u7 : Value) (mf : Nat) (lf : Nat → Nat) (fr : Nat → Nat → Int) (ns : Nat) (sm : Nat → Int) (nq : Nat) (rd : Nat → Int) (H5 : IntSS .i64 w F u5 mf lf fr) (H6 : Ints .i64 w G u6 ns sm) (H7 : Ints .i64 w I u7 nq rd) (hm : mf + psum lf mf ≤ 1048576) :
    Calls Tryz.prog 29 #[.agg #[u5, u6, u7]] w fun e w' => ∃ v, e = .returned v ∧ (∃ D, ObsOn w' D v mf lf fr ns sm nq rd ∧ Dis D ∧ ∀ i b, D i b → w.heap.size ≤ b ∧ b < w'.heap.size) ∧ Below w.heap.size w w' := by
  obtain ⟨a5, c5, rfl, -⟩ := id H5
  obtain ⟨a6, c6, rfl, -⟩ := id H6
  obtain ⟨a7, c7, rfl, -⟩ := id H7
  have L0 : Below w.heap.size w (((w.alloc (.cells #[.slice a5 mf c5, .slice a6 ns c6, .slice a7 nq c7] 37)).alloc (.cells #[.slice none 0 0, .slice none 0 0, .slice none 0 0] 47)).alloc (.cells #[.slice none 0 0, .slice none 0 0, .slice none 0 0] 47)) := (((Below.refl _ _).alloc (Nat.le_refl _) _).alloc (by simp) _).alloc (by simp; omega) _
  have B0 : (((w.alloc (.cells #[.slice a5 mf c5, .slice a6 ns c6, .slice a7 nq c7] 37)).alloc (.cells #[.slice none 0 0, .slice none 0 0, .slice none 0 0] 47)).alloc (.cells #[.slice none 0 0, .slice none 0 0, .slice none 0 0] 47)).heap[w.heap.size]? = some (.cells #[.slice a5 mf c5, .slice a6 ns c6, .slice a7 nq c7] 37 (0, 0)) := boxA (boxA (box_new w _ _) _) _
  have B1 : (((w.alloc (.cells #[.slice a5 mf c5, .slice a6 ns c6, .slice a7 nq c7] 37)).alloc (.cells #[.slice none 0 0, .slice none 0 0, .slice none 0 0] 47)).alloc (.cells #[.slice none 0 0, .slice none 0 0, .slice none 0 0] 47)).heap[w.heap.size + 1]? = some (.cells #[.slice none 0 0, .slice none 0 0, .slice none 0 0] 47 (0, 0)) := by simpa using boxA (box_new (w.alloc (.cells #[.slice a5 mf c5, .slice a6 ns c6, .slice a7 nq c7] 37)) #[.slice none 0 0, .slice none 0 0, .slice none 0 0] 47) (.cells #[.slice none 0 0, .slice none 0 0, .slice none 0 0] 47)
  have B2 : (((w.alloc (.cells #[.slice a5 mf c5, .slice a6 ns c6, .slice a7 nq c7] 37)).alloc (.cells #[.slice none 0 0, .slice none 0 0, .slice none 0 0] 47)).alloc (.cells #[.slice none 0 0, .slice none 0 0, .slice none 0 0] 47)).heap[w.heap.size + 1 + 1]? = some (.cells #[.slice none 0 0, .slice none 0 0, .slice none 0 0] 47 (0, 0)) := by simpa using box_new ((w.alloc (.cells #[.slice a5 mf c5, .slice a6 ns c6, .slice a7 nq c7] 37)).alloc (.cells #[.slice none 0 0, .slice none 0 0, .slice none 0 0] 47)) #[.slice none 0 0, .slice none 0 0, .slice none 0 0] 47
  go_enter Tryz.func29, Tryz.ntmps29
  go_wp2_with fail
  generalize ((w.alloc (.cells #[.slice a5 mf c5, .slice a6 ns c6, .slice a7 nq c7] 37)).alloc (.cells #[.slice none 0 0, .slice none 0 0, .slice none 0 0] 47)).alloc (.cells #[.slice none 0 0, .slice none 0 0, .slice none 0 0] 47) = W0 at *
  refine (onToSS _ F _ mf lf fr (H5.keep (wrote_below L0 Nowhere) (fun _ _ _ x => x)) hm).mono ?_
  rintro e W1 ⟨v5, rfl, h5, L⟩
  have z2 := boxLt B2
  obtain ⟨p0, hp0⟩ : ∃ p, Hid (p = W0.heap.size) := ⟨_, rfl⟩
  obtain ⟨p1, hp1⟩ : ∃ p, Hid (p = W1.heap.size) := ⟨_, rfl⟩
  have l01 : p0 ≤ p1 := by rw [hp0.out, hp1.out]; exact L.size
  have l0 : w.heap.size + 1 + 1 < p0 := by rw [hp0.out]; exact z2
  rw [← hp0.out, ← hp1.out] at h5
  replace L0 := below_snoc L0 L
  replace B0 := box_keep B0 L (boxLt B0)
  replace B1 := box_keep B1 L (boxLt B1)
  replace B2 := box_keep B2 L (boxLt B2)
  clear L z2 hp0
  obtain ⟨x5, y5, rfl⟩ := h5.form
  have c0 := boxC B0
  have c2 := boxC B2
  have f2 := boxF B2
  go_wp2_with fail
  clear c0 c2 f2
  replace B0 := box_set_ne8 (o := 0) (x := .slice x5 mf y5) B0 (show w.heap.size ≠ w.heap.size + 1 + 1 by omega)
  replace B1 := box_set_ne8 (o := 0) (x := .slice x5 mf y5) B1 (show w.heap.size + 1 ≠ w.heap.size + 1 + 1 by omega)
  replace B2 := box_set (o := 0) B2 (.slice x5 mf y5)
  replace L0 := L0.setCell (p := ⟨w.heap.size + 1 + 1, 0, none⟩) (by show w.heap.size ≤ w.heap.size + 1 + 1; omega) (.slice x5 mf y5)
  replace h5 := h5.keep (Wrote.setCell (b := w.heap.size + 1 + 1) (o := 0) (R := fun b _ => b = w.heap.size + 1 + 1) (Wrote.refl _ W1) (fun _ => rfl) (.slice x5 mf y5)) (fun b o hb _ h => by obtain ⟨h1, h2⟩ := hb; omega)
  replace hp1 : Hid (p1 = (W1.setCell ⟨w.heap.size + 1 + 1, 0, none⟩ (.slice x5 mf y5)).heap.size) := by show _ = _; rw [hp1.out]; simp
  generalize W1.setCell ⟨w.heap.size + 1 + 1, 0, none⟩ (.slice x5 mf y5) = W2 at *
  refine (onToList _ G _ ns sm (H6.keep (wrote_below L0 Nowhere) (fun _ _ _ x => x))).mono ?_
  rintro e W3 ⟨v6, rfl, h6, L⟩
  obtain ⟨p2, hp2⟩ : ∃ p, Hid (p = W3.heap.size) := ⟨_, rfl⟩
  have l12 : p1 ≤ p2 := by rw [hp1.out, hp2.out]; exact L.size
  rw [← hp1.out, ← hp2.out] at h6
  replace L0 := below_snoc L0 L
  replace B0 := box_keep B0 L (boxLt B0)
  replace B1 := box_keep B1 L (boxLt B1)
  replace B2 := box_keep B2 L (boxLt B2)
  replace h5 := h5.below L
  clear L hp1
  obtain ⟨x6, y6, rfl⟩ := h6.two
  simp only [List.setIfInBounds_toArray, List.set_cons_succ, List.set_cons_zero] at B2
  have c0 := boxC B0
  have c2 := boxC B2
  have f2 := boxF B2
  go_wp2_with fail
  clear c0 c2 f2
  replace B0 := box_set_ne8 (o := 1) (x := .slice x6 ns y6) B0 (show w.heap.size ≠ w.heap.size + 1 + 1 by omega)
  replace B1 := box_set_ne8 (o := 1) (x := .slice x6 ns y6) B1 (show w.heap.size + 1 ≠ w.heap.size + 1 + 1 by omega)
  replace B2 := box_set (o := 1) B2 (.slice x6 ns y6)
  replace L0 := L0.setCell (p := ⟨w.heap.size + 1 + 1, 1, none⟩) (by show w.heap.size ≤ w.heap.size + 1 + 1; omega) (.slice x6 ns y6)
  have TT := Wrote.setCell (b := w.heap.size + 1 + 1) (o := 1) (R := fun b _ => b = w.heap.size + 1 + 1) (Wrote.refl _ W3) (fun _ => rfl) (.slice x6 ns y6)
  replace h5 := h5.keep TT (fun b o hb _ h => by obtain ⟨h1, h2⟩ := hb; omega)
  replace h6 := h6.keep TT (fun b o hb _ h => by obtain ⟨h1, h2⟩ := hb; omega)
  clear TT
  replace hp2 : Hid (p2 = (W3.setCell ⟨w.heap.size + 1 + 1, 1, none⟩ (.slice x6 ns y6)).heap.size) := by show _ = _; rw [hp2.out]; simp
  generalize W3.setCell ⟨w.heap.size + 1 + 1, 1, none⟩ (.slice x6 ns y6) = W4 at *
  refine (onToList _ I _ nq rd (H7.keep (wrote_below L0 Nowhere) (fun _ _ _ x => x))).mono ?_
  rintro e W5 ⟨v7, rfl, h7, L⟩
  obtain ⟨p3, hp3⟩ : ∃ p, Hid (p = W5.heap.size) := ⟨_, rfl⟩
  have l23 : p2 ≤ p3 := by rw [hp2.out, hp3.out]; exact L.size
  rw [← hp2.out, ← hp3.out] at h7
  replace L0 := below_snoc L0 L
  replace B1 := box_keep B1 L (boxLt B1)
  replace B2 := box_keep B2 L (boxLt B2)
  replace h5 := h5.below L
  replace h6 := h6.below L
  clear L hp2 B0
  obtain ⟨x7, y7, rfl⟩ := h7.two
  simp only [List.setIfInBounds_toArray, List.set_cons_succ, List.set_cons_zero] at B2
  have c1 := boxC B1
  have c2 := boxC B2
  have f1 := boxF B1
  have f2 := boxF B2
  have HR := hide (And.intro h5 (And.intro h6 h7))
  clear h5 h6 h7 B1 B2 H5 H6 H7
  go_wp2
  refine bodyPost_ret (v := .agg #[.slice x5 mf y5, .slice x6 ns y6, .slice x7 nq y7]) (by simp [results, Tryz.results29, go_sem, c1]) rfl ?_
  have key : ∀ W6, Wrote (fun b _ => b = w.heap.size + 1 ∨ b = w.heap.size + 1 + 1) W5 W6 → (∃ D, ObsOn W6 D (.agg #[.slice x5 mf y5, .slice x6 ns y6, .slice x7 nq y7]) mf lf fr ns sm nq rd ∧ Dis D ∧ ∀ i b, D i b → w.heap.size ≤ b ∧ b < W6.heap.size) ∧ Below w.heap.size w W6 := fun W6 WW =>
    ⟨⟨fun i b => (i = 4 ∧ p0 ≤ b ∧ b < p1) ∨ (i = 5 ∧ p1 ≤ b ∧ b < p2) ∨ (i = 6 ∧ p2 ≤ b ∧ b < p3),
      ⟨_, _, _, rfl, (HR.out.1.keep WW (fun b o hb _ h => by obtain ⟨h1, h2⟩ := hb; omega)).mono (fun b _ h => Or.inl ⟨rfl, h⟩), (HR.out.2.1.keep WW (fun b o hb _ h => by obtain ⟨h1, h2⟩ := hb; omega)).mono (fun b _ h => Or.inr (Or.inl ⟨rfl, h⟩)), (HR.out.2.2.keep WW (fun b o hb _ h => by obtain ⟨h1, h2⟩ := hb; omega)).mono (fun b _ h => Or.inr (Or.inr ⟨rfl, h⟩))⟩,
      fun i j b h1 h2 => by rcases h1 with ⟨rfl, _, _⟩ | ⟨rfl, _, _⟩ | ⟨rfl, _, _⟩ <;> rcases h2 with ⟨rfl, _, _⟩ | ⟨rfl, _, _⟩ | ⟨rfl, _, _⟩ <;> first | rfl | omega,
      fun i b h => by have := WW.size; have := hp3.out; rcases h with ⟨rfl, _, _⟩ | ⟨rfl, _, _⟩ | ⟨rfl, _, _⟩ <;> omega⟩, L0.trans (WW.below L0.size (fun b o hb h => by omega))⟩
  refine ⟨_, rfl, key _ ?_⟩
  iterate 4 (refine Wrote.setCell ?_ (fun _ => by omega) _)
  exact Wrote.refl _ _
end Go.Proofs.YtpaedkefmebjjarGreat
namespace Go.Proofs.YtpaedkefmebjjarGreat
set_option linter.unusedVariables false
set_option linter.unusedSimpArgs false
open Go.ChangeShapes Go.WideShapes Go.ChangeAt Go.RowKit
/-- A console in step, in numbers. -/
structure LockD where
  m : Nat
  ln : Nat → Nat
  f : Nat → Nat → Int
  np : Nat
  p : Nat → Int
  nr : Nat
  g : Nat → Int
  bank : Int
  A : Int
  X : Int
  S : Int
  Pc : Int
  Z : Bool
  N : Bool
  C : Bool
  I : Bool
  t : Int
  c : Int
  s : Int
  ad : Int
  pl : Int
  bl : Bool
  nt : Nat
  tb : Nat → Int
  nd : Nat
  dt : Nat → Int
  T : Int
  P : Int
  K : Int
  B : Int
  L : Int
  Q : Bool
  R : Bool
  hd : Bool
  sh : Int
  nmi : Bool
  st : Int
  mf : Nat
  lf : Nat → Nat
  fr : Nat → Nat → Int
  ns : Nat
  sm : Nat → Int
  nq : Nat
  rd : Nat → Int
/-- A console in step on blocks of seven kinds. -/
structure LockOn (W : World) (D : Nat → Nat → Prop) (v : Value) (d : LockD) : Prop where
  ex : ∃ u0 u1 u2 u3 u4 u5 u6 u7, v = .agg #[u0, u1, u2, .int .i64 d.bank, .int .i64 d.A, .int .i64 d.X, .int .i64 d.S, .int .i64 d.Pc, .bool d.Z, .bool d.N, .bool d.C, .bool d.I, .int .i64 d.t, .int .i64 d.c, .int .i64 d.s, .int .i64 d.ad, .int .i64 d.pl, .bool d.bl, u3, u4, .int .i64 d.T, .int .i64 d.P, .int .i64 d.K, .int .i64 d.B, .int .i64 d.L, .bool d.Q, .bool d.R, .bool d.hd, .int .i64 d.sh, .bool d.nmi, .int .i64 d.st, u5, u6, u7] ∧ SsOn W (D 0) u0 d.m d.ln d.f ∧ ListOn W (D 1) u1 d.np d.p ∧ MemOn W (D 2) (.agg #[u2, .int .i64 d.bank]) d.nr d.g d.bank ∧ PpuOn W (D 3) (.agg #[.int .i64 d.t, .int .i64 d.c, .int .i64 d.s, .int .i64 d.ad, .int .i64 d.pl, .bool d.bl, u3, u4]) d.t d.c d.s d.ad d.pl d.bl d.nt d.tb d.nd d.dt ∧ ObsOn W D (.agg #[u5, u6, u7]) d.mf d.lf d.fr d.ns d.sm d.nq d.rd
section
variable {R : Nat → Nat → Prop} {W W' : World} {D E : Nat → Nat → Prop} {v : Value} {d : LockD}
theorem ObsOn.keep {mf : Nat} {lf : Nat → Nat} {fr : Nat → Nat → Int} {ns : Nat} {sm : Nat → Int} {nq : Nat} {rd : Nat → Int} (H : ObsOn W D v mf lf fr ns sm nq rd) (hw : Wrote R W W') (hd : ∀ i b o, 4 ≤ i → D i b → b < W.heap.size → ¬ R b o) : ObsOn W' D v mf lf fr ns sm nq rd := by
  obtain ⟨u5, u6, u7, e, h5, h6, h7⟩ := H
  exact ⟨u5, u6, u7, e, h5.keep hw (fun b o => hd 4 b o (by decide)), h6.keep hw (fun b o => hd 5 b o (by decide)), h7.keep hw (fun b o => hd 6 b o (by decide))⟩
theorem ObsOn.mono {mf : Nat} {lf : Nat → Nat} {fr : Nat → Nat → Int} {ns : Nat} {sm : Nat → Int} {nq : Nat} {rd : Nat → Int} (H : ObsOn W D v mf lf fr ns sm nq rd) (hd : ∀ i b, b < W.heap.size → D i b → E i b) : ObsOn W E v mf lf fr ns sm nq rd := by
  obtain ⟨u5, u6, u7, e, h5, h6, h7⟩ := H
  exact ⟨u5, u6, u7, e, h5.mono (hd 4), h6.mono (hd 5), h7.mono (hd 6)⟩
theorem LockOn.keep (H : LockOn W D v d) (hw : Wrote R W W') (hd : ∀ i b o, D i b → b < W.heap.size → ¬ R b o) : LockOn W' D v d := by
  obtain ⟨u0, u1, u2, u3, u4, u5, u6, u7, e, h0, h1, h2, h3, h4⟩ := H
  exact ⟨u0, u1, u2, u3, u4, u5, u6, u7, e, h0.keep hw (hd 0), h1.keep hw (hd 1), h2.keep hw (hd 2), h3.keep hw (hd 3), h4.keep hw (fun i b o _ => hd i b o)⟩
theorem LockOn.below (H : LockOn W D v d) (L : Below W.heap.size W W') : LockOn W' D v d := H.keep (wrote_below L Nowhere) (fun _ _ _ _ _ x => x)
theorem LockOn.mono (H : LockOn W D v d) (hd : ∀ i b, b < W.heap.size → D i b → E i b) : LockOn W E v d := by
  obtain ⟨u0, u1, u2, u3, u4, u5, u6, u7, e, h0, h1, h2, h3, h4⟩ := H
  exact ⟨u0, u1, u2, u3, u4, u5, u6, u7, e, h0.mono (hd 0), h1.mono (hd 1), h2.mono (hd 2), h3.mono (hd 3), h4.mono hd⟩
/-- The value of a console is a row of 34 cells. -/
theorem LockOn.form (H : LockOn W D v d) : ∃ x0 x1 x2 x3 x4 x5 x6 x7 x8 x9 x10 x11 x12 x13 x14 x15 x16 x17 x18 x19 x20 x21 x22 x23 x24 x25 x26 x27 x28 x29 x30 x31 x32 x33, v = .agg #[x0, x1, x2, x3, x4, x5, x6, x7, x8, x9, x10, x11, x12, x13, x14, x15, x16, x17, x18, x19, x20, x21, x22, x23, x24, x25, x26, x27, x28, x29, x30, x31, x32, x33] := by
  obtain ⟨u0, u1, u2, u3, u4, u5, u6, u7, e, -⟩ := H
  exact ⟨_, _, _, _, _, _, _, _, _, _, _, _, _, _, _, _, _, _, _, _, _, _, _, _, _, _, _, _, _, _, _, _, _, _, e⟩
end
/-- The same console with its lists marked from k on. -/
def markD (d : LockD) (k : Int) : LockD := { d with
  f := fun i j => k + psum d.ln i + j
  p := fun i => k + psum d.ln d.m + i
  g := fun i => k + psum d.ln d.m + d.np + i
  tb := fun i => k + psum d.ln d.m + d.np + d.nr + i
  dt := fun i => k + psum d.ln d.m + d.np + d.nr + d.nt + i
  fr := fun i j => k + psum d.ln d.m + d.np + d.nr + d.nt + d.nd + psum d.lf i + j
  sm := fun i => k + psum d.ln d.m + d.np + d.nr + d.nt + d.nd + psum d.lf d.mf + i
  rd := fun i => k + psum d.ln d.m + d.np + d.nr + d.nt + d.nd + psum d.lf d.mf + d.ns + i }
def markN (d : LockD) : Int := psum d.ln d.m + d.np + d.nr + d.nt + d.nd + psum d.lf d.mf + d.ns + d.nq
set_option maxHeartbeats 4000000 in
theorem onEqLock (w : World) (D E : Nat → Nat → Prop) (v u : Value) (d : LockD) (H : LockOn w D v d) (K : LockOn w E u d) :
    Calls Tryz.prog 9 #[v, u] w fun e w' => e = .returned (.bool true) ∧ Below w.heap.size w w' := by
  obtain ⟨u0, u1, u2, u3, u4, u5, u6, u7, rfl, h0, h1, h2, h3, h4⟩ := H
  obtain ⟨v0, v1, v2, v3, v4, v5, v6, v7, rfl, k0, k1, k2, k3, k4⟩ := K
  have L0 : Below w.heap.size w ((w.alloc (.cells #[u0, u1, u2, .int .i64 d.bank, .int .i64 d.A, .int .i64 d.X, .int .i64 d.S, .int .i64 d.Pc, .bool d.Z, .bool d.N, .bool d.C, .bool d.I, .int .i64 d.t, .int .i64 d.c, .int .i64 d.s, .int .i64 d.ad, .int .i64 d.pl, .bool d.bl, u3, u4, .int .i64 d.T, .int .i64 d.P, .int .i64 d.K, .int .i64 d.B, .int .i64 d.L, .bool d.Q, .bool d.R, .bool d.hd, .int .i64 d.sh, .bool d.nmi, .int .i64 d.st, u5, u6, u7] 49)).alloc (.cells #[v0, v1, v2, .int .i64 d.bank, .int .i64 d.A, .int .i64 d.X, .int .i64 d.S, .int .i64 d.Pc, .bool d.Z, .bool d.N, .bool d.C, .bool d.I, .int .i64 d.t, .int .i64 d.c, .int .i64 d.s, .int .i64 d.ad, .int .i64 d.pl, .bool d.bl, v3, v4, .int .i64 d.T, .int .i64 d.P, .int .i64 d.K, .int .i64 d.B, .int .i64 d.L, .bool d.Q, .bool d.R, .bool d.hd, .int .i64 d.sh, .bool d.nmi, .int .i64 d.st, v5, v6, v7] 49)) := ((Below.refl _ _).alloc (Nat.le_refl _) _).alloc (by simp) _
  have B0 : ((w.alloc (.cells #[u0, u1, u2, .int .i64 d.bank, .int .i64 d.A, .int .i64 d.X, .int .i64 d.S, .int .i64 d.Pc, .bool d.Z, .bool d.N, .bool d.C, .bool d.I, .int .i64 d.t, .int .i64 d.c, .int .i64 d.s, .int .i64 d.ad, .int .i64 d.pl, .bool d.bl, u3, u4, .int .i64 d.T, .int .i64 d.P, .int .i64 d.K, .int .i64 d.B, .int .i64 d.L, .bool d.Q, .bool d.R, .bool d.hd, .int .i64 d.sh, .bool d.nmi, .int .i64 d.st, u5, u6, u7] 49)).alloc (.cells #[v0, v1, v2, .int .i64 d.bank, .int .i64 d.A, .int .i64 d.X, .int .i64 d.S, .int .i64 d.Pc, .bool d.Z, .bool d.N, .bool d.C, .bool d.I, .int .i64 d.t, .int .i64 d.c, .int .i64 d.s, .int .i64 d.ad, .int .i64 d.pl, .bool d.bl, v3, v4, .int .i64 d.T, .int .i64 d.P, .int .i64 d.K, .int .i64 d.B, .int .i64 d.L, .bool d.Q, .bool d.R, .bool d.hd, .int .i64 d.sh, .bool d.nmi, .int .i64 d.st, v5, v6, v7] 49)).heap[w.heap.size]? = some (.cells #[u0, u1, u2, .int .i64 d.bank, .int .i64 d.A, .int .i64 d.X, .int .i64 d.S, .int .i64 d.Pc, .bool d.Z, .bool d.N, .bool d.C, .bool d.I, .int .i64 d.t, .int .i64 d.c, .int .i64 d.s, .int .i64 d.ad, .int .i64 d.pl, .bool d.bl, u3, u4, .int .i64 d.T, .int .i64 d.P, .int .i64 d.K, .int .i64 d.B, .int .i64 d.L, .bool d.Q, .bool d.R, .bool d.hd, .int .i64 d.sh, .bool d.nmi, .int .i64 d.st, u5, u6, u7] 49 (0, 0)) := boxA (box_new w _ _) _
  have B1 : ((w.alloc (.cells #[u0, u1, u2, .int .i64 d.bank, .int .i64 d.A, .int .i64 d.X, .int .i64 d.S, .int .i64 d.Pc, .bool d.Z, .bool d.N, .bool d.C, .bool d.I, .int .i64 d.t, .int .i64 d.c, .int .i64 d.s, .int .i64 d.ad, .int .i64 d.pl, .bool d.bl, u3, u4, .int .i64 d.T, .int .i64 d.P, .int .i64 d.K, .int .i64 d.B, .int .i64 d.L, .bool d.Q, .bool d.R, .bool d.hd, .int .i64 d.sh, .bool d.nmi, .int .i64 d.st, u5, u6, u7] 49)).alloc (.cells #[v0, v1, v2, .int .i64 d.bank, .int .i64 d.A, .int .i64 d.X, .int .i64 d.S, .int .i64 d.Pc, .bool d.Z, .bool d.N, .bool d.C, .bool d.I, .int .i64 d.t, .int .i64 d.c, .int .i64 d.s, .int .i64 d.ad, .int .i64 d.pl, .bool d.bl, v3, v4, .int .i64 d.T, .int .i64 d.P, .int .i64 d.K, .int .i64 d.B, .int .i64 d.L, .bool d.Q, .bool d.R, .bool d.hd, .int .i64 d.sh, .bool d.nmi, .int .i64 d.st, v5, v6, v7] 49)).heap[w.heap.size + 1]? = some (.cells #[v0, v1, v2, .int .i64 d.bank, .int .i64 d.A, .int .i64 d.X, .int .i64 d.S, .int .i64 d.Pc, .bool d.Z, .bool d.N, .bool d.C, .bool d.I, .int .i64 d.t, .int .i64 d.c, .int .i64 d.s, .int .i64 d.ad, .int .i64 d.pl, .bool d.bl, v3, v4, .int .i64 d.T, .int .i64 d.P, .int .i64 d.K, .int .i64 d.B, .int .i64 d.L, .bool d.Q, .bool d.R, .bool d.hd, .int .i64 d.sh, .bool d.nmi, .int .i64 d.st, v5, v6, v7] 49 (0, 0)) := by simpa using box_new (w.alloc (.cells #[u0, u1, u2, .int .i64 d.bank, .int .i64 d.A, .int .i64 d.X, .int .i64 d.S, .int .i64 d.Pc, .bool d.Z, .bool d.N, .bool d.C, .bool d.I, .int .i64 d.t, .int .i64 d.c, .int .i64 d.s, .int .i64 d.ad, .int .i64 d.pl, .bool d.bl, u3, u4, .int .i64 d.T, .int .i64 d.P, .int .i64 d.K, .int .i64 d.B, .int .i64 d.L, .bool d.Q, .bool d.R, .bool d.hd, .int .i64 d.sh, .bool d.nmi, .int .i64 d.st, u5, u6, u7] 49)) #[v0, v1, v2, .int .i64 d.bank, .int .i64 d.A, .int .i64 d.X, .int .i64 d.S, .int .i64 d.Pc, .bool d.Z, .bool d.N, .bool d.C, .bool d.I, .int .i64 d.t, .int .i64 d.c, .int .i64 d.s, .int .i64 d.ad, .int .i64 d.pl, .bool d.bl, v3, v4, .int .i64 d.T, .int .i64 d.P, .int .i64 d.K, .int .i64 d.B, .int .i64 d.L, .bool d.Q, .bool d.R, .bool d.hd, .int .i64 d.sh, .bool d.nmi, .int .i64 d.st, v5, v6, v7] 49
  replace h0 := h0.below L0
  replace k0 := k0.below L0
  replace h1 := h1.below L0
  replace k1 := k1.below L0
  replace h2 := h2.below L0
  replace k2 := k2.below L0
  replace h3 := h3.below L0
  replace k3 := k3.below L0
  replace h4 := h4.keep (wrote_below L0 Nowhere) (fun _ _ _ _ _ _ x => x)
  replace k4 := k4.keep (wrote_below L0 Nowhere) (fun _ _ _ _ _ _ x => x)
  have hnn : (d.nmi != d.nmi) = false := by simp
  go_enter Tryz.func9, Tryz.ntmps9
  go_wp2_with fail
  generalize (w.alloc (.cells #[u0, u1, u2, .int .i64 d.bank, .int .i64 d.A, .int .i64 d.X, .int .i64 d.S, .int .i64 d.Pc, .bool d.Z, .bool d.N, .bool d.C, .bool d.I, .int .i64 d.t, .int .i64 d.c, .int .i64 d.s, .int .i64 d.ad, .int .i64 d.pl, .bool d.bl, u3, u4, .int .i64 d.T, .int .i64 d.P, .int .i64 d.K, .int .i64 d.B, .int .i64 d.L, .bool d.Q, .bool d.R, .bool d.hd, .int .i64 d.sh, .bool d.nmi, .int .i64 d.st, u5, u6, u7] 49)).alloc (.cells #[v0, v1, v2, .int .i64 d.bank, .int .i64 d.A, .int .i64 d.X, .int .i64 d.S, .int .i64 d.Pc, .bool d.Z, .bool d.N, .bool d.C, .bool d.I, .int .i64 d.t, .int .i64 d.c, .int .i64 d.s, .int .i64 d.ad, .int .i64 d.pl, .bool d.bl, v3, v4, .int .i64 d.T, .int .i64 d.P, .int .i64 d.K, .int .i64 d.B, .int .i64 d.L, .bool d.Q, .bool d.R, .bool d.hd, .int .i64 d.sh, .bool d.nmi, .int .i64 d.st, v5, v6, v7] 49) = W0 at *
  refine (onEqImg _ _ _ _ _ d.m d.ln d.f h0 k0).mono ?_
  rintro e W1 ⟨rfl, L⟩
  replace L0 := below_snoc L0 L
  replace B0 := box_keep B0 L (boxLt B0)
  replace B1 := box_keep B1 L (boxLt B1)
  clear h0 k0
  replace h1 := h1.below L
  replace k1 := k1.below L
  replace h2 := h2.below L
  replace k2 := k2.below L
  replace h3 := h3.below L
  replace k3 := k3.below L
  replace h4 := h4.keep (wrote_below L Nowhere) (fun _ _ _ _ _ _ x => x)
  replace k4 := k4.keep (wrote_below L Nowhere) (fun _ _ _ _ _ _ x => x)
  clear L
  have c0 := boxC B0
  have c1 := boxC B1
  go_wp2_with fail
  clear c0 c1
  refine (onEqList _ _ _ _ _ d.np d.p h1 k1).mono ?_
  rintro e W2 ⟨rfl, L⟩
  replace L0 := below_snoc L0 L
  replace B0 := box_keep B0 L (boxLt B0)
  replace B1 := box_keep B1 L (boxLt B1)
  clear h1 k1
  replace h2 := h2.below L
  replace k2 := k2.below L
  replace h3 := h3.below L
  replace k3 := k3.below L
  replace h4 := h4.keep (wrote_below L Nowhere) (fun _ _ _ _ _ _ x => x)
  replace k4 := k4.keep (wrote_below L Nowhere) (fun _ _ _ _ _ _ x => x)
  clear L
  have c0 := boxC B0
  have c1 := boxC B1
  go_wp2_with fail
  clear c0 c1
  refine (onEqMem _ _ _ _ _ d.nr d.g d.bank h2 k2).mono ?_
  rintro e W3 ⟨rfl, L⟩
  replace L0 := below_snoc L0 L
  replace B0 := box_keep B0 L (boxLt B0)
  replace B1 := box_keep B1 L (boxLt B1)
  clear h2 k2
  replace h3 := h3.below L
  replace k3 := k3.below L
  replace h4 := h4.keep (wrote_below L Nowhere) (fun _ _ _ _ _ _ x => x)
  replace k4 := k4.keep (wrote_below L Nowhere) (fun _ _ _ _ _ _ x => x)
  clear L
  have c0 := boxC B0
  have c1 := boxC B1
  go_wp2_with fail
  clear c0 c1
  refine (eqCpu_same _ d.A d.X d.S d.Pc d.Z d.N d.C d.I).mono ?_
  rintro e W4 ⟨rfl, L⟩
  replace L0 := below_snoc L0 L
  replace B0 := box_keep B0 L (boxLt B0)
  replace B1 := box_keep B1 L (boxLt B1)
  replace h3 := h3.below L
  replace k3 := k3.below L
  replace h4 := h4.keep (wrote_below L Nowhere) (fun _ _ _ _ _ _ x => x)
  replace k4 := k4.keep (wrote_below L Nowhere) (fun _ _ _ _ _ _ x => x)
  clear L
  have c0 := boxC B0
  have c1 := boxC B1
  go_wp2_with fail
  clear c0 c1
  refine (onEqPpu _ _ _ _ _ d.t d.c d.s d.ad d.pl d.bl d.nt d.tb d.nd d.dt h3 k3).mono ?_
  rintro e W5 ⟨rfl, L⟩
  replace L0 := below_snoc L0 L
  replace B0 := box_keep B0 L (boxLt B0)
  replace B1 := box_keep B1 L (boxLt B1)
  clear h3 k3
  replace h4 := h4.keep (wrote_below L Nowhere) (fun _ _ _ _ _ _ x => x)
  replace k4 := k4.keep (wrote_below L Nowhere) (fun _ _ _ _ _ _ x => x)
  clear L
  have c0 := boxC B0
  have c1 := boxC B1
  go_wp2_with fail
  clear c0 c1
  refine (eqApu_same _ d.T d.P d.K d.B d.L d.Q d.R).mono ?_
  rintro e W6 ⟨rfl, L⟩
  replace L0 := below_snoc L0 L
  replace B0 := box_keep B0 L (boxLt B0)
  replace B1 := box_keep B1 L (boxLt B1)
  replace h4 := h4.keep (wrote_below L Nowhere) (fun _ _ _ _ _ _ x => x)
  replace k4 := k4.keep (wrote_below L Nowhere) (fun _ _ _ _ _ _ x => x)
  clear L
  have c0 := boxC B0
  have c1 := boxC B1
  go_wp2_with fail
  clear c0 c1
  refine (eqPad_same _ d.hd d.sh).mono ?_
  rintro e W7 ⟨rfl, L⟩
  replace L0 := below_snoc L0 L
  replace B0 := box_keep B0 L (boxLt B0)
  replace B1 := box_keep B1 L (boxLt B1)
  replace h4 := h4.keep (wrote_below L Nowhere) (fun _ _ _ _ _ _ x => x)
  replace k4 := k4.keep (wrote_below L Nowhere) (fun _ _ _ _ _ _ x => x)
  clear L
  have c0 := boxC B0
  have c1 := boxC B1
  go_wp2_with fail
  clear c0 c1
  refine (onEqObs _ _ _ _ _ d.mf d.lf d.fr d.ns d.sm d.nq d.rd h4 k4).mono ?_
  rintro e W8 ⟨rfl, L⟩
  replace L0 := below_snoc L0 L
  clear h4 k4
  clear L
  go_wp2
  go_ret
  exact ⟨rfl, L0⟩
set_option maxHeartbeats 4000000 in
theorem onMarkLock (w : World) (D : Nat → Nat → Prop) (v : Value) (d : LockD) (k : Int) (H : LockOn w D v d) (dis : Dis D) (lt : ∀ i b, D i b → b < w.heap.size) (k0 : 0 ≤ k) (k1 : k + markN d ≤ 1099511627776) :
    Calls Tryz.prog 10 #[v, .int .i64 k] w fun e w' => e = .returned (.int .i64 (k + markN d)) ∧ LockOn w' D v (markD d k) ∧ Wrote (fun b _ => ∃ i, D i b) w w' := by
  obtain ⟨u0, u1, u2, u3, u4, u5, u6, u7, rfl, h0, h1, h2, h3, h4⟩ := H
  have L0 : Below w.heap.size w (w.alloc (.cells #[u0, u1, u2, .int .i64 d.bank, .int .i64 d.A, .int .i64 d.X, .int .i64 d.S, .int .i64 d.Pc, .bool d.Z, .bool d.N, .bool d.C, .bool d.I, .int .i64 d.t, .int .i64 d.c, .int .i64 d.s, .int .i64 d.ad, .int .i64 d.pl, .bool d.bl, u3, u4, .int .i64 d.T, .int .i64 d.P, .int .i64 d.K, .int .i64 d.B, .int .i64 d.L, .bool d.Q, .bool d.R, .bool d.hd, .int .i64 d.sh, .bool d.nmi, .int .i64 d.st, u5, u6, u7] 49)) := (Below.refl _ _).alloc (Nat.le_refl _) _
  have B0 := box_new w #[u0, u1, u2, .int .i64 d.bank, .int .i64 d.A, .int .i64 d.X, .int .i64 d.S, .int .i64 d.Pc, .bool d.Z, .bool d.N, .bool d.C, .bool d.I, .int .i64 d.t, .int .i64 d.c, .int .i64 d.s, .int .i64 d.ad, .int .i64 d.pl, .bool d.bl, u3, u4, .int .i64 d.T, .int .i64 d.P, .int .i64 d.K, .int .i64 d.B, .int .i64 d.L, .bool d.Q, .bool d.R, .bool d.hd, .int .i64 d.sh, .bool d.nmi, .int .i64 d.st, u5, u6, u7] 49
  have WW := wrote_below L0 (fun b _ => ∃ i, D i b)
  replace h0 := h0.below L0
  replace h1 := h1.below L0
  replace h2 := h2.below L0
  replace h3 := h3.below L0
  replace h4 := h4.keep (wrote_below L0 Nowhere) (fun _ _ _ _ _ _ x => x)
  obtain ⟨s0, hs0⟩ : ∃ s : Int, Hid (s = (psum d.ln d.m : Nat)) := ⟨_, rfl⟩
  obtain ⟨s5, hs5⟩ : ∃ s : Int, Hid (s = (psum d.lf d.mf : Nat)) := ⟨_, rfl⟩
  have s00 : 0 ≤ s0 := by rw [hs0.out]; omega
  have s50 : 0 ≤ s5 := by rw [hs5.out]; omega
  have hN : Hid (k + markN d = k + s0 + d.np + d.nr + d.nt + d.nd + s5 + d.ns + d.nq) := by
    show _ = _
    unfold markN
    rw [hs0.out, hs5.out]
    omega
  rw [hN.out] at k1 ⊢
  have hlt : ∀ i b, D i b → b < (w.alloc (.cells #[u0, u1, u2, .int .i64 d.bank, .int .i64 d.A, .int .i64 d.X, .int .i64 d.S, .int .i64 d.Pc, .bool d.Z, .bool d.N, .bool d.C, .bool d.I, .int .i64 d.t, .int .i64 d.c, .int .i64 d.s, .int .i64 d.ad, .int .i64 d.pl, .bool d.bl, u3, u4, .int .i64 d.T, .int .i64 d.P, .int .i64 d.K, .int .i64 d.B, .int .i64 d.L, .bool d.Q, .bool d.R, .bool d.hd, .int .i64 d.sh, .bool d.nmi, .int .i64 d.st, u5, u6, u7] 49)).heap.size := fun i b h => by have := lt i b h; simp; omega
  have M0 := hide (fun W h => onMarkImg W (D 0) u0 d.m d.ln d.f k h k0 (by omega))
  have M4 := hide (fun W h l => onMarkObs W D (.agg #[u5, u6, u7]) d.mf d.lf d.fr d.ns d.sm d.nq d.rd (k + s0 + d.np + d.nr + d.nt + d.nd) h dis l (by omega) (by rw [← hs5.out]; omega))
  rw [← hs0.out] at M0
  rw [← hs5.out] at M4
  go_enter Tryz.func10, Tryz.ntmps10
  go_wp2_with fail
  generalize w.alloc (.cells #[u0, u1, u2, .int .i64 d.bank, .int .i64 d.A, .int .i64 d.X, .int .i64 d.S, .int .i64 d.Pc, .bool d.Z, .bool d.N, .bool d.C, .bool d.I, .int .i64 d.t, .int .i64 d.c, .int .i64 d.s, .int .i64 d.ad, .int .i64 d.pl, .bool d.bl, u3, u4, .int .i64 d.T, .int .i64 d.P, .int .i64 d.K, .int .i64 d.B, .int .i64 d.L, .bool d.Q, .bool d.R, .bool d.hd, .int .i64 d.sh, .bool d.nmi, .int .i64 d.st, u5, u6, u7] 49) = W0 at *
  refine (M0.out _ h0).mono ?_
  rintro e W1 ⟨rfl, h0, T⟩
  replace B0 := box_wrote B0 T (fun o (h : D 0 _) => by have := lt _ _ h; omega)
  replace WW := WW.trans (T.mono (fun b o _ h => ⟨0, h⟩))
  replace hlt := fun i b (h : D i b) => Nat.lt_of_lt_of_le (hlt i b h) T.size
  replace h1 := h1.keep T (fun b o hb _ h => absurd (dis _ _ b hb h) (by decide))
  replace h2 := h2.keep T (fun b o hb _ h => absurd (dis _ _ b hb h) (by decide))
  replace h3 := h3.keep T (fun b o hb _ h => absurd (dis _ _ b hb h) (by decide))
  replace h4 := h4.keep T (fun i b o hi hb _ h => by have := dis _ _ b hb h; omega)
  clear T
  have c1 := boxC B0
  go_wp2_with fail
  clear c1
  refine (onMarkList _ (D 1) _ d.np d.p (k + s0) h1 (by omega) (by omega)).mono ?_
  rintro e W2 ⟨rfl, h1, T⟩
  replace B0 := box_wrote B0 T (fun o (h : D 1 _) => by have := lt _ _ h; omega)
  replace WW := WW.trans (T.mono (fun b o _ h => ⟨1, h⟩))
  replace hlt := fun i b (h : D i b) => Nat.lt_of_lt_of_le (hlt i b h) T.size
  replace h0 := h0.keep T (fun b o hb _ h => absurd (dis _ _ b hb h) (by decide))
  replace h2 := h2.keep T (fun b o hb _ h => absurd (dis _ _ b hb h) (by decide))
  replace h3 := h3.keep T (fun b o hb _ h => absurd (dis _ _ b hb h) (by decide))
  replace h4 := h4.keep T (fun i b o hi hb _ h => by have := dis _ _ b hb h; omega)
  clear T
  have c1 := boxC B0
  go_wp2_with fail
  clear c1
  refine (onMarkMem _ (D 2) _ d.nr d.g d.bank (k + s0 + d.np) h2 (by omega) (by omega)).mono ?_
  rintro e W3 ⟨rfl, h2, T⟩
  replace B0 := box_wrote B0 T (fun o (h : D 2 _) => by have := lt _ _ h; omega)
  replace WW := WW.trans (T.mono (fun b o _ h => ⟨2, h⟩))
  replace hlt := fun i b (h : D i b) => Nat.lt_of_lt_of_le (hlt i b h) T.size
  replace h0 := h0.keep T (fun b o hb _ h => absurd (dis _ _ b hb h) (by decide))
  replace h1 := h1.keep T (fun b o hb _ h => absurd (dis _ _ b hb h) (by decide))
  replace h3 := h3.keep T (fun b o hb _ h => absurd (dis _ _ b hb h) (by decide))
  replace h4 := h4.keep T (fun i b o hi hb _ h => by have := dis _ _ b hb h; omega)
  clear T
  have c1 := boxC B0
  go_wp2_with fail
  clear c1
  refine (onMarkPpu _ (D 3) _ d.t d.c d.s d.ad d.pl d.bl d.nt d.tb d.nd d.dt (k + s0 + d.np + d.nr) h3 (by omega) (by omega)).mono ?_
  rintro e W4 ⟨rfl, h3, T⟩
  replace B0 := box_wrote B0 T (fun o (h : D 3 _) => by have := lt _ _ h; omega)
  replace WW := WW.trans (T.mono (fun b o _ h => ⟨3, h⟩))
  replace hlt := fun i b (h : D i b) => Nat.lt_of_lt_of_le (hlt i b h) T.size
  replace h0 := h0.keep T (fun b o hb _ h => absurd (dis _ _ b hb h) (by decide))
  replace h1 := h1.keep T (fun b o hb _ h => absurd (dis _ _ b hb h) (by decide))
  replace h2 := h2.keep T (fun b o hb _ h => absurd (dis _ _ b hb h) (by decide))
  replace h4 := h4.keep T (fun i b o hi hb _ h => by have := dis _ _ b hb h; omega)
  clear T
  have c1 := boxC B0
  go_wp2_with fail
  clear c1
  refine (M4.out _ h4 hlt).mono ?_
  rintro e W5 ⟨rfl, h4, T⟩
  replace WW := WW.trans (T.mono (fun b o _ h => by rcases h with h | h | h <;> exact ⟨_, h⟩))
  replace h0 := h0.keep T (fun b o hb _ h => by rcases h with h | h | h <;> exact absurd (dis _ _ b hb h) (by decide))
  replace h1 := h1.keep T (fun b o hb _ h => by rcases h with h | h | h <;> exact absurd (dis _ _ b hb h) (by decide))
  replace h2 := h2.keep T (fun b o hb _ h => by rcases h with h | h | h <;> exact absurd (dis _ _ b hb h) (by decide))
  replace h3 := h3.keep T (fun b o hb _ h => by rcases h with h | h | h <;> exact absurd (dis _ _ b hb h) (by decide))
  have HE := hide (And.intro h0 (And.intro h1 (And.intro h2 (And.intro h3 (And.intro h4 WW)))))
  clear h0 h1 h2 h3 h4 WW B0 T hlt M0 M4
  go_wp2
  go_ret
  have e0 := hs0.out
  have e5 := hs5.out
  subst e0
  subst e5
  exact ⟨rfl, ⟨_, _, _, _, _, _, _, _, rfl, HE.out.1, HE.out.2.1, HE.out.2.2.1, HE.out.2.2.2.1, HE.out.2.2.2.2.1⟩, HE.out.2.2.2.2.2⟩
set_option maxHeartbeats 4000000 in
theorem onHeldLock (w : World) (D : Nat → Nat → Prop) (v : Value) (d : LockD) (k : Int) (H : LockOn w D v (markD d k)) (k0 : 0 ≤ k) (k1 : k + markN d ≤ 1099511627776) :
    Calls Tryz.prog 11 #[v, .int .i64 k] w fun e w' => e = .returned (.int .i64 (k + markN d)) ∧ Below w.heap.size w w' := by
  obtain ⟨u0, u1, u2, u3, u4, u5, u6, u7, e, h0, h1, h2, h3, h4⟩ := H
  replace e : v = .agg #[u0, u1, u2, .int .i64 d.bank, .int .i64 d.A, .int .i64 d.X, .int .i64 d.S, .int .i64 d.Pc, .bool d.Z, .bool d.N, .bool d.C, .bool d.I, .int .i64 d.t, .int .i64 d.c, .int .i64 d.s, .int .i64 d.ad, .int .i64 d.pl, .bool d.bl, u3, u4, .int .i64 d.T, .int .i64 d.P, .int .i64 d.K, .int .i64 d.B, .int .i64 d.L, .bool d.Q, .bool d.R, .bool d.hd, .int .i64 d.sh, .bool d.nmi, .int .i64 d.st, u5, u6, u7] := e
  subst e
  have L0 : Below w.heap.size w (w.alloc (.cells #[u0, u1, u2, .int .i64 d.bank, .int .i64 d.A, .int .i64 d.X, .int .i64 d.S, .int .i64 d.Pc, .bool d.Z, .bool d.N, .bool d.C, .bool d.I, .int .i64 d.t, .int .i64 d.c, .int .i64 d.s, .int .i64 d.ad, .int .i64 d.pl, .bool d.bl, u3, u4, .int .i64 d.T, .int .i64 d.P, .int .i64 d.K, .int .i64 d.B, .int .i64 d.L, .bool d.Q, .bool d.R, .bool d.hd, .int .i64 d.sh, .bool d.nmi, .int .i64 d.st, u5, u6, u7] 49)) := (Below.refl _ _).alloc (Nat.le_refl _) _
  have B0 := box_new w #[u0, u1, u2, .int .i64 d.bank, .int .i64 d.A, .int .i64 d.X, .int .i64 d.S, .int .i64 d.Pc, .bool d.Z, .bool d.N, .bool d.C, .bool d.I, .int .i64 d.t, .int .i64 d.c, .int .i64 d.s, .int .i64 d.ad, .int .i64 d.pl, .bool d.bl, u3, u4, .int .i64 d.T, .int .i64 d.P, .int .i64 d.K, .int .i64 d.B, .int .i64 d.L, .bool d.Q, .bool d.R, .bool d.hd, .int .i64 d.sh, .bool d.nmi, .int .i64 d.st, u5, u6, u7] 49
  replace h0 := h0.below L0
  replace h1 := h1.below L0
  replace h2 := h2.below L0
  replace h3 := h3.below L0
  replace h4 := h4.keep (wrote_below L0 Nowhere) (fun _ _ _ _ _ _ x => x)
  obtain ⟨s0, hs0⟩ : ∃ s : Int, Hid (s = (psum d.ln d.m : Nat)) := ⟨_, rfl⟩
  obtain ⟨s5, hs5⟩ : ∃ s : Int, Hid (s = (psum d.lf d.mf : Nat)) := ⟨_, rfl⟩
  have s00 : 0 ≤ s0 := by rw [hs0.out]; omega
  have s50 : 0 ≤ s5 := by rw [hs5.out]; omega
  have hN : Hid (k + markN d = k + s0 + d.np + d.nr + d.nt + d.nd + s5 + d.ns + d.nq) := by
    show _ = _
    unfold markN
    rw [hs0.out, hs5.out]
    omega
  rw [hN.out] at k1 ⊢
  have M0 : Hid (∀ W, SsOn W (D 0) u0 d.m d.ln (markD d k).f → Calls Tryz.prog 46 #[.agg #[u0], .int .i64 k] W fun e w' => e = .returned (.int .i64 (k + s0)) ∧ Below W.heap.size W w') := fun W h => by rw [hs0.out]; exact onHeldImg W (D 0) u0 d.m d.ln k h k0 (by omega)
  have M1 : Hid (∀ W, ListOn W (D 1) u1 d.np (markD d k).p → Calls Tryz.prog 47 #[u1, .int .i64 (k + s0)] W fun e w' => e = .returned (.int .i64 (k + s0 + d.np)) ∧ Below W.heap.size W w') := fun W h => onHeldList W (D 1) u1 d.np (k + s0) (by rw [hs0.out]; exact h) (by omega) (by omega)
  have M2 : Hid (∀ W, MemOn W (D 2) (.agg #[u2, .int .i64 d.bank]) d.nr (markD d k).g d.bank → Calls Tryz.prog 48 #[.agg #[u2, .int .i64 d.bank], .int .i64 (k + s0 + d.np)] W fun e w' => e = .returned (.int .i64 (k + s0 + d.np + d.nr)) ∧ Below W.heap.size W w') := fun W h => onHeldMem W (D 2) _ d.nr d.bank (k + s0 + d.np) (by rw [hs0.out]; exact h) (by omega) (by omega)
  have M3 : Hid (∀ W, PpuOn W (D 3) (.agg #[.int .i64 d.t, .int .i64 d.c, .int .i64 d.s, .int .i64 d.ad, .int .i64 d.pl, .bool d.bl, u3, u4]) d.t d.c d.s d.ad d.pl d.bl d.nt (markD d k).tb d.nd (markD d k).dt → Calls Tryz.prog 49 #[.agg #[.int .i64 d.t, .int .i64 d.c, .int .i64 d.s, .int .i64 d.ad, .int .i64 d.pl, .bool d.bl, u3, u4], .int .i64 (k + s0 + d.np + d.nr)] W fun e w' => e = .returned (.int .i64 (k + s0 + d.np + d.nr + d.nt + d.nd)) ∧ Below W.heap.size W w') := fun W h => onHeldPpu W (D 3) _ d.t d.c d.s d.ad d.pl d.bl d.nt d.nd (k + s0 + d.np + d.nr) (by rw [hs0.out]; exact h) (by omega) (by omega)
  have M4 : Hid (∀ W, ObsOn W D (.agg #[u5, u6, u7]) d.mf d.lf (markD d k).fr d.ns (markD d k).sm d.nq (markD d k).rd → Calls Tryz.prog 50 #[.agg #[u5, u6, u7], .int .i64 (k + s0 + d.np + d.nr + d.nt + d.nd)] W fun e w' => e = .returned (.int .i64 (k + s0 + d.np + d.nr + d.nt + d.nd + s5 + d.ns + d.nq)) ∧ Below W.heap.size W w') := fun W h => by
    have e0 := hs0.out
    have e5 := hs5.out
    subst e0
    subst e5
    exact onHeldObs W D _ d.mf d.lf d.ns d.nq _ h (by omega) (by omega)
  clear hs0 hs5
  have H0 := hide h0
  have H1 := hide h1
  have H2 := hide h2
  have H3 := hide h3
  have H4 := hide h4
  clear h0 h1 h2 h3 h4
  go_enter Tryz.func11, Tryz.ntmps11
  go_wp2_with fail
  generalize w.alloc (.cells #[u0, u1, u2, .int .i64 d.bank, .int .i64 d.A, .int .i64 d.X, .int .i64 d.S, .int .i64 d.Pc, .bool d.Z, .bool d.N, .bool d.C, .bool d.I, .int .i64 d.t, .int .i64 d.c, .int .i64 d.s, .int .i64 d.ad, .int .i64 d.pl, .bool d.bl, u3, u4, .int .i64 d.T, .int .i64 d.P, .int .i64 d.K, .int .i64 d.B, .int .i64 d.L, .bool d.Q, .bool d.R, .bool d.hd, .int .i64 d.sh, .bool d.nmi, .int .i64 d.st, u5, u6, u7] 49) = W0 at *
  refine (M0.out _ H0.out).mono ?_
  rintro e W1 ⟨rfl, L⟩
  replace L0 := below_snoc L0 L
  replace B0 := box_keep B0 L (boxLt B0)
  replace H1 := hide (H1.out.below L)
  replace H2 := hide (H2.out.below L)
  replace H3 := hide (H3.out.below L)
  replace H4 := hide (H4.out.keep (wrote_below L Nowhere) (fun _ _ _ _ _ _ x => x))
  clear L M0 H0
  have c1 := boxC B0
  go_wp2_with fail
  clear c1
  refine (M1.out _ H1.out).mono ?_
  rintro e W2 ⟨rfl, L⟩
  replace L0 := below_snoc L0 L
  replace B0 := box_keep B0 L (boxLt B0)
  replace H2 := hide (H2.out.below L)
  replace H3 := hide (H3.out.below L)
  replace H4 := hide (H4.out.keep (wrote_below L Nowhere) (fun _ _ _ _ _ _ x => x))
  clear L M1 H1
  have c1 := boxC B0
  go_wp2_with fail
  clear c1
  refine (M2.out _ H2.out).mono ?_
  rintro e W3 ⟨rfl, L⟩
  replace L0 := below_snoc L0 L
  replace B0 := box_keep B0 L (boxLt B0)
  replace H3 := hide (H3.out.below L)
  replace H4 := hide (H4.out.keep (wrote_below L Nowhere) (fun _ _ _ _ _ _ x => x))
  clear L M2 H2
  have c1 := boxC B0
  go_wp2_with fail
  clear c1
  refine (M3.out _ H3.out).mono ?_
  rintro e W4 ⟨rfl, L⟩
  replace L0 := below_snoc L0 L
  replace B0 := box_keep B0 L (boxLt B0)
  replace H4 := hide (H4.out.keep (wrote_below L Nowhere) (fun _ _ _ _ _ _ x => x))
  clear L M3 H3
  have c1 := boxC B0
  go_wp2_with fail
  clear c1
  refine (M4.out _ H4.out).mono ?_
  rintro e W5 ⟨rfl, L⟩
  replace L0 := below_snoc L0 L
  clear L M4 H4
  go_wp2
  go_ret
  exact ⟨rfl, L0⟩
def szD (d : LockD) : Nat := d.m + psum d.ln d.m + d.np + d.nr + (d.nt + d.nd) + (d.mf + psum d.lf d.mf + d.ns + d.nq)
set_option maxHeartbeats 4000000 in
theorem szLock (w : World) (d : LockD) (u0 : Value) (ra0 : Nat → Option Addr) (rc0 : Nat → Nat) (a1 : Option Addr) (c1 : Nat) (a2 : Option Addr) (c2 : Nat) (a3 : Option Addr) (c3 : Nat) (a4 : Option Addr) (c4 : Nat) (u5 : Value) (ra5 : Nat → Option Addr) (rc5 : Nat → Nat) (a6 : Option Addr) (c6 : Nat) (a7 : Option Addr) (c7 : Nat) (left : Int)
    (H0 : RawSS w u0 d.m ra0 d.ln rc0 d.f) (H5 : RawSS w u5 d.mf ra5 d.lf rc5 d.fr) (h1 : d.np ≤ 9223372036854775807) (h2 : d.nr ≤ 9223372036854775807) (h3 : d.nt ≤ 9223372036854775807) (h4 : d.nd ≤ 9223372036854775807) (h6 : d.ns ≤ 9223372036854775807) (h7 : d.nq ≤ 9223372036854775807) (l0 : 0 ≤ left) (l1 : left ≤ 1048576) :
    Calls Tryz.prog 5 #[.agg #[u0, .slice a1 d.np c1, .slice a2 d.nr c2, .int .i64 d.bank, .int .i64 d.A, .int .i64 d.X, .int .i64 d.S, .int .i64 d.Pc, .bool d.Z, .bool d.N, .bool d.C, .bool d.I, .int .i64 d.t, .int .i64 d.c, .int .i64 d.s, .int .i64 d.ad, .int .i64 d.pl, .bool d.bl, .slice a3 d.nt c3, .slice a4 d.nd c4, .int .i64 d.T, .int .i64 d.P, .int .i64 d.K, .int .i64 d.B, .int .i64 d.L, .bool d.Q, .bool d.R, .bool d.hd, .int .i64 d.sh, .bool d.nmi, .int .i64 d.st, u5, .slice a6 d.ns c6, .slice a7 d.nq c7], .int .i64 left] w fun e w' => e = .returned (.int .i64 (szOut left (szD d))) ∧ Below w.heap.size w w' := by
  have L0 : Below w.heap.size w (w.alloc (.cells #[u0, .slice a1 d.np c1, .slice a2 d.nr c2, .int .i64 d.bank, .int .i64 d.A, .int .i64 d.X, .int .i64 d.S, .int .i64 d.Pc, .bool d.Z, .bool d.N, .bool d.C, .bool d.I, .int .i64 d.t, .int .i64 d.c, .int .i64 d.s, .int .i64 d.ad, .int .i64 d.pl, .bool d.bl, .slice a3 d.nt c3, .slice a4 d.nd c4, .int .i64 d.T, .int .i64 d.P, .int .i64 d.K, .int .i64 d.B, .int .i64 d.L, .bool d.Q, .bool d.R, .bool d.hd, .int .i64 d.sh, .bool d.nmi, .int .i64 d.st, u5, .slice a6 d.ns c6, .slice a7 d.nq c7] 39)) := (Below.refl _ _).alloc (Nat.le_refl _) _
  have B0 := box_new w #[u0, .slice a1 d.np c1, .slice a2 d.nr c2, .int .i64 d.bank, .int .i64 d.A, .int .i64 d.X, .int .i64 d.S, .int .i64 d.Pc, .bool d.Z, .bool d.N, .bool d.C, .bool d.I, .int .i64 d.t, .int .i64 d.c, .int .i64 d.s, .int .i64 d.ad, .int .i64 d.pl, .bool d.bl, .slice a3 d.nt c3, .slice a4 d.nd c4, .int .i64 d.T, .int .i64 d.P, .int .i64 d.K, .int .i64 d.B, .int .i64 d.L, .bool d.Q, .bool d.R, .bool d.hd, .int .i64 d.sh, .bool d.nmi, .int .i64 d.st, u5, .slice a6 d.ns c6, .slice a7 d.nq c7] 39
  obtain ⟨r, hr⟩ : ∃ r, Hid (r = szOut left (szD d)) := ⟨_, rfl⟩
  rw [← hr.out]
  obtain ⟨s0, hs0⟩ : ∃ s, Hid (s = d.m + psum d.ln d.m) := ⟨_, rfl⟩
  obtain ⟨s5, hs5⟩ : ∃ s, Hid (s = d.mf + psum d.lf d.mf + d.ns + d.nq) := ⟨_, rfl⟩
  obtain ⟨s3, hs3⟩ : ∃ s, Hid (s = d.nt + d.nd) := ⟨_, rfl⟩
  have hz : Hid (szD d = s0 + d.np + d.nr + s3 + s5) := by show _ = _; rw [hs0.out, hs5.out, hs3.out]; rfl
  have NO : Hid (left < ((s0 + d.np + d.nr + s3 + s5 : Nat) : Int) → r = -1) := fun h => by rw [hr.out, hz.out]; exact szOut_no h
  have YES : Hid (((s0 + d.np + d.nr + s3 + s5 : Nat) : Int) ≤ left → r = left - s0 - d.np - d.nr - s3 - s5) := fun h => by rw [hr.out, hz.out, szOut_ok h]; omega
  have Z0 := hide (fun W h l a b => szImage W u0 d.m ra0 d.ln rc0 d.f h l a b)
  have Z5 := hide (fun W h l a b => szObs W u5 d.mf ra5 d.lf rc5 d.fr a6 d.ns c6 a7 d.nq c7 l h h6 h7 a b)
  have Z3 := hide (fun W l a b => szPpu W d.t d.c d.s d.ad d.pl d.bl a3 d.nt c3 a4 d.nd c4 l h3 h4 a b)
  rw [← hs0.out] at Z0
  rw [← hs5.out] at Z5
  rw [← hs3.out] at Z3
  have R0 := hide (H0.below L0)
  have R5 := hide (H5.below L0)
  clear H0 H5 hs0 hs5 hs3 hz hr h6 h7 h3 h4
  go_enter Tryz.func5, Tryz.ntmps5
  go_wp2_with fail
  generalize w.alloc (.cells #[u0, .slice a1 d.np c1, .slice a2 d.nr c2, .int .i64 d.bank, .int .i64 d.A, .int .i64 d.X, .int .i64 d.S, .int .i64 d.Pc, .bool d.Z, .bool d.N, .bool d.C, .bool d.I, .int .i64 d.t, .int .i64 d.c, .int .i64 d.s, .int .i64 d.ad, .int .i64 d.pl, .bool d.bl, .slice a3 d.nt c3, .slice a4 d.nd c4, .int .i64 d.T, .int .i64 d.P, .int .i64 d.K, .int .i64 d.B, .int .i64 d.L, .bool d.Q, .bool d.R, .bool d.hd, .int .i64 d.sh, .bool d.nmi, .int .i64 d.st, u5, .slice a6 d.ns c6, .slice a7 d.nq c7] 39) = W0 at *
  refine (Z0.out _ R0.out _ l0 l1).mono ?_
  rintro e W1 ⟨rfl, L⟩
  replace L0 := below_snoc L0 L
  replace B0 := box_keep B0 L (boxLt B0)
  replace R5 := hide (R5.out.below L)
  clear L
  by_cases g0 : left < (s0 : Nat)
  · have HN := hide (szOut_no g0)
    have HR := hide (NO.out (by omega))
    rw [HN.out]
    go_wp2
    go_ret
    exact ⟨ret_int HR.out.symm, L0⟩
  have HY := hide (szOut_ok (left := left) (n := s0) (by omega))
  rw [HY.out]
  clear HY
  have c0 := boxC B0
  go_wp2_with fail
  clear c0
  refine (szIntS _ _ _ _ _ h1 (by omega) (by omega)).mono ?_
  rintro e W2 ⟨rfl, hw2⟩
  have L : Below W1.heap.size W1 W2 := by rw [hw2]; exact Below.refl _ _
  clear hw2
  replace L0 := below_snoc L0 L
  replace B0 := box_keep B0 L (boxLt B0)
  replace R5 := hide (R5.out.below L)
  clear L
  by_cases g1 : left - s0 < (d.np : Nat)
  · have HN := hide (szOut_no g1)
    have HR := hide (NO.out (by omega))
    rw [HN.out]
    go_wp2
    go_ret
    exact ⟨ret_int HR.out.symm, L0⟩
  have HY := hide (szOut_ok (left := left - s0) (n := d.np) (by omega))
  rw [HY.out]
  clear HY
  have c0 := boxC B0
  go_wp2_with fail
  clear c0
  refine (szMem _ _ _ _ _ _ h2 (by omega) (by omega)).mono ?_
  rintro e W3 ⟨rfl, L⟩
  replace L0 := below_snoc L0 L
  replace B0 := box_keep B0 L (boxLt B0)
  replace R5 := hide (R5.out.below L)
  clear L
  by_cases g2 : left - s0 - d.np < (d.nr : Nat)
  · have HN := hide (szOut_no g2)
    have HR := hide (NO.out (by omega))
    rw [HN.out]
    go_wp2
    go_ret
    exact ⟨ret_int HR.out.symm, L0⟩
  have HY := hide (szOut_ok (left := left - s0 - d.np) (n := d.nr) (by omega))
  rw [HY.out]
  clear HY
  have c0 := boxC B0
  go_wp2_with fail
  clear c0
  refine (Z3.out _ _ (by omega) (by omega)).mono ?_
  rintro e W4 ⟨rfl, L⟩
  replace L0 := below_snoc L0 L
  replace B0 := box_keep B0 L (boxLt B0)
  replace R5 := hide (R5.out.below L)
  clear L
  by_cases g3 : left - s0 - d.np - d.nr < (s3 : Nat)
  · have HN := hide (szOut_no g3)
    have HR := hide (NO.out (by omega))
    rw [HN.out]
    go_wp2
    go_ret
    exact ⟨ret_int HR.out.symm, L0⟩
  have HY := hide (szOut_ok (left := left - s0 - d.np - d.nr) (n := s3) (by omega))
  rw [HY.out]
  clear HY
  have c0 := boxC B0
  go_wp2_with fail
  clear c0
  refine (Z5.out _ R5.out _ (by omega) (by omega)).mono ?_
  rintro e W5 ⟨rfl, L⟩
  replace L0 := below_snoc L0 L
  replace B0 := box_keep B0 L (boxLt B0)
  clear L
  by_cases g4 : left - s0 - d.np - d.nr - s3 < (s5 : Nat)
  · have HN := hide (szOut_no g4)
    have HR := hide (NO.out (by omega))
    rw [HN.out]
    go_wp2
    go_ret
    exact ⟨ret_int HR.out.symm, L0⟩
  have HY := hide (szOut_ok (left := left - s0 - d.np - d.nr - s3) (n := s5) (by omega))
  rw [HY.out]
  clear HY
  have HR := hide (YES.out (by omega))
  go_wp2
  go_ret
  exact ⟨ret_int HR.out.symm, L0⟩
end Go.Proofs.YtpaedkefmebjjarGreat
namespace Go.Proofs.YtpaedkefmebjjarGreat
set_option linter.unusedVariables false
set_option linter.unusedSimpArgs false
open Go.ChangeShapes Go.WideShapes Go.ChangeAt Go.RowKit
theorem wrote_setRow {w : World} {g : Nat} {old : Array Value} {t : TypeId} (hg : w.heap[g]? = some (.cells old t (0, 0))) (cs : Array Value) : Wrote (fun b _ => b = g) w (w.setRow g cs) :=
  ⟨rfl, rfl, rfl, by simp [World.setRow], fun k hk hn => setRow_other _ _ _ _ (fun e => hn 0 e), fun b o hb hn => cell_setRow_other _ _ _ _ hn, fun b o hb => by
    by_cases e : b = g
    · subst e
      rw [boxF (setRow_heap _ _ _ _ _ _ hg), boxF hg]
    · simp [World.frozen?, setRow_other _ _ _ _ e]⟩
theorem infoLock : (Tryz.prog.info? 49).map (·.size) = some 34 := by kernel_rfl
/-- What the mirror of a console is laid from: eight lists that can be read. -/
structure RawL (W : World) (u0 u1 u2 u3 u4 u5 u6 u7 : Value) (d : LockD) : Prop where
  h0 : ∃ F, IntSS .i64 W F u0 d.m d.ln d.f
  h1 : ∃ F, Ints .i64 W F u1 d.np d.p
  h2 : ∃ F, Ints .i64 W F u2 d.nr d.g
  h3 : ∃ F, Ints .i64 W F u3 d.nt d.tb
  h4 : ∃ F, Ints .i64 W F u4 d.nd d.dt
  h5 : ∃ F, IntSS .i64 W F u5 d.mf d.lf d.fr
  h6 : ∃ F, Ints .i64 W F u6 d.ns d.sm
  h7 : ∃ F, Ints .i64 W F u7 d.nq d.rd
theorem RawL.below {W W' : World} {u0 u1 u2 u3 u4 u5 u6 u7 : Value} {d : LockD} (H : RawL W u0 u1 u2 u3 u4 u5 u6 u7 d) (lo : ∀ F v m ln f, IntSS .i64 W F v m ln f → ∃ G, IntSS .i64 W' G v m ln f) (l1 : ∀ F v n f, Ints .i64 W F v n f → ∃ G, Ints .i64 W' G v n f) : RawL W' u0 u1 u2 u3 u4 u5 u6 u7 d :=
  ⟨H.h0.elim (fun F h => lo F _ _ _ _ h), H.h1.elim (fun F h => l1 F _ _ _ h), H.h2.elim (fun F h => l1 F _ _ _ h), H.h3.elim (fun F h => l1 F _ _ _ h), H.h4.elim (fun F h => l1 F _ _ _ h), H.h5.elim (fun F h => lo F _ _ _ _ h), H.h6.elim (fun F h => l1 F _ _ _ h), H.h7.elim (fun F h => l1 F _ _ _ h)⟩
set_option maxHeartbeats 8000000 in
theorem onToLock (w : World) (u0 u1 u2 u3 u4 u5 u6 u7 : Value) (d : LockD) (H : RawL w u0 u1 u2 u3 u4 u5 u6 u7 d) (hm : d.m + psum d.ln d.m ≤ 1048576) (hf : d.mf + psum d.lf d.mf ≤ 1048576) :
    Calls Tryz.prog 7 #[.agg #[u0, u1, u2, .int .i64 d.bank, .int .i64 d.A, .int .i64 d.X, .int .i64 d.S, .int .i64 d.Pc, .bool d.Z, .bool d.N, .bool d.C, .bool d.I, .int .i64 d.t, .int .i64 d.c, .int .i64 d.s, .int .i64 d.ad, .int .i64 d.pl, .bool d.bl, u3, u4, .int .i64 d.T, .int .i64 d.P, .int .i64 d.K, .int .i64 d.B, .int .i64 d.L, .bool d.Q, .bool d.R, .bool d.hd, .int .i64 d.sh, .bool d.nmi, .int .i64 d.st, u5, u6, u7]] w fun e w' => ∃ v, e = .returned v ∧ (∃ D, LockOn w' D v d ∧ Dis D ∧ ∀ i b, D i b → w.heap.size ≤ b ∧ b < w'.heap.size) ∧ Below w.heap.size w w' := by
  obtain ⟨⟨F0, H0⟩, ⟨F1, H1⟩, ⟨F2, H2⟩, ⟨F3, H3⟩, ⟨F4, H4⟩, ⟨F5, H5⟩, ⟨F6, H6⟩, ⟨F7, H7⟩⟩ := H
  obtain ⟨a0, c0, rfl, -⟩ := id H0
  obtain ⟨a1, c1, rfl, -⟩ := id H1
  obtain ⟨a2, c2, rfl, hn2, -⟩ := id H2
  obtain ⟨a3, c3, rfl, -⟩ := id H3
  obtain ⟨a4, c4, rfl, -⟩ := id H4
  obtain ⟨a5, c5, rfl, -⟩ := id H5
  obtain ⟨a6, c6, rfl, -⟩ := id H6
  obtain ⟨a7, c7, rfl, -⟩ := id H7
  have L0 : Below w.heap.size w (((w.alloc (.cells #[.slice a0 d.m c0, .slice a1 d.np c1, .slice a2 d.nr c2, .int .i64 d.bank, .int .i64 d.A, .int .i64 d.X, .int .i64 d.S, .int .i64 d.Pc, .bool d.Z, .bool d.N, .bool d.C, .bool d.I, .int .i64 d.t, .int .i64 d.c, .int .i64 d.s, .int .i64 d.ad, .int .i64 d.pl, .bool d.bl, .slice a3 d.nt c3, .slice a4 d.nd c4, .int .i64 d.T, .int .i64 d.P, .int .i64 d.K, .int .i64 d.B, .int .i64 d.L, .bool d.Q, .bool d.R, .bool d.hd, .int .i64 d.sh, .bool d.nmi, .int .i64 d.st, .slice a5 d.mf c5, .slice a6 d.ns c6, .slice a7 d.nq c7] 39)).alloc (.cells #[.slice none 0 0, .slice none 0 0, .slice none 0 0, .int .i64 0, .int .i64 0, .int .i64 0, .int .i64 0, .int .i64 0, .bool false, .bool false, .bool false, .bool false, .int .i64 0, .int .i64 0, .int .i64 0, .int .i64 0, .int .i64 0, .bool false, .slice none 0 0, .slice none 0 0, .int .i64 0, .int .i64 0, .int .i64 0, .int .i64 0, .int .i64 0, .bool false, .bool false, .bool false, .int .i64 0, .bool false, .int .i64 0, .slice none 0 0, .slice none 0 0, .slice none 0 0] 49)).alloc (.cells #[.slice none 0 0, .slice none 0 0, .slice none 0 0, .int .i64 0, .int .i64 0, .int .i64 0, .int .i64 0, .int .i64 0, .bool false, .bool false, .bool false, .bool false, .int .i64 0, .int .i64 0, .int .i64 0, .int .i64 0, .int .i64 0, .bool false, .slice none 0 0, .slice none 0 0, .int .i64 0, .int .i64 0, .int .i64 0, .int .i64 0, .int .i64 0, .bool false, .bool false, .bool false, .int .i64 0, .bool false, .int .i64 0, .slice none 0 0, .slice none 0 0, .slice none 0 0] 49)) := (((Below.refl _ _).alloc (Nat.le_refl _) _).alloc (by simp) _).alloc (by simp; omega) _
  have B0 : (((w.alloc (.cells #[.slice a0 d.m c0, .slice a1 d.np c1, .slice a2 d.nr c2, .int .i64 d.bank, .int .i64 d.A, .int .i64 d.X, .int .i64 d.S, .int .i64 d.Pc, .bool d.Z, .bool d.N, .bool d.C, .bool d.I, .int .i64 d.t, .int .i64 d.c, .int .i64 d.s, .int .i64 d.ad, .int .i64 d.pl, .bool d.bl, .slice a3 d.nt c3, .slice a4 d.nd c4, .int .i64 d.T, .int .i64 d.P, .int .i64 d.K, .int .i64 d.B, .int .i64 d.L, .bool d.Q, .bool d.R, .bool d.hd, .int .i64 d.sh, .bool d.nmi, .int .i64 d.st, .slice a5 d.mf c5, .slice a6 d.ns c6, .slice a7 d.nq c7] 39)).alloc (.cells #[.slice none 0 0, .slice none 0 0, .slice none 0 0, .int .i64 0, .int .i64 0, .int .i64 0, .int .i64 0, .int .i64 0, .bool false, .bool false, .bool false, .bool false, .int .i64 0, .int .i64 0, .int .i64 0, .int .i64 0, .int .i64 0, .bool false, .slice none 0 0, .slice none 0 0, .int .i64 0, .int .i64 0, .int .i64 0, .int .i64 0, .int .i64 0, .bool false, .bool false, .bool false, .int .i64 0, .bool false, .int .i64 0, .slice none 0 0, .slice none 0 0, .slice none 0 0] 49)).alloc (.cells #[.slice none 0 0, .slice none 0 0, .slice none 0 0, .int .i64 0, .int .i64 0, .int .i64 0, .int .i64 0, .int .i64 0, .bool false, .bool false, .bool false, .bool false, .int .i64 0, .int .i64 0, .int .i64 0, .int .i64 0, .int .i64 0, .bool false, .slice none 0 0, .slice none 0 0, .int .i64 0, .int .i64 0, .int .i64 0, .int .i64 0, .int .i64 0, .bool false, .bool false, .bool false, .int .i64 0, .bool false, .int .i64 0, .slice none 0 0, .slice none 0 0, .slice none 0 0] 49)).heap[w.heap.size]? = some (.cells #[.slice a0 d.m c0, .slice a1 d.np c1, .slice a2 d.nr c2, .int .i64 d.bank, .int .i64 d.A, .int .i64 d.X, .int .i64 d.S, .int .i64 d.Pc, .bool d.Z, .bool d.N, .bool d.C, .bool d.I, .int .i64 d.t, .int .i64 d.c, .int .i64 d.s, .int .i64 d.ad, .int .i64 d.pl, .bool d.bl, .slice a3 d.nt c3, .slice a4 d.nd c4, .int .i64 d.T, .int .i64 d.P, .int .i64 d.K, .int .i64 d.B, .int .i64 d.L, .bool d.Q, .bool d.R, .bool d.hd, .int .i64 d.sh, .bool d.nmi, .int .i64 d.st, .slice a5 d.mf c5, .slice a6 d.ns c6, .slice a7 d.nq c7] 39 (0, 0)) := boxA (boxA (box_new w _ _) _) _
  have B1 : (((w.alloc (.cells #[.slice a0 d.m c0, .slice a1 d.np c1, .slice a2 d.nr c2, .int .i64 d.bank, .int .i64 d.A, .int .i64 d.X, .int .i64 d.S, .int .i64 d.Pc, .bool d.Z, .bool d.N, .bool d.C, .bool d.I, .int .i64 d.t, .int .i64 d.c, .int .i64 d.s, .int .i64 d.ad, .int .i64 d.pl, .bool d.bl, .slice a3 d.nt c3, .slice a4 d.nd c4, .int .i64 d.T, .int .i64 d.P, .int .i64 d.K, .int .i64 d.B, .int .i64 d.L, .bool d.Q, .bool d.R, .bool d.hd, .int .i64 d.sh, .bool d.nmi, .int .i64 d.st, .slice a5 d.mf c5, .slice a6 d.ns c6, .slice a7 d.nq c7] 39)).alloc (.cells #[.slice none 0 0, .slice none 0 0, .slice none 0 0, .int .i64 0, .int .i64 0, .int .i64 0, .int .i64 0, .int .i64 0, .bool false, .bool false, .bool false, .bool false, .int .i64 0, .int .i64 0, .int .i64 0, .int .i64 0, .int .i64 0, .bool false, .slice none 0 0, .slice none 0 0, .int .i64 0, .int .i64 0, .int .i64 0, .int .i64 0, .int .i64 0, .bool false, .bool false, .bool false, .int .i64 0, .bool false, .int .i64 0, .slice none 0 0, .slice none 0 0, .slice none 0 0] 49)).alloc (.cells #[.slice none 0 0, .slice none 0 0, .slice none 0 0, .int .i64 0, .int .i64 0, .int .i64 0, .int .i64 0, .int .i64 0, .bool false, .bool false, .bool false, .bool false, .int .i64 0, .int .i64 0, .int .i64 0, .int .i64 0, .int .i64 0, .bool false, .slice none 0 0, .slice none 0 0, .int .i64 0, .int .i64 0, .int .i64 0, .int .i64 0, .int .i64 0, .bool false, .bool false, .bool false, .int .i64 0, .bool false, .int .i64 0, .slice none 0 0, .slice none 0 0, .slice none 0 0] 49)).heap[w.heap.size + 1]? = some (.cells #[.slice none 0 0, .slice none 0 0, .slice none 0 0, .int .i64 0, .int .i64 0, .int .i64 0, .int .i64 0, .int .i64 0, .bool false, .bool false, .bool false, .bool false, .int .i64 0, .int .i64 0, .int .i64 0, .int .i64 0, .int .i64 0, .bool false, .slice none 0 0, .slice none 0 0, .int .i64 0, .int .i64 0, .int .i64 0, .int .i64 0, .int .i64 0, .bool false, .bool false, .bool false, .int .i64 0, .bool false, .int .i64 0, .slice none 0 0, .slice none 0 0, .slice none 0 0] 49 (0, 0)) := boxA (by simpa using box_new (w.alloc (.cells #[.slice a0 d.m c0, .slice a1 d.np c1, .slice a2 d.nr c2, .int .i64 d.bank, .int .i64 d.A, .int .i64 d.X, .int .i64 d.S, .int .i64 d.Pc, .bool d.Z, .bool d.N, .bool d.C, .bool d.I, .int .i64 d.t, .int .i64 d.c, .int .i64 d.s, .int .i64 d.ad, .int .i64 d.pl, .bool d.bl, .slice a3 d.nt c3, .slice a4 d.nd c4, .int .i64 d.T, .int .i64 d.P, .int .i64 d.K, .int .i64 d.B, .int .i64 d.L, .bool d.Q, .bool d.R, .bool d.hd, .int .i64 d.sh, .bool d.nmi, .int .i64 d.st, .slice a5 d.mf c5, .slice a6 d.ns c6, .slice a7 d.nq c7] 39)) #[.slice none 0 0, .slice none 0 0, .slice none 0 0, .int .i64 0, .int .i64 0, .int .i64 0, .int .i64 0, .int .i64 0, .bool false, .bool false, .bool false, .bool false, .int .i64 0, .int .i64 0, .int .i64 0, .int .i64 0, .int .i64 0, .bool false, .slice none 0 0, .slice none 0 0, .int .i64 0, .int .i64 0, .int .i64 0, .int .i64 0, .int .i64 0, .bool false, .bool false, .bool false, .int .i64 0, .bool false, .int .i64 0, .slice none 0 0, .slice none 0 0, .slice none 0 0] 49) (.cells #[.slice none 0 0, .slice none 0 0, .slice none 0 0, .int .i64 0, .int .i64 0, .int .i64 0, .int .i64 0, .int .i64 0, .bool false, .bool false, .bool false, .bool false, .int .i64 0, .int .i64 0, .int .i64 0, .int .i64 0, .int .i64 0, .bool false, .slice none 0 0, .slice none 0 0, .int .i64 0, .int .i64 0, .int .i64 0, .int .i64 0, .int .i64 0, .bool false, .bool false, .bool false, .int .i64 0, .bool false, .int .i64 0, .slice none 0 0, .slice none 0 0, .slice none 0 0] 49)
  have B2 : (((w.alloc (.cells #[.slice a0 d.m c0, .slice a1 d.np c1, .slice a2 d.nr c2, .int .i64 d.bank, .int .i64 d.A, .int .i64 d.X, .int .i64 d.S, .int .i64 d.Pc, .bool d.Z, .bool d.N, .bool d.C, .bool d.I, .int .i64 d.t, .int .i64 d.c, .int .i64 d.s, .int .i64 d.ad, .int .i64 d.pl, .bool d.bl, .slice a3 d.nt c3, .slice a4 d.nd c4, .int .i64 d.T, .int .i64 d.P, .int .i64 d.K, .int .i64 d.B, .int .i64 d.L, .bool d.Q, .bool d.R, .bool d.hd, .int .i64 d.sh, .bool d.nmi, .int .i64 d.st, .slice a5 d.mf c5, .slice a6 d.ns c6, .slice a7 d.nq c7] 39)).alloc (.cells #[.slice none 0 0, .slice none 0 0, .slice none 0 0, .int .i64 0, .int .i64 0, .int .i64 0, .int .i64 0, .int .i64 0, .bool false, .bool false, .bool false, .bool false, .int .i64 0, .int .i64 0, .int .i64 0, .int .i64 0, .int .i64 0, .bool false, .slice none 0 0, .slice none 0 0, .int .i64 0, .int .i64 0, .int .i64 0, .int .i64 0, .int .i64 0, .bool false, .bool false, .bool false, .int .i64 0, .bool false, .int .i64 0, .slice none 0 0, .slice none 0 0, .slice none 0 0] 49)).alloc (.cells #[.slice none 0 0, .slice none 0 0, .slice none 0 0, .int .i64 0, .int .i64 0, .int .i64 0, .int .i64 0, .int .i64 0, .bool false, .bool false, .bool false, .bool false, .int .i64 0, .int .i64 0, .int .i64 0, .int .i64 0, .int .i64 0, .bool false, .slice none 0 0, .slice none 0 0, .int .i64 0, .int .i64 0, .int .i64 0, .int .i64 0, .int .i64 0, .bool false, .bool false, .bool false, .int .i64 0, .bool false, .int .i64 0, .slice none 0 0, .slice none 0 0, .slice none 0 0] 49)).heap[w.heap.size + 1 + 1]? = some (.cells #[.slice none 0 0, .slice none 0 0, .slice none 0 0, .int .i64 0, .int .i64 0, .int .i64 0, .int .i64 0, .int .i64 0, .bool false, .bool false, .bool false, .bool false, .int .i64 0, .int .i64 0, .int .i64 0, .int .i64 0, .int .i64 0, .bool false, .slice none 0 0, .slice none 0 0, .int .i64 0, .int .i64 0, .int .i64 0, .int .i64 0, .int .i64 0, .bool false, .bool false, .bool false, .int .i64 0, .bool false, .int .i64 0, .slice none 0 0, .slice none 0 0, .slice none 0 0] 49 (0, 0)) := by simpa using box_new ((w.alloc (.cells #[.slice a0 d.m c0, .slice a1 d.np c1, .slice a2 d.nr c2, .int .i64 d.bank, .int .i64 d.A, .int .i64 d.X, .int .i64 d.S, .int .i64 d.Pc, .bool d.Z, .bool d.N, .bool d.C, .bool d.I, .int .i64 d.t, .int .i64 d.c, .int .i64 d.s, .int .i64 d.ad, .int .i64 d.pl, .bool d.bl, .slice a3 d.nt c3, .slice a4 d.nd c4, .int .i64 d.T, .int .i64 d.P, .int .i64 d.K, .int .i64 d.B, .int .i64 d.L, .bool d.Q, .bool d.R, .bool d.hd, .int .i64 d.sh, .bool d.nmi, .int .i64 d.st, .slice a5 d.mf c5, .slice a6 d.ns c6, .slice a7 d.nq c7] 39)).alloc (.cells #[.slice none 0 0, .slice none 0 0, .slice none 0 0, .int .i64 0, .int .i64 0, .int .i64 0, .int .i64 0, .int .i64 0, .bool false, .bool false, .bool false, .bool false, .int .i64 0, .int .i64 0, .int .i64 0, .int .i64 0, .int .i64 0, .bool false, .slice none 0 0, .slice none 0 0, .int .i64 0, .int .i64 0, .int .i64 0, .int .i64 0, .int .i64 0, .bool false, .bool false, .bool false, .int .i64 0, .bool false, .int .i64 0, .slice none 0 0, .slice none 0 0, .slice none 0 0] 49)) #[.slice none 0 0, .slice none 0 0, .slice none 0 0, .int .i64 0, .int .i64 0, .int .i64 0, .int .i64 0, .int .i64 0, .bool false, .bool false, .bool false, .bool false, .int .i64 0, .int .i64 0, .int .i64 0, .int .i64 0, .int .i64 0, .bool false, .slice none 0 0, .slice none 0 0, .int .i64 0, .int .i64 0, .int .i64 0, .int .i64 0, .int .i64 0, .bool false, .bool false, .bool false, .int .i64 0, .bool false, .int .i64 0, .slice none 0 0, .slice none 0 0, .slice none 0 0] 49
  go_enter Tryz.func7, Tryz.ntmps7
  go_wp2_with fail
  generalize ((w.alloc (.cells #[.slice a0 d.m c0, .slice a1 d.np c1, .slice a2 d.nr c2, .int .i64 d.bank, .int .i64 d.A, .int .i64 d.X, .int .i64 d.S, .int .i64 d.Pc, .bool d.Z, .bool d.N, .bool d.C, .bool d.I, .int .i64 d.t, .int .i64 d.c, .int .i64 d.s, .int .i64 d.ad, .int .i64 d.pl, .bool d.bl, .slice a3 d.nt c3, .slice a4 d.nd c4, .int .i64 d.T, .int .i64 d.P, .int .i64 d.K, .int .i64 d.B, .int .i64 d.L, .bool d.Q, .bool d.R, .bool d.hd, .int .i64 d.sh, .bool d.nmi, .int .i64 d.st, .slice a5 d.mf c5, .slice a6 d.ns c6, .slice a7 d.nq c7] 39)).alloc (.cells #[.slice none 0 0, .slice none 0 0, .slice none 0 0, .int .i64 0, .int .i64 0, .int .i64 0, .int .i64 0, .int .i64 0, .bool false, .bool false, .bool false, .bool false, .int .i64 0, .int .i64 0, .int .i64 0, .int .i64 0, .int .i64 0, .bool false, .slice none 0 0, .slice none 0 0, .int .i64 0, .int .i64 0, .int .i64 0, .int .i64 0, .int .i64 0, .bool false, .bool false, .bool false, .int .i64 0, .bool false, .int .i64 0, .slice none 0 0, .slice none 0 0, .slice none 0 0] 49)).alloc (.cells #[.slice none 0 0, .slice none 0 0, .slice none 0 0, .int .i64 0, .int .i64 0, .int .i64 0, .int .i64 0, .int .i64 0, .bool false, .bool false, .bool false, .bool false, .int .i64 0, .int .i64 0, .int .i64 0, .int .i64 0, .int .i64 0, .bool false, .slice none 0 0, .slice none 0 0, .int .i64 0, .int .i64 0, .int .i64 0, .int .i64 0, .int .i64 0, .bool false, .bool false, .bool false, .int .i64 0, .bool false, .int .i64 0, .slice none 0 0, .slice none 0 0, .slice none 0 0] 49) = W0 at *
  obtain ⟨p0, hp0⟩ : ∃ p, Hid (p = W0.heap.size) := ⟨_, rfl⟩
  have l0 : w.heap.size + 1 + 1 < p0 := by rw [hp0.out]; exact boxLt B2
  refine (onToImg _ F0 _ d.m d.ln d.f (H0.keep (wrote_below L0 Nowhere) (fun _ _ _ x => x)) hm).mono ?_
  rintro e W1 ⟨v0, rfl, g0, L⟩
  obtain ⟨p1, hp1⟩ : ∃ p, Hid (p = W1.heap.size) := ⟨_, rfl⟩
  have l1 : p0 ≤ p1 := by rw [hp0.out, hp1.out]; exact L.size
  rw [← hp0.out, ← hp1.out] at g0
  replace L0 := below_snoc L0 L
  replace B0 := box_keep B0 L (boxLt B0)
  replace B1 := box_keep B1 L (boxLt B1)
  replace B2 := box_keep B2 L (boxLt B2)
  clear L hp0
  obtain ⟨x0, y0, rfl⟩ := g0.form
  have c0 := boxC B0
  have c2 := boxC B2
  have f2 := boxF B2
  go_wp2_with fail
  clear c0 c2 f2
  have TT := Wrote.setCell (b := w.heap.size + 1 + 1) (o := 0) (R := fun b _ => b = w.heap.size + 1 + 1) (Wrote.refl _ W1) (fun _ => rfl) (.slice x0 d.m y0)
  replace L0 := L0.trans (TT.below L0.size (fun b o hb (h : b = _) => by omega))
  replace B0 := box_wrote B0 TT (fun o (h : _ = _) => by omega)
  replace B1 := box_wrote B1 TT (fun o (h : _ = _) => by omega)
  replace B2 := box_set (o := 0) B2 (.slice x0 d.m y0)
  simp only [List.setIfInBounds_toArray, List.set_cons_succ, List.set_cons_zero] at B2
  replace g0 := g0.keep TT (fun b o hb _ (h : b = _) => by obtain ⟨h1, h2⟩ := hb; omega)
  replace hp1 : Hid (p1 = (W1.setCell ⟨w.heap.size + 1 + 1, 0, none⟩ (.slice x0 d.m y0)).heap.size) := by show _ = _; rw [hp1.out]; simp
  clear TT
  generalize W1.setCell ⟨w.heap.size + 1 + 1, 0, none⟩ (.slice x0 d.m y0) = W2 at *
  refine (onToList _ F1 _ d.np d.p (H1.keep (wrote_below L0 Nowhere) (fun _ _ _ x => x))).mono ?_
  rintro e W3 ⟨v1, rfl, g1, L⟩
  obtain ⟨p2, hp2⟩ : ∃ p, Hid (p = W3.heap.size) := ⟨_, rfl⟩
  have l2 : p1 ≤ p2 := by rw [hp1.out, hp2.out]; exact L.size
  rw [← hp1.out, ← hp2.out] at g1
  replace L0 := below_snoc L0 L
  replace B0 := box_keep B0 L (boxLt B0)
  replace B1 := box_keep B1 L (boxLt B1)
  replace B2 := box_keep B2 L (boxLt B2)
  replace g0 := g0.below L
  clear L hp1
  obtain ⟨x1, y1, rfl⟩ := g1.two
  have c0 := boxC B0
  have c2 := boxC B2
  have f2 := boxF B2
  go_wp2_with fail
  clear c0 c2 f2
  have TT := Wrote.setCell (b := w.heap.size + 1 + 1) (o := 1) (R := fun b _ => b = w.heap.size + 1 + 1) (Wrote.refl _ W3) (fun _ => rfl) (.slice x1 d.np y1)
  replace L0 := L0.trans (TT.below L0.size (fun b o hb (h : b = _) => by omega))
  replace B0 := box_wrote B0 TT (fun o (h : _ = _) => by omega)
  replace B1 := box_wrote B1 TT (fun o (h : _ = _) => by omega)
  replace B2 := box_set (o := 1) B2 (.slice x1 d.np y1)
  simp only [List.setIfInBounds_toArray, List.set_cons_succ, List.set_cons_zero] at B2
  replace g0 := g0.keep TT (fun b o hb _ (h : b = _) => by obtain ⟨h1, h2⟩ := hb; omega)
  replace g1 := g1.keep TT (fun b o hb _ (h : b = _) => by obtain ⟨h1, h2⟩ := hb; omega)
  replace hp2 : Hid (p2 = (W3.setCell ⟨w.heap.size + 1 + 1, 1, none⟩ (.slice x1 d.np y1)).heap.size) := by show _ = _; rw [hp2.out]; simp
  clear TT
  generalize W3.setCell ⟨w.heap.size + 1 + 1, 1, none⟩ (.slice x1 d.np y1) = W4 at *
  refine (onToMem _ F2 _ d.nr d.g d.bank (H2.keep (wrote_below L0 Nowhere) (fun _ _ _ x => x)) hn2).mono ?_
  rintro e W5 ⟨v2, rfl, g2, L⟩
  obtain ⟨p3, hp3⟩ : ∃ p, Hid (p = W5.heap.size) := ⟨_, rfl⟩
  have l3 : p2 ≤ p3 := by rw [hp2.out, hp3.out]; exact L.size
  replace g2 := g2.mono (E := fun b => p2 ≤ b ∧ b < p3) (fun b hb h => ⟨by rw [hp2.out]; exact h, by rw [hp3.out]; exact hb⟩)
  replace L0 := below_snoc L0 L
  replace B0 := box_keep B0 L (boxLt B0)
  replace B1 := box_keep B1 L (boxLt B1)
  replace B2 := box_keep B2 L (boxLt B2)
  replace g0 := g0.below L
  replace g1 := g1.below L
  clear L hp2
  obtain ⟨x2, y2, rfl⟩ := g2.two
  have c0 := boxC B0
  have c2 := boxC B2
  have f2 := boxF B2
  go_wp2_with fail
  clear c0 c2 f2
  have TT := Wrote.setCell (b := w.heap.size + 1 + 1) (o := 3) (R := fun b _ => b = w.heap.size + 1 + 1) (Wrote.setCell (b := w.heap.size + 1 + 1) (o := 2) (R := fun b _ => b = w.heap.size + 1 + 1) (Wrote.refl _ W5) (fun _ => rfl) (.slice x2 d.nr y2)) (fun _ => rfl) (.int .i64 d.bank)
  replace L0 := L0.trans (TT.below L0.size (fun b o hb (h : b = _) => by omega))
  replace B0 := box_wrote B0 TT (fun o (h : _ = _) => by omega)
  replace B1 := box_wrote B1 TT (fun o (h : _ = _) => by omega)
  replace B2 := box_set (o := 2) B2 (.slice x2 d.nr y2)
  replace B2 := box_set (o := 3) B2 (.int .i64 d.bank)
  simp only [List.setIfInBounds_toArray, List.set_cons_succ, List.set_cons_zero] at B2
  replace g0 := g0.keep TT (fun b o hb _ (h : b = _) => by obtain ⟨h1, h2⟩ := hb; omega)
  replace g1 := g1.keep TT (fun b o hb _ (h : b = _) => by obtain ⟨h1, h2⟩ := hb; omega)
  replace g2 := g2.keep TT (fun b o hb _ (h : b = _) => by obtain ⟨h1, h2⟩ := hb; omega)
  replace hp3 : Hid (p3 = ((W5.setCell ⟨w.heap.size + 1 + 1, 2, none⟩ (.slice x2 d.nr y2)).setCell ⟨w.heap.size + 1 + 1, 3, none⟩ (.int .i64 d.bank)).heap.size) := by show _ = _; rw [hp3.out]; simp
  clear TT
  generalize (W5.setCell ⟨w.heap.size + 1 + 1, 2, none⟩ (.slice x2 d.nr y2)).setCell ⟨w.heap.size + 1 + 1, 3, none⟩ (.int .i64 d.bank) = W6 at *
  refine (toCpu _ d.A d.X d.S d.Pc d.Z d.N d.C d.I).mono ?_
  rintro e W7 ⟨rfl, L⟩
  obtain ⟨p4, hp4⟩ : ∃ p, Hid (p = W7.heap.size) := ⟨_, rfl⟩
  have l4 : p3 ≤ p4 := by rw [hp3.out, hp4.out]; exact L.size
  replace L0 := below_snoc L0 L
  replace B0 := box_keep B0 L (boxLt B0)
  replace B1 := box_keep B1 L (boxLt B1)
  replace B2 := box_keep B2 L (boxLt B2)
  replace g0 := g0.below L
  replace g1 := g1.below L
  replace g2 := g2.below L
  clear L hp3
  have c0 := boxC B0
  have c2 := boxC B2
  have f2 := boxF B2
  go_wp2_with fail
  clear c0 c2 f2
  have TT := Wrote.setCell (b := w.heap.size + 1 + 1) (o := 11) (R := fun b _ => b = w.heap.size + 1 + 1) (Wrote.setCell (b := w.heap.size + 1 + 1) (o := 10) (R := fun b _ => b = w.heap.size + 1 + 1) (Wrote.setCell (b := w.heap.size + 1 + 1) (o := 9) (R := fun b _ => b = w.heap.size + 1 + 1) (Wrote.setCell (b := w.heap.size + 1 + 1) (o := 8) (R := fun b _ => b = w.heap.size + 1 + 1) (Wrote.setCell (b := w.heap.size + 1 + 1) (o := 7) (R := fun b _ => b = w.heap.size + 1 + 1) (Wrote.setCell (b := w.heap.size + 1 + 1) (o := 6) (R := fun b _ => b = w.heap.size + 1 + 1) (Wrote.setCell (b := w.heap.size + 1 + 1) (o := 5) (R := fun b _ => b = w.heap.size + 1 + 1) (Wrote.setCell (b := w.heap.size + 1 + 1) (o := 4) (R := fun b _ => b = w.heap.size + 1 + 1) (Wrote.refl _ W7) (fun _ => rfl) (.int .i64 d.A)) (fun _ => rfl) (.int .i64 d.X)) (fun _ => rfl) (.int .i64 d.S)) (fun _ => rfl) (.int .i64 d.Pc)) (fun _ => rfl) (.bool d.Z)) (fun _ => rfl) (.bool d.N)) (fun _ => rfl) (.bool d.C)) (fun _ => rfl) (.bool d.I)
  replace L0 := L0.trans (TT.below L0.size (fun b o hb (h : b = _) => by omega))
  replace B0 := box_wrote B0 TT (fun o (h : _ = _) => by omega)
  replace B1 := box_wrote B1 TT (fun o (h : _ = _) => by omega)
  replace B2 := box_set (o := 4) B2 (.int .i64 d.A)
  replace B2 := box_set (o := 5) B2 (.int .i64 d.X)
  replace B2 := box_set (o := 6) B2 (.int .i64 d.S)
  replace B2 := box_set (o := 7) B2 (.int .i64 d.Pc)
  replace B2 := box_set (o := 8) B2 (.bool d.Z)
  replace B2 := box_set (o := 9) B2 (.bool d.N)
  replace B2 := box_set (o := 10) B2 (.bool d.C)
  replace B2 := box_set (o := 11) B2 (.bool d.I)
  simp only [List.setIfInBounds_toArray, List.set_cons_succ, List.set_cons_zero] at B2
  replace g0 := g0.keep TT (fun b o hb _ (h : b = _) => by obtain ⟨h1, h2⟩ := hb; omega)
  replace g1 := g1.keep TT (fun b o hb _ (h : b = _) => by obtain ⟨h1, h2⟩ := hb; omega)
  replace g2 := g2.keep TT (fun b o hb _ (h : b = _) => by obtain ⟨h1, h2⟩ := hb; omega)
  replace hp4 : Hid (p4 = ((((((((W7.setCell ⟨w.heap.size + 1 + 1, 4, none⟩ (.int .i64 d.A)).setCell ⟨w.heap.size + 1 + 1, 5, none⟩ (.int .i64 d.X)).setCell ⟨w.heap.size + 1 + 1, 6, none⟩ (.int .i64 d.S)).setCell ⟨w.heap.size + 1 + 1, 7, none⟩ (.int .i64 d.Pc)).setCell ⟨w.heap.size + 1 + 1, 8, none⟩ (.bool d.Z)).setCell ⟨w.heap.size + 1 + 1, 9, none⟩ (.bool d.N)).setCell ⟨w.heap.size + 1 + 1, 10, none⟩ (.bool d.C)).setCell ⟨w.heap.size + 1 + 1, 11, none⟩ (.bool d.I)).heap.size) := by show _ = _; rw [hp4.out]; simp
  clear TT
  generalize (((((((W7.setCell ⟨w.heap.size + 1 + 1, 4, none⟩ (.int .i64 d.A)).setCell ⟨w.heap.size + 1 + 1, 5, none⟩ (.int .i64 d.X)).setCell ⟨w.heap.size + 1 + 1, 6, none⟩ (.int .i64 d.S)).setCell ⟨w.heap.size + 1 + 1, 7, none⟩ (.int .i64 d.Pc)).setCell ⟨w.heap.size + 1 + 1, 8, none⟩ (.bool d.Z)).setCell ⟨w.heap.size + 1 + 1, 9, none⟩ (.bool d.N)).setCell ⟨w.heap.size + 1 + 1, 10, none⟩ (.bool d.C)).setCell ⟨w.heap.size + 1 + 1, 11, none⟩ (.bool d.I) = W8 at *
  refine (toPpu _ F3 F4 d.t d.c d.s d.ad d.pl d.bl _ _ d.nt d.tb d.nd d.dt (H3.keep (wrote_below L0 Nowhere) (fun _ _ _ x => x)) (H4.keep (wrote_below L0 Nowhere) (fun _ _ _ x => x))).mono ?_
  rintro e W9 ⟨v3, rfl, g3, L⟩
  obtain ⟨p5, hp5⟩ : ∃ p, Hid (p = W9.heap.size) := ⟨_, rfl⟩
  have l5 : p4 ≤ p5 := by rw [hp4.out, hp5.out]; exact L.size
  replace g3 := g3.mono (E := fun b => p4 ≤ b ∧ b < p5) (fun b hb h => ⟨by rw [hp4.out]; exact h, by rw [hp5.out]; exact hb⟩)
  replace L0 := below_snoc L0 L
  replace B0 := box_keep B0 L (boxLt B0)
  replace B1 := box_keep B1 L (boxLt B1)
  replace B2 := box_keep B2 L (boxLt B2)
  replace g0 := g0.below L
  replace g1 := g1.below L
  replace g2 := g2.below L
  clear L hp4
  obtain ⟨x3, y3, x4, y4, rfl⟩ := g3.two
  have c0 := boxC B0
  have c2 := boxC B2
  have f2 := boxF B2
  go_wp2_with fail
  clear c0 c2 f2
  have TT := Wrote.setCell (b := w.heap.size + 1 + 1) (o := 19) (R := fun b _ => b = w.heap.size + 1 + 1) (Wrote.setCell (b := w.heap.size + 1 + 1) (o := 18) (R := fun b _ => b = w.heap.size + 1 + 1) (Wrote.setCell (b := w.heap.size + 1 + 1) (o := 17) (R := fun b _ => b = w.heap.size + 1 + 1) (Wrote.setCell (b := w.heap.size + 1 + 1) (o := 16) (R := fun b _ => b = w.heap.size + 1 + 1) (Wrote.setCell (b := w.heap.size + 1 + 1) (o := 15) (R := fun b _ => b = w.heap.size + 1 + 1) (Wrote.setCell (b := w.heap.size + 1 + 1) (o := 14) (R := fun b _ => b = w.heap.size + 1 + 1) (Wrote.setCell (b := w.heap.size + 1 + 1) (o := 13) (R := fun b _ => b = w.heap.size + 1 + 1) (Wrote.setCell (b := w.heap.size + 1 + 1) (o := 12) (R := fun b _ => b = w.heap.size + 1 + 1) (Wrote.refl _ W9) (fun _ => rfl) (.int .i64 d.t)) (fun _ => rfl) (.int .i64 d.c)) (fun _ => rfl) (.int .i64 d.s)) (fun _ => rfl) (.int .i64 d.ad)) (fun _ => rfl) (.int .i64 d.pl)) (fun _ => rfl) (.bool d.bl)) (fun _ => rfl) (.slice x3 d.nt y3)) (fun _ => rfl) (.slice x4 d.nd y4)
  replace L0 := L0.trans (TT.below L0.size (fun b o hb (h : b = _) => by omega))
  replace B0 := box_wrote B0 TT (fun o (h : _ = _) => by omega)
  replace B1 := box_wrote B1 TT (fun o (h : _ = _) => by omega)
  replace B2 := box_set (o := 12) B2 (.int .i64 d.t)
  replace B2 := box_set (o := 13) B2 (.int .i64 d.c)
  replace B2 := box_set (o := 14) B2 (.int .i64 d.s)
  replace B2 := box_set (o := 15) B2 (.int .i64 d.ad)
  replace B2 := box_set (o := 16) B2 (.int .i64 d.pl)
  replace B2 := box_set (o := 17) B2 (.bool d.bl)
  replace B2 := box_set (o := 18) B2 (.slice x3 d.nt y3)
  replace B2 := box_set (o := 19) B2 (.slice x4 d.nd y4)
  simp only [List.setIfInBounds_toArray, List.set_cons_succ, List.set_cons_zero] at B2
  replace g0 := g0.keep TT (fun b o hb _ (h : b = _) => by obtain ⟨h1, h2⟩ := hb; omega)
  replace g1 := g1.keep TT (fun b o hb _ (h : b = _) => by obtain ⟨h1, h2⟩ := hb; omega)
  replace g2 := g2.keep TT (fun b o hb _ (h : b = _) => by obtain ⟨h1, h2⟩ := hb; omega)
  replace g3 := g3.keep TT (fun b o hb _ (h : b = _) => by obtain ⟨h1, h2⟩ := hb; omega)
  replace hp5 : Hid (p5 = ((((((((W9.setCell ⟨w.heap.size + 1 + 1, 12, none⟩ (.int .i64 d.t)).setCell ⟨w.heap.size + 1 + 1, 13, none⟩ (.int .i64 d.c)).setCell ⟨w.heap.size + 1 + 1, 14, none⟩ (.int .i64 d.s)).setCell ⟨w.heap.size + 1 + 1, 15, none⟩ (.int .i64 d.ad)).setCell ⟨w.heap.size + 1 + 1, 16, none⟩ (.int .i64 d.pl)).setCell ⟨w.heap.size + 1 + 1, 17, none⟩ (.bool d.bl)).setCell ⟨w.heap.size + 1 + 1, 18, none⟩ (.slice x3 d.nt y3)).setCell ⟨w.heap.size + 1 + 1, 19, none⟩ (.slice x4 d.nd y4)).heap.size) := by show _ = _; rw [hp5.out]; simp
  clear TT
  generalize (((((((W9.setCell ⟨w.heap.size + 1 + 1, 12, none⟩ (.int .i64 d.t)).setCell ⟨w.heap.size + 1 + 1, 13, none⟩ (.int .i64 d.c)).setCell ⟨w.heap.size + 1 + 1, 14, none⟩ (.int .i64 d.s)).setCell ⟨w.heap.size + 1 + 1, 15, none⟩ (.int .i64 d.ad)).setCell ⟨w.heap.size + 1 + 1, 16, none⟩ (.int .i64 d.pl)).setCell ⟨w.heap.size + 1 + 1, 17, none⟩ (.bool d.bl)).setCell ⟨w.heap.size + 1 + 1, 18, none⟩ (.slice x3 d.nt y3)).setCell ⟨w.heap.size + 1 + 1, 19, none⟩ (.slice x4 d.nd y4) = W10 at *
  refine (toApu _ d.T d.P d.K d.B d.L d.Q d.R).mono ?_
  rintro e W11 ⟨rfl, L⟩
  obtain ⟨p6, hp6⟩ : ∃ p, Hid (p = W11.heap.size) := ⟨_, rfl⟩
  have l6 : p5 ≤ p6 := by rw [hp5.out, hp6.out]; exact L.size
  replace L0 := below_snoc L0 L
  replace B0 := box_keep B0 L (boxLt B0)
  replace B1 := box_keep B1 L (boxLt B1)
  replace B2 := box_keep B2 L (boxLt B2)
  replace g0 := g0.below L
  replace g1 := g1.below L
  replace g2 := g2.below L
  replace g3 := g3.below L
  clear L hp5
  have c0 := boxC B0
  have c2 := boxC B2
  have f2 := boxF B2
  go_wp2_with fail
  clear c0 c2 f2
  have TT := Wrote.setCell (b := w.heap.size + 1 + 1) (o := 26) (R := fun b _ => b = w.heap.size + 1 + 1) (Wrote.setCell (b := w.heap.size + 1 + 1) (o := 25) (R := fun b _ => b = w.heap.size + 1 + 1) (Wrote.setCell (b := w.heap.size + 1 + 1) (o := 24) (R := fun b _ => b = w.heap.size + 1 + 1) (Wrote.setCell (b := w.heap.size + 1 + 1) (o := 23) (R := fun b _ => b = w.heap.size + 1 + 1) (Wrote.setCell (b := w.heap.size + 1 + 1) (o := 22) (R := fun b _ => b = w.heap.size + 1 + 1) (Wrote.setCell (b := w.heap.size + 1 + 1) (o := 21) (R := fun b _ => b = w.heap.size + 1 + 1) (Wrote.setCell (b := w.heap.size + 1 + 1) (o := 20) (R := fun b _ => b = w.heap.size + 1 + 1) (Wrote.refl _ W11) (fun _ => rfl) (.int .i64 d.T)) (fun _ => rfl) (.int .i64 d.P)) (fun _ => rfl) (.int .i64 d.K)) (fun _ => rfl) (.int .i64 d.B)) (fun _ => rfl) (.int .i64 d.L)) (fun _ => rfl) (.bool d.Q)) (fun _ => rfl) (.bool d.R)
  replace L0 := L0.trans (TT.below L0.size (fun b o hb (h : b = _) => by omega))
  replace B0 := box_wrote B0 TT (fun o (h : _ = _) => by omega)
  replace B1 := box_wrote B1 TT (fun o (h : _ = _) => by omega)
  replace B2 := box_set (o := 20) B2 (.int .i64 d.T)
  replace B2 := box_set (o := 21) B2 (.int .i64 d.P)
  replace B2 := box_set (o := 22) B2 (.int .i64 d.K)
  replace B2 := box_set (o := 23) B2 (.int .i64 d.B)
  replace B2 := box_set (o := 24) B2 (.int .i64 d.L)
  replace B2 := box_set (o := 25) B2 (.bool d.Q)
  replace B2 := box_set (o := 26) B2 (.bool d.R)
  simp only [List.setIfInBounds_toArray, List.set_cons_succ, List.set_cons_zero] at B2
  replace g0 := g0.keep TT (fun b o hb _ (h : b = _) => by obtain ⟨h1, h2⟩ := hb; omega)
  replace g1 := g1.keep TT (fun b o hb _ (h : b = _) => by obtain ⟨h1, h2⟩ := hb; omega)
  replace g2 := g2.keep TT (fun b o hb _ (h : b = _) => by obtain ⟨h1, h2⟩ := hb; omega)
  replace g3 := g3.keep TT (fun b o hb _ (h : b = _) => by obtain ⟨h1, h2⟩ := hb; omega)
  replace hp6 : Hid (p6 = (((((((W11.setCell ⟨w.heap.size + 1 + 1, 20, none⟩ (.int .i64 d.T)).setCell ⟨w.heap.size + 1 + 1, 21, none⟩ (.int .i64 d.P)).setCell ⟨w.heap.size + 1 + 1, 22, none⟩ (.int .i64 d.K)).setCell ⟨w.heap.size + 1 + 1, 23, none⟩ (.int .i64 d.B)).setCell ⟨w.heap.size + 1 + 1, 24, none⟩ (.int .i64 d.L)).setCell ⟨w.heap.size + 1 + 1, 25, none⟩ (.bool d.Q)).setCell ⟨w.heap.size + 1 + 1, 26, none⟩ (.bool d.R)).heap.size) := by show _ = _; rw [hp6.out]; simp
  clear TT
  generalize ((((((W11.setCell ⟨w.heap.size + 1 + 1, 20, none⟩ (.int .i64 d.T)).setCell ⟨w.heap.size + 1 + 1, 21, none⟩ (.int .i64 d.P)).setCell ⟨w.heap.size + 1 + 1, 22, none⟩ (.int .i64 d.K)).setCell ⟨w.heap.size + 1 + 1, 23, none⟩ (.int .i64 d.B)).setCell ⟨w.heap.size + 1 + 1, 24, none⟩ (.int .i64 d.L)).setCell ⟨w.heap.size + 1 + 1, 25, none⟩ (.bool d.Q)).setCell ⟨w.heap.size + 1 + 1, 26, none⟩ (.bool d.R) = W12 at *
  refine (toPad _ d.hd d.sh).mono ?_
  rintro e W13 ⟨rfl, L⟩
  obtain ⟨p7, hp7⟩ : ∃ p, Hid (p = W13.heap.size) := ⟨_, rfl⟩
  have l7 : p6 ≤ p7 := by rw [hp6.out, hp7.out]; exact L.size
  replace L0 := below_snoc L0 L
  replace B0 := box_keep B0 L (boxLt B0)
  replace B1 := box_keep B1 L (boxLt B1)
  replace B2 := box_keep B2 L (boxLt B2)
  replace g0 := g0.below L
  replace g1 := g1.below L
  replace g2 := g2.below L
  replace g3 := g3.below L
  clear L hp6
  have c0 := boxC B0
  have c2 := boxC B2
  have f2 := boxF B2
  go_wp2_with fail
  clear c0 c2 f2
  have TT := Wrote.setCell (b := w.heap.size + 1 + 1) (o := 30) (R := fun b _ => b = w.heap.size + 1 + 1) (Wrote.setCell (b := w.heap.size + 1 + 1) (o := 29) (R := fun b _ => b = w.heap.size + 1 + 1) (Wrote.setCell (b := w.heap.size + 1 + 1) (o := 28) (R := fun b _ => b = w.heap.size + 1 + 1) (Wrote.setCell (b := w.heap.size + 1 + 1) (o := 27) (R := fun b _ => b = w.heap.size + 1 + 1) (Wrote.refl _ W13) (fun _ => rfl) (.bool d.hd)) (fun _ => rfl) (.int .i64 d.sh)) (fun _ => rfl) (.bool d.nmi)) (fun _ => rfl) (.int .i64 d.st)
  replace L0 := L0.trans (TT.below L0.size (fun b o hb (h : b = _) => by omega))
  replace B0 := box_wrote B0 TT (fun o (h : _ = _) => by omega)
  replace B1 := box_wrote B1 TT (fun o (h : _ = _) => by omega)
  replace B2 := box_set (o := 27) B2 (.bool d.hd)
  replace B2 := box_set (o := 28) B2 (.int .i64 d.sh)
  replace B2 := box_set (o := 29) B2 (.bool d.nmi)
  replace B2 := box_set (o := 30) B2 (.int .i64 d.st)
  simp only [List.setIfInBounds_toArray, List.set_cons_succ, List.set_cons_zero] at B2
  replace g0 := g0.keep TT (fun b o hb _ (h : b = _) => by obtain ⟨h1, h2⟩ := hb; omega)
  replace g1 := g1.keep TT (fun b o hb _ (h : b = _) => by obtain ⟨h1, h2⟩ := hb; omega)
  replace g2 := g2.keep TT (fun b o hb _ (h : b = _) => by obtain ⟨h1, h2⟩ := hb; omega)
  replace g3 := g3.keep TT (fun b o hb _ (h : b = _) => by obtain ⟨h1, h2⟩ := hb; omega)
  replace hp7 : Hid (p7 = ((((W13.setCell ⟨w.heap.size + 1 + 1, 27, none⟩ (.bool d.hd)).setCell ⟨w.heap.size + 1 + 1, 28, none⟩ (.int .i64 d.sh)).setCell ⟨w.heap.size + 1 + 1, 29, none⟩ (.bool d.nmi)).setCell ⟨w.heap.size + 1 + 1, 30, none⟩ (.int .i64 d.st)).heap.size) := by show _ = _; rw [hp7.out]; simp
  clear TT
  generalize (((W13.setCell ⟨w.heap.size + 1 + 1, 27, none⟩ (.bool d.hd)).setCell ⟨w.heap.size + 1 + 1, 28, none⟩ (.int .i64 d.sh)).setCell ⟨w.heap.size + 1 + 1, 29, none⟩ (.bool d.nmi)).setCell ⟨w.heap.size + 1 + 1, 30, none⟩ (.int .i64 d.st) = W14 at *
  refine (onToObs _ F5 F6 F7 _ _ _ d.mf d.lf d.fr d.ns d.sm d.nq d.rd (H5.keep (wrote_below L0 Nowhere) (fun _ _ _ x => x)) (H6.keep (wrote_below L0 Nowhere) (fun _ _ _ x => x)) (H7.keep (wrote_below L0 Nowhere) (fun _ _ _ x => x)) hf).mono ?_
  rintro e W15 ⟨v5, rfl, ⟨DO, g4, dO, bO⟩, L⟩
  obtain ⟨p8, hp8⟩ : ∃ p, Hid (p = W15.heap.size) := ⟨_, rfl⟩
  have l8 : p7 ≤ p8 := by rw [hp7.out, hp8.out]; exact L.size
  rw [← hp7.out, ← hp8.out] at bO
  replace L0 := below_snoc L0 L
  replace B0 := box_keep B0 L (boxLt B0)
  replace B1 := box_keep B1 L (boxLt B1)
  replace B2 := box_keep B2 L (boxLt B2)
  replace g0 := g0.below L
  replace g1 := g1.below L
  replace g2 := g2.below L
  replace g3 := g3.below L
  clear L hp7
  obtain ⟨z5, z6, z7, rfl, m5, m6, m7⟩ := g4
  obtain ⟨x5, y5, rfl⟩ := m5.form
  obtain ⟨x6, y6, rfl⟩ := m6.two
  obtain ⟨x7, y7, rfl⟩ := m7.two
  have c0 := boxC B0
  have c2 := boxC B2
  have f2 := boxF B2
  go_upto_region 12 with (fail)
  clear c0 c2 f2
  have TT := Wrote.setCell (b := w.heap.size + 1 + 1) (o := 33) (R := fun b _ => b = w.heap.size + 1 + 1) (Wrote.setCell (b := w.heap.size + 1 + 1) (o := 32) (R := fun b _ => b = w.heap.size + 1 + 1) (Wrote.setCell (b := w.heap.size + 1 + 1) (o := 31) (R := fun b _ => b = w.heap.size + 1 + 1) (Wrote.refl _ W15) (fun _ => rfl) (.slice x5 d.mf y5)) (fun _ => rfl) (.slice x6 d.ns y6)) (fun _ => rfl) (.slice x7 d.nq y7)
  replace L0 := L0.trans (TT.below L0.size (fun b o hb (h : b = _) => by omega))
  replace B0 := box_wrote B0 TT (fun o (h : _ = _) => by omega)
  replace B1 := box_wrote B1 TT (fun o (h : _ = _) => by omega)
  replace B2 := box_set (o := 31) B2 (.slice x5 d.mf y5)
  replace B2 := box_set (o := 32) B2 (.slice x6 d.ns y6)
  replace B2 := box_set (o := 33) B2 (.slice x7 d.nq y7)
  simp only [List.setIfInBounds_toArray, List.set_cons_succ, List.set_cons_zero] at B2
  replace g0 := g0.keep TT (fun b o hb _ (h : b = _) => by obtain ⟨h1, h2⟩ := hb; omega)
  replace g1 := g1.keep TT (fun b o hb _ (h : b = _) => by obtain ⟨h1, h2⟩ := hb; omega)
  replace g2 := g2.keep TT (fun b o hb _ (h : b = _) => by obtain ⟨h1, h2⟩ := hb; omega)
  replace g3 := g3.keep TT (fun b o hb _ (h : b = _) => by obtain ⟨h1, h2⟩ := hb; omega)
  replace m5 := m5.keep TT (fun b o hb _ (h : b = _) => by have := bO _ _ hb; omega)
  replace m6 := m6.keep TT (fun b o hb _ (h : b = _) => by have := bO _ _ hb; omega)
  replace m7 := m7.keep TT (fun b o hb _ (h : b = _) => by have := bO _ _ hb; omega)
  replace hp8 : Hid (p8 = (((W15.setCell ⟨w.heap.size + 1 + 1, 31, none⟩ (.slice x5 d.mf y5)).setCell ⟨w.heap.size + 1 + 1, 32, none⟩ (.slice x6 d.ns y6)).setCell ⟨w.heap.size + 1 + 1, 33, none⟩ (.slice x7 d.nq y7)).heap.size) := by show _ = _; rw [hp8.out]; simp
  clear TT
  generalize ((W15.setCell ⟨w.heap.size + 1 + 1, 31, none⟩ (.slice x5 d.mf y5)).setCell ⟨w.heap.size + 1 + 1, 32, none⟩ (.slice x6 d.ns y6)).setCell ⟨w.heap.size + 1 + 1, 33, none⟩ (.slice x7 d.nq y7) = W16 at *
  rename_i K1 hK1
  refine wp_region_lit ?_
  refine wpList_load_row rfl _ _ rfl (w.heap.size + 1 + 1) rfl _ _ _ _ B2 Tryz.underlying49 rfl infoLock ?_
  refine wpList_store_row rfl _ _ _ rfl (w.heap.size + 1) _ rfl rfl _ _ B1 infoLock rfl (by first | kernel_rfl | simp [Value.oneCell']) ?_
  refine hK1 _ _ ?_
  have HR := hide (And.intro g0 (And.intro g1 (And.intro g2 (And.intro g3 (And.intro m5 (And.intro m6 m7))))))
  have B3 := setRow_heap _ _ _ #[.slice x0 d.m y0, .slice x1 d.np y1, .slice x2 d.nr y2, .int .i64 d.bank, .int .i64 d.A, .int .i64 d.X, .int .i64 d.S, .int .i64 d.Pc, .bool d.Z, .bool d.N, .bool d.C, .bool d.I, .int .i64 d.t, .int .i64 d.c, .int .i64 d.s, .int .i64 d.ad, .int .i64 d.pl, .bool d.bl, .slice x3 d.nt y3, .slice x4 d.nd y4, .int .i64 d.T, .int .i64 d.P, .int .i64 d.K, .int .i64 d.B, .int .i64 d.L, .bool d.Q, .bool d.R, .bool d.hd, .int .i64 d.sh, .bool d.nmi, .int .i64 d.st, .slice x5 d.mf y5, .slice x6 d.ns y6, .slice x7 d.nq y7] _ _ B1
  have WW := wrote_setRow B1 #[.slice x0 d.m y0, .slice x1 d.np y1, .slice x2 d.nr y2, .int .i64 d.bank, .int .i64 d.A, .int .i64 d.X, .int .i64 d.S, .int .i64 d.Pc, .bool d.Z, .bool d.N, .bool d.C, .bool d.I, .int .i64 d.t, .int .i64 d.c, .int .i64 d.s, .int .i64 d.ad, .int .i64 d.pl, .bool d.bl, .slice x3 d.nt y3, .slice x4 d.nd y4, .int .i64 d.T, .int .i64 d.P, .int .i64 d.K, .int .i64 d.B, .int .i64 d.L, .bool d.Q, .bool d.R, .bool d.hd, .int .i64 d.sh, .bool d.nmi, .int .i64 d.st, .slice x5 d.mf y5, .slice x6 d.ns y6, .slice x7 d.nq y7]
  clear g0 g1 g2 g3 m5 m6 m7 B0 B1 B2 H0 H1 H2 H3 H4 H5 H6 H7
  go_wp2
  refine bodyPost_ret (v := .agg #[.slice x0 d.m y0, .slice x1 d.np y1, .slice x2 d.nr y2, .int .i64 d.bank, .int .i64 d.A, .int .i64 d.X, .int .i64 d.S, .int .i64 d.Pc, .bool d.Z, .bool d.N, .bool d.C, .bool d.I, .int .i64 d.t, .int .i64 d.c, .int .i64 d.s, .int .i64 d.ad, .int .i64 d.pl, .bool d.bl, .slice x3 d.nt y3, .slice x4 d.nd y4, .int .i64 d.T, .int .i64 d.P, .int .i64 d.K, .int .i64 d.B, .int .i64 d.L, .bool d.Q, .bool d.R, .bool d.hd, .int .i64 d.sh, .bool d.nmi, .int .i64 d.st, .slice x5 d.mf y5, .slice x6 d.ns y6, .slice x7 d.nq y7]) (results_cell_row (by rfl) _ _ (w.heap.size + 1) _ _ _ _ rfl B3 Tryz.underlying49 rfl infoLock) rfl ?_
  generalize W16.setRow (w.heap.size + 1) #[.slice x0 d.m y0, .slice x1 d.np y1, .slice x2 d.nr y2, .int .i64 d.bank, .int .i64 d.A, .int .i64 d.X, .int .i64 d.S, .int .i64 d.Pc, .bool d.Z, .bool d.N, .bool d.C, .bool d.I, .int .i64 d.t, .int .i64 d.c, .int .i64 d.s, .int .i64 d.ad, .int .i64 d.pl, .bool d.bl, .slice x3 d.nt y3, .slice x4 d.nd y4, .int .i64 d.T, .int .i64 d.P, .int .i64 d.K, .int .i64 d.B, .int .i64 d.L, .bool d.Q, .bool d.R, .bool d.hd, .int .i64 d.sh, .bool d.nmi, .int .i64 d.st, .slice x5 d.mf y5, .slice x6 d.ns y6, .slice x7 d.nq y7] = W17 at *
  obtain ⟨g0, g1, g2, g3, m5, m6, m7⟩ := HR.out
  have hsz := WW.size
  have hpp := hp8.out
  refine ⟨_, rfl, ⟨fun i b => (i = 0 ∧ p0 ≤ b ∧ b < p1) ∨ (i = 1 ∧ p1 ≤ b ∧ b < p2) ∨ (i = 2 ∧ p2 ≤ b ∧ b < p3) ∨ (i = 3 ∧ p4 ≤ b ∧ b < p5) ∨ (4 ≤ i ∧ DO i b), ⟨_, _, _, _, _, _, _, _, rfl,
    (g0.keep WW (fun b o hb _ (h : b = _) => by obtain ⟨h1, h2⟩ := hb; omega)).mono (fun b _ h => Or.inl ⟨rfl, h⟩),
    (g1.keep WW (fun b o hb _ (h : b = _) => by obtain ⟨h1, h2⟩ := hb; omega)).mono (fun b _ h => Or.inr (Or.inl ⟨rfl, h⟩)),
    (g2.keep WW (fun b o hb _ (h : b = _) => by obtain ⟨h1, h2⟩ := hb; omega)).mono (fun b _ h => Or.inr (Or.inr (Or.inl ⟨rfl, h⟩))),
    (g3.keep WW (fun b o hb _ (h : b = _) => by obtain ⟨h1, h2⟩ := hb; omega)).mono (fun b _ h => Or.inr (Or.inr (Or.inr (Or.inl ⟨rfl, h⟩)))),
    ⟨_, _, _, rfl, (m5.keep WW (fun b o hb _ (h : b = _) => by have := bO _ _ hb; omega)).mono (fun b _ h => Or.inr (Or.inr (Or.inr (Or.inr ⟨by decide, h⟩)))), (m6.keep WW (fun b o hb _ (h : b = _) => by have := bO _ _ hb; omega)).mono (fun b _ h => Or.inr (Or.inr (Or.inr (Or.inr ⟨by decide, h⟩)))), (m7.keep WW (fun b o hb _ (h : b = _) => by have := bO _ _ hb; omega)).mono (fun b _ h => Or.inr (Or.inr (Or.inr (Or.inr ⟨by decide, h⟩))))⟩⟩, ?_, ?_⟩, L0.trans (WW.below L0.size (fun b o hb (h : b = _) => by omega))⟩
  · intro i j b h1 h2
    rcases h1 with ⟨rfl, _, _⟩ | ⟨rfl, _, _⟩ | ⟨rfl, _, _⟩ | ⟨rfl, _, _⟩ | ⟨q1, h1⟩ <;> rcases h2 with ⟨rfl, _, _⟩ | ⟨rfl, _, _⟩ | ⟨rfl, _, _⟩ | ⟨rfl, _, _⟩ | ⟨q2, h2⟩ <;> first | rfl | omega | (have := bO _ _ h1; omega) | (have := bO _ _ h2; omega) | exact dO _ _ _ h1 h2
  · intro i b h
    rcases h with ⟨rfl, _, _⟩ | ⟨rfl, _, _⟩ | ⟨rfl, _, _⟩ | ⟨rfl, _, _⟩ | ⟨q1, h1⟩ <;> first | omega | (have := bO _ _ h1; omega)
end Go.Proofs.YtpaedkefmebjjarGreat
namespace Go.Proofs.YtpaedkefmebjjarGreat
set_option linter.unusedVariables false
set_option linter.unusedSimpArgs false
open Go.ChangeShapes Go.WideShapes Go.ChangeAt Go.RowKit
/-- A console in step as it is handed in. -/
structure RawA (w : World) (d : LockD) (u0 : Value) (ra0 : Nat → Option Addr) (rc0 : Nat → Nat) (a1 : Option Addr) (c1 : Nat) (a2 : Option Addr) (c2 : Nat) (a3 : Option Addr) (c3 : Nat) (a4 : Option Addr) (c4 : Nat) (u5 : Value) (ra5 : Nat → Option Addr) (rc5 : Nat → Nat) (a6 : Option Addr) (c6 : Nat) (a7 : Option Addr) (c7 : Nat) : Prop where
  r0 : RawSS w u0 d.m ra0 d.ln rc0 d.f
  r5 : RawSS w u5 d.mf ra5 d.lf rc5 d.fr
  n1 : d.np ≤ 9223372036854775807
  r1 : RowOf .i64 w a1 d.np d.p
  n2 : d.nr ≤ 9223372036854775807
  r2 : RowOf .i64 w a2 d.nr d.g
  n3 : d.nt ≤ 9223372036854775807
  r3 : RowOf .i64 w a3 d.nt d.tb
  n4 : d.nd ≤ 9223372036854775807
  r4 : RowOf .i64 w a4 d.nd d.dt
  n6 : d.ns ≤ 9223372036854775807
  r6 : RowOf .i64 w a6 d.ns d.sm
  n7 : d.nq ≤ 9223372036854775807
  r7 : RowOf .i64 w a7 d.nq d.rd
theorem RawA.raw {w W : World} {d : LockD} {u0 : Value} {ra0 : Nat → Option Addr} {rc0 : Nat → Nat} {a1 : Option Addr} {c1 : Nat} {a2 : Option Addr} {c2 : Nat} {a3 : Option Addr} {c3 : Nat} {a4 : Option Addr} {c4 : Nat} {u5 : Value} {ra5 : Nat → Option Addr} {rc5 : Nat → Nat} {a6 : Option Addr} {c6 : Nat} {a7 : Option Addr} {c7 : Nat} (H : RawA w d u0 ra0 rc0 a1 c1 a2 c2 a3 c3 a4 c4 u5 ra5 rc5 a6 c6 a7 c7) (hs : szD d ≤ 1048576) (L : Below w.heap.size w W) : RawL W u0 (.slice a1 d.np c1) (.slice a2 d.nr c2) (.slice a3 d.nt c3) (.slice a4 d.nd c4) u5 (.slice a6 d.ns c6) (.slice a7 d.nq c7) d := by
  have e0 : d.m + psum d.ln d.m ≤ 1048576 := by unfold szD at hs; omega
  have e5 : d.mf + psum d.lf d.mf ≤ 1048576 := by unfold szD at hs; omega
  exact ⟨⟨_, (H.r0.ints e0).keep (wrote_below L Nowhere) (fun _ _ _ x => x)⟩, ⟨fun _ _ => True, Ints.keep (F := fun _ _ => True) ⟨_, _, rfl, by unfold szD at hs; omega, H.r1, fun _ _ _ => trivial⟩ (wrote_below L Nowhere) (fun _ _ _ x => x)⟩, ⟨fun _ _ => True, Ints.keep (F := fun _ _ => True) ⟨_, _, rfl, by unfold szD at hs; omega, H.r2, fun _ _ _ => trivial⟩ (wrote_below L Nowhere) (fun _ _ _ x => x)⟩, ⟨fun _ _ => True, Ints.keep (F := fun _ _ => True) ⟨_, _, rfl, by unfold szD at hs; omega, H.r3, fun _ _ _ => trivial⟩ (wrote_below L Nowhere) (fun _ _ _ x => x)⟩, ⟨fun _ _ => True, Ints.keep (F := fun _ _ => True) ⟨_, _, rfl, by unfold szD at hs; omega, H.r4, fun _ _ _ => trivial⟩ (wrote_below L Nowhere) (fun _ _ _ x => x)⟩, ⟨_, (H.r5.ints e5).keep (wrote_below L Nowhere) (fun _ _ _ x => x)⟩, ⟨fun _ _ => True, Ints.keep (F := fun _ _ => True) ⟨_, _, rfl, by unfold szD at hs; omega, H.r6, fun _ _ _ => trivial⟩ (wrote_below L Nowhere) (fun _ _ _ x => x)⟩, ⟨fun _ _ => True, Ints.keep (F := fun _ _ => True) ⟨_, _, rfl, by unfold szD at hs; omega, H.r7, fun _ _ _ => trivial⟩ (wrote_below L Nowhere) (fun _ _ _ x => x)⟩⟩
theorem szD_parts {d : LockD} (hs : szD d ≤ 1048576) : d.m + psum d.ln d.m ≤ 1048576 ∧ d.mf + psum d.lf d.mf ≤ 1048576 := by unfold szD at hs; constructor <;> omega
theorem boxLd {P : Program} {W : World} {b : Nat} {cs : Array Value} {t : TypeId} {fr : Nat × Nat} (h : W.heap[b]? = some (.cells cs t fr)) {n : Nat} (hn : cs.size = n) : (loadCellsFrom ⟨b, 0, none⟩ 0 n #[]).run P W = .ok cs W := by
  subst hn
  have := run_loadCells_list (P := P) W ⟨b, 0, none⟩ cs.toList (fun j v hv => by
    have hadd : (⟨b, 0, none⟩ : Addr).add j = ⟨b, j, none⟩ := by unfold Addr.add; split <;> simp_all
    rw [hadd, boxC h]
    simpa using hv)
  simpa [loadCells] using this
theorem infoAt {P : Program} {ty : TypeId} {n : Nat} {cs : Array Value} (h : (P.info? ty).map (·.size) = some n) (hs : cs.size = n) : (P.info? ty).map (·.size) = some cs.size := by rw [hs]; exact h
theorem infoLaws : (Tryz.prog.info? 39).map (·.size) = some 34 := by kernel_rfl
theorem LockOn.agg {W : World} {D : Nat → Nat → Prop} {v : Value} {d : LockD} (H : LockOn W D v d) : ∃ cs, v = .agg cs ∧ cs.size = 34 ∧ cs.all (·.oneCell') = true := by
  obtain ⟨u0, u1, u2, u3, u4, u5, u6, u7, e, h0, h1, h2, h3, h4⟩ := H
  obtain ⟨a0, b0, rfl⟩ := h0.form
  obtain ⟨a1, b1, rfl⟩ := h1.two
  obtain ⟨a2, b2, e2⟩ := h2.two
  obtain ⟨a3, b3, a4, b4, e3⟩ := h3.two
  obtain ⟨v5, v6, v7, e4, h5, h6, h7⟩ := h4
  obtain ⟨a5, b5, rfl⟩ := h5.form
  obtain ⟨a6, b6, rfl⟩ := h6.two
  obtain ⟨a7, b7, rfl⟩ := h7.two
  simp only [Value.agg.injEq, Array.mk.injEq, List.cons.injEq, and_true, true_and] at e2 e3 e4
  obtain ⟨rfl, rfl⟩ := e3
  obtain ⟨rfl, rfl, rfl⟩ := e4
  subst e2
  exact ⟨_, e, rfl, by first | kernel_rfl | simp [Value.oneCell']⟩
end Go.Proofs.YtpaedkefmebjjarGreat
namespace Go.Proofs.YtpaedkefmebjjarGreat
set_option linter.unusedVariables false
set_option linter.unusedSimpArgs false
open Go.ChangeShapes Go.WideShapes Go.ChangeAt Go.RowKit
theorem own_more {W : World} {lo g n c : Nat} {e : TypeId} {vs : List Value} (h : W.ownsRow lo e 1 (.slice (some ⟨g, 0, none⟩) n c) n vs) (hc : n + 1 ≤ c) (y : Value) : (W.setCell ⟨g, n, none⟩ y).ownsRow lo e 1 (.slice (some ⟨g, 0, none⟩) (n + 1) c) (n + 1) (vs ++ [y]) := by
  have hl : vs.length = n := by have := h.1; omega
  refine ⟨by simp; omega, ?_⟩
  rcases h.2 with ⟨e, _⟩ | ⟨g', cap, cur, hv, hb, hg, h1, h2, h3, h4⟩
  · cases e
  · have hv' := hv
    simp only [Value.slice.injEq, Option.some.injEq, Addr.mk.injEq, and_true, true_and] at hv'
    obtain ⟨rfl, rfl⟩ := hv'
    refine Or.inr ⟨g, c, cur.setIfInBounds n y, rfl, hb, box_set hg _, hc, h2, by simpa using h3, ?_⟩
    rw [Nat.mul_one] at h3 h4 ⊢
    rw [← h4]
    apply List.ext_getElem?
    intro k
    rw [List.getElem?_take, List.getElem?_append, List.getElem?_take, List.length_take, Array.length_toList, Array.getElem?_toList, Array.getElem?_setIfInBounds]
    by_cases hk : k < n
    · rw [if_pos (by omega), if_neg (by omega), if_pos (by omega), if_pos hk, Array.getElem?_toList]
    · by_cases e : k = n
      · subst e
        rw [if_pos (by omega), if_pos rfl, if_pos (by omega), if_neg (by omega)]
        rw [show k - min k cur.size = 0 by omega]
        rfl
      · rw [if_neg (by omega), if_neg (by omega), List.getElem?_eq_none (by simp; omega)]
theorem own_cells {W : World} {lo g n c : Nat} {e : TypeId} {vs : List Value} (h : W.ownsRow lo e 1 (.slice (some ⟨g, 0, none⟩) n c) n vs) : ∀ j u, vs[j]? = some u → W.cell? ((⟨g, 0, none⟩ : Addr).add j) = some u := fun j u hu => by
  have hl : vs.length = n := by have := h.1; omega
  rcases h.2 with ⟨e, _⟩ | ⟨g', cap, cur, hv, hb, hg, h1, h2, h3, h4⟩
  · cases e
  · simp only [Value.slice.injEq, Option.some.injEq, Addr.mk.injEq, and_true, true_and] at hv
    obtain ⟨rfl, rfl⟩ := hv
    rw [add_at, Nat.zero_add, boxC hg]
    rw [Nat.mul_one] at h4
    rw [← h4, List.getElem?_take] at hu
    by_cases hj : j < n
    · rw [if_pos hj, Array.getElem?_toList] at hu
      exact hu
    · rw [if_neg hj] at hu
      cases hu
theorem own_lo {W : World} {lo lo' n : Nat} {e : TypeId} {v : Value} {vs : List Value} (h : W.ownsRow lo' e 1 v n vs) (hl : lo ≤ lo') : W.ownsRow lo e 1 v n vs := by
  refine ⟨h.1, ?_⟩
  rcases h.2 with x | ⟨g', cap, cur, hv, hb, r⟩
  · exact Or.inl x
  · exact Or.inr ⟨g', cap, cur, hv, by omega, r⟩
theorem own_block {W W' : World} {lo n : Nat} {e : TypeId} {v : Value} {vs : List Value} (h : W.ownsRow lo e 1 v n vs) (hb : ∀ g, v.ownBlock = some g → W'.heap[g]? = W.heap[g]?) : W'.ownsRow lo e 1 v n vs := by
  refine ⟨h.1, ?_⟩
  rcases h.2 with x | ⟨g', cap, cur, hv, hb', hg, r⟩
  · exact Or.inl x
  · exact Or.inr ⟨g', cap, cur, hv, hb', (hb g' (by rw [hv]; rfl)).trans hg, r⟩
theorem own_at {W : World} {lo n : Nat} {e : TypeId} {v : Value} {vs : List Value} (h : W.ownsRow lo e 1 v n vs) {g : Nat} (hg : v.ownBlock = some g) : lo ≤ g ∧ g < W.heap.size := by
  rcases h.2 with ⟨x, _⟩ | ⟨g', cap, cur, hv, hb', hg', r⟩
  · rw [x] at hg; cases hg
  · rw [hv] at hg
    obtain rfl : g' = g := by simpa [Value.ownBlock] using hg
    exact ⟨hb', boxLt hg'⟩
/-- 'append(xss, xs)', of a list of lists that the call owns, or of none. -/
theorem wp_pushS (W : World) {o : Oper} {a : Act} {K : Act → World → Prop} {Q : Exit → Act → World → Prop} (s x : Operand) (hop : o.op = Op.call { callee := Callee.builtin Builtin.append, args := #[s, x], argTypes := #[22, 22] })
    (lo : Nat) (ov : Value) (n : Nat) (vs : List Value) (hs : a.eval s = ov) (own : W.ownsRow lo 25 1 ov n vs) (hn : n < 1048576) (hlo : lo ≤ W.heap.size) (q : Nat) (y : Value) (hy : y.oneCell' = true) (hx : a.eval x = .slice (some ⟨q, 0, none⟩) 1 1) (hq : W.cell? ⟨q, 0, none⟩ = some y)
    (h : ∀ g' c' W', W'.ownsRow lo 25 1 (.slice (some ⟨g', 0, none⟩) (n + 1) c') (n + 1) (vs ++ [y]) → Wrote (fun b _ => ov.ownBlock = some b) W W' → (ov.ownBlock = some g' ∨ W.heap.size ≤ g') → K (a.put o.dst (.slice (some ⟨g', 0, none⟩) (n + 1) c')) W') : o.wp Tryz.prog a W K Q := by
  obtain ⟨i0, hi, hz0, hz1, hz2⟩ := info_parts infoInts
  have hl : vs.length = n := by have := own.1; omega
  have hnews : ∀ j u, [y][j]? = some u → W.cell? ((⟨q, 0, none⟩ : Addr).add j) = some u := fun j u hh => by
    cases j with
    | zero => simp at hh; rw [← hh]; exact hq
    | succ j => simp at hh
  have h1 : ∀ u ∈ [y], u.oneCell' = true := fun u hu => by simp at hu; rw [hu]; exact hy
  rcases id own.2 with ⟨e, e0⟩ | ⟨g, c, cur, hv, hb, hg, k1, k2, k3, k4⟩
  · obtain ⟨g', c', W', hrun, r1, r2, r3, r4⟩ := run_append_lies (P := Tryz.prog) (w := W) 22 o.type lo 25 i0 (.slice none 0 0) 1 24 Tryz.underlying22 hi hz0 hz1 hz2 rfl (by decide) ov n vs own ⟨q, 0, none⟩ 1 1 [y] rfl hnews h1 (by omega) (by unfold maxLen; omega) (by omega) hlo W.heap.size rfl
    have hb : ov.ownBlock = none := by rw [e]; rfl
    rw [hb] at r2 r3
    have L : Below W.heap.size W W' := (Below.refl _ _).grown r2 (Nat.le_refl _) (fun _ e => by cases e)
    unfold Oper.wp
    simp [execOp, hop, resolve, invoke, builtin, hs, hx, hrun, Result.andThen]
    exact h g' c' W' r1 (wrote_below L _) (Or.inr (by rcases r3 with r3 | r3; cases r3; omega))
  · subst hv
    have hob : (Value.slice (some ⟨g, 0, none⟩) n c).ownBlock = some g := rfl
    have hgl := boxLt hg
    by_cases hr : n + 1 ≤ c
    · have hsp : (W.cell? ⟨g, n, none⟩).isSome = true ∧ W.frozen? ⟨g, n, none⟩ = false := by
        refine ⟨?_, boxF hg n⟩
        rw [boxC hg n, Array.getElem?_eq_getElem (by omega)]
        rfl
      have hrun := run_append_room_cells (P := Tryz.prog) W 22 o.type 25 i0 Tryz.underlying22 hi g 0 n c ⟨q, 0, none⟩ 1 1 [y] (by rw [hz1]; rfl) hnews h1 hr
        (fun j hj => by have : j = 0 := (by simpa using hj); subst this; rw [hz1]; simpa using hsp.1) (fun j hj => by have : j = 0 := (by simpa using hj); subst this; rw [hz1]; simpa using hsp.2)
      rw [hz1] at hrun
      unfold Oper.wp
      simp [execOp, hop, resolve, invoke, builtin, hs, hx, hrun, Result.andThen, World.setCells]
      exact h g c _ (own_more own hr y) (Wrote.setCell (R := fun b _ => (Value.slice (some ⟨g, 0, none⟩) n c).ownBlock = some b) (Wrote.refl _ W) (fun _ => hob) _) (Or.inl hob)
    · obtain ⟨v', w', hrun, r1, r2⟩ := run_append_arg_grows (P := Tryz.prog) W 22 o.type 25 i0 (.slice none 0 0) 1 24 Tryz.underlying22 hi hz0 hz1 hz2 rfl (by decide) ⟨g, 0, none⟩ n c vs (by rw [hl, Nat.mul_one]) (own_cells own) ⟨q, 0, none⟩ 1 1 [y] rfl hnews (by omega) (by unfold maxLen; omega) (by omega)
      obtain ⟨g', cap2, rfl, hg', hlt⟩ := r1.form (by omega)
      have L : Below W.heap.size W w' := (Below.refl _ _).grown r2 (Nat.le_refl _) (fun _ e => by cases e)
      unfold Oper.wp
      simp [execOp, hop, resolve, invoke, builtin, hs, hx, hrun, Result.andThen]
      exact h g' cap2 w' (own_lo r1 hlo) (wrote_below L _) (Or.inr hg')
theorem wpList_pushS (W : World) {ops : Array Oper} {rest : List Oper} {o : Oper} {a : Act} {Q : Exit → Act → World → Prop} (hg : o.guard = none) (s x : Operand) (hop : o.op = Op.call { callee := Callee.builtin Builtin.append, args := #[s, x], argTypes := #[22, 22] })
    (lo : Nat) (ov : Value) (n : Nat) (vs : List Value) (hs : a.eval s = ov) (own : W.ownsRow lo 25 1 ov n vs) (hn : n < 1048576) (hlo : lo ≤ W.heap.size) (q : Nat) (y : Value) (hy : y.oneCell' = true) (hx : a.eval x = .slice (some ⟨q, 0, none⟩) 1 1) (hq : W.cell? ⟨q, 0, none⟩ = some y)
    (h : ∀ g' c' W', W'.ownsRow lo 25 1 (.slice (some ⟨g', 0, none⟩) (n + 1) c') (n + 1) (vs ++ [y]) → Wrote (fun b _ => ov.ownBlock = some b) W W' → (ov.ownBlock = some g' ∨ W.heap.size ≤ g') → wpList Tryz.prog ops Q rest (a.put o.dst (.slice (some ⟨g', 0, none⟩) (n + 1) c')) W') : wpList Tryz.prog ops Q (o :: rest) a W :=
  wpList_plain hg fun K hK => wp_pushS W s x hop lo ov n vs hs own hn hlo q y hy hx hq (fun g c W' r1 r2 r3 => hK _ _ (h g c W' r1 r2 r3))
def outS (q : Nat) (gb : Nat → Nat) (ln cp : Nat → Nat) : List Value := (List.range q).map (fun i => .slice (some ⟨gb i, 0, none⟩) (ln i) (cp i))
theorem outS_snoc (q g c : Nat) (gb ln cp : Nat → Nat) : outS q gb ln cp ++ [.slice (some ⟨g, 0, none⟩) (ln q) c] = outS (q + 1) (fun i => if i = q then g else gb i) ln (fun i => if i = q then c else cp i) := by
  unfold outS
  rw [List.range_succ, List.map_append]
  congr 1
  · apply List.map_congr_left
    intro i hi
    have := List.mem_range.1 hi
    show _ = Value.slice (some ⟨if i = q then g else gb i, 0, none⟩) (ln i) (if i = q then c else cp i)
    rw [if_neg (by omega), if_neg (by omega)]
  · simp
/-- A list of lists that grows one by one, in new memory. -/
structure SG (W : World) (lo : Nat) (ov : Value) (q : Nat) (gb cp ln : Nat → Nat) (f : Nat → Nat → Int) : Prop where
  own : W.ownsRow lo 25 1 ov q (outS q gb ln cp)
  rows : ∀ i, i < q → Row W lo (gb i) (ln i) (cp i) (f i)
  inj : ∀ i j, i < q → j < q → i ≠ j → gb i ≠ gb j
  dj : ∀ g, ov.ownBlock = some g → ∀ i, i < q → gb i ≠ g
  small : q ≤ 1048576
section
variable {W W' : World} {lo q : Nat} {ov : Value} {gb cp ln : Nat → Nat} {f : Nat → Nat → Int} {R : Nat → Nat → Prop}
theorem SG.nil (W : World) (lo : Nat) (gb cp ln : Nat → Nat) (f : Nat → Nat → Int) : SG W lo (.slice none 0 0) 0 gb cp ln f :=
  ⟨⟨rfl, Or.inl ⟨rfl, rfl⟩⟩, fun i hi => absurd hi (Nat.not_lt_zero _), fun i j hi => absurd hi (Nat.not_lt_zero _), fun g h => (by cases h), by omega⟩
theorem SG.start {W : World} {lo g : Nat} (h : W.heap[g]? = some (.cells #[] 25 (0, 0))) (hl : lo ≤ g) (gb cp ln : Nat → Nat) (f : Nat → Nat → Int) : SG W lo (.slice (some ⟨g, 0, none⟩) 0 0) 0 gb cp ln f :=
  ⟨⟨rfl, Or.inr ⟨g, 0, #[], rfl, hl, h, Nat.le_refl _, by simp, rfl, rfl⟩⟩, fun i hi => absurd hi (Nat.not_lt_zero _), fun i j hi => absurd hi (Nat.not_lt_zero _), fun g h i hi => absurd hi (Nat.not_lt_zero _), by omega⟩
theorem SG.keep (H : SG W lo ov q gb cp ln f) (hw : Wrote R W W') (h1 : ∀ g o, ov.ownBlock = some g → ¬ R g o) (h2 : ∀ i o, i < q → ¬ R (gb i) o) : SG W' lo ov q gb cp ln f :=
  ⟨own_block H.own (fun g hg => hw.block g (own_at H.own hg).2 (fun o => h1 g o hg)), fun i hi => (H.rows i hi).keep hw (fun o => h2 i o hi), H.inj, H.dj, H.small⟩
theorem SG.below (H : SG W lo ov q gb cp ln f) (L : Below W.heap.size W W') : SG W' lo ov q gb cp ln f := H.keep (wrote_below L Nowhere) (fun _ _ _ x => x) (fun _ _ _ x => x)
/-- One more list. -/
theorem SG.push {g' c' gN cN : Nat} (H : SG W lo ov q gb cp ln f) (hw : Wrote (fun b _ => ov.ownBlock = some b) W W') (own' : W'.ownsRow lo 25 1 (.slice (some ⟨g', 0, none⟩) (q + 1) c') (q + 1) (outS q gb ln cp ++ [.slice (some ⟨gN, 0, none⟩) (ln q) cN])) (hat : ov.ownBlock = some g' ∨ W.heap.size ≤ g')
    (RN : Row W lo gN (ln q) cN (f q)) (hN1 : ov.ownBlock ≠ some gN) (hN2 : ∀ i, i < q → gb i ≠ gN) (hq : q < 1048576) : SG W' lo (.slice (some ⟨g', 0, none⟩) (q + 1) c') (q + 1) (fun i => if i = q then gN else gb i) (fun i => if i = q then cN else cp i) ln f := by
  rw [outS_snoc] at own'
  refine ⟨own', fun i hi => ?_, fun i j hi hj hij => ?_, fun g hg i hi => ?_, by omega⟩
  · by_cases e : i = q
    · subst e
      simp only [if_true]
      exact RN.keep hw (fun o h => hN1 h)
    · simp only [if_neg e]
      exact (H.rows i (by omega)).keep hw (fun o h => H.dj _ h i (by omega) rfl)
  · by_cases e : i = q
    · rw [if_pos e, if_neg (by omega)]
      exact fun x => hN2 j (by omega) x.symm
    · by_cases e' : j = q
      · rw [if_neg e, if_pos e']
        exact hN2 i (by omega)
      · rw [if_neg e, if_neg e']
        exact H.inj i j (by omega) (by omega) hij
  · obtain rfl : g' = g := by simpa [Value.ownBlock] using hg
    by_cases e : i = q
    · rw [if_pos e]
      rcases hat with h | h
      · exact fun x => hN1 (x ▸ h)
      · have := RN.parts.2.1
        omega
    · rw [if_neg e]
      rcases hat with h | h
      · exact H.dj _ h i (by omega)
      · have := (H.rows i (by omega)).parts.2.1
        omega
/-- A list of lists that has grown, on blocks of a kind. -/
theorem SG.on (H : SG W lo ov q gb cp ln f) {D : Nat → Prop} (hD : ∀ b, lo ≤ b → b < W.heap.size → D b) (hs : psum ln q ≤ 1099511627776) : SsOn W D ov q ln f := by
  have key : ∀ i, i < q → ∀ b o, Foot (some ⟨gb i, 0, none⟩) (ln i) b o → b = gb i := fun i hi b o ⟨off, e, _, _⟩ => by
    simp only [Option.some.injEq, Addr.mk.injEq] at e
    exact e.1.symm
  rcases id H.own.2 with ⟨e, e0⟩ | ⟨g, c, cur, hv, hb, hg, k1, k2, k3, k4⟩
  · have hq : q = 0 := by simpa using e0
    subst hq
    subst e
    refine ⟨fun _ => none, fun _ => 0, ⟨⟨none, 0, rfl, by omega, fun i hi => absurd hi (Nat.not_lt_zero _)⟩, fun i hi => absurd hi (Nat.not_lt_zero _), fun i j hi => absurd hi (Nat.not_lt_zero _), hs⟩, fun i hi => absurd hi (Nat.not_lt_zero _), fun i hi => absurd hi (Nat.not_lt_zero _), fun a cap e b o hF => absurd hF (foot_none _ _ _), fun i hi => absurd hi (Nat.not_lt_zero _)⟩
  · subst hv
    have hob : (Value.slice (some ⟨g, 0, none⟩) q c).ownBlock = some g := rfl
    have hcell : ∀ i, i < q → W.cell? ⟨g, i, none⟩ = some (.slice (some ⟨gb i, 0, none⟩) (ln i) (cp i)) := fun i hi => by
      have := own_cells H.own i (.slice (some ⟨gb i, 0, none⟩) (ln i) (cp i)) (by unfold outS; simp [hi])
      rwa [add_at, Nat.zero_add] at this
    refine ⟨fun i => some ⟨gb i, 0, none⟩, cp, ⟨⟨_, _, rfl, H.small, fun i hi => ⟨g, 0, rfl, by rw [Nat.zero_add]; exact hcell i hi, fun j hj hF => H.dj g hob j hj (key j hj _ _ hF).symm⟩⟩, fun i hi => (H.rows i hi).sl.free, fun i j hi hj hij b o h1 h2 => H.inj i j hi hj hij ((key i hi _ _ h1).symm.trans (key j hj _ _ h2)), hs⟩, fun i hi => (H.rows i hi).sl.row, fun i hi b o hF => ?_, fun a cap e b o hF => ?_, fun i hi => (H.rows i hi).small⟩
    · rw [key i hi b o hF]
      exact hD _ (H.rows i hi).parts.1 (H.rows i hi).parts.2.1
    · simp only [Value.slice.injEq, true_and] at e
      obtain ⟨rfl, -⟩ := e
      obtain ⟨off, e, _, _⟩ := hF
      simp only [Option.some.injEq, Addr.mk.injEq] at e
      rw [← e.1]
      exact hD _ hb (boxLt hg)
end
end Go.Proofs.YtpaedkefmebjjarGreat
namespace Go.Proofs.YtpaedkefmebjjarGreat
set_option linter.unusedVariables false
set_option linter.unusedSimpArgs false
open Go.ChangeShapes Go.WideShapes Go.ChangeAt Go.RowKit
theorem psum_leK12 {ln : Nat → Nat} {K : Nat} : ∀ {m : Nat}, (∀ i, i < m → ln i ≤ K) → psum ln m ≤ m * K
  | 0, _ => by simp [psum]
  | m + 1, h => by
    have h1 := psum_leK12 (m := m) (fun i hi => h i (by omega))
    have h2 := h m (by omega)
    simp only [psum]
    rw [Nat.succ_mul]
    omega
theorem psum_big {ln : Nat → Nat} {m : Nat} (hm : m ≤ 1048576) (h : ∀ i, i < m → ln i ≤ 1048576) : psum ln m ≤ 1099511627776 := by
  have h1 := psum_leK12 h
  have h2 := Nat.mul_le_mul_right 1048576 hm
  omega
set_option maxRecDepth 40000 in
set_option maxHeartbeats 4000000 in
theorem l12Image (w : World) (F : Nat → Nat → Prop) (u : Value) (m : Nat) (ln : Nat → Nat) (f : Nat → Nat → Int) (H : IntSS .i64 w F u m ln f) : Calls Tryz.prog 54 #[.agg #[u]] w fun e w' => ∃ v, e = .returned (.agg #[v]) ∧ SsOn w' (fun b => w.heap.size ≤ b ∧ b < w'.heap.size) v m ln f ∧ Below w.heap.size w w' := by
  obtain ⟨a, cap, rfl, hn, -, hc⟩ := H
  have hps : psum ln m ≤ 1099511627776 := psum_big hn (fun i hi => by obtain ⟨b, off, u, -, -, a', c', -, h, -⟩ := hc i hi; exact h)
  have L0 : Below w.heap.size w (((w.alloc (.cells #[.slice a m cap] 41)).alloc (.cells #[.slice none 0 0] 41)).alloc (.cells #[.slice none 0 0] 41)) := (((Below.refl _ _).alloc (Nat.le_refl _) _).alloc (by simp) _).alloc (by simp; omega) _
  have B0 : (((w.alloc (.cells #[.slice a m cap] 41)).alloc (.cells #[.slice none 0 0] 41)).alloc (.cells #[.slice none 0 0] 41)).heap[w.heap.size]? = some (.cells #[.slice a m cap] 41 (0, 0)) := boxA (boxA (box_new w _ _) _) _
  have B1 : (((w.alloc (.cells #[.slice a m cap] 41)).alloc (.cells #[.slice none 0 0] 41)).alloc (.cells #[.slice none 0 0] 41)).heap[w.heap.size + 1]? = some (.cells #[.slice none 0 0] 41 (0, 0)) := boxA (by simpa using box_new (w.alloc (.cells #[.slice a m cap] 41)) #[.slice none 0 0] 41) _
  have B2 : (((w.alloc (.cells #[.slice a m cap] 41)).alloc (.cells #[.slice none 0 0] 41)).alloc (.cells #[.slice none 0 0] 41)).heap[w.heap.size + 1 + 1]? = some (.cells #[.slice none 0 0] 41 (0, 0)) := by simpa using box_new ((w.alloc (.cells #[.slice a m cap] 41)).alloc (.cells #[.slice none 0 0] 41)) #[.slice none 0 0] 41
  have HL := hide hc
  clear hc
  go_enter Tryz.func54, Tryz.ntmps54
  go_wp2
  generalize ((w.alloc (.cells #[.slice a m cap] 41)).alloc (.cells #[.slice none 0 0] 41)).alloc (.cells #[.slice none 0 0] 41) = W0 at *
  go_loopw [4] (fun i wr => ∃ (q : Nat) (gb cp : Nat → Nat) (ov : Value), q ≤ m ∧ i = .int .i64 q ∧ SG wr (w.heap.size + 3) ov q gb cp ln f ∧ wr.heap[w.heap.size]? = some (.cells #[.slice a m cap] 41 (0, 0)) ∧ wr.heap[w.heap.size + 1]? = some (.cells #[.slice none 0 0] 41 (0, 0)) ∧ wr.heap[w.heap.size + 1 + 1]? = some (.cells #[ov] 41 (0, 0)) ∧ Below w.heap.size w wr) (fun i _ => m - (intOf i).toNat)
  case atStart => exact ⟨0, fun _ => 0, fun _ => 0, .slice none 0 0, Nat.zero_le _, rfl, SG.nil _ _ _ _ _ _, B0, B1, B2, L0⟩
  case round =>
    obtain ⟨q, gb, cp, ov, hq, rfl, hG, b0, b1, b2, hL⟩ := hrel
    clear B0 B1 B2 L0
    have hz := boxLt b2
    by_cases hqm : q < m
    · have hqm' : (q : Int) < (m : Int) := by omega
      obtain ⟨b, off, u', rfl, hcell, hI⟩ := HL.out q hqm
      have hbl := block_lt_of_cell hcell
      have hcell' : wr.cell? ⟨b, off + q, none⟩ = some u' := (hL.cell hbl).trans hcell
      have hI' := hI.keep (wrote_below hL Nowhere) (fun _ _ _ x => x)
      have wq : IntKind.i64.wrap (q : Int) = q := by rw [IntKind.wrap_i64]; omega
      have hqi : (0 : Int) ≤ (q : Int) := by omega
      have hob : ∀ g, ov.ownBlock = some g → w.heap.size + 3 ≤ g ∧ g < wr.heap.size := fun g hg => own_at hG.own hg
      obtain ⟨S, hS⟩ : ∃ S, Hid (S = wr.heap.size) := ⟨_, rfl⟩
      obtain ⟨ua, ux, rfl, un, ur, uF⟩ := id hI'
      have c0 := boxC b0
      go_upto_region 5 with (fail)
      clear c0
      refine wp_region_eff [some 13, some 14, some 15, some 16, some 17, some 18, some 19, some 20, some 21, some 22, some 23, some 24, none] (by kernel_rfl) (by kernel_rfl) (by kernel_rfl) (by kernel_rfl) (by simp [slotsOf])
        (fun j b' _ => (j = 10 ∧ ov.ownBlock = some b') ∨ (j = 12 ∧ b' = w.heap.size + 1 + 1))
        (fun i v W => match i with
          | 0 => v = .pointer (some ⟨w.heap.size + 1 + 1, 0, none⟩)
          | 1 => v = ov
          | 2 => ∃ gE, v = .slice (some ⟨gE, 0, none⟩) 0 0 ∧ W.heap[gE]? = some (.cells #[] 3 (0, 0)) ∧ S ≤ gE
          | 3 => v = .pointer (some ⟨w.heap.size, 0, none⟩)
          | 4 => v = .slice (some ⟨b, off, none⟩) m cap
          | 5 => v = .int .i64 (q : Int)
          | 6 => v = .pointer (some ⟨b, off + q, none⟩)
          | 7 => v = .slice ua (ln q) ux
          | 8 => ∃ gN cN, v = .slice (some ⟨gN, 0, none⟩) (ln q) cN ∧ Row W (w.heap.size + 3) gN (ln q) cN (f q) ∧ S ≤ gN
          | 9 => ∃ gB gN cN, v = .slice (some ⟨gB, 0, none⟩) 1 1 ∧ W.heap[gB]? = some (.cells #[.slice (some ⟨gN, 0, none⟩) (ln q) cN] 25 (0, 0)) ∧ Row W (w.heap.size + 3) gN (ln q) cN (f q) ∧ S ≤ gN ∧ S ≤ gB
          | 10 => ∃ g' c' gb' cp', v = .slice (some ⟨g', 0, none⟩) (q + 1) c' ∧ SG W (w.heap.size + 3) v (q + 1) gb' cp' ln f
          | 11 => v = .pointer (some ⟨w.heap.size + 1 + 1, 0, none⟩)
          | _ => ∃ g' c' gb' cp', W.heap[w.heap.size + 1 + 1]? = some (.cells #[.slice (some ⟨g', 0, none⟩) (q + 1) c'] 41 (0, 0)) ∧ SG W (w.heap.size + 3) (.slice (some ⟨g', 0, none⟩) (q + 1) c') (q + 1) gb' cp' ln f) ?_ ?_ ?_
      · intro i j o v W W' hij ho hnw hW h
        have far : ∀ (g k : Nat), S ≤ g → ¬ ((j = 10 ∧ ov.ownBlock = some g) ∨ (j = 12 ∧ g = w.heap.size + 1 + 1)) := fun g k hg hR => by
          have := hS.out
          rcases hR with ⟨-, h⟩ | ⟨-, h⟩
          · have := hob _ h; omega
          · omega
        match i, ho, hnw, hij, h with
        | 0, _, _, _, h => exact h
        | 1, _, _, _, h => exact h
        | 2, _, _, _, ⟨gE, h1, h2, h3⟩ => exact ⟨gE, h1, box_wrote h2 hW (fun o => far gE o h3), h3⟩
        | 3, _, _, _, h => exact h
        | 4, _, _, _, h => exact h
        | 5, _, _, _, h => exact h
        | 6, _, _, _, h => exact h
        | 7, _, _, _, h => exact h
        | 8, _, _, _, ⟨gN, cN, h1, h2, h3⟩ => exact ⟨gN, cN, h1, h2.keep hW (fun o => far gN o h3), h3⟩
        | 9, _, _, _, ⟨gB, gN, cN, h1, h2, h3, h4, h5⟩ => exact ⟨gB, gN, cN, h1, box_wrote h2 hW (fun o => far gB o h5), h3.keep hW (fun o => far gN o h4), h4, h5⟩
        | 10, _, _, hij, ⟨g', c', gb', cp', h1, h2⟩ =>
          refine ⟨g', c', gb', cp', h1, h2.keep hW (fun g o hg hR => ?_) (fun i o hi hR => ?_)⟩
          · rcases hR with ⟨e, -⟩ | ⟨-, e⟩
            · exact hij e.symm
            · have := own_at h2.own hg; omega
          · rcases hR with ⟨e, -⟩ | ⟨-, e⟩
            · exact hij e.symm
            · have := (h2.rows i hi).parts.1; omega
        | 11, _, _, _, h => exact h
        | 12, ho, hnw, hij, ⟨g', c', gb', cp', h1, h2⟩ =>
          simp only [List.getElem?_toArray, List.getElem?_cons_zero, List.getElem?_cons_succ, Option.some.injEq] at ho
          subst ho
          by_cases e10 : j = 10
          · subst e10
            cases hnw.symm.trans (show waitsB _ 10 = true by kernel_rfl)
          · have no : ∀ (b' k : Nat), ¬ ((j = 10 ∧ ov.ownBlock = some b') ∨ (j = 12 ∧ b' = w.heap.size + 1 + 1)) := fun b' k hR => by rcases hR with ⟨e, -⟩ | ⟨e, -⟩ <;> omega
            exact ⟨g', c', gb', cp', box_wrote h1 hW (fun o => no _ o), h2.keep hW (fun g o _ => no g o) (fun i o _ => no _ o)⟩
        | n + 13, ho, _, _, _ => simp at ho
      · intro i o a' W K ho F L hw hK
        have hS' := hS.out
        have t1 := F.get (t := 1) (v := .pointer (some ⟨w.heap.size, 0, none⟩)) (by decide) rfl
        have t3 := F.get (t := 3) (v := .pointer (some ⟨w.heap.size + 1 + 1, 0, none⟩)) (by decide) rfl
        have t4 := F.get (t := 4) (v := .int .i64 (q : Int)) (by decide) rfl
        have low : ∀ (g j : Nat), g < w.heap.size + 1 + 1 → ¬ ((j = 10 ∧ ov.ownBlock = some g) ∨ (j = 12 ∧ g = w.heap.size + 1 + 1)) := fun g j hg hR => by
          rcases hR with ⟨-, h⟩ | ⟨-, h⟩
          · have := hob _ h; omega
          · omega
        have LW : Below w.heap.size w W := hL.trans (L.below hL.size (fun g k hg ⟨j, _, _, _, _, hR⟩ => low g j (by omega) hR))
        have r0 := boxC (box_wrote b0 L (fun k ⟨j, _, _, _, _, hR⟩ => low _ j (by omega) hR))
        have rc : W.cell? ⟨b, off + q, none⟩ = some (.slice ua (ln q) ux) := (LW.cell hbl).trans hcell
        have WS : S ≤ W.heap.size := by have := L.size; omega
        match i with
        | 0 =>
          simp only [List.getElem?_toArray, List.getElem?_cons_zero, List.getElem?_cons_succ, Option.some.injEq] at ho
          subst ho
          go_simp
          exact hK _ _ (Wrote.refl _ _) rfl
        | 1 =>
          simp only [List.getElem?_toArray, List.getElem?_cons_zero, List.getElem?_cons_succ, Option.some.injEq] at ho
          subst ho
          have q0 : a'.tmps[13]?.getD undef = .pointer (some ⟨w.heap.size + 1 + 1, 0, none⟩) := hw 0 (by kernel_rfl)
          have r2 := boxC (box_wrote b2 L (fun k ⟨j, oj, hj, hoj, hwj, hR⟩ => by
            rcases hR with ⟨-, h⟩ | ⟨rfl, -⟩
            · have := hob _ h; omega
            · simp only [List.getElem?_toArray, List.getElem?_cons_zero, List.getElem?_cons_succ, Option.some.injEq] at hoj
              subst hoj
              cases hwj.symm.trans (show waitsB _ 1 = true by kernel_rfl)))
          go_simp
          exact hK _ _ (Wrote.refl _ _) rfl
        | 2 =>
          simp only [List.getElem?_toArray, List.getElem?_cons_zero, List.getElem?_cons_succ, Option.some.injEq] at ho
          subst ho
          go_simp
          exact hK _ _ ((Wrote.refl _ W).alloc _) ⟨_, rfl, box_new W #[] 3, WS⟩
        | 3 =>
          simp only [List.getElem?_toArray, List.getElem?_cons_zero, List.getElem?_cons_succ, Option.some.injEq] at ho
          subst ho
          go_simp
          exact hK _ _ (Wrote.refl _ _) rfl
        | 4 =>
          simp only [List.getElem?_toArray, List.getElem?_cons_zero, List.getElem?_cons_succ, Option.some.injEq] at ho
          subst ho
          have q0 : a'.tmps[16]?.getD undef = .pointer (some ⟨w.heap.size, 0, none⟩) := hw 3 (by kernel_rfl)
          go_simp
          exact hK _ _ (Wrote.refl _ _) rfl
        | 5 =>
          simp only [List.getElem?_toArray, List.getElem?_cons_zero, List.getElem?_cons_succ, Option.some.injEq] at ho
          subst ho
          go_simp
          exact hK _ _ (Wrote.refl _ _) rfl
        | 6 =>
          simp only [List.getElem?_toArray, List.getElem?_cons_zero, List.getElem?_cons_succ, Option.some.injEq] at ho
          subst ho
          have q0 : a'.tmps[17]?.getD undef = .slice (some ⟨b, off, none⟩) m cap := hw 4 (by kernel_rfl)
          have q1 : a'.tmps[18]?.getD undef = .int .i64 (q : Int) := hw 5 (by kernel_rfl)
          go_simp
          exact hK _ _ (Wrote.refl _ _) rfl
        | 7 =>
          simp only [List.getElem?_toArray, List.getElem?_cons_zero, List.getElem?_cons_succ, Option.some.injEq] at ho
          subst ho
          have q0 : a'.tmps[19]?.getD undef = .pointer (some ⟨b, off + q, none⟩) := hw 6 (by kernel_rfl)
          go_simp
          exact hK _ _ (Wrote.refl _ _) rfl
        | 8 =>
          simp only [List.getElem?_toArray, List.getElem?_cons_zero, List.getElem?_cons_succ, Option.some.injEq] at ho
          subst ho
          obtain ⟨gE, q0, q1, q2⟩ : ∃ gE, a'.tmps[15]?.getD undef = .slice (some ⟨gE, 0, none⟩) 0 0 ∧ W.heap[gE]? = some (.cells #[] 3 (0, 0)) ∧ S ≤ gE := hw 2 (by kernel_rfl)
          have q3 : a'.tmps[20]?.getD undef = .slice ua (ln q) ux := hw 7 (by kernel_rfl)
          refine wp_copy W (.tmp 15) (.tmp 20) rfl gE (by simpa [Act.eval] using q0) q1 (w.heap.size + 3) (by omega) _ _ (ln q) (f q) (by simpa [Act.eval] using q3) (hI.keep (wrote_below LW Nowhere) (fun _ _ _ x => x)) ?_
          intro gN cN W' hR hB hat
          exact hK _ _ (wrote_below hB _) ⟨gN, cN, rfl, hR, by rcases hat with h | h <;> omega⟩
        | 9 =>
          simp only [List.getElem?_toArray, List.getElem?_cons_zero, List.getElem?_cons_succ, Option.some.injEq] at ho
          subst ho
          obtain ⟨gN, cN, q0, q1, q2⟩ : ∃ gN cN, a'.tmps[21]?.getD undef = .slice (some ⟨gN, 0, none⟩) (ln q) cN ∧ Row W (w.heap.size + 3) gN (ln q) cN (f q) ∧ S ≤ gN := hw 8 (by kernel_rfl)
          go_simp
          exact hK _ _ ((Wrote.refl _ W).alloc _) ⟨_, gN, cN, rfl, box_new W #[.slice (some ⟨gN, 0, none⟩) (ln q) cN] 25, q1.below ((Below.refl _ _).alloc (Nat.le_refl _) _), q2, WS⟩
        | 10 =>
          simp only [List.getElem?_toArray, List.getElem?_cons_zero, List.getElem?_cons_succ, Option.some.injEq] at ho
          subst ho
          have q0 : a'.tmps[14]?.getD undef = ov := hw 1 (by kernel_rfl)
          obtain ⟨gB, gN, cN, q1, q2, q3, q4, q5⟩ : ∃ gB gN cN, a'.tmps[22]?.getD undef = .slice (some ⟨gB, 0, none⟩) 1 1 ∧ W.heap[gB]? = some (.cells #[.slice (some ⟨gN, 0, none⟩) (ln q) cN] 25 (0, 0)) ∧ Row W (w.heap.size + 3) gN (ln q) cN (f q) ∧ S ≤ gN ∧ S ≤ gB := hw 9 (by kernel_rfl)
          have hG' := hG.keep L (fun g k hg ⟨j, oj, hj, hoj, hwj, hR⟩ => by
            rcases hR with ⟨e, -⟩ | ⟨rfl, -⟩
            · exact hj e
            · simp only [List.getElem?_toArray, List.getElem?_cons_zero, List.getElem?_cons_succ, Option.some.injEq] at hoj
              subst hoj
              cases hwj.symm.trans (show waitsB _ 10 = true by kernel_rfl)) (fun i k hi ⟨j, oj, hj, hoj, hwj, hR⟩ => by
            rcases hR with ⟨e, -⟩ | ⟨rfl, -⟩
            · exact hj e
            · simp only [List.getElem?_toArray, List.getElem?_cons_zero, List.getElem?_cons_succ, Option.some.injEq] at hoj
              subst hoj
              cases hwj.symm.trans (show waitsB _ 10 = true by kernel_rfl))
          refine wp_pushS W (.tmp 14) (.tmp 22) rfl (w.heap.size + 3) ov q _ (by simpa [Act.eval] using q0) hG'.own (by omega) (by omega) gB (.slice (some ⟨gN, 0, none⟩) (ln q) cN) rfl (by simpa [Act.eval] using q1) (boxC q2 0) ?_
          intro g' c' W' own' hB hat
          exact hK _ _ (hB.mono (fun b' k _ h => Or.inl ⟨rfl, h⟩)) ⟨g', c', _, _, rfl, hG'.push hB own' hat q3 (fun e => by have := hob _ e; omega) (fun i hi e => by have := (hG.rows i hi).parts.2.1; omega) (by omega)⟩
        | 11 =>
          simp only [List.getElem?_toArray, List.getElem?_cons_zero, List.getElem?_cons_succ, Option.some.injEq] at ho
          subst ho
          go_simp
          exact hK _ _ (Wrote.refl _ _) rfl
        | 12 =>
          simp only [List.getElem?_toArray, List.getElem?_cons_zero, List.getElem?_cons_succ, Option.some.injEq] at ho
          subst ho
          have q0 : a'.tmps[24]?.getD undef = .pointer (some ⟨w.heap.size + 1 + 1, 0, none⟩) := hw 11 (by kernel_rfl)
          obtain ⟨g', c', gb', cp', q1, q2⟩ : ∃ g' c' gb' cp', a'.tmps[23]?.getD undef = .slice (some ⟨g', 0, none⟩) (q + 1) c' ∧ SG W (w.heap.size + 3) (a'.tmps[23]?.getD undef) (q + 1) gb' cp' ln f := hw 10 (by kernel_rfl)
          rw [q1] at q2
          have r2 := box_wrote b2 L (fun k ⟨j, oj, hj, hoj, hwj, hR⟩ => by
            rcases hR with ⟨-, h⟩ | ⟨e, -⟩
            · have := hob _ h; omega
            · exact hj e)
          have c2 := boxC r2
          have f2 := boxF r2
          have HQ := hide q2
          have HB := hide (box_set (o := 0) r2 (.slice (some ⟨g', 0, none⟩) (q + 1) c'))
          clear q2 r2
          go_simp
          refine hK undef _ (Wrote.setCell (Wrote.refl _ W) (fun _ => Or.inr ⟨rfl, rfl⟩) _) ⟨g', c', gb', cp', HB.out, HQ.out.keep (Wrote.setCell (R := fun b' _ => b' = w.heap.size + 1 + 1) (Wrote.refl _ W) (fun _ => rfl) _) (fun g o hg (e : g = _) => by have := own_at HQ.out.own hg; omega) (fun i o hi (e : _ = _) => by have := (HQ.out.rows i hi).parts.1; omega)⟩
        | n + 13 => simp at ho
      · intro a' W F L hφ
        obtain ⟨g', c', gb', cp', p1, p2⟩ : ∃ g' c' gb' cp', W.heap[w.heap.size + 1 + 1]? = some (.cells #[.slice (some ⟨g', 0, none⟩) (q + 1) c'] 41 (0, 0)) ∧ SG W (w.heap.size + 3) (.slice (some ⟨g', 0, none⟩) (q + 1) c') (q + 1) gb' cp' ln f := hφ 12 (by decide)
        have low : ∀ (g k : Nat), g < w.heap.size + 1 + 1 → ¬ (∃ j : Nat, (j = 10 ∧ ov.ownBlock = some g) ∨ (j = 12 ∧ g = w.heap.size + 1 + 1)) := fun g k hg ⟨j, hR⟩ => by
          rcases hR with ⟨-, h⟩ | ⟨-, h⟩
          · have := hob _ h; omega
          · omega
        have LW : Below w.heap.size w W := hL.trans (L.below hL.size (fun g k hg => low g k (by omega)))
        have r0 := box_wrote b0 L (fun k => low _ k (by omega))
        have r1 := box_wrote b1 L (fun k => low _ k (by omega))
        rw [F.same, show slotsOf [some 13, some 14, some 15, some 16, some 17, some 18, some 19, some 20, some 21, some 22, some 23, some 24, none] = [13, 14, 15, 16, 17, 18, 19, 20, 21, 22, 23, 24] from rfl]
        simp only [List.foldl_cons, List.foldl_nil]
        generalize a'.tmps[13]?.getD undef = s13
        generalize a'.tmps[14]?.getD undef = s14
        generalize a'.tmps[15]?.getD undef = s15
        generalize a'.tmps[16]?.getD undef = s16
        generalize a'.tmps[17]?.getD undef = s17
        generalize a'.tmps[18]?.getD undef = s18
        generalize a'.tmps[19]?.getD undef = s19
        generalize a'.tmps[20]?.getD undef = s20
        generalize a'.tmps[21]?.getD undef = s21
        generalize a'.tmps[22]?.getD undef = s22
        generalize a'.tmps[23]?.getD undef = s23
        generalize a'.tmps[24]?.getD undef = s24
        have HP := hide (And.intro p1 (And.intro p2 (And.intro r0 (And.intro r1 LW))))
        clear hφ L F p1 p2 r0 r1 LW hG b0 b1 b2 hL hcell hcell' hI hI' ur uF HL
        rename_i KK hKK
        refine hKK _ _ ?_
        go_simp
        go_wp2
        go_roundw
        case rel => exact ⟨q + 1, gb', cp', _, by omega, by go_num, HP.out.2.1, HP.out.2.2.1, HP.out.2.2.2.1, HP.out.1, HP.out.2.2.2.2⟩
        case measure => simp [intOf]; omega
    · have hqm' : ¬ (q : Int) < (m : Int) := by omega
      obtain rfl : q = m := by omega
      obtain ⟨oa, oc, hof⟩ : ∃ oa oc, ov = .slice oa q oc := by
        rcases hG.own.2 with ⟨e, e0⟩ | ⟨g, c, cur, hv, -⟩
        · have : q = 0 := by simpa using e0
          exact ⟨none, 0, by rw [e, this]⟩
        · exact ⟨_, _, hv⟩
      subst hof
      have c0 := boxC b0
      have c1 := boxC b1
      have c2 := boxC b2
      have f1 := boxF b1
      have HP := hide (And.intro hG hL)
      clear hG b0 b1 b2 hL HL
      go_wp2
      refine bodyPost_ret (v := .agg #[.slice oa q oc]) (by simp [results, Tryz.results54, go_sem, c1]) rfl ?_
      have WW := Wrote.setCell (b := w.heap.size + 1) (o := 0) (R := fun b _ => b = w.heap.size + 1) (Wrote.refl _ wr) (fun _ => rfl) (.slice oa q oc)
      refine ⟨_, rfl, (HP.out.1.keep WW (fun g o hg (e : g = _) => by have := own_at HP.out.1.own hg; omega) (fun i o hi (e : _ = _) => by have := (HP.out.1.rows i hi).parts.1; omega)).on (fun b h1 h2 => ⟨by omega, h2⟩) hps, HP.out.2.trans (WW.below HP.out.2.size (fun b o hb (e : b = _) => by omega))⟩
set_option maxRecDepth 40000 in
set_option maxHeartbeats 2000000 in
theorem l12List (w : World) (F : Nat → Nat → Prop) (u : Value) (m : Nat) (ln : Nat → Nat) (f : Nat → Nat → Int) (H : IntSS .i64 w F u m ln f) : Calls Tryz.prog 57 #[u] w fun e w' => ∃ ov gb cp, e = .returned ov ∧ SG w' w.heap.size ov m gb cp ln f ∧ Below w.heap.size w w' := by
  obtain ⟨a, cap, rfl, hn, -, hc⟩ := H
  have L0 : Below w.heap.size w (w.alloc (.cells #[] 25)) := (Below.refl _ _).alloc (Nat.le_refl _) _
  have B0 := box_new w #[] 25
  have HL := hide hc
  clear hc
  go_enter Tryz.func57, Tryz.ntmps57
  go_wp2
  generalize w.alloc (.cells #[] 25) = W0 at *
  go_loopw [3, 4] (fun ov i wr => ∃ (q : Nat) (gb cp : Nat → Nat), q ≤ m ∧ i = .int .i64 q ∧ SG wr w.heap.size ov q gb cp ln f ∧ Below w.heap.size w wr) (fun _ i _ => m - (intOf i).toNat)
  case atStart => exact ⟨0, fun _ => 0, fun _ => 0, Nat.zero_le _, rfl, SG.start B0 (Nat.le_refl _) _ _ _ _, L0⟩
  case round =>
    obtain ⟨q, gb, cp, hq, rfl, hG, hL⟩ := hrel
    clear B0 L0
    by_cases hqm : q < m
    · have hqm' : (q : Int) < (m : Int) := by omega
      obtain ⟨b, off, u', rfl, hcell, hI⟩ := HL.out q hqm
      have hbl := block_lt_of_cell hcell
      obtain ⟨ua, ux, rfl, un, ur, uF⟩ := id hI
      have LA : Below w.heap.size w (wr.alloc (.cells #[] 3)) := hL.alloc hL.size _
      have ca : (wr.alloc (.cells #[] 3)).cell? ⟨b, off + q, none⟩ = some (.slice ua (ln q) ux) := (LA.cell hbl).trans hcell
      have hE := box_new wr #[] 3
      have GA := hide (hG.below ((Below.refl _ wr).alloc (Nat.le_refl _) (.cells #[] 3)))
      have hob : ∀ g, u3.ownBlock = some g → w.heap.size ≤ g ∧ g < wr.heap.size := fun g hg => own_at hG.own hg
      have hgb : ∀ i, i < q → gb i < wr.heap.size := fun i hi => (hG.rows i hi).parts.2.1
      have hLs := hL.size
      have wq : IntKind.i64.wrap (q : Int) = q := by rw [IntKind.wrap_i64]; omega
      have hsz : (wr.alloc (.cells #[] 3)).heap.size = wr.heap.size + 1 := by simp
      have HSZ := hide hsz
      clear hG hcell hsz
      go_wp2_with (at_builtin; refine wpList_copy _ rfl _ _ rfl wr.heap.size rfl hE w.heap.size hLs F (.slice ua (ln q) ux) (ln q) (f q) rfl (hI.keep (wrote_below LA Nowhere) (fun _ _ _ x => x)) ?_)
      intro gN cN W2 RN L2 hat
      have hgN : wr.heap.size ≤ gN := by have := HSZ.out; rcases hat with h | h <;> omega
      replace L2 : Below (wr.alloc (.cells #[] 3)).heap.size (wr.alloc (.cells #[] 3)) W2 := by rw [HSZ.out]; exact L2
      have G2 := GA.out.below L2
      have LB := below_snoc LA L2
      clear GA LA L2 hat HSZ ca hE
      have LX : Below W2.heap.size W2 (W2.alloc (.cells #[.slice (some ⟨gN, 0, none⟩) (ln q) cN] 25)) := (Below.refl _ _).alloc (Nat.le_refl _) _
      have hB := boxC (box_new W2 #[.slice (some ⟨gN, 0, none⟩) (ln q) cN] 25) 0
      have G3 := hide (G2.below LX)
      have R3 := hide (RN.below LX)
      have LC := hide (below_snoc LB LX)
      clear G2 RN LB LX
      go_wp2_with (at_builtin; refine wpList_pushS _ rfl _ _ rfl w.heap.size u3 q _ rfl G3.out.own (by omega) LC.out.size W2.heap.size (.slice (some ⟨gN, 0, none⟩) (ln q) cN) rfl rfl hB ?_)
      intro g' c' W4 own' hW hat'
      have GN := hide (G3.out.push hW own' (by simpa using hat') R3.out (fun e => by have := hob _ e; omega) (fun i hi e => by have := hgb i hi; omega) (by omega))
      have LD := LC.out.trans (hW.below LC.out.size (fun b o hb (e : u3.ownBlock = some b) => by have := hob _ e; omega))
      clear G3 R3 LC own' hW hat' hB
      go_wp2
      go_roundw
      case rel => exact ⟨q + 1, _, _, by omega, by go_num, GN.out, LD⟩
      case measure => simp [intOf]; omega
    · have hqm' : ¬ (q : Int) < (m : Int) := by omega
      obtain rfl : q = m := by omega
      have HP := hide (And.intro hG hL)
      clear hG hL HL
      go_wp2
      go_ret
      first | exact ⟨_, gb, cp, rfl, HP.out.1, HP.out.2⟩ | exact ⟨_, rfl, ⟨gb, cp, HP.out.1⟩, HP.out.2⟩
end Go.Proofs.YtpaedkefmebjjarGreat
namespace Go.Proofs.YtpaedkefmebjjarGreat
set_option linter.unusedVariables false
set_option linter.unusedSimpArgs false
open Go.ChangeShapes Go.WideShapes Go.ChangeAt Go.RowKit
def frN (t : Int) : Int := (t + 15) / 64
def okFr (m : Nat) (ln : Nat → Nat) (t : Int) : Bool := decide ((∀ i, i < m → ln i = 48) ∧ (m : Int) = frN t)
theorem okFr_no {m : Nat} {ln : Nat → Nat} {t : Int} {i : Nat} (hi : i < m) (h : ¬ ln i = 48) : okFr m ln t = false := decide_eq_false (fun x => h (x.1 i hi))
theorem okFr_end {m : Nat} {ln : Nat → Nat} {t : Int} (h : ∀ i, i < m → ln i = 48) : okFr m ln t = ((m : Int) == frN t) := by
  by_cases e : (m : Int) = frN t
  · rw [okFr, decide_eq_true ⟨h, e⟩]; exact (beq_iff_eq.2 e).symm
  · rw [okFr, decide_eq_false (fun x => e x.2)]; exact (beq_eq_false_iff_ne.2 e).symm
theorem okPpu_range {t c s ad pl : Int} {n : Nat} {f : Nat → Int} {m : Nat} {g : Nat → Int} (h : okPpu t c s ad pl n f m g = true) : 0 ≤ t ∧ t ≤ 20000 := by
  unfold okPpu at h
  rw [Bool.and_eq_true] at h
  exact (inB_iff _ _ _).1 h.1
def okLock (d : LockD) : Bool := okPads d.np d.p && (okMem d.m d.ln d.f d.nr d.g d.bank && (okCpu d.A d.X d.S d.Pc && (okPpu d.t d.c d.s d.ad d.pl d.nt d.tb d.nd d.dt && (okApu d.T d.P d.K d.B d.L && (inB d.sh 0 255 && ((d.t == d.T) && (inB d.st 0 d.t && (okFr d.mf d.lf d.t && ((d.ns : Int) == d.t / 16)))))))))
end Go.Proofs.YtpaedkefmebjjarGreat
