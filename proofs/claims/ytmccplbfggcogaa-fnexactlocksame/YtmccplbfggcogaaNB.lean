/-
  Chapter 17: what is seen, held against each other: ObsBegins, ObsSame.
-/
import Derived.Test.YtmccplbfggcogaaKO
import Derived.Test.YtmccplbfggcogaaNA
import Derived.BigQuiet
namespace Go.Proofs.Ytmccplbfggcogaa
set_option linter.unusedVariables false
set_option linter.unusedSimpArgs false
open Go.ChangeShapes Go.WideShapes Go.ChangeAt Go.RowKit
/-- What is seen, in numbers. -/
structure ObD where
  mf : Nat
  lf : Nat → Nat
  fr : Nat → Nat → Int
  ns : Nat
  sm : Nat → Int
  nq : Nat
  rd : Nat → Int
def ObA (W : World) (D : Nat → Nat → Prop) (v : Value) (o : ObD) : Prop := ObsOn W D v o.mf o.lf o.fr o.ns o.sm o.nq o.rd
def obsBeg (a b : ObD) : Bool := begSS a.mf b.mf a.lf b.lf a.fr b.fr && (begI a.ns b.ns a.sm b.sm && begI a.nq b.nq a.rd b.rd)
def obsSame (a b : ObD) : Bool := eqIntss a.mf b.mf a.lf b.lf a.fr b.fr && (eqInts a.ns b.ns a.sm b.sm && eqInts a.nq b.nq a.rd b.rd)
theorem obsBeg_two (a b : ObD) : (obsBeg a b && obsBeg b a) = obsSame a b := by
  unfold obsBeg obsSame
  rw [← begSS_two (f := a.fr), ← begI_two (f := a.sm), ← begI_two (f := a.rd)]
  generalize begSS a.mf b.mf a.lf b.lf a.fr b.fr = x1
  generalize begSS b.mf a.mf b.lf a.lf b.fr a.fr = x2
  generalize begI a.ns b.ns a.sm b.sm = x3
  generalize begI b.ns a.ns b.sm a.sm = x4
  generalize begI a.nq b.nq a.rd b.rd = x5
  generalize begI b.nq a.nq b.rd a.rd = x6
  revert x1 x2 x3 x4 x5 x6
  decide
theorem ListOn.ints17 {W : World} {D : Nat → Prop} {u : Value} {n : Nat} {f : Nat → Int} (H : ListOn W D u n f) : Ints .i64 W (On D) u n f := by
  obtain ⟨d, z, rfl, h⟩ := H
  exact h.ints z
theorem ObsOn.below {W W' : World} {D : Nat → Nat → Prop} {v : Value} {mf : Nat} {lf : Nat → Nat} {fr : Nat → Nat → Int} {ns : Nat} {sm : Nat → Int} {nq : Nat} {rd : Nat → Int} (H : ObsOn W D v mf lf fr ns sm nq rd) (L : Below W.heap.size W W') : ObsOn W' D v mf lf fr ns sm nq rd := by
  obtain ⟨u5, u6, u7, rfl, h5, h6, h7⟩ := H
  exact ⟨u5, u6, u7, rfl, h5.below L, h6.below L, h7.below L⟩

theorem implObsSame (w : World) (D E : Nat → Nat → Prop) (v u : Value) (a b : ObD) (H : ObA w D v a) (K : ObA w E u b) :
    Calls Try.prog 19 #[v, u] w fun e w' => e = .returned (.bool (obsSame a b)) ∧ Below w.heap.size w w' := by
  obtain ⟨u5, u6, u7, rfl, h5, h6, h7⟩ := H
  obtain ⟨v5, v6, v7, rfl, k5, k6, k7⟩ := K
  have L0 : Below w.heap.size w ((w.alloc (.cells #[u5, u6, u7] 47)).alloc (.cells #[v5, v6, v7] 47)) := ((Below.refl _ _).alloc (Nat.le_refl _) _).alloc (by simp) _
  have B0 : ((w.alloc (.cells #[u5, u6, u7] 47)).alloc (.cells #[v5, v6, v7] 47)).heap[w.heap.size]? = some (.cells #[u5, u6, u7] 47 (0, 0)) := boxA (box_new w #[u5, u6, u7] 47) _
  have B1 : ((w.alloc (.cells #[u5, u6, u7] 47)).alloc (.cells #[v5, v6, v7] 47)).heap[w.heap.size + 1]? = some (.cells #[v5, v6, v7] 47 (0, 0)) := by simpa using box_new (w.alloc (.cells #[u5, u6, u7] 47)) #[v5, v6, v7] 47
  replace h5 := hide (h5.below L0).ints
  replace h6 := hide (h6.below L0).ints17
  replace h7 := hide (h7.below L0).ints17
  replace k5 := hide (k5.below L0).ints
  replace k6 := hide (k6.below L0).ints17
  replace k7 := hide (k7.below L0).ints17
  go_enter Try.func19, Try.ntmps19
  go_wp2_with fail
  generalize (w.alloc (.cells #[u5, u6, u7] 47)).alloc (.cells #[v5, v6, v7] 47) = W0 at *
  have c0 := boxC B0
  have c1 := boxC B1
  clear B0 B1
  refine (implSameSS _ _ _ _ _ a.mf b.mf a.lf b.lf a.fr b.fr h5.out k5.out).mono ?_
  rintro e W1 ⟨rfl, rfl⟩
  clear h5 k5
  cases q1 : eqIntss a.mf b.mf a.lf b.lf a.fr b.fr
  · have X1 := hide q1
    clear q1
    go_wp2
    go_ret
    exact ⟨by simp [obsSame, X1.out], L0⟩
  have X1 := hide q1
  clear q1
  go_wp2_with fail
  refine (implSameList _ _ _ _ _ a.ns b.ns a.sm b.sm h6.out k6.out).mono ?_
  rintro e W2 ⟨rfl, rfl⟩
  clear h6 k6
  cases q2 : eqInts a.ns b.ns a.sm b.sm
  · have X2 := hide q2
    clear q2
    go_wp2
    go_ret
    exact ⟨by simp [obsSame, X1.out, X2.out], L0⟩
  have X2 := hide q2
  clear q2
  go_wp2_with fail
  refine (implSameList _ _ _ _ _ a.nq b.nq a.rd b.rd h7.out k7.out).mono ?_
  rintro e W3 ⟨rfl, rfl⟩
  clear h7 k7
  cases q3 : eqInts a.nq b.nq a.rd b.rd
  · have X3 := hide q3
    clear q3
    go_wp2
    go_ret
    exact ⟨by simp [obsSame, X1.out, X2.out, X3.out], L0⟩
  have X3 := hide q3
  clear q3
  go_wp2
  go_ret
  exact ⟨by simp [obsSame, X1.out, X2.out, X3.out], L0⟩
theorem implObsBegins (w : World) (D E : Nat → Nat → Prop) (v u : Value) (a b : ObD) (H : ObA w D v a) (K : ObA w E u b) :
    Calls Try.prog 21 #[v, u] w fun e w' => e = .returned (.bool (obsBeg a b)) ∧ Below w.heap.size w w' := by
  obtain ⟨u5, u6, u7, rfl, h5, h6, h7⟩ := H
  obtain ⟨v5, v6, v7, rfl, k5, k6, k7⟩ := K
  have L0 : Below w.heap.size w ((w.alloc (.cells #[u5, u6, u7] 47)).alloc (.cells #[v5, v6, v7] 47)) := ((Below.refl _ _).alloc (Nat.le_refl _) _).alloc (by simp) _
  have B0 : ((w.alloc (.cells #[u5, u6, u7] 47)).alloc (.cells #[v5, v6, v7] 47)).heap[w.heap.size]? = some (.cells #[u5, u6, u7] 47 (0, 0)) := boxA (box_new w #[u5, u6, u7] 47) _
  have B1 : ((w.alloc (.cells #[u5, u6, u7] 47)).alloc (.cells #[v5, v6, v7] 47)).heap[w.heap.size + 1]? = some (.cells #[v5, v6, v7] 47 (0, 0)) := by simpa using box_new (w.alloc (.cells #[u5, u6, u7] 47)) #[v5, v6, v7] 47
  replace h5 := hide (h5.below L0).ints
  replace h6 := hide (h6.below L0).ints17
  replace h7 := hide (h7.below L0).ints17
  replace k5 := hide (k5.below L0).ints
  replace k6 := hide (k6.below L0).ints17
  replace k7 := hide (k7.below L0).ints17
  go_enter Try.func21, Try.ntmps21
  go_wp2_with fail
  generalize (w.alloc (.cells #[u5, u6, u7] 47)).alloc (.cells #[v5, v6, v7] 47) = W0 at *
  have c0 := boxC B0
  have c1 := boxC B1
  clear B0 B1
  refine (implBeginsSS _ _ _ _ _ a.mf b.mf a.lf b.lf a.fr b.fr h5.out k5.out).mono ?_
  rintro e W1 ⟨rfl, rfl⟩
  clear h5 k5
  cases q1 : begSS a.mf b.mf a.lf b.lf a.fr b.fr
  · have X1 := hide q1
    clear q1
    go_wp2
    go_ret
    exact ⟨by simp [obsBeg, X1.out], L0⟩
  have X1 := hide q1
  clear q1
  go_wp2_with fail
  refine (implBegins _ _ _ _ _ a.ns b.ns a.sm b.sm h6.out k6.out).mono ?_
  rintro e W2 ⟨rfl, rfl⟩
  clear h6 k6
  cases q2 : begI a.ns b.ns a.sm b.sm
  · have X2 := hide q2
    clear q2
    go_wp2
    go_ret
    exact ⟨by simp [obsBeg, X1.out, X2.out], L0⟩
  have X2 := hide q2
  clear q2
  go_wp2_with fail
  refine (implBegins _ _ _ _ _ a.nq b.nq a.rd b.rd h7.out k7.out).mono ?_
  rintro e W3 ⟨rfl, rfl⟩
  clear h7 k7
  cases q3 : begI a.nq b.nq a.rd b.rd
  · have X3 := hide q3
    clear q3
    go_wp2
    go_ret
    exact ⟨by simp [obsBeg, X1.out, X2.out, X3.out], L0⟩
  have X3 := hide q3
  clear q3
  go_wp2
  go_ret
  exact ⟨by simp [obsBeg, X1.out, X2.out, X3.out], L0⟩
theorem specObsBegins (w : World) (D E : Nat → Nat → Prop) (v u : Value) (a b : ObD) (H : ObA w D v a) (K : ObA w E u b) :
    Calls Try.prog 20 #[v, u] w fun e w' => e = .returned (.bool (obsBeg a b)) ∧ Below w.heap.size w w' := by
  obtain ⟨u5, u6, u7, rfl, h5, h6, h7⟩ := H
  obtain ⟨v5, v6, v7, rfl, k5, k6, k7⟩ := K
  have L0 : Below w.heap.size w ((w.alloc (.cells #[u5, u6, u7] 47)).alloc (.cells #[v5, v6, v7] 47)) := ((Below.refl _ _).alloc (Nat.le_refl _) _).alloc (by simp) _
  have B0 : ((w.alloc (.cells #[u5, u6, u7] 47)).alloc (.cells #[v5, v6, v7] 47)).heap[w.heap.size]? = some (.cells #[u5, u6, u7] 47 (0, 0)) := boxA (box_new w #[u5, u6, u7] 47) _
  have B1 : ((w.alloc (.cells #[u5, u6, u7] 47)).alloc (.cells #[v5, v6, v7] 47)).heap[w.heap.size + 1]? = some (.cells #[v5, v6, v7] 47 (0, 0)) := by simpa using box_new (w.alloc (.cells #[u5, u6, u7] 47)) #[v5, v6, v7] 47
  replace h5 := (h5.below L0).ints
  replace h6 := hide (h6.below L0).ints17
  replace h7 := hide (h7.below L0).ints17
  replace k5 := (k5.below L0).ints
  replace k6 := hide (k6.below L0).ints17
  replace k7 := hide (k7.below L0).ints17
  obtain ⟨a5, c5, rfl, hm, -, hc⟩ := h5
  obtain ⟨a5', c5', rfl, hm', -, hc'⟩ := k5
  replace hc := hide hc
  replace hc' := hide hc'
  by_cases hl : b.mf < a.mf
  · have hl' : (b.mf : Int) < (a.mf : Int) := by omega
    go_enter Try.func20, Try.ntmps20
    go_wp2_with fail
    go_wp2
    go_ret
    exact ⟨by simp [obsBeg, begSS_long hl], L0⟩
  have hl' : ¬ (b.mf : Int) < (a.mf : Int) := by omega
  go_enter Try.func20, Try.ntmps20
  go_wp2_with fail
  generalize (w.alloc (.cells #[.slice a5 a.mf c5, u6, u7] 47)).alloc (.cells #[.slice a5' b.mf c5', v6, v7] 47) = W0 at *
  have c0 := boxC B0
  have c1 := boxC B1
  clear B0 B1
  refine (specBegins _ _ _ _ _ a.ns b.ns a.sm b.sm h6.out k6.out).mono ?_
  rintro e W1 ⟨rfl, d1, rfl⟩
  clear h6 k6
  cases q2 : begI a.ns b.ns a.sm b.sm
  · have X2 := hide q2
    clear q2
    go_wp2
    go_ret
    exact ⟨by simp [obsBeg, X2.out], below_drewN L0 d1⟩
  have X2 := hide q2
  clear q2
  go_wp2_with fail
  refine (specBegins (W0.drewN d1) _ _ _ _ a.nq b.nq a.rd b.rd h7.out k7.out).mono ?_
  rintro e W2 ⟨rfl, d2, rfl⟩
  clear h7 k7
  cases q3 : begI a.nq b.nq a.rd b.rd
  · have X3 := hide q3
    clear q3
    go_wp2
    go_ret
    exact ⟨by simp [obsBeg, X2.out, X3.out], by first | exact below_drewN L0 _ | exact below_drewN (below_drewN L0 d1) d2⟩
  have X3 := hide q3
  clear q3
  obtain ⟨d3, hd3⟩ := drew2 W0 d1 d2
  rw [hd3]
  clear hd3
  go_wp2
  go_loopw [5] (fun i wr => ∃ k : Nat, k ≤ a.mf ∧ i = .int .i64 k ∧ (∀ j, j < k → eqInts (a.lf j) (b.lf j) (a.fr j) (b.fr j) = true) ∧ ∃ d, wr = W0.drewN d) (fun i _ => a.mf - (intOf i).toNat)
  case atStart => exact ⟨0, Nat.zero_le _, rfl, fun j hj => absurd hj (Nat.not_lt_zero _), d3, rfl⟩
  case round =>
    obtain ⟨k, hk, rfl, heq, d, rfl⟩ := hrel
    have HQ := hide heq
    clear heq
    by_cases hlt : k < a.mf
    · obtain ⟨b1, o1, x0, rfl, hcell, hx0⟩ := hc.out k hlt
      obtain ⟨b2, o2, y0, rfl, hcell', hy0⟩ := hc'.out k (by omega)
      have hlt' : (k : Int) < (a.mf : Int) := by omega
      have hlt2 : (k : Int) < (b.mf : Int) := by omega
      clear hc hc'
      have hx := hide hx0
      have hy := hide hy0
      clear hx0 hy0
      cases hq : eqInts (a.lf k) (b.lf k) (a.fr k) (b.fr k)
      · go_wp2
        go_quiet ((go_at_call 63; exact quiet_of2 (specSame17 _ _ _ x0 y0 (a.lf k) (b.lf k) (a.fr k) (b.fr k) hx.out hy.out)))
        go_wp2
        go_ret
        exact ⟨by simp [obsBeg, begSS_no hlt hq], by obtain ⟨d9, h9⟩ := drew2 W0 _ _; rw [h9]; exact below_drewN L0 _⟩
      · have HK := hide hq
        go_wp2
        go_quiet ((go_at_call 63; exact quiet_of2 (specSame17 _ _ _ x0 y0 (a.lf k) (b.lf k) (a.fr k) (b.fr k) hx.out hy.out)))
        go_wp2
        go_roundw
        case rel => exact ⟨k + 1, by omega, by go_num, eqs_snoc (unhide HQ) (unhide HK), _, rfl⟩
        case measure => simp [intOf]; omega
    · have hlt' : ¬ (k : Int) < (a.mf : Int) := by omega
      go_wp2
      go_ret
      exact ⟨by simp [obsBeg, begSS_yes (show a.mf ≤ b.mf by omega) (fun i hi => unhide HQ i (by omega)), X2.out, X3.out], below_drewN L0 d⟩
theorem specObsSame (w : World) (D E : Nat → Nat → Prop) (v u : Value) (a b : ObD) (H : ObA w D v a) (K : ObA w E u b) :
    Calls Try.prog 17 #[v, u] w fun e w' => e = .returned (.bool (obsSame a b)) ∧ Below w.heap.size w w' := by
  rw [← obsBeg_two]
  obtain ⟨u5, u6, u7, rfl, h5, h6, h7⟩ := H
  obtain ⟨v5, v6, v7, rfl, k5, k6, k7⟩ := K
  have L0 : Below w.heap.size w ((w.alloc (.cells #[u5, u6, u7] 47)).alloc (.cells #[v5, v6, v7] 47)) := ((Below.refl _ _).alloc (Nat.le_refl _) _).alloc (by simp) _
  have B0 : ((w.alloc (.cells #[u5, u6, u7] 47)).alloc (.cells #[v5, v6, v7] 47)).heap[w.heap.size]? = some (.cells #[u5, u6, u7] 47 (0, 0)) := boxA (box_new w #[u5, u6, u7] 47) _
  have B1 : ((w.alloc (.cells #[u5, u6, u7] 47)).alloc (.cells #[v5, v6, v7] 47)).heap[w.heap.size + 1]? = some (.cells #[v5, v6, v7] 47 (0, 0)) := by simpa using box_new (w.alloc (.cells #[u5, u6, u7] 47)) #[v5, v6, v7] 47
  have HH := hide (show ObA w D (.agg #[u5, u6, u7]) a from ⟨_, _, _, rfl, h5, h6, h7⟩)
  have KK := hide (show ObA w E (.agg #[v5, v6, v7]) b from ⟨_, _, _, rfl, k5, k6, k7⟩)
  clear h5 h6 h7 k5 k6 k7
  replace HH := hide (HH.out.below L0)
  replace KK := hide (KK.out.below L0)
  go_enter Try.func17, Try.ntmps17
  go_wp2_with fail
  generalize (w.alloc (.cells #[u5, u6, u7] 47)).alloc (.cells #[v5, v6, v7] 47) = W0 at *
  refine (specObsBegins _ _ _ _ _ a b HH.out KK.out).mono ?_
  rintro e W1 ⟨rfl, L⟩
  replace L0 := below_snoc L0 L
  replace B0 := box_keep B0 L (boxLt B0)
  replace B1 := box_keep B1 L (boxLt B1)
  replace HH := hide (HH.out.below L)
  replace KK := hide (KK.out.below L)
  clear L
  have c0 := boxC B0
  have c1 := boxC B1
  clear B0 B1
  cases q1 : obsBeg a b
  · have X1 := hide q1
    clear q1
    go_wp2
    go_ret
    exact ⟨by simp [X1.out], L0⟩
  have X1 := hide q1
  clear q1
  go_wp2_with fail
  refine (specObsBegins _ _ _ _ _ b a KK.out HH.out).mono ?_
  rintro e W2 ⟨rfl, L⟩
  replace L0 := below_snoc L0 L
  go_wp2
  go_ret
  exact ⟨by simp [X1.out], L0⟩
end Go.Proofs.Ytmccplbfggcogaa
