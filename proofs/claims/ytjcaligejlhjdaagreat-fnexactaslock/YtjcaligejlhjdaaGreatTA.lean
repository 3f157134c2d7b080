/-
  Chapter 14's mirror of a sound unit that comes after: on blocks of a kind; sizes, copies, comparisons, marks.
-/
import Derived.Test.YtjcaligejlhjdaaGreatRB
import Derived.Test.YtjcaligejlhjdaaGreatI9
import Derived.Test.YtjcaligejlhjdaaGreatKO
namespace Go.Proofs.YtjcaligejlhjdaaGreat
set_option linter.unusedVariables false
set_option linter.unusedSimpArgs false
open Go.ChangeShapes Go.WideShapes Go.ChangeAt Go.RowKit
theorem boxSetT {w : World} {b o : Nat} {cs : Array Value} {t : TypeId} {fr : Nat × Nat} (h : w.heap[b]? = some (.cells cs t fr)) (x : Value) : (w.setCell ⟨b, o, none⟩ x).heap[b]? = some (.cells (cs.setIfInBounds o x) t fr) := box_set7 h o x
theorem boxWroteT {R : Nat → Nat → Prop} {w w' : World} {b : Nat} {o : Obj} (h : w.heap[b]? = some o) (hw : Wrote R w w') (hd : ∀ o, ¬ R b o) : w'.heap[b]? = some o := (hw.block b (boxLt h) hd).trans h
/-- A sound unit that comes after, in numbers. -/
structure SnD where
  T : Int
  P : Int
  C : Int
  B : Int
  L : Int
  S : Bool
  Q : Bool
  cap : Int
  n : Nat
  f : Nat → Int
  ns : Nat
  sm : Nat → Int
structure SnOn (W : World) (D : Nat → Nat → Prop) (v : Value) (d : SnD) : Prop where
  ex : ∃ u1 u2, v = .agg #[.int .i64 d.T, .int .i64 d.P, .int .i64 d.C, .int .i64 d.B, .int .i64 d.L, .bool d.S, .bool d.Q, .int .i64 d.cap, u1, u2] ∧ RsOn W (D 0) u1 d.n d.f ∧ ListOn W (D 1) u2 d.ns d.sm
section
variable {R : Nat → Nat → Prop} {W W' : World} {D E : Nat → Nat → Prop} {v : Value} {d : SnD}
theorem SnOn.keep (H : SnOn W D v d) (hw : Wrote R W W') (hd : ∀ i b o, D i b → b < W.heap.size → ¬ R b o) : SnOn W' D v d := by
  obtain ⟨u1, u2, e, h1, h2⟩ := H
  exact ⟨u1, u2, e, h1.keep hw (hd 0), h2.keep hw (hd 1)⟩
theorem SnOn.below (H : SnOn W D v d) (L : Below W.heap.size W W') : SnOn W' D v d := H.keep (wrote_below L Nowhere) (fun _ _ _ _ _ x => x)
theorem SnOn.mono (H : SnOn W D v d) (hd : ∀ i b, b < W.heap.size → D i b → E i b) : SnOn W E v d := by
  obtain ⟨u1, u2, e, h1, h2⟩ := H
  exact ⟨u1, u2, e, h1.mono (hd 0), h2.mono (hd 1)⟩
theorem SnOn.form (H : SnOn W D v d) : ∃ a c a' c', v = .agg #[.int .i64 d.T, .int .i64 d.P, .int .i64 d.C, .int .i64 d.B, .int .i64 d.L, .bool d.S, .bool d.Q, .int .i64 d.cap, .slice a d.n c, .slice a' d.ns c'] := by
  obtain ⟨u1, u2, e, h1, h2⟩ := H
  obtain ⟨a, c, rfl⟩ := h1.two
  obtain ⟨a', c', rfl⟩ := h2.two
  exact ⟨a, c, a', c', e⟩
end
def markSn (d : SnD) (k : Int) : SnD := { d with f := fun i => k + i, sm := fun i => k + 3 * d.n + i }
theorem onEqSound (w : World) (D E : Nat → Nat → Prop) (v u : Value) (d : SnD) (H : SnOn w D v d) (K : SnOn w E u d) :
    Calls Tryz.prog 41 #[v, u] w fun e w' => e = .returned (.bool true) ∧ Below w.heap.size w w' := by
  obtain ⟨u1, u2, rfl, h1, h2⟩ := H
  obtain ⟨v1, v2, rfl, k1, k2⟩ := K
  obtain ⟨xa, xc, rfl⟩ := h1.two
  obtain ⟨x', xd, rfl⟩ := h2.two
  obtain ⟨ya, yc, rfl⟩ := k1.two
  obtain ⟨y', yd, rfl⟩ := k2.two
  have L0 : Below w.heap.size w ((w.alloc (.cells #[.int .i64 d.T, .int .i64 d.P, .int .i64 d.C, .int .i64 d.B, .int .i64 d.L, .bool d.S, .bool d.Q, .int .i64 d.cap, .slice xa d.n xc, .slice x' d.ns xd] 44)).alloc (.cells #[.int .i64 d.T, .int .i64 d.P, .int .i64 d.C, .int .i64 d.B, .int .i64 d.L, .bool d.S, .bool d.Q, .int .i64 d.cap, .slice ya d.n yc, .slice y' d.ns yd] 44)) := ((Below.refl _ _).alloc (Nat.le_refl _) _).alloc (by simp) _
  have B0 : ((w.alloc (.cells #[.int .i64 d.T, .int .i64 d.P, .int .i64 d.C, .int .i64 d.B, .int .i64 d.L, .bool d.S, .bool d.Q, .int .i64 d.cap, .slice xa d.n xc, .slice x' d.ns xd] 44)).alloc (.cells #[.int .i64 d.T, .int .i64 d.P, .int .i64 d.C, .int .i64 d.B, .int .i64 d.L, .bool d.S, .bool d.Q, .int .i64 d.cap, .slice ya d.n yc, .slice y' d.ns yd] 44)).heap[w.heap.size]? = some (.cells #[.int .i64 d.T, .int .i64 d.P, .int .i64 d.C, .int .i64 d.B, .int .i64 d.L, .bool d.S, .bool d.Q, .int .i64 d.cap, .slice xa d.n xc, .slice x' d.ns xd] 44 (0, 0)) := boxA (box_new w _ _) _
  have B1 : ((w.alloc (.cells #[.int .i64 d.T, .int .i64 d.P, .int .i64 d.C, .int .i64 d.B, .int .i64 d.L, .bool d.S, .bool d.Q, .int .i64 d.cap, .slice xa d.n xc, .slice x' d.ns xd] 44)).alloc (.cells #[.int .i64 d.T, .int .i64 d.P, .int .i64 d.C, .int .i64 d.B, .int .i64 d.L, .bool d.S, .bool d.Q, .int .i64 d.cap, .slice ya d.n yc, .slice y' d.ns yd] 44)).heap[w.heap.size + 1]? = some (.cells #[.int .i64 d.T, .int .i64 d.P, .int .i64 d.C, .int .i64 d.B, .int .i64 d.L, .bool d.S, .bool d.Q, .int .i64 d.cap, .slice ya d.n yc, .slice y' d.ns yd] 44 (0, 0)) := by simpa using box_new (w.alloc (.cells #[.int .i64 d.T, .int .i64 d.P, .int .i64 d.C, .int .i64 d.B, .int .i64 d.L, .bool d.S, .bool d.Q, .int .i64 d.cap, .slice xa d.n xc, .slice x' d.ns xd] 44)) #[.int .i64 d.T, .int .i64 d.P, .int .i64 d.C, .int .i64 d.B, .int .i64 d.L, .bool d.S, .bool d.Q, .int .i64 d.cap, .slice ya d.n yc, .slice y' d.ns yd] 44
  replace h1 := h1.below L0
  replace h2 := h2.below L0
  replace k1 := k1.below L0
  replace k2 := k2.below L0
  go_enter Tryz.func41, Tryz.ntmps41
  go_wp2_with fail
  generalize (w.alloc (.cells #[.int .i64 d.T, .int .i64 d.P, .int .i64 d.C, .int .i64 d.B, .int .i64 d.L, .bool d.S, .bool d.Q, .int .i64 d.cap, .slice xa d.n xc, .slice x' d.ns xd] 44)).alloc (.cells #[.int .i64 d.T, .int .i64 d.P, .int .i64 d.C, .int .i64 d.B, .int .i64 d.L, .bool d.S, .bool d.Q, .int .i64 d.cap, .slice ya d.n yc, .slice y' d.ns yd] 44) = W0 at *
  refine (eqApu_same _ d.T d.P d.C d.B d.L d.S d.Q).mono ?_
  rintro e W1 ⟨rfl, L⟩
  replace L0 := below_snoc L0 L
  replace B0 := box_keep B0 L (boxLt B0)
  replace B1 := box_keep B1 L (boxLt B1)
  replace h1 := h1.below L
  replace h2 := h2.below L
  replace k1 := k1.below L
  replace k2 := k2.below L
  clear L
  have c0 := boxC B0
  have c1 := boxC B1
  go_wp2_with fail
  clear c0 c1
  refine (onEqRing _ (D 0) (E 0) _ _ d.cap d.n d.f ⟨_, rfl, h1⟩ ⟨_, rfl, k1⟩).mono ?_
  rintro e W2 ⟨rfl, L⟩
  replace L0 := below_snoc L0 L
  replace B0 := box_keep B0 L (boxLt B0)
  replace B1 := box_keep B1 L (boxLt B1)
  replace h1 := h1.below L
  replace h2 := h2.below L
  replace k1 := k1.below L
  replace k2 := k2.below L
  clear L
  have c0 := boxC B0
  have c1 := boxC B1
  go_wp2_with fail
  clear c0 c1
  refine (onEqList _ (D 1) (E 1) _ _ d.ns d.sm h2 k2).mono ?_
  rintro e W3 ⟨rfl, L⟩
  replace L0 := below_snoc L0 L
  replace B0 := box_keep B0 L (boxLt B0)
  replace B1 := box_keep B1 L (boxLt B1)
  replace h1 := h1.below L
  replace h2 := h2.below L
  replace k1 := k1.below L
  replace k2 := k2.below L
  clear L
  go_wp2
  go_ret
  exact ⟨rfl, L0⟩
theorem onMarkSound (w : World) (D : Nat → Nat → Prop) (v : Value) (d : SnD) (k : Int) (H : SnOn w D v d) (dis : Dis D) (lt : ∀ i b, D i b → b < w.heap.size) (k0 : 0 ≤ k) (k1 : k ≤ 1099000000000) :
    Calls Tryz.prog 46 #[v, .int .i64 k] w fun e w' => e = .returned (.int .i64 (k + 3 * d.n + d.ns)) ∧ SnOn w' D v (markSn d k) ∧ Wrote (fun b _ => ∃ i, D i b) w w' := by
  obtain ⟨u1, u2, rfl, h1, h2⟩ := H
  obtain ⟨xa, xc, rfl⟩ := h1.two
  obtain ⟨x', xd, rfl⟩ := h2.two
  have hn1 := h1.small
  have hn2 := h2.small
  have L0 : Below w.heap.size w (w.alloc (.cells #[.int .i64 d.T, .int .i64 d.P, .int .i64 d.C, .int .i64 d.B, .int .i64 d.L, .bool d.S, .bool d.Q, .int .i64 d.cap, .slice xa d.n xc, .slice x' d.ns xd] 44)) := (Below.refl _ _).alloc (Nat.le_refl _) _
  have B0 := box_new w #[.int .i64 d.T, .int .i64 d.P, .int .i64 d.C, .int .i64 d.B, .int .i64 d.L, .bool d.S, .bool d.Q, .int .i64 d.cap, .slice xa d.n xc, .slice x' d.ns xd] 44
  have WW := wrote_below L0 (fun b _ => ∃ i, D i b)
  replace h1 := h1.below L0
  replace h2 := h2.below L0
  have M1 := hide (fun W h => onMarkRing W (D 0) (.agg #[.int .i64 d.cap, .slice xa d.n xc]) d.cap d.n d.f k h k0 (by omega))
  obtain ⟨z, hz⟩ : ∃ z, Hid (z = k + 3 * (d.n : Int)) := ⟨_, rfl⟩
  have z0 : 0 ≤ z := by rw [hz.out]; omega
  have z1 : z ≤ 1099511627776 := by rw [hz.out]; omega
  rw [← hz.out] at M1 ⊢
  have HZ : Hid ({ d with f := fun i => k + i, sm := fun i => z + i } = markSn d k) := by show _ = _; unfold markSn; rw [hz.out]
  clear hz
  go_enter Tryz.func46, Tryz.ntmps46
  go_wp2_with fail
  generalize w.alloc (.cells #[.int .i64 d.T, .int .i64 d.P, .int .i64 d.C, .int .i64 d.B, .int .i64 d.L, .bool d.S, .bool d.Q, .int .i64 d.cap, .slice xa d.n xc, .slice x' d.ns xd] 44) = W0 at *
  refine (M1.out _ ⟨_, rfl, h1⟩).mono ?_
  rintro e W1 ⟨rfl, ⟨u, eu, h1⟩, T⟩
  simp only [Value.agg.injEq, Array.mk.injEq, List.cons.injEq, and_true, true_and] at eu
  subst eu
  replace B0 := box_wrote B0 T (fun o (h : D 0 _) => by have := lt _ _ h; omega)
  replace WW := WW.trans (T.mono (fun b o _ h => ⟨0, h⟩))
  replace h2 := h2.keep T (fun b o hb _ h => absurd (dis _ _ b hb h) (by decide))
  clear T
  have c1 := boxC B0
  go_wp2_with fail
  clear c1
  refine (onMarkList _ (D 1) _ d.ns d.sm z h2 z0 z1).mono ?_
  rintro e W2 ⟨rfl, h2, T⟩
  replace WW := WW.trans (T.mono (fun b o _ h => ⟨1, h⟩))
  replace h1 := h1.keep T (fun b o hb _ h => absurd (dis _ _ b hb h) (by decide))
  have HE := hide (And.intro h1 (And.intro h2 WW))
  clear h1 h2 WW B0 T M1
  go_wp2
  go_ret
  exact ⟨rfl, by rw [← HZ.out]; exact ⟨_, _, rfl, HE.out.1, HE.out.2.1⟩, HE.out.2.2⟩
theorem szSound (w : World) (d : SnD) (a : Option Addr) (c : Nat) (a' : Option Addr) (c' : Nat) (left : Int) (h1 : d.n ≤ 9223372036854775807) (h2 : d.ns ≤ 9223372036854775807) (l0 : 0 ≤ left) (l1 : left ≤ 1048576) :
    Calls Tryz.prog 55 #[.agg #[.int .i64 d.T, .int .i64 d.P, .int .i64 d.C, .int .i64 d.B, .int .i64 d.L, .bool d.S, .bool d.Q, .int .i64 d.cap, .slice a d.n c, .slice a' d.ns c'], .int .i64 left] w fun e w' => e = .returned (.int .i64 (szOut left (d.n + d.ns))) ∧ Below w.heap.size w w' := by
  have L0 : Below w.heap.size w (w.alloc (.cells #[.int .i64 d.T, .int .i64 d.P, .int .i64 d.C, .int .i64 d.B, .int .i64 d.L, .bool d.S, .bool d.Q, .int .i64 d.cap, .slice a d.n c, .slice a' d.ns c'] 69)) := (Below.refl _ _).alloc (Nat.le_refl _) _
  have B0 := box_new w #[.int .i64 d.T, .int .i64 d.P, .int .i64 d.C, .int .i64 d.B, .int .i64 d.L, .bool d.S, .bool d.Q, .int .i64 d.cap, .slice a d.n c, .slice a' d.ns c'] 69
  obtain ⟨r, hr⟩ : ∃ r, Hid (r = szOut left (d.n + d.ns)) := ⟨_, rfl⟩
  rw [← hr.out]
  have NO : Hid (left < ((d.n + d.ns : Nat) : Int) → r = -1) := fun h => by rw [hr.out]; exact szOut_no h
  have YES : Hid (((d.n + d.ns : Nat) : Int) ≤ left → r = left - d.n - d.ns) := fun h => by rw [hr.out, szOut_ok h]; omega
  clear hr
  go_enter Tryz.func55, Tryz.ntmps55
  go_wp2_with fail
  generalize w.alloc (.cells #[.int .i64 d.T, .int .i64 d.P, .int .i64 d.C, .int .i64 d.B, .int .i64 d.L, .bool d.S, .bool d.Q, .int .i64 d.cap, .slice a d.n c, .slice a' d.ns c'] 69) = W0 at *
  refine (szRing _ d.cap a d.n c h1 left l0 l1).mono ?_
  rintro e W1 ⟨rfl, L⟩
  replace L0 := below_snoc L0 L
  replace B0 := box_keep B0 L (boxLt B0)
  clear L
  by_cases g0 : left < (d.n : Nat)
  · have HN := hide (szOut_no g0)
    have HR := hide (NO.out (by omega))
    rw [HN.out]
    go_wp2
    go_ret
    exact ⟨ret_int HR.out.symm, L0⟩
  have HY := hide (szOut_ok (left := left) (n := d.n) (by omega))
  rw [HY.out]
  have hnn : ¬ (left - (d.n : Int) < 0) := by omega
  clear HY
  have c0 := boxC B0
  go_wp2_with fail
  clear c0
  refine (szIntS _ _ _ _ _ h2 (by omega) (by omega)).mono ?_
  rintro e W2 ⟨rfl, hw2⟩
  subst hw2
  by_cases g1 : left - (d.n : Int) < (d.ns : Nat)
  · have HN := hide (szOut_no g1)
    have HR := hide (NO.out (by omega))
    rw [HN.out]
    go_wp2
    go_ret
    exact ⟨ret_int HR.out.symm, L0⟩
  have HY := hide (szOut_ok (left := left - (d.n : Int)) (n := d.ns) (by omega))
  have HR := hide (YES.out (by omega))
  rw [HY.out]
  have hnn2 : ¬ (left - (d.n : Int) - (d.ns : Int) < 0) := by omega
  go_wp2
  go_ret
  exact ⟨ret_int HR.out.symm, L0⟩
theorem two_dis {l1 h1 l2 h2 : Nat} (h : h1 ≤ l2) : Dis (fun i b => (i = 0 ∧ l1 ≤ b ∧ b < h1) ∨ (i = 1 ∧ l2 ≤ b ∧ b < h2)) := fun i j b x y => by
  rcases x with ⟨rfl, x⟩ | ⟨rfl, x⟩ <;> rcases y with ⟨rfl, y⟩ | ⟨rfl, y⟩ <;> omega
set_option maxHeartbeats 2000000 in
theorem onToSound (w : World) (d : SnD) (a : Option Addr) (c : Nat) (a' : Option Addr) (c' : Nat) (hn : d.n ≤ 1048576) (hs : d.ns ≤ 1048576) (H : RowOf .i64 w a (d.n * 3) d.f) (K : RowOf .i64 w a' d.ns d.sm) :
    Calls Tryz.prog 65 #[.agg #[.int .i64 d.T, .int .i64 d.P, .int .i64 d.C, .int .i64 d.B, .int .i64 d.L, .bool d.S, .bool d.Q, .int .i64 d.cap, .slice a d.n c, .slice a' d.ns c']] w fun e w' => ∃ D v, e = .returned v ∧ SnOn w' D v d ∧ Dis D ∧ (∀ i b, D i b → w.heap.size ≤ b ∧ b < w'.heap.size) ∧ Below w.heap.size w w' := by
  have C0 : Below w.heap.size w (((w.alloc (.cells #[.int .i64 d.T, .int .i64 d.P, .int .i64 d.C, .int .i64 d.B, .int .i64 d.L, .bool d.S, .bool d.Q, .int .i64 d.cap, .slice a d.n c, .slice a' d.ns c'] 69)).alloc (.cells #[.int .i64 0, .int .i64 0, .int .i64 0, .int .i64 0, .int .i64 0, .bool false, .bool false, .int .i64 0, .slice none 0 0, .slice none 0 0] 44)).alloc (.cells #[.int .i64 0, .int .i64 0, .int .i64 0, .int .i64 0, .int .i64 0, .bool false, .bool false, .int .i64 0, .slice none 0 0, .slice none 0 0] 44)) := (((Below.refl _ _).alloc (Nat.le_refl _) _).alloc (by simp) _).alloc (by simp; omega) _
  have k0 : (((w.alloc (.cells #[.int .i64 d.T, .int .i64 d.P, .int .i64 d.C, .int .i64 d.B, .int .i64 d.L, .bool d.S, .bool d.Q, .int .i64 d.cap, .slice a d.n c, .slice a' d.ns c'] 69)).alloc (.cells #[.int .i64 0, .int .i64 0, .int .i64 0, .int .i64 0, .int .i64 0, .bool false, .bool false, .int .i64 0, .slice none 0 0, .slice none 0 0] 44)).alloc (.cells #[.int .i64 0, .int .i64 0, .int .i64 0, .int .i64 0, .int .i64 0, .bool false, .bool false, .int .i64 0, .slice none 0 0, .slice none 0 0] 44)).heap[w.heap.size]? = some (.cells #[.int .i64 d.T, .int .i64 d.P, .int .i64 d.C, .int .i64 d.B, .int .i64 d.L, .bool d.S, .bool d.Q, .int .i64 d.cap, .slice a d.n c, .slice a' d.ns c'] 69 (0, 0)) := boxA (boxA (box_new w _ _) _) _
  have k1 : (((w.alloc (.cells #[.int .i64 d.T, .int .i64 d.P, .int .i64 d.C, .int .i64 d.B, .int .i64 d.L, .bool d.S, .bool d.Q, .int .i64 d.cap, .slice a d.n c, .slice a' d.ns c'] 69)).alloc (.cells #[.int .i64 0, .int .i64 0, .int .i64 0, .int .i64 0, .int .i64 0, .bool false, .bool false, .int .i64 0, .slice none 0 0, .slice none 0 0] 44)).alloc (.cells #[.int .i64 0, .int .i64 0, .int .i64 0, .int .i64 0, .int .i64 0, .bool false, .bool false, .int .i64 0, .slice none 0 0, .slice none 0 0] 44)).heap[w.heap.size + 1]? = some (.cells #[.int .i64 0, .int .i64 0, .int .i64 0, .int .i64 0, .int .i64 0, .bool false, .bool false, .int .i64 0, .slice none 0 0, .slice none 0 0] 44 (0, 0)) := boxA (by simpa using box_new (w.alloc (.cells #[.int .i64 d.T, .int .i64 d.P, .int .i64 d.C, .int .i64 d.B, .int .i64 d.L, .bool d.S, .bool d.Q, .int .i64 d.cap, .slice a d.n c, .slice a' d.ns c'] 69)) #[.int .i64 0, .int .i64 0, .int .i64 0, .int .i64 0, .int .i64 0, .bool false, .bool false, .int .i64 0, .slice none 0 0, .slice none 0 0] 44) _
  have k2 : (((w.alloc (.cells #[.int .i64 d.T, .int .i64 d.P, .int .i64 d.C, .int .i64 d.B, .int .i64 d.L, .bool d.S, .bool d.Q, .int .i64 d.cap, .slice a d.n c, .slice a' d.ns c'] 69)).alloc (.cells #[.int .i64 0, .int .i64 0, .int .i64 0, .int .i64 0, .int .i64 0, .bool false, .bool false, .int .i64 0, .slice none 0 0, .slice none 0 0] 44)).alloc (.cells #[.int .i64 0, .int .i64 0, .int .i64 0, .int .i64 0, .int .i64 0, .bool false, .bool false, .int .i64 0, .slice none 0 0, .slice none 0 0] 44)).heap[w.heap.size + 1 + 1]? = some (.cells #[.int .i64 0, .int .i64 0, .int .i64 0, .int .i64 0, .int .i64 0, .bool false, .bool false, .int .i64 0, .slice none 0 0, .slice none 0 0] 44 (0, 0)) := by simpa using box_new ((w.alloc (.cells #[.int .i64 d.T, .int .i64 d.P, .int .i64 d.C, .int .i64 d.B, .int .i64 d.L, .bool d.S, .bool d.Q, .int .i64 d.cap, .slice a d.n c, .slice a' d.ns c'] 69)).alloc (.cells #[.int .i64 0, .int .i64 0, .int .i64 0, .int .i64 0, .int .i64 0, .bool false, .bool false, .int .i64 0, .slice none 0 0, .slice none 0 0] 44)) #[.int .i64 0, .int .i64 0, .int .i64 0, .int .i64 0, .int .i64 0, .bool false, .bool false, .int .i64 0, .slice none 0 0, .slice none 0 0] 44
  go_enter Tryz.func65, Tryz.ntmps65
  go_wp2_with fail
  generalize ((w.alloc (.cells #[.int .i64 d.T, .int .i64 d.P, .int .i64 d.C, .int .i64 d.B, .int .i64 d.L, .bool d.S, .bool d.Q, .int .i64 d.cap, .slice a d.n c, .slice a' d.ns c'] 69)).alloc (.cells #[.int .i64 0, .int .i64 0, .int .i64 0, .int .i64 0, .int .i64 0, .bool false, .bool false, .int .i64 0, .slice none 0 0, .slice none 0 0] 44)).alloc (.cells #[.int .i64 0, .int .i64 0, .int .i64 0, .int .i64 0, .int .i64 0, .bool false, .bool false, .int .i64 0, .slice none 0 0, .slice none 0 0] 44) = W0 at *
  refine (toApu _ d.T d.P d.C d.B d.L d.S d.Q).mono ?_
  rintro e W1 ⟨rfl, L⟩
  have C1 := below_snoc C0 L
  have hb := boxLt k2
  replace k0 := box_keep k0 L (boxLt k0)
  replace k1 := box_keep k1 L (boxLt k1)
  replace k2 := box_keep k2 L (boxLt k2)
  have hs1 := L.size
  clear L C0
  obtain ⟨z, hz⟩ : ∃ z, Hid (z = w.heap.size + 1 + 1) := ⟨_, rfl⟩
  rw [← hz.out] at k2 hb ⊢
  have zz : w.heap.size + 1 < z := by rw [hz.out]; omega
  clear hz
  have WS : Wrote (fun b _ => b = z) W1 (((((((W1.setCell ⟨z, 0, none⟩ (.int .i64 d.T)).setCell ⟨z, 1, none⟩ (.int .i64 d.P)).setCell ⟨z, 2, none⟩ (.int .i64 d.C)).setCell ⟨z, 3, none⟩ (.int .i64 d.B)).setCell ⟨z, 4, none⟩ (.int .i64 d.L)).setCell ⟨z, 5, none⟩ (.bool d.S)).setCell ⟨z, 6, none⟩ (.bool d.Q)) := by
    repeat (first | with_reducible exact Wrote.refl _ _ | with_reducible refine Wrote.setCell ?_ (fun _ => by omega) _)
  have k0' := boxWroteT k0 WS (fun _ e => by omega)
  have k1' := boxWroteT k1 WS (fun _ e => by omega)
  have k2' := boxSetT (o := 6) (boxSetT (o := 5) (boxSetT (o := 4) (boxSetT (o := 3) (boxSetT (o := 2) (boxSetT (o := 1) (boxSetT (o := 0) k2 (.int .i64 d.T)) (.int .i64 d.P)) (.int .i64 d.C)) (.int .i64 d.B)) (.int .i64 d.L)) (.bool d.S)) (.bool d.Q)
  simp only [List.setIfInBounds_toArray, List.set_cons_succ, List.set_cons_zero] at k2'
  have C2 := C1.trans (WS.below C1.size (fun b o hb e => by omega))
  have hs2 := WS.size
  clear WS C1
  have c0 := boxC k0'
  have c2 := boxC k2
  have f2 := boxF k2
  go_wp2_with fail
  clear c0 c2 f2
  clear k0 k1 k2
  generalize ((((((W1.setCell ⟨z, 0, none⟩ (.int .i64 d.T)).setCell ⟨z, 1, none⟩ (.int .i64 d.P)).setCell ⟨z, 2, none⟩ (.int .i64 d.C)).setCell ⟨z, 3, none⟩ (.int .i64 d.B)).setCell ⟨z, 4, none⟩ (.int .i64 d.L)).setCell ⟨z, 5, none⟩ (.bool d.S)).setCell ⟨z, 6, none⟩ (.bool d.Q) = W2 at *
  refine (onToRing _ a d.n c d.cap d.f hn (H.keep (wrote_below C2 Nowhere) (fun _ _ _ x => x))).mono ?_
  rintro e W3 ⟨v, rfl, R1, L⟩
  obtain ⟨u, rfl, R1⟩ := R1
  obtain ⟨va, vc, rfl⟩ := R1.two
  have C3 := below_snoc C2 L
  replace k0 := box_keep k0' L (boxLt k0')
  replace k1 := box_keep k1' L (boxLt k1')
  replace k2 := box_keep k2' L (boxLt k2')
  have hs3 := L.size
  clear L C2 k0' k1' k2'
  have WS : Wrote (fun b _ => b = z) W3 ((W3.setCell ⟨z, 7, none⟩ (.int .i64 d.cap)).setCell ⟨z, 8, none⟩ (.slice va d.n vc)) := by
    repeat (first | with_reducible exact Wrote.refl _ _ | with_reducible refine Wrote.setCell ?_ (fun _ => by omega) _)
  have k0' := boxWroteT k0 WS (fun _ e => by omega)
  have k1' := boxWroteT k1 WS (fun _ e => by omega)
  have k2' := boxSetT (o := 8) (boxSetT (o := 7) k2 (.int .i64 d.cap)) (.slice va d.n vc)
  simp only [List.setIfInBounds_toArray, List.set_cons_succ, List.set_cons_zero] at k2'
  have R1' := R1.keep WS (fun b o hb _ e => by obtain ⟨h1, h2⟩ := hb; omega)
  have C4 := C3.trans (WS.below C3.size (fun b o hb e => by omega))
  have hs4 := WS.size
  clear WS C3 R1
  have c0 := boxC k0'
  have c2 := boxC k2
  have f2 := boxF k2
  go_wp2_with fail
  clear c0 c2 f2
  clear k0 k1 k2
  generalize (W3.setCell ⟨z, 7, none⟩ (.int .i64 d.cap)).setCell ⟨z, 8, none⟩ (.slice va d.n vc) = W4 at *
  refine (onToList _ (fun _ _ => True) _ d.ns d.sm ⟨a', c', rfl, hs, K.keep (wrote_below C4 Nowhere) (fun _ _ _ x => x), fun _ _ _ => trivial⟩).mono ?_
  rintro e W5 ⟨v2, rfl, R2, L⟩
  obtain ⟨va', vc', rfl⟩ := R2.two
  have C5 := below_snoc C4 L
  replace k1 := box_keep k1' L (boxLt k1')
  replace k2 := box_keep k2' L (boxLt k2')
  have R1 := R1'.below L
  have hs5 := L.size
  clear L C4 k0' k1' k2' R1'
  have c1 := boxC k1
  have c2 := boxC k2
  have f1 := boxF k1
  have f2 := boxF k2
  have HR := hide (And.intro R1 (And.intro R2 C5))
  clear R1 R2 C5 k1 k2
  go_wp2
  refine bodyPost_ret (v := .agg #[.int .i64 d.T, .int .i64 d.P, .int .i64 d.C, .int .i64 d.B, .int .i64 d.L, .bool d.S, .bool d.Q, .int .i64 d.cap, .slice va d.n vc, .slice va' d.ns vc']) (by simp [results, Tryz.results65, go_sem, c1]) rfl ?_
  have fin : ∀ W6, Wrote (fun b _ => b = w.heap.size + 1 ∨ b = z) W5 W6 → ∃ D v, Ending.returned (.agg #[.int .i64 d.T, .int .i64 d.P, .int .i64 d.C, .int .i64 d.B, .int .i64 d.L, .bool d.S, .bool d.Q, .int .i64 d.cap, .slice va d.n vc, .slice va' d.ns vc']) = .returned v ∧ SnOn W6 D v d ∧ Dis D ∧ (∀ i b, D i b → w.heap.size ≤ b ∧ b < W6.heap.size) ∧ Below w.heap.size w W6 := fun W6 h => by
    have hs6 := h.size
    have hc := HR.out.2.2.size
    exact ⟨fun i b => (i = 0 ∧ W2.heap.size ≤ b ∧ b < W3.heap.size) ∨ (i = 1 ∧ W4.heap.size ≤ b ∧ b < W5.heap.size), _, rfl, ⟨_, _, rfl, (HR.out.1.keep h (fun b o hb _ e => by obtain ⟨h1, h2⟩ := hb; omega)).mono (fun b _ hb => Or.inl ⟨rfl, hb⟩), (HR.out.2.1.keep h (fun b o hb _ e => by obtain ⟨h1, h2⟩ := hb; omega)).mono (fun b _ hb => Or.inr ⟨rfl, hb⟩)⟩, two_dis (by omega), fun i b hb => by rcases hb with ⟨-, h1, h2⟩ | ⟨-, h1, h2⟩ <;> omega, HR.out.2.2.trans (h.below HR.out.2.2.size (fun b o hb e => by omega))⟩
  refine fin _ ?_
  repeat (first | with_reducible exact Wrote.refl _ _ | with_reducible refine Wrote.drew ?_ | with_reducible refine Wrote.setCell ?_ (fun _ => by omega) _)
end Go.Proofs.YtjcaligejlhjdaaGreat
