/-
  Chapter 14's mirror of a picture unit that comes after: on blocks of a kind; sizes, copies, comparisons, marks.
-/
import Derived.Test.YtjcaligejlhjdaaGreatTA
namespace Go.Proofs.YtjcaligejlhjdaaGreat
set_option linter.unusedVariables false
set_option linter.unusedSimpArgs false
open Go.ChangeShapes Go.WideShapes Go.ChangeAt Go.RowKit
/-- A picture unit that comes after, in numbers. -/
structure PcD where
  t : Int
  c : Int
  s : Int
  ad : Int
  pl : Int
  bl : Bool
  nt : Nat
  tb : Nat → Int
  nd : Nat
  dt : Nat → Int
  cap : Int
  n : Nat
  f : Nat → Int
  mf : Nat
  lf : Nat → Nat
  fr : Nat → Nat → Int
structure PcOn (W : World) (D : Nat → Nat → Prop) (v : Value) (d : PcD) : Prop where
  ex : ∃ u1 u2 u3 u4, v = .agg #[.int .i64 d.t, .int .i64 d.c, .int .i64 d.s, .int .i64 d.ad, .int .i64 d.pl, .bool d.bl, u1, u2, .int .i64 d.cap, u3, u4] ∧ PpuOn W (D 0) (.agg #[.int .i64 d.t, .int .i64 d.c, .int .i64 d.s, .int .i64 d.ad, .int .i64 d.pl, .bool d.bl, u1, u2]) d.t d.c d.s d.ad d.pl d.bl d.nt d.tb d.nd d.dt ∧ RsOn W (D 1) u3 d.n d.f ∧ SsOn W (D 2) u4 d.mf d.lf d.fr
theorem PpuOn.lists {W : World} {D : Nat → Prop} {u1 u2 : Value} {t c s ad pl : Int} {bl : Bool} {n m : Nat} {f g : Nat → Int} (h : PpuOn W D (.agg #[.int .i64 t, .int .i64 c, .int .i64 s, .int .i64 ad, .int .i64 pl, .bool bl, u1, u2]) t c s ad pl bl n f m g) : ∃ a x b y, u1 = .slice a n x ∧ u2 = .slice b m y ∧ n ≤ 1048576 ∧ m ≤ 1048576 := by
  obtain ⟨a, x, b, y, e, h1, h2, -⟩ := h
  simp only [Value.agg.injEq, Array.mk.injEq, List.cons.injEq, and_true, true_and] at e
  exact ⟨a, x, b, y, e.1, e.2, h1.small, h2.small⟩
section
variable {R : Nat → Nat → Prop} {W W' : World} {D E : Nat → Nat → Prop} {v : Value} {d : PcD}
theorem PcOn.keep (H : PcOn W D v d) (hw : Wrote R W W') (hd : ∀ i b o, D i b → b < W.heap.size → ¬ R b o) : PcOn W' D v d := by
  obtain ⟨u1, u2, u3, u4, e, h0, h1, h2⟩ := H
  exact ⟨u1, u2, u3, u4, e, h0.keep hw (hd 0), h1.keep hw (hd 1), h2.keep hw (hd 2)⟩
theorem PcOn.below (H : PcOn W D v d) (L : Below W.heap.size W W') : PcOn W' D v d := H.keep (wrote_below L Nowhere) (fun _ _ _ _ _ x => x)
theorem PcOn.mono (H : PcOn W D v d) (hd : ∀ i b, b < W.heap.size → D i b → E i b) : PcOn W E v d := by
  obtain ⟨u1, u2, u3, u4, e, h0, h1, h2⟩ := H
  exact ⟨u1, u2, u3, u4, e, h0.mono (hd 0), h1.mono (hd 1), h2.mono (hd 2)⟩
theorem PcOn.form (H : PcOn W D v d) : ∃ x1 x1c x2 x2c x3 x3c x4 x4c, v = .agg #[.int .i64 d.t, .int .i64 d.c, .int .i64 d.s, .int .i64 d.ad, .int .i64 d.pl, .bool d.bl, .slice x1 d.nt x1c, .slice x2 d.nd x2c, .int .i64 d.cap, .slice x3 d.n x3c, .slice x4 d.mf x4c] := by
  obtain ⟨u1, u2, u3, u4, e, h0, h1, h2⟩ := H
  obtain ⟨x1, x1c, x2, x2c, rfl, rfl, -⟩ := h0.lists
  obtain ⟨x3, x3c, rfl⟩ := h1.two
  obtain ⟨x4, x4c, rfl⟩ := h2.form
  exact ⟨x1, x1c, x2, x2c, x3, x3c, x4, x4c, e⟩
end
def markPc (d : PcD) (k : Int) : PcD := { d with tb := fun i => k + i, dt := fun i => k + d.nt + i, f := fun i => k + d.nt + d.nd + i, fr := fun i j => k + d.nt + d.nd + 3 * d.n + psum d.lf i + j }
set_option maxHeartbeats 1000000 in
theorem onEqPicture (w : World) (D E : Nat → Nat → Prop) (v u : Value) (d : PcD) (H : PcOn w D v d) (K : PcOn w E u d) :
    Calls Tryz.prog 40 #[v, u] w fun e w' => e = .returned (.bool true) ∧ Below w.heap.size w w' := by
  obtain ⟨u1, u2, u3, u4, rfl, h0, h1, h2⟩ := H
  obtain ⟨v1, v2, v3, v4, rfl, j0, j1, j2⟩ := K
  obtain ⟨x1, x1c, x2, x2c, rfl, rfl, -⟩ := h0.lists
  obtain ⟨x3, x3c, rfl⟩ := h1.two
  obtain ⟨x4, x4c, rfl⟩ := h2.form
  obtain ⟨y1, y1c, y2, y2c, rfl, rfl, -⟩ := j0.lists
  obtain ⟨y3, y3c, rfl⟩ := j1.two
  obtain ⟨y4, y4c, rfl⟩ := j2.form
  have L0 : Below w.heap.size w ((w.alloc (.cells #[.int .i64 d.t, .int .i64 d.c, .int .i64 d.s, .int .i64 d.ad, .int .i64 d.pl, .bool d.bl, .slice x1 d.nt x1c, .slice x2 d.nd x2c, .int .i64 d.cap, .slice x3 d.n x3c, .slice x4 d.mf x4c] 40)).alloc (.cells #[.int .i64 d.t, .int .i64 d.c, .int .i64 d.s, .int .i64 d.ad, .int .i64 d.pl, .bool d.bl, .slice y1 d.nt y1c, .slice y2 d.nd y2c, .int .i64 d.cap, .slice y3 d.n y3c, .slice y4 d.mf y4c] 40)) := ((Below.refl _ _).alloc (Nat.le_refl _) _).alloc (by simp) _
  have B0 : ((w.alloc (.cells #[.int .i64 d.t, .int .i64 d.c, .int .i64 d.s, .int .i64 d.ad, .int .i64 d.pl, .bool d.bl, .slice x1 d.nt x1c, .slice x2 d.nd x2c, .int .i64 d.cap, .slice x3 d.n x3c, .slice x4 d.mf x4c] 40)).alloc (.cells #[.int .i64 d.t, .int .i64 d.c, .int .i64 d.s, .int .i64 d.ad, .int .i64 d.pl, .bool d.bl, .slice y1 d.nt y1c, .slice y2 d.nd y2c, .int .i64 d.cap, .slice y3 d.n y3c, .slice y4 d.mf y4c] 40)).heap[w.heap.size]? = some (.cells #[.int .i64 d.t, .int .i64 d.c, .int .i64 d.s, .int .i64 d.ad, .int .i64 d.pl, .bool d.bl, .slice x1 d.nt x1c, .slice x2 d.nd x2c, .int .i64 d.cap, .slice x3 d.n x3c, .slice x4 d.mf x4c] 40 (0, 0)) := boxA (box_new w _ _) _
  have B1 : ((w.alloc (.cells #[.int .i64 d.t, .int .i64 d.c, .int .i64 d.s, .int .i64 d.ad, .int .i64 d.pl, .bool d.bl, .slice x1 d.nt x1c, .slice x2 d.nd x2c, .int .i64 d.cap, .slice x3 d.n x3c, .slice x4 d.mf x4c] 40)).alloc (.cells #[.int .i64 d.t, .int .i64 d.c, .int .i64 d.s, .int .i64 d.ad, .int .i64 d.pl, .bool d.bl, .slice y1 d.nt y1c, .slice y2 d.nd y2c, .int .i64 d.cap, .slice y3 d.n y3c, .slice y4 d.mf y4c] 40)).heap[w.heap.size + 1]? = some (.cells #[.int .i64 d.t, .int .i64 d.c, .int .i64 d.s, .int .i64 d.ad, .int .i64 d.pl, .bool d.bl, .slice y1 d.nt y1c, .slice y2 d.nd y2c, .int .i64 d.cap, .slice y3 d.n y3c, .slice y4 d.mf y4c] 40 (0, 0)) := by simpa using box_new (w.alloc (.cells #[.int .i64 d.t, .int .i64 d.c, .int .i64 d.s, .int .i64 d.ad, .int .i64 d.pl, .bool d.bl, .slice x1 d.nt x1c, .slice x2 d.nd x2c, .int .i64 d.cap, .slice x3 d.n x3c, .slice x4 d.mf x4c] 40)) #[.int .i64 d.t, .int .i64 d.c, .int .i64 d.s, .int .i64 d.ad, .int .i64 d.pl, .bool d.bl, .slice y1 d.nt y1c, .slice y2 d.nd y2c, .int .i64 d.cap, .slice y3 d.n y3c, .slice y4 d.mf y4c] 40
  replace h0 := h0.below L0
  replace h1 := h1.below L0
  replace h2 := h2.below L0
  replace j0 := j0.below L0
  replace j1 := j1.below L0
  replace j2 := j2.below L0
  go_enter Tryz.func40, Tryz.ntmps40
  go_wp2_with fail
  generalize (w.alloc (.cells #[.int .i64 d.t, .int .i64 d.c, .int .i64 d.s, .int .i64 d.ad, .int .i64 d.pl, .bool d.bl, .slice x1 d.nt x1c, .slice x2 d.nd x2c, .int .i64 d.cap, .slice x3 d.n x3c, .slice x4 d.mf x4c] 40)).alloc (.cells #[.int .i64 d.t, .int .i64 d.c, .int .i64 d.s, .int .i64 d.ad, .int .i64 d.pl, .bool d.bl, .slice y1 d.nt y1c, .slice y2 d.nd y2c, .int .i64 d.cap, .slice y3 d.n y3c, .slice y4 d.mf y4c] 40) = W0 at *
  refine (onEqPpu _ (D 0) (E 0) _ _ d.t d.c d.s d.ad d.pl d.bl d.nt d.tb d.nd d.dt h0 j0).mono ?_
  rintro e W1 ⟨rfl, L⟩
  replace L0 := below_snoc L0 L
  replace B0 := box_keep B0 L (boxLt B0)
  replace B1 := box_keep B1 L (boxLt B1)
  replace h0 := h0.below L
  replace h1 := h1.below L
  replace h2 := h2.below L
  replace j0 := j0.below L
  replace j1 := j1.below L
  replace j2 := j2.below L
  clear L
  have c0 := boxC B0
  have c1 := boxC B1
  go_wp2_with fail
  clear c0 c1
  refine (onEqRing _ (D 1) (E 1) _ _ d.cap d.n d.f ⟨_, rfl, h1⟩ ⟨_, rfl, j1⟩).mono ?_
  rintro e W2 ⟨rfl, L⟩
  replace L0 := below_snoc L0 L
  replace B0 := box_keep B0 L (boxLt B0)
  replace B1 := box_keep B1 L (boxLt B1)
  replace h0 := h0.below L
  replace h1 := h1.below L
  replace h2 := h2.below L
  replace j0 := j0.below L
  replace j1 := j1.below L
  replace j2 := j2.below L
  clear L
  have c0 := boxC B0
  have c1 := boxC B1
  go_wp2_with fail
  clear c0 c1
  refine (onEqSS _ (D 2) (E 2) _ _ d.mf d.lf d.fr h2 j2).mono ?_
  rintro e W3 ⟨rfl, L⟩
  replace L0 := below_snoc L0 L
  replace B0 := box_keep B0 L (boxLt B0)
  replace B1 := box_keep B1 L (boxLt B1)
  replace h0 := h0.below L
  replace h1 := h1.below L
  replace h2 := h2.below L
  replace j0 := j0.below L
  replace j1 := j1.below L
  replace j2 := j2.below L
  clear L
  go_wp2
  go_ret
  exact ⟨rfl, L0⟩
set_option maxHeartbeats 1000000 in
theorem onMarkPicture (w : World) (D : Nat → Nat → Prop) (v : Value) (d : PcD) (k : Int) (H : PcOn w D v d) (dis : Dis D) (lt : ∀ i b, D i b → b < w.heap.size) (k0 : 0 ≤ k) (k1 : k ≤ 1099000000000) :
    Calls Tryz.prog 45 #[v, .int .i64 k] w fun e w' => e = .returned (.int .i64 (k + d.nt + d.nd + 3 * d.n + psum d.lf d.mf)) ∧ PcOn w' D v (markPc d k) ∧ Wrote (fun b _ => ∃ i, D i b) w w' := by
  obtain ⟨u1, u2, u3, u4, rfl, h0, h1, h2⟩ := H
  obtain ⟨x1, x1c, x2, x2c, rfl, rfl, hn1, hn2⟩ := h0.lists
  obtain ⟨x3, x3c, rfl⟩ := h1.two
  obtain ⟨x4, x4c, rfl⟩ := h2.form
  have hn3 := h1.small
  have L0 : Below w.heap.size w (w.alloc (.cells #[.int .i64 d.t, .int .i64 d.c, .int .i64 d.s, .int .i64 d.ad, .int .i64 d.pl, .bool d.bl, .slice x1 d.nt x1c, .slice x2 d.nd x2c, .int .i64 d.cap, .slice x3 d.n x3c, .slice x4 d.mf x4c] 40)) := (Below.refl _ _).alloc (Nat.le_refl _) _
  have B0 := box_new w #[.int .i64 d.t, .int .i64 d.c, .int .i64 d.s, .int .i64 d.ad, .int .i64 d.pl, .bool d.bl, .slice x1 d.nt x1c, .slice x2 d.nd x2c, .int .i64 d.cap, .slice x3 d.n x3c, .slice x4 d.mf x4c] 40
  have WW := wrote_below L0 (fun b _ => ∃ i, D i b)
  replace h0 := h0.below L0
  replace h1 := h1.below L0
  replace h2 := h2.below L0
  have M0 := hide (fun W h => onMarkPpu W (D 0) (.agg #[.int .i64 d.t, .int .i64 d.c, .int .i64 d.s, .int .i64 d.ad, .int .i64 d.pl, .bool d.bl, .slice x1 d.nt x1c, .slice x2 d.nd x2c]) d.t d.c d.s d.ad d.pl d.bl d.nt d.tb d.nd d.dt k h k0 (by omega))
  obtain ⟨y, hy⟩ : ∃ y, Hid (y = k + d.nt + d.nd) := ⟨_, rfl⟩
  have y0 : 0 ≤ y := by rw [hy.out]; omega
  have y1 : y ≤ 1099511627776 := by rw [hy.out]; omega
  have M1 := hide (fun W h => onMarkRing W (D 1) (.agg #[.int .i64 d.cap, .slice x3 d.n x3c]) d.cap d.n d.f y h y0 y1)
  obtain ⟨z, hz⟩ : ∃ z, Hid (z = y + 3 * (d.n : Int)) := ⟨_, rfl⟩
  have z0 : 0 ≤ z := by rw [hz.out]; omega
  have z1 : z ≤ 1099511627776 := by rw [hz.out, hy.out]; omega
  have M2 := hide (fun W h => onMarkSS W (D 2) (.slice x4 d.mf x4c) d.mf d.lf d.fr z h z0 z1)
  rw [← hy.out] at M0 ⊢
  rw [← hz.out] at M1 ⊢
  obtain ⟨q, hq⟩ : ∃ q : Int, Hid (q = z + (psum d.lf d.mf : Nat)) := ⟨_, rfl⟩
  rw [← hq.out] at M2 ⊢
  have HZ : Hid ({ d with tb := fun i => k + i, dt := fun i => k + d.nt + i, f := fun i => y + i, fr := fun i j => z + psum d.lf i + j } = markPc d k) := by show _ = _; unfold markPc; rw [hz.out, hy.out]
  clear hz hy hq
  go_enter Tryz.func45, Tryz.ntmps45
  go_wp2_with fail
  generalize w.alloc (.cells #[.int .i64 d.t, .int .i64 d.c, .int .i64 d.s, .int .i64 d.ad, .int .i64 d.pl, .bool d.bl, .slice x1 d.nt x1c, .slice x2 d.nd x2c, .int .i64 d.cap, .slice x3 d.n x3c, .slice x4 d.mf x4c] 40) = W0 at *
  refine (M0.out _ h0).mono ?_
  rintro e W1 ⟨rfl, h0, T⟩
  replace B0 := box_wrote B0 T (fun o (h : D 0 _) => by have := lt _ _ h; omega)
  replace WW := WW.trans (T.mono (fun b o _ h => ⟨0, h⟩))
  replace h1 := h1.keep T (fun b o hb _ h => absurd (dis _ _ b hb h) (by decide))
  replace h2 := h2.keep T (fun b o hb _ h => absurd (dis _ _ b hb h) (by decide))
  clear T
  have c1 := boxC B0
  go_wp2_with fail
  clear c1
  refine (M1.out _ ⟨_, rfl, h1⟩).mono ?_
  rintro e W2 ⟨rfl, ⟨u, eu, h1⟩, T⟩
  simp only [Value.agg.injEq, Array.mk.injEq, List.cons.injEq, and_true, true_and] at eu
  subst eu
  replace B0 := box_wrote B0 T (fun o (h : D 1 _) => by have := lt _ _ h; omega)
  replace WW := WW.trans (T.mono (fun b o _ h => ⟨1, h⟩))
  replace h0 := h0.keep T (fun b o hb _ h => absurd (dis _ _ b hb h) (by decide))
  replace h2 := h2.keep T (fun b o hb _ h => absurd (dis _ _ b hb h) (by decide))
  clear T
  have c1 := boxC B0
  go_wp2_with fail
  clear c1
  refine (M2.out _ h2).mono ?_
  rintro e W3 ⟨rfl, h2, T⟩
  replace WW := WW.trans (T.mono (fun b o _ h => ⟨2, h⟩))
  replace h0 := h0.keep T (fun b o hb _ h => absurd (dis _ _ b hb h) (by decide))
  replace h1 := h1.keep T (fun b o hb _ h => absurd (dis _ _ b hb h) (by decide))
  have HE := hide (And.intro h0 (And.intro h1 (And.intro h2 WW)))
  clear h0 h1 h2 WW B0 T M0 M1 M2
  go_wp2
  go_ret
  exact ⟨rfl, by rw [← HZ.out]; exact ⟨_, _, _, _, rfl, HE.out.1, HE.out.2.1, HE.out.2.2.1⟩, HE.out.2.2.2⟩
set_option maxHeartbeats 1000000 in
theorem szPicture (w : World) (d : PcD) (a1 : Option Addr) (a1c : Nat) (a2 : Option Addr) (a2c : Nat) (a3 : Option Addr) (a3c : Nat) (a4 : Option Addr) (a4c : Nat) (ra : Nat → Option Addr) (rc : Nat → Nat) (left : Int) (H : RawSS w (.slice a4 d.mf a4c) d.mf ra d.lf rc d.fr) (h1 : d.nt ≤ 9223372036854775807) (h2 : d.nd ≤ 9223372036854775807) (h3 : d.n ≤ 9223372036854775807) (l0 : 0 ≤ left) (l1 : left ≤ 1048576) :
    Calls Tryz.prog 54 #[.agg #[.int .i64 d.t, .int .i64 d.c, .int .i64 d.s, .int .i64 d.ad, .int .i64 d.pl, .bool d.bl, .slice a1 d.nt a1c, .slice a2 d.nd a2c, .int .i64 d.cap, .slice a3 d.n a3c, .slice a4 d.mf a4c], .int .i64 left] w fun e w' => e = .returned (.int .i64 (szOut left (d.nt + d.nd + d.n + (d.mf + psum d.lf d.mf)))) ∧ Below w.heap.size w w' := by
  have L0 : Below w.heap.size w (w.alloc (.cells #[.int .i64 d.t, .int .i64 d.c, .int .i64 d.s, .int .i64 d.ad, .int .i64 d.pl, .bool d.bl, .slice a1 d.nt a1c, .slice a2 d.nd a2c, .int .i64 d.cap, .slice a3 d.n a3c, .slice a4 d.mf a4c] 66)) := (Below.refl _ _).alloc (Nat.le_refl _) _
  have B0 := box_new w #[.int .i64 d.t, .int .i64 d.c, .int .i64 d.s, .int .i64 d.ad, .int .i64 d.pl, .bool d.bl, .slice a1 d.nt a1c, .slice a2 d.nd a2c, .int .i64 d.cap, .slice a3 d.n a3c, .slice a4 d.mf a4c] 66
  obtain ⟨s0, hs0⟩ : ∃ s, Hid (s = d.nt + d.nd) := ⟨_, rfl⟩
  obtain ⟨s2, hs2⟩ : ∃ s, Hid (s = d.mf + psum d.lf d.mf) := ⟨_, rfl⟩
  have Z0 := hide (fun W l a b => szPpu W d.t d.c d.s d.ad d.pl d.bl a1 d.nt a1c a2 d.nd a2c l h1 h2 a b)
  have Z2 := hide (fun W h l a b => szIntSS W (.slice a4 d.mf a4c) d.mf ra d.lf rc d.fr h l a b)
  rw [← hs0.out] at Z0 ⊢
  rw [← hs2.out] at Z2 ⊢
  obtain ⟨r, hr⟩ : ∃ r, Hid (r = szOut left (s0 + d.n + s2)) := ⟨_, rfl⟩
  rw [← hr.out]
  have NO : Hid (left < ((s0 + d.n + s2 : Nat) : Int) → r = -1) := fun h => by rw [hr.out]; exact szOut_no h
  have YES : Hid (((s0 + d.n + s2 : Nat) : Int) ≤ left → r = left - s0 - d.n - s2) := fun h => by rw [hr.out, szOut_ok h]; omega
  have R0 := hide (H.below L0)
  clear hr hs0 hs2 H
  go_enter Tryz.func54, Tryz.ntmps54
  go_wp2_with fail
  generalize w.alloc (.cells #[.int .i64 d.t, .int .i64 d.c, .int .i64 d.s, .int .i64 d.ad, .int .i64 d.pl, .bool d.bl, .slice a1 d.nt a1c, .slice a2 d.nd a2c, .int .i64 d.cap, .slice a3 d.n a3c, .slice a4 d.mf a4c] 66) = W0 at *
  refine (Z0.out _ left l0 l1).mono ?_
  rintro e W1 ⟨rfl, L⟩
  replace L0 := below_snoc L0 L
  replace B0 := box_keep B0 L (boxLt B0)
  replace R0 := hide (R0.out.below L)
  clear L
  by_cases g0 : left < (s0 : Nat)
  · have HN := hide (szOut_no g0)
    have HR := hide (NO.out (by omega))
    rw [HN.out]
    go_wp2
    go_ret
    exact ⟨ret_int HR.out.symm, L0⟩
  have HY := hide (szOut_ok (left := left) (n := s0) (by omega))
  rw [HY.out]
  have hnn : ¬ (left - (s0 : Int) < 0) := by omega
  clear HY
  have c0 := boxC B0
  go_wp2_with fail
  clear c0
  refine (szRing _ d.cap a3 d.n a3c h3 _ (by omega) (by omega)).mono ?_
  rintro e W2 ⟨rfl, L⟩
  replace L0 := below_snoc L0 L
  replace B0 := box_keep B0 L (boxLt B0)
  replace R0 := hide (R0.out.below L)
  clear L
  by_cases g1 : left - (s0 : Int) < (d.n : Nat)
  · have HN := hide (szOut_no g1)
    have HR := hide (NO.out (by omega))
    rw [HN.out]
    go_wp2
    go_ret
    exact ⟨ret_int HR.out.symm, L0⟩
  have HY := hide (szOut_ok (left := left - (s0 : Int)) (n := d.n) (by omega))
  rw [HY.out]
  have hnn2 : ¬ (left - (s0 : Int) - (d.n : Int) < 0) := by omega
  clear HY
  have c0 := boxC B0
  go_wp2_with fail
  clear c0
  refine (Z2.out _ R0.out _ (by omega) (by omega)).mono ?_
  rintro e W3 ⟨rfl, hw3⟩
  have L : Below W2.heap.size W2 W3 := by rw [hw3]; exact Below.refl _ _
  clear hw3
  replace L0 := below_snoc L0 L
  clear L
  by_cases g2 : left - (s0 : Int) - (d.n : Int) < (s2 : Nat)
  · have HN := hide (szOut_no g2)
    have HR := hide (NO.out (by omega))
    rw [HN.out]
    go_wp2
    go_ret
    exact ⟨ret_int HR.out.symm, L0⟩
  have HY := hide (szOut_ok (left := left - (s0 : Int) - (d.n : Int)) (n := s2) (by omega))
  have HR := hide (YES.out (by omega))
  rw [HY.out]
  have hnn3 : ¬ (left - (s0 : Int) - (d.n : Int) - (s2 : Int) < 0) := by omega
  go_wp2
  go_ret
  exact ⟨ret_int HR.out.symm, L0⟩
theorem three_dis {l0 h0 l1 h1 l2 h2 : Nat} (h : h0 ≤ l1) (h' : h1 ≤ l2) (g : l1 ≤ h1) : Dis (fun i b => (i = 0 ∧ l0 ≤ b ∧ b < h0) ∨ (i = 1 ∧ l1 ≤ b ∧ b < h1) ∨ (i = 2 ∧ l2 ≤ b ∧ b < h2)) := fun i j b x y => by
  rcases x with ⟨rfl, x⟩ | ⟨rfl, x⟩ | ⟨rfl, x⟩ <;> rcases y with ⟨rfl, y⟩ | ⟨rfl, y⟩ | ⟨rfl, y⟩ <;> omega
set_option maxHeartbeats 4000000 in
theorem onToPicture (w : World) (d : PcD) (a1 : Option Addr) (a1c : Nat) (a2 : Option Addr) (a2c : Nat) (a3 : Option Addr) (a3c : Nat) (a4 : Option Addr) (a4c : Nat) (F1 F2 F4 : Nat → Nat → Prop) (H1 : Ints .i64 w F1 (.slice a1 d.nt a1c) d.nt d.tb) (H2 : Ints .i64 w F2 (.slice a2 d.nd a2c) d.nd d.dt) (hn : d.n ≤ 1048576) (H3 : RowOf .i64 w a3 (d.n * 3) d.f) (H4 : IntSS .i64 w F4 (.slice a4 d.mf a4c) d.mf d.lf d.fr) (hm : d.mf + psum d.lf d.mf ≤ 1048576) :
    Calls Tryz.prog 64 #[.agg #[.int .i64 d.t, .int .i64 d.c, .int .i64 d.s, .int .i64 d.ad, .int .i64 d.pl, .bool d.bl, .slice a1 d.nt a1c, .slice a2 d.nd a2c, .int .i64 d.cap, .slice a3 d.n a3c, .slice a4 d.mf a4c]] w fun e w' => ∃ D v, e = .returned v ∧ PcOn w' D v d ∧ Dis D ∧ (∀ i b, D i b → w.heap.size ≤ b ∧ b < w'.heap.size) ∧ Below w.heap.size w w' := by
  have C0 : Below w.heap.size w (((w.alloc (.cells #[.int .i64 d.t, .int .i64 d.c, .int .i64 d.s, .int .i64 d.ad, .int .i64 d.pl, .bool d.bl, .slice a1 d.nt a1c, .slice a2 d.nd a2c, .int .i64 d.cap, .slice a3 d.n a3c, .slice a4 d.mf a4c] 66)).alloc (.cells #[.int .i64 0, .int .i64 0, .int .i64 0, .int .i64 0, .int .i64 0, .bool false, .slice none 0 0, .slice none 0 0, .int .i64 0, .slice none 0 0, .slice none 0 0] 40)).alloc (.cells #[.int .i64 0, .int .i64 0, .int .i64 0, .int .i64 0, .int .i64 0, .bool false, .slice none 0 0, .slice none 0 0, .int .i64 0, .slice none 0 0, .slice none 0 0] 40)) := (((Below.refl _ _).alloc (Nat.le_refl _) _).alloc (by simp) _).alloc (by simp; omega) _
  have k0 : (((w.alloc (.cells #[.int .i64 d.t, .int .i64 d.c, .int .i64 d.s, .int .i64 d.ad, .int .i64 d.pl, .bool d.bl, .slice a1 d.nt a1c, .slice a2 d.nd a2c, .int .i64 d.cap, .slice a3 d.n a3c, .slice a4 d.mf a4c] 66)).alloc (.cells #[.int .i64 0, .int .i64 0, .int .i64 0, .int .i64 0, .int .i64 0, .bool false, .slice none 0 0, .slice none 0 0, .int .i64 0, .slice none 0 0, .slice none 0 0] 40)).alloc (.cells #[.int .i64 0, .int .i64 0, .int .i64 0, .int .i64 0, .int .i64 0, .bool false, .slice none 0 0, .slice none 0 0, .int .i64 0, .slice none 0 0, .slice none 0 0] 40)).heap[w.heap.size]? = some (.cells #[.int .i64 d.t, .int .i64 d.c, .int .i64 d.s, .int .i64 d.ad, .int .i64 d.pl, .bool d.bl, .slice a1 d.nt a1c, .slice a2 d.nd a2c, .int .i64 d.cap, .slice a3 d.n a3c, .slice a4 d.mf a4c] 66 (0, 0)) := boxA (boxA (box_new w _ _) _) _
  have k1 : (((w.alloc (.cells #[.int .i64 d.t, .int .i64 d.c, .int .i64 d.s, .int .i64 d.ad, .int .i64 d.pl, .bool d.bl, .slice a1 d.nt a1c, .slice a2 d.nd a2c, .int .i64 d.cap, .slice a3 d.n a3c, .slice a4 d.mf a4c] 66)).alloc (.cells #[.int .i64 0, .int .i64 0, .int .i64 0, .int .i64 0, .int .i64 0, .bool false, .slice none 0 0, .slice none 0 0, .int .i64 0, .slice none 0 0, .slice none 0 0] 40)).alloc (.cells #[.int .i64 0, .int .i64 0, .int .i64 0, .int .i64 0, .int .i64 0, .bool false, .slice none 0 0, .slice none 0 0, .int .i64 0, .slice none 0 0, .slice none 0 0] 40)).heap[w.heap.size + 1]? = some (.cells #[.int .i64 0, .int .i64 0, .int .i64 0, .int .i64 0, .int .i64 0, .bool false, .slice none 0 0, .slice none 0 0, .int .i64 0, .slice none 0 0, .slice none 0 0] 40 (0, 0)) := boxA (by simpa using box_new (w.alloc (.cells #[.int .i64 d.t, .int .i64 d.c, .int .i64 d.s, .int .i64 d.ad, .int .i64 d.pl, .bool d.bl, .slice a1 d.nt a1c, .slice a2 d.nd a2c, .int .i64 d.cap, .slice a3 d.n a3c, .slice a4 d.mf a4c] 66)) #[.int .i64 0, .int .i64 0, .int .i64 0, .int .i64 0, .int .i64 0, .bool false, .slice none 0 0, .slice none 0 0, .int .i64 0, .slice none 0 0, .slice none 0 0] 40) _
  have k2 : (((w.alloc (.cells #[.int .i64 d.t, .int .i64 d.c, .int .i64 d.s, .int .i64 d.ad, .int .i64 d.pl, .bool d.bl, .slice a1 d.nt a1c, .slice a2 d.nd a2c, .int .i64 d.cap, .slice a3 d.n a3c, .slice a4 d.mf a4c] 66)).alloc (.cells #[.int .i64 0, .int .i64 0, .int .i64 0, .int .i64 0, .int .i64 0, .bool false, .slice none 0 0, .slice none 0 0, .int .i64 0, .slice none 0 0, .slice none 0 0] 40)).alloc (.cells #[.int .i64 0, .int .i64 0, .int .i64 0, .int .i64 0, .int .i64 0, .bool false, .slice none 0 0, .slice none 0 0, .int .i64 0, .slice none 0 0, .slice none 0 0] 40)).heap[w.heap.size + 1 + 1]? = some (.cells #[.int .i64 0, .int .i64 0, .int .i64 0, .int .i64 0, .int .i64 0, .bool false, .slice none 0 0, .slice none 0 0, .int .i64 0, .slice none 0 0, .slice none 0 0] 40 (0, 0)) := by simpa using box_new ((w.alloc (.cells #[.int .i64 d.t, .int .i64 d.c, .int .i64 d.s, .int .i64 d.ad, .int .i64 d.pl, .bool d.bl, .slice a1 d.nt a1c, .slice a2 d.nd a2c, .int .i64 d.cap, .slice a3 d.n a3c, .slice a4 d.mf a4c] 66)).alloc (.cells #[.int .i64 0, .int .i64 0, .int .i64 0, .int .i64 0, .int .i64 0, .bool false, .slice none 0 0, .slice none 0 0, .int .i64 0, .slice none 0 0, .slice none 0 0] 40)) #[.int .i64 0, .int .i64 0, .int .i64 0, .int .i64 0, .int .i64 0, .bool false, .slice none 0 0, .slice none 0 0, .int .i64 0, .slice none 0 0, .slice none 0 0] 40
  go_enter Tryz.func64, Tryz.ntmps64
  go_wp2_with fail
  generalize ((w.alloc (.cells #[.int .i64 d.t, .int .i64 d.c, .int .i64 d.s, .int .i64 d.ad, .int .i64 d.pl, .bool d.bl, .slice a1 d.nt a1c, .slice a2 d.nd a2c, .int .i64 d.cap, .slice a3 d.n a3c, .slice a4 d.mf a4c] 66)).alloc (.cells #[.int .i64 0, .int .i64 0, .int .i64 0, .int .i64 0, .int .i64 0, .bool false, .slice none 0 0, .slice none 0 0, .int .i64 0, .slice none 0 0, .slice none 0 0] 40)).alloc (.cells #[.int .i64 0, .int .i64 0, .int .i64 0, .int .i64 0, .int .i64 0, .bool false, .slice none 0 0, .slice none 0 0, .int .i64 0, .slice none 0 0, .slice none 0 0] 40) = W0 at *
  refine (toPpu _ F1 F2 d.t d.c d.s d.ad d.pl d.bl _ _ d.nt d.tb d.nd d.dt (H1.keep (wrote_below C0 Nowhere) (fun _ _ _ x => x)) (H2.keep (wrote_below C0 Nowhere) (fun _ _ _ x => x))).mono ?_
  rintro e W1 ⟨v0, rfl, R0, L⟩
  replace R0 := R0.mono (E := fun b => W0.heap.size ≤ b ∧ b < W1.heap.size) (fun b hb h => ⟨h, hb⟩)
  obtain ⟨v1, v1c, v2, v2c, rfl⟩ := R0.two
  have C1 := below_snoc C0 L
  have hb := boxLt k2
  replace k0 := box_keep k0 L (boxLt k0)
  replace k1 := box_keep k1 L (boxLt k1)
  replace k2 := box_keep k2 L (boxLt k2)
  have hs1 := L.size
  clear L C0
  obtain ⟨z, hz⟩ : ∃ z, Hid (z = w.heap.size + 1 + 1) := ⟨_, rfl⟩
  rw [← hz.out] at k2 hb ⊢
  have zz : w.heap.size + 1 < z := by rw [hz.out]; omega
  clear hz
  have WS : Wrote (fun b _ => b = z) W1 ((((((((W1.setCell ⟨z, 0, none⟩ (.int .i64 d.t)).setCell ⟨z, 1, none⟩ (.int .i64 d.c)).setCell ⟨z, 2, none⟩ (.int .i64 d.s)).setCell ⟨z, 3, none⟩ (.int .i64 d.ad)).setCell ⟨z, 4, none⟩ (.int .i64 d.pl)).setCell ⟨z, 5, none⟩ (.bool d.bl)).setCell ⟨z, 6, none⟩ (.slice v1 d.nt v1c)).setCell ⟨z, 7, none⟩ (.slice v2 d.nd v2c)) := by
    repeat (first | with_reducible exact Wrote.refl _ _ | with_reducible refine Wrote.setCell ?_ (fun _ => by omega) _)
  have k0' := boxWroteT k0 WS (fun _ e => by omega)
  have k1' := boxWroteT k1 WS (fun _ e => by omega)
  have k2' := boxSetT (o := 7) (boxSetT (o := 6) (boxSetT (o := 5) (boxSetT (o := 4) (boxSetT (o := 3) (boxSetT (o := 2) (boxSetT (o := 1) (boxSetT (o := 0) k2 (.int .i64 d.t)) (.int .i64 d.c)) (.int .i64 d.s)) (.int .i64 d.ad)) (.int .i64 d.pl)) (.bool d.bl)) (.slice v1 d.nt v1c)) (.slice v2 d.nd v2c)
  simp only [List.setIfInBounds_toArray, List.set_cons_succ, List.set_cons_zero] at k2'
  have R0' := R0.keep WS (fun b o hb _ e => by obtain ⟨h1, h2⟩ := hb; omega)
  have C2 := C1.trans (WS.below C1.size (fun b o hb e => by omega))
  have hs2 := WS.size
  clear WS C1 R0
  have c0 := boxC k0'
  have c2 := boxC k2
  have f2 := boxF k2
  go_wp2_with fail
  clear c0 c2 f2
  clear k0 k1 k2
  generalize (((((((W1.setCell ⟨z, 0, none⟩ (.int .i64 d.t)).setCell ⟨z, 1, none⟩ (.int .i64 d.c)).setCell ⟨z, 2, none⟩ (.int .i64 d.s)).setCell ⟨z, 3, none⟩ (.int .i64 d.ad)).setCell ⟨z, 4, none⟩ (.int .i64 d.pl)).setCell ⟨z, 5, none⟩ (.bool d.bl)).setCell ⟨z, 6, none⟩ (.slice v1 d.nt v1c)).setCell ⟨z, 7, none⟩ (.slice v2 d.nd v2c) = W2 at *
  refine (onToRing _ a3 d.n a3c d.cap d.f hn (H3.keep (wrote_below C2 Nowhere) (fun _ _ _ x => x))).mono ?_
  rintro e W3 ⟨v, rfl, R1, L⟩
  obtain ⟨u, rfl, R1⟩ := R1
  obtain ⟨v3, v3c, rfl⟩ := R1.two
  have C3 := below_snoc C2 L
  replace k0 := box_keep k0' L (boxLt k0')
  replace k1 := box_keep k1' L (boxLt k1')
  replace k2 := box_keep k2' L (boxLt k2')
  have R0 := R0'.below L
  have hs3 := L.size
  clear L C2 k0' k1' k2' R0'
  have WS : Wrote (fun b _ => b = z) W3 ((W3.setCell ⟨z, 8, none⟩ (.int .i64 d.cap)).setCell ⟨z, 9, none⟩ (.slice v3 d.n v3c)) := by
    repeat (first | with_reducible exact Wrote.refl _ _ | with_reducible refine Wrote.setCell ?_ (fun _ => by omega) _)
  have k0' := boxWroteT k0 WS (fun _ e => by omega)
  have k1' := boxWroteT k1 WS (fun _ e => by omega)
  have k2' := boxSetT (o := 9) (boxSetT (o := 8) k2 (.int .i64 d.cap)) (.slice v3 d.n v3c)
  simp only [List.setIfInBounds_toArray, List.set_cons_succ, List.set_cons_zero] at k2'
  have R0' := R0.keep WS (fun b o hb _ e => by obtain ⟨h1, h2⟩ := hb; omega)
  have R1' := R1.keep WS (fun b o hb _ e => by obtain ⟨h1, h2⟩ := hb; omega)
  have C4 := C3.trans (WS.below C3.size (fun b o hb e => by omega))
  have hs4 := WS.size
  clear WS C3 R1 R0
  have c0 := boxC k0'
  have c2 := boxC k2
  have f2 := boxF k2
  go_wp2_with fail
  clear c0 c2 f2
  clear k0 k1 k2
  generalize (W3.setCell ⟨z, 8, none⟩ (.int .i64 d.cap)).setCell ⟨z, 9, none⟩ (.slice v3 d.n v3c) = W4 at *
  refine (onToSS _ F4 _ d.mf d.lf d.fr (H4.keep (wrote_below C4 Nowhere) (fun _ _ _ x => x)) hm).mono ?_
  rintro e W5 ⟨vv, rfl, R2, L⟩
  obtain ⟨v4, v4c, rfl⟩ := R2.form
  have C5 := below_snoc C4 L
  replace k1 := box_keep k1' L (boxLt k1')
  replace k2 := box_keep k2' L (boxLt k2')
  have R1 := R1'.below L
  have R0 := R0'.below L
  have hs5 := L.size
  clear L C4 k0' k1' k2' R1' R0'
  have c1 := boxC k1
  have c2 := boxC k2
  have f1 := boxF k1
  have f2 := boxF k2
  have HR := hide (And.intro R1 (And.intro R2 (And.intro R0 C5)))
  clear R1 R2 R0 C5 k1 k2 H1 H2 H3 H4
  go_wp2
  refine bodyPost_ret (v := .agg #[.int .i64 d.t, .int .i64 d.c, .int .i64 d.s, .int .i64 d.ad, .int .i64 d.pl, .bool d.bl, .slice v1 d.nt v1c, .slice v2 d.nd v2c, .int .i64 d.cap, .slice v3 d.n v3c, .slice v4 d.mf v4c]) (by simp [results, Tryz.results64, go_sem, c1]) rfl ?_
  have fin : ∀ W6, Wrote (fun b _ => b = w.heap.size + 1 ∨ b = z) W5 W6 → ∃ D v, Ending.returned (.agg #[.int .i64 d.t, .int .i64 d.c, .int .i64 d.s, .int .i64 d.ad, .int .i64 d.pl, .bool d.bl, .slice v1 d.nt v1c, .slice v2 d.nd v2c, .int .i64 d.cap, .slice v3 d.n v3c, .slice v4 d.mf v4c]) = .returned v ∧ PcOn W6 D v d ∧ Dis D ∧ (∀ i b, D i b → w.heap.size ≤ b ∧ b < W6.heap.size) ∧ Below w.heap.size w W6 := fun W6 h => by
    have hs6 := h.size
    have hc := HR.out.2.2.2.size
    exact ⟨fun i b => (i = 0 ∧ W0.heap.size ≤ b ∧ b < W1.heap.size) ∨ (i = 1 ∧ W2.heap.size ≤ b ∧ b < W3.heap.size) ∨ (i = 2 ∧ W4.heap.size ≤ b ∧ b < W5.heap.size), _, rfl, ⟨_, _, _, _, rfl, (HR.out.2.2.1.keep h (fun b o hb _ e => by obtain ⟨h1, h2⟩ := hb; omega)).mono (fun b _ hb => Or.inl ⟨rfl, hb⟩), (HR.out.1.keep h (fun b o hb _ e => by obtain ⟨h1, h2⟩ := hb; omega)).mono (fun b _ hb => Or.inr (Or.inl ⟨rfl, hb⟩)), (HR.out.2.1.keep h (fun b o hb _ e => by obtain ⟨h1, h2⟩ := hb; omega)).mono (fun b _ hb => Or.inr (Or.inr ⟨rfl, hb⟩))⟩, three_dis (by omega) (by omega) (by omega), fun i b hb => by rcases hb with ⟨-, h1, h2⟩ | ⟨-, h1, h2⟩ | ⟨-, h1, h2⟩ <;> omega, HR.out.2.2.2.trans (h.below HR.out.2.2.2.size (fun b o hb e => by omega))⟩
  refine fin _ ?_
  repeat (first | with_reducible exact Wrote.refl _ _ | with_reducible refine Wrote.drew ?_ | with_reducible refine Wrote.setCell ?_ (fun _ => by omega) _)
end Go.Proofs.YtjcaligejlhjdaaGreat
