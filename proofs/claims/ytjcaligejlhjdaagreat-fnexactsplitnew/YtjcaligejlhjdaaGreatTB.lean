/-
  Chapter 14's mirror of a picture unit that comes after: on blocks of a kind; sizes, copies, comparisons, marks.
-/
import Derived.Test.YtjcaligejlhjdaaGreatRIb
namespace Go.Proofs.YtjcaligejlhjdaaGreat
set_option linter.unusedVariables false
set_option linter.unusedSimpArgs false
open Go.ChangeShapes Go.WideShapes Go.ChangeAt Go.RowKit
/-- A picture unit that comes after, in numbers. -/
structure PcD where
  t : Int
  c : Int
  s : Int
  ad : Int
  pl : Int
  bl : Bool
  nt : Nat
  tb : Nat → Int
  nd : Nat
  dt : Nat → Int
  cap : Int
  n : Nat
  f : Nat → Int
  mf : Nat
  lf : Nat → Nat
  fr : Nat → Nat → Int
structure PcOn (W : World) (D : Nat → Nat → Prop) (v : Value) (d : PcD) : Prop where
  ex : ∃ u1 u2 u3 u4, v = .agg #[.int .i64 d.t, .int .i64 d.c, .int .i64 d.s, .int .i64 d.ad, .int .i64 d.pl, .bool d.bl, u1, u2, .int .i64 d.cap, u3, u4] ∧ PpuOn W (D 0) (.agg #[.int .i64 d.t, .int .i64 d.c, .int .i64 d.s, .int .i64 d.ad, .int .i64 d.pl, .bool d.bl, u1, u2]) d.t d.c d.s d.ad d.pl d.bl d.nt d.tb d.nd d.dt ∧ RsOn W (D 1) u3 d.n d.f ∧ SsOn W (D 2) u4 d.mf d.lf d.fr
theorem PpuOn.lists {W : World} {D : Nat → Prop} {u1 u2 : Value} {t c s ad pl : Int} {bl : Bool} {n m : Nat} {f g : Nat → Int} (h : PpuOn W D (.agg #[.int .i64 t, .int .i64 c, .int .i64 s, .int .i64 ad, .int .i64 pl, .bool bl, u1, u2]) t c s ad pl bl n f m g) : ∃ a x b y, u1 = .slice a n x ∧ u2 = .slice b m y ∧ n ≤ 1048576 ∧ m ≤ 1048576 := by
  obtain ⟨a, x, b, y, e, h1, h2, -⟩ := h
  simp only [Value.agg.injEq, Array.mk.injEq, List.cons.injEq, and_true, true_and] at e
  exact ⟨a, x, b, y, e.1, e.2, h1.small, h2.small⟩
section
variable {R : Nat → Nat → Prop} {W W' : World} {D E : Nat → Nat → Prop} {v : Value} {d : PcD}
theorem PcOn.keep (H : PcOn W D v d) (hw : Wrote R W W') (hd : ∀ i b o, D i b → b < W.heap.size → ¬ R b o) : PcOn W' D v d := by
  obtain ⟨u1, u2, u3, u4, e, h0, h1, h2⟩ := H
  exact ⟨u1, u2, u3, u4, e, h0.keep hw (hd 0), h1.keep hw (hd 1), h2.keep hw (hd 2)⟩
theorem PcOn.below (H : PcOn W D v d) (L : Below W.heap.size W W') : PcOn W' D v d := H.keep (wrote_below L Nowhere) (fun _ _ _ _ _ x => x)
theorem PcOn.mono (H : PcOn W D v d) (hd : ∀ i b, b < W.heap.size → D i b → E i b) : PcOn W E v d := by
  obtain ⟨u1, u2, u3, u4, e, h0, h1, h2⟩ := H
  exact ⟨u1, u2, u3, u4, e, h0.mono (hd 0), h1.mono (hd 1), h2.mono (hd 2)⟩
theorem PcOn.form (H : PcOn W D v d) : ∃ x1 x1c x2 x2c x3 x3c x4 x4c, v = .agg #[.int .i64 d.t, .int .i64 d.c, .int .i64 d.s, .int .i64 d.ad, .int .i64 d.pl, .bool d.bl, .slice x1 d.nt x1c, .slice x2 d.nd x2c, .int .i64 d.cap, .slice x3 d.n x3c, .slice x4 d.mf x4c] := by
  obtain ⟨u1, u2, u3, u4, e, h0, h1, h2⟩ := H
  obtain ⟨x1, x1c, x2, x2c, rfl, rfl, -⟩ := h0.lists
  obtain ⟨x3, x3c, rfl⟩ := h1.two
  obtain ⟨x4, x4c, rfl⟩ := h2.form
  exact ⟨x1, x1c, x2, x2c, x3, x3c, x4, x4c, e⟩
end
def markPc (d : PcD) (k : Int) : PcD := { d with tb := fun i => k + i, dt := fun i => k + d.nt + i, f := fun i => k + d.nt + d.nd + i, fr := fun i j => k + d.nt + d.nd + 3 * d.n + psum d.lf i + j }
set_option maxHeartbeats 1000000 in
theorem onEqPicture (w : World) (D E : Nat → Nat → Prop) (v u : Value) (d : PcD) (H : PcOn w D v d) (K : PcOn w E u d) :
    Calls Tryz.prog 40 #[v, u] w fun e w' => e = .returned (.bool true) ∧ Below w.heap.size w w' := by
  obtain ⟨u1, u2, u3, u4, rfl, h0, h1, h2⟩ := H
  obtain ⟨v1, v2, v3, v4, rfl, j0, j1, j2⟩ := K
  obtain ⟨x1, x1c, x2, x2c, rfl, rfl, -⟩ := h0.lists
  obtain ⟨x3, x3c, rfl⟩ := h1.two
  obtain ⟨x4, x4c, rfl⟩ := h2.form
  obtain ⟨y1, y1c, y2, y2c, rfl, rfl, -⟩ := j0.lists
  obtain ⟨y3, y3c, rfl⟩ := j1.two
  obtain ⟨y4, y4c, rfl⟩ := j2.form
  have L0 : Below w.heap.size w ((w.alloc (.cells #[.int .i64 d.t, .int .i64 d.c, .int .i64 d.s, .int .i64 d.ad, .int .i64 d.pl, .bool d.bl, .slice x1 d.nt x1c, .slice x2 d.nd x2c, .int .i64 d.cap, .slice x3 d.n x3c, .slice x4 d.mf x4c] 40)).alloc (.cells #[.int .i64 d.t, .int .i64 d.c, .int .i64 d.s, .int .i64 d.ad, .int .i64 d.pl, .bool d.bl, .slice y1 d.nt y1c, .slice y2 d.nd y2c, .int .i64 d.cap, .slice y3 d.n y3c, .slice y4 d.mf y4c] 40)) := ((Below.refl _ _).alloc (Nat.le_refl _) _).alloc (by simp) _
  have B0 : ((w.alloc (.cells #[.int .i64 d.t, .int .i64 d.c, .int .i64 d.s, .int .i64 d.ad, .int .i64 d.pl, .bool d.bl, .slice x1 d.nt x1c, .slice x2 d.nd x2c, .int .i64 d.cap, .slice x3 d.n x3c, .slice x4 d.mf x4c] 40)).alloc (.cells #[.int .i64 d.t, .int .i64 d.c, .int .i64 d.s, .int .i64 d.ad, .int .i64 d.pl, .bool d.bl, .slice y1 d.nt y1c, .slice y2 d.nd y2c, .int .i64 d.cap, .slice y3 d.n y3c, .slice y4 d.mf y4c] 40)).heap[w.heap.size]? = some (.cells #[.int .i64 d.t, .int .i64 d.c, .int .i64 d.s, .int .i64 d.ad, .int .i64 d.pl, .bool d.bl, .slice x1 d.nt x1c, .slice x2 d.nd x2c, .int .i64 d.cap, .slice x3 d.n x3c, .slice x4 d.mf x4c] 40 (0, 0)) := boxA (box_new w _ _) _
  have B1 : ((w.alloc (.cells #[.int .i64 d.t, .int .i64 d.c, .int .i64 d.s, .int .i64 d.ad, .int .i64 d.pl, .bool d.bl, .slice x1 d.nt x1c, .slice x2 d.nd x2c, .int .i64 d.cap, .slice x3 d.n x3c, .slice x4 d.mf x4c] 40)).alloc (.cells #[.int .i64 d.t, .int .i64 d.c, .int .i64 d.s, .int .i64 d.ad, .int .i64 d.pl, .bool d.bl, .slice y1 d.nt y1c, .slice y2 d.nd y2c, .int .i64 d.cap, .slice y3 d.n y3c, .slice y4 d.mf y4c] 40)).heap[w.heap.size + 1]? = some (.cells #[.int .i64 d.t, .int .i64 d.c, .int .i64 d.s, .int .i64 d.ad, .int .i64 d.pl, .bool d.bl, .slice y1 d.nt y1c, .slice y2 d.nd y2c, .int .i64 d.cap, .slice y3 d.n y3c, .slice y4 d.mf y4c] 40 (0, 0)) := by simpa using box_new (w.alloc (.cells #[.int .i64 d.t, .int .i64 d.c, .int .i64 d.s, .int .i64 d.ad, .int .i64 d.pl, .bool d.bl, .slice x1 d.nt x1c, .slice x2 d.nd x2c, .int .i64 d.cap, .slice x3 d.n x3c, .slice x4 d.mf x4c] 40)) #[.int .i64 d.t, .int .i64 d.c, .int .i64 d.s, .int .i64 d.ad, .int .i64 d.pl, .bool d.bl, .slice y1 d.nt y1c, .slice y2 d.nd y2c, .int .i64 d.cap, .slice y3 d.n y3c, .slice y4 d.mf y4c] 40
  replace h0 := h0.below L0
  replace h1 := h1.below L0
  replace h2 := h2.below L0
  replace j0 := j0.below L0
  replace j1 := j1.below L0
  replace j2 := j2.below L0
  go_enter Tryz.func40, Tryz.ntmps40
  go_wp2_with fail
  generalize (w.alloc (.cells #[.int .i64 d.t, .int .i64 d.c, .int .i64 d.s, .int .i64 d.ad, .int .i64 d.pl, .bool d.bl, .slice x1 d.nt x1c, .slice x2 d.nd x2c, .int .i64 d.cap, .slice x3 d.n x3c, .slice x4 d.mf x4c] 40)).alloc (.cells #[.int .i64 d.t, .int .i64 d.c, .int .i64 d.s, .int .i64 d.ad, .int .i64 d.pl, .bool d.bl, .slice y1 d.nt y1c, .slice y2 d.nd y2c, .int .i64 d.cap, .slice y3 d.n y3c, .slice y4 d.mf y4c] 40) = W0 at *
  refine (onEqPpu _ (D 0) (E 0) _ _ d.t d.c d.s d.ad d.pl d.bl d.nt d.tb d.nd d.dt h0 j0).mono ?_
  rintro e W1 ⟨rfl, L⟩
  replace L0 := below_snoc L0 L
  replace B0 := box_keep B0 L (boxLt B0)
  replace B1 := box_keep B1 L (boxLt B1)
  replace h0 := h0.below L
  replace h1 := h1.below L
  replace h2 := h2.below L
  replace j0 := j0.below L
  replace j1 := j1.below L
  replace j2 := j2.below L
  clear L
  have c0 := boxC B0
  have c1 := boxC B1
  go_wp2_with fail
  clear c0 c1
  refine (onEqRing _ (D 1) (E 1) _ _ d.cap d.n d.f ⟨_, rfl, h1⟩ ⟨_, rfl, j1⟩).mono ?_
  rintro e W2 ⟨rfl, L⟩
  replace L0 := below_snoc L0 L
  replace B0 := box_keep B0 L (boxLt B0)
  replace B1 := box_keep B1 L (boxLt B1)
  replace h0 := h0.below L
  replace h1 := h1.below L
  replace h2 := h2.below L
  replace j0 := j0.below L
  replace j1 := j1.below L
  replace j2 := j2.below L
  clear L
  have c0 := boxC B0
  have c1 := boxC B1
  go_wp2_with fail
  clear c0 c1
  refine (onEqSS _ (D 2) (E 2) _ _ d.mf d.lf d.fr h2 j2).mono ?_
  rintro e W3 ⟨rfl, L⟩
  replace L0 := below_snoc L0 L
  replace B0 := box_keep B0 L (boxLt B0)
  replace B1 := box_keep B1 L (boxLt B1)
  replace h0 := h0.below L
  replace h1 := h1.below L
  replace h2 := h2.below L
  replace j0 := j0.below L
  replace j1 := j1.below L
  replace j2 := j2.below L
  clear L
  go_wp2
  go_ret
  exact ⟨rfl, L0⟩
set_option maxHeartbeats 1000000 in
theorem onMarkPicture (w : World) (D : Nat → Nat → Prop) (v : Value) (d : PcD) (k : Int) (H : PcOn w D v d) (dis : Dis D) (lt : ∀ i b, D i b → b < w.heap.size) (k0 : 0 ≤ k) (k1 : k ≤ 1099000000000) :
    Calls Tryz.prog 45 #[v, .int .i64 k] w fun e w' => e = .returned (.int .i64 (k + d.nt + d.nd + 3 * d.n + psum d.lf d.mf)) ∧ PcOn w' D v (markPc d k) ∧ Wrote (fun b _ => ∃ i, D i b) w w' := by
  obtain ⟨u1, u2, u3, u4, rfl, h0, h1, h2⟩ := H
  obtain ⟨x1, x1c, x2, x2c, rfl, rfl, hn1, hn2⟩ := h0.lists
  obtain ⟨x3, x3c, rfl⟩ := h1.two
  obtain ⟨x4, x4c, rfl⟩ := h2.form
  have hn3 := h1.small
  have L0 : Below w.heap.size w (w.alloc (.cells #[.int .i64 d.t, .int .i64 d.c, .int .i64 d.s, .int .i64 d.ad, .int .i64 d.pl, .bool d.bl, .slice x1 d.nt x1c, .slice x2 d.nd x2c, .int .i64 d.cap, .slice x3 d.n x3c, .slice x4 d.mf x4c] 40)) := (Below.refl _ _).alloc (Nat.le_refl _) _
  have B0 := box_new w #[.int .i64 d.t, .int .i64 d.c, .int .i64 d.s, .int .i64 d.ad, .int .i64 d.pl, .bool d.bl, .slice x1 d.nt x1c, .slice x2 d.nd x2c, .int .i64 d.cap, .slice x3 d.n x3c, .slice x4 d.mf x4c] 40
  have WW := wrote_below L0 (fun b _ => ∃ i, D i b)
  replace h0 := h0.below L0
  replace h1 := h1.below L0
  replace h2 := h2.below L0
  have M0 := hide (fun W h => onMarkPpu W (D 0) (.agg #[.int .i64 d.t, .int .i64 d.c, .int .i64 d.s, .int .i64 d.ad, .int .i64 d.pl, .bool d.bl, .slice x1 d.nt x1c, .slice x2 d.nd x2c]) d.t d.c d.s d.ad d.pl d.bl d.nt d.tb d.nd d.dt k h k0 (by omega))
  obtain ⟨y, hy⟩ : ∃ y, Hid (y = k + d.nt + d.nd) := ⟨_, rfl⟩
  have y0 : 0 ≤ y := by rw [hy.out]; omega
  have y1 : y ≤ 1099511627776 := by rw [hy.out]; omega
  have M1 := hide (fun W h => onMarkRing W (D 1) (.agg #[.int .i64 d.cap, .slice x3 d.n x3c]) d.cap d.n d.f y h y0 y1)
  obtain ⟨z, hz⟩ : ∃ z, Hid (z = y + 3 * (d.n : Int)) := ⟨_, rfl⟩
  have z0 : 0 ≤ z := by rw [hz.out]; omega
  have z1 : z ≤ 1099511627776 := by rw [hz.out, hy.out]; omega
  have M2 := hide (fun W h => onMarkSS W (D 2) (.slice x4 d.mf x4c) d.mf d.lf d.fr z h z0 z1)
  rw [← hy.out] at M0 ⊢
  rw [← hz.out] at M1 ⊢
  obtain ⟨q, hq⟩ : ∃ q : Int, Hid (q = z + (psum d.lf d.mf : Nat)) := ⟨_, rfl⟩
  rw [← hq.out] at M2 ⊢
  have HZ : Hid ({ d with tb := fun i => k + i, dt := fun i => k + d.nt + i, f := fun i => y + i, fr := fun i j => z + psum d.lf i + j } = markPc d k) := by show _ = _; unfold markPc; rw [hz.out, hy.out]
  clear hz hy hq
  go_enter Tryz.func45, Tryz.ntmps45
  go_wp2_with fail
  generalize w.alloc (.cells #[.int .i64 d.t, .int .i64 d.c, .int .i64 d.s, .int .i64 d.ad, .int .i64 d.pl, .bool d.bl, .slice x1 d.nt x1c, .slice x2 d.nd x2c, .int .i64 d.cap, .slice x3 d.n x3c, .slice x4 d.mf x4c] 40) = W0 at *
  refine (M0.out _ h0).mono ?_
  rintro e W1 ⟨rfl, h0, T⟩
  replace B0 := box_wrote B0 T (fun o (h : D 0 _) => by have := lt _ _ h; omega)
  replace WW := WW.trans (T.mono (fun b o _ h => ⟨0, h⟩))
  replace h1 := h1.keep T (fun b o hb _ h => absurd (dis _ _ b hb h) (by decide))
  replace h2 := h2.keep T (fun b o hb _ h => absurd (dis _ _ b hb h) (by decide))
  clear T
  have c1 := boxC B0
  go_wp2_with fail
  clear c1
  refine (M1.out _ ⟨_, rfl, h1⟩).mono ?_
  rintro e W2 ⟨rfl, ⟨u, eu, h1⟩, T⟩
  simp only [Value.agg.injEq, Array.mk.injEq, List.cons.injEq, and_true, true_and] at eu
  subst eu
  replace B0 := box_wrote B0 T (fun o (h : D 1 _) => by have := lt _ _ h; omega)
  replace WW := WW.trans (T.mono (fun b o _ h => ⟨1, h⟩))
  replace h0 := h0.keep T (fun b o hb _ h => absurd (dis _ _ b hb h) (by decide))
  replace h2 := h2.keep T (fun b o hb _ h => absurd (dis _ _ b hb h) (by decide))
  clear T
  have c1 := boxC B0
  go_wp2_with fail
  clear c1
  refine (M2.out _ h2).mono ?_
  rintro e W3 ⟨rfl, h2, T⟩
  replace WW := WW.trans (T.mono (fun b o _ h => ⟨2, h⟩))
  replace h0 := h0.keep T (fun b o hb _ h => absurd (dis _ _ b hb h) (by decide))
  replace h1 := h1.keep T (fun b o hb _ h => absurd (dis _ _ b hb h) (by decide))
  have HE := hide (And.intro h0 (And.intro h1 (And.intro h2 WW)))
  clear h0 h1 h2 WW B0 T M0 M1 M2
  go_wp2
  go_ret
  exact ⟨rfl, by rw [← HZ.out]; exact ⟨_, _, _, _, rfl, HE.out.1, HE.out.2.1, HE.out.2.2.1⟩, HE.out.2.2.2⟩
set_option maxHeartbeats 1000000 in
theorem onHeldPicture (w : World) (D : Nat → Nat → Prop) (v : Value) (d : PcD) (k : Int) (H : PcOn w D v (markPc d k)) (k0 : 0 ≤ k) (k1 : k ≤ 1099000000000) :
    Calls Tryz.prog 50 #[v, .int .i64 k] w fun e w' => e = .returned (.int .i64 (k + d.nt + d.nd + 3 * d.n + psum d.lf d.mf)) ∧ Below w.heap.size w w' := by
  obtain ⟨y, hy⟩ : ∃ y, Hid (y = k + (d.nt : Int) + d.nd) := ⟨_, rfl⟩
  obtain ⟨z, hz⟩ : ∃ z, Hid (z = y + 3 * (d.n : Int)) := ⟨_, rfl⟩
  have HZ : Hid (markPc d k = { d with tb := fun i => k + i, dt := fun i => k + d.nt + i, f := fun i => y + i, fr := fun i j => z + psum d.lf i + j }) := by show _ = _; unfold markPc; rw [hz.out, hy.out]
  rw [HZ.out] at H
  obtain ⟨u1, u2, u3, u4, rfl, h0, h1, h2⟩ := H
  obtain ⟨x1, x1c, x2, x2c, rfl, rfl, hn1, hn2⟩ := h0.lists
  obtain ⟨x3, x3c, rfl⟩ := h1.two
  obtain ⟨x4, x4c, rfl⟩ := h2.form
  have hn3 : d.n ≤ 1048576 := h1.small
  replace hn1 : d.nt ≤ 1048576 := hn1
  replace hn2 : d.nd ≤ 1048576 := hn2
  have L0 : Below w.heap.size w (w.alloc (.cells #[.int .i64 d.t, .int .i64 d.c, .int .i64 d.s, .int .i64 d.ad, .int .i64 d.pl, .bool d.bl, .slice x1 d.nt x1c, .slice x2 d.nd x2c, .int .i64 d.cap, .slice x3 d.n x3c, .slice x4 d.mf x4c] 40)) := (Below.refl _ _).alloc (Nat.le_refl _) _
  have B0 := box_new w #[.int .i64 d.t, .int .i64 d.c, .int .i64 d.s, .int .i64 d.ad, .int .i64 d.pl, .bool d.bl, .slice x1 d.nt x1c, .slice x2 d.nd x2c, .int .i64 d.cap, .slice x3 d.n x3c, .slice x4 d.mf x4c] 40
  replace h0 := h0.below L0
  replace h1 := h1.below L0
  replace h2 := h2.below L0
  have M0 := hide (fun W h => onHeldPpu W (D 0) (.agg #[.int .i64 d.t, .int .i64 d.c, .int .i64 d.s, .int .i64 d.ad, .int .i64 d.pl, .bool d.bl, .slice x1 d.nt x1c, .slice x2 d.nd x2c]) d.t d.c d.s d.ad d.pl d.bl d.nt d.nd k h k0 (by omega))
  have y0 : 0 ≤ y := by rw [hy.out]; omega
  have y1 : y ≤ 1099511627776 := by rw [hy.out]; omega
  have yn : ¬ (y < 0) := by omega
  have M1 := hide (fun W h => onHeldRing W (D 1) (.agg #[.int .i64 d.cap, .slice x3 d.n x3c]) d.cap d.n y h y0 y1)
  have z0 : 0 ≤ z := by rw [hz.out]; omega
  have z1 : z ≤ 1099511627776 := by rw [hz.out, hy.out]; omega
  have zn : ¬ (z < 0) := by omega
  have M2 := hide (fun W h => onHeldSS W (D 2) (.slice x4 d.mf x4c) d.mf d.lf z h z0 z1)
  rw [← hy.out] at M0 ⊢
  rw [← hz.out] at M1 ⊢
  obtain ⟨q, hq⟩ : ∃ q : Int, Hid (q = z + (psum d.lf d.mf : Nat)) := ⟨_, rfl⟩
  have qn : ¬ (q < 0) := by rw [hq.out]; omega
  rw [← hq.out] at M2 ⊢
  clear hz hy hq HZ
  go_enter Tryz.func50, Tryz.ntmps50
  go_wp2_with fail
  generalize w.alloc (.cells #[.int .i64 d.t, .int .i64 d.c, .int .i64 d.s, .int .i64 d.ad, .int .i64 d.pl, .bool d.bl, .slice x1 d.nt x1c, .slice x2 d.nd x2c, .int .i64 d.cap, .slice x3 d.n x3c, .slice x4 d.mf x4c] 40) = W0 at *
  refine (M0.out _ h0).mono ?_
  rintro e W1 ⟨rfl, L⟩
  replace L0 := below_snoc L0 L
  replace B0 := box_keep B0 L (boxLt B0)
  replace h1 := h1.below L
  replace h2 := h2.below L
  clear L
  have c1 := boxC B0
  go_wp2_with fail
  clear c1
  refine (M1.out _ ⟨_, rfl, h1⟩).mono ?_
  rintro e W2 ⟨rfl, L⟩
  replace L0 := below_snoc L0 L
  replace B0 := box_keep B0 L (boxLt B0)
  replace h2 := h2.below L
  clear L
  have c1 := boxC B0
  go_wp2_with fail
  clear c1
  refine (M2.out _ h2).mono ?_
  rintro e W3 ⟨rfl, L⟩
  replace L0 := below_snoc L0 L
  clear L
  go_wp2
  go_ret
  exact ⟨rfl, L0⟩
end Go.Proofs.YtjcaligejlhjdaaGreat
