/-
  A console apart (Split): marks.
-/
import Derived.Test.YtjcaligejlhjdaaGreatUA
namespace Go.Proofs.YtjcaligejlhjdaaGreat
set_option linter.unusedVariables false
set_option linter.unusedSimpArgs false
open Go.ChangeShapes Go.WideShapes Go.ChangeAt Go.RowKit
/-- The same console with its lists marked from k on. -/
def markSp (d : SpD) (k : Int) : SpD := { d with
  f := fun i j => k + psum d.ln i + j
  p := fun i => k + psum d.ln d.m + i
  g := fun i => k + psum d.ln d.m + d.np + i
  rd := fun i => k + psum d.ln d.m + d.np + d.nr + i
  pc := markPc d.pc (k + psum d.ln d.m + d.np + d.nr + d.nq)
  sn := markSn d.sn (k + psum d.ln d.m + d.np + d.nr + d.nq + d.pc.nt + d.pc.nd + 3 * d.pc.n + psum d.pc.lf d.pc.mf) }
def markSN (d : SpD) : Int := psum d.ln d.m + d.np + d.nr + d.nq + d.pc.nt + d.pc.nd + 3 * d.pc.n + psum d.pc.lf d.pc.mf + 3 * d.sn.n + d.sn.ns
set_option maxHeartbeats 8000000 in
theorem onMarkSplit (w : World) (D : Nat → Nat → Prop) (v : Value) (d : SpD) (k : Int) (H : SplitOn w D v d) (dis : Dis D) (lt : ∀ i b, D i b → b < w.heap.size) (k0 : 0 ≤ k) (k1 : k + markSN d ≤ 1099000000000) :
    Calls Tryz.prog 15 #[v, .int .i64 k] w fun e w' => e = .returned (.int .i64 (k + markSN d)) ∧ SplitOn w' D v (markSp d k) ∧ Wrote (fun b _ => ∃ i, D i b) w w' := by
  obtain ⟨u0, u1, u2, u3, q1, q2, q3, q4, r1, r2, rfl, h0, h1, h2, h3, h4, h5⟩ := H
  have L0 : Below w.heap.size w (w.alloc (.cells #[u0, u1, u2, .int .i64 d.bank, .int .i64 d.A, .int .i64 d.X, .int .i64 d.S, .int .i64 d.Pc, .bool d.Z, .bool d.N, .bool d.C, .bool d.I, .bool d.hd, .int .i64 d.sh, .int .i64 d.T, .bool d.nmi, .int .i64 d.ctrl, .bool d.kn, .int .i64 d.ka, .int .i64 d.st, u3, .int .i64 d.pc.t, .int .i64 d.pc.c, .int .i64 d.pc.s, .int .i64 d.pc.ad, .int .i64 d.pc.pl, .bool d.pc.bl, q1, q2, .int .i64 d.pc.cap, q3, q4, .int .i64 d.sn.T, .int .i64 d.sn.P, .int .i64 d.sn.C, .int .i64 d.sn.B, .int .i64 d.sn.L, .bool d.sn.S, .bool d.sn.Q, .int .i64 d.sn.cap, r1, r2] 46)) := (Below.refl _ _).alloc (Nat.le_refl _) _
  have B0 := box_new w #[u0, u1, u2, .int .i64 d.bank, .int .i64 d.A, .int .i64 d.X, .int .i64 d.S, .int .i64 d.Pc, .bool d.Z, .bool d.N, .bool d.C, .bool d.I, .bool d.hd, .int .i64 d.sh, .int .i64 d.T, .bool d.nmi, .int .i64 d.ctrl, .bool d.kn, .int .i64 d.ka, .int .i64 d.st, u3, .int .i64 d.pc.t, .int .i64 d.pc.c, .int .i64 d.pc.s, .int .i64 d.pc.ad, .int .i64 d.pc.pl, .bool d.pc.bl, q1, q2, .int .i64 d.pc.cap, q3, q4, .int .i64 d.sn.T, .int .i64 d.sn.P, .int .i64 d.sn.C, .int .i64 d.sn.B, .int .i64 d.sn.L, .bool d.sn.S, .bool d.sn.Q, .int .i64 d.sn.cap, r1, r2] 46
  have WW := wrote_below L0 (fun b _ => ∃ i, D i b)
  replace h0 := h0.below L0
  replace h1 := h1.below L0
  replace h2 := h2.below L0
  replace h3 := h3.below L0
  replace h4 := h4.below L0
  replace h5 := h5.below L0
  obtain ⟨s0, hs0⟩ : ∃ s : Int, Hid (s = (psum d.ln d.m : Nat)) := ⟨_, rfl⟩
  obtain ⟨s4, hs4⟩ : ∃ s : Int, Hid (s = (psum d.pc.lf d.pc.mf : Nat)) := ⟨_, rfl⟩
  have s00 : 0 ≤ s0 := by rw [hs0.out]; omega
  have s40 : 0 ≤ s4 := by rw [hs4.out]; omega
  have hN : Hid (k + markSN d = k + s0 + d.np + d.nr + d.nq + d.pc.nt + d.pc.nd + 3 * d.pc.n + s4 + 3 * d.sn.n + d.sn.ns) := by
    show _ = _
    unfold markSN
    rw [hs0.out, hs4.out]
    omega
  rw [hN.out] at k1 ⊢
  have hlt : ∀ i b, D i b → b < (w.alloc (.cells #[u0, u1, u2, .int .i64 d.bank, .int .i64 d.A, .int .i64 d.X, .int .i64 d.S, .int .i64 d.Pc, .bool d.Z, .bool d.N, .bool d.C, .bool d.I, .bool d.hd, .int .i64 d.sh, .int .i64 d.T, .bool d.nmi, .int .i64 d.ctrl, .bool d.kn, .int .i64 d.ka, .int .i64 d.st, u3, .int .i64 d.pc.t, .int .i64 d.pc.c, .int .i64 d.pc.s, .int .i64 d.pc.ad, .int .i64 d.pc.pl, .bool d.pc.bl, q1, q2, .int .i64 d.pc.cap, q3, q4, .int .i64 d.sn.T, .int .i64 d.sn.P, .int .i64 d.sn.C, .int .i64 d.sn.B, .int .i64 d.sn.L, .bool d.sn.S, .bool d.sn.Q, .int .i64 d.sn.cap, r1, r2] 46)).heap.size := fun i b h => by have := lt i b h; simp; omega
  have M0 := hide (fun W h => onMarkImg W (D 0) u0 d.m d.ln d.f k h k0 (by omega))
  have M4 := hide (fun W h (l : ∀ i b, D i b → b < W.heap.size) => onMarkPicture W (fun i => D (4 + 2 * i)) (.agg #[.int .i64 d.pc.t, .int .i64 d.pc.c, .int .i64 d.pc.s, .int .i64 d.pc.ad, .int .i64 d.pc.pl, .bool d.pc.bl, q1, q2, .int .i64 d.pc.cap, q3, q4]) d.pc (k + s0 + d.np + d.nr + d.nq) h (fun i j b x y => by have := dis _ _ b x y; omega) (fun i b h => l _ b h) (by omega) (by omega))
  have M5 := hide (fun W h (l : ∀ i b, D i b → b < W.heap.size) => onMarkSound W (fun i => D (5 + 2 * i)) (.agg #[.int .i64 d.sn.T, .int .i64 d.sn.P, .int .i64 d.sn.C, .int .i64 d.sn.B, .int .i64 d.sn.L, .bool d.sn.S, .bool d.sn.Q, .int .i64 d.sn.cap, r1, r2]) d.sn (k + s0 + d.np + d.nr + d.nq + d.pc.nt + d.pc.nd + 3 * d.pc.n + s4) h (fun i j b x y => by have := dis _ _ b x y; omega) (fun i b h => l _ b h) (by omega) (by omega))
  rw [← hs0.out] at M0
  rw [← hs4.out] at M4
  go_enter Tryz.func15, Tryz.ntmps15
  go_wp2_with fail
  generalize w.alloc (.cells #[u0, u1, u2, .int .i64 d.bank, .int .i64 d.A, .int .i64 d.X, .int .i64 d.S, .int .i64 d.Pc, .bool d.Z, .bool d.N, .bool d.C, .bool d.I, .bool d.hd, .int .i64 d.sh, .int .i64 d.T, .bool d.nmi, .int .i64 d.ctrl, .bool d.kn, .int .i64 d.ka, .int .i64 d.st, u3, .int .i64 d.pc.t, .int .i64 d.pc.c, .int .i64 d.pc.s, .int .i64 d.pc.ad, .int .i64 d.pc.pl, .bool d.pc.bl, q1, q2, .int .i64 d.pc.cap, q3, q4, .int .i64 d.sn.T, .int .i64 d.sn.P, .int .i64 d.sn.C, .int .i64 d.sn.B, .int .i64 d.sn.L, .bool d.sn.S, .bool d.sn.Q, .int .i64 d.sn.cap, r1, r2] 46) = W0 at *
  refine (M0.out _ h0).mono ?_
  rintro e W1 ⟨rfl, h0, T⟩
  replace B0 := box_wrote B0 T (fun o (h : D 0 _) => by have := lt _ _ h; omega)
  replace WW := WW.trans (T.mono (fun b o _ h => ⟨0, h⟩))
  replace hlt := fun i b (h : D i b) => Nat.lt_of_lt_of_le (hlt i b h) T.size
  replace h1 := h1.keep T (fun b o hb _ h => absurd (dis _ _ b hb h) (by omega))
  replace h2 := h2.keep T (fun b o hb _ h => absurd (dis _ _ b hb h) (by omega))
  replace h3 := h3.keep T (fun b o hb _ h => absurd (dis _ _ b hb h) (by omega))
  replace h4 := h4.keep T (fun i b o hb _ h => absurd (dis _ _ b hb h) (by omega))
  replace h5 := h5.keep T (fun i b o hb _ h => absurd (dis _ _ b hb h) (by omega))
  clear T
  have c1 := boxC B0
  go_wp2_with fail
  clear c1
  refine (onMarkList _ (D 1) _ d.np d.p (k + s0) h1 (by omega) (by omega)).mono ?_
  rintro e W2 ⟨rfl, h1, T⟩
  replace B0 := box_wrote B0 T (fun o (h : D 1 _) => by have := lt _ _ h; omega)
  replace WW := WW.trans (T.mono (fun b o _ h => ⟨1, h⟩))
  replace hlt := fun i b (h : D i b) => Nat.lt_of_lt_of_le (hlt i b h) T.size
  replace h0 := h0.keep T (fun b o hb _ h => absurd (dis _ _ b hb h) (by omega))
  replace h2 := h2.keep T (fun b o hb _ h => absurd (dis _ _ b hb h) (by omega))
  replace h3 := h3.keep T (fun b o hb _ h => absurd (dis _ _ b hb h) (by omega))
  replace h4 := h4.keep T (fun i b o hb _ h => absurd (dis _ _ b hb h) (by omega))
  replace h5 := h5.keep T (fun i b o hb _ h => absurd (dis _ _ b hb h) (by omega))
  clear T
  have c1 := boxC B0
  go_wp2_with fail
  clear c1
  refine (onMarkMem _ (D 2) _ d.nr d.g d.bank (k + s0 + d.np) h2 (by omega) (by omega)).mono ?_
  rintro e W3 ⟨rfl, h2, T⟩
  replace B0 := box_wrote B0 T (fun o (h : D 2 _) => by have := lt _ _ h; omega)
  replace WW := WW.trans (T.mono (fun b o _ h => ⟨2, h⟩))
  replace hlt := fun i b (h : D i b) => Nat.lt_of_lt_of_le (hlt i b h) T.size
  replace h0 := h0.keep T (fun b o hb _ h => absurd (dis _ _ b hb h) (by omega))
  replace h1 := h1.keep T (fun b o hb _ h => absurd (dis _ _ b hb h) (by omega))
  replace h3 := h3.keep T (fun b o hb _ h => absurd (dis _ _ b hb h) (by omega))
  replace h4 := h4.keep T (fun i b o hb _ h => absurd (dis _ _ b hb h) (by omega))
  replace h5 := h5.keep T (fun i b o hb _ h => absurd (dis _ _ b hb h) (by omega))
  clear T
  have c1 := boxC B0
  go_wp2_with fail
  clear c1
  refine (onMarkList _ (D 3) _ d.nq d.rd (k + s0 + d.np + d.nr) h3 (by omega) (by omega)).mono ?_
  rintro e W4 ⟨rfl, h3, T⟩
  replace B0 := box_wrote B0 T (fun o (h : D 3 _) => by have := lt _ _ h; omega)
  replace WW := WW.trans (T.mono (fun b o _ h => ⟨3, h⟩))
  replace hlt := fun i b (h : D i b) => Nat.lt_of_lt_of_le (hlt i b h) T.size
  replace h0 := h0.keep T (fun b o hb _ h => absurd (dis _ _ b hb h) (by omega))
  replace h1 := h1.keep T (fun b o hb _ h => absurd (dis _ _ b hb h) (by omega))
  replace h2 := h2.keep T (fun b o hb _ h => absurd (dis _ _ b hb h) (by omega))
  replace h4 := h4.keep T (fun i b o hb _ h => absurd (dis _ _ b hb h) (by omega))
  replace h5 := h5.keep T (fun i b o hb _ h => absurd (dis _ _ b hb h) (by omega))
  clear T
  have c1 := boxC B0
  go_wp2_with fail
  clear c1
  refine (M4.out _ h4 hlt).mono ?_
  rintro e W5 ⟨rfl, h4, T⟩
  replace B0 := box_wrote B0 T (fun o ⟨j, h⟩ => by have := lt _ _ h; omega)
  replace WW := WW.trans (T.mono (fun b o _ h => h.elim (fun j h => ⟨_, h⟩)))
  replace hlt := fun i b (h : D i b) => Nat.lt_of_lt_of_le (hlt i b h) T.size
  replace h0 := h0.keep T (fun b o hb _ ⟨j, h⟩ => absurd (dis _ _ b hb h) (by omega))
  replace h1 := h1.keep T (fun b o hb _ ⟨j, h⟩ => absurd (dis _ _ b hb h) (by omega))
  replace h2 := h2.keep T (fun b o hb _ ⟨j, h⟩ => absurd (dis _ _ b hb h) (by omega))
  replace h3 := h3.keep T (fun b o hb _ ⟨j, h⟩ => absurd (dis _ _ b hb h) (by omega))
  replace h5 := h5.keep T (fun i b o hb _ ⟨j, h⟩ => absurd (dis _ _ b hb h) (by omega))
  clear T
  have c1 := boxC B0
  go_wp2_with fail
  clear c1
  refine (M5.out _ h5 hlt).mono ?_
  rintro e W6 ⟨rfl, h5, T⟩
  replace WW := WW.trans (T.mono (fun b o _ h => h.elim (fun j h => ⟨_, h⟩)))
  replace hlt := fun i b (h : D i b) => Nat.lt_of_lt_of_le (hlt i b h) T.size
  replace h0 := h0.keep T (fun b o hb _ ⟨j, h⟩ => absurd (dis _ _ b hb h) (by omega))
  replace h1 := h1.keep T (fun b o hb _ ⟨j, h⟩ => absurd (dis _ _ b hb h) (by omega))
  replace h2 := h2.keep T (fun b o hb _ ⟨j, h⟩ => absurd (dis _ _ b hb h) (by omega))
  replace h3 := h3.keep T (fun b o hb _ ⟨j, h⟩ => absurd (dis _ _ b hb h) (by omega))
  replace h4 := h4.keep T (fun i b o hb _ ⟨j, h⟩ => absurd (dis _ _ b hb h) (by omega))
  clear T
  have HE := hide (And.intro h0 (And.intro h1 (And.intro h2 (And.intro h3 (And.intro h4 (And.intro h5 WW))))))
  clear h0 h1 h2 h3 h4 h5 WW B0 hlt M0 M4 M5
  go_wp2
  go_ret
  have e0 := hs0.out
  have e4 := hs4.out
  subst e0
  subst e4
  exact ⟨rfl, ⟨_, _, _, _, _, _, _, _, _, _, rfl, HE.out.1, HE.out.2.1, HE.out.2.2.1, HE.out.2.2.2.1, HE.out.2.2.2.2.1, HE.out.2.2.2.2.2.1⟩, HE.out.2.2.2.2.2.2⟩
end Go.Proofs.YtjcaligejlhjdaaGreat
