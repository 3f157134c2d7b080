/-
  The console apart (Split) as a record of numbers: comparisons, sizes.
-/
import Derived.Test.YtjcaligejlhjdaaGreatTB
import Derived.Test.YtjcaligejlhjdaaGreatPD
import Derived.Laws.Rows
import Derived.Laws.Tables
namespace Go.Proofs.YtjcaligejlhjdaaGreat
set_option linter.unusedVariables false
set_option linter.unusedSimpArgs false
open Go.ChangeShapes Go.WideShapes Go.ChangeAt Go.RowKit
/-- A console apart, in numbers. -/
structure SpD where
  m : Nat
  ln : Nat → Nat
  f : Nat → Nat → Int
  np : Nat
  p : Nat → Int
  nr : Nat
  g : Nat → Int
  bank : Int
  A : Int
  X : Int
  S : Int
  Pc : Int
  Z : Bool
  N : Bool
  C : Bool
  I : Bool
  hd : Bool
  sh : Int
  T : Int
  nmi : Bool
  ctrl : Int
  kn : Bool
  ka : Int
  st : Int
  nq : Nat
  rd : Nat → Int
  pc : PcD
  sn : SnD
/-- A console apart on blocks of a kind each. -/
structure SplitOn (W : World) (D : Nat → Nat → Prop) (v : Value) (d : SpD) : Prop where
  ex : ∃ u0 u1 u2 u3 q1 q2 q3 q4 r1 r2, v = .agg #[u0, u1, u2, .int .i64 d.bank, .int .i64 d.A, .int .i64 d.X, .int .i64 d.S, .int .i64 d.Pc, .bool d.Z, .bool d.N, .bool d.C, .bool d.I, .bool d.hd, .int .i64 d.sh, .int .i64 d.T, .bool d.nmi, .int .i64 d.ctrl, .bool d.kn, .int .i64 d.ka, .int .i64 d.st, u3, .int .i64 d.pc.t, .int .i64 d.pc.c, .int .i64 d.pc.s, .int .i64 d.pc.ad, .int .i64 d.pc.pl, .bool d.pc.bl, q1, q2, .int .i64 d.pc.cap, q3, q4, .int .i64 d.sn.T, .int .i64 d.sn.P, .int .i64 d.sn.C, .int .i64 d.sn.B, .int .i64 d.sn.L, .bool d.sn.S, .bool d.sn.Q, .int .i64 d.sn.cap, r1, r2] ∧ SsOn W (D 0) u0 d.m d.ln d.f ∧ ListOn W (D 1) u1 d.np d.p ∧ MemOn W (D 2) (.agg #[u2, .int .i64 d.bank]) d.nr d.g d.bank ∧ ListOn W (D 3) u3 d.nq d.rd ∧ PcOn W (fun i => D (4 + 2 * i)) (.agg #[.int .i64 d.pc.t, .int .i64 d.pc.c, .int .i64 d.pc.s, .int .i64 d.pc.ad, .int .i64 d.pc.pl, .bool d.pc.bl, q1, q2, .int .i64 d.pc.cap, q3, q4]) d.pc ∧ SnOn W (fun i => D (5 + 2 * i)) (.agg #[.int .i64 d.sn.T, .int .i64 d.sn.P, .int .i64 d.sn.C, .int .i64 d.sn.B, .int .i64 d.sn.L, .bool d.sn.S, .bool d.sn.Q, .int .i64 d.sn.cap, r1, r2]) d.sn
section
variable {R : Nat → Nat → Prop} {W W' : World} {D E : Nat → Nat → Prop} {v : Value} {d : SpD}
theorem SplitOn.keep (H : SplitOn W D v d) (hw : Wrote R W W') (hd : ∀ i b o, D i b → b < W.heap.size → ¬ R b o) : SplitOn W' D v d := by
  obtain ⟨u0, u1, u2, u3, q1, q2, q3, q4, r1, r2, e, h0, h1, h2, h3, h4, h5⟩ := H
  exact ⟨u0, u1, u2, u3, q1, q2, q3, q4, r1, r2, e, h0.keep hw (hd 0), h1.keep hw (hd 1), h2.keep hw (hd 2), h3.keep hw (hd 3), h4.keep hw (fun i => hd _), h5.keep hw (fun i => hd _)⟩
theorem SplitOn.below (H : SplitOn W D v d) (L : Below W.heap.size W W') : SplitOn W' D v d := H.keep (wrote_below L Nowhere) (fun _ _ _ _ _ x => x)
theorem SplitOn.mono (H : SplitOn W D v d) (hd : ∀ i b, b < W.heap.size → D i b → E i b) : SplitOn W E v d := by
  obtain ⟨u0, u1, u2, u3, q1, q2, q3, q4, r1, r2, e, h0, h1, h2, h3, h4, h5⟩ := H
  exact ⟨u0, u1, u2, u3, q1, q2, q3, q4, r1, r2, e, h0.mono (hd 0), h1.mono (hd 1), h2.mono (hd 2), h3.mono (hd 3), h4.mono (fun i => hd _), h5.mono (fun i => hd _)⟩
theorem SplitOn.agg (H : SplitOn W D v d) : ∃ cs, v = .agg cs ∧ cs.size = 42 ∧ cs.all (·.oneCell') = true := by
  obtain ⟨u0, u1, u2, u3, q1, q2, q3, q4, r1, r2, e, h0, h1, h2, h3, h4, h5⟩ := H
  obtain ⟨a0, b0, rfl⟩ := h0.form
  obtain ⟨a1, b1, rfl⟩ := h1.two
  obtain ⟨a2, b2, e2⟩ := h2.two
  obtain ⟨a3, b3, rfl⟩ := h3.two
  obtain ⟨z1, z2, z3, z4, z5, z6, z7, z8, e4⟩ := h4.form
  obtain ⟨y1, y2, y3, y4, e5⟩ := h5.form
  simp only [Value.agg.injEq, Array.mk.injEq, List.cons.injEq, and_true, true_and] at e2 e4 e5
  obtain ⟨rfl, rfl, rfl, rfl⟩ := e4
  obtain ⟨rfl, rfl⟩ := e5
  subst e2
  exact ⟨_, e, rfl, by first | kernel_rfl | simp [Value.oneCell']⟩
end
set_option maxHeartbeats 8000000 in
theorem onEqSplit (w : World) (D E : Nat → Nat → Prop) (v u : Value) (d : SpD) (H : SplitOn w D v d) (K : SplitOn w E u d) :
    Calls Tryz.prog 10 #[v, u] w fun e w' => e = .returned (.bool true) ∧ Below w.heap.size w w' := by
  obtain ⟨u0, u1, u2, u3, q1, q2, q3, q4, r1, r2, rfl, h0, h1, h2, h3, h4, h5⟩ := H
  obtain ⟨v0, v1, v2, v3, x1, x2, x3, x4, y1, y2, rfl, k0, k1, k2, k3, k4, k5⟩ := K
  have L0 : Below w.heap.size w ((w.alloc (.cells #[u0, u1, u2, .int .i64 d.bank, .int .i64 d.A, .int .i64 d.X, .int .i64 d.S, .int .i64 d.Pc, .bool d.Z, .bool d.N, .bool d.C, .bool d.I, .bool d.hd, .int .i64 d.sh, .int .i64 d.T, .bool d.nmi, .int .i64 d.ctrl, .bool d.kn, .int .i64 d.ka, .int .i64 d.st, u3, .int .i64 d.pc.t, .int .i64 d.pc.c, .int .i64 d.pc.s, .int .i64 d.pc.ad, .int .i64 d.pc.pl, .bool d.pc.bl, q1, q2, .int .i64 d.pc.cap, q3, q4, .int .i64 d.sn.T, .int .i64 d.sn.P, .int .i64 d.sn.C, .int .i64 d.sn.B, .int .i64 d.sn.L, .bool d.sn.S, .bool d.sn.Q, .int .i64 d.sn.cap, r1, r2] 46)).alloc (.cells #[v0, v1, v2, .int .i64 d.bank, .int .i64 d.A, .int .i64 d.X, .int .i64 d.S, .int .i64 d.Pc, .bool d.Z, .bool d.N, .bool d.C, .bool d.I, .bool d.hd, .int .i64 d.sh, .int .i64 d.T, .bool d.nmi, .int .i64 d.ctrl, .bool d.kn, .int .i64 d.ka, .int .i64 d.st, v3, .int .i64 d.pc.t, .int .i64 d.pc.c, .int .i64 d.pc.s, .int .i64 d.pc.ad, .int .i64 d.pc.pl, .bool d.pc.bl, x1, x2, .int .i64 d.pc.cap, x3, x4, .int .i64 d.sn.T, .int .i64 d.sn.P, .int .i64 d.sn.C, .int .i64 d.sn.B, .int .i64 d.sn.L, .bool d.sn.S, .bool d.sn.Q, .int .i64 d.sn.cap, y1, y2] 46)) := ((Below.refl _ _).alloc (Nat.le_refl _) _).alloc (by simp) _
  have B0 : ((w.alloc (.cells #[u0, u1, u2, .int .i64 d.bank, .int .i64 d.A, .int .i64 d.X, .int .i64 d.S, .int .i64 d.Pc, .bool d.Z, .bool d.N, .bool d.C, .bool d.I, .bool d.hd, .int .i64 d.sh, .int .i64 d.T, .bool d.nmi, .int .i64 d.ctrl, .bool d.kn, .int .i64 d.ka, .int .i64 d.st, u3, .int .i64 d.pc.t, .int .i64 d.pc.c, .int .i64 d.pc.s, .int .i64 d.pc.ad, .int .i64 d.pc.pl, .bool d.pc.bl, q1, q2, .int .i64 d.pc.cap, q3, q4, .int .i64 d.sn.T, .int .i64 d.sn.P, .int .i64 d.sn.C, .int .i64 d.sn.B, .int .i64 d.sn.L, .bool d.sn.S, .bool d.sn.Q, .int .i64 d.sn.cap, r1, r2] 46)).alloc (.cells #[v0, v1, v2, .int .i64 d.bank, .int .i64 d.A, .int .i64 d.X, .int .i64 d.S, .int .i64 d.Pc, .bool d.Z, .bool d.N, .bool d.C, .bool d.I, .bool d.hd, .int .i64 d.sh, .int .i64 d.T, .bool d.nmi, .int .i64 d.ctrl, .bool d.kn, .int .i64 d.ka, .int .i64 d.st, v3, .int .i64 d.pc.t, .int .i64 d.pc.c, .int .i64 d.pc.s, .int .i64 d.pc.ad, .int .i64 d.pc.pl, .bool d.pc.bl, x1, x2, .int .i64 d.pc.cap, x3, x4, .int .i64 d.sn.T, .int .i64 d.sn.P, .int .i64 d.sn.C, .int .i64 d.sn.B, .int .i64 d.sn.L, .bool d.sn.S, .bool d.sn.Q, .int .i64 d.sn.cap, y1, y2] 46)).heap[w.heap.size]? = some (.cells #[u0, u1, u2, .int .i64 d.bank, .int .i64 d.A, .int .i64 d.X, .int .i64 d.S, .int .i64 d.Pc, .bool d.Z, .bool d.N, .bool d.C, .bool d.I, .bool d.hd, .int .i64 d.sh, .int .i64 d.T, .bool d.nmi, .int .i64 d.ctrl, .bool d.kn, .int .i64 d.ka, .int .i64 d.st, u3, .int .i64 d.pc.t, .int .i64 d.pc.c, .int .i64 d.pc.s, .int .i64 d.pc.ad, .int .i64 d.pc.pl, .bool d.pc.bl, q1, q2, .int .i64 d.pc.cap, q3, q4, .int .i64 d.sn.T, .int .i64 d.sn.P, .int .i64 d.sn.C, .int .i64 d.sn.B, .int .i64 d.sn.L, .bool d.sn.S, .bool d.sn.Q, .int .i64 d.sn.cap, r1, r2] 46 (0, 0)) := boxA (box_new w _ _) _
  have B1 : ((w.alloc (.cells #[u0, u1, u2, .int .i64 d.bank, .int .i64 d.A, .int .i64 d.X, .int .i64 d.S, .int .i64 d.Pc, .bool d.Z, .bool d.N, .bool d.C, .bool d.I, .bool d.hd, .int .i64 d.sh, .int .i64 d.T, .bool d.nmi, .int .i64 d.ctrl, .bool d.kn, .int .i64 d.ka, .int .i64 d.st, u3, .int .i64 d.pc.t, .int .i64 d.pc.c, .int .i64 d.pc.s, .int .i64 d.pc.ad, .int .i64 d.pc.pl, .bool d.pc.bl, q1, q2, .int .i64 d.pc.cap, q3, q4, .int .i64 d.sn.T, .int .i64 d.sn.P, .int .i64 d.sn.C, .int .i64 d.sn.B, .int .i64 d.sn.L, .bool d.sn.S, .bool d.sn.Q, .int .i64 d.sn.cap, r1, r2] 46)).alloc (.cells #[v0, v1, v2, .int .i64 d.bank, .int .i64 d.A, .int .i64 d.X, .int .i64 d.S, .int .i64 d.Pc, .bool d.Z, .bool d.N, .bool d.C, .bool d.I, .bool d.hd, .int .i64 d.sh, .int .i64 d.T, .bool d.nmi, .int .i64 d.ctrl, .bool d.kn, .int .i64 d.ka, .int .i64 d.st, v3, .int .i64 d.pc.t, .int .i64 d.pc.c, .int .i64 d.pc.s, .int .i64 d.pc.ad, .int .i64 d.pc.pl, .bool d.pc.bl, x1, x2, .int .i64 d.pc.cap, x3, x4, .int .i64 d.sn.T, .int .i64 d.sn.P, .int .i64 d.sn.C, .int .i64 d.sn.B, .int .i64 d.sn.L, .bool d.sn.S, .bool d.sn.Q, .int .i64 d.sn.cap, y1, y2] 46)).heap[w.heap.size + 1]? = some (.cells #[v0, v1, v2, .int .i64 d.bank, .int .i64 d.A, .int .i64 d.X, .int .i64 d.S, .int .i64 d.Pc, .bool d.Z, .bool d.N, .bool d.C, .bool d.I, .bool d.hd, .int .i64 d.sh, .int .i64 d.T, .bool d.nmi, .int .i64 d.ctrl, .bool d.kn, .int .i64 d.ka, .int .i64 d.st, v3, .int .i64 d.pc.t, .int .i64 d.pc.c, .int .i64 d.pc.s, .int .i64 d.pc.ad, .int .i64 d.pc.pl, .bool d.pc.bl, x1, x2, .int .i64 d.pc.cap, x3, x4, .int .i64 d.sn.T, .int .i64 d.sn.P, .int .i64 d.sn.C, .int .i64 d.sn.B, .int .i64 d.sn.L, .bool d.sn.S, .bool d.sn.Q, .int .i64 d.sn.cap, y1, y2] 46 (0, 0)) := by simpa using box_new (w.alloc (.cells #[u0, u1, u2, .int .i64 d.bank, .int .i64 d.A, .int .i64 d.X, .int .i64 d.S, .int .i64 d.Pc, .bool d.Z, .bool d.N, .bool d.C, .bool d.I, .bool d.hd, .int .i64 d.sh, .int .i64 d.T, .bool d.nmi, .int .i64 d.ctrl, .bool d.kn, .int .i64 d.ka, .int .i64 d.st, u3, .int .i64 d.pc.t, .int .i64 d.pc.c, .int .i64 d.pc.s, .int .i64 d.pc.ad, .int .i64 d.pc.pl, .bool d.pc.bl, q1, q2, .int .i64 d.pc.cap, q3, q4, .int .i64 d.sn.T, .int .i64 d.sn.P, .int .i64 d.sn.C, .int .i64 d.sn.B, .int .i64 d.sn.L, .bool d.sn.S, .bool d.sn.Q, .int .i64 d.sn.cap, r1, r2] 46)) #[v0, v1, v2, .int .i64 d.bank, .int .i64 d.A, .int .i64 d.X, .int .i64 d.S, .int .i64 d.Pc, .bool d.Z, .bool d.N, .bool d.C, .bool d.I, .bool d.hd, .int .i64 d.sh, .int .i64 d.T, .bool d.nmi, .int .i64 d.ctrl, .bool d.kn, .int .i64 d.ka, .int .i64 d.st, v3, .int .i64 d.pc.t, .int .i64 d.pc.c, .int .i64 d.pc.s, .int .i64 d.pc.ad, .int .i64 d.pc.pl, .bool d.pc.bl, x1, x2, .int .i64 d.pc.cap, x3, x4, .int .i64 d.sn.T, .int .i64 d.sn.P, .int .i64 d.sn.C, .int .i64 d.sn.B, .int .i64 d.sn.L, .bool d.sn.S, .bool d.sn.Q, .int .i64 d.sn.cap, y1, y2] 46
  replace h0 := h0.below L0
  replace k0 := k0.below L0
  replace h1 := h1.below L0
  replace k1 := k1.below L0
  replace h2 := h2.below L0
  replace k2 := k2.below L0
  replace h3 := h3.below L0
  replace k3 := k3.below L0
  replace h4 := h4.below L0
  replace k4 := k4.below L0
  replace h5 := h5.below L0
  replace k5 := k5.below L0
  have hnn : (d.nmi != d.nmi) = false := by simp
  have hkn : (d.kn != d.kn) = false := by simp
  go_enter Tryz.func10, Tryz.ntmps10
  go_wp2_with fail
  generalize (w.alloc (.cells #[u0, u1, u2, .int .i64 d.bank, .int .i64 d.A, .int .i64 d.X, .int .i64 d.S, .int .i64 d.Pc, .bool d.Z, .bool d.N, .bool d.C, .bool d.I, .bool d.hd, .int .i64 d.sh, .int .i64 d.T, .bool d.nmi, .int .i64 d.ctrl, .bool d.kn, .int .i64 d.ka, .int .i64 d.st, u3, .int .i64 d.pc.t, .int .i64 d.pc.c, .int .i64 d.pc.s, .int .i64 d.pc.ad, .int .i64 d.pc.pl, .bool d.pc.bl, q1, q2, .int .i64 d.pc.cap, q3, q4, .int .i64 d.sn.T, .int .i64 d.sn.P, .int .i64 d.sn.C, .int .i64 d.sn.B, .int .i64 d.sn.L, .bool d.sn.S, .bool d.sn.Q, .int .i64 d.sn.cap, r1, r2] 46)).alloc (.cells #[v0, v1, v2, .int .i64 d.bank, .int .i64 d.A, .int .i64 d.X, .int .i64 d.S, .int .i64 d.Pc, .bool d.Z, .bool d.N, .bool d.C, .bool d.I, .bool d.hd, .int .i64 d.sh, .int .i64 d.T, .bool d.nmi, .int .i64 d.ctrl, .bool d.kn, .int .i64 d.ka, .int .i64 d.st, v3, .int .i64 d.pc.t, .int .i64 d.pc.c, .int .i64 d.pc.s, .int .i64 d.pc.ad, .int .i64 d.pc.pl, .bool d.pc.bl, x1, x2, .int .i64 d.pc.cap, x3, x4, .int .i64 d.sn.T, .int .i64 d.sn.P, .int .i64 d.sn.C, .int .i64 d.sn.B, .int .i64 d.sn.L, .bool d.sn.S, .bool d.sn.Q, .int .i64 d.sn.cap, y1, y2] 46) = W0 at *
  refine (onEqImg _ _ _ _ _ d.m d.ln d.f h0 k0).mono ?_
  rintro e W1 ⟨rfl, L⟩
  replace L0 := below_snoc L0 L
  replace B0 := box_keep B0 L (boxLt B0)
  replace B1 := box_keep B1 L (boxLt B1)
  clear h0 k0
  replace h1 := h1.below L
  replace k1 := k1.below L
  replace h2 := h2.below L
  replace k2 := k2.below L
  replace h3 := h3.below L
  replace k3 := k3.below L
  replace h4 := h4.below L
  replace k4 := k4.below L
  replace h5 := h5.below L
  replace k5 := k5.below L
  clear L
  have c0 := boxC B0
  have c1 := boxC B1
  go_wp2_with fail
  clear c0 c1
  refine (onEqList _ _ _ _ _ d.np d.p h1 k1).mono ?_
  rintro e W2 ⟨rfl, L⟩
  replace L0 := below_snoc L0 L
  replace B0 := box_keep B0 L (boxLt B0)
  replace B1 := box_keep B1 L (boxLt B1)
  clear h1 k1
  replace h2 := h2.below L
  replace k2 := k2.below L
  replace h3 := h3.below L
  replace k3 := k3.below L
  replace h4 := h4.below L
  replace k4 := k4.below L
  replace h5 := h5.below L
  replace k5 := k5.below L
  clear L
  have c0 := boxC B0
  have c1 := boxC B1
  go_wp2_with fail
  clear c0 c1
  refine (onEqMem _ _ _ _ _ d.nr d.g d.bank h2 k2).mono ?_
  rintro e W3 ⟨rfl, L⟩
  replace L0 := below_snoc L0 L
  replace B0 := box_keep B0 L (boxLt B0)
  replace B1 := box_keep B1 L (boxLt B1)
  clear h2 k2
  replace h3 := h3.below L
  replace k3 := k3.below L
  replace h4 := h4.below L
  replace k4 := k4.below L
  replace h5 := h5.below L
  replace k5 := k5.below L
  clear L
  have c0 := boxC B0
  have c1 := boxC B1
  go_wp2_with fail
  clear c0 c1
  refine (eqCpu_same _ d.A d.X d.S d.Pc d.Z d.N d.C d.I).mono ?_
  rintro e W4 ⟨rfl, L⟩
  replace L0 := below_snoc L0 L
  replace B0 := box_keep B0 L (boxLt B0)
  replace B1 := box_keep B1 L (boxLt B1)
  replace h3 := h3.below L
  replace k3 := k3.below L
  replace h4 := h4.below L
  replace k4 := k4.below L
  replace h5 := h5.below L
  replace k5 := k5.below L
  clear L
  have c0 := boxC B0
  have c1 := boxC B1
  go_wp2_with fail
  clear c0 c1
  refine (eqPad_same _ d.hd d.sh).mono ?_
  rintro e W5 ⟨rfl, L⟩
  replace L0 := below_snoc L0 L
  replace B0 := box_keep B0 L (boxLt B0)
  replace B1 := box_keep B1 L (boxLt B1)
  replace h3 := h3.below L
  replace k3 := k3.below L
  replace h4 := h4.below L
  replace k4 := k4.below L
  replace h5 := h5.below L
  replace k5 := k5.below L
  clear L
  have c0 := boxC B0
  have c1 := boxC B1
  go_wp2_with fail
  clear c0 c1
  refine (onEqList _ _ _ _ _ d.nq d.rd h3 k3).mono ?_
  rintro e W6 ⟨rfl, L⟩
  replace L0 := below_snoc L0 L
  replace B0 := box_keep B0 L (boxLt B0)
  replace B1 := box_keep B1 L (boxLt B1)
  clear h3 k3
  replace h4 := h4.below L
  replace k4 := k4.below L
  replace h5 := h5.below L
  replace k5 := k5.below L
  clear L
  have c0 := boxC B0
  have c1 := boxC B1
  go_wp2_with fail
  clear c0 c1
  refine (onEqPicture _ _ _ _ _ d.pc h4 k4).mono ?_
  rintro e W7 ⟨rfl, L⟩
  replace L0 := below_snoc L0 L
  replace B0 := box_keep B0 L (boxLt B0)
  replace B1 := box_keep B1 L (boxLt B1)
  clear h4 k4
  replace h5 := h5.below L
  replace k5 := k5.below L
  clear L
  have c0 := boxC B0
  have c1 := boxC B1
  go_wp2_with fail
  clear c0 c1
  refine (onEqSound _ _ _ _ _ d.sn h5 k5).mono ?_
  rintro e W8 ⟨rfl, L⟩
  replace L0 := below_snoc L0 L
  clear h5 k5
  clear L
  go_wp2
  go_ret
  exact ⟨rfl, L0⟩
def szSp (d : SpD) : Nat := d.m + psum d.ln d.m + d.np + d.nr + d.nq + (d.pc.nt + d.pc.nd + d.pc.n + (d.pc.mf + psum d.pc.lf d.pc.mf)) + (d.sn.n + d.sn.ns)
set_option maxHeartbeats 8000000 in
theorem szSplit (w : World) (d : SpD) (u0 : Value) (ra0 : Nat → Option Addr) (rc0 : Nat → Nat) (a1 : Option Addr) (c1 : Nat) (a2 : Option Addr) (c2 : Nat) (a3 : Option Addr) (c3 : Nat) (b1 : Option Addr) (y1 : Nat) (b2 : Option Addr) (y2 : Nat) (b3 : Option Addr) (y3 : Nat) (b4 : Option Addr) (y4 : Nat) (ra4 : Nat → Option Addr) (rc4 : Nat → Nat) (e1 : Option Addr) (z1 : Nat) (e2 : Option Addr) (z2 : Nat) (left : Int) (H0 : RawSS w u0 d.m ra0 d.ln rc0 d.f) (H4 : RawSS w (.slice b4 d.pc.mf y4) d.pc.mf ra4 d.pc.lf rc4 d.pc.fr) (n1 : d.np ≤ 9223372036854775807) (n2 : d.nr ≤ 9223372036854775807) (n3 : d.nq ≤ 9223372036854775807) (n4 : d.pc.nt ≤ 9223372036854775807) (n5 : d.pc.nd ≤ 9223372036854775807) (n6 : d.pc.n ≤ 9223372036854775807) (n7 : d.sn.n ≤ 9223372036854775807) (n8 : d.sn.ns ≤ 9223372036854775807) (l0 : 0 ≤ left) (l1 : left ≤ 1048576) :
    Calls Tryz.prog 17 #[.agg #[u0, .slice a1 d.np c1, .slice a2 d.nr c2, .int .i64 d.bank, .int .i64 d.A, .int .i64 d.X, .int .i64 d.S, .int .i64 d.Pc, .bool d.Z, .bool d.N, .bool d.C, .bool d.I, .bool d.hd, .int .i64 d.sh, .int .i64 d.T, .bool d.nmi, .int .i64 d.ctrl, .bool d.kn, .int .i64 d.ka, .int .i64 d.st, .slice a3 d.nq c3, .int .i64 d.pc.t, .int .i64 d.pc.c, .int .i64 d.pc.s, .int .i64 d.pc.ad, .int .i64 d.pc.pl, .bool d.pc.bl, .slice b1 d.pc.nt y1, .slice b2 d.pc.nd y2, .int .i64 d.pc.cap, .slice b3 d.pc.n y3, .slice b4 d.pc.mf y4, .int .i64 d.sn.T, .int .i64 d.sn.P, .int .i64 d.sn.C, .int .i64 d.sn.B, .int .i64 d.sn.L, .bool d.sn.S, .bool d.sn.Q, .int .i64 d.sn.cap, .slice e1 d.sn.n z1, .slice e2 d.sn.ns z2], .int .i64 left] w fun e w' => e = .returned (.int .i64 (szOut left (szSp d))) ∧ Below w.heap.size w w' := by
  have L0 : Below w.heap.size w (w.alloc (.cells #[u0, .slice a1 d.np c1, .slice a2 d.nr c2, .int .i64 d.bank, .int .i64 d.A, .int .i64 d.X, .int .i64 d.S, .int .i64 d.Pc, .bool d.Z, .bool d.N, .bool d.C, .bool d.I, .bool d.hd, .int .i64 d.sh, .int .i64 d.T, .bool d.nmi, .int .i64 d.ctrl, .bool d.kn, .int .i64 d.ka, .int .i64 d.st, .slice a3 d.nq c3, .int .i64 d.pc.t, .int .i64 d.pc.c, .int .i64 d.pc.s, .int .i64 d.pc.ad, .int .i64 d.pc.pl, .bool d.pc.bl, .slice b1 d.pc.nt y1, .slice b2 d.pc.nd y2, .int .i64 d.pc.cap, .slice b3 d.pc.n y3, .slice b4 d.pc.mf y4, .int .i64 d.sn.T, .int .i64 d.sn.P, .int .i64 d.sn.C, .int .i64 d.sn.B, .int .i64 d.sn.L, .bool d.sn.S, .bool d.sn.Q, .int .i64 d.sn.cap, .slice e1 d.sn.n z1, .slice e2 d.sn.ns z2] 71)) := (Below.refl _ _).alloc (Nat.le_refl _) _
  have B0 := box_new w #[u0, .slice a1 d.np c1, .slice a2 d.nr c2, .int .i64 d.bank, .int .i64 d.A, .int .i64 d.X, .int .i64 d.S, .int .i64 d.Pc, .bool d.Z, .bool d.N, .bool d.C, .bool d.I, .bool d.hd, .int .i64 d.sh, .int .i64 d.T, .bool d.nmi, .int .i64 d.ctrl, .bool d.kn, .int .i64 d.ka, .int .i64 d.st, .slice a3 d.nq c3, .int .i64 d.pc.t, .int .i64 d.pc.c, .int .i64 d.pc.s, .int .i64 d.pc.ad, .int .i64 d.pc.pl, .bool d.pc.bl, .slice b1 d.pc.nt y1, .slice b2 d.pc.nd y2, .int .i64 d.pc.cap, .slice b3 d.pc.n y3, .slice b4 d.pc.mf y4, .int .i64 d.sn.T, .int .i64 d.sn.P, .int .i64 d.sn.C, .int .i64 d.sn.B, .int .i64 d.sn.L, .bool d.sn.S, .bool d.sn.Q, .int .i64 d.sn.cap, .slice e1 d.sn.n z1, .slice e2 d.sn.ns z2] 71
  obtain ⟨r, hr⟩ : ∃ r, Hid (r = szOut left (szSp d)) := ⟨_, rfl⟩
  rw [← hr.out]
  obtain ⟨s0, hs0⟩ : ∃ s, Hid (s = d.m + psum d.ln d.m) := ⟨_, rfl⟩
  obtain ⟨s4, hs4⟩ : ∃ s, Hid (s = d.pc.nt + d.pc.nd + d.pc.n + (d.pc.mf + psum d.pc.lf d.pc.mf)) := ⟨_, rfl⟩
  obtain ⟨s5, hs5⟩ : ∃ s, Hid (s = d.sn.n + d.sn.ns) := ⟨_, rfl⟩
  have hz : Hid (szSp d = s0 + d.np + d.nr + d.nq + s4 + s5) := by show _ = _; rw [hs0.out, hs5.out, hs4.out]; rfl
  have NO : Hid (left < ((s0 + d.np + d.nr + d.nq + s4 + s5 : Nat) : Int) → r = -1) := fun h => by rw [hr.out, hz.out]; exact szOut_no h
  have YES : Hid (((s0 + d.np + d.nr + d.nq + s4 + s5 : Nat) : Int) ≤ left → r = left - s0 - d.np - d.nr - d.nq - s4 - s5) := fun h => by rw [hr.out, hz.out, szOut_ok h]; omega
  have Z0 := hide (fun W h l a b => szImage W u0 d.m ra0 d.ln rc0 d.f h l a b)
  have Z4 := hide (fun W h l a b => szPicture W d.pc b1 y1 b2 y2 b3 y3 b4 y4 ra4 rc4 l h n4 n5 n6 a b)
  have Z5 := hide (fun W l a b => szSound W d.sn e1 z1 e2 z2 l n7 n8 a b)
  rw [← hs0.out] at Z0
  rw [← hs4.out] at Z4
  rw [← hs5.out] at Z5
  have R0 := hide (H0.below L0)
  have R4 := hide (H4.below L0)
  clear H0 H4 hs0 hs5 hs4 hz hr n4 n5 n6 n7 n8
  go_enter Tryz.func17, Tryz.ntmps17
  go_wp2_with fail
  generalize w.alloc (.cells #[u0, .slice a1 d.np c1, .slice a2 d.nr c2, .int .i64 d.bank, .int .i64 d.A, .int .i64 d.X, .int .i64 d.S, .int .i64 d.Pc, .bool d.Z, .bool d.N, .bool d.C, .bool d.I, .bool d.hd, .int .i64 d.sh, .int .i64 d.T, .bool d.nmi, .int .i64 d.ctrl, .bool d.kn, .int .i64 d.ka, .int .i64 d.st, .slice a3 d.nq c3, .int .i64 d.pc.t, .int .i64 d.pc.c, .int .i64 d.pc.s, .int .i64 d.pc.ad, .int .i64 d.pc.pl, .bool d.pc.bl, .slice b1 d.pc.nt y1, .slice b2 d.pc.nd y2, .int .i64 d.pc.cap, .slice b3 d.pc.n y3, .slice b4 d.pc.mf y4, .int .i64 d.sn.T, .int .i64 d.sn.P, .int .i64 d.sn.C, .int .i64 d.sn.B, .int .i64 d.sn.L, .bool d.sn.S, .bool d.sn.Q, .int .i64 d.sn.cap, .slice e1 d.sn.n z1, .slice e2 d.sn.ns z2] 71) = W0 at *
  refine (Z0.out _ R0.out _ l0 l1).mono ?_
  rintro e W1 ⟨rfl, L⟩
  replace L0 := below_snoc L0 L
  replace B0 := box_keep B0 L (boxLt B0)
  replace R4 := hide (R4.out.below L)
  clear L
  by_cases g0 : left < (s0 : Nat)
  · have HN := hide (szOut_no g0)
    have HR := hide (NO.out (by omega))
    rw [HN.out]
    go_wp2
    go_ret
    exact ⟨ret_int HR.out.symm, L0⟩
  have HY := hide (szOut_ok (left := left) (n := s0) (by omega))
  rw [HY.out]
  clear HY
  have c0 := boxC B0
  go_wp2_with fail
  clear c0
  refine (szIntS _ _ _ _ _ n1 (by omega) (by omega)).mono ?_
  rintro e W2 ⟨rfl, hw2⟩
  have L : Below W1.heap.size W1 W2 := by rw [hw2]; exact Below.refl _ _
  clear hw2
  replace L0 := below_snoc L0 L
  replace B0 := box_keep B0 L (boxLt B0)
  replace R4 := hide (R4.out.below L)
  clear L
  by_cases g1 : left - s0 < (d.np : Nat)
  · have HN := hide (szOut_no g1)
    have HR := hide (NO.out (by omega))
    rw [HN.out]
    go_wp2
    go_ret
    exact ⟨ret_int HR.out.symm, L0⟩
  have HY := hide (szOut_ok (left := left - s0) (n := d.np) (by omega))
  rw [HY.out]
  clear HY
  have c0 := boxC B0
  go_wp2_with fail
  clear c0
  refine (szMem _ _ _ _ _ _ n2 (by omega) (by omega)).mono ?_
  rintro e W3 ⟨rfl, L⟩
  replace L0 := below_snoc L0 L
  replace B0 := box_keep B0 L (boxLt B0)
  replace R4 := hide (R4.out.below L)
  clear L
  by_cases g2 : left - s0 - d.np < (d.nr : Nat)
  · have HN := hide (szOut_no g2)
    have HR := hide (NO.out (by omega))
    rw [HN.out]
    go_wp2
    go_ret
    exact ⟨ret_int HR.out.symm, L0⟩
  have HY := hide (szOut_ok (left := left - s0 - d.np) (n := d.nr) (by omega))
  rw [HY.out]
  clear HY
  have c0 := boxC B0
  go_wp2_with fail
  clear c0
  refine (szIntS _ _ _ _ _ n3 (by omega) (by omega)).mono ?_
  rintro e W4 ⟨rfl, hw2⟩
  have L : Below W3.heap.size W3 W4 := by rw [hw2]; exact Below.refl _ _
  clear hw2
  replace L0 := below_snoc L0 L
  replace B0 := box_keep B0 L (boxLt B0)
  replace R4 := hide (R4.out.below L)
  clear L
  by_cases g3 : left - s0 - d.np - d.nr < (d.nq : Nat)
  · have HN := hide (szOut_no g3)
    have HR := hide (NO.out (by omega))
    rw [HN.out]
    go_wp2
    go_ret
    exact ⟨ret_int HR.out.symm, L0⟩
  have HY := hide (szOut_ok (left := left - s0 - d.np - d.nr) (n := d.nq) (by omega))
  rw [HY.out]
  clear HY
  have c0 := boxC B0
  go_wp2_with fail
  clear c0
  refine (Z4.out _ R4.out _ (by omega) (by omega)).mono ?_
  rintro e W5 ⟨rfl, L⟩
  replace L0 := below_snoc L0 L
  replace B0 := box_keep B0 L (boxLt B0)
  clear L
  by_cases g4 : left - s0 - d.np - d.nr - d.nq < (s4 : Nat)
  · have HN := hide (szOut_no g4)
    have HR := hide (NO.out (by omega))
    rw [HN.out]
    go_wp2
    go_ret
    exact ⟨ret_int HR.out.symm, L0⟩
  have HY := hide (szOut_ok (left := left - s0 - d.np - d.nr - d.nq) (n := s4) (by omega))
  rw [HY.out]
  clear HY
  have c0 := boxC B0
  go_wp2_with fail
  clear c0
  refine (Z5.out _ _ (by omega) (by omega)).mono ?_
  rintro e W6 ⟨rfl, L⟩
  replace L0 := below_snoc L0 L
  replace B0 := box_keep B0 L (boxLt B0)
  clear L
  by_cases g5 : left - s0 - d.np - d.nr - d.nq - s4 < (s5 : Nat)
  · have HN := hide (szOut_no g5)
    have HR := hide (NO.out (by omega))
    rw [HN.out]
    go_wp2
    go_ret
    exact ⟨ret_int HR.out.symm, L0⟩
  have HY := hide (szOut_ok (left := left - s0 - d.np - d.nr - d.nq - s4) (n := s5) (by omega))
  rw [HY.out]
  clear HY
  have HR := hide (YES.out (by omega))
  go_wp2
  go_ret
  exact ⟨ret_int HR.out.symm, L0⟩
end Go.Proofs.YtjcaligejlhjdaaGreat
