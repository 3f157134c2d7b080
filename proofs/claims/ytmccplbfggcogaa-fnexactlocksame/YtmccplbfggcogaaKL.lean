/-
  The console in step (Lock) as a record of numbers: sizes, copies, comparisons, marks.
-/
import Derived.Test.YtmccplbfggcogaaKO
import Derived.Test.YtmccplbfggcogaaAA
import Derived.Test.YtmccplbfggcogaaPD
import Derived.Laws.Rows
import Derived.Laws.Tables
namespace Go.Proofs.Ytmccplbfggcogaa
set_option linter.unusedVariables false
set_option linter.unusedSimpArgs false
open Go.ChangeShapes Go.WideShapes Go.ChangeAt Go.RowKit
/-- A console in step, in numbers. -/
structure LockD where
  m : Nat
  ln : Nat → Nat
  f : Nat → Nat → Int
  np : Nat
  p : Nat → Int
  nr : Nat
  g : Nat → Int
  bank : Int
  A : Int
  X : Int
  S : Int
  Pc : Int
  Z : Bool
  N : Bool
  C : Bool
  I : Bool
  t : Int
  c : Int
  s : Int
  ad : Int
  pl : Int
  bl : Bool
  nt : Nat
  tb : Nat → Int
  nd : Nat
  dt : Nat → Int
  T : Int
  P : Int
  K : Int
  B : Int
  L : Int
  Q : Bool
  R : Bool
  hd : Bool
  sh : Int
  nmi : Bool
  st : Int
  mf : Nat
  lf : Nat → Nat
  fr : Nat → Nat → Int
  ns : Nat
  sm : Nat → Int
  nq : Nat
  rd : Nat → Int
/-- A console in step on blocks of seven kinds. -/
structure LockOn (W : World) (D : Nat → Nat → Prop) (v : Value) (d : LockD) : Prop where
  ex : ∃ u0 u1 u2 u3 u4 u5 u6 u7, v = .agg #[u0, u1, u2, .int .i64 d.bank, .int .i64 d.A, .int .i64 d.X, .int .i64 d.S, .int .i64 d.Pc, .bool d.Z, .bool d.N, .bool d.C, .bool d.I, .int .i64 d.t, .int .i64 d.c, .int .i64 d.s, .int .i64 d.ad, .int .i64 d.pl, .bool d.bl, u3, u4, .int .i64 d.T, .int .i64 d.P, .int .i64 d.K, .int .i64 d.B, .int .i64 d.L, .bool d.Q, .bool d.R, .bool d.hd, .int .i64 d.sh, .bool d.nmi, .int .i64 d.st, u5, u6, u7] ∧ SsOn W (D 0) u0 d.m d.ln d.f ∧ ListOn W (D 1) u1 d.np d.p ∧ MemOn W (D 2) (.agg #[u2, .int .i64 d.bank]) d.nr d.g d.bank ∧ PpuOn W (D 3) (.agg #[.int .i64 d.t, .int .i64 d.c, .int .i64 d.s, .int .i64 d.ad, .int .i64 d.pl, .bool d.bl, u3, u4]) d.t d.c d.s d.ad d.pl d.bl d.nt d.tb d.nd d.dt ∧ ObsOn W D (.agg #[u5, u6, u7]) d.mf d.lf d.fr d.ns d.sm d.nq d.rd
section
variable {R : Nat → Nat → Prop} {W W' : World} {D E : Nat → Nat → Prop} {v : Value} {d : LockD}
theorem ObsOn.keep {mf : Nat} {lf : Nat → Nat} {fr : Nat → Nat → Int} {ns : Nat} {sm : Nat → Int} {nq : Nat} {rd : Nat → Int} (H : ObsOn W D v mf lf fr ns sm nq rd) (hw : Wrote R W W') (hd : ∀ i b o, 4 ≤ i → D i b → b < W.heap.size → ¬ R b o) : ObsOn W' D v mf lf fr ns sm nq rd := by
  obtain ⟨u5, u6, u7, e, h5, h6, h7⟩ := H
  exact ⟨u5, u6, u7, e, h5.keep hw (fun b o => hd 4 b o (by decide)), h6.keep hw (fun b o => hd 5 b o (by decide)), h7.keep hw (fun b o => hd 6 b o (by decide))⟩
theorem ObsOn.mono {mf : Nat} {lf : Nat → Nat} {fr : Nat → Nat → Int} {ns : Nat} {sm : Nat → Int} {nq : Nat} {rd : Nat → Int} (H : ObsOn W D v mf lf fr ns sm nq rd) (hd : ∀ i b, b < W.heap.size → D i b → E i b) : ObsOn W E v mf lf fr ns sm nq rd := by
  obtain ⟨u5, u6, u7, e, h5, h6, h7⟩ := H
  exact ⟨u5, u6, u7, e, h5.mono (hd 4), h6.mono (hd 5), h7.mono (hd 6)⟩
theorem LockOn.keep (H : LockOn W D v d) (hw : Wrote R W W') (hd : ∀ i b o, D i b → b < W.heap.size → ¬ R b o) : LockOn W' D v d := by
  obtain ⟨u0, u1, u2, u3, u4, u5, u6, u7, e, h0, h1, h2, h3, h4⟩ := H
  exact ⟨u0, u1, u2, u3, u4, u5, u6, u7, e, h0.keep hw (hd 0), h1.keep hw (hd 1), h2.keep hw (hd 2), h3.keep hw (hd 3), h4.keep hw (fun i b o _ => hd i b o)⟩
theorem LockOn.below (H : LockOn W D v d) (L : Below W.heap.size W W') : LockOn W' D v d := H.keep (wrote_below L Nowhere) (fun _ _ _ _ _ x => x)
theorem LockOn.mono (H : LockOn W D v d) (hd : ∀ i b, b < W.heap.size → D i b → E i b) : LockOn W E v d := by
  obtain ⟨u0, u1, u2, u3, u4, u5, u6, u7, e, h0, h1, h2, h3, h4⟩ := H
  exact ⟨u0, u1, u2, u3, u4, u5, u6, u7, e, h0.mono (hd 0), h1.mono (hd 1), h2.mono (hd 2), h3.mono (hd 3), h4.mono hd⟩
/-- The value of a console is a row of 34 cells. -/
theorem LockOn.form (H : LockOn W D v d) : ∃ x0 x1 x2 x3 x4 x5 x6 x7 x8 x9 x10 x11 x12 x13 x14 x15 x16 x17 x18 x19 x20 x21 x22 x23 x24 x25 x26 x27 x28 x29 x30 x31 x32 x33, v = .agg #[x0, x1, x2, x3, x4, x5, x6, x7, x8, x9, x10, x11, x12, x13, x14, x15, x16, x17, x18, x19, x20, x21, x22, x23, x24, x25, x26, x27, x28, x29, x30, x31, x32, x33] := by
  obtain ⟨u0, u1, u2, u3, u4, u5, u6, u7, e, -⟩ := H
  exact ⟨_, _, _, _, _, _, _, _, _, _, _, _, _, _, _, _, _, _, _, _, _, _, _, _, _, _, _, _, _, _, _, _, _, _, e⟩
end
/-- The same console with its lists marked from k on. -/
def markD (d : LockD) (k : Int) : LockD := { d with
  f := fun i j => k + psum d.ln i + j
  p := fun i => k + psum d.ln d.m + i
  g := fun i => k + psum d.ln d.m + d.np + i
  tb := fun i => k + psum d.ln d.m + d.np + d.nr + i
  dt := fun i => k + psum d.ln d.m + d.np + d.nr + d.nt + i
  fr := fun i j => k + psum d.ln d.m + d.np + d.nr + d.nt + d.nd + psum d.lf i + j
  sm := fun i => k + psum d.ln d.m + d.np + d.nr + d.nt + d.nd + psum d.lf d.mf + i
  rd := fun i => k + psum d.ln d.m + d.np + d.nr + d.nt + d.nd + psum d.lf d.mf + d.ns + i }
def markN (d : LockD) : Int := psum d.ln d.m + d.np + d.nr + d.nt + d.nd + psum d.lf d.mf + d.ns + d.nq
set_option maxHeartbeats 4000000 in
theorem onEqLock (w : World) (D E : Nat → Nat → Prop) (v u : Value) (d : LockD) (H : LockOn w D v d) (K : LockOn w E u d) :
    Calls Try.prog 26 #[v, u] w fun e w' => e = .returned (.bool true) ∧ Below w.heap.size w w' := by
  obtain ⟨u0, u1, u2, u3, u4, u5, u6, u7, rfl, h0, h1, h2, h3, h4⟩ := H
  obtain ⟨v0, v1, v2, v3, v4, v5, v6, v7, rfl, k0, k1, k2, k3, k4⟩ := K
  have L0 : Below w.heap.size w ((w.alloc (.cells #[u0, u1, u2, .int .i64 d.bank, .int .i64 d.A, .int .i64 d.X, .int .i64 d.S, .int .i64 d.Pc, .bool d.Z, .bool d.N, .bool d.C, .bool d.I, .int .i64 d.t, .int .i64 d.c, .int .i64 d.s, .int .i64 d.ad, .int .i64 d.pl, .bool d.bl, u3, u4, .int .i64 d.T, .int .i64 d.P, .int .i64 d.K, .int .i64 d.B, .int .i64 d.L, .bool d.Q, .bool d.R, .bool d.hd, .int .i64 d.sh, .bool d.nmi, .int .i64 d.st, u5, u6, u7] 79)).alloc (.cells #[v0, v1, v2, .int .i64 d.bank, .int .i64 d.A, .int .i64 d.X, .int .i64 d.S, .int .i64 d.Pc, .bool d.Z, .bool d.N, .bool d.C, .bool d.I, .int .i64 d.t, .int .i64 d.c, .int .i64 d.s, .int .i64 d.ad, .int .i64 d.pl, .bool d.bl, v3, v4, .int .i64 d.T, .int .i64 d.P, .int .i64 d.K, .int .i64 d.B, .int .i64 d.L, .bool d.Q, .bool d.R, .bool d.hd, .int .i64 d.sh, .bool d.nmi, .int .i64 d.st, v5, v6, v7] 79)) := ((Below.refl _ _).alloc (Nat.le_refl _) _).alloc (by simp) _
  have B0 : ((w.alloc (.cells #[u0, u1, u2, .int .i64 d.bank, .int .i64 d.A, .int .i64 d.X, .int .i64 d.S, .int .i64 d.Pc, .bool d.Z, .bool d.N, .bool d.C, .bool d.I, .int .i64 d.t, .int .i64 d.c, .int .i64 d.s, .int .i64 d.ad, .int .i64 d.pl, .bool d.bl, u3, u4, .int .i64 d.T, .int .i64 d.P, .int .i64 d.K, .int .i64 d.B, .int .i64 d.L, .bool d.Q, .bool d.R, .bool d.hd, .int .i64 d.sh, .bool d.nmi, .int .i64 d.st, u5, u6, u7] 79)).alloc (.cells #[v0, v1, v2, .int .i64 d.bank, .int .i64 d.A, .int .i64 d.X, .int .i64 d.S, .int .i64 d.Pc, .bool d.Z, .bool d.N, .bool d.C, .bool d.I, .int .i64 d.t, .int .i64 d.c, .int .i64 d.s, .int .i64 d.ad, .int .i64 d.pl, .bool d.bl, v3, v4, .int .i64 d.T, .int .i64 d.P, .int .i64 d.K, .int .i64 d.B, .int .i64 d.L, .bool d.Q, .bool d.R, .bool d.hd, .int .i64 d.sh, .bool d.nmi, .int .i64 d.st, v5, v6, v7] 79)).heap[w.heap.size]? = some (.cells #[u0, u1, u2, .int .i64 d.bank, .int .i64 d.A, .int .i64 d.X, .int .i64 d.S, .int .i64 d.Pc, .bool d.Z, .bool d.N, .bool d.C, .bool d.I, .int .i64 d.t, .int .i64 d.c, .int .i64 d.s, .int .i64 d.ad, .int .i64 d.pl, .bool d.bl, u3, u4, .int .i64 d.T, .int .i64 d.P, .int .i64 d.K, .int .i64 d.B, .int .i64 d.L, .bool d.Q, .bool d.R, .bool d.hd, .int .i64 d.sh, .bool d.nmi, .int .i64 d.st, u5, u6, u7] 79 (0, 0)) := boxA (box_new w _ _) _
  have B1 : ((w.alloc (.cells #[u0, u1, u2, .int .i64 d.bank, .int .i64 d.A, .int .i64 d.X, .int .i64 d.S, .int .i64 d.Pc, .bool d.Z, .bool d.N, .bool d.C, .bool d.I, .int .i64 d.t, .int .i64 d.c, .int .i64 d.s, .int .i64 d.ad, .int .i64 d.pl, .bool d.bl, u3, u4, .int .i64 d.T, .int .i64 d.P, .int .i64 d.K, .int .i64 d.B, .int .i64 d.L, .bool d.Q, .bool d.R, .bool d.hd, .int .i64 d.sh, .bool d.nmi, .int .i64 d.st, u5, u6, u7] 79)).alloc (.cells #[v0, v1, v2, .int .i64 d.bank, .int .i64 d.A, .int .i64 d.X, .int .i64 d.S, .int .i64 d.Pc, .bool d.Z, .bool d.N, .bool d.C, .bool d.I, .int .i64 d.t, .int .i64 d.c, .int .i64 d.s, .int .i64 d.ad, .int .i64 d.pl, .bool d.bl, v3, v4, .int .i64 d.T, .int .i64 d.P, .int .i64 d.K, .int .i64 d.B, .int .i64 d.L, .bool d.Q, .bool d.R, .bool d.hd, .int .i64 d.sh, .bool d.nmi, .int .i64 d.st, v5, v6, v7] 79)).heap[w.heap.size + 1]? = some (.cells #[v0, v1, v2, .int .i64 d.bank, .int .i64 d.A, .int .i64 d.X, .int .i64 d.S, .int .i64 d.Pc, .bool d.Z, .bool d.N, .bool d.C, .bool d.I, .int .i64 d.t, .int .i64 d.c, .int .i64 d.s, .int .i64 d.ad, .int .i64 d.pl, .bool d.bl, v3, v4, .int .i64 d.T, .int .i64 d.P, .int .i64 d.K, .int .i64 d.B, .int .i64 d.L, .bool d.Q, .bool d.R, .bool d.hd, .int .i64 d.sh, .bool d.nmi, .int .i64 d.st, v5, v6, v7] 79 (0, 0)) := by simpa using box_new (w.alloc (.cells #[u0, u1, u2, .int .i64 d.bank, .int .i64 d.A, .int .i64 d.X, .int .i64 d.S, .int .i64 d.Pc, .bool d.Z, .bool d.N, .bool d.C, .bool d.I, .int .i64 d.t, .int .i64 d.c, .int .i64 d.s, .int .i64 d.ad, .int .i64 d.pl, .bool d.bl, u3, u4, .int .i64 d.T, .int .i64 d.P, .int .i64 d.K, .int .i64 d.B, .int .i64 d.L, .bool d.Q, .bool d.R, .bool d.hd, .int .i64 d.sh, .bool d.nmi, .int .i64 d.st, u5, u6, u7] 79)) #[v0, v1, v2, .int .i64 d.bank, .int .i64 d.A, .int .i64 d.X, .int .i64 d.S, .int .i64 d.Pc, .bool d.Z, .bool d.N, .bool d.C, .bool d.I, .int .i64 d.t, .int .i64 d.c, .int .i64 d.s, .int .i64 d.ad, .int .i64 d.pl, .bool d.bl, v3, v4, .int .i64 d.T, .int .i64 d.P, .int .i64 d.K, .int .i64 d.B, .int .i64 d.L, .bool d.Q, .bool d.R, .bool d.hd, .int .i64 d.sh, .bool d.nmi, .int .i64 d.st, v5, v6, v7] 79
  replace h0 := h0.below L0
  replace k0 := k0.below L0
  replace h1 := h1.below L0
  replace k1 := k1.below L0
  replace h2 := h2.below L0
  replace k2 := k2.below L0
  replace h3 := h3.below L0
  replace k3 := k3.below L0
  replace h4 := h4.keep (wrote_below L0 Nowhere) (fun _ _ _ _ _ _ x => x)
  replace k4 := k4.keep (wrote_below L0 Nowhere) (fun _ _ _ _ _ _ x => x)
  have hnn : (d.nmi != d.nmi) = false := by simp
  go_enter Try.func26, Try.ntmps26
  go_wp2_with fail
  generalize (w.alloc (.cells #[u0, u1, u2, .int .i64 d.bank, .int .i64 d.A, .int .i64 d.X, .int .i64 d.S, .int .i64 d.Pc, .bool d.Z, .bool d.N, .bool d.C, .bool d.I, .int .i64 d.t, .int .i64 d.c, .int .i64 d.s, .int .i64 d.ad, .int .i64 d.pl, .bool d.bl, u3, u4, .int .i64 d.T, .int .i64 d.P, .int .i64 d.K, .int .i64 d.B, .int .i64 d.L, .bool d.Q, .bool d.R, .bool d.hd, .int .i64 d.sh, .bool d.nmi, .int .i64 d.st, u5, u6, u7] 79)).alloc (.cells #[v0, v1, v2, .int .i64 d.bank, .int .i64 d.A, .int .i64 d.X, .int .i64 d.S, .int .i64 d.Pc, .bool d.Z, .bool d.N, .bool d.C, .bool d.I, .int .i64 d.t, .int .i64 d.c, .int .i64 d.s, .int .i64 d.ad, .int .i64 d.pl, .bool d.bl, v3, v4, .int .i64 d.T, .int .i64 d.P, .int .i64 d.K, .int .i64 d.B, .int .i64 d.L, .bool d.Q, .bool d.R, .bool d.hd, .int .i64 d.sh, .bool d.nmi, .int .i64 d.st, v5, v6, v7] 79) = W0 at *
  refine (onEqImg _ _ _ _ _ d.m d.ln d.f h0 k0).mono ?_
  rintro e W1 ⟨rfl, L⟩
  replace L0 := below_snoc L0 L
  replace B0 := box_keep B0 L (boxLt B0)
  replace B1 := box_keep B1 L (boxLt B1)
  clear h0 k0
  replace h1 := h1.below L
  replace k1 := k1.below L
  replace h2 := h2.below L
  replace k2 := k2.below L
  replace h3 := h3.below L
  replace k3 := k3.below L
  replace h4 := h4.keep (wrote_below L Nowhere) (fun _ _ _ _ _ _ x => x)
  replace k4 := k4.keep (wrote_below L Nowhere) (fun _ _ _ _ _ _ x => x)
  clear L
  have c0 := boxC B0
  have c1 := boxC B1
  go_wp2_with fail
  clear c0 c1
  refine (onEqList _ _ _ _ _ d.np d.p h1 k1).mono ?_
  rintro e W2 ⟨rfl, L⟩
  replace L0 := below_snoc L0 L
  replace B0 := box_keep B0 L (boxLt B0)
  replace B1 := box_keep B1 L (boxLt B1)
  clear h1 k1
  replace h2 := h2.below L
  replace k2 := k2.below L
  replace h3 := h3.below L
  replace k3 := k3.below L
  replace h4 := h4.keep (wrote_below L Nowhere) (fun _ _ _ _ _ _ x => x)
  replace k4 := k4.keep (wrote_below L Nowhere) (fun _ _ _ _ _ _ x => x)
  clear L
  have c0 := boxC B0
  have c1 := boxC B1
  go_wp2_with fail
  clear c0 c1
  refine (onEqMem _ _ _ _ _ d.nr d.g d.bank h2 k2).mono ?_
  rintro e W3 ⟨rfl, L⟩
  replace L0 := below_snoc L0 L
  replace B0 := box_keep B0 L (boxLt B0)
  replace B1 := box_keep B1 L (boxLt B1)
  clear h2 k2
  replace h3 := h3.below L
  replace k3 := k3.below L
  replace h4 := h4.keep (wrote_below L Nowhere) (fun _ _ _ _ _ _ x => x)
  replace k4 := k4.keep (wrote_below L Nowhere) (fun _ _ _ _ _ _ x => x)
  clear L
  have c0 := boxC B0
  have c1 := boxC B1
  go_wp2_with fail
  clear c0 c1
  refine (eqCpu_same _ d.A d.X d.S d.Pc d.Z d.N d.C d.I).mono ?_
  rintro e W4 ⟨rfl, L⟩
  replace L0 := below_snoc L0 L
  replace B0 := box_keep B0 L (boxLt B0)
  replace B1 := box_keep B1 L (boxLt B1)
  replace h3 := h3.below L
  replace k3 := k3.below L
  replace h4 := h4.keep (wrote_below L Nowhere) (fun _ _ _ _ _ _ x => x)
  replace k4 := k4.keep (wrote_below L Nowhere) (fun _ _ _ _ _ _ x => x)
  clear L
  have c0 := boxC B0
  have c1 := boxC B1
  go_wp2_with fail
  clear c0 c1
  refine (onEqPpu _ _ _ _ _ d.t d.c d.s d.ad d.pl d.bl d.nt d.tb d.nd d.dt h3 k3).mono ?_
  rintro e W5 ⟨rfl, L⟩
  replace L0 := below_snoc L0 L
  replace B0 := box_keep B0 L (boxLt B0)
  replace B1 := box_keep B1 L (boxLt B1)
  clear h3 k3
  replace h4 := h4.keep (wrote_below L Nowhere) (fun _ _ _ _ _ _ x => x)
  replace k4 := k4.keep (wrote_below L Nowhere) (fun _ _ _ _ _ _ x => x)
  clear L
  have c0 := boxC B0
  have c1 := boxC B1
  go_wp2_with fail
  clear c0 c1
  refine (eqApu_same _ d.T d.P d.K d.B d.L d.Q d.R).mono ?_
  rintro e W6 ⟨rfl, L⟩
  replace L0 := below_snoc L0 L
  replace B0 := box_keep B0 L (boxLt B0)
  replace B1 := box_keep B1 L (boxLt B1)
  replace h4 := h4.keep (wrote_below L Nowhere) (fun _ _ _ _ _ _ x => x)
  replace k4 := k4.keep (wrote_below L Nowhere) (fun _ _ _ _ _ _ x => x)
  clear L
  have c0 := boxC B0
  have c1 := boxC B1
  go_wp2_with fail
  clear c0 c1
  refine (eqPad_same _ d.hd d.sh).mono ?_
  rintro e W7 ⟨rfl, L⟩
  replace L0 := below_snoc L0 L
  replace B0 := box_keep B0 L (boxLt B0)
  replace B1 := box_keep B1 L (boxLt B1)
  replace h4 := h4.keep (wrote_below L Nowhere) (fun _ _ _ _ _ _ x => x)
  replace k4 := k4.keep (wrote_below L Nowhere) (fun _ _ _ _ _ _ x => x)
  clear L
  have c0 := boxC B0
  have c1 := boxC B1
  go_wp2_with fail
  clear c0 c1
  refine (onEqObs _ _ _ _ _ d.mf d.lf d.fr d.ns d.sm d.nq d.rd h4 k4).mono ?_
  rintro e W8 ⟨rfl, L⟩
  replace L0 := below_snoc L0 L
  clear h4 k4
  clear L
  go_wp2
  go_ret
  exact ⟨rfl, L0⟩
def szD (d : LockD) : Nat := d.m + psum d.ln d.m + d.np + d.nr + (d.nt + d.nd) + (d.mf + psum d.lf d.mf + d.ns + d.nq)
set_option maxHeartbeats 4000000 in
theorem szLock (w : World) (d : LockD) (u0 : Value) (ra0 : Nat → Option Addr) (rc0 : Nat → Nat) (a1 : Option Addr) (c1 : Nat) (a2 : Option Addr) (c2 : Nat) (a3 : Option Addr) (c3 : Nat) (a4 : Option Addr) (c4 : Nat) (u5 : Value) (ra5 : Nat → Option Addr) (rc5 : Nat → Nat) (a6 : Option Addr) (c6 : Nat) (a7 : Option Addr) (c7 : Nat) (left : Int)
    (H0 : RawSS w u0 d.m ra0 d.ln rc0 d.f) (H5 : RawSS w u5 d.mf ra5 d.lf rc5 d.fr) (h1 : d.np ≤ 9223372036854775807) (h2 : d.nr ≤ 9223372036854775807) (h3 : d.nt ≤ 9223372036854775807) (h4 : d.nd ≤ 9223372036854775807) (h6 : d.ns ≤ 9223372036854775807) (h7 : d.nq ≤ 9223372036854775807) (l0 : 0 ≤ left) (l1 : left ≤ 1048576) :
    Calls Try.prog 22 #[.agg #[u0, .slice a1 d.np c1, .slice a2 d.nr c2, .int .i64 d.bank, .int .i64 d.A, .int .i64 d.X, .int .i64 d.S, .int .i64 d.Pc, .bool d.Z, .bool d.N, .bool d.C, .bool d.I, .int .i64 d.t, .int .i64 d.c, .int .i64 d.s, .int .i64 d.ad, .int .i64 d.pl, .bool d.bl, .slice a3 d.nt c3, .slice a4 d.nd c4, .int .i64 d.T, .int .i64 d.P, .int .i64 d.K, .int .i64 d.B, .int .i64 d.L, .bool d.Q, .bool d.R, .bool d.hd, .int .i64 d.sh, .bool d.nmi, .int .i64 d.st, u5, .slice a6 d.ns c6, .slice a7 d.nq c7], .int .i64 left] w fun e w' => e = .returned (.int .i64 (szOut left (szD d))) ∧ Below w.heap.size w w' := by
  have L0 : Below w.heap.size w (w.alloc (.cells #[u0, .slice a1 d.np c1, .slice a2 d.nr c2, .int .i64 d.bank, .int .i64 d.A, .int .i64 d.X, .int .i64 d.S, .int .i64 d.Pc, .bool d.Z, .bool d.N, .bool d.C, .bool d.I, .int .i64 d.t, .int .i64 d.c, .int .i64 d.s, .int .i64 d.ad, .int .i64 d.pl, .bool d.bl, .slice a3 d.nt c3, .slice a4 d.nd c4, .int .i64 d.T, .int .i64 d.P, .int .i64 d.K, .int .i64 d.B, .int .i64 d.L, .bool d.Q, .bool d.R, .bool d.hd, .int .i64 d.sh, .bool d.nmi, .int .i64 d.st, u5, .slice a6 d.ns c6, .slice a7 d.nq c7] 75)) := (Below.refl _ _).alloc (Nat.le_refl _) _
  have B0 := box_new w #[u0, .slice a1 d.np c1, .slice a2 d.nr c2, .int .i64 d.bank, .int .i64 d.A, .int .i64 d.X, .int .i64 d.S, .int .i64 d.Pc, .bool d.Z, .bool d.N, .bool d.C, .bool d.I, .int .i64 d.t, .int .i64 d.c, .int .i64 d.s, .int .i64 d.ad, .int .i64 d.pl, .bool d.bl, .slice a3 d.nt c3, .slice a4 d.nd c4, .int .i64 d.T, .int .i64 d.P, .int .i64 d.K, .int .i64 d.B, .int .i64 d.L, .bool d.Q, .bool d.R, .bool d.hd, .int .i64 d.sh, .bool d.nmi, .int .i64 d.st, u5, .slice a6 d.ns c6, .slice a7 d.nq c7] 75
  obtain ⟨r, hr⟩ : ∃ r, Hid (r = szOut left (szD d)) := ⟨_, rfl⟩
  rw [← hr.out]
  obtain ⟨s0, hs0⟩ : ∃ s, Hid (s = d.m + psum d.ln d.m) := ⟨_, rfl⟩
  obtain ⟨s5, hs5⟩ : ∃ s, Hid (s = d.mf + psum d.lf d.mf + d.ns + d.nq) := ⟨_, rfl⟩
  obtain ⟨s3, hs3⟩ : ∃ s, Hid (s = d.nt + d.nd) := ⟨_, rfl⟩
  have hz : Hid (szD d = s0 + d.np + d.nr + s3 + s5) := by show _ = _; rw [hs0.out, hs5.out, hs3.out]; rfl
  have NO : Hid (left < ((s0 + d.np + d.nr + s3 + s5 : Nat) : Int) → r = -1) := fun h => by rw [hr.out, hz.out]; exact szOut_no h
  have YES : Hid (((s0 + d.np + d.nr + s3 + s5 : Nat) : Int) ≤ left → r = left - s0 - d.np - d.nr - s3 - s5) := fun h => by rw [hr.out, hz.out, szOut_ok h]; omega
  have Z0 := hide (fun W h l a b => szImage W u0 d.m ra0 d.ln rc0 d.f h l a b)
  have Z5 := hide (fun W h l a b => szObs W u5 d.mf ra5 d.lf rc5 d.fr a6 d.ns c6 a7 d.nq c7 l h h6 h7 a b)
  have Z3 := hide (fun W l a b => szPpu W d.t d.c d.s d.ad d.pl d.bl a3 d.nt c3 a4 d.nd c4 l h3 h4 a b)
  rw [← hs0.out] at Z0
  rw [← hs5.out] at Z5
  rw [← hs3.out] at Z3
  have R0 := hide (H0.below L0)
  have R5 := hide (H5.below L0)
  clear H0 H5 hs0 hs5 hs3 hz hr h6 h7 h3 h4
  go_enter Try.func22, Try.ntmps22
  go_wp2_with fail
  generalize w.alloc (.cells #[u0, .slice a1 d.np c1, .slice a2 d.nr c2, .int .i64 d.bank, .int .i64 d.A, .int .i64 d.X, .int .i64 d.S, .int .i64 d.Pc, .bool d.Z, .bool d.N, .bool d.C, .bool d.I, .int .i64 d.t, .int .i64 d.c, .int .i64 d.s, .int .i64 d.ad, .int .i64 d.pl, .bool d.bl, .slice a3 d.nt c3, .slice a4 d.nd c4, .int .i64 d.T, .int .i64 d.P, .int .i64 d.K, .int .i64 d.B, .int .i64 d.L, .bool d.Q, .bool d.R, .bool d.hd, .int .i64 d.sh, .bool d.nmi, .int .i64 d.st, u5, .slice a6 d.ns c6, .slice a7 d.nq c7] 75) = W0 at *
  refine (Z0.out _ R0.out _ l0 l1).mono ?_
  rintro e W1 ⟨rfl, L⟩
  replace L0 := below_snoc L0 L
  replace B0 := box_keep B0 L (boxLt B0)
  replace R5 := hide (R5.out.below L)
  clear L
  by_cases g0 : left < (s0 : Nat)
  · have HN := hide (szOut_no g0)
    have HR := hide (NO.out (by omega))
    rw [HN.out]
    go_wp2
    go_ret
    exact ⟨ret_int HR.out.symm, L0⟩
  have HY := hide (szOut_ok (left := left) (n := s0) (by omega))
  rw [HY.out]
  clear HY
  have c0 := boxC B0
  go_wp2_with fail
  clear c0
  refine (szIntS _ _ _ _ _ h1 (by omega) (by omega)).mono ?_
  rintro e W2 ⟨rfl, hw2⟩
  have L : Below W1.heap.size W1 W2 := by rw [hw2]; exact Below.refl _ _
  clear hw2
  replace L0 := below_snoc L0 L
  replace B0 := box_keep B0 L (boxLt B0)
  replace R5 := hide (R5.out.below L)
  clear L
  by_cases g1 : left - s0 < (d.np : Nat)
  · have HN := hide (szOut_no g1)
    have HR := hide (NO.out (by omega))
    rw [HN.out]
    go_wp2
    go_ret
    exact ⟨ret_int HR.out.symm, L0⟩
  have HY := hide (szOut_ok (left := left - s0) (n := d.np) (by omega))
  rw [HY.out]
  clear HY
  have c0 := boxC B0
  go_wp2_with fail
  clear c0
  refine (szMem _ _ _ _ _ _ h2 (by omega) (by omega)).mono ?_
  rintro e W3 ⟨rfl, L⟩
  replace L0 := below_snoc L0 L
  replace B0 := box_keep B0 L (boxLt B0)
  replace R5 := hide (R5.out.below L)
  clear L
  by_cases g2 : left - s0 - d.np < (d.nr : Nat)
  · have HN := hide (szOut_no g2)
    have HR := hide (NO.out (by omega))
    rw [HN.out]
    go_wp2
    go_ret
    exact ⟨ret_int HR.out.symm, L0⟩
  have HY := hide (szOut_ok (left := left - s0 - d.np) (n := d.nr) (by omega))
  rw [HY.out]
  clear HY
  have c0 := boxC B0
  go_wp2_with fail
  clear c0
  refine (Z3.out _ _ (by omega) (by omega)).mono ?_
  rintro e W4 ⟨rfl, L⟩
  replace L0 := below_snoc L0 L
  replace B0 := box_keep B0 L (boxLt B0)
  replace R5 := hide (R5.out.below L)
  clear L
  by_cases g3 : left - s0 - d.np - d.nr < (s3 : Nat)
  · have HN := hide (szOut_no g3)
    have HR := hide (NO.out (by omega))
    rw [HN.out]
    go_wp2
    go_ret
    exact ⟨ret_int HR.out.symm, L0⟩
  have HY := hide (szOut_ok (left := left - s0 - d.np - d.nr) (n := s3) (by omega))
  rw [HY.out]
  clear HY
  have c0 := boxC B0
  go_wp2_with fail
  clear c0
  refine (Z5.out _ R5.out _ (by omega) (by omega)).mono ?_
  rintro e W5 ⟨rfl, L⟩
  replace L0 := below_snoc L0 L
  replace B0 := box_keep B0 L (boxLt B0)
  clear L
  by_cases g4 : left - s0 - d.np - d.nr - s3 < (s5 : Nat)
  · have HN := hide (szOut_no g4)
    have HR := hide (NO.out (by omega))
    rw [HN.out]
    go_wp2
    go_ret
    exact ⟨ret_int HR.out.symm, L0⟩
  have HY := hide (szOut_ok (left := left - s0 - d.np - d.nr - s3) (n := s5) (by omega))
  rw [HY.out]
  clear HY
  have HR := hide (YES.out (by omega))
  go_wp2
  go_ret
  exact ⟨ret_int HR.out.symm, L0⟩
end Go.Proofs.Ytmccplbfggcogaa
