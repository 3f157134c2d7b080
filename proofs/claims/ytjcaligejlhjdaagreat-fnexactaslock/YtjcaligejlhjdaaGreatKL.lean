/-
  The console in step (Lock) as a record of numbers: sizes, copies, comparisons, marks.
-/
import Derived.Test.YtjcaligejlhjdaaGreatKO
import Derived.Test.YtjcaligejlhjdaaGreatI9
import Derived.Test.YtjcaligejlhjdaaGreatPD
import Derived.Laws.Rows
import Derived.Laws.Tables
namespace Go.Proofs.YtjcaligejlhjdaaGreat
set_option linter.unusedVariables false
set_option linter.unusedSimpArgs false
open Go.ChangeShapes Go.WideShapes Go.ChangeAt Go.RowKit
/-- A console in step, in numbers. -/
structure LockD where
  m : Nat
  ln : Nat → Nat
  f : Nat → Nat → Int
  np : Nat
  p : Nat → Int
  nr : Nat
  g : Nat → Int
  bank : Int
  A : Int
  X : Int
  S : Int
  Pc : Int
  Z : Bool
  N : Bool
  C : Bool
  I : Bool
  t : Int
  c : Int
  s : Int
  ad : Int
  pl : Int
  bl : Bool
  nt : Nat
  tb : Nat → Int
  nd : Nat
  dt : Nat → Int
  T : Int
  P : Int
  K : Int
  B : Int
  L : Int
  Q : Bool
  R : Bool
  hd : Bool
  sh : Int
  nmi : Bool
  st : Int
  mf : Nat
  lf : Nat → Nat
  fr : Nat → Nat → Int
  ns : Nat
  sm : Nat → Int
  nq : Nat
  rd : Nat → Int
/-- A console in step on blocks of seven kinds. -/
structure LockOn (W : World) (D : Nat → Nat → Prop) (v : Value) (d : LockD) : Prop where
  ex : ∃ u0 u1 u2 u3 u4 u5 u6 u7, v = .agg #[u0, u1, u2, .int .i64 d.bank, .int .i64 d.A, .int .i64 d.X, .int .i64 d.S, .int .i64 d.Pc, .bool d.Z, .bool d.N, .bool d.C, .bool d.I, .int .i64 d.t, .int .i64 d.c, .int .i64 d.s, .int .i64 d.ad, .int .i64 d.pl, .bool d.bl, u3, u4, .int .i64 d.T, .int .i64 d.P, .int .i64 d.K, .int .i64 d.B, .int .i64 d.L, .bool d.Q, .bool d.R, .bool d.hd, .int .i64 d.sh, .bool d.nmi, .int .i64 d.st, u5, u6, u7] ∧ SsOn W (D 0) u0 d.m d.ln d.f ∧ ListOn W (D 1) u1 d.np d.p ∧ MemOn W (D 2) (.agg #[u2, .int .i64 d.bank]) d.nr d.g d.bank ∧ PpuOn W (D 3) (.agg #[.int .i64 d.t, .int .i64 d.c, .int .i64 d.s, .int .i64 d.ad, .int .i64 d.pl, .bool d.bl, u3, u4]) d.t d.c d.s d.ad d.pl d.bl d.nt d.tb d.nd d.dt ∧ ObsOn W D (.agg #[u5, u6, u7]) d.mf d.lf d.fr d.ns d.sm d.nq d.rd
section
variable {R : Nat → Nat → Prop} {W W' : World} {D E : Nat → Nat → Prop} {v : Value} {d : LockD}
theorem ObsOn.keep {mf : Nat} {lf : Nat → Nat} {fr : Nat → Nat → Int} {ns : Nat} {sm : Nat → Int} {nq : Nat} {rd : Nat → Int} (H : ObsOn W D v mf lf fr ns sm nq rd) (hw : Wrote R W W') (hd : ∀ i b o, 4 ≤ i → D i b → b < W.heap.size → ¬ R b o) : ObsOn W' D v mf lf fr ns sm nq rd := by
  obtain ⟨u5, u6, u7, e, h5, h6, h7⟩ := H
  exact ⟨u5, u6, u7, e, h5.keep hw (fun b o => hd 4 b o (by decide)), h6.keep hw (fun b o => hd 5 b o (by decide)), h7.keep hw (fun b o => hd 6 b o (by decide))⟩
theorem ObsOn.mono {mf : Nat} {lf : Nat → Nat} {fr : Nat → Nat → Int} {ns : Nat} {sm : Nat → Int} {nq : Nat} {rd : Nat → Int} (H : ObsOn W D v mf lf fr ns sm nq rd) (hd : ∀ i b, b < W.heap.size → D i b → E i b) : ObsOn W E v mf lf fr ns sm nq rd := by
  obtain ⟨u5, u6, u7, e, h5, h6, h7⟩ := H
  exact ⟨u5, u6, u7, e, h5.mono (hd 4), h6.mono (hd 5), h7.mono (hd 6)⟩
theorem LockOn.keep (H : LockOn W D v d) (hw : Wrote R W W') (hd : ∀ i b o, D i b → b < W.heap.size → ¬ R b o) : LockOn W' D v d := by
  obtain ⟨u0, u1, u2, u3, u4, u5, u6, u7, e, h0, h1, h2, h3, h4⟩ := H
  exact ⟨u0, u1, u2, u3, u4, u5, u6, u7, e, h0.keep hw (hd 0), h1.keep hw (hd 1), h2.keep hw (hd 2), h3.keep hw (hd 3), h4.keep hw (fun i b o _ => hd i b o)⟩
theorem LockOn.below (H : LockOn W D v d) (L : Below W.heap.size W W') : LockOn W' D v d := H.keep (wrote_below L Nowhere) (fun _ _ _ _ _ x => x)
theorem LockOn.mono (H : LockOn W D v d) (hd : ∀ i b, b < W.heap.size → D i b → E i b) : LockOn W E v d := by
  obtain ⟨u0, u1, u2, u3, u4, u5, u6, u7, e, h0, h1, h2, h3, h4⟩ := H
  exact ⟨u0, u1, u2, u3, u4, u5, u6, u7, e, h0.mono (hd 0), h1.mono (hd 1), h2.mono (hd 2), h3.mono (hd 3), h4.mono hd⟩
/-- The value of a console is a row of 34 cells. -/
theorem LockOn.form (H : LockOn W D v d) : ∃ x0 x1 x2 x3 x4 x5 x6 x7 x8 x9 x10 x11 x12 x13 x14 x15 x16 x17 x18 x19 x20 x21 x22 x23 x24 x25 x26 x27 x28 x29 x30 x31 x32 x33, v = .agg #[x0, x1, x2, x3, x4, x5, x6, x7, x8, x9, x10, x11, x12, x13, x14, x15, x16, x17, x18, x19, x20, x21, x22, x23, x24, x25, x26, x27, x28, x29, x30, x31, x32, x33] := by
  obtain ⟨u0, u1, u2, u3, u4, u5, u6, u7, e, -⟩ := H
  exact ⟨_, _, _, _, _, _, _, _, _, _, _, _, _, _, _, _, _, _, _, _, _, _, _, _, _, _, _, _, _, _, _, _, _, _, e⟩
end
/-- The same console with its lists marked from k on. -/
def markD (d : LockD) (k : Int) : LockD := { d with
  f := fun i j => k + psum d.ln i + j
  p := fun i => k + psum d.ln d.m + i
  g := fun i => k + psum d.ln d.m + d.np + i
  tb := fun i => k + psum d.ln d.m + d.np + d.nr + i
  dt := fun i => k + psum d.ln d.m + d.np + d.nr + d.nt + i
  fr := fun i j => k + psum d.ln d.m + d.np + d.nr + d.nt + d.nd + psum d.lf i + j
  sm := fun i => k + psum d.ln d.m + d.np + d.nr + d.nt + d.nd + psum d.lf d.mf + i
  rd := fun i => k + psum d.ln d.m + d.np + d.nr + d.nt + d.nd + psum d.lf d.mf + d.ns + i }
def markN (d : LockD) : Int := psum d.ln d.m + d.np + d.nr + d.nt + d.nd + psum d.lf d.mf + d.ns + d.nq
set_option maxHeartbeats 4000000 in
theorem onEqLock (w : World) (D E : Nat → Nat → Prop) (v u : Value) (d : LockD) (H : LockOn w D v d) (K : LockOn w E u d) :
    Calls Tryz.prog 21 #[v, u] w fun e w' => e = .returned (.bool true) ∧ Below w.heap.size w w' := by
  obtain ⟨u0, u1, u2, u3, u4, u5, u6, u7, rfl, h0, h1, h2, h3, h4⟩ := H
  obtain ⟨v0, v1, v2, v3, v4, v5, v6, v7, rfl, k0, k1, k2, k3, k4⟩ := K
  have L0 : Below w.heap.size w ((w.alloc (.cells #[u0, u1, u2, .int .i64 d.bank, .int .i64 d.A, .int .i64 d.X, .int .i64 d.S, .int .i64 d.Pc, .bool d.Z, .bool d.N, .bool d.C, .bool d.I, .int .i64 d.t, .int .i64 d.c, .int .i64 d.s, .int .i64 d.ad, .int .i64 d.pl, .bool d.bl, u3, u4, .int .i64 d.T, .int .i64 d.P, .int .i64 d.K, .int .i64 d.B, .int .i64 d.L, .bool d.Q, .bool d.R, .bool d.hd, .int .i64 d.sh, .bool d.nmi, .int .i64 d.st, u5, u6, u7] 76)).alloc (.cells #[v0, v1, v2, .int .i64 d.bank, .int .i64 d.A, .int .i64 d.X, .int .i64 d.S, .int .i64 d.Pc, .bool d.Z, .bool d.N, .bool d.C, .bool d.I, .int .i64 d.t, .int .i64 d.c, .int .i64 d.s, .int .i64 d.ad, .int .i64 d.pl, .bool d.bl, v3, v4, .int .i64 d.T, .int .i64 d.P, .int .i64 d.K, .int .i64 d.B, .int .i64 d.L, .bool d.Q, .bool d.R, .bool d.hd, .int .i64 d.sh, .bool d.nmi, .int .i64 d.st, v5, v6, v7] 76)) := ((Below.refl _ _).alloc (Nat.le_refl _) _).alloc (by simp) _
  have B0 : ((w.alloc (.cells #[u0, u1, u2, .int .i64 d.bank, .int .i64 d.A, .int .i64 d.X, .int .i64 d.S, .int .i64 d.Pc, .bool d.Z, .bool d.N, .bool d.C, .bool d.I, .int .i64 d.t, .int .i64 d.c, .int .i64 d.s, .int .i64 d.ad, .int .i64 d.pl, .bool d.bl, u3, u4, .int .i64 d.T, .int .i64 d.P, .int .i64 d.K, .int .i64 d.B, .int .i64 d.L, .bool d.Q, .bool d.R, .bool d.hd, .int .i64 d.sh, .bool d.nmi, .int .i64 d.st, u5, u6, u7] 76)).alloc (.cells #[v0, v1, v2, .int .i64 d.bank, .int .i64 d.A, .int .i64 d.X, .int .i64 d.S, .int .i64 d.Pc, .bool d.Z, .bool d.N, .bool d.C, .bool d.I, .int .i64 d.t, .int .i64 d.c, .int .i64 d.s, .int .i64 d.ad, .int .i64 d.pl, .bool d.bl, v3, v4, .int .i64 d.T, .int .i64 d.P, .int .i64 d.K, .int .i64 d.B, .int .i64 d.L, .bool d.Q, .bool d.R, .bool d.hd, .int .i64 d.sh, .bool d.nmi, .int .i64 d.st, v5, v6, v7] 76)).heap[w.heap.size]? = some (.cells #[u0, u1, u2, .int .i64 d.bank, .int .i64 d.A, .int .i64 d.X, .int .i64 d.S, .int .i64 d.Pc, .bool d.Z, .bool d.N, .bool d.C, .bool d.I, .int .i64 d.t, .int .i64 d.c, .int .i64 d.s, .int .i64 d.ad, .int .i64 d.pl, .bool d.bl, u3, u4, .int .i64 d.T, .int .i64 d.P, .int .i64 d.K, .int .i64 d.B, .int .i64 d.L, .bool d.Q, .bool d.R, .bool d.hd, .int .i64 d.sh, .bool d.nmi, .int .i64 d.st, u5, u6, u7] 76 (0, 0)) := boxA (box_new w _ _) _
  have B1 : ((w.alloc (.cells #[u0, u1, u2, .int .i64 d.bank, .int .i64 d.A, .int .i64 d.X, .int .i64 d.S, .int .i64 d.Pc, .bool d.Z, .bool d.N, .bool d.C, .bool d.I, .int .i64 d.t, .int .i64 d.c, .int .i64 d.s, .int .i64 d.ad, .int .i64 d.pl, .bool d.bl, u3, u4, .int .i64 d.T, .int .i64 d.P, .int .i64 d.K, .int .i64 d.B, .int .i64 d.L, .bool d.Q, .bool d.R, .bool d.hd, .int .i64 d.sh, .bool d.nmi, .int .i64 d.st, u5, u6, u7] 76)).alloc (.cells #[v0, v1, v2, .int .i64 d.bank, .int .i64 d.A, .int .i64 d.X, .int .i64 d.S, .int .i64 d.Pc, .bool d.Z, .bool d.N, .bool d.C, .bool d.I, .int .i64 d.t, .int .i64 d.c, .int .i64 d.s, .int .i64 d.ad, .int .i64 d.pl, .bool d.bl, v3, v4, .int .i64 d.T, .int .i64 d.P, .int .i64 d.K, .int .i64 d.B, .int .i64 d.L, .bool d.Q, .bool d.R, .bool d.hd, .int .i64 d.sh, .bool d.nmi, .int .i64 d.st, v5, v6, v7] 76)).heap[w.heap.size + 1]? = some (.cells #[v0, v1, v2, .int .i64 d.bank, .int .i64 d.A, .int .i64 d.X, .int .i64 d.S, .int .i64 d.Pc, .bool d.Z, .bool d.N, .bool d.C, .bool d.I, .int .i64 d.t, .int .i64 d.c, .int .i64 d.s, .int .i64 d.ad, .int .i64 d.pl, .bool d.bl, v3, v4, .int .i64 d.T, .int .i64 d.P, .int .i64 d.K, .int .i64 d.B, .int .i64 d.L, .bool d.Q, .bool d.R, .bool d.hd, .int .i64 d.sh, .bool d.nmi, .int .i64 d.st, v5, v6, v7] 76 (0, 0)) := by simpa using box_new (w.alloc (.cells #[u0, u1, u2, .int .i64 d.bank, .int .i64 d.A, .int .i64 d.X, .int .i64 d.S, .int .i64 d.Pc, .bool d.Z, .bool d.N, .bool d.C, .bool d.I, .int .i64 d.t, .int .i64 d.c, .int .i64 d.s, .int .i64 d.ad, .int .i64 d.pl, .bool d.bl, u3, u4, .int .i64 d.T, .int .i64 d.P, .int .i64 d.K, .int .i64 d.B, .int .i64 d.L, .bool d.Q, .bool d.R, .bool d.hd, .int .i64 d.sh, .bool d.nmi, .int .i64 d.st, u5, u6, u7] 76)) #[v0, v1, v2, .int .i64 d.bank, .int .i64 d.A, .int .i64 d.X, .int .i64 d.S, .int .i64 d.Pc, .bool d.Z, .bool d.N, .bool d.C, .bool d.I, .int .i64 d.t, .int .i64 d.c, .int .i64 d.s, .int .i64 d.ad, .int .i64 d.pl, .bool d.bl, v3, v4, .int .i64 d.T, .int .i64 d.P, .int .i64 d.K, .int .i64 d.B, .int .i64 d.L, .bool d.Q, .bool d.R, .bool d.hd, .int .i64 d.sh, .bool d.nmi, .int .i64 d.st, v5, v6, v7] 76
  replace h0 := h0.below L0
  replace k0 := k0.below L0
  replace h1 := h1.below L0
  replace k1 := k1.below L0
  replace h2 := h2.below L0
  replace k2 := k2.below L0
  replace h3 := h3.below L0
  replace k3 := k3.below L0
  replace h4 := h4.keep (wrote_below L0 Nowhere) (fun _ _ _ _ _ _ x => x)
  replace k4 := k4.keep (wrote_below L0 Nowhere) (fun _ _ _ _ _ _ x => x)
  have hnn : (d.nmi != d.nmi) = false := by simp
  go_enter Tryz.func21, Tryz.ntmps21
  go_wp2_with fail
  generalize (w.alloc (.cells #[u0, u1, u2, .int .i64 d.bank, .int .i64 d.A, .int .i64 d.X, .int .i64 d.S, .int .i64 d.Pc, .bool d.Z, .bool d.N, .bool d.C, .bool d.I, .int .i64 d.t, .int .i64 d.c, .int .i64 d.s, .int .i64 d.ad, .int .i64 d.pl, .bool d.bl, u3, u4, .int .i64 d.T, .int .i64 d.P, .int .i64 d.K, .int .i64 d.B, .int .i64 d.L, .bool d.Q, .bool d.R, .bool d.hd, .int .i64 d.sh, .bool d.nmi, .int .i64 d.st, u5, u6, u7] 76)).alloc (.cells #[v0, v1, v2, .int .i64 d.bank, .int .i64 d.A, .int .i64 d.X, .int .i64 d.S, .int .i64 d.Pc, .bool d.Z, .bool d.N, .bool d.C, .bool d.I, .int .i64 d.t, .int .i64 d.c, .int .i64 d.s, .int .i64 d.ad, .int .i64 d.pl, .bool d.bl, v3, v4, .int .i64 d.T, .int .i64 d.P, .int .i64 d.K, .int .i64 d.B, .int .i64 d.L, .bool d.Q, .bool d.R, .bool d.hd, .int .i64 d.sh, .bool d.nmi, .int .i64 d.st, v5, v6, v7] 76) = W0 at *
  refine (onEqImg _ _ _ _ _ d.m d.ln d.f h0 k0).mono ?_
  rintro e W1 ⟨rfl, L⟩
  replace L0 := below_snoc L0 L
  replace B0 := box_keep B0 L (boxLt B0)
  replace B1 := box_keep B1 L (boxLt B1)
  clear h0 k0
  replace h1 := h1.below L
  replace k1 := k1.below L
  replace h2 := h2.below L
  replace k2 := k2.below L
  replace h3 := h3.below L
  replace k3 := k3.below L
  replace h4 := h4.keep (wrote_below L Nowhere) (fun _ _ _ _ _ _ x => x)
  replace k4 := k4.keep (wrote_below L Nowhere) (fun _ _ _ _ _ _ x => x)
  clear L
  have c0 := boxC B0
  have c1 := boxC B1
  go_wp2_with fail
  clear c0 c1
  refine (onEqList _ _ _ _ _ d.np d.p h1 k1).mono ?_
  rintro e W2 ⟨rfl, L⟩
  replace L0 := below_snoc L0 L
  replace B0 := box_keep B0 L (boxLt B0)
  replace B1 := box_keep B1 L (boxLt B1)
  clear h1 k1
  replace h2 := h2.below L
  replace k2 := k2.below L
  replace h3 := h3.below L
  replace k3 := k3.below L
  replace h4 := h4.keep (wrote_below L Nowhere) (fun _ _ _ _ _ _ x => x)
  replace k4 := k4.keep (wrote_below L Nowhere) (fun _ _ _ _ _ _ x => x)
  clear L
  have c0 := boxC B0
  have c1 := boxC B1
  go_wp2_with fail
  clear c0 c1
  refine (onEqMem _ _ _ _ _ d.nr d.g d.bank h2 k2).mono ?_
  rintro e W3 ⟨rfl, L⟩
  replace L0 := below_snoc L0 L
  replace B0 := box_keep B0 L (boxLt B0)
  replace B1 := box_keep B1 L (boxLt B1)
  clear h2 k2
  replace h3 := h3.below L
  replace k3 := k3.below L
  replace h4 := h4.keep (wrote_below L Nowhere) (fun _ _ _ _ _ _ x => x)
  replace k4 := k4.keep (wrote_below L Nowhere) (fun _ _ _ _ _ _ x => x)
  clear L
  have c0 := boxC B0
  have c1 := boxC B1
  go_wp2_with fail
  clear c0 c1
  refine (eqCpu_same _ d.A d.X d.S d.Pc d.Z d.N d.C d.I).mono ?_
  rintro e W4 ⟨rfl, L⟩
  replace L0 := below_snoc L0 L
  replace B0 := box_keep B0 L (boxLt B0)
  replace B1 := box_keep B1 L (boxLt B1)
  replace h3 := h3.below L
  replace k3 := k3.below L
  replace h4 := h4.keep (wrote_below L Nowhere) (fun _ _ _ _ _ _ x => x)
  replace k4 := k4.keep (wrote_below L Nowhere) (fun _ _ _ _ _ _ x => x)
  clear L
  have c0 := boxC B0
  have c1 := boxC B1
  go_wp2_with fail
  clear c0 c1
  refine (onEqPpu _ _ _ _ _ d.t d.c d.s d.ad d.pl d.bl d.nt d.tb d.nd d.dt h3 k3).mono ?_
  rintro e W5 ⟨rfl, L⟩
  replace L0 := below_snoc L0 L
  replace B0 := box_keep B0 L (boxLt B0)
  replace B1 := box_keep B1 L (boxLt B1)
  clear h3 k3
  replace h4 := h4.keep (wrote_below L Nowhere) (fun _ _ _ _ _ _ x => x)
  replace k4 := k4.keep (wrote_below L Nowhere) (fun _ _ _ _ _ _ x => x)
  clear L
  have c0 := boxC B0
  have c1 := boxC B1
  go_wp2_with fail
  clear c0 c1
  refine (eqApu_same _ d.T d.P d.K d.B d.L d.Q d.R).mono ?_
  rintro e W6 ⟨rfl, L⟩
  replace L0 := below_snoc L0 L
  replace B0 := box_keep B0 L (boxLt B0)
  replace B1 := box_keep B1 L (boxLt B1)
  replace h4 := h4.keep (wrote_below L Nowhere) (fun _ _ _ _ _ _ x => x)
  replace k4 := k4.keep (wrote_below L Nowhere) (fun _ _ _ _ _ _ x => x)
  clear L
  have c0 := boxC B0
  have c1 := boxC B1
  go_wp2_with fail
  clear c0 c1
  refine (eqPad_same _ d.hd d.sh).mono ?_
  rintro e W7 ⟨rfl, L⟩
  replace L0 := below_snoc L0 L
  replace B0 := box_keep B0 L (boxLt B0)
  replace B1 := box_keep B1 L (boxLt B1)
  replace h4 := h4.keep (wrote_below L Nowhere) (fun _ _ _ _ _ _ x => x)
  replace k4 := k4.keep (wrote_below L Nowhere) (fun _ _ _ _ _ _ x => x)
  clear L
  have c0 := boxC B0
  have c1 := boxC B1
  go_wp2_with fail
  clear c0 c1
  refine (onEqObs _ _ _ _ _ d.mf d.lf d.fr d.ns d.sm d.nq d.rd h4 k4).mono ?_
  rintro e W8 ⟨rfl, L⟩
  replace L0 := below_snoc L0 L
  clear h4 k4
  clear L
  go_wp2
  go_ret
  exact ⟨rfl, L0⟩
set_option maxHeartbeats 4000000 in
theorem onMarkLock (w : World) (D : Nat → Nat → Prop) (v : Value) (d : LockD) (k : Int) (H : LockOn w D v d) (dis : Dis D) (lt : ∀ i b, D i b → b < w.heap.size) (k0 : 0 ≤ k) (k1 : k + markN d ≤ 1099511627776) :
    Calls Tryz.prog 22 #[v, .int .i64 k] w fun e w' => e = .returned (.int .i64 (k + markN d)) ∧ LockOn w' D v (markD d k) ∧ Wrote (fun b _ => ∃ i, D i b) w w' := by
  obtain ⟨u0, u1, u2, u3, u4, u5, u6, u7, rfl, h0, h1, h2, h3, h4⟩ := H
  have L0 : Below w.heap.size w (w.alloc (.cells #[u0, u1, u2, .int .i64 d.bank, .int .i64 d.A, .int .i64 d.X, .int .i64 d.S, .int .i64 d.Pc, .bool d.Z, .bool d.N, .bool d.C, .bool d.I, .int .i64 d.t, .int .i64 d.c, .int .i64 d.s, .int .i64 d.ad, .int .i64 d.pl, .bool d.bl, u3, u4, .int .i64 d.T, .int .i64 d.P, .int .i64 d.K, .int .i64 d.B, .int .i64 d.L, .bool d.Q, .bool d.R, .bool d.hd, .int .i64 d.sh, .bool d.nmi, .int .i64 d.st, u5, u6, u7] 76)) := (Below.refl _ _).alloc (Nat.le_refl _) _
  have B0 := box_new w #[u0, u1, u2, .int .i64 d.bank, .int .i64 d.A, .int .i64 d.X, .int .i64 d.S, .int .i64 d.Pc, .bool d.Z, .bool d.N, .bool d.C, .bool d.I, .int .i64 d.t, .int .i64 d.c, .int .i64 d.s, .int .i64 d.ad, .int .i64 d.pl, .bool d.bl, u3, u4, .int .i64 d.T, .int .i64 d.P, .int .i64 d.K, .int .i64 d.B, .int .i64 d.L, .bool d.Q, .bool d.R, .bool d.hd, .int .i64 d.sh, .bool d.nmi, .int .i64 d.st, u5, u6, u7] 76
  have WW := wrote_below L0 (fun b _ => ∃ i, D i b)
  replace h0 := h0.below L0
  replace h1 := h1.below L0
  replace h2 := h2.below L0
  replace h3 := h3.below L0
  replace h4 := h4.keep (wrote_below L0 Nowhere) (fun _ _ _ _ _ _ x => x)
  obtain ⟨s0, hs0⟩ : ∃ s : Int, Hid (s = (psum d.ln d.m : Nat)) := ⟨_, rfl⟩
  obtain ⟨s5, hs5⟩ : ∃ s : Int, Hid (s = (psum d.lf d.mf : Nat)) := ⟨_, rfl⟩
  have s00 : 0 ≤ s0 := by rw [hs0.out]; omega
  have s50 : 0 ≤ s5 := by rw [hs5.out]; omega
  have hN : Hid (k + markN d = k + s0 + d.np + d.nr + d.nt + d.nd + s5 + d.ns + d.nq) := by
    show _ = _
    unfold markN
    rw [hs0.out, hs5.out]
    omega
  rw [hN.out] at k1 ⊢
  have hlt : ∀ i b, D i b → b < (w.alloc (.cells #[u0, u1, u2, .int .i64 d.bank, .int .i64 d.A, .int .i64 d.X, .int .i64 d.S, .int .i64 d.Pc, .bool d.Z, .bool d.N, .bool d.C, .bool d.I, .int .i64 d.t, .int .i64 d.c, .int .i64 d.s, .int .i64 d.ad, .int .i64 d.pl, .bool d.bl, u3, u4, .int .i64 d.T, .int .i64 d.P, .int .i64 d.K, .int .i64 d.B, .int .i64 d.L, .bool d.Q, .bool d.R, .bool d.hd, .int .i64 d.sh, .bool d.nmi, .int .i64 d.st, u5, u6, u7] 76)).heap.size := fun i b h => by have := lt i b h; simp; omega
  have M0 := hide (fun W h => onMarkImg W (D 0) u0 d.m d.ln d.f k h k0 (by omega))
  have M4 := hide (fun W h l => onMarkObs W D (.agg #[u5, u6, u7]) d.mf d.lf d.fr d.ns d.sm d.nq d.rd (k + s0 + d.np + d.nr + d.nt + d.nd) h dis l (by omega) (by rw [← hs5.out]; omega))
  rw [← hs0.out] at M0
  rw [← hs5.out] at M4
  go_enter Tryz.func22, Tryz.ntmps22
  go_wp2_with fail
  generalize w.alloc (.cells #[u0, u1, u2, .int .i64 d.bank, .int .i64 d.A, .int .i64 d.X, .int .i64 d.S, .int .i64 d.Pc, .bool d.Z, .bool d.N, .bool d.C, .bool d.I, .int .i64 d.t, .int .i64 d.c, .int .i64 d.s, .int .i64 d.ad, .int .i64 d.pl, .bool d.bl, u3, u4, .int .i64 d.T, .int .i64 d.P, .int .i64 d.K, .int .i64 d.B, .int .i64 d.L, .bool d.Q, .bool d.R, .bool d.hd, .int .i64 d.sh, .bool d.nmi, .int .i64 d.st, u5, u6, u7] 76) = W0 at *
  refine (M0.out _ h0).mono ?_
  rintro e W1 ⟨rfl, h0, T⟩
  replace B0 := box_wrote B0 T (fun o (h : D 0 _) => by have := lt _ _ h; omega)
  replace WW := WW.trans (T.mono (fun b o _ h => ⟨0, h⟩))
  replace hlt := fun i b (h : D i b) => Nat.lt_of_lt_of_le (hlt i b h) T.size
  replace h1 := h1.keep T (fun b o hb _ h => absurd (dis _ _ b hb h) (by decide))
  replace h2 := h2.keep T (fun b o hb _ h => absurd (dis _ _ b hb h) (by decide))
  replace h3 := h3.keep T (fun b o hb _ h => absurd (dis _ _ b hb h) (by decide))
  replace h4 := h4.keep T (fun i b o hi hb _ h => by have := dis _ _ b hb h; omega)
  clear T
  have c1 := boxC B0
  go_wp2_with fail
  clear c1
  refine (onMarkList _ (D 1) _ d.np d.p (k + s0) h1 (by omega) (by omega)).mono ?_
  rintro e W2 ⟨rfl, h1, T⟩
  replace B0 := box_wrote B0 T (fun o (h : D 1 _) => by have := lt _ _ h; omega)
  replace WW := WW.trans (T.mono (fun b o _ h => ⟨1, h⟩))
  replace hlt := fun i b (h : D i b) => Nat.lt_of_lt_of_le (hlt i b h) T.size
  replace h0 := h0.keep T (fun b o hb _ h => absurd (dis _ _ b hb h) (by decide))
  replace h2 := h2.keep T (fun b o hb _ h => absurd (dis _ _ b hb h) (by decide))
  replace h3 := h3.keep T (fun b o hb _ h => absurd (dis _ _ b hb h) (by decide))
  replace h4 := h4.keep T (fun i b o hi hb _ h => by have := dis _ _ b hb h; omega)
  clear T
  have c1 := boxC B0
  go_wp2_with fail
  clear c1
  refine (onMarkMem _ (D 2) _ d.nr d.g d.bank (k + s0 + d.np) h2 (by omega) (by omega)).mono ?_
  rintro e W3 ⟨rfl, h2, T⟩
  replace B0 := box_wrote B0 T (fun o (h : D 2 _) => by have := lt _ _ h; omega)
  replace WW := WW.trans (T.mono (fun b o _ h => ⟨2, h⟩))
  replace hlt := fun i b (h : D i b) => Nat.lt_of_lt_of_le (hlt i b h) T.size
  replace h0 := h0.keep T (fun b o hb _ h => absurd (dis _ _ b hb h) (by decide))
  replace h1 := h1.keep T (fun b o hb _ h => absurd (dis _ _ b hb h) (by decide))
  replace h3 := h3.keep T (fun b o hb _ h => absurd (dis _ _ b hb h) (by decide))
  replace h4 := h4.keep T (fun i b o hi hb _ h => by have := dis _ _ b hb h; omega)
  clear T
  have c1 := boxC B0
  go_wp2_with fail
  clear c1
  refine (onMarkPpu _ (D 3) _ d.t d.c d.s d.ad d.pl d.bl d.nt d.tb d.nd d.dt (k + s0 + d.np + d.nr) h3 (by omega) (by omega)).mono ?_
  rintro e W4 ⟨rfl, h3, T⟩
  replace B0 := box_wrote B0 T (fun o (h : D 3 _) => by have := lt _ _ h; omega)
  replace WW := WW.trans (T.mono (fun b o _ h => ⟨3, h⟩))
  replace hlt := fun i b (h : D i b) => Nat.lt_of_lt_of_le (hlt i b h) T.size
  replace h0 := h0.keep T (fun b o hb _ h => absurd (dis _ _ b hb h) (by decide))
  replace h1 := h1.keep T (fun b o hb _ h => absurd (dis _ _ b hb h) (by decide))
  replace h2 := h2.keep T (fun b o hb _ h => absurd (dis _ _ b hb h) (by decide))
  replace h4 := h4.keep T (fun i b o hi hb _ h => by have := dis _ _ b hb h; omega)
  clear T
  have c1 := boxC B0
  go_wp2_with fail
  clear c1
  refine (M4.out _ h4 hlt).mono ?_
  rintro e W5 ⟨rfl, h4, T⟩
  replace WW := WW.trans (T.mono (fun b o _ h => by rcases h with h | h | h <;> exact ⟨_, h⟩))
  replace h0 := h0.keep T (fun b o hb _ h => by rcases h with h | h | h <;> exact absurd (dis _ _ b hb h) (by decide))
  replace h1 := h1.keep T (fun b o hb _ h => by rcases h with h | h | h <;> exact absurd (dis _ _ b hb h) (by decide))
  replace h2 := h2.keep T (fun b o hb _ h => by rcases h with h | h | h <;> exact absurd (dis _ _ b hb h) (by decide))
  replace h3 := h3.keep T (fun b o hb _ h => by rcases h with h | h | h <;> exact absurd (dis _ _ b hb h) (by decide))
  have HE := hide (And.intro h0 (And.intro h1 (And.intro h2 (And.intro h3 (And.intro h4 WW)))))
  clear h0 h1 h2 h3 h4 WW B0 T hlt M0 M4
  go_wp2
  go_ret
  have e0 := hs0.out
  have e5 := hs5.out
  subst e0
  subst e5
  exact ⟨rfl, ⟨_, _, _, _, _, _, _, _, rfl, HE.out.1, HE.out.2.1, HE.out.2.2.1, HE.out.2.2.2.1, HE.out.2.2.2.2.1⟩, HE.out.2.2.2.2.2⟩
set_option maxHeartbeats 4000000 in
theorem onHeldLock (w : World) (D : Nat → Nat → Prop) (v : Value) (d : LockD) (k : Int) (H : LockOn w D v (markD d k)) (k0 : 0 ≤ k) (k1 : k + markN d ≤ 1099511627776) :
    Calls Tryz.prog 23 #[v, .int .i64 k] w fun e w' => e = .returned (.int .i64 (k + markN d)) ∧ Below w.heap.size w w' := by
  obtain ⟨u0, u1, u2, u3, u4, u5, u6, u7, e, h0, h1, h2, h3, h4⟩ := H
  replace e : v = .agg #[u0, u1, u2, .int .i64 d.bank, .int .i64 d.A, .int .i64 d.X, .int .i64 d.S, .int .i64 d.Pc, .bool d.Z, .bool d.N, .bool d.C, .bool d.I, .int .i64 d.t, .int .i64 d.c, .int .i64 d.s, .int .i64 d.ad, .int .i64 d.pl, .bool d.bl, u3, u4, .int .i64 d.T, .int .i64 d.P, .int .i64 d.K, .int .i64 d.B, .int .i64 d.L, .bool d.Q, .bool d.R, .bool d.hd, .int .i64 d.sh, .bool d.nmi, .int .i64 d.st, u5, u6, u7] := e
  subst e
  have L0 : Below w.heap.size w (w.alloc (.cells #[u0, u1, u2, .int .i64 d.bank, .int .i64 d.A, .int .i64 d.X, .int .i64 d.S, .int .i64 d.Pc, .bool d.Z, .bool d.N, .bool d.C, .bool d.I, .int .i64 d.t, .int .i64 d.c, .int .i64 d.s, .int .i64 d.ad, .int .i64 d.pl, .bool d.bl, u3, u4, .int .i64 d.T, .int .i64 d.P, .int .i64 d.K, .int .i64 d.B, .int .i64 d.L, .bool d.Q, .bool d.R, .bool d.hd, .int .i64 d.sh, .bool d.nmi, .int .i64 d.st, u5, u6, u7] 76)) := (Below.refl _ _).alloc (Nat.le_refl _) _
  have B0 := box_new w #[u0, u1, u2, .int .i64 d.bank, .int .i64 d.A, .int .i64 d.X, .int .i64 d.S, .int .i64 d.Pc, .bool d.Z, .bool d.N, .bool d.C, .bool d.I, .int .i64 d.t, .int .i64 d.c, .int .i64 d.s, .int .i64 d.ad, .int .i64 d.pl, .bool d.bl, u3, u4, .int .i64 d.T, .int .i64 d.P, .int .i64 d.K, .int .i64 d.B, .int .i64 d.L, .bool d.Q, .bool d.R, .bool d.hd, .int .i64 d.sh, .bool d.nmi, .int .i64 d.st, u5, u6, u7] 76
  replace h0 := h0.below L0
  replace h1 := h1.below L0
  replace h2 := h2.below L0
  replace h3 := h3.below L0
  replace h4 := h4.keep (wrote_below L0 Nowhere) (fun _ _ _ _ _ _ x => x)
  obtain ⟨s0, hs0⟩ : ∃ s : Int, Hid (s = (psum d.ln d.m : Nat)) := ⟨_, rfl⟩
  obtain ⟨s5, hs5⟩ : ∃ s : Int, Hid (s = (psum d.lf d.mf : Nat)) := ⟨_, rfl⟩
  have s00 : 0 ≤ s0 := by rw [hs0.out]; omega
  have s50 : 0 ≤ s5 := by rw [hs5.out]; omega
  have hN : Hid (k + markN d = k + s0 + d.np + d.nr + d.nt + d.nd + s5 + d.ns + d.nq) := by
    show _ = _
    unfold markN
    rw [hs0.out, hs5.out]
    omega
  rw [hN.out] at k1 ⊢
  have M0 : Hid (∀ W, SsOn W (D 0) u0 d.m d.ln (markD d k).f → Calls Tryz.prog 47 #[.agg #[u0], .int .i64 k] W fun e w' => e = .returned (.int .i64 (k + s0)) ∧ Below W.heap.size W w') := fun W h => by rw [hs0.out]; exact onHeldImg W (D 0) u0 d.m d.ln k h k0 (by omega)
  have M1 : Hid (∀ W, ListOn W (D 1) u1 d.np (markD d k).p → Calls Tryz.prog 48 #[u1, .int .i64 (k + s0)] W fun e w' => e = .returned (.int .i64 (k + s0 + d.np)) ∧ Below W.heap.size W w') := fun W h => onHeldList W (D 1) u1 d.np (k + s0) (by rw [hs0.out]; exact h) (by omega) (by omega)
  have M2 : Hid (∀ W, MemOn W (D 2) (.agg #[u2, .int .i64 d.bank]) d.nr (markD d k).g d.bank → Calls Tryz.prog 49 #[.agg #[u2, .int .i64 d.bank], .int .i64 (k + s0 + d.np)] W fun e w' => e = .returned (.int .i64 (k + s0 + d.np + d.nr)) ∧ Below W.heap.size W w') := fun W h => onHeldMem W (D 2) _ d.nr d.bank (k + s0 + d.np) (by rw [hs0.out]; exact h) (by omega) (by omega)
  have M3 : Hid (∀ W, PpuOn W (D 3) (.agg #[.int .i64 d.t, .int .i64 d.c, .int .i64 d.s, .int .i64 d.ad, .int .i64 d.pl, .bool d.bl, u3, u4]) d.t d.c d.s d.ad d.pl d.bl d.nt (markD d k).tb d.nd (markD d k).dt → Calls Tryz.prog 77 #[.agg #[.int .i64 d.t, .int .i64 d.c, .int .i64 d.s, .int .i64 d.ad, .int .i64 d.pl, .bool d.bl, u3, u4], .int .i64 (k + s0 + d.np + d.nr)] W fun e w' => e = .returned (.int .i64 (k + s0 + d.np + d.nr + d.nt + d.nd)) ∧ Below W.heap.size W w') := fun W h => onHeldPpu W (D 3) _ d.t d.c d.s d.ad d.pl d.bl d.nt d.nd (k + s0 + d.np + d.nr) (by rw [hs0.out]; exact h) (by omega) (by omega)
  have M4 : Hid (∀ W, ObsOn W D (.agg #[u5, u6, u7]) d.mf d.lf (markD d k).fr d.ns (markD d k).sm d.nq (markD d k).rd → Calls Tryz.prog 78 #[.agg #[u5, u6, u7], .int .i64 (k + s0 + d.np + d.nr + d.nt + d.nd)] W fun e w' => e = .returned (.int .i64 (k + s0 + d.np + d.nr + d.nt + d.nd + s5 + d.ns + d.nq)) ∧ Below W.heap.size W w') := fun W h => by
    have e0 := hs0.out
    have e5 := hs5.out
    subst e0
    subst e5
    exact onHeldObs W D _ d.mf d.lf d.ns d.nq _ h (by omega) (by omega)
  clear hs0 hs5
  have H0 := hide h0
  have H1 := hide h1
  have H2 := hide h2
  have H3 := hide h3
  have H4 := hide h4
  clear h0 h1 h2 h3 h4
  go_enter Tryz.func23, Tryz.ntmps23
  go_wp2_with fail
  generalize w.alloc (.cells #[u0, u1, u2, .int .i64 d.bank, .int .i64 d.A, .int .i64 d.X, .int .i64 d.S, .int .i64 d.Pc, .bool d.Z, .bool d.N, .bool d.C, .bool d.I, .int .i64 d.t, .int .i64 d.c, .int .i64 d.s, .int .i64 d.ad, .int .i64 d.pl, .bool d.bl, u3, u4, .int .i64 d.T, .int .i64 d.P, .int .i64 d.K, .int .i64 d.B, .int .i64 d.L, .bool d.Q, .bool d.R, .bool d.hd, .int .i64 d.sh, .bool d.nmi, .int .i64 d.st, u5, u6, u7] 76) = W0 at *
  refine (M0.out _ H0.out).mono ?_
  rintro e W1 ⟨rfl, L⟩
  replace L0 := below_snoc L0 L
  replace B0 := box_keep B0 L (boxLt B0)
  replace H1 := hide (H1.out.below L)
  replace H2 := hide (H2.out.below L)
  replace H3 := hide (H3.out.below L)
  replace H4 := hide (H4.out.keep (wrote_below L Nowhere) (fun _ _ _ _ _ _ x => x))
  clear L M0 H0
  have c1 := boxC B0
  go_wp2_with fail
  clear c1
  refine (M1.out _ H1.out).mono ?_
  rintro e W2 ⟨rfl, L⟩
  replace L0 := below_snoc L0 L
  replace B0 := box_keep B0 L (boxLt B0)
  replace H2 := hide (H2.out.below L)
  replace H3 := hide (H3.out.below L)
  replace H4 := hide (H4.out.keep (wrote_below L Nowhere) (fun _ _ _ _ _ _ x => x))
  clear L M1 H1
  have c1 := boxC B0
  go_wp2_with fail
  clear c1
  refine (M2.out _ H2.out).mono ?_
  rintro e W3 ⟨rfl, L⟩
  replace L0 := below_snoc L0 L
  replace B0 := box_keep B0 L (boxLt B0)
  replace H3 := hide (H3.out.below L)
  replace H4 := hide (H4.out.keep (wrote_below L Nowhere) (fun _ _ _ _ _ _ x => x))
  clear L M2 H2
  have c1 := boxC B0
  go_wp2_with fail
  clear c1
  refine (M3.out _ H3.out).mono ?_
  rintro e W4 ⟨rfl, L⟩
  replace L0 := below_snoc L0 L
  replace B0 := box_keep B0 L (boxLt B0)
  replace H4 := hide (H4.out.keep (wrote_below L Nowhere) (fun _ _ _ _ _ _ x => x))
  clear L M3 H3
  have c1 := boxC B0
  go_wp2_with fail
  clear c1
  refine (M4.out _ H4.out).mono ?_
  rintro e W5 ⟨rfl, L⟩
  replace L0 := below_snoc L0 L
  clear L M4 H4
  go_wp2
  go_ret
  exact ⟨rfl, L0⟩
def szD (d : LockD) : Nat := d.m + psum d.ln d.m + d.np + d.nr + (d.nt + d.nd) + (d.mf + psum d.lf d.mf + d.ns + d.nq)
end Go.Proofs.YtjcaligejlhjdaaGreat
