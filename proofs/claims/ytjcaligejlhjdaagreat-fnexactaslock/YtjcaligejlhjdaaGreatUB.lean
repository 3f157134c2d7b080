/-
  A console apart out of its mirror.
-/
import Derived.Test.YtjcaligejlhjdaaGreatUA
import Derived.Deep.DeepCutAuto
import Derived.Deep.WholeRow
namespace Go.Proofs.YtjcaligejlhjdaaGreat
set_option linter.unusedVariables false
set_option linter.unusedSimpArgs false
open Go.ChangeShapes Go.WideShapes Go.ChangeAt Go.RowKit
theorem wrote_setRowU {w : World} {g : Nat} {old : Array Value} {t : TypeId} (hg : w.heap[g]? = some (.cells old t (0, 0))) (cs : Array Value) : Wrote (fun b _ => b = g) w (w.setRow g cs) :=
  ⟨rfl, rfl, rfl, by simp [World.setRow], fun k hk hn => setRow_other _ _ _ _ (fun e => hn 0 e), fun b o hb hn => cell_setRow_other _ _ _ _ hn, fun b o hb => by
    by_cases e : b = g
    · subst e
      rw [boxF (setRow_heap _ _ _ _ _ _ hg), boxF hg]
    · simp [World.frozen?, setRow_other _ _ _ _ e]⟩
theorem infoSplit : (Tryz.prog.info? 46).map (·.size) = some 42 := by kernel_rfl
/-- What the mirror of a console apart is laid from. -/
structure RawP (W : World) (u0 u1 u2 u3 q1 q2 : Value) (b3 : Option Addr) (q4 : Value) (e1 e2 : Option Addr) (d : SpD) : Prop where
  h0 : ∃ F, IntSS .i64 W F u0 d.m d.ln d.f
  h1 : ∃ F, Ints .i64 W F u1 d.np d.p
  h2 : ∃ F, Ints .i64 W F u2 d.nr d.g
  h3 : ∃ F, Ints .i64 W F u3 d.nq d.rd
  h4 : ∃ F, Ints .i64 W F q1 d.pc.nt d.pc.tb
  h5 : ∃ F, Ints .i64 W F q2 d.pc.nd d.pc.dt
  h6 : RowOf .i64 W b3 (d.pc.n * 3) d.pc.f
  h7 : ∃ F, IntSS .i64 W F q4 d.pc.mf d.pc.lf d.pc.fr
  h8 : RowOf .i64 W e1 (d.sn.n * 3) d.sn.f
  h9 : RowOf .i64 W e2 d.sn.ns d.sn.sm
set_option maxHeartbeats 8000000 in
theorem onToSplit (w : World) (u0 u1 u2 u3 q1 q2 : Value) (b3 : Option Addr) (y3 : Nat) (q4 : Value) (e1 : Option Addr) (z1 : Nat) (e2 : Option Addr) (z2 : Nat) (d : SpD) (H : RawP w u0 u1 u2 u3 q1 q2 b3 q4 e1 e2 d) (hs : szSp d ≤ 1048576) :
    Calls Tryz.prog 19 #[.agg #[u0, u1, u2, .int .i64 d.bank, .int .i64 d.A, .int .i64 d.X, .int .i64 d.S, .int .i64 d.Pc, .bool d.Z, .bool d.N, .bool d.C, .bool d.I, .bool d.hd, .int .i64 d.sh, .int .i64 d.T, .bool d.nmi, .int .i64 d.ctrl, .bool d.kn, .int .i64 d.ka, .int .i64 d.st, u3, .int .i64 d.pc.t, .int .i64 d.pc.c, .int .i64 d.pc.s, .int .i64 d.pc.ad, .int .i64 d.pc.pl, .bool d.pc.bl, q1, q2, .int .i64 d.pc.cap, .slice b3 d.pc.n y3, q4, .int .i64 d.sn.T, .int .i64 d.sn.P, .int .i64 d.sn.C, .int .i64 d.sn.B, .int .i64 d.sn.L, .bool d.sn.S, .bool d.sn.Q, .int .i64 d.sn.cap, .slice e1 d.sn.n z1, .slice e2 d.sn.ns z2]] w fun e w' => ∃ v, e = .returned v ∧ (∃ D, SplitOn w' D v d ∧ Dis D ∧ ∀ i b, D i b → w.heap.size ≤ b ∧ b < w'.heap.size) ∧ Below w.heap.size w w' := by
  obtain ⟨⟨F0, H0⟩, ⟨F1, H1⟩, ⟨F2, H2⟩, ⟨F3, H3⟩, ⟨F4, H4⟩, ⟨F5, H5⟩, H6, ⟨F7, H7⟩, H8, H9⟩ := H
  have hm : d.m + psum d.ln d.m ≤ 1048576 := by unfold szSp at hs; omega
  have hf : d.pc.mf + psum d.pc.lf d.pc.mf ≤ 1048576 := by unfold szSp at hs; omega
  have hn : d.pc.n ≤ 1048576 := by unfold szSp at hs; omega
  have hn1 : d.sn.n ≤ 1048576 := by unfold szSp at hs; omega
  have hn3 : d.sn.ns ≤ 1048576 := by unfold szSp at hs; omega
  clear hs
  obtain ⟨a0, c0, rfl, -⟩ := id H0
  obtain ⟨a1, c1, rfl, -⟩ := id H1
  obtain ⟨a2, c2, rfl, hn2, -⟩ := id H2
  obtain ⟨a3, c3, rfl, -⟩ := id H3
  obtain ⟨b1, y1, rfl, -⟩ := id H4
  obtain ⟨b2, y2, rfl, -⟩ := id H5
  obtain ⟨b4, y4, rfl, -⟩ := id H7
  have L0 : Below w.heap.size w (((w.alloc (.cells #[.slice a0 d.m c0, .slice a1 d.np c1, .slice a2 d.nr c2, .int .i64 d.bank, .int .i64 d.A, .int .i64 d.X, .int .i64 d.S, .int .i64 d.Pc, .bool d.Z, .bool d.N, .bool d.C, .bool d.I, .bool d.hd, .int .i64 d.sh, .int .i64 d.T, .bool d.nmi, .int .i64 d.ctrl, .bool d.kn, .int .i64 d.ka, .int .i64 d.st, .slice a3 d.nq c3, .int .i64 d.pc.t, .int .i64 d.pc.c, .int .i64 d.pc.s, .int .i64 d.pc.ad, .int .i64 d.pc.pl, .bool d.pc.bl, .slice b1 d.pc.nt y1, .slice b2 d.pc.nd y2, .int .i64 d.pc.cap, .slice b3 d.pc.n y3, .slice b4 d.pc.mf y4, .int .i64 d.sn.T, .int .i64 d.sn.P, .int .i64 d.sn.C, .int .i64 d.sn.B, .int .i64 d.sn.L, .bool d.sn.S, .bool d.sn.Q, .int .i64 d.sn.cap, .slice e1 d.sn.n z1, .slice e2 d.sn.ns z2] 71)).alloc (.cells #[.slice none 0 0, .slice none 0 0, .slice none 0 0, .int .i64 0, .int .i64 0, .int .i64 0, .int .i64 0, .int .i64 0, .bool false, .bool false, .bool false, .bool false, .bool false, .int .i64 0, .int .i64 0, .bool false, .int .i64 0, .bool false, .int .i64 0, .int .i64 0, .slice none 0 0, .int .i64 0, .int .i64 0, .int .i64 0, .int .i64 0, .int .i64 0, .bool false, .slice none 0 0, .slice none 0 0, .int .i64 0, .slice none 0 0, .slice none 0 0, .int .i64 0, .int .i64 0, .int .i64 0, .int .i64 0, .int .i64 0, .bool false, .bool false, .int .i64 0, .slice none 0 0, .slice none 0 0] 46)).alloc (.cells #[.slice none 0 0, .slice none 0 0, .slice none 0 0, .int .i64 0, .int .i64 0, .int .i64 0, .int .i64 0, .int .i64 0, .bool false, .bool false, .bool false, .bool false, .bool false, .int .i64 0, .int .i64 0, .bool false, .int .i64 0, .bool false, .int .i64 0, .int .i64 0, .slice none 0 0, .int .i64 0, .int .i64 0, .int .i64 0, .int .i64 0, .int .i64 0, .bool false, .slice none 0 0, .slice none 0 0, .int .i64 0, .slice none 0 0, .slice none 0 0, .int .i64 0, .int .i64 0, .int .i64 0, .int .i64 0, .int .i64 0, .bool false, .bool false, .int .i64 0, .slice none 0 0, .slice none 0 0] 46)) := (((Below.refl _ _).alloc (Nat.le_refl _) _).alloc (by simp) _).alloc (by simp; omega) _
  have B0 : (((w.alloc (.cells #[.slice a0 d.m c0, .slice a1 d.np c1, .slice a2 d.nr c2, .int .i64 d.bank, .int .i64 d.A, .int .i64 d.X, .int .i64 d.S, .int .i64 d.Pc, .bool d.Z, .bool d.N, .bool d.C, .bool d.I, .bool d.hd, .int .i64 d.sh, .int .i64 d.T, .bool d.nmi, .int .i64 d.ctrl, .bool d.kn, .int .i64 d.ka, .int .i64 d.st, .slice a3 d.nq c3, .int .i64 d.pc.t, .int .i64 d.pc.c, .int .i64 d.pc.s, .int .i64 d.pc.ad, .int .i64 d.pc.pl, .bool d.pc.bl, .slice b1 d.pc.nt y1, .slice b2 d.pc.nd y2, .int .i64 d.pc.cap, .slice b3 d.pc.n y3, .slice b4 d.pc.mf y4, .int .i64 d.sn.T, .int .i64 d.sn.P, .int .i64 d.sn.C, .int .i64 d.sn.B, .int .i64 d.sn.L, .bool d.sn.S, .bool d.sn.Q, .int .i64 d.sn.cap, .slice e1 d.sn.n z1, .slice e2 d.sn.ns z2] 71)).alloc (.cells #[.slice none 0 0, .slice none 0 0, .slice none 0 0, .int .i64 0, .int .i64 0, .int .i64 0, .int .i64 0, .int .i64 0, .bool false, .bool false, .bool false, .bool false, .bool false, .int .i64 0, .int .i64 0, .bool false, .int .i64 0, .bool false, .int .i64 0, .int .i64 0, .slice none 0 0, .int .i64 0, .int .i64 0, .int .i64 0, .int .i64 0, .int .i64 0, .bool false, .slice none 0 0, .slice none 0 0, .int .i64 0, .slice none 0 0, .slice none 0 0, .int .i64 0, .int .i64 0, .int .i64 0, .int .i64 0, .int .i64 0, .bool false, .bool false, .int .i64 0, .slice none 0 0, .slice none 0 0] 46)).alloc (.cells #[.slice none 0 0, .slice none 0 0, .slice none 0 0, .int .i64 0, .int .i64 0, .int .i64 0, .int .i64 0, .int .i64 0, .bool false, .bool false, .bool false, .bool false, .bool false, .int .i64 0, .int .i64 0, .bool false, .int .i64 0, .bool false, .int .i64 0, .int .i64 0, .slice none 0 0, .int .i64 0, .int .i64 0, .int .i64 0, .int .i64 0, .int .i64 0, .bool false, .slice none 0 0, .slice none 0 0, .int .i64 0, .slice none 0 0, .slice none 0 0, .int .i64 0, .int .i64 0, .int .i64 0, .int .i64 0, .int .i64 0, .bool false, .bool false, .int .i64 0, .slice none 0 0, .slice none 0 0] 46)).heap[w.heap.size]? = some (.cells #[.slice a0 d.m c0, .slice a1 d.np c1, .slice a2 d.nr c2, .int .i64 d.bank, .int .i64 d.A, .int .i64 d.X, .int .i64 d.S, .int .i64 d.Pc, .bool d.Z, .bool d.N, .bool d.C, .bool d.I, .bool d.hd, .int .i64 d.sh, .int .i64 d.T, .bool d.nmi, .int .i64 d.ctrl, .bool d.kn, .int .i64 d.ka, .int .i64 d.st, .slice a3 d.nq c3, .int .i64 d.pc.t, .int .i64 d.pc.c, .int .i64 d.pc.s, .int .i64 d.pc.ad, .int .i64 d.pc.pl, .bool d.pc.bl, .slice b1 d.pc.nt y1, .slice b2 d.pc.nd y2, .int .i64 d.pc.cap, .slice b3 d.pc.n y3, .slice b4 d.pc.mf y4, .int .i64 d.sn.T, .int .i64 d.sn.P, .int .i64 d.sn.C, .int .i64 d.sn.B, .int .i64 d.sn.L, .bool d.sn.S, .bool d.sn.Q, .int .i64 d.sn.cap, .slice e1 d.sn.n z1, .slice e2 d.sn.ns z2] 71 (0, 0)) := boxA (boxA (box_new w _ _) _) _
  have B1 : (((w.alloc (.cells #[.slice a0 d.m c0, .slice a1 d.np c1, .slice a2 d.nr c2, .int .i64 d.bank, .int .i64 d.A, .int .i64 d.X, .int .i64 d.S, .int .i64 d.Pc, .bool d.Z, .bool d.N, .bool d.C, .bool d.I, .bool d.hd, .int .i64 d.sh, .int .i64 d.T, .bool d.nmi, .int .i64 d.ctrl, .bool d.kn, .int .i64 d.ka, .int .i64 d.st, .slice a3 d.nq c3, .int .i64 d.pc.t, .int .i64 d.pc.c, .int .i64 d.pc.s, .int .i64 d.pc.ad, .int .i64 d.pc.pl, .bool d.pc.bl, .slice b1 d.pc.nt y1, .slice b2 d.pc.nd y2, .int .i64 d.pc.cap, .slice b3 d.pc.n y3, .slice b4 d.pc.mf y4, .int .i64 d.sn.T, .int .i64 d.sn.P, .int .i64 d.sn.C, .int .i64 d.sn.B, .int .i64 d.sn.L, .bool d.sn.S, .bool d.sn.Q, .int .i64 d.sn.cap, .slice e1 d.sn.n z1, .slice e2 d.sn.ns z2] 71)).alloc (.cells #[.slice none 0 0, .slice none 0 0, .slice none 0 0, .int .i64 0, .int .i64 0, .int .i64 0, .int .i64 0, .int .i64 0, .bool false, .bool false, .bool false, .bool false, .bool false, .int .i64 0, .int .i64 0, .bool false, .int .i64 0, .bool false, .int .i64 0, .int .i64 0, .slice none 0 0, .int .i64 0, .int .i64 0, .int .i64 0, .int .i64 0, .int .i64 0, .bool false, .slice none 0 0, .slice none 0 0, .int .i64 0, .slice none 0 0, .slice none 0 0, .int .i64 0, .int .i64 0, .int .i64 0, .int .i64 0, .int .i64 0, .bool false, .bool false, .int .i64 0, .slice none 0 0, .slice none 0 0] 46)).alloc (.cells #[.slice none 0 0, .slice none 0 0, .slice none 0 0, .int .i64 0, .int .i64 0, .int .i64 0, .int .i64 0, .int .i64 0, .bool false, .bool false, .bool false, .bool false, .bool false, .int .i64 0, .int .i64 0, .bool false, .int .i64 0, .bool false, .int .i64 0, .int .i64 0, .slice none 0 0, .int .i64 0, .int .i64 0, .int .i64 0, .int .i64 0, .int .i64 0, .bool false, .slice none 0 0, .slice none 0 0, .int .i64 0, .slice none 0 0, .slice none 0 0, .int .i64 0, .int .i64 0, .int .i64 0, .int .i64 0, .int .i64 0, .bool false, .bool false, .int .i64 0, .slice none 0 0, .slice none 0 0] 46)).heap[w.heap.size + 1]? = some (.cells #[.slice none 0 0, .slice none 0 0, .slice none 0 0, .int .i64 0, .int .i64 0, .int .i64 0, .int .i64 0, .int .i64 0, .bool false, .bool false, .bool false, .bool false, .bool false, .int .i64 0, .int .i64 0, .bool false, .int .i64 0, .bool false, .int .i64 0, .int .i64 0, .slice none 0 0, .int .i64 0, .int .i64 0, .int .i64 0, .int .i64 0, .int .i64 0, .bool false, .slice none 0 0, .slice none 0 0, .int .i64 0, .slice none 0 0, .slice none 0 0, .int .i64 0, .int .i64 0, .int .i64 0, .int .i64 0, .int .i64 0, .bool false, .bool false, .int .i64 0, .slice none 0 0, .slice none 0 0] 46 (0, 0)) := boxA (by simpa using box_new (w.alloc (.cells #[.slice a0 d.m c0, .slice a1 d.np c1, .slice a2 d.nr c2, .int .i64 d.bank, .int .i64 d.A, .int .i64 d.X, .int .i64 d.S, .int .i64 d.Pc, .bool d.Z, .bool d.N, .bool d.C, .bool d.I, .bool d.hd, .int .i64 d.sh, .int .i64 d.T, .bool d.nmi, .int .i64 d.ctrl, .bool d.kn, .int .i64 d.ka, .int .i64 d.st, .slice a3 d.nq c3, .int .i64 d.pc.t, .int .i64 d.pc.c, .int .i64 d.pc.s, .int .i64 d.pc.ad, .int .i64 d.pc.pl, .bool d.pc.bl, .slice b1 d.pc.nt y1, .slice b2 d.pc.nd y2, .int .i64 d.pc.cap, .slice b3 d.pc.n y3, .slice b4 d.pc.mf y4, .int .i64 d.sn.T, .int .i64 d.sn.P, .int .i64 d.sn.C, .int .i64 d.sn.B, .int .i64 d.sn.L, .bool d.sn.S, .bool d.sn.Q, .int .i64 d.sn.cap, .slice e1 d.sn.n z1, .slice e2 d.sn.ns z2] 71)) #[.slice none 0 0, .slice none 0 0, .slice none 0 0, .int .i64 0, .int .i64 0, .int .i64 0, .int .i64 0, .int .i64 0, .bool false, .bool false, .bool false, .bool false, .bool false, .int .i64 0, .int .i64 0, .bool false, .int .i64 0, .bool false, .int .i64 0, .int .i64 0, .slice none 0 0, .int .i64 0, .int .i64 0, .int .i64 0, .int .i64 0, .int .i64 0, .bool false, .slice none 0 0, .slice none 0 0, .int .i64 0, .slice none 0 0, .slice none 0 0, .int .i64 0, .int .i64 0, .int .i64 0, .int .i64 0, .int .i64 0, .bool false, .bool false, .int .i64 0, .slice none 0 0, .slice none 0 0] 46) (.cells #[.slice none 0 0, .slice none 0 0, .slice none 0 0, .int .i64 0, .int .i64 0, .int .i64 0, .int .i64 0, .int .i64 0, .bool false, .bool false, .bool false, .bool false, .bool false, .int .i64 0, .int .i64 0, .bool false, .int .i64 0, .bool false, .int .i64 0, .int .i64 0, .slice none 0 0, .int .i64 0, .int .i64 0, .int .i64 0, .int .i64 0, .int .i64 0, .bool false, .slice none 0 0, .slice none 0 0, .int .i64 0, .slice none 0 0, .slice none 0 0, .int .i64 0, .int .i64 0, .int .i64 0, .int .i64 0, .int .i64 0, .bool false, .bool false, .int .i64 0, .slice none 0 0, .slice none 0 0] 46)
  have B2 : (((w.alloc (.cells #[.slice a0 d.m c0, .slice a1 d.np c1, .slice a2 d.nr c2, .int .i64 d.bank, .int .i64 d.A, .int .i64 d.X, .int .i64 d.S, .int .i64 d.Pc, .bool d.Z, .bool d.N, .bool d.C, .bool d.I, .bool d.hd, .int .i64 d.sh, .int .i64 d.T, .bool d.nmi, .int .i64 d.ctrl, .bool d.kn, .int .i64 d.ka, .int .i64 d.st, .slice a3 d.nq c3, .int .i64 d.pc.t, .int .i64 d.pc.c, .int .i64 d.pc.s, .int .i64 d.pc.ad, .int .i64 d.pc.pl, .bool d.pc.bl, .slice b1 d.pc.nt y1, .slice b2 d.pc.nd y2, .int .i64 d.pc.cap, .slice b3 d.pc.n y3, .slice b4 d.pc.mf y4, .int .i64 d.sn.T, .int .i64 d.sn.P, .int .i64 d.sn.C, .int .i64 d.sn.B, .int .i64 d.sn.L, .bool d.sn.S, .bool d.sn.Q, .int .i64 d.sn.cap, .slice e1 d.sn.n z1, .slice e2 d.sn.ns z2] 71)).alloc (.cells #[.slice none 0 0, .slice none 0 0, .slice none 0 0, .int .i64 0, .int .i64 0, .int .i64 0, .int .i64 0, .int .i64 0, .bool false, .bool false, .bool false, .bool false, .bool false, .int .i64 0, .int .i64 0, .bool false, .int .i64 0, .bool false, .int .i64 0, .int .i64 0, .slice none 0 0, .int .i64 0, .int .i64 0, .int .i64 0, .int .i64 0, .int .i64 0, .bool false, .slice none 0 0, .slice none 0 0, .int .i64 0, .slice none 0 0, .slice none 0 0, .int .i64 0, .int .i64 0, .int .i64 0, .int .i64 0, .int .i64 0, .bool false, .bool false, .int .i64 0, .slice none 0 0, .slice none 0 0] 46)).alloc (.cells #[.slice none 0 0, .slice none 0 0, .slice none 0 0, .int .i64 0, .int .i64 0, .int .i64 0, .int .i64 0, .int .i64 0, .bool false, .bool false, .bool false, .bool false, .bool false, .int .i64 0, .int .i64 0, .bool false, .int .i64 0, .bool false, .int .i64 0, .int .i64 0, .slice none 0 0, .int .i64 0, .int .i64 0, .int .i64 0, .int .i64 0, .int .i64 0, .bool false, .slice none 0 0, .slice none 0 0, .int .i64 0, .slice none 0 0, .slice none 0 0, .int .i64 0, .int .i64 0, .int .i64 0, .int .i64 0, .int .i64 0, .bool false, .bool false, .int .i64 0, .slice none 0 0, .slice none 0 0] 46)).heap[w.heap.size + 1 + 1]? = some (.cells #[.slice none 0 0, .slice none 0 0, .slice none 0 0, .int .i64 0, .int .i64 0, .int .i64 0, .int .i64 0, .int .i64 0, .bool false, .bool false, .bool false, .bool false, .bool false, .int .i64 0, .int .i64 0, .bool false, .int .i64 0, .bool false, .int .i64 0, .int .i64 0, .slice none 0 0, .int .i64 0, .int .i64 0, .int .i64 0, .int .i64 0, .int .i64 0, .bool false, .slice none 0 0, .slice none 0 0, .int .i64 0, .slice none 0 0, .slice none 0 0, .int .i64 0, .int .i64 0, .int .i64 0, .int .i64 0, .int .i64 0, .bool false, .bool false, .int .i64 0, .slice none 0 0, .slice none 0 0] 46 (0, 0)) := by simpa using box_new ((w.alloc (.cells #[.slice a0 d.m c0, .slice a1 d.np c1, .slice a2 d.nr c2, .int .i64 d.bank, .int .i64 d.A, .int .i64 d.X, .int .i64 d.S, .int .i64 d.Pc, .bool d.Z, .bool d.N, .bool d.C, .bool d.I, .bool d.hd, .int .i64 d.sh, .int .i64 d.T, .bool d.nmi, .int .i64 d.ctrl, .bool d.kn, .int .i64 d.ka, .int .i64 d.st, .slice a3 d.nq c3, .int .i64 d.pc.t, .int .i64 d.pc.c, .int .i64 d.pc.s, .int .i64 d.pc.ad, .int .i64 d.pc.pl, .bool d.pc.bl, .slice b1 d.pc.nt y1, .slice b2 d.pc.nd y2, .int .i64 d.pc.cap, .slice b3 d.pc.n y3, .slice b4 d.pc.mf y4, .int .i64 d.sn.T, .int .i64 d.sn.P, .int .i64 d.sn.C, .int .i64 d.sn.B, .int .i64 d.sn.L, .bool d.sn.S, .bool d.sn.Q, .int .i64 d.sn.cap, .slice e1 d.sn.n z1, .slice e2 d.sn.ns z2] 71)).alloc (.cells #[.slice none 0 0, .slice none 0 0, .slice none 0 0, .int .i64 0, .int .i64 0, .int .i64 0, .int .i64 0, .int .i64 0, .bool false, .bool false, .bool false, .bool false, .bool false, .int .i64 0, .int .i64 0, .bool false, .int .i64 0, .bool false, .int .i64 0, .int .i64 0, .slice none 0 0, .int .i64 0, .int .i64 0, .int .i64 0, .int .i64 0, .int .i64 0, .bool false, .slice none 0 0, .slice none 0 0, .int .i64 0, .slice none 0 0, .slice none 0 0, .int .i64 0, .int .i64 0, .int .i64 0, .int .i64 0, .int .i64 0, .bool false, .bool false, .int .i64 0, .slice none 0 0, .slice none 0 0] 46)) #[.slice none 0 0, .slice none 0 0, .slice none 0 0, .int .i64 0, .int .i64 0, .int .i64 0, .int .i64 0, .int .i64 0, .bool false, .bool false, .bool false, .bool false, .bool false, .int .i64 0, .int .i64 0, .bool false, .int .i64 0, .bool false, .int .i64 0, .int .i64 0, .slice none 0 0, .int .i64 0, .int .i64 0, .int .i64 0, .int .i64 0, .int .i64 0, .bool false, .slice none 0 0, .slice none 0 0, .int .i64 0, .slice none 0 0, .slice none 0 0, .int .i64 0, .int .i64 0, .int .i64 0, .int .i64 0, .int .i64 0, .bool false, .bool false, .int .i64 0, .slice none 0 0, .slice none 0 0] 46
  go_enter Tryz.func19, Tryz.ntmps19
  go_wp2_with fail
  generalize ((w.alloc (.cells #[.slice a0 d.m c0, .slice a1 d.np c1, .slice a2 d.nr c2, .int .i64 d.bank, .int .i64 d.A, .int .i64 d.X, .int .i64 d.S, .int .i64 d.Pc, .bool d.Z, .bool d.N, .bool d.C, .bool d.I, .bool d.hd, .int .i64 d.sh, .int .i64 d.T, .bool d.nmi, .int .i64 d.ctrl, .bool d.kn, .int .i64 d.ka, .int .i64 d.st, .slice a3 d.nq c3, .int .i64 d.pc.t, .int .i64 d.pc.c, .int .i64 d.pc.s, .int .i64 d.pc.ad, .int .i64 d.pc.pl, .bool d.pc.bl, .slice b1 d.pc.nt y1, .slice b2 d.pc.nd y2, .int .i64 d.pc.cap, .slice b3 d.pc.n y3, .slice b4 d.pc.mf y4, .int .i64 d.sn.T, .int .i64 d.sn.P, .int .i64 d.sn.C, .int .i64 d.sn.B, .int .i64 d.sn.L, .bool d.sn.S, .bool d.sn.Q, .int .i64 d.sn.cap, .slice e1 d.sn.n z1, .slice e2 d.sn.ns z2] 71)).alloc (.cells #[.slice none 0 0, .slice none 0 0, .slice none 0 0, .int .i64 0, .int .i64 0, .int .i64 0, .int .i64 0, .int .i64 0, .bool false, .bool false, .bool false, .bool false, .bool false, .int .i64 0, .int .i64 0, .bool false, .int .i64 0, .bool false, .int .i64 0, .int .i64 0, .slice none 0 0, .int .i64 0, .int .i64 0, .int .i64 0, .int .i64 0, .int .i64 0, .bool false, .slice none 0 0, .slice none 0 0, .int .i64 0, .slice none 0 0, .slice none 0 0, .int .i64 0, .int .i64 0, .int .i64 0, .int .i64 0, .int .i64 0, .bool false, .bool false, .int .i64 0, .slice none 0 0, .slice none 0 0] 46)).alloc (.cells #[.slice none 0 0, .slice none 0 0, .slice none 0 0, .int .i64 0, .int .i64 0, .int .i64 0, .int .i64 0, .int .i64 0, .bool false, .bool false, .bool false, .bool false, .bool false, .int .i64 0, .int .i64 0, .bool false, .int .i64 0, .bool false, .int .i64 0, .int .i64 0, .slice none 0 0, .int .i64 0, .int .i64 0, .int .i64 0, .int .i64 0, .int .i64 0, .bool false, .slice none 0 0, .slice none 0 0, .int .i64 0, .slice none 0 0, .slice none 0 0, .int .i64 0, .int .i64 0, .int .i64 0, .int .i64 0, .int .i64 0, .bool false, .bool false, .int .i64 0, .slice none 0 0, .slice none 0 0] 46) = W0 at *
  obtain ⟨p0, hp0⟩ : ∃ p, Hid (p = W0.heap.size) := ⟨_, rfl⟩
  have l0 : w.heap.size + 1 + 1 < p0 := by rw [hp0.out]; exact boxLt B2
  refine (onToImg _ F0 _ d.m d.ln d.f (H0.keep (wrote_below L0 Nowhere) (fun _ _ _ x => x)) hm).mono ?_
  rintro e W1 ⟨v0, rfl, g0, L⟩
  obtain ⟨p1, hp1⟩ : ∃ p, Hid (p = W1.heap.size) := ⟨_, rfl⟩
  have l1 : p0 ≤ p1 := by rw [hp0.out, hp1.out]; exact L.size
  rw [← hp0.out, ← hp1.out] at g0
  replace L0 := below_snoc L0 L
  replace B0 := box_keep B0 L (boxLt B0)
  replace B1 := box_keep B1 L (boxLt B1)
  replace B2 := box_keep B2 L (boxLt B2)
  clear L hp0
  obtain ⟨x0, w0, rfl⟩ := g0.form
  have c0 := boxC B0
  have c2 := boxC B2
  have f2 := boxF B2
  go_wp2_with fail
  clear c0 c2 f2
  have TT := Wrote.setCell (b := w.heap.size + 1 + 1) (o := 0) (R := fun b _ => b = w.heap.size + 1 + 1) (Wrote.refl _ W1) (fun _ => rfl) (.slice x0 d.m w0)
  replace L0 := L0.trans (TT.below L0.size (fun b o hb (h : b = _) => by omega))
  replace B0 := box_wrote B0 TT (fun o (h : _ = _) => by omega)
  replace B1 := box_wrote B1 TT (fun o (h : _ = _) => by omega)
  replace B2 := box_set (o := 0) B2 (.slice x0 d.m w0)
  simp only [List.setIfInBounds_toArray, List.set_cons_succ, List.set_cons_zero] at B2
  replace g0 := g0.keep TT (fun b o hb _ (h : b = _) => by obtain ⟨h1, h2⟩ := hb; omega)
  replace hp1 : Hid (p1 = (W1.setCell ⟨w.heap.size + 1 + 1, 0, none⟩ (.slice x0 d.m w0)).heap.size) := by show _ = _; rw [hp1.out]; simp
  clear TT
  generalize W1.setCell ⟨w.heap.size + 1 + 1, 0, none⟩ (.slice x0 d.m w0) = W2 at *
  refine (onToList _ F1 _ d.np d.p (H1.keep (wrote_below L0 Nowhere) (fun _ _ _ x => x))).mono ?_
  rintro e W3 ⟨v1, rfl, g1, L⟩
  obtain ⟨p2, hp2⟩ : ∃ p, Hid (p = W3.heap.size) := ⟨_, rfl⟩
  have l2 : p1 ≤ p2 := by rw [hp1.out, hp2.out]; exact L.size
  rw [← hp1.out, ← hp2.out] at g1
  replace L0 := below_snoc L0 L
  replace B0 := box_keep B0 L (boxLt B0)
  replace B1 := box_keep B1 L (boxLt B1)
  replace B2 := box_keep B2 L (boxLt B2)
  replace g0 := g0.below L
  clear L hp1
  obtain ⟨x1, w1, rfl⟩ := g1.two
  have c0 := boxC B0
  have c2 := boxC B2
  have f2 := boxF B2
  go_wp2_with fail
  clear c0 c2 f2
  have TT := Wrote.setCell (b := w.heap.size + 1 + 1) (o := 1) (R := fun b _ => b = w.heap.size + 1 + 1) (Wrote.refl _ W3) (fun _ => rfl) (.slice x1 d.np w1)
  replace L0 := L0.trans (TT.below L0.size (fun b o hb (h : b = _) => by omega))
  replace B0 := box_wrote B0 TT (fun o (h : _ = _) => by omega)
  replace B1 := box_wrote B1 TT (fun o (h : _ = _) => by omega)
  replace B2 := box_set (o := 1) B2 (.slice x1 d.np w1)
  simp only [List.setIfInBounds_toArray, List.set_cons_succ, List.set_cons_zero] at B2
  replace g0 := g0.keep TT (fun b o hb _ (h : b = _) => by obtain ⟨h1, h2⟩ := hb; omega)
  replace g1 := g1.keep TT (fun b o hb _ (h : b = _) => by obtain ⟨h1, h2⟩ := hb; omega)
  replace hp2 : Hid (p2 = (W3.setCell ⟨w.heap.size + 1 + 1, 1, none⟩ (.slice x1 d.np w1)).heap.size) := by show _ = _; rw [hp2.out]; simp
  clear TT
  generalize W3.setCell ⟨w.heap.size + 1 + 1, 1, none⟩ (.slice x1 d.np w1) = W4 at *
  refine (onToMem _ F2 _ d.nr d.g d.bank (H2.keep (wrote_below L0 Nowhere) (fun _ _ _ x => x)) hn2).mono ?_
  rintro e W5 ⟨v2, rfl, g2, L⟩
  obtain ⟨p3, hp3⟩ : ∃ p, Hid (p = W5.heap.size) := ⟨_, rfl⟩
  have l3 : p2 ≤ p3 := by rw [hp2.out, hp3.out]; exact L.size
  replace g2 := g2.mono (E := fun b => p2 ≤ b ∧ b < p3) (fun b hb h => ⟨by rw [hp2.out]; exact h, by rw [hp3.out]; exact hb⟩)
  replace L0 := below_snoc L0 L
  replace B0 := box_keep B0 L (boxLt B0)
  replace B1 := box_keep B1 L (boxLt B1)
  replace B2 := box_keep B2 L (boxLt B2)
  replace g0 := g0.below L
  replace g1 := g1.below L
  clear L hp2
  obtain ⟨x2, w2, rfl⟩ := g2.two
  have c0 := boxC B0
  have c2 := boxC B2
  have f2 := boxF B2
  go_wp2_with fail
  clear c0 c2 f2
  have TT := Wrote.setCell (b := w.heap.size + 1 + 1) (o := 3) (R := fun b _ => b = w.heap.size + 1 + 1) (Wrote.setCell (b := w.heap.size + 1 + 1) (o := 2) (R := fun b _ => b = w.heap.size + 1 + 1) (Wrote.refl _ W5) (fun _ => rfl) (.slice x2 d.nr w2)) (fun _ => rfl) (.int .i64 d.bank)
  replace L0 := L0.trans (TT.below L0.size (fun b o hb (h : b = _) => by omega))
  replace B0 := box_wrote B0 TT (fun o (h : _ = _) => by omega)
  replace B1 := box_wrote B1 TT (fun o (h : _ = _) => by omega)
  replace B2 := box_set (o := 2) B2 (.slice x2 d.nr w2)
  replace B2 := box_set (o := 3) B2 (.int .i64 d.bank)
  simp only [List.setIfInBounds_toArray, List.set_cons_succ, List.set_cons_zero] at B2
  replace g0 := g0.keep TT (fun b o hb _ (h : b = _) => by obtain ⟨h1, h2⟩ := hb; omega)
  replace g1 := g1.keep TT (fun b o hb _ (h : b = _) => by obtain ⟨h1, h2⟩ := hb; omega)
  replace g2 := g2.keep TT (fun b o hb _ (h : b = _) => by obtain ⟨h1, h2⟩ := hb; omega)
  replace hp3 : Hid (p3 = ((W5.setCell ⟨w.heap.size + 1 + 1, 2, none⟩ (.slice x2 d.nr w2)).setCell ⟨w.heap.size + 1 + 1, 3, none⟩ (.int .i64 d.bank)).heap.size) := by show _ = _; rw [hp3.out]; simp
  clear TT
  generalize (W5.setCell ⟨w.heap.size + 1 + 1, 2, none⟩ (.slice x2 d.nr w2)).setCell ⟨w.heap.size + 1 + 1, 3, none⟩ (.int .i64 d.bank) = W6 at *
  refine (toCpu _ d.A d.X d.S d.Pc d.Z d.N d.C d.I).mono ?_
  rintro e W7 ⟨rfl, L⟩
  obtain ⟨p4, hp4⟩ : ∃ p, Hid (p = W7.heap.size) := ⟨_, rfl⟩
  have l4 : p3 ≤ p4 := by rw [hp3.out, hp4.out]; exact L.size
  replace L0 := below_snoc L0 L
  replace B0 := box_keep B0 L (boxLt B0)
  replace B1 := box_keep B1 L (boxLt B1)
  replace B2 := box_keep B2 L (boxLt B2)
  replace g0 := g0.below L
  replace g1 := g1.below L
  replace g2 := g2.below L
  clear L hp3
  have c0 := boxC B0
  have c2 := boxC B2
  have f2 := boxF B2
  go_wp2_with fail
  clear c0 c2 f2
  have TT := Wrote.setCell (b := w.heap.size + 1 + 1) (o := 11) (R := fun b _ => b = w.heap.size + 1 + 1) (Wrote.setCell (b := w.heap.size + 1 + 1) (o := 10) (R := fun b _ => b = w.heap.size + 1 + 1) (Wrote.setCell (b := w.heap.size + 1 + 1) (o := 9) (R := fun b _ => b = w.heap.size + 1 + 1) (Wrote.setCell (b := w.heap.size + 1 + 1) (o := 8) (R := fun b _ => b = w.heap.size + 1 + 1) (Wrote.setCell (b := w.heap.size + 1 + 1) (o := 7) (R := fun b _ => b = w.heap.size + 1 + 1) (Wrote.setCell (b := w.heap.size + 1 + 1) (o := 6) (R := fun b _ => b = w.heap.size + 1 + 1) (Wrote.setCell (b := w.heap.size + 1 + 1) (o := 5) (R := fun b _ => b = w.heap.size + 1 + 1) (Wrote.setCell (b := w.heap.size + 1 + 1) (o := 4) (R := fun b _ => b = w.heap.size + 1 + 1) (Wrote.refl _ W7) (fun _ => rfl) (.int .i64 d.A)) (fun _ => rfl) (.int .i64 d.X)) (fun _ => rfl) (.int .i64 d.S)) (fun _ => rfl) (.int .i64 d.Pc)) (fun _ => rfl) (.bool d.Z)) (fun _ => rfl) (.bool d.N)) (fun _ => rfl) (.bool d.C)) (fun _ => rfl) (.bool d.I)
  replace L0 := L0.trans (TT.below L0.size (fun b o hb (h : b = _) => by omega))
  replace B0 := box_wrote B0 TT (fun o (h : _ = _) => by omega)
  replace B1 := box_wrote B1 TT (fun o (h : _ = _) => by omega)
  replace B2 := box_set (o := 4) B2 (.int .i64 d.A)
  replace B2 := box_set (o := 5) B2 (.int .i64 d.X)
  replace B2 := box_set (o := 6) B2 (.int .i64 d.S)
  replace B2 := box_set (o := 7) B2 (.int .i64 d.Pc)
  replace B2 := box_set (o := 8) B2 (.bool d.Z)
  replace B2 := box_set (o := 9) B2 (.bool d.N)
  replace B2 := box_set (o := 10) B2 (.bool d.C)
  replace B2 := box_set (o := 11) B2 (.bool d.I)
  simp only [List.setIfInBounds_toArray, List.set_cons_succ, List.set_cons_zero] at B2
  replace g0 := g0.keep TT (fun b o hb _ (h : b = _) => by obtain ⟨h1, h2⟩ := hb; omega)
  replace g1 := g1.keep TT (fun b o hb _ (h : b = _) => by obtain ⟨h1, h2⟩ := hb; omega)
  replace g2 := g2.keep TT (fun b o hb _ (h : b = _) => by obtain ⟨h1, h2⟩ := hb; omega)
  replace hp4 : Hid (p4 = ((((((((W7.setCell ⟨w.heap.size + 1 + 1, 4, none⟩ (.int .i64 d.A)).setCell ⟨w.heap.size + 1 + 1, 5, none⟩ (.int .i64 d.X)).setCell ⟨w.heap.size + 1 + 1, 6, none⟩ (.int .i64 d.S)).setCell ⟨w.heap.size + 1 + 1, 7, none⟩ (.int .i64 d.Pc)).setCell ⟨w.heap.size + 1 + 1, 8, none⟩ (.bool d.Z)).setCell ⟨w.heap.size + 1 + 1, 9, none⟩ (.bool d.N)).setCell ⟨w.heap.size + 1 + 1, 10, none⟩ (.bool d.C)).setCell ⟨w.heap.size + 1 + 1, 11, none⟩ (.bool d.I)).heap.size) := by show _ = _; rw [hp4.out]; simp
  clear TT
  generalize (((((((W7.setCell ⟨w.heap.size + 1 + 1, 4, none⟩ (.int .i64 d.A)).setCell ⟨w.heap.size + 1 + 1, 5, none⟩ (.int .i64 d.X)).setCell ⟨w.heap.size + 1 + 1, 6, none⟩ (.int .i64 d.S)).setCell ⟨w.heap.size + 1 + 1, 7, none⟩ (.int .i64 d.Pc)).setCell ⟨w.heap.size + 1 + 1, 8, none⟩ (.bool d.Z)).setCell ⟨w.heap.size + 1 + 1, 9, none⟩ (.bool d.N)).setCell ⟨w.heap.size + 1 + 1, 10, none⟩ (.bool d.C)).setCell ⟨w.heap.size + 1 + 1, 11, none⟩ (.bool d.I) = W8 at *
  refine (toPad _ d.hd d.sh).mono ?_
  rintro e W9 ⟨rfl, L⟩
  obtain ⟨p5, hp5⟩ : ∃ p, Hid (p = W9.heap.size) := ⟨_, rfl⟩
  have l5 : p4 ≤ p5 := by rw [hp4.out, hp5.out]; exact L.size
  replace L0 := below_snoc L0 L
  replace B0 := box_keep B0 L (boxLt B0)
  replace B1 := box_keep B1 L (boxLt B1)
  replace B2 := box_keep B2 L (boxLt B2)
  replace g0 := g0.below L
  replace g1 := g1.below L
  replace g2 := g2.below L
  clear L hp4
  have c0 := boxC B0
  have c2 := boxC B2
  have f2 := boxF B2
  go_wp2_with fail
  clear c0 c2 f2
  have TT := Wrote.setCell (b := w.heap.size + 1 + 1) (o := 19) (R := fun b _ => b = w.heap.size + 1 + 1) (Wrote.setCell (b := w.heap.size + 1 + 1) (o := 18) (R := fun b _ => b = w.heap.size + 1 + 1) (Wrote.setCell (b := w.heap.size + 1 + 1) (o := 17) (R := fun b _ => b = w.heap.size + 1 + 1) (Wrote.setCell (b := w.heap.size + 1 + 1) (o := 16) (R := fun b _ => b = w.heap.size + 1 + 1) (Wrote.setCell (b := w.heap.size + 1 + 1) (o := 15) (R := fun b _ => b = w.heap.size + 1 + 1) (Wrote.setCell (b := w.heap.size + 1 + 1) (o := 14) (R := fun b _ => b = w.heap.size + 1 + 1) (Wrote.setCell (b := w.heap.size + 1 + 1) (o := 13) (R := fun b _ => b = w.heap.size + 1 + 1) (Wrote.setCell (b := w.heap.size + 1 + 1) (o := 12) (R := fun b _ => b = w.heap.size + 1 + 1) (Wrote.refl _ W9) (fun _ => rfl) (.bool d.hd)) (fun _ => rfl) (.int .i64 d.sh)) (fun _ => rfl) (.int .i64 d.T)) (fun _ => rfl) (.bool d.nmi)) (fun _ => rfl) (.int .i64 d.ctrl)) (fun _ => rfl) (.bool d.kn)) (fun _ => rfl) (.int .i64 d.ka)) (fun _ => rfl) (.int .i64 d.st)
  replace L0 := L0.trans (TT.below L0.size (fun b o hb (h : b = _) => by omega))
  replace B0 := box_wrote B0 TT (fun o (h : _ = _) => by omega)
  replace B1 := box_wrote B1 TT (fun o (h : _ = _) => by omega)
  replace B2 := box_set (o := 12) B2 (.bool d.hd)
  replace B2 := box_set (o := 13) B2 (.int .i64 d.sh)
  replace B2 := box_set (o := 14) B2 (.int .i64 d.T)
  replace B2 := box_set (o := 15) B2 (.bool d.nmi)
  replace B2 := box_set (o := 16) B2 (.int .i64 d.ctrl)
  replace B2 := box_set (o := 17) B2 (.bool d.kn)
  replace B2 := box_set (o := 18) B2 (.int .i64 d.ka)
  replace B2 := box_set (o := 19) B2 (.int .i64 d.st)
  simp only [List.setIfInBounds_toArray, List.set_cons_succ, List.set_cons_zero] at B2
  replace g0 := g0.keep TT (fun b o hb _ (h : b = _) => by obtain ⟨h1, h2⟩ := hb; omega)
  replace g1 := g1.keep TT (fun b o hb _ (h : b = _) => by obtain ⟨h1, h2⟩ := hb; omega)
  replace g2 := g2.keep TT (fun b o hb _ (h : b = _) => by obtain ⟨h1, h2⟩ := hb; omega)
  replace hp5 : Hid (p5 = ((((((((W9.setCell ⟨w.heap.size + 1 + 1, 12, none⟩ (.bool d.hd)).setCell ⟨w.heap.size + 1 + 1, 13, none⟩ (.int .i64 d.sh)).setCell ⟨w.heap.size + 1 + 1, 14, none⟩ (.int .i64 d.T)).setCell ⟨w.heap.size + 1 + 1, 15, none⟩ (.bool d.nmi)).setCell ⟨w.heap.size + 1 + 1, 16, none⟩ (.int .i64 d.ctrl)).setCell ⟨w.heap.size + 1 + 1, 17, none⟩ (.bool d.kn)).setCell ⟨w.heap.size + 1 + 1, 18, none⟩ (.int .i64 d.ka)).setCell ⟨w.heap.size + 1 + 1, 19, none⟩ (.int .i64 d.st)).heap.size) := by show _ = _; rw [hp5.out]; simp
  clear TT
  generalize (((((((W9.setCell ⟨w.heap.size + 1 + 1, 12, none⟩ (.bool d.hd)).setCell ⟨w.heap.size + 1 + 1, 13, none⟩ (.int .i64 d.sh)).setCell ⟨w.heap.size + 1 + 1, 14, none⟩ (.int .i64 d.T)).setCell ⟨w.heap.size + 1 + 1, 15, none⟩ (.bool d.nmi)).setCell ⟨w.heap.size + 1 + 1, 16, none⟩ (.int .i64 d.ctrl)).setCell ⟨w.heap.size + 1 + 1, 17, none⟩ (.bool d.kn)).setCell ⟨w.heap.size + 1 + 1, 18, none⟩ (.int .i64 d.ka)).setCell ⟨w.heap.size + 1 + 1, 19, none⟩ (.int .i64 d.st) = W10 at *
  refine (onToList _ F3 _ d.nq d.rd (H3.keep (wrote_below L0 Nowhere) (fun _ _ _ x => x))).mono ?_
  rintro e W11 ⟨v3, rfl, g3, L⟩
  obtain ⟨p6, hp6⟩ : ∃ p, Hid (p = W11.heap.size) := ⟨_, rfl⟩
  have l6 : p5 ≤ p6 := by rw [hp5.out, hp6.out]; exact L.size
  rw [← hp5.out, ← hp6.out] at g3
  replace L0 := below_snoc L0 L
  replace B0 := box_keep B0 L (boxLt B0)
  replace B1 := box_keep B1 L (boxLt B1)
  replace B2 := box_keep B2 L (boxLt B2)
  replace g0 := g0.below L
  replace g1 := g1.below L
  replace g2 := g2.below L
  clear L hp5
  obtain ⟨x3, w3, rfl⟩ := g3.two
  have c0 := boxC B0
  have c2 := boxC B2
  have f2 := boxF B2
  go_wp2_with fail
  clear c0 c2 f2
  have TT := Wrote.setCell (b := w.heap.size + 1 + 1) (o := 20) (R := fun b _ => b = w.heap.size + 1 + 1) (Wrote.refl _ W11) (fun _ => rfl) (.slice x3 d.nq w3)
  replace L0 := L0.trans (TT.below L0.size (fun b o hb (h : b = _) => by omega))
  replace B0 := box_wrote B0 TT (fun o (h : _ = _) => by omega)
  replace B1 := box_wrote B1 TT (fun o (h : _ = _) => by omega)
  replace B2 := box_set (o := 20) B2 (.slice x3 d.nq w3)
  simp only [List.setIfInBounds_toArray, List.set_cons_succ, List.set_cons_zero] at B2
  replace g0 := g0.keep TT (fun b o hb _ (h : b = _) => by obtain ⟨h1, h2⟩ := hb; omega)
  replace g1 := g1.keep TT (fun b o hb _ (h : b = _) => by obtain ⟨h1, h2⟩ := hb; omega)
  replace g2 := g2.keep TT (fun b o hb _ (h : b = _) => by obtain ⟨h1, h2⟩ := hb; omega)
  replace g3 := g3.keep TT (fun b o hb _ (h : b = _) => by obtain ⟨h1, h2⟩ := hb; omega)
  replace hp6 : Hid (p6 = (W11.setCell ⟨w.heap.size + 1 + 1, 20, none⟩ (.slice x3 d.nq w3)).heap.size) := by show _ = _; rw [hp6.out]; simp
  clear TT
  generalize W11.setCell ⟨w.heap.size + 1 + 1, 20, none⟩ (.slice x3 d.nq w3) = W12 at *
  refine (onToPicture _ d.pc b1 y1 b2 y2 b3 y3 b4 y4 F4 F5 F7 (H4.keep (wrote_below L0 Nowhere) (fun _ _ _ x => x)) (H5.keep (wrote_below L0 Nowhere) (fun _ _ _ x => x)) hn (H6.keep (wrote_below L0 Nowhere) (fun _ _ _ x => x)) (H7.keep (wrote_below L0 Nowhere) (fun _ _ _ x => x)) hf).mono ?_
  rintro e W13 ⟨DP, vP, rfl, g4, dP, bP, L⟩
  obtain ⟨p7, hp7⟩ : ∃ p, Hid (p = W13.heap.size) := ⟨_, rfl⟩
  have l7 : p6 ≤ p7 := by rw [hp6.out, hp7.out]; exact L.size
  rw [← hp6.out, ← hp7.out] at bP
  replace L0 := below_snoc L0 L
  replace B0 := box_keep B0 L (boxLt B0)
  replace B1 := box_keep B1 L (boxLt B1)
  replace B2 := box_keep B2 L (boxLt B2)
  replace g0 := g0.below L
  replace g1 := g1.below L
  replace g2 := g2.below L
  replace g3 := g3.below L
  clear L hp6
  obtain ⟨i1, j1, i2, j2, i3, j3, i4, j4, rfl⟩ := g4.form
  have c0 := boxC B0
  have c2 := boxC B2
  have f2 := boxF B2
  go_wp2_with fail
  clear c0 c2 f2
  have TT := Wrote.setCell (b := w.heap.size + 1 + 1) (o := 31) (R := fun b _ => b = w.heap.size + 1 + 1) (Wrote.setCell (b := w.heap.size + 1 + 1) (o := 30) (R := fun b _ => b = w.heap.size + 1 + 1) (Wrote.setCell (b := w.heap.size + 1 + 1) (o := 29) (R := fun b _ => b = w.heap.size + 1 + 1) (Wrote.setCell (b := w.heap.size + 1 + 1) (o := 28) (R := fun b _ => b = w.heap.size + 1 + 1) (Wrote.setCell (b := w.heap.size + 1 + 1) (o := 27) (R := fun b _ => b = w.heap.size + 1 + 1) (Wrote.setCell (b := w.heap.size + 1 + 1) (o := 26) (R := fun b _ => b = w.heap.size + 1 + 1) (Wrote.setCell (b := w.heap.size + 1 + 1) (o := 25) (R := fun b _ => b = w.heap.size + 1 + 1) (Wrote.setCell (b := w.heap.size + 1 + 1) (o := 24) (R := fun b _ => b = w.heap.size + 1 + 1) (Wrote.setCell (b := w.heap.size + 1 + 1) (o := 23) (R := fun b _ => b = w.heap.size + 1 + 1) (Wrote.setCell (b := w.heap.size + 1 + 1) (o := 22) (R := fun b _ => b = w.heap.size + 1 + 1) (Wrote.setCell (b := w.heap.size + 1 + 1) (o := 21) (R := fun b _ => b = w.heap.size + 1 + 1) (Wrote.refl _ W13) (fun _ => rfl) (.int .i64 d.pc.t)) (fun _ => rfl) (.int .i64 d.pc.c)) (fun _ => rfl) (.int .i64 d.pc.s)) (fun _ => rfl) (.int .i64 d.pc.ad)) (fun _ => rfl) (.int .i64 d.pc.pl)) (fun _ => rfl) (.bool d.pc.bl)) (fun _ => rfl) (.slice i1 d.pc.nt j1)) (fun _ => rfl) (.slice i2 d.pc.nd j2)) (fun _ => rfl) (.int .i64 d.pc.cap)) (fun _ => rfl) (.slice i3 d.pc.n j3)) (fun _ => rfl) (.slice i4 d.pc.mf j4)
  replace L0 := L0.trans (TT.below L0.size (fun b o hb (h : b = _) => by omega))
  replace B0 := box_wrote B0 TT (fun o (h : _ = _) => by omega)
  replace B1 := box_wrote B1 TT (fun o (h : _ = _) => by omega)
  replace B2 := box_set (o := 21) B2 (.int .i64 d.pc.t)
  replace B2 := box_set (o := 22) B2 (.int .i64 d.pc.c)
  replace B2 := box_set (o := 23) B2 (.int .i64 d.pc.s)
  replace B2 := box_set (o := 24) B2 (.int .i64 d.pc.ad)
  replace B2 := box_set (o := 25) B2 (.int .i64 d.pc.pl)
  replace B2 := box_set (o := 26) B2 (.bool d.pc.bl)
  replace B2 := box_set (o := 27) B2 (.slice i1 d.pc.nt j1)
  replace B2 := box_set (o := 28) B2 (.slice i2 d.pc.nd j2)
  replace B2 := box_set (o := 29) B2 (.int .i64 d.pc.cap)
  replace B2 := box_set (o := 30) B2 (.slice i3 d.pc.n j3)
  replace B2 := box_set (o := 31) B2 (.slice i4 d.pc.mf j4)
  simp only [List.setIfInBounds_toArray, List.set_cons_succ, List.set_cons_zero] at B2
  replace g0 := g0.keep TT (fun b o hb _ (h : b = _) => by obtain ⟨h1, h2⟩ := hb; omega)
  replace g1 := g1.keep TT (fun b o hb _ (h : b = _) => by obtain ⟨h1, h2⟩ := hb; omega)
  replace g2 := g2.keep TT (fun b o hb _ (h : b = _) => by obtain ⟨h1, h2⟩ := hb; omega)
  replace g3 := g3.keep TT (fun b o hb _ (h : b = _) => by obtain ⟨h1, h2⟩ := hb; omega)
  replace g4 := g4.keep TT (fun i b o hb _ (h : b = _) => by have := bP _ _ hb; omega)
  replace hp7 : Hid (p7 = (((((((((((W13.setCell ⟨w.heap.size + 1 + 1, 21, none⟩ (.int .i64 d.pc.t)).setCell ⟨w.heap.size + 1 + 1, 22, none⟩ (.int .i64 d.pc.c)).setCell ⟨w.heap.size + 1 + 1, 23, none⟩ (.int .i64 d.pc.s)).setCell ⟨w.heap.size + 1 + 1, 24, none⟩ (.int .i64 d.pc.ad)).setCell ⟨w.heap.size + 1 + 1, 25, none⟩ (.int .i64 d.pc.pl)).setCell ⟨w.heap.size + 1 + 1, 26, none⟩ (.bool d.pc.bl)).setCell ⟨w.heap.size + 1 + 1, 27, none⟩ (.slice i1 d.pc.nt j1)).setCell ⟨w.heap.size + 1 + 1, 28, none⟩ (.slice i2 d.pc.nd j2)).setCell ⟨w.heap.size + 1 + 1, 29, none⟩ (.int .i64 d.pc.cap)).setCell ⟨w.heap.size + 1 + 1, 30, none⟩ (.slice i3 d.pc.n j3)).setCell ⟨w.heap.size + 1 + 1, 31, none⟩ (.slice i4 d.pc.mf j4)).heap.size) := by show _ = _; rw [hp7.out]; simp
  clear TT
  generalize ((((((((((W13.setCell ⟨w.heap.size + 1 + 1, 21, none⟩ (.int .i64 d.pc.t)).setCell ⟨w.heap.size + 1 + 1, 22, none⟩ (.int .i64 d.pc.c)).setCell ⟨w.heap.size + 1 + 1, 23, none⟩ (.int .i64 d.pc.s)).setCell ⟨w.heap.size + 1 + 1, 24, none⟩ (.int .i64 d.pc.ad)).setCell ⟨w.heap.size + 1 + 1, 25, none⟩ (.int .i64 d.pc.pl)).setCell ⟨w.heap.size + 1 + 1, 26, none⟩ (.bool d.pc.bl)).setCell ⟨w.heap.size + 1 + 1, 27, none⟩ (.slice i1 d.pc.nt j1)).setCell ⟨w.heap.size + 1 + 1, 28, none⟩ (.slice i2 d.pc.nd j2)).setCell ⟨w.heap.size + 1 + 1, 29, none⟩ (.int .i64 d.pc.cap)).setCell ⟨w.heap.size + 1 + 1, 30, none⟩ (.slice i3 d.pc.n j3)).setCell ⟨w.heap.size + 1 + 1, 31, none⟩ (.slice i4 d.pc.mf j4) = W14 at *
  refine (onToSound _ d.sn e1 z1 e2 z2 hn1 hn3 (H8.keep (wrote_below L0 Nowhere) (fun _ _ _ x => x)) (H9.keep (wrote_below L0 Nowhere) (fun _ _ _ x => x))).mono ?_
  rintro e W15 ⟨DS, vS, rfl, g5, dS, bS, L⟩
  obtain ⟨p8, hp8⟩ : ∃ p, Hid (p = W15.heap.size) := ⟨_, rfl⟩
  have l8 : p7 ≤ p8 := by rw [hp7.out, hp8.out]; exact L.size
  rw [← hp7.out, ← hp8.out] at bS
  replace L0 := below_snoc L0 L
  replace B0 := box_keep B0 L (boxLt B0)
  replace B1 := box_keep B1 L (boxLt B1)
  replace B2 := box_keep B2 L (boxLt B2)
  replace g0 := g0.below L
  replace g1 := g1.below L
  replace g2 := g2.below L
  replace g3 := g3.below L
  replace g4 := g4.below L
  clear L hp7
  obtain ⟨i5, j5, i6, j6, rfl⟩ := g5.form
  have c0 := boxC B0
  have c2 := boxC B2
  have f2 := boxF B2
  go_upto_region 16 with (fail)
  clear c0 c2 f2
  have TT := Wrote.setCell (b := w.heap.size + 1 + 1) (o := 41) (R := fun b _ => b = w.heap.size + 1 + 1) (Wrote.setCell (b := w.heap.size + 1 + 1) (o := 40) (R := fun b _ => b = w.heap.size + 1 + 1) (Wrote.setCell (b := w.heap.size + 1 + 1) (o := 39) (R := fun b _ => b = w.heap.size + 1 + 1) (Wrote.setCell (b := w.heap.size + 1 + 1) (o := 38) (R := fun b _ => b = w.heap.size + 1 + 1) (Wrote.setCell (b := w.heap.size + 1 + 1) (o := 37) (R := fun b _ => b = w.heap.size + 1 + 1) (Wrote.setCell (b := w.heap.size + 1 + 1) (o := 36) (R := fun b _ => b = w.heap.size + 1 + 1) (Wrote.setCell (b := w.heap.size + 1 + 1) (o := 35) (R := fun b _ => b = w.heap.size + 1 + 1) (Wrote.setCell (b := w.heap.size + 1 + 1) (o := 34) (R := fun b _ => b = w.heap.size + 1 + 1) (Wrote.setCell (b := w.heap.size + 1 + 1) (o := 33) (R := fun b _ => b = w.heap.size + 1 + 1) (Wrote.setCell (b := w.heap.size + 1 + 1) (o := 32) (R := fun b _ => b = w.heap.size + 1 + 1) (Wrote.refl _ W15) (fun _ => rfl) (.int .i64 d.sn.T)) (fun _ => rfl) (.int .i64 d.sn.P)) (fun _ => rfl) (.int .i64 d.sn.C)) (fun _ => rfl) (.int .i64 d.sn.B)) (fun _ => rfl) (.int .i64 d.sn.L)) (fun _ => rfl) (.bool d.sn.S)) (fun _ => rfl) (.bool d.sn.Q)) (fun _ => rfl) (.int .i64 d.sn.cap)) (fun _ => rfl) (.slice i5 d.sn.n j5)) (fun _ => rfl) (.slice i6 d.sn.ns j6)
  replace L0 := L0.trans (TT.below L0.size (fun b o hb (h : b = _) => by omega))
  replace B0 := box_wrote B0 TT (fun o (h : _ = _) => by omega)
  replace B1 := box_wrote B1 TT (fun o (h : _ = _) => by omega)
  replace B2 := box_set (o := 32) B2 (.int .i64 d.sn.T)
  replace B2 := box_set (o := 33) B2 (.int .i64 d.sn.P)
  replace B2 := box_set (o := 34) B2 (.int .i64 d.sn.C)
  replace B2 := box_set (o := 35) B2 (.int .i64 d.sn.B)
  replace B2 := box_set (o := 36) B2 (.int .i64 d.sn.L)
  replace B2 := box_set (o := 37) B2 (.bool d.sn.S)
  replace B2 := box_set (o := 38) B2 (.bool d.sn.Q)
  replace B2 := box_set (o := 39) B2 (.int .i64 d.sn.cap)
  replace B2 := box_set (o := 40) B2 (.slice i5 d.sn.n j5)
  replace B2 := box_set (o := 41) B2 (.slice i6 d.sn.ns j6)
  simp only [List.setIfInBounds_toArray, List.set_cons_succ, List.set_cons_zero] at B2
  replace g0 := g0.keep TT (fun b o hb _ (h : b = _) => by obtain ⟨h1, h2⟩ := hb; omega)
  replace g1 := g1.keep TT (fun b o hb _ (h : b = _) => by obtain ⟨h1, h2⟩ := hb; omega)
  replace g2 := g2.keep TT (fun b o hb _ (h : b = _) => by obtain ⟨h1, h2⟩ := hb; omega)
  replace g3 := g3.keep TT (fun b o hb _ (h : b = _) => by obtain ⟨h1, h2⟩ := hb; omega)
  replace g4 := g4.keep TT (fun i b o hb _ (h : b = _) => by have := bP _ _ hb; omega)
  replace g5 := g5.keep TT (fun i b o hb _ (h : b = _) => by have := bS _ _ hb; omega)
  replace hp8 : Hid (p8 = ((((((((((W15.setCell ⟨w.heap.size + 1 + 1, 32, none⟩ (.int .i64 d.sn.T)).setCell ⟨w.heap.size + 1 + 1, 33, none⟩ (.int .i64 d.sn.P)).setCell ⟨w.heap.size + 1 + 1, 34, none⟩ (.int .i64 d.sn.C)).setCell ⟨w.heap.size + 1 + 1, 35, none⟩ (.int .i64 d.sn.B)).setCell ⟨w.heap.size + 1 + 1, 36, none⟩ (.int .i64 d.sn.L)).setCell ⟨w.heap.size + 1 + 1, 37, none⟩ (.bool d.sn.S)).setCell ⟨w.heap.size + 1 + 1, 38, none⟩ (.bool d.sn.Q)).setCell ⟨w.heap.size + 1 + 1, 39, none⟩ (.int .i64 d.sn.cap)).setCell ⟨w.heap.size + 1 + 1, 40, none⟩ (.slice i5 d.sn.n j5)).setCell ⟨w.heap.size + 1 + 1, 41, none⟩ (.slice i6 d.sn.ns j6)).heap.size) := by show _ = _; rw [hp8.out]; simp
  clear TT
  generalize (((((((((W15.setCell ⟨w.heap.size + 1 + 1, 32, none⟩ (.int .i64 d.sn.T)).setCell ⟨w.heap.size + 1 + 1, 33, none⟩ (.int .i64 d.sn.P)).setCell ⟨w.heap.size + 1 + 1, 34, none⟩ (.int .i64 d.sn.C)).setCell ⟨w.heap.size + 1 + 1, 35, none⟩ (.int .i64 d.sn.B)).setCell ⟨w.heap.size + 1 + 1, 36, none⟩ (.int .i64 d.sn.L)).setCell ⟨w.heap.size + 1 + 1, 37, none⟩ (.bool d.sn.S)).setCell ⟨w.heap.size + 1 + 1, 38, none⟩ (.bool d.sn.Q)).setCell ⟨w.heap.size + 1 + 1, 39, none⟩ (.int .i64 d.sn.cap)).setCell ⟨w.heap.size + 1 + 1, 40, none⟩ (.slice i5 d.sn.n j5)).setCell ⟨w.heap.size + 1 + 1, 41, none⟩ (.slice i6 d.sn.ns j6) = W16 at *
  rename_i K1 hK1
  refine wp_region_lit ?_
  refine wpList_load_row rfl _ _ rfl (w.heap.size + 1 + 1) rfl _ _ _ _ B2 Tryz.underlying46 rfl infoSplit ?_
  refine wpList_store_row rfl _ _ _ rfl (w.heap.size + 1) _ rfl rfl _ _ B1 infoSplit rfl (by first | kernel_rfl | simp [Value.oneCell']) ?_
  refine hK1 _ _ ?_
  have HR := hide (And.intro g0 (And.intro g1 (And.intro g2 (And.intro g3 (And.intro g4 g5)))))
  have B3 := setRow_heap _ _ _ #[.slice x0 d.m w0, .slice x1 d.np w1, .slice x2 d.nr w2, .int .i64 d.bank, .int .i64 d.A, .int .i64 d.X, .int .i64 d.S, .int .i64 d.Pc, .bool d.Z, .bool d.N, .bool d.C, .bool d.I, .bool d.hd, .int .i64 d.sh, .int .i64 d.T, .bool d.nmi, .int .i64 d.ctrl, .bool d.kn, .int .i64 d.ka, .int .i64 d.st, .slice x3 d.nq w3, .int .i64 d.pc.t, .int .i64 d.pc.c, .int .i64 d.pc.s, .int .i64 d.pc.ad, .int .i64 d.pc.pl, .bool d.pc.bl, .slice i1 d.pc.nt j1, .slice i2 d.pc.nd j2, .int .i64 d.pc.cap, .slice i3 d.pc.n j3, .slice i4 d.pc.mf j4, .int .i64 d.sn.T, .int .i64 d.sn.P, .int .i64 d.sn.C, .int .i64 d.sn.B, .int .i64 d.sn.L, .bool d.sn.S, .bool d.sn.Q, .int .i64 d.sn.cap, .slice i5 d.sn.n j5, .slice i6 d.sn.ns j6] _ _ B1
  have WW := wrote_setRowU B1 #[.slice x0 d.m w0, .slice x1 d.np w1, .slice x2 d.nr w2, .int .i64 d.bank, .int .i64 d.A, .int .i64 d.X, .int .i64 d.S, .int .i64 d.Pc, .bool d.Z, .bool d.N, .bool d.C, .bool d.I, .bool d.hd, .int .i64 d.sh, .int .i64 d.T, .bool d.nmi, .int .i64 d.ctrl, .bool d.kn, .int .i64 d.ka, .int .i64 d.st, .slice x3 d.nq w3, .int .i64 d.pc.t, .int .i64 d.pc.c, .int .i64 d.pc.s, .int .i64 d.pc.ad, .int .i64 d.pc.pl, .bool d.pc.bl, .slice i1 d.pc.nt j1, .slice i2 d.pc.nd j2, .int .i64 d.pc.cap, .slice i3 d.pc.n j3, .slice i4 d.pc.mf j4, .int .i64 d.sn.T, .int .i64 d.sn.P, .int .i64 d.sn.C, .int .i64 d.sn.B, .int .i64 d.sn.L, .bool d.sn.S, .bool d.sn.Q, .int .i64 d.sn.cap, .slice i5 d.sn.n j5, .slice i6 d.sn.ns j6]
  clear g0 g1 g2 g3 g4 g5 B0 B1 B2 H0 H1 H2 H3 H4 H5 H6 H7 H8 H9
  go_wp2
  refine bodyPost_ret (v := .agg #[.slice x0 d.m w0, .slice x1 d.np w1, .slice x2 d.nr w2, .int .i64 d.bank, .int .i64 d.A, .int .i64 d.X, .int .i64 d.S, .int .i64 d.Pc, .bool d.Z, .bool d.N, .bool d.C, .bool d.I, .bool d.hd, .int .i64 d.sh, .int .i64 d.T, .bool d.nmi, .int .i64 d.ctrl, .bool d.kn, .int .i64 d.ka, .int .i64 d.st, .slice x3 d.nq w3, .int .i64 d.pc.t, .int .i64 d.pc.c, .int .i64 d.pc.s, .int .i64 d.pc.ad, .int .i64 d.pc.pl, .bool d.pc.bl, .slice i1 d.pc.nt j1, .slice i2 d.pc.nd j2, .int .i64 d.pc.cap, .slice i3 d.pc.n j3, .slice i4 d.pc.mf j4, .int .i64 d.sn.T, .int .i64 d.sn.P, .int .i64 d.sn.C, .int .i64 d.sn.B, .int .i64 d.sn.L, .bool d.sn.S, .bool d.sn.Q, .int .i64 d.sn.cap, .slice i5 d.sn.n j5, .slice i6 d.sn.ns j6]) (results_cell_row (by rfl) _ _ (w.heap.size + 1) _ _ _ _ rfl B3 Tryz.underlying46 rfl infoSplit) rfl ?_
  generalize W16.setRow (w.heap.size + 1) #[.slice x0 d.m w0, .slice x1 d.np w1, .slice x2 d.nr w2, .int .i64 d.bank, .int .i64 d.A, .int .i64 d.X, .int .i64 d.S, .int .i64 d.Pc, .bool d.Z, .bool d.N, .bool d.C, .bool d.I, .bool d.hd, .int .i64 d.sh, .int .i64 d.T, .bool d.nmi, .int .i64 d.ctrl, .bool d.kn, .int .i64 d.ka, .int .i64 d.st, .slice x3 d.nq w3, .int .i64 d.pc.t, .int .i64 d.pc.c, .int .i64 d.pc.s, .int .i64 d.pc.ad, .int .i64 d.pc.pl, .bool d.pc.bl, .slice i1 d.pc.nt j1, .slice i2 d.pc.nd j2, .int .i64 d.pc.cap, .slice i3 d.pc.n j3, .slice i4 d.pc.mf j4, .int .i64 d.sn.T, .int .i64 d.sn.P, .int .i64 d.sn.C, .int .i64 d.sn.B, .int .i64 d.sn.L, .bool d.sn.S, .bool d.sn.Q, .int .i64 d.sn.cap, .slice i5 d.sn.n j5, .slice i6 d.sn.ns j6] = WF at *
  obtain ⟨g0, g1, g2, g3, g4, g5⟩ := HR.out
  have hsz := WW.size
  have hpp := hp8.out
  refine ⟨_, rfl, ⟨fun i b => (i = 0 ∧ p0 ≤ b ∧ b < p1) ∨ (i = 1 ∧ p1 ≤ b ∧ b < p2) ∨ (i = 2 ∧ p2 ≤ b ∧ b < p3) ∨ (i = 3 ∧ p5 ≤ b ∧ b < p6) ∨ (∃ j, i = 4 + 2 * j ∧ DP j b) ∨ (∃ j, i = 5 + 2 * j ∧ DS j b), ⟨_, _, _, _, _, _, _, _, _, _, rfl,
    (g0.keep WW (fun b o hb _ (h : b = _) => by obtain ⟨h1, h2⟩ := hb; omega)).mono (fun b _ h => Or.inl ⟨rfl, h⟩),
    (g1.keep WW (fun b o hb _ (h : b = _) => by obtain ⟨h1, h2⟩ := hb; omega)).mono (fun b _ h => Or.inr (Or.inl ⟨rfl, h⟩)),
    (g2.keep WW (fun b o hb _ (h : b = _) => by obtain ⟨h1, h2⟩ := hb; omega)).mono (fun b _ h => Or.inr (Or.inr (Or.inl ⟨rfl, h⟩))),
    (g3.keep WW (fun b o hb _ (h : b = _) => by obtain ⟨h1, h2⟩ := hb; omega)).mono (fun b _ h => Or.inr (Or.inr (Or.inr (Or.inl ⟨rfl, h⟩)))),
    (g4.keep WW (fun i b o hb _ (h : b = _) => by have := bP _ _ hb; omega)).mono (fun i b _ h => Or.inr (Or.inr (Or.inr (Or.inr (Or.inl ⟨i, rfl, h⟩))))),
    (g5.keep WW (fun i b o hb _ (h : b = _) => by have := bS _ _ hb; omega)).mono (fun i b _ h => Or.inr (Or.inr (Or.inr (Or.inr (Or.inr ⟨i, rfl, h⟩)))))⟩, ?_, ?_⟩, L0.trans (WW.below L0.size (fun b o hb (h : b = _) => by omega))⟩
  · intro i j b h1 h2
    rcases h1 with ⟨rfl, _, _⟩ | ⟨rfl, _, _⟩ | ⟨rfl, _, _⟩ | ⟨rfl, _, _⟩ | ⟨s, rfl, h1⟩ | ⟨s, rfl, h1⟩ <;> rcases h2 with ⟨rfl, _, _⟩ | ⟨rfl, _, _⟩ | ⟨rfl, _, _⟩ | ⟨rfl, _, _⟩ | ⟨t, rfl, h2⟩ | ⟨t, rfl, h2⟩ <;> first | rfl | omega | (have := bP _ _ h1; omega) | (have := bP _ _ h2; omega) | (have := bS _ _ h1; omega) | (have := bS _ _ h2; omega) | (have e := dP _ _ _ h1 h2; omega) | (have e := dS _ _ _ h1 h2; omega) | (have := bP _ _ h1; have := bS _ _ h2; omega) | (have := bS _ _ h1; have := bP _ _ h2; omega)
  · intro i b h
    rcases h with ⟨rfl, _, _⟩ | ⟨rfl, _, _⟩ | ⟨rfl, _, _⟩ | ⟨rfl, _, _⟩ | ⟨s, rfl, h1⟩ | ⟨s, rfl, h1⟩ <;> first | omega | (have := bP _ _ h1; omega) | (have := bS _ _ h1; omega)
end Go.Proofs.YtjcaligejlhjdaaGreat
