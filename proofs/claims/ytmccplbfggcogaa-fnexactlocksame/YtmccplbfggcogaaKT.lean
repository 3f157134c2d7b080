/-
  A console in step out of its mirror.
-/
import Derived.Test.YtmccplbfggcogaaKL
import Derived.Deep.DeepCutAuto
namespace Go.Proofs.Ytmccplbfggcogaa
set_option linter.unusedVariables false
set_option linter.unusedSimpArgs false
open Go.ChangeShapes Go.WideShapes Go.ChangeAt Go.RowKit
theorem wrote_setRow {w : World} {g : Nat} {old : Array Value} {t : TypeId} (hg : w.heap[g]? = some (.cells old t (0, 0))) (cs : Array Value) : Wrote (fun b _ => b = g) w (w.setRow g cs) :=
  ⟨rfl, rfl, rfl, by simp [World.setRow], fun k hk hn => setRow_other _ _ _ _ (fun e => hn 0 e), fun b o hb hn => cell_setRow_other _ _ _ _ hn, fun b o hb => by
    by_cases e : b = g
    · subst e
      rw [boxF (setRow_heap _ _ _ _ _ _ hg), boxF hg]
    · simp [World.frozen?, setRow_other _ _ _ _ e]⟩
theorem infoLock : (Try.prog.info? 79).map (·.size) = some 34 := by kernel_rfl
/-- What the mirror of a console is laid from: eight lists that can be read. -/
structure RawL (W : World) (u0 u1 u2 u3 u4 u5 u6 u7 : Value) (d : LockD) : Prop where
  h0 : ∃ F, IntSS .i64 W F u0 d.m d.ln d.f
  h1 : ∃ F, Ints .i64 W F u1 d.np d.p
  h2 : ∃ F, Ints .i64 W F u2 d.nr d.g
  h3 : ∃ F, Ints .i64 W F u3 d.nt d.tb
  h4 : ∃ F, Ints .i64 W F u4 d.nd d.dt
  h5 : ∃ F, IntSS .i64 W F u5 d.mf d.lf d.fr
  h6 : ∃ F, Ints .i64 W F u6 d.ns d.sm
  h7 : ∃ F, Ints .i64 W F u7 d.nq d.rd
theorem RawL.below {W W' : World} {u0 u1 u2 u3 u4 u5 u6 u7 : Value} {d : LockD} (H : RawL W u0 u1 u2 u3 u4 u5 u6 u7 d) (lo : ∀ F v m ln f, IntSS .i64 W F v m ln f → ∃ G, IntSS .i64 W' G v m ln f) (l1 : ∀ F v n f, Ints .i64 W F v n f → ∃ G, Ints .i64 W' G v n f) : RawL W' u0 u1 u2 u3 u4 u5 u6 u7 d :=
  ⟨H.h0.elim (fun F h => lo F _ _ _ _ h), H.h1.elim (fun F h => l1 F _ _ _ h), H.h2.elim (fun F h => l1 F _ _ _ h), H.h3.elim (fun F h => l1 F _ _ _ h), H.h4.elim (fun F h => l1 F _ _ _ h), H.h5.elim (fun F h => lo F _ _ _ _ h), H.h6.elim (fun F h => l1 F _ _ _ h), H.h7.elim (fun F h => l1 F _ _ _ h)⟩
set_option maxHeartbeats 8000000 in
theorem onToLock (w : World) (u0 u1 u2 u3 u4 u5 u6 u7 : Value) (d : LockD) (H : RawL w u0 u1 u2 u3 u4 u5 u6 u7 d) (hm : d.m + psum d.ln d.m ≤ 1048576) (hf : d.mf + psum d.lf d.mf ≤ 1048576) :
    Calls Try.prog 24 #[.agg #[u0, u1, u2, .int .i64 d.bank, .int .i64 d.A, .int .i64 d.X, .int .i64 d.S, .int .i64 d.Pc, .bool d.Z, .bool d.N, .bool d.C, .bool d.I, .int .i64 d.t, .int .i64 d.c, .int .i64 d.s, .int .i64 d.ad, .int .i64 d.pl, .bool d.bl, u3, u4, .int .i64 d.T, .int .i64 d.P, .int .i64 d.K, .int .i64 d.B, .int .i64 d.L, .bool d.Q, .bool d.R, .bool d.hd, .int .i64 d.sh, .bool d.nmi, .int .i64 d.st, u5, u6, u7]] w fun e w' => ∃ v, e = .returned v ∧ (∃ D, LockOn w' D v d ∧ Dis D ∧ ∀ i b, D i b → w.heap.size ≤ b ∧ b < w'.heap.size) ∧ Below w.heap.size w w' := by
  obtain ⟨⟨F0, H0⟩, ⟨F1, H1⟩, ⟨F2, H2⟩, ⟨F3, H3⟩, ⟨F4, H4⟩, ⟨F5, H5⟩, ⟨F6, H6⟩, ⟨F7, H7⟩⟩ := H
  obtain ⟨a0, c0, rfl, -⟩ := id H0
  obtain ⟨a1, c1, rfl, -⟩ := id H1
  obtain ⟨a2, c2, rfl, hn2, -⟩ := id H2
  obtain ⟨a3, c3, rfl, -⟩ := id H3
  obtain ⟨a4, c4, rfl, -⟩ := id H4
  obtain ⟨a5, c5, rfl, -⟩ := id H5
  obtain ⟨a6, c6, rfl, -⟩ := id H6
  obtain ⟨a7, c7, rfl, -⟩ := id H7
  have L0 : Below w.heap.size w (((w.alloc (.cells #[.slice a0 d.m c0, .slice a1 d.np c1, .slice a2 d.nr c2, .int .i64 d.bank, .int .i64 d.A, .int .i64 d.X, .int .i64 d.S, .int .i64 d.Pc, .bool d.Z, .bool d.N, .bool d.C, .bool d.I, .int .i64 d.t, .int .i64 d.c, .int .i64 d.s, .int .i64 d.ad, .int .i64 d.pl, .bool d.bl, .slice a3 d.nt c3, .slice a4 d.nd c4, .int .i64 d.T, .int .i64 d.P, .int .i64 d.K, .int .i64 d.B, .int .i64 d.L, .bool d.Q, .bool d.R, .bool d.hd, .int .i64 d.sh, .bool d.nmi, .int .i64 d.st, .slice a5 d.mf c5, .slice a6 d.ns c6, .slice a7 d.nq c7] 75)).alloc (.cells #[.slice none 0 0, .slice none 0 0, .slice none 0 0, .int .i64 0, .int .i64 0, .int .i64 0, .int .i64 0, .int .i64 0, .bool false, .bool false, .bool false, .bool false, .int .i64 0, .int .i64 0, .int .i64 0, .int .i64 0, .int .i64 0, .bool false, .slice none 0 0, .slice none 0 0, .int .i64 0, .int .i64 0, .int .i64 0, .int .i64 0, .int .i64 0, .bool false, .bool false, .bool false, .int .i64 0, .bool false, .int .i64 0, .slice none 0 0, .slice none 0 0, .slice none 0 0] 79)).alloc (.cells #[.slice none 0 0, .slice none 0 0, .slice none 0 0, .int .i64 0, .int .i64 0, .int .i64 0, .int .i64 0, .int .i64 0, .bool false, .bool false, .bool false, .bool false, .int .i64 0, .int .i64 0, .int .i64 0, .int .i64 0, .int .i64 0, .bool false, .slice none 0 0, .slice none 0 0, .int .i64 0, .int .i64 0, .int .i64 0, .int .i64 0, .int .i64 0, .bool false, .bool false, .bool false, .int .i64 0, .bool false, .int .i64 0, .slice none 0 0, .slice none 0 0, .slice none 0 0] 79)) := (((Below.refl _ _).alloc (Nat.le_refl _) _).alloc (by simp) _).alloc (by simp; omega) _
  have B0 : (((w.alloc (.cells #[.slice a0 d.m c0, .slice a1 d.np c1, .slice a2 d.nr c2, .int .i64 d.bank, .int .i64 d.A, .int .i64 d.X, .int .i64 d.S, .int .i64 d.Pc, .bool d.Z, .bool d.N, .bool d.C, .bool d.I, .int .i64 d.t, .int .i64 d.c, .int .i64 d.s, .int .i64 d.ad, .int .i64 d.pl, .bool d.bl, .slice a3 d.nt c3, .slice a4 d.nd c4, .int .i64 d.T, .int .i64 d.P, .int .i64 d.K, .int .i64 d.B, .int .i64 d.L, .bool d.Q, .bool d.R, .bool d.hd, .int .i64 d.sh, .bool d.nmi, .int .i64 d.st, .slice a5 d.mf c5, .slice a6 d.ns c6, .slice a7 d.nq c7] 75)).alloc (.cells #[.slice none 0 0, .slice none 0 0, .slice none 0 0, .int .i64 0, .int .i64 0, .int .i64 0, .int .i64 0, .int .i64 0, .bool false, .bool false, .bool false, .bool false, .int .i64 0, .int .i64 0, .int .i64 0, .int .i64 0, .int .i64 0, .bool false, .slice none 0 0, .slice none 0 0, .int .i64 0, .int .i64 0, .int .i64 0, .int .i64 0, .int .i64 0, .bool false, .bool false, .bool false, .int .i64 0, .bool false, .int .i64 0, .slice none 0 0, .slice none 0 0, .slice none 0 0] 79)).alloc (.cells #[.slice none 0 0, .slice none 0 0, .slice none 0 0, .int .i64 0, .int .i64 0, .int .i64 0, .int .i64 0, .int .i64 0, .bool false, .bool false, .bool false, .bool false, .int .i64 0, .int .i64 0, .int .i64 0, .int .i64 0, .int .i64 0, .bool false, .slice none 0 0, .slice none 0 0, .int .i64 0, .int .i64 0, .int .i64 0, .int .i64 0, .int .i64 0, .bool false, .bool false, .bool false, .int .i64 0, .bool false, .int .i64 0, .slice none 0 0, .slice none 0 0, .slice none 0 0] 79)).heap[w.heap.size]? = some (.cells #[.slice a0 d.m c0, .slice a1 d.np c1, .slice a2 d.nr c2, .int .i64 d.bank, .int .i64 d.A, .int .i64 d.X, .int .i64 d.S, .int .i64 d.Pc, .bool d.Z, .bool d.N, .bool d.C, .bool d.I, .int .i64 d.t, .int .i64 d.c, .int .i64 d.s, .int .i64 d.ad, .int .i64 d.pl, .bool d.bl, .slice a3 d.nt c3, .slice a4 d.nd c4, .int .i64 d.T, .int .i64 d.P, .int .i64 d.K, .int .i64 d.B, .int .i64 d.L, .bool d.Q, .bool d.R, .bool d.hd, .int .i64 d.sh, .bool d.nmi, .int .i64 d.st, .slice a5 d.mf c5, .slice a6 d.ns c6, .slice a7 d.nq c7] 75 (0, 0)) := boxA (boxA (box_new w _ _) _) _
  have B1 : (((w.alloc (.cells #[.slice a0 d.m c0, .slice a1 d.np c1, .slice a2 d.nr c2, .int .i64 d.bank, .int .i64 d.A, .int .i64 d.X, .int .i64 d.S, .int .i64 d.Pc, .bool d.Z, .bool d.N, .bool d.C, .bool d.I, .int .i64 d.t, .int .i64 d.c, .int .i64 d.s, .int .i64 d.ad, .int .i64 d.pl, .bool d.bl, .slice a3 d.nt c3, .slice a4 d.nd c4, .int .i64 d.T, .int .i64 d.P, .int .i64 d.K, .int .i64 d.B, .int .i64 d.L, .bool d.Q, .bool d.R, .bool d.hd, .int .i64 d.sh, .bool d.nmi, .int .i64 d.st, .slice a5 d.mf c5, .slice a6 d.ns c6, .slice a7 d.nq c7] 75)).alloc (.cells #[.slice none 0 0, .slice none 0 0, .slice none 0 0, .int .i64 0, .int .i64 0, .int .i64 0, .int .i64 0, .int .i64 0, .bool false, .bool false, .bool false, .bool false, .int .i64 0, .int .i64 0, .int .i64 0, .int .i64 0, .int .i64 0, .bool false, .slice none 0 0, .slice none 0 0, .int .i64 0, .int .i64 0, .int .i64 0, .int .i64 0, .int .i64 0, .bool false, .bool false, .bool false, .int .i64 0, .bool false, .int .i64 0, .slice none 0 0, .slice none 0 0, .slice none 0 0] 79)).alloc (.cells #[.slice none 0 0, .slice none 0 0, .slice none 0 0, .int .i64 0, .int .i64 0, .int .i64 0, .int .i64 0, .int .i64 0, .bool false, .bool false, .bool false, .bool false, .int .i64 0, .int .i64 0, .int .i64 0, .int .i64 0, .int .i64 0, .bool false, .slice none 0 0, .slice none 0 0, .int .i64 0, .int .i64 0, .int .i64 0, .int .i64 0, .int .i64 0, .bool false, .bool false, .bool false, .int .i64 0, .bool false, .int .i64 0, .slice none 0 0, .slice none 0 0, .slice none 0 0] 79)).heap[w.heap.size + 1]? = some (.cells #[.slice none 0 0, .slice none 0 0, .slice none 0 0, .int .i64 0, .int .i64 0, .int .i64 0, .int .i64 0, .int .i64 0, .bool false, .bool false, .bool false, .bool false, .int .i64 0, .int .i64 0, .int .i64 0, .int .i64 0, .int .i64 0, .bool false, .slice none 0 0, .slice none 0 0, .int .i64 0, .int .i64 0, .int .i64 0, .int .i64 0, .int .i64 0, .bool false, .bool false, .bool false, .int .i64 0, .bool false, .int .i64 0, .slice none 0 0, .slice none 0 0, .slice none 0 0] 79 (0, 0)) := boxA (by simpa using box_new (w.alloc (.cells #[.slice a0 d.m c0, .slice a1 d.np c1, .slice a2 d.nr c2, .int .i64 d.bank, .int .i64 d.A, .int .i64 d.X, .int .i64 d.S, .int .i64 d.Pc, .bool d.Z, .bool d.N, .bool d.C, .bool d.I, .int .i64 d.t, .int .i64 d.c, .int .i64 d.s, .int .i64 d.ad, .int .i64 d.pl, .bool d.bl, .slice a3 d.nt c3, .slice a4 d.nd c4, .int .i64 d.T, .int .i64 d.P, .int .i64 d.K, .int .i64 d.B, .int .i64 d.L, .bool d.Q, .bool d.R, .bool d.hd, .int .i64 d.sh, .bool d.nmi, .int .i64 d.st, .slice a5 d.mf c5, .slice a6 d.ns c6, .slice a7 d.nq c7] 75)) #[.slice none 0 0, .slice none 0 0, .slice none 0 0, .int .i64 0, .int .i64 0, .int .i64 0, .int .i64 0, .int .i64 0, .bool false, .bool false, .bool false, .bool false, .int .i64 0, .int .i64 0, .int .i64 0, .int .i64 0, .int .i64 0, .bool false, .slice none 0 0, .slice none 0 0, .int .i64 0, .int .i64 0, .int .i64 0, .int .i64 0, .int .i64 0, .bool false, .bool false, .bool false, .int .i64 0, .bool false, .int .i64 0, .slice none 0 0, .slice none 0 0, .slice none 0 0] 79) (.cells #[.slice none 0 0, .slice none 0 0, .slice none 0 0, .int .i64 0, .int .i64 0, .int .i64 0, .int .i64 0, .int .i64 0, .bool false, .bool false, .bool false, .bool false, .int .i64 0, .int .i64 0, .int .i64 0, .int .i64 0, .int .i64 0, .bool false, .slice none 0 0, .slice none 0 0, .int .i64 0, .int .i64 0, .int .i64 0, .int .i64 0, .int .i64 0, .bool false, .bool false, .bool false, .int .i64 0, .bool false, .int .i64 0, .slice none 0 0, .slice none 0 0, .slice none 0 0] 79)
  have B2 : (((w.alloc (.cells #[.slice a0 d.m c0, .slice a1 d.np c1, .slice a2 d.nr c2, .int .i64 d.bank, .int .i64 d.A, .int .i64 d.X, .int .i64 d.S, .int .i64 d.Pc, .bool d.Z, .bool d.N, .bool d.C, .bool d.I, .int .i64 d.t, .int .i64 d.c, .int .i64 d.s, .int .i64 d.ad, .int .i64 d.pl, .bool d.bl, .slice a3 d.nt c3, .slice a4 d.nd c4, .int .i64 d.T, .int .i64 d.P, .int .i64 d.K, .int .i64 d.B, .int .i64 d.L, .bool d.Q, .bool d.R, .bool d.hd, .int .i64 d.sh, .bool d.nmi, .int .i64 d.st, .slice a5 d.mf c5, .slice a6 d.ns c6, .slice a7 d.nq c7] 75)).alloc (.cells #[.slice none 0 0, .slice none 0 0, .slice none 0 0, .int .i64 0, .int .i64 0, .int .i64 0, .int .i64 0, .int .i64 0, .bool false, .bool false, .bool false, .bool false, .int .i64 0, .int .i64 0, .int .i64 0, .int .i64 0, .int .i64 0, .bool false, .slice none 0 0, .slice none 0 0, .int .i64 0, .int .i64 0, .int .i64 0, .int .i64 0, .int .i64 0, .bool false, .bool false, .bool false, .int .i64 0, .bool false, .int .i64 0, .slice none 0 0, .slice none 0 0, .slice none 0 0] 79)).alloc (.cells #[.slice none 0 0, .slice none 0 0, .slice none 0 0, .int .i64 0, .int .i64 0, .int .i64 0, .int .i64 0, .int .i64 0, .bool false, .bool false, .bool false, .bool false, .int .i64 0, .int .i64 0, .int .i64 0, .int .i64 0, .int .i64 0, .bool false, .slice none 0 0, .slice none 0 0, .int .i64 0, .int .i64 0, .int .i64 0, .int .i64 0, .int .i64 0, .bool false, .bool false, .bool false, .int .i64 0, .bool false, .int .i64 0, .slice none 0 0, .slice none 0 0, .slice none 0 0] 79)).heap[w.heap.size + 1 + 1]? = some (.cells #[.slice none 0 0, .slice none 0 0, .slice none 0 0, .int .i64 0, .int .i64 0, .int .i64 0, .int .i64 0, .int .i64 0, .bool false, .bool false, .bool false, .bool false, .int .i64 0, .int .i64 0, .int .i64 0, .int .i64 0, .int .i64 0, .bool false, .slice none 0 0, .slice none 0 0, .int .i64 0, .int .i64 0, .int .i64 0, .int .i64 0, .int .i64 0, .bool false, .bool false, .bool false, .int .i64 0, .bool false, .int .i64 0, .slice none 0 0, .slice none 0 0, .slice none 0 0] 79 (0, 0)) := by simpa using box_new ((w.alloc (.cells #[.slice a0 d.m c0, .slice a1 d.np c1, .slice a2 d.nr c2, .int .i64 d.bank, .int .i64 d.A, .int .i64 d.X, .int .i64 d.S, .int .i64 d.Pc, .bool d.Z, .bool d.N, .bool d.C, .bool d.I, .int .i64 d.t, .int .i64 d.c, .int .i64 d.s, .int .i64 d.ad, .int .i64 d.pl, .bool d.bl, .slice a3 d.nt c3, .slice a4 d.nd c4, .int .i64 d.T, .int .i64 d.P, .int .i64 d.K, .int .i64 d.B, .int .i64 d.L, .bool d.Q, .bool d.R, .bool d.hd, .int .i64 d.sh, .bool d.nmi, .int .i64 d.st, .slice a5 d.mf c5, .slice a6 d.ns c6, .slice a7 d.nq c7] 75)).alloc (.cells #[.slice none 0 0, .slice none 0 0, .slice none 0 0, .int .i64 0, .int .i64 0, .int .i64 0, .int .i64 0, .int .i64 0, .bool false, .bool false, .bool false, .bool false, .int .i64 0, .int .i64 0, .int .i64 0, .int .i64 0, .int .i64 0, .bool false, .slice none 0 0, .slice none 0 0, .int .i64 0, .int .i64 0, .int .i64 0, .int .i64 0, .int .i64 0, .bool false, .bool false, .bool false, .int .i64 0, .bool false, .int .i64 0, .slice none 0 0, .slice none 0 0, .slice none 0 0] 79)) #[.slice none 0 0, .slice none 0 0, .slice none 0 0, .int .i64 0, .int .i64 0, .int .i64 0, .int .i64 0, .int .i64 0, .bool false, .bool false, .bool false, .bool false, .int .i64 0, .int .i64 0, .int .i64 0, .int .i64 0, .int .i64 0, .bool false, .slice none 0 0, .slice none 0 0, .int .i64 0, .int .i64 0, .int .i64 0, .int .i64 0, .int .i64 0, .bool false, .bool false, .bool false, .int .i64 0, .bool false, .int .i64 0, .slice none 0 0, .slice none 0 0, .slice none 0 0] 79
  go_enter Try.func24, Try.ntmps24
  go_wp2_with fail
  generalize ((w.alloc (.cells #[.slice a0 d.m c0, .slice a1 d.np c1, .slice a2 d.nr c2, .int .i64 d.bank, .int .i64 d.A, .int .i64 d.X, .int .i64 d.S, .int .i64 d.Pc, .bool d.Z, .bool d.N, .bool d.C, .bool d.I, .int .i64 d.t, .int .i64 d.c, .int .i64 d.s, .int .i64 d.ad, .int .i64 d.pl, .bool d.bl, .slice a3 d.nt c3, .slice a4 d.nd c4, .int .i64 d.T, .int .i64 d.P, .int .i64 d.K, .int .i64 d.B, .int .i64 d.L, .bool d.Q, .bool d.R, .bool d.hd, .int .i64 d.sh, .bool d.nmi, .int .i64 d.st, .slice a5 d.mf c5, .slice a6 d.ns c6, .slice a7 d.nq c7] 75)).alloc (.cells #[.slice none 0 0, .slice none 0 0, .slice none 0 0, .int .i64 0, .int .i64 0, .int .i64 0, .int .i64 0, .int .i64 0, .bool false, .bool false, .bool false, .bool false, .int .i64 0, .int .i64 0, .int .i64 0, .int .i64 0, .int .i64 0, .bool false, .slice none 0 0, .slice none 0 0, .int .i64 0, .int .i64 0, .int .i64 0, .int .i64 0, .int .i64 0, .bool false, .bool false, .bool false, .int .i64 0, .bool false, .int .i64 0, .slice none 0 0, .slice none 0 0, .slice none 0 0] 79)).alloc (.cells #[.slice none 0 0, .slice none 0 0, .slice none 0 0, .int .i64 0, .int .i64 0, .int .i64 0, .int .i64 0, .int .i64 0, .bool false, .bool false, .bool false, .bool false, .int .i64 0, .int .i64 0, .int .i64 0, .int .i64 0, .int .i64 0, .bool false, .slice none 0 0, .slice none 0 0, .int .i64 0, .int .i64 0, .int .i64 0, .int .i64 0, .int .i64 0, .bool false, .bool false, .bool false, .int .i64 0, .bool false, .int .i64 0, .slice none 0 0, .slice none 0 0, .slice none 0 0] 79) = W0 at *
  obtain ⟨p0, hp0⟩ : ∃ p, Hid (p = W0.heap.size) := ⟨_, rfl⟩
  have l0 : w.heap.size + 1 + 1 < p0 := by rw [hp0.out]; exact boxLt B2
  refine (onToImg _ F0 _ d.m d.ln d.f (H0.keep (wrote_below L0 Nowhere) (fun _ _ _ x => x)) hm).mono ?_
  rintro e W1 ⟨v0, rfl, g0, L⟩
  obtain ⟨p1, hp1⟩ : ∃ p, Hid (p = W1.heap.size) := ⟨_, rfl⟩
  have l1 : p0 ≤ p1 := by rw [hp0.out, hp1.out]; exact L.size
  rw [← hp0.out, ← hp1.out] at g0
  replace L0 := below_snoc L0 L
  replace B0 := box_keep B0 L (boxLt B0)
  replace B1 := box_keep B1 L (boxLt B1)
  replace B2 := box_keep B2 L (boxLt B2)
  clear L hp0
  obtain ⟨x0, y0, rfl⟩ := g0.form
  have c0 := boxC B0
  have c2 := boxC B2
  have f2 := boxF B2
  go_wp2_with fail
  clear c0 c2 f2
  have TT := Wrote.setCell (b := w.heap.size + 1 + 1) (o := 0) (R := fun b _ => b = w.heap.size + 1 + 1) (Wrote.refl _ W1) (fun _ => rfl) (.slice x0 d.m y0)
  replace L0 := L0.trans (TT.below L0.size (fun b o hb (h : b = _) => by omega))
  replace B0 := box_wrote B0 TT (fun o (h : _ = _) => by omega)
  replace B1 := box_wrote B1 TT (fun o (h : _ = _) => by omega)
  replace B2 := box_set (o := 0) B2 (.slice x0 d.m y0)
  simp only [List.setIfInBounds_toArray, List.set_cons_succ, List.set_cons_zero] at B2
  replace g0 := g0.keep TT (fun b o hb _ (h : b = _) => by obtain ⟨h1, h2⟩ := hb; omega)
  replace hp1 : Hid (p1 = (W1.setCell ⟨w.heap.size + 1 + 1, 0, none⟩ (.slice x0 d.m y0)).heap.size) := by show _ = _; rw [hp1.out]; simp
  clear TT
  generalize W1.setCell ⟨w.heap.size + 1 + 1, 0, none⟩ (.slice x0 d.m y0) = W2 at *
  refine (onToList _ F1 _ d.np d.p (H1.keep (wrote_below L0 Nowhere) (fun _ _ _ x => x))).mono ?_
  rintro e W3 ⟨v1, rfl, g1, L⟩
  obtain ⟨p2, hp2⟩ : ∃ p, Hid (p = W3.heap.size) := ⟨_, rfl⟩
  have l2 : p1 ≤ p2 := by rw [hp1.out, hp2.out]; exact L.size
  rw [← hp1.out, ← hp2.out] at g1
  replace L0 := below_snoc L0 L
  replace B0 := box_keep B0 L (boxLt B0)
  replace B1 := box_keep B1 L (boxLt B1)
  replace B2 := box_keep B2 L (boxLt B2)
  replace g0 := g0.below L
  clear L hp1
  obtain ⟨x1, y1, rfl⟩ := g1.two
  have c0 := boxC B0
  have c2 := boxC B2
  have f2 := boxF B2
  go_wp2_with fail
  clear c0 c2 f2
  have TT := Wrote.setCell (b := w.heap.size + 1 + 1) (o := 1) (R := fun b _ => b = w.heap.size + 1 + 1) (Wrote.refl _ W3) (fun _ => rfl) (.slice x1 d.np y1)
  replace L0 := L0.trans (TT.below L0.size (fun b o hb (h : b = _) => by omega))
  replace B0 := box_wrote B0 TT (fun o (h : _ = _) => by omega)
  replace B1 := box_wrote B1 TT (fun o (h : _ = _) => by omega)
  replace B2 := box_set (o := 1) B2 (.slice x1 d.np y1)
  simp only [List.setIfInBounds_toArray, List.set_cons_succ, List.set_cons_zero] at B2
  replace g0 := g0.keep TT (fun b o hb _ (h : b = _) => by obtain ⟨h1, h2⟩ := hb; omega)
  replace g1 := g1.keep TT (fun b o hb _ (h : b = _) => by obtain ⟨h1, h2⟩ := hb; omega)
  replace hp2 : Hid (p2 = (W3.setCell ⟨w.heap.size + 1 + 1, 1, none⟩ (.slice x1 d.np y1)).heap.size) := by show _ = _; rw [hp2.out]; simp
  clear TT
  generalize W3.setCell ⟨w.heap.size + 1 + 1, 1, none⟩ (.slice x1 d.np y1) = W4 at *
  refine (onToMem _ F2 _ d.nr d.g d.bank (H2.keep (wrote_below L0 Nowhere) (fun _ _ _ x => x)) hn2).mono ?_
  rintro e W5 ⟨v2, rfl, g2, L⟩
  obtain ⟨p3, hp3⟩ : ∃ p, Hid (p = W5.heap.size) := ⟨_, rfl⟩
  have l3 : p2 ≤ p3 := by rw [hp2.out, hp3.out]; exact L.size
  replace g2 := g2.mono (E := fun b => p2 ≤ b ∧ b < p3) (fun b hb h => ⟨by rw [hp2.out]; exact h, by rw [hp3.out]; exact hb⟩)
  replace L0 := below_snoc L0 L
  replace B0 := box_keep B0 L (boxLt B0)
  replace B1 := box_keep B1 L (boxLt B1)
  replace B2 := box_keep B2 L (boxLt B2)
  replace g0 := g0.below L
  replace g1 := g1.below L
  clear L hp2
  obtain ⟨x2, y2, rfl⟩ := g2.two
  have c0 := boxC B0
  have c2 := boxC B2
  have f2 := boxF B2
  go_wp2_with fail
  clear c0 c2 f2
  have TT := Wrote.setCell (b := w.heap.size + 1 + 1) (o := 3) (R := fun b _ => b = w.heap.size + 1 + 1) (Wrote.setCell (b := w.heap.size + 1 + 1) (o := 2) (R := fun b _ => b = w.heap.size + 1 + 1) (Wrote.refl _ W5) (fun _ => rfl) (.slice x2 d.nr y2)) (fun _ => rfl) (.int .i64 d.bank)
  replace L0 := L0.trans (TT.below L0.size (fun b o hb (h : b = _) => by omega))
  replace B0 := box_wrote B0 TT (fun o (h : _ = _) => by omega)
  replace B1 := box_wrote B1 TT (fun o (h : _ = _) => by omega)
  replace B2 := box_set (o := 2) B2 (.slice x2 d.nr y2)
  replace B2 := box_set (o := 3) B2 (.int .i64 d.bank)
  simp only [List.setIfInBounds_toArray, List.set_cons_succ, List.set_cons_zero] at B2
  replace g0 := g0.keep TT (fun b o hb _ (h : b = _) => by obtain ⟨h1, h2⟩ := hb; omega)
  replace g1 := g1.keep TT (fun b o hb _ (h : b = _) => by obtain ⟨h1, h2⟩ := hb; omega)
  replace g2 := g2.keep TT (fun b o hb _ (h : b = _) => by obtain ⟨h1, h2⟩ := hb; omega)
  replace hp3 : Hid (p3 = ((W5.setCell ⟨w.heap.size + 1 + 1, 2, none⟩ (.slice x2 d.nr y2)).setCell ⟨w.heap.size + 1 + 1, 3, none⟩ (.int .i64 d.bank)).heap.size) := by show _ = _; rw [hp3.out]; simp
  clear TT
  generalize (W5.setCell ⟨w.heap.size + 1 + 1, 2, none⟩ (.slice x2 d.nr y2)).setCell ⟨w.heap.size + 1 + 1, 3, none⟩ (.int .i64 d.bank) = W6 at *
  refine (toCpu _ d.A d.X d.S d.Pc d.Z d.N d.C d.I).mono ?_
  rintro e W7 ⟨rfl, L⟩
  obtain ⟨p4, hp4⟩ : ∃ p, Hid (p = W7.heap.size) := ⟨_, rfl⟩
  have l4 : p3 ≤ p4 := by rw [hp3.out, hp4.out]; exact L.size
  replace L0 := below_snoc L0 L
  replace B0 := box_keep B0 L (boxLt B0)
  replace B1 := box_keep B1 L (boxLt B1)
  replace B2 := box_keep B2 L (boxLt B2)
  replace g0 := g0.below L
  replace g1 := g1.below L
  replace g2 := g2.below L
  clear L hp3
  have c0 := boxC B0
  have c2 := boxC B2
  have f2 := boxF B2
  go_wp2_with fail
  clear c0 c2 f2
  have TT := Wrote.setCell (b := w.heap.size + 1 + 1) (o := 11) (R := fun b _ => b = w.heap.size + 1 + 1) (Wrote.setCell (b := w.heap.size + 1 + 1) (o := 10) (R := fun b _ => b = w.heap.size + 1 + 1) (Wrote.setCell (b := w.heap.size + 1 + 1) (o := 9) (R := fun b _ => b = w.heap.size + 1 + 1) (Wrote.setCell (b := w.heap.size + 1 + 1) (o := 8) (R := fun b _ => b = w.heap.size + 1 + 1) (Wrote.setCell (b := w.heap.size + 1 + 1) (o := 7) (R := fun b _ => b = w.heap.size + 1 + 1) (Wrote.setCell (b := w.heap.size + 1 + 1) (o := 6) (R := fun b _ => b = w.heap.size + 1 + 1) (Wrote.setCell (b := w.heap.size + 1 + 1) (o := 5) (R := fun b _ => b = w.heap.size + 1 + 1) (Wrote.setCell (b := w.heap.size + 1 + 1) (o := 4) (R := fun b _ => b = w.heap.size + 1 + 1) (Wrote.refl _ W7) (fun _ => rfl) (.int .i64 d.A)) (fun _ => rfl) (.int .i64 d.X)) (fun _ => rfl) (.int .i64 d.S)) (fun _ => rfl) (.int .i64 d.Pc)) (fun _ => rfl) (.bool d.Z)) (fun _ => rfl) (.bool d.N)) (fun _ => rfl) (.bool d.C)) (fun _ => rfl) (.bool d.I)
  replace L0 := L0.trans (TT.below L0.size (fun b o hb (h : b = _) => by omega))
  replace B0 := box_wrote B0 TT (fun o (h : _ = _) => by omega)
  replace B1 := box_wrote B1 TT (fun o (h : _ = _) => by omega)
  replace B2 := box_set (o := 4) B2 (.int .i64 d.A)
  replace B2 := box_set (o := 5) B2 (.int .i64 d.X)
  replace B2 := box_set (o := 6) B2 (.int .i64 d.S)
  replace B2 := box_set (o := 7) B2 (.int .i64 d.Pc)
  replace B2 := box_set (o := 8) B2 (.bool d.Z)
  replace B2 := box_set (o := 9) B2 (.bool d.N)
  replace B2 := box_set (o := 10) B2 (.bool d.C)
  replace B2 := box_set (o := 11) B2 (.bool d.I)
  simp only [List.setIfInBounds_toArray, List.set_cons_succ, List.set_cons_zero] at B2
  replace g0 := g0.keep TT (fun b o hb _ (h : b = _) => by obtain ⟨h1, h2⟩ := hb; omega)
  replace g1 := g1.keep TT (fun b o hb _ (h : b = _) => by obtain ⟨h1, h2⟩ := hb; omega)
  replace g2 := g2.keep TT (fun b o hb _ (h : b = _) => by obtain ⟨h1, h2⟩ := hb; omega)
  replace hp4 : Hid (p4 = ((((((((W7.setCell ⟨w.heap.size + 1 + 1, 4, none⟩ (.int .i64 d.A)).setCell ⟨w.heap.size + 1 + 1, 5, none⟩ (.int .i64 d.X)).setCell ⟨w.heap.size + 1 + 1, 6, none⟩ (.int .i64 d.S)).setCell ⟨w.heap.size + 1 + 1, 7, none⟩ (.int .i64 d.Pc)).setCell ⟨w.heap.size + 1 + 1, 8, none⟩ (.bool d.Z)).setCell ⟨w.heap.size + 1 + 1, 9, none⟩ (.bool d.N)).setCell ⟨w.heap.size + 1 + 1, 10, none⟩ (.bool d.C)).setCell ⟨w.heap.size + 1 + 1, 11, none⟩ (.bool d.I)).heap.size) := by show _ = _; rw [hp4.out]; simp
  clear TT
  generalize (((((((W7.setCell ⟨w.heap.size + 1 + 1, 4, none⟩ (.int .i64 d.A)).setCell ⟨w.heap.size + 1 + 1, 5, none⟩ (.int .i64 d.X)).setCell ⟨w.heap.size + 1 + 1, 6, none⟩ (.int .i64 d.S)).setCell ⟨w.heap.size + 1 + 1, 7, none⟩ (.int .i64 d.Pc)).setCell ⟨w.heap.size + 1 + 1, 8, none⟩ (.bool d.Z)).setCell ⟨w.heap.size + 1 + 1, 9, none⟩ (.bool d.N)).setCell ⟨w.heap.size + 1 + 1, 10, none⟩ (.bool d.C)).setCell ⟨w.heap.size + 1 + 1, 11, none⟩ (.bool d.I) = W8 at *
  refine (toPpu _ F3 F4 d.t d.c d.s d.ad d.pl d.bl _ _ d.nt d.tb d.nd d.dt (H3.keep (wrote_below L0 Nowhere) (fun _ _ _ x => x)) (H4.keep (wrote_below L0 Nowhere) (fun _ _ _ x => x))).mono ?_
  rintro e W9 ⟨v3, rfl, g3, L⟩
  obtain ⟨p5, hp5⟩ : ∃ p, Hid (p = W9.heap.size) := ⟨_, rfl⟩
  have l5 : p4 ≤ p5 := by rw [hp4.out, hp5.out]; exact L.size
  replace g3 := g3.mono (E := fun b => p4 ≤ b ∧ b < p5) (fun b hb h => ⟨by rw [hp4.out]; exact h, by rw [hp5.out]; exact hb⟩)
  replace L0 := below_snoc L0 L
  replace B0 := box_keep B0 L (boxLt B0)
  replace B1 := box_keep B1 L (boxLt B1)
  replace B2 := box_keep B2 L (boxLt B2)
  replace g0 := g0.below L
  replace g1 := g1.below L
  replace g2 := g2.below L
  clear L hp4
  obtain ⟨x3, y3, x4, y4, rfl⟩ := g3.two
  have c0 := boxC B0
  have c2 := boxC B2
  have f2 := boxF B2
  go_wp2_with fail
  clear c0 c2 f2
  have TT := Wrote.setCell (b := w.heap.size + 1 + 1) (o := 19) (R := fun b _ => b = w.heap.size + 1 + 1) (Wrote.setCell (b := w.heap.size + 1 + 1) (o := 18) (R := fun b _ => b = w.heap.size + 1 + 1) (Wrote.setCell (b := w.heap.size + 1 + 1) (o := 17) (R := fun b _ => b = w.heap.size + 1 + 1) (Wrote.setCell (b := w.heap.size + 1 + 1) (o := 16) (R := fun b _ => b = w.heap.size + 1 + 1) (Wrote.setCell (b := w.heap.size + 1 + 1) (o := 15) (R := fun b _ => b = w.heap.size + 1 + 1) (Wrote.setCell (b := w.heap.size + 1 + 1) (o := 14) (R := fun b _ => b = w.heap.size + 1 + 1) (Wrote.setCell (b := w.heap.size + 1 + 1) (o := 13) (R := fun b _ => b = w.heap.size + 1 + 1) (Wrote.setCell (b := w.heap.size + 1 + 1) (o := 12) (R := fun b _ => b = w.heap.size + 1 + 1) (Wrote.refl _ W9) (fun _ => rfl) (.int .i64 d.t)) (fun _ => rfl) (.int .i64 d.c)) (fun _ => rfl) (.int .i64 d.s)) (fun _ => rfl) (.int .i64 d.ad)) (fun _ => rfl) (.int .i64 d.pl)) (fun _ => rfl) (.bool d.bl)) (fun _ => rfl) (.slice x3 d.nt y3)) (fun _ => rfl) (.slice x4 d.nd y4)
  replace L0 := L0.trans (TT.below L0.size (fun b o hb (h : b = _) => by omega))
  replace B0 := box_wrote B0 TT (fun o (h : _ = _) => by omega)
  replace B1 := box_wrote B1 TT (fun o (h : _ = _) => by omega)
  replace B2 := box_set (o := 12) B2 (.int .i64 d.t)
  replace B2 := box_set (o := 13) B2 (.int .i64 d.c)
  replace B2 := box_set (o := 14) B2 (.int .i64 d.s)
  replace B2 := box_set (o := 15) B2 (.int .i64 d.ad)
  replace B2 := box_set (o := 16) B2 (.int .i64 d.pl)
  replace B2 := box_set (o := 17) B2 (.bool d.bl)
  replace B2 := box_set (o := 18) B2 (.slice x3 d.nt y3)
  replace B2 := box_set (o := 19) B2 (.slice x4 d.nd y4)
  simp only [List.setIfInBounds_toArray, List.set_cons_succ, List.set_cons_zero] at B2
  replace g0 := g0.keep TT (fun b o hb _ (h : b = _) => by obtain ⟨h1, h2⟩ := hb; omega)
  replace g1 := g1.keep TT (fun b o hb _ (h : b = _) => by obtain ⟨h1, h2⟩ := hb; omega)
  replace g2 := g2.keep TT (fun b o hb _ (h : b = _) => by obtain ⟨h1, h2⟩ := hb; omega)
  replace g3 := g3.keep TT (fun b o hb _ (h : b = _) => by obtain ⟨h1, h2⟩ := hb; omega)
  replace hp5 : Hid (p5 = ((((((((W9.setCell ⟨w.heap.size + 1 + 1, 12, none⟩ (.int .i64 d.t)).setCell ⟨w.heap.size + 1 + 1, 13, none⟩ (.int .i64 d.c)).setCell ⟨w.heap.size + 1 + 1, 14, none⟩ (.int .i64 d.s)).setCell ⟨w.heap.size + 1 + 1, 15, none⟩ (.int .i64 d.ad)).setCell ⟨w.heap.size + 1 + 1, 16, none⟩ (.int .i64 d.pl)).setCell ⟨w.heap.size + 1 + 1, 17, none⟩ (.bool d.bl)).setCell ⟨w.heap.size + 1 + 1, 18, none⟩ (.slice x3 d.nt y3)).setCell ⟨w.heap.size + 1 + 1, 19, none⟩ (.slice x4 d.nd y4)).heap.size) := by show _ = _; rw [hp5.out]; simp
  clear TT
  generalize (((((((W9.setCell ⟨w.heap.size + 1 + 1, 12, none⟩ (.int .i64 d.t)).setCell ⟨w.heap.size + 1 + 1, 13, none⟩ (.int .i64 d.c)).setCell ⟨w.heap.size + 1 + 1, 14, none⟩ (.int .i64 d.s)).setCell ⟨w.heap.size + 1 + 1, 15, none⟩ (.int .i64 d.ad)).setCell ⟨w.heap.size + 1 + 1, 16, none⟩ (.int .i64 d.pl)).setCell ⟨w.heap.size + 1 + 1, 17, none⟩ (.bool d.bl)).setCell ⟨w.heap.size + 1 + 1, 18, none⟩ (.slice x3 d.nt y3)).setCell ⟨w.heap.size + 1 + 1, 19, none⟩ (.slice x4 d.nd y4) = W10 at *
  refine (toApu _ d.T d.P d.K d.B d.L d.Q d.R).mono ?_
  rintro e W11 ⟨rfl, L⟩
  obtain ⟨p6, hp6⟩ : ∃ p, Hid (p = W11.heap.size) := ⟨_, rfl⟩
  have l6 : p5 ≤ p6 := by rw [hp5.out, hp6.out]; exact L.size
  replace L0 := below_snoc L0 L
  replace B0 := box_keep B0 L (boxLt B0)
  replace B1 := box_keep B1 L (boxLt B1)
  replace B2 := box_keep B2 L (boxLt B2)
  replace g0 := g0.below L
  replace g1 := g1.below L
  replace g2 := g2.below L
  replace g3 := g3.below L
  clear L hp5
  have c0 := boxC B0
  have c2 := boxC B2
  have f2 := boxF B2
  go_wp2_with fail
  clear c0 c2 f2
  have TT := Wrote.setCell (b := w.heap.size + 1 + 1) (o := 26) (R := fun b _ => b = w.heap.size + 1 + 1) (Wrote.setCell (b := w.heap.size + 1 + 1) (o := 25) (R := fun b _ => b = w.heap.size + 1 + 1) (Wrote.setCell (b := w.heap.size + 1 + 1) (o := 24) (R := fun b _ => b = w.heap.size + 1 + 1) (Wrote.setCell (b := w.heap.size + 1 + 1) (o := 23) (R := fun b _ => b = w.heap.size + 1 + 1) (Wrote.setCell (b := w.heap.size + 1 + 1) (o := 22) (R := fun b _ => b = w.heap.size + 1 + 1) (Wrote.setCell (b := w.heap.size + 1 + 1) (o := 21) (R := fun b _ => b = w.heap.size + 1 + 1) (Wrote.setCell (b := w.heap.size + 1 + 1) (o := 20) (R := fun b _ => b = w.heap.size + 1 + 1) (Wrote.refl _ W11) (fun _ => rfl) (.int .i64 d.T)) (fun _ => rfl) (.int .i64 d.P)) (fun _ => rfl) (.int .i64 d.K)) (fun _ => rfl) (.int .i64 d.B)) (fun _ => rfl) (.int .i64 d.L)) (fun _ => rfl) (.bool d.Q)) (fun _ => rfl) (.bool d.R)
  replace L0 := L0.trans (TT.below L0.size (fun b o hb (h : b = _) => by omega))
  replace B0 := box_wrote B0 TT (fun o (h : _ = _) => by omega)
  replace B1 := box_wrote B1 TT (fun o (h : _ = _) => by omega)
  replace B2 := box_set (o := 20) B2 (.int .i64 d.T)
  replace B2 := box_set (o := 21) B2 (.int .i64 d.P)
  replace B2 := box_set (o := 22) B2 (.int .i64 d.K)
  replace B2 := box_set (o := 23) B2 (.int .i64 d.B)
  replace B2 := box_set (o := 24) B2 (.int .i64 d.L)
  replace B2 := box_set (o := 25) B2 (.bool d.Q)
  replace B2 := box_set (o := 26) B2 (.bool d.R)
  simp only [List.setIfInBounds_toArray, List.set_cons_succ, List.set_cons_zero] at B2
  replace g0 := g0.keep TT (fun b o hb _ (h : b = _) => by obtain ⟨h1, h2⟩ := hb; omega)
  replace g1 := g1.keep TT (fun b o hb _ (h : b = _) => by obtain ⟨h1, h2⟩ := hb; omega)
  replace g2 := g2.keep TT (fun b o hb _ (h : b = _) => by obtain ⟨h1, h2⟩ := hb; omega)
  replace g3 := g3.keep TT (fun b o hb _ (h : b = _) => by obtain ⟨h1, h2⟩ := hb; omega)
  replace hp6 : Hid (p6 = (((((((W11.setCell ⟨w.heap.size + 1 + 1, 20, none⟩ (.int .i64 d.T)).setCell ⟨w.heap.size + 1 + 1, 21, none⟩ (.int .i64 d.P)).setCell ⟨w.heap.size + 1 + 1, 22, none⟩ (.int .i64 d.K)).setCell ⟨w.heap.size + 1 + 1, 23, none⟩ (.int .i64 d.B)).setCell ⟨w.heap.size + 1 + 1, 24, none⟩ (.int .i64 d.L)).setCell ⟨w.heap.size + 1 + 1, 25, none⟩ (.bool d.Q)).setCell ⟨w.heap.size + 1 + 1, 26, none⟩ (.bool d.R)).heap.size) := by show _ = _; rw [hp6.out]; simp
  clear TT
  generalize ((((((W11.setCell ⟨w.heap.size + 1 + 1, 20, none⟩ (.int .i64 d.T)).setCell ⟨w.heap.size + 1 + 1, 21, none⟩ (.int .i64 d.P)).setCell ⟨w.heap.size + 1 + 1, 22, none⟩ (.int .i64 d.K)).setCell ⟨w.heap.size + 1 + 1, 23, none⟩ (.int .i64 d.B)).setCell ⟨w.heap.size + 1 + 1, 24, none⟩ (.int .i64 d.L)).setCell ⟨w.heap.size + 1 + 1, 25, none⟩ (.bool d.Q)).setCell ⟨w.heap.size + 1 + 1, 26, none⟩ (.bool d.R) = W12 at *
  refine (toPad _ d.hd d.sh).mono ?_
  rintro e W13 ⟨rfl, L⟩
  obtain ⟨p7, hp7⟩ : ∃ p, Hid (p = W13.heap.size) := ⟨_, rfl⟩
  have l7 : p6 ≤ p7 := by rw [hp6.out, hp7.out]; exact L.size
  replace L0 := below_snoc L0 L
  replace B0 := box_keep B0 L (boxLt B0)
  replace B1 := box_keep B1 L (boxLt B1)
  replace B2 := box_keep B2 L (boxLt B2)
  replace g0 := g0.below L
  replace g1 := g1.below L
  replace g2 := g2.below L
  replace g3 := g3.below L
  clear L hp6
  have c0 := boxC B0
  have c2 := boxC B2
  have f2 := boxF B2
  go_wp2_with fail
  clear c0 c2 f2
  have TT := Wrote.setCell (b := w.heap.size + 1 + 1) (o := 30) (R := fun b _ => b = w.heap.size + 1 + 1) (Wrote.setCell (b := w.heap.size + 1 + 1) (o := 29) (R := fun b _ => b = w.heap.size + 1 + 1) (Wrote.setCell (b := w.heap.size + 1 + 1) (o := 28) (R := fun b _ => b = w.heap.size + 1 + 1) (Wrote.setCell (b := w.heap.size + 1 + 1) (o := 27) (R := fun b _ => b = w.heap.size + 1 + 1) (Wrote.refl _ W13) (fun _ => rfl) (.bool d.hd)) (fun _ => rfl) (.int .i64 d.sh)) (fun _ => rfl) (.bool d.nmi)) (fun _ => rfl) (.int .i64 d.st)
  replace L0 := L0.trans (TT.below L0.size (fun b o hb (h : b = _) => by omega))
  replace B0 := box_wrote B0 TT (fun o (h : _ = _) => by omega)
  replace B1 := box_wrote B1 TT (fun o (h : _ = _) => by omega)
  replace B2 := box_set (o := 27) B2 (.bool d.hd)
  replace B2 := box_set (o := 28) B2 (.int .i64 d.sh)
  replace B2 := box_set (o := 29) B2 (.bool d.nmi)
  replace B2 := box_set (o := 30) B2 (.int .i64 d.st)
  simp only [List.setIfInBounds_toArray, List.set_cons_succ, List.set_cons_zero] at B2
  replace g0 := g0.keep TT (fun b o hb _ (h : b = _) => by obtain ⟨h1, h2⟩ := hb; omega)
  replace g1 := g1.keep TT (fun b o hb _ (h : b = _) => by obtain ⟨h1, h2⟩ := hb; omega)
  replace g2 := g2.keep TT (fun b o hb _ (h : b = _) => by obtain ⟨h1, h2⟩ := hb; omega)
  replace g3 := g3.keep TT (fun b o hb _ (h : b = _) => by obtain ⟨h1, h2⟩ := hb; omega)
  replace hp7 : Hid (p7 = ((((W13.setCell ⟨w.heap.size + 1 + 1, 27, none⟩ (.bool d.hd)).setCell ⟨w.heap.size + 1 + 1, 28, none⟩ (.int .i64 d.sh)).setCell ⟨w.heap.size + 1 + 1, 29, none⟩ (.bool d.nmi)).setCell ⟨w.heap.size + 1 + 1, 30, none⟩ (.int .i64 d.st)).heap.size) := by show _ = _; rw [hp7.out]; simp
  clear TT
  generalize (((W13.setCell ⟨w.heap.size + 1 + 1, 27, none⟩ (.bool d.hd)).setCell ⟨w.heap.size + 1 + 1, 28, none⟩ (.int .i64 d.sh)).setCell ⟨w.heap.size + 1 + 1, 29, none⟩ (.bool d.nmi)).setCell ⟨w.heap.size + 1 + 1, 30, none⟩ (.int .i64 d.st) = W14 at *
  refine (onToObs _ F5 F6 F7 _ _ _ d.mf d.lf d.fr d.ns d.sm d.nq d.rd (H5.keep (wrote_below L0 Nowhere) (fun _ _ _ x => x)) (H6.keep (wrote_below L0 Nowhere) (fun _ _ _ x => x)) (H7.keep (wrote_below L0 Nowhere) (fun _ _ _ x => x)) hf).mono ?_
  rintro e W15 ⟨v5, rfl, ⟨DO, g4, dO, bO⟩, L⟩
  obtain ⟨p8, hp8⟩ : ∃ p, Hid (p = W15.heap.size) := ⟨_, rfl⟩
  have l8 : p7 ≤ p8 := by rw [hp7.out, hp8.out]; exact L.size
  rw [← hp7.out, ← hp8.out] at bO
  replace L0 := below_snoc L0 L
  replace B0 := box_keep B0 L (boxLt B0)
  replace B1 := box_keep B1 L (boxLt B1)
  replace B2 := box_keep B2 L (boxLt B2)
  replace g0 := g0.below L
  replace g1 := g1.below L
  replace g2 := g2.below L
  replace g3 := g3.below L
  clear L hp7
  obtain ⟨z5, z6, z7, rfl, m5, m6, m7⟩ := g4
  obtain ⟨x5, y5, rfl⟩ := m5.form
  obtain ⟨x6, y6, rfl⟩ := m6.two
  obtain ⟨x7, y7, rfl⟩ := m7.two
  have c0 := boxC B0
  have c2 := boxC B2
  have f2 := boxF B2
  go_upto_region 12 with (fail)
  clear c0 c2 f2
  have TT := Wrote.setCell (b := w.heap.size + 1 + 1) (o := 33) (R := fun b _ => b = w.heap.size + 1 + 1) (Wrote.setCell (b := w.heap.size + 1 + 1) (o := 32) (R := fun b _ => b = w.heap.size + 1 + 1) (Wrote.setCell (b := w.heap.size + 1 + 1) (o := 31) (R := fun b _ => b = w.heap.size + 1 + 1) (Wrote.refl _ W15) (fun _ => rfl) (.slice x5 d.mf y5)) (fun _ => rfl) (.slice x6 d.ns y6)) (fun _ => rfl) (.slice x7 d.nq y7)
  replace L0 := L0.trans (TT.below L0.size (fun b o hb (h : b = _) => by omega))
  replace B0 := box_wrote B0 TT (fun o (h : _ = _) => by omega)
  replace B1 := box_wrote B1 TT (fun o (h : _ = _) => by omega)
  replace B2 := box_set (o := 31) B2 (.slice x5 d.mf y5)
  replace B2 := box_set (o := 32) B2 (.slice x6 d.ns y6)
  replace B2 := box_set (o := 33) B2 (.slice x7 d.nq y7)
  simp only [List.setIfInBounds_toArray, List.set_cons_succ, List.set_cons_zero] at B2
  replace g0 := g0.keep TT (fun b o hb _ (h : b = _) => by obtain ⟨h1, h2⟩ := hb; omega)
  replace g1 := g1.keep TT (fun b o hb _ (h : b = _) => by obtain ⟨h1, h2⟩ := hb; omega)
  replace g2 := g2.keep TT (fun b o hb _ (h : b = _) => by obtain ⟨h1, h2⟩ := hb; omega)
  replace g3 := g3.keep TT (fun b o hb _ (h : b = _) => by obtain ⟨h1, h2⟩ := hb; omega)
  replace m5 := m5.keep TT (fun b o hb _ (h : b = _) => by have := bO _ _ hb; omega)
  replace m6 := m6.keep TT (fun b o hb _ (h : b = _) => by have := bO _ _ hb; omega)
  replace m7 := m7.keep TT (fun b o hb _ (h : b = _) => by have := bO _ _ hb; omega)
  replace hp8 : Hid (p8 = (((W15.setCell ⟨w.heap.size + 1 + 1, 31, none⟩ (.slice x5 d.mf y5)).setCell ⟨w.heap.size + 1 + 1, 32, none⟩ (.slice x6 d.ns y6)).setCell ⟨w.heap.size + 1 + 1, 33, none⟩ (.slice x7 d.nq y7)).heap.size) := by show _ = _; rw [hp8.out]; simp
  clear TT
  generalize ((W15.setCell ⟨w.heap.size + 1 + 1, 31, none⟩ (.slice x5 d.mf y5)).setCell ⟨w.heap.size + 1 + 1, 32, none⟩ (.slice x6 d.ns y6)).setCell ⟨w.heap.size + 1 + 1, 33, none⟩ (.slice x7 d.nq y7) = W16 at *
  rename_i K1 hK1
  refine wp_region_lit ?_
  refine wpList_load_row rfl _ _ rfl (w.heap.size + 1 + 1) rfl _ _ _ _ B2 Try.underlying79 rfl infoLock ?_
  refine wpList_store_row rfl _ _ _ rfl (w.heap.size + 1) _ rfl rfl _ _ B1 infoLock rfl (by first | kernel_rfl | simp [Value.oneCell']) ?_
  refine hK1 _ _ ?_
  have HR := hide (And.intro g0 (And.intro g1 (And.intro g2 (And.intro g3 (And.intro m5 (And.intro m6 m7))))))
  have B3 := setRow_heap _ _ _ #[.slice x0 d.m y0, .slice x1 d.np y1, .slice x2 d.nr y2, .int .i64 d.bank, .int .i64 d.A, .int .i64 d.X, .int .i64 d.S, .int .i64 d.Pc, .bool d.Z, .bool d.N, .bool d.C, .bool d.I, .int .i64 d.t, .int .i64 d.c, .int .i64 d.s, .int .i64 d.ad, .int .i64 d.pl, .bool d.bl, .slice x3 d.nt y3, .slice x4 d.nd y4, .int .i64 d.T, .int .i64 d.P, .int .i64 d.K, .int .i64 d.B, .int .i64 d.L, .bool d.Q, .bool d.R, .bool d.hd, .int .i64 d.sh, .bool d.nmi, .int .i64 d.st, .slice x5 d.mf y5, .slice x6 d.ns y6, .slice x7 d.nq y7] _ _ B1
  have WW := wrote_setRow B1 #[.slice x0 d.m y0, .slice x1 d.np y1, .slice x2 d.nr y2, .int .i64 d.bank, .int .i64 d.A, .int .i64 d.X, .int .i64 d.S, .int .i64 d.Pc, .bool d.Z, .bool d.N, .bool d.C, .bool d.I, .int .i64 d.t, .int .i64 d.c, .int .i64 d.s, .int .i64 d.ad, .int .i64 d.pl, .bool d.bl, .slice x3 d.nt y3, .slice x4 d.nd y4, .int .i64 d.T, .int .i64 d.P, .int .i64 d.K, .int .i64 d.B, .int .i64 d.L, .bool d.Q, .bool d.R, .bool d.hd, .int .i64 d.sh, .bool d.nmi, .int .i64 d.st, .slice x5 d.mf y5, .slice x6 d.ns y6, .slice x7 d.nq y7]
  clear g0 g1 g2 g3 m5 m6 m7 B0 B1 B2 H0 H1 H2 H3 H4 H5 H6 H7
  go_wp2
  refine bodyPost_ret (v := .agg #[.slice x0 d.m y0, .slice x1 d.np y1, .slice x2 d.nr y2, .int .i64 d.bank, .int .i64 d.A, .int .i64 d.X, .int .i64 d.S, .int .i64 d.Pc, .bool d.Z, .bool d.N, .bool d.C, .bool d.I, .int .i64 d.t, .int .i64 d.c, .int .i64 d.s, .int .i64 d.ad, .int .i64 d.pl, .bool d.bl, .slice x3 d.nt y3, .slice x4 d.nd y4, .int .i64 d.T, .int .i64 d.P, .int .i64 d.K, .int .i64 d.B, .int .i64 d.L, .bool d.Q, .bool d.R, .bool d.hd, .int .i64 d.sh, .bool d.nmi, .int .i64 d.st, .slice x5 d.mf y5, .slice x6 d.ns y6, .slice x7 d.nq y7]) (results_cell_row (by rfl) _ _ (w.heap.size + 1) _ _ _ _ rfl B3 Try.underlying79 rfl infoLock) rfl ?_
  generalize W16.setRow (w.heap.size + 1) #[.slice x0 d.m y0, .slice x1 d.np y1, .slice x2 d.nr y2, .int .i64 d.bank, .int .i64 d.A, .int .i64 d.X, .int .i64 d.S, .int .i64 d.Pc, .bool d.Z, .bool d.N, .bool d.C, .bool d.I, .int .i64 d.t, .int .i64 d.c, .int .i64 d.s, .int .i64 d.ad, .int .i64 d.pl, .bool d.bl, .slice x3 d.nt y3, .slice x4 d.nd y4, .int .i64 d.T, .int .i64 d.P, .int .i64 d.K, .int .i64 d.B, .int .i64 d.L, .bool d.Q, .bool d.R, .bool d.hd, .int .i64 d.sh, .bool d.nmi, .int .i64 d.st, .slice x5 d.mf y5, .slice x6 d.ns y6, .slice x7 d.nq y7] = W17 at *
  obtain ⟨g0, g1, g2, g3, m5, m6, m7⟩ := HR.out
  have hsz := WW.size
  have hpp := hp8.out
  refine ⟨_, rfl, ⟨fun i b => (i = 0 ∧ p0 ≤ b ∧ b < p1) ∨ (i = 1 ∧ p1 ≤ b ∧ b < p2) ∨ (i = 2 ∧ p2 ≤ b ∧ b < p3) ∨ (i = 3 ∧ p4 ≤ b ∧ b < p5) ∨ (4 ≤ i ∧ DO i b), ⟨_, _, _, _, _, _, _, _, rfl,
    (g0.keep WW (fun b o hb _ (h : b = _) => by obtain ⟨h1, h2⟩ := hb; omega)).mono (fun b _ h => Or.inl ⟨rfl, h⟩),
    (g1.keep WW (fun b o hb _ (h : b = _) => by obtain ⟨h1, h2⟩ := hb; omega)).mono (fun b _ h => Or.inr (Or.inl ⟨rfl, h⟩)),
    (g2.keep WW (fun b o hb _ (h : b = _) => by obtain ⟨h1, h2⟩ := hb; omega)).mono (fun b _ h => Or.inr (Or.inr (Or.inl ⟨rfl, h⟩))),
    (g3.keep WW (fun b o hb _ (h : b = _) => by obtain ⟨h1, h2⟩ := hb; omega)).mono (fun b _ h => Or.inr (Or.inr (Or.inr (Or.inl ⟨rfl, h⟩)))),
    ⟨_, _, _, rfl, (m5.keep WW (fun b o hb _ (h : b = _) => by have := bO _ _ hb; omega)).mono (fun b _ h => Or.inr (Or.inr (Or.inr (Or.inr ⟨by decide, h⟩)))), (m6.keep WW (fun b o hb _ (h : b = _) => by have := bO _ _ hb; omega)).mono (fun b _ h => Or.inr (Or.inr (Or.inr (Or.inr ⟨by decide, h⟩)))), (m7.keep WW (fun b o hb _ (h : b = _) => by have := bO _ _ hb; omega)).mono (fun b _ h => Or.inr (Or.inr (Or.inr (Or.inr ⟨by decide, h⟩))))⟩⟩, ?_, ?_⟩, L0.trans (WW.below L0.size (fun b o hb (h : b = _) => by omega))⟩
  · intro i j b h1 h2
    rcases h1 with ⟨rfl, _, _⟩ | ⟨rfl, _, _⟩ | ⟨rfl, _, _⟩ | ⟨rfl, _, _⟩ | ⟨q1, h1⟩ <;> rcases h2 with ⟨rfl, _, _⟩ | ⟨rfl, _, _⟩ | ⟨rfl, _, _⟩ | ⟨rfl, _, _⟩ | ⟨q2, h2⟩ <;> first | rfl | omega | (have := bO _ _ h1; omega) | (have := bO _ _ h2; omega) | exact dO _ _ _ h1 h2
  · intro i b h
    rcases h with ⟨rfl, _, _⟩ | ⟨rfl, _, _⟩ | ⟨rfl, _, _⟩ | ⟨rfl, _, _⟩ | ⟨q1, h1⟩ <;> first | omega | (have := bO _ _ h1; omega)
end Go.Proofs.Ytmccplbfggcogaa
