/-
  FnExactObsOf.
-/
import Derived.Test.YtjcaligejlhjdaaGreatNG
import Derived.Test.YtjcaligejlhjdaaGreatUM
import Derived.Test.YtjcaligejlhjdaaGreatG0
import Derived.Deep.RegionHeld3
import Derived.Deep.DeepCutAuto
import Derived.Deep.WholeRow
namespace Go.Proofs.YtjcaligejlhjdaaGreat
set_option linter.unusedVariables false
set_option linter.unusedSimpArgs false
open Go.ChangeShapes Go.WideShapes Go.ChangeAt Go.RowKit
theorem wpList_load_rowG17 {P : Program} {ops : Array Oper} {rest : List Oper} {o : Oper} {a : Act} {w : World} {Q : Exit → Act → World → Prop} (hw : Region.wanted o (yielded ops a.tmps) = true) (ty : TypeId) (x : Operand) (ho : o.op = .load ty x)
    (g : Nat) (hx : a.eval x = .pointer (some ⟨g, 0, none⟩)) (t : TypeId) (cs : Array Value) (fr : Nat × Nat) (d : TypeDesc) (hg : w.heap[g]? = some (.cells cs t fr))
    (hu : P.underlying ty = some d) (hd : (match d with | .struct _ | .array _ _ => true | _ => false) = true) (hi : (P.info? ty).map (·.size) = some cs.size)
    (h : wpList P ops Q rest (a.put o.dst (.agg cs)) w) : wpList P ops Q (o :: rest) a w :=
  wpList_step fun K hK => by rw [if_pos hw]; exact wp_load_row ty x ho g hx t cs fr d hg hu hd hi (hK _ _ h)
theorem box_wrote17 {W W' : World} {b : Nat} {cs : Array Value} {t : TypeId} {R : Nat → Nat → Prop} (h : W.heap[b]? = some (.cells cs t (0, 0))) (hw : Wrote R W W') (hn : ∀ o, ¬ R b o) : W'.heap[b]? = some (.cells cs t (0, 0)) := (hw.block b (boxLt h) hn).trans h
/-- A console apart on a stretch of blocks. -/
def SpP (d : SpD) (lo hi : Nat) (W : World) (v : Value) : Prop := ∃ D, SplitOn W D v d ∧ Dis D ∧ ∀ i b, D i b → lo ≤ b ∧ b < hi
theorem SpP.keepP {d : SpD} {R : Nat → Nat → Prop} {lo hi : Nat} {W W' : World} {v : Value} (hw : Wrote R W W') (hd : ∀ b o, lo ≤ b → b < hi → ¬ R b o) (H : SpP d lo hi W v) : SpP d lo hi W' v := by
  obtain ⟨D, h, h1, h2⟩ := H
  exact ⟨D, h.keep hw (fun i b o hb _ => hd b o (h2 i b hb).1 (h2 i b hb).2), h1, h2⟩
theorem rawSzSplit {w W : World} {d : SpD} (u0 : Value) (ra0 : Nat → Option Addr) (rc0 : Nat → Nat) (a1 : Option Addr) (c1 : Nat) (a2 : Option Addr) (c2 : Nat) (a3 : Option Addr) (c3 : Nat) (b1 : Option Addr) (y1 : Nat) (b2 : Option Addr) (y2 : Nat) (b3 : Option Addr) (y3 : Nat) (b4 : Option Addr) (y4 : Nat) (ra4 : Nat → Option Addr) (rc4 : Nat → Nat) (e1 : Option Addr) (z1 : Nat) (e2 : Option Addr) (z2 : Nat) (H : RawS w d u0 ra0 rc0 a1 c1 a2 c2 a3 c3 b1 y1 b2 y2 b3 y3 b4 y4 ra4 rc4 e1 z1 e2 z2) (L : Below w.heap.size w W) :
    Calls Tryz.prog 17 #[.agg #[u0, .slice a1 d.np c1, .slice a2 d.nr c2, .int .i64 d.bank, .int .i64 d.A, .int .i64 d.X, .int .i64 d.S, .int .i64 d.Pc, .bool d.Z, .bool d.N, .bool d.C, .bool d.I, .bool d.hd, .int .i64 d.sh, .int .i64 d.T, .bool d.nmi, .int .i64 d.ctrl, .bool d.kn, .int .i64 d.ka, .int .i64 d.st, .slice a3 d.nq c3, .int .i64 d.pc.t, .int .i64 d.pc.c, .int .i64 d.pc.s, .int .i64 d.pc.ad, .int .i64 d.pc.pl, .bool d.pc.bl, .slice b1 d.pc.nt y1, .slice b2 d.pc.nd y2, .int .i64 d.pc.cap, .slice b3 d.pc.n y3, .slice b4 d.pc.mf y4, .int .i64 d.sn.T, .int .i64 d.sn.P, .int .i64 d.sn.C, .int .i64 d.sn.B, .int .i64 d.sn.L, .bool d.sn.S, .bool d.sn.Q, .int .i64 d.sn.cap, .slice e1 d.sn.n z1, .slice e2 d.sn.ns z2], .int .i64 1048576] W fun e w' => e = .returned (.int .i64 (szOut 1048576 (szSp d))) ∧ Below W.heap.size W w' :=
  szSplit W d u0 ra0 rc0 a1 c1 a2 c2 a3 c3 b1 y1 b2 y2 b3 y3 b4 y4 ra4 rc4 e1 z1 e2 z2 1048576 (H.r0.below L) (H.r7.below L) H.n1 H.n2 H.n3 H.n4 H.n5 H.n6 H.n7 H.n8 (by omega) (by omega)
theorem rawToSplit {w W : World} {d : SpD} (u0 : Value) (ra0 : Nat → Option Addr) (rc0 : Nat → Nat) (a1 : Option Addr) (c1 : Nat) (a2 : Option Addr) (c2 : Nat) (a3 : Option Addr) (c3 : Nat) (b1 : Option Addr) (y1 : Nat) (b2 : Option Addr) (y2 : Nat) (b3 : Option Addr) (y3 : Nat) (b4 : Option Addr) (y4 : Nat) (ra4 : Nat → Option Addr) (rc4 : Nat → Nat) (e1 : Option Addr) (z1 : Nat) (e2 : Option Addr) (z2 : Nat) (H : RawS w d u0 ra0 rc0 a1 c1 a2 c2 a3 c3 b1 y1 b2 y2 b3 y3 b4 y4 ra4 rc4 e1 z1 e2 z2) (hs : szSp d ≤ 1048576) (L : Below w.heap.size w W) :
    Calls Tryz.prog 19 #[.agg #[u0, .slice a1 d.np c1, .slice a2 d.nr c2, .int .i64 d.bank, .int .i64 d.A, .int .i64 d.X, .int .i64 d.S, .int .i64 d.Pc, .bool d.Z, .bool d.N, .bool d.C, .bool d.I, .bool d.hd, .int .i64 d.sh, .int .i64 d.T, .bool d.nmi, .int .i64 d.ctrl, .bool d.kn, .int .i64 d.ka, .int .i64 d.st, .slice a3 d.nq c3, .int .i64 d.pc.t, .int .i64 d.pc.c, .int .i64 d.pc.s, .int .i64 d.pc.ad, .int .i64 d.pc.pl, .bool d.pc.bl, .slice b1 d.pc.nt y1, .slice b2 d.pc.nd y2, .int .i64 d.pc.cap, .slice b3 d.pc.n y3, .slice b4 d.pc.mf y4, .int .i64 d.sn.T, .int .i64 d.sn.P, .int .i64 d.sn.C, .int .i64 d.sn.B, .int .i64 d.sn.L, .bool d.sn.S, .bool d.sn.Q, .int .i64 d.sn.cap, .slice e1 d.sn.n z1, .slice e2 d.sn.ns z2]] W fun e w' => ∃ c : Array Value, c.size = 42 ∧ c.all (·.oneCell') = true ∧ e = .returned (.agg c) ∧ SpP d W.heap.size w'.heap.size w' (.agg c) ∧ Below W.heap.size W w' := by
  refine (onToSplit W u0 _ _ _ _ _ b3 y3 _ e1 z1 e2 z2 d (H.raw hs L) hs).mono ?_
  rintro e w' ⟨v, rfl, ⟨D, o, h1, h2⟩, L'⟩
  obtain ⟨cs', rfl, hs', ho'⟩ := o.agg
  exact ⟨cs', hs', ho', rfl, ⟨D, o, h1, h2⟩, L'⟩
theorem markSpP {d : SpD} {lo hi : Nat} {W : World} {v : Value} (hs : szSp d ≤ 1048576) (hh : hi ≤ W.heap.size) (H : SpP d lo hi W v) :
    Calls Tryz.prog 15 #[v, .int .i64 1] W fun e w' => e = .returned (.int .i64 (1 + markSN d)) ∧ Wrote (fun b _ => lo ≤ b ∧ b < hi) W w' := by
  obtain ⟨D, h, h1, h2⟩ := H
  refine (onMarkSplit W D v d 1 h h1 (fun i b hb => Nat.lt_of_lt_of_le (h2 i b hb).2 hh) (by omega) (by unfold szSp at hs; unfold markSN; omega)).mono ?_
  rintro e w' ⟨rfl, -, T⟩
  exact ⟨rfl, T.mono (fun b o _ ⟨i, hb⟩ => h2 i b hb)⟩
theorem markSN_nn (d : SpD) : 0 ≤ 1 + markSN d := by unfold markSN; omega
/-- What is seen on a stretch of blocks. -/
def ObsP (o : ObD) (lo hi : Nat) (W : World) (v : Value) : Prop := ∃ D, ObA W D v o ∧ Dis D ∧ ∀ i b, D i b → lo ≤ b ∧ b < hi
theorem ObsP.keepP {o : ObD} {R : Nat → Nat → Prop} {lo hi : Nat} {W W' : World} {v : Value} (hw : Wrote R W W') (hd : ∀ b o, lo ≤ b → b < hi → ¬ R b o) (H : ObsP o lo hi W v) : ObsP o lo hi W' v := by
  obtain ⟨D, ⟨u5, u6, u7, e, h5, h6, h7⟩, h1, h2⟩ := H
  exact ⟨D, ⟨u5, u6, u7, e, h5.keep hw (fun b o hb _ => hd b o (h2 4 b hb).1 (h2 4 b hb).2), h6.keep hw (fun b o hb _ => hd b o (h2 5 b hb).1 (h2 5 b hb).2), h7.keep hw (fun b o hb _ => hd b o (h2 6 b hb).1 (h2 6 b hb).2)⟩, h1, h2⟩
theorem obA_agg17 {W : World} {D : Nat → Nat → Prop} {v : Value} {o : ObD} (H : ObA W D v o) : ∃ cs : Array Value, v = .agg cs ∧ cs.size = 3 ∧ cs.all (·.oneCell') = true := by
  obtain ⟨u5, u6, u7, rfl, h5, h6, h7⟩ := H
  obtain ⟨a5, c5, rfl⟩ := h5.form
  obtain ⟨a6, c6, rfl⟩ := h6.two
  obtain ⟨a7, c7, rfl⟩ := h7.two
  exact ⟨_, rfl, rfl, by simp [Value.oneCell']⟩
theorem ObCp.out17 {w w' : World} {v : Value} {o : ObD} (H : ObCp w w' v o) : ∃ c : Array Value, v = .agg c ∧ c.size = 3 ∧ c.all (·.oneCell') = true ∧ ObsP o w.heap.size w'.heap.size w' v := by
  obtain ⟨D, h, h1, h2⟩ := H
  obtain ⟨c, e, s1, s2⟩ := obA_agg17 h
  exact ⟨c, e, s1, s2, D, h, h1, h2⟩
end Go.Proofs.YtjcaligejlhjdaaGreat
