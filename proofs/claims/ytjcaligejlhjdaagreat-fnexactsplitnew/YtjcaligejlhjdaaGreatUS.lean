/-
  Chapter 15 of the program by its contracts: a copy of a console apart.
-/
import Derived.Test.YtjcaligejlhjdaaGreatUR
import Derived.Test.YtjcaligejlhjdaaGreatI6c
import Derived.Deep.DeepCutAuto
namespace Go.Proofs.YtjcaligejlhjdaaGreat
set_option linter.unusedVariables false
set_option linter.unusedSimpArgs false
open Go.ChangeShapes Go.WideShapes Go.ChangeAt Go.RowKit
/-- A console apart in new memory, its lists apart; what was read can be added to. -/
structure SplitCp (w w' : World) (v : Value) (d : SpD) : Prop where
  ex : ∃ D cs u3 o3, v = .agg cs ∧ SplitOn w' D v d ∧ Dis D ∧ (∀ i b, D i b → w.heap.size ≤ b ∧ b < w'.heap.size) ∧ cs[20]? = some u3 ∧ RowAt w' w.heap.size o3 u3 d.nq d.rd ∧ ∀ b, o3 = some b → D 3 b
theorem RowAt.onR {W : World} {lo : Nat} {o : Option Nat} {v : Value} {n : Nat} {f : Nat → Int} (h : RowAt W lo o v n f) : ListOn W (fun b => o = some b) v n f := by
  obtain ⟨a, x, e, hS⟩ := h.sl
  exact ⟨a, x, e, hS.small, hS.row, hS.free, fun b k hF => hS.on b k hF⟩
set_option maxRecDepth 40000 in
set_option maxHeartbeats 8000000 in
theorem copySplit (w : World) (E : Nat → Nat → Prop) (v : Value) (d : SpD) (H : SplitOn w E v d) : Calls Tryz.prog 36 #[v] w fun e w' => ∃ v', e = .returned v' ∧ SplitCp w w' v' d ∧ Below w.heap.size w w' := by
  obtain ⟨u0, u1, u2, u3, q1, q2, q3, q4, r1, r2, rfl, h0, h1, h2, h3, h4, h5⟩ := H
  have hps := hide h0.psumR
  obtain ⟨a0, c0, rfl⟩ := h0.form
  obtain ⟨a1, c1, rfl⟩ := h1.two
  obtain ⟨a2, c2, e2⟩ := h2.two
  simp only [Value.agg.injEq, Array.mk.injEq, List.cons.injEq, and_true] at e2
  subst e2
  obtain ⟨a3, c3, rfl⟩ := h3.two
  obtain ⟨a4, c4, a5, c5, a6, c6, a7, c7, e4⟩ := h4.form
  simp only [Value.agg.injEq, Array.mk.injEq, List.cons.injEq, and_true, true_and] at e4
  obtain ⟨rfl, rfl, rfl, rfl⟩ := e4
  obtain ⟨a8, c8, a9, c9, e5⟩ := h5.form
  simp only [Value.agg.injEq, Array.mk.injEq, List.cons.injEq, and_true, true_and] at e5
  obtain ⟨rfl, rfl⟩ := e5
  have H0 := hide (fun W (L : Below w.heap.size w W) => copyImage W _ _ d.m d.ln d.f (h0.keep (wrote_below L Nowhere) (fun _ _ _ _ x => x)).ints)
  have H1 := hide (fun W (L : Below w.heap.size w W) => cloneRow W _ _ d.np d.p (h1.keep (wrote_below L Nowhere) (fun _ _ _ _ x => x)).intsR)
  obtain ⟨y2, hy2, g2⟩ := h2.ints
  simp only [Value.agg.injEq, Array.mk.injEq, List.cons.injEq, and_true] at hy2
  subst hy2
  have H2 := hide (fun W (L : Below w.heap.size w W) => copyMem W _ _ d.nr d.g d.bank (g2.keep (wrote_below L Nowhere) (fun _ _ _ x => x)))
  have H3 := hide (fun W (L : Below w.heap.size w W) => cloneRow W _ _ d.nq d.rd (h3.keep (wrote_below L Nowhere) (fun _ _ _ _ x => x)).intsR)
  have H4 := hide (fun W (L : Below w.heap.size w W) => copyPicture W _ _ d.pc (h4.keep (wrote_below L Nowhere) (fun _ _ _ _ _ x => x)))
  have H5 := hide (fun W (L : Below w.heap.size w W) => copySound W _ _ d.sn (h5.keep (wrote_below L Nowhere) (fun _ _ _ _ _ x => x)))
  clear h0 h1 h2 h3 h4 h5 g2
  have L0 : Below w.heap.size w ((w.alloc (.cells #[.slice a0 d.m c0, .slice a1 d.np c1, .slice a2 d.nr c2, .int .i64 d.bank, .int .i64 d.A, .int .i64 d.X, .int .i64 d.S, .int .i64 d.Pc, .bool d.Z, .bool d.N, .bool d.C, .bool d.I, .bool d.hd, .int .i64 d.sh, .int .i64 d.T, .bool d.nmi, .int .i64 d.ctrl, .bool d.kn, .int .i64 d.ka, .int .i64 d.st, .slice a3 d.nq c3, .int .i64 d.pc.t, .int .i64 d.pc.c, .int .i64 d.pc.s, .int .i64 d.pc.ad, .int .i64 d.pc.pl, .bool d.pc.bl, .slice a4 d.pc.nt c4, .slice a5 d.pc.nd c5, .int .i64 d.pc.cap, .slice a6 d.pc.n c6, .slice a7 d.pc.mf c7, .int .i64 d.sn.T, .int .i64 d.sn.P, .int .i64 d.sn.C, .int .i64 d.sn.B, .int .i64 d.sn.L, .bool d.sn.S, .bool d.sn.Q, .int .i64 d.sn.cap, .slice a8 d.sn.n c8, .slice a9 d.sn.ns c9] 46)).alloc (.cells #[.slice none 0 0, .slice none 0 0, .slice none 0 0, .int .i64 0, .int .i64 0, .int .i64 0, .int .i64 0, .int .i64 0, .bool false, .bool false, .bool false, .bool false, .bool false, .int .i64 0, .int .i64 0, .bool false, .int .i64 0, .bool false, .int .i64 0, .int .i64 0, .slice none 0 0, .int .i64 0, .int .i64 0, .int .i64 0, .int .i64 0, .int .i64 0, .bool false, .slice none 0 0, .slice none 0 0, .int .i64 0, .slice none 0 0, .slice none 0 0, .int .i64 0, .int .i64 0, .int .i64 0, .int .i64 0, .int .i64 0, .bool false, .bool false, .int .i64 0, .slice none 0 0, .slice none 0 0] 46)) := ((Below.refl _ _).alloc (Nat.le_refl _) _).alloc (by simp) _
  have B0 : ((w.alloc (.cells #[.slice a0 d.m c0, .slice a1 d.np c1, .slice a2 d.nr c2, .int .i64 d.bank, .int .i64 d.A, .int .i64 d.X, .int .i64 d.S, .int .i64 d.Pc, .bool d.Z, .bool d.N, .bool d.C, .bool d.I, .bool d.hd, .int .i64 d.sh, .int .i64 d.T, .bool d.nmi, .int .i64 d.ctrl, .bool d.kn, .int .i64 d.ka, .int .i64 d.st, .slice a3 d.nq c3, .int .i64 d.pc.t, .int .i64 d.pc.c, .int .i64 d.pc.s, .int .i64 d.pc.ad, .int .i64 d.pc.pl, .bool d.pc.bl, .slice a4 d.pc.nt c4, .slice a5 d.pc.nd c5, .int .i64 d.pc.cap, .slice a6 d.pc.n c6, .slice a7 d.pc.mf c7, .int .i64 d.sn.T, .int .i64 d.sn.P, .int .i64 d.sn.C, .int .i64 d.sn.B, .int .i64 d.sn.L, .bool d.sn.S, .bool d.sn.Q, .int .i64 d.sn.cap, .slice a8 d.sn.n c8, .slice a9 d.sn.ns c9] 46)).alloc (.cells #[.slice none 0 0, .slice none 0 0, .slice none 0 0, .int .i64 0, .int .i64 0, .int .i64 0, .int .i64 0, .int .i64 0, .bool false, .bool false, .bool false, .bool false, .bool false, .int .i64 0, .int .i64 0, .bool false, .int .i64 0, .bool false, .int .i64 0, .int .i64 0, .slice none 0 0, .int .i64 0, .int .i64 0, .int .i64 0, .int .i64 0, .int .i64 0, .bool false, .slice none 0 0, .slice none 0 0, .int .i64 0, .slice none 0 0, .slice none 0 0, .int .i64 0, .int .i64 0, .int .i64 0, .int .i64 0, .int .i64 0, .bool false, .bool false, .int .i64 0, .slice none 0 0, .slice none 0 0] 46)).heap[w.heap.size]? = some (.cells #[.slice a0 d.m c0, .slice a1 d.np c1, .slice a2 d.nr c2, .int .i64 d.bank, .int .i64 d.A, .int .i64 d.X, .int .i64 d.S, .int .i64 d.Pc, .bool d.Z, .bool d.N, .bool d.C, .bool d.I, .bool d.hd, .int .i64 d.sh, .int .i64 d.T, .bool d.nmi, .int .i64 d.ctrl, .bool d.kn, .int .i64 d.ka, .int .i64 d.st, .slice a3 d.nq c3, .int .i64 d.pc.t, .int .i64 d.pc.c, .int .i64 d.pc.s, .int .i64 d.pc.ad, .int .i64 d.pc.pl, .bool d.pc.bl, .slice a4 d.pc.nt c4, .slice a5 d.pc.nd c5, .int .i64 d.pc.cap, .slice a6 d.pc.n c6, .slice a7 d.pc.mf c7, .int .i64 d.sn.T, .int .i64 d.sn.P, .int .i64 d.sn.C, .int .i64 d.sn.B, .int .i64 d.sn.L, .bool d.sn.S, .bool d.sn.Q, .int .i64 d.sn.cap, .slice a8 d.sn.n c8, .slice a9 d.sn.ns c9] 46 (0, 0)) := boxA (box_new w _ _) _
  have B1 : ((w.alloc (.cells #[.slice a0 d.m c0, .slice a1 d.np c1, .slice a2 d.nr c2, .int .i64 d.bank, .int .i64 d.A, .int .i64 d.X, .int .i64 d.S, .int .i64 d.Pc, .bool d.Z, .bool d.N, .bool d.C, .bool d.I, .bool d.hd, .int .i64 d.sh, .int .i64 d.T, .bool d.nmi, .int .i64 d.ctrl, .bool d.kn, .int .i64 d.ka, .int .i64 d.st, .slice a3 d.nq c3, .int .i64 d.pc.t, .int .i64 d.pc.c, .int .i64 d.pc.s, .int .i64 d.pc.ad, .int .i64 d.pc.pl, .bool d.pc.bl, .slice a4 d.pc.nt c4, .slice a5 d.pc.nd c5, .int .i64 d.pc.cap, .slice a6 d.pc.n c6, .slice a7 d.pc.mf c7, .int .i64 d.sn.T, .int .i64 d.sn.P, .int .i64 d.sn.C, .int .i64 d.sn.B, .int .i64 d.sn.L, .bool d.sn.S, .bool d.sn.Q, .int .i64 d.sn.cap, .slice a8 d.sn.n c8, .slice a9 d.sn.ns c9] 46)).alloc (.cells #[.slice none 0 0, .slice none 0 0, .slice none 0 0, .int .i64 0, .int .i64 0, .int .i64 0, .int .i64 0, .int .i64 0, .bool false, .bool false, .bool false, .bool false, .bool false, .int .i64 0, .int .i64 0, .bool false, .int .i64 0, .bool false, .int .i64 0, .int .i64 0, .slice none 0 0, .int .i64 0, .int .i64 0, .int .i64 0, .int .i64 0, .int .i64 0, .bool false, .slice none 0 0, .slice none 0 0, .int .i64 0, .slice none 0 0, .slice none 0 0, .int .i64 0, .int .i64 0, .int .i64 0, .int .i64 0, .int .i64 0, .bool false, .bool false, .int .i64 0, .slice none 0 0, .slice none 0 0] 46)).heap[w.heap.size + 1]? = some (.cells #[.slice none 0 0, .slice none 0 0, .slice none 0 0, .int .i64 0, .int .i64 0, .int .i64 0, .int .i64 0, .int .i64 0, .bool false, .bool false, .bool false, .bool false, .bool false, .int .i64 0, .int .i64 0, .bool false, .int .i64 0, .bool false, .int .i64 0, .int .i64 0, .slice none 0 0, .int .i64 0, .int .i64 0, .int .i64 0, .int .i64 0, .int .i64 0, .bool false, .slice none 0 0, .slice none 0 0, .int .i64 0, .slice none 0 0, .slice none 0 0, .int .i64 0, .int .i64 0, .int .i64 0, .int .i64 0, .int .i64 0, .bool false, .bool false, .int .i64 0, .slice none 0 0, .slice none 0 0] 46 (0, 0)) := by simpa using box_new (w.alloc (.cells #[.slice a0 d.m c0, .slice a1 d.np c1, .slice a2 d.nr c2, .int .i64 d.bank, .int .i64 d.A, .int .i64 d.X, .int .i64 d.S, .int .i64 d.Pc, .bool d.Z, .bool d.N, .bool d.C, .bool d.I, .bool d.hd, .int .i64 d.sh, .int .i64 d.T, .bool d.nmi, .int .i64 d.ctrl, .bool d.kn, .int .i64 d.ka, .int .i64 d.st, .slice a3 d.nq c3, .int .i64 d.pc.t, .int .i64 d.pc.c, .int .i64 d.pc.s, .int .i64 d.pc.ad, .int .i64 d.pc.pl, .bool d.pc.bl, .slice a4 d.pc.nt c4, .slice a5 d.pc.nd c5, .int .i64 d.pc.cap, .slice a6 d.pc.n c6, .slice a7 d.pc.mf c7, .int .i64 d.sn.T, .int .i64 d.sn.P, .int .i64 d.sn.C, .int .i64 d.sn.B, .int .i64 d.sn.L, .bool d.sn.S, .bool d.sn.Q, .int .i64 d.sn.cap, .slice a8 d.sn.n c8, .slice a9 d.sn.ns c9] 46)) #[.slice none 0 0, .slice none 0 0, .slice none 0 0, .int .i64 0, .int .i64 0, .int .i64 0, .int .i64 0, .int .i64 0, .bool false, .bool false, .bool false, .bool false, .bool false, .int .i64 0, .int .i64 0, .bool false, .int .i64 0, .bool false, .int .i64 0, .int .i64 0, .slice none 0 0, .int .i64 0, .int .i64 0, .int .i64 0, .int .i64 0, .int .i64 0, .bool false, .slice none 0 0, .slice none 0 0, .int .i64 0, .slice none 0 0, .slice none 0 0, .int .i64 0, .int .i64 0, .int .i64 0, .int .i64 0, .int .i64 0, .bool false, .bool false, .int .i64 0, .slice none 0 0, .slice none 0 0] 46
  go_enter Tryz.func36, Tryz.ntmps36
  go_upto_region 1 with (fail)
  generalize (w.alloc (.cells #[.slice a0 d.m c0, .slice a1 d.np c1, .slice a2 d.nr c2, .int .i64 d.bank, .int .i64 d.A, .int .i64 d.X, .int .i64 d.S, .int .i64 d.Pc, .bool d.Z, .bool d.N, .bool d.C, .bool d.I, .bool d.hd, .int .i64 d.sh, .int .i64 d.T, .bool d.nmi, .int .i64 d.ctrl, .bool d.kn, .int .i64 d.ka, .int .i64 d.st, .slice a3 d.nq c3, .int .i64 d.pc.t, .int .i64 d.pc.c, .int .i64 d.pc.s, .int .i64 d.pc.ad, .int .i64 d.pc.pl, .bool d.pc.bl, .slice a4 d.pc.nt c4, .slice a5 d.pc.nd c5, .int .i64 d.pc.cap, .slice a6 d.pc.n c6, .slice a7 d.pc.mf c7, .int .i64 d.sn.T, .int .i64 d.sn.P, .int .i64 d.sn.C, .int .i64 d.sn.B, .int .i64 d.sn.L, .bool d.sn.S, .bool d.sn.Q, .int .i64 d.sn.cap, .slice a8 d.sn.n c8, .slice a9 d.sn.ns c9] 46)).alloc (.cells #[.slice none 0 0, .slice none 0 0, .slice none 0 0, .int .i64 0, .int .i64 0, .int .i64 0, .int .i64 0, .int .i64 0, .bool false, .bool false, .bool false, .bool false, .bool false, .int .i64 0, .int .i64 0, .bool false, .int .i64 0, .bool false, .int .i64 0, .int .i64 0, .slice none 0 0, .int .i64 0, .int .i64 0, .int .i64 0, .int .i64 0, .int .i64 0, .bool false, .slice none 0 0, .slice none 0 0, .int .i64 0, .slice none 0 0, .slice none 0 0, .int .i64 0, .int .i64 0, .int .i64 0, .int .i64 0, .int .i64 0, .bool false, .bool false, .int .i64 0, .slice none 0 0, .slice none 0 0] 46) = W0 at *
  obtain ⟨p0, hp0⟩ : ∃ p, Hid (p = W0.heap.size) := ⟨_, rfl⟩
  have l0 : w.heap.size + 1 < p0 := by rw [hp0.out]; exact boxLt B1
  have c0' := boxC B0
  go_wp2_with fail
  clear c0'
  refine (H0.out _ L0).mono ?_
  clear H0
  rintro e W1 ⟨v0, ob0, iv0, ov0, rfl, G0', L⟩
  obtain ⟨p1, hp1⟩ : ∃ p, Hid (p = W1.heap.size) := ⟨_, rfl⟩
  have l1 : p0 ≤ p1 := by rw [hp0.out, hp1.out]; exact L.size
  have G0 : SsOn W1 (fun b => p0 ≤ b ∧ b < p1) v0 d.m d.ln d.f := (G0'.ssR hps.out).mono (fun b hb h => ⟨by rw [hp0.out]; exact h, by rw [hp1.out]; exact hb⟩)
  clear G0'
  obtain ⟨x0, y0, rfl⟩ := G0.form
  replace L0 := below_snoc L0 L
  replace B0 := box_keep B0 L (boxLt B0)
  replace B1 := box_keep B1 L (boxLt B1)
  clear L hp0
  have c0' := boxC B0
  have f0' := boxF B0
  go_upto_region 2 with (fail)
  clear c0' f0'
  have TT := Wrote.setCell (b := w.heap.size) (o := 0) (R := fun b _ => b = w.heap.size) (Wrote.refl _ W1) (fun _ => rfl) (.slice x0 d.m y0)
  replace L0 := L0.trans (TT.below L0.size (fun b o hb (h : b = _) => by omega))
  replace B1 := box_wrote B1 TT (fun o (h : _ = _) => by omega)
  replace B0 := box_set (o := 0) B0 (.slice x0 d.m y0)
  simp only [List.setIfInBounds_toArray, List.set_cons_succ, List.set_cons_zero] at B0
  replace G0 := G0.keep TT (fun b o hb _ (h : b = _) => by omega)
  replace hp1 : Hid (p1 = (W1.setCell ⟨w.heap.size, 0, none⟩ (.slice x0 d.m y0)).heap.size) := by show _ = _; rw [hp1.out]; simp
  clear TT
  generalize W1.setCell ⟨w.heap.size, 0, none⟩ (.slice x0 d.m y0) = W2 at *
  have c0' := boxC B0
  go_wp2_with fail
  clear c0'
  refine (H1.out _ L0).mono ?_
  clear H1
  rintro e W3 ⟨v1, o1, rfl, G1', L⟩
  obtain ⟨p2, hp2⟩ : ∃ p, Hid (p = W3.heap.size) := ⟨_, rfl⟩
  have l2 : p1 ≤ p2 := by rw [hp1.out, hp2.out]; exact L.size
  have G1 : ListOn W3 (fun b => p1 ≤ b ∧ b < p2) v1 d.np d.p := G1'.listOnR.mono (fun b hb h => ⟨by rw [hp1.out]; exact h, by rw [hp2.out]; exact hb⟩)
  clear G1'
  obtain ⟨x1, y1, rfl⟩ := G1.two
  replace L0 := below_snoc L0 L
  replace B0 := box_keep B0 L (boxLt B0)
  replace B1 := box_keep B1 L (boxLt B1)
  replace G0 := G0.below L
  clear L hp1
  have c0' := boxC B0
  have f0' := boxF B0
  go_upto_region 3 with (fail)
  clear c0' f0'
  have TT := Wrote.setCell (b := w.heap.size) (o := 1) (R := fun b _ => b = w.heap.size) (Wrote.refl _ W3) (fun _ => rfl) (.slice x1 d.np y1)
  replace L0 := L0.trans (TT.below L0.size (fun b o hb (h : b = _) => by omega))
  replace B1 := box_wrote B1 TT (fun o (h : _ = _) => by omega)
  replace B0 := box_set (o := 1) B0 (.slice x1 d.np y1)
  simp only [List.setIfInBounds_toArray, List.set_cons_succ, List.set_cons_zero] at B0
  replace G0 := G0.keep TT (fun b o hb _ (h : b = _) => by omega)
  replace G1 := G1.keep TT (fun b o hb _ (h : b = _) => by omega)
  replace hp2 : Hid (p2 = (W3.setCell ⟨w.heap.size, 1, none⟩ (.slice x1 d.np y1)).heap.size) := by show _ = _; rw [hp2.out]; simp
  clear TT
  generalize W3.setCell ⟨w.heap.size, 1, none⟩ (.slice x1 d.np y1) = W4 at *
  have c0' := boxC B0
  go_wp2_with fail
  clear c0'
  refine (H2.out _ L0).mono ?_
  clear H2
  rintro e W5 ⟨v2, rfl, G2', L⟩
  obtain ⟨p3, hp3⟩ : ∃ p, Hid (p = W5.heap.size) := ⟨_, rfl⟩
  have l3 : p2 ≤ p3 := by rw [hp2.out, hp3.out]; exact L.size
  have G2 := (MemOn.own (bank := d.bank) G2').mono (E := fun b => p2 ≤ b ∧ b < p3) (fun b hb h => ⟨by rw [hp2.out]; exact h, by rw [hp3.out]; exact hb⟩)
  clear G2'
  obtain ⟨x2, y2, hx2⟩ := G2.two
  simp only [Value.agg.injEq, Array.mk.injEq, List.cons.injEq, and_true] at hx2
  subst hx2
  replace L0 := below_snoc L0 L
  replace B0 := box_keep B0 L (boxLt B0)
  replace B1 := box_keep B1 L (boxLt B1)
  replace G0 := G0.below L
  replace G1 := G1.below L
  clear L hp2
  have c0' := boxC B0
  have f0' := boxF B0
  go_upto_region 4 with (fail)
  clear c0' f0'
  have TT := Wrote.setCell (b := w.heap.size) (o := 3) (R := fun b _ => b = w.heap.size) (Wrote.setCell (b := w.heap.size) (o := 2) (R := fun b _ => b = w.heap.size) (Wrote.refl _ W5) (fun _ => rfl) (.slice x2 d.nr y2)) (fun _ => rfl) (.int .i64 d.bank)
  replace L0 := L0.trans (TT.below L0.size (fun b o hb (h : b = _) => by omega))
  replace B1 := box_wrote B1 TT (fun o (h : _ = _) => by omega)
  replace B0 := box_set (o := 2) B0 (.slice x2 d.nr y2)
  replace B0 := box_set (o := 3) B0 (.int .i64 d.bank)
  simp only [List.setIfInBounds_toArray, List.set_cons_succ, List.set_cons_zero] at B0
  replace G0 := G0.keep TT (fun b o hb _ (h : b = _) => by omega)
  replace G1 := G1.keep TT (fun b o hb _ (h : b = _) => by omega)
  replace G2 := G2.keep TT (fun b o hb _ (h : b = _) => by omega)
  replace hp3 : Hid (p3 = ((W5.setCell ⟨w.heap.size, 2, none⟩ (.slice x2 d.nr y2)).setCell ⟨w.heap.size, 3, none⟩ (.int .i64 d.bank)).heap.size) := by show _ = _; rw [hp3.out]; simp
  clear TT
  generalize (W5.setCell ⟨w.heap.size, 2, none⟩ (.slice x2 d.nr y2)).setCell ⟨w.heap.size, 3, none⟩ (.int .i64 d.bank) = W6 at *
  have c0' := boxC B0
  go_wp2_with fail
  clear c0'
  refine (H3.out _ L0).mono ?_
  clear H3
  rintro e W7 ⟨v3, o3, rfl, G3, L⟩
  obtain ⟨p4, hp4⟩ : ∃ p, Hid (p = W7.heap.size) := ⟨_, rfl⟩
  have l4 : p3 ≤ p4 := by rw [hp3.out, hp4.out]; exact L.size
  have bR : ∀ b, o3 = some b → p3 ≤ b ∧ b < p4 := fun b hb => by subst hb; rw [hp3.out, hp4.out]; exact G3.lt
  rw [← hp3.out] at G3
  obtain ⟨x3, y3, rfl⟩ := G3.form
  replace L0 := below_snoc L0 L
  replace B0 := box_keep B0 L (boxLt B0)
  replace B1 := box_keep B1 L (boxLt B1)
  replace G0 := G0.below L
  replace G1 := G1.below L
  replace G2 := G2.below L
  clear L hp3
  have c0' := boxC B0
  have f0' := boxF B0
  go_upto_region 5 with (fail)
  clear c0' f0'
  have TT := Wrote.setCell (b := w.heap.size) (o := 20) (R := fun b _ => b = w.heap.size) (Wrote.refl _ W7) (fun _ => rfl) (.slice x3 d.nq y3)
  replace L0 := L0.trans (TT.below L0.size (fun b o hb (h : b = _) => by omega))
  replace B1 := box_wrote B1 TT (fun o (h : _ = _) => by omega)
  replace B0 := box_set (o := 20) B0 (.slice x3 d.nq y3)
  simp only [List.setIfInBounds_toArray, List.set_cons_succ, List.set_cons_zero] at B0
  replace G0 := G0.keep TT (fun b o hb _ (h : b = _) => by omega)
  replace G1 := G1.keep TT (fun b o hb _ (h : b = _) => by omega)
  replace G2 := G2.keep TT (fun b o hb _ (h : b = _) => by omega)
  replace G3 := G3.keep TT (fun b hb h3 _ k (h : b = _) => by omega)
  replace hp4 : Hid (p4 = (W7.setCell ⟨w.heap.size, 20, none⟩ (.slice x3 d.nq y3)).heap.size) := by show _ = _; rw [hp4.out]; simp
  clear TT
  generalize W7.setCell ⟨w.heap.size, 20, none⟩ (.slice x3 d.nq y3) = W8 at *
  have c0' := boxC B0
  go_wp2_with fail
  clear c0'
  refine (H4.out _ L0).mono ?_
  clear H4
  rintro e W9 ⟨v4, rfl, ⟨DP, G4, dP, bP⟩, L⟩
  obtain ⟨p5, hp5⟩ : ∃ p, Hid (p = W9.heap.size) := ⟨_, rfl⟩
  have l5 : p4 ≤ p5 := by rw [hp4.out, hp5.out]; exact L.size
  rw [← hp4.out, ← hp5.out] at bP
  obtain ⟨x4, y4, x5, y5, x6, y6, x7, y7, rfl⟩ := G4.form
  replace L0 := below_snoc L0 L
  replace B0 := box_keep B0 L (boxLt B0)
  replace B1 := box_keep B1 L (boxLt B1)
  replace G0 := G0.below L
  replace G1 := G1.below L
  replace G2 := G2.below L
  replace G3 := G3.below L
  clear L hp4
  have c0' := boxC B0
  have f0' := boxF B0
  go_upto_region 6 with (fail)
  clear c0' f0'
  have TT := Wrote.setCell (b := w.heap.size) (o := 31) (R := fun b _ => b = w.heap.size) (Wrote.setCell (b := w.heap.size) (o := 30) (R := fun b _ => b = w.heap.size) (Wrote.setCell (b := w.heap.size) (o := 29) (R := fun b _ => b = w.heap.size) (Wrote.setCell (b := w.heap.size) (o := 28) (R := fun b _ => b = w.heap.size) (Wrote.setCell (b := w.heap.size) (o := 27) (R := fun b _ => b = w.heap.size) (Wrote.setCell (b := w.heap.size) (o := 26) (R := fun b _ => b = w.heap.size) (Wrote.setCell (b := w.heap.size) (o := 25) (R := fun b _ => b = w.heap.size) (Wrote.setCell (b := w.heap.size) (o := 24) (R := fun b _ => b = w.heap.size) (Wrote.setCell (b := w.heap.size) (o := 23) (R := fun b _ => b = w.heap.size) (Wrote.setCell (b := w.heap.size) (o := 22) (R := fun b _ => b = w.heap.size) (Wrote.setCell (b := w.heap.size) (o := 21) (R := fun b _ => b = w.heap.size) (Wrote.refl _ W9) (fun _ => rfl) (.int .i64 d.pc.t)) (fun _ => rfl) (.int .i64 d.pc.c)) (fun _ => rfl) (.int .i64 d.pc.s)) (fun _ => rfl) (.int .i64 d.pc.ad)) (fun _ => rfl) (.int .i64 d.pc.pl)) (fun _ => rfl) (.bool d.pc.bl)) (fun _ => rfl) (.slice x4 d.pc.nt y4)) (fun _ => rfl) (.slice x5 d.pc.nd y5)) (fun _ => rfl) (.int .i64 d.pc.cap)) (fun _ => rfl) (.slice x6 d.pc.n y6)) (fun _ => rfl) (.slice x7 d.pc.mf y7)
  replace L0 := L0.trans (TT.below L0.size (fun b o hb (h : b = _) => by omega))
  replace B1 := box_wrote B1 TT (fun o (h : _ = _) => by omega)
  replace B0 := box_set (o := 21) B0 (.int .i64 d.pc.t)
  replace B0 := box_set (o := 22) B0 (.int .i64 d.pc.c)
  replace B0 := box_set (o := 23) B0 (.int .i64 d.pc.s)
  replace B0 := box_set (o := 24) B0 (.int .i64 d.pc.ad)
  replace B0 := box_set (o := 25) B0 (.int .i64 d.pc.pl)
  replace B0 := box_set (o := 26) B0 (.bool d.pc.bl)
  replace B0 := box_set (o := 27) B0 (.slice x4 d.pc.nt y4)
  replace B0 := box_set (o := 28) B0 (.slice x5 d.pc.nd y5)
  replace B0 := box_set (o := 29) B0 (.int .i64 d.pc.cap)
  replace B0 := box_set (o := 30) B0 (.slice x6 d.pc.n y6)
  replace B0 := box_set (o := 31) B0 (.slice x7 d.pc.mf y7)
  simp only [List.setIfInBounds_toArray, List.set_cons_succ, List.set_cons_zero] at B0
  replace G0 := G0.keep TT (fun b o hb _ (h : b = _) => by omega)
  replace G1 := G1.keep TT (fun b o hb _ (h : b = _) => by omega)
  replace G2 := G2.keep TT (fun b o hb _ (h : b = _) => by omega)
  replace G3 := G3.keep TT (fun b hb h3 _ k (h : b = _) => by omega)
  replace G4 := G4.keep TT (fun i b o hb _ (h : b = _) => by have := (bP i b hb).1; omega)
  replace hp5 : Hid (p5 = (((((((((((W9.setCell ⟨w.heap.size, 21, none⟩ (.int .i64 d.pc.t)).setCell ⟨w.heap.size, 22, none⟩ (.int .i64 d.pc.c)).setCell ⟨w.heap.size, 23, none⟩ (.int .i64 d.pc.s)).setCell ⟨w.heap.size, 24, none⟩ (.int .i64 d.pc.ad)).setCell ⟨w.heap.size, 25, none⟩ (.int .i64 d.pc.pl)).setCell ⟨w.heap.size, 26, none⟩ (.bool d.pc.bl)).setCell ⟨w.heap.size, 27, none⟩ (.slice x4 d.pc.nt y4)).setCell ⟨w.heap.size, 28, none⟩ (.slice x5 d.pc.nd y5)).setCell ⟨w.heap.size, 29, none⟩ (.int .i64 d.pc.cap)).setCell ⟨w.heap.size, 30, none⟩ (.slice x6 d.pc.n y6)).setCell ⟨w.heap.size, 31, none⟩ (.slice x7 d.pc.mf y7)).heap.size) := by show _ = _; rw [hp5.out]; simp
  clear TT
  generalize ((((((((((W9.setCell ⟨w.heap.size, 21, none⟩ (.int .i64 d.pc.t)).setCell ⟨w.heap.size, 22, none⟩ (.int .i64 d.pc.c)).setCell ⟨w.heap.size, 23, none⟩ (.int .i64 d.pc.s)).setCell ⟨w.heap.size, 24, none⟩ (.int .i64 d.pc.ad)).setCell ⟨w.heap.size, 25, none⟩ (.int .i64 d.pc.pl)).setCell ⟨w.heap.size, 26, none⟩ (.bool d.pc.bl)).setCell ⟨w.heap.size, 27, none⟩ (.slice x4 d.pc.nt y4)).setCell ⟨w.heap.size, 28, none⟩ (.slice x5 d.pc.nd y5)).setCell ⟨w.heap.size, 29, none⟩ (.int .i64 d.pc.cap)).setCell ⟨w.heap.size, 30, none⟩ (.slice x6 d.pc.n y6)).setCell ⟨w.heap.size, 31, none⟩ (.slice x7 d.pc.mf y7) = W10 at *
  have c0' := boxC B0
  go_wp2_with fail
  clear c0'
  refine (H5.out _ L0).mono ?_
  clear H5
  rintro e W11 ⟨v5, rfl, ⟨DS, G5, dS, bS⟩, L⟩
  obtain ⟨p6, hp6⟩ : ∃ p, Hid (p = W11.heap.size) := ⟨_, rfl⟩
  have l6 : p5 ≤ p6 := by rw [hp5.out, hp6.out]; exact L.size
  rw [← hp5.out, ← hp6.out] at bS
  obtain ⟨x8, y8, x9, y9, rfl⟩ := G5.form
  replace L0 := below_snoc L0 L
  replace B0 := box_keep B0 L (boxLt B0)
  replace B1 := box_keep B1 L (boxLt B1)
  replace G0 := G0.below L
  replace G1 := G1.below L
  replace G2 := G2.below L
  replace G3 := G3.below L
  replace G4 := G4.below L
  clear L hp5
  have c0' := boxC B0
  have f0' := boxF B0
  go_upto_region 7 with (fail)
  clear c0' f0'
  have TT := Wrote.setCell (b := w.heap.size) (o := 41) (R := fun b _ => b = w.heap.size) (Wrote.setCell (b := w.heap.size) (o := 40) (R := fun b _ => b = w.heap.size) (Wrote.setCell (b := w.heap.size) (o := 39) (R := fun b _ => b = w.heap.size) (Wrote.setCell (b := w.heap.size) (o := 38) (R := fun b _ => b = w.heap.size) (Wrote.setCell (b := w.heap.size) (o := 37) (R := fun b _ => b = w.heap.size) (Wrote.setCell (b := w.heap.size) (o := 36) (R := fun b _ => b = w.heap.size) (Wrote.setCell (b := w.heap.size) (o := 35) (R := fun b _ => b = w.heap.size) (Wrote.setCell (b := w.heap.size) (o := 34) (R := fun b _ => b = w.heap.size) (Wrote.setCell (b := w.heap.size) (o := 33) (R := fun b _ => b = w.heap.size) (Wrote.setCell (b := w.heap.size) (o := 32) (R := fun b _ => b = w.heap.size) (Wrote.refl _ W11) (fun _ => rfl) (.int .i64 d.sn.T)) (fun _ => rfl) (.int .i64 d.sn.P)) (fun _ => rfl) (.int .i64 d.sn.C)) (fun _ => rfl) (.int .i64 d.sn.B)) (fun _ => rfl) (.int .i64 d.sn.L)) (fun _ => rfl) (.bool d.sn.S)) (fun _ => rfl) (.bool d.sn.Q)) (fun _ => rfl) (.int .i64 d.sn.cap)) (fun _ => rfl) (.slice x8 d.sn.n y8)) (fun _ => rfl) (.slice x9 d.sn.ns y9)
  replace L0 := L0.trans (TT.below L0.size (fun b o hb (h : b = _) => by omega))
  replace B1 := box_wrote B1 TT (fun o (h : _ = _) => by omega)
  replace B0 := box_set (o := 32) B0 (.int .i64 d.sn.T)
  replace B0 := box_set (o := 33) B0 (.int .i64 d.sn.P)
  replace B0 := box_set (o := 34) B0 (.int .i64 d.sn.C)
  replace B0 := box_set (o := 35) B0 (.int .i64 d.sn.B)
  replace B0 := box_set (o := 36) B0 (.int .i64 d.sn.L)
  replace B0 := box_set (o := 37) B0 (.bool d.sn.S)
  replace B0 := box_set (o := 38) B0 (.bool d.sn.Q)
  replace B0 := box_set (o := 39) B0 (.int .i64 d.sn.cap)
  replace B0 := box_set (o := 40) B0 (.slice x8 d.sn.n y8)
  replace B0 := box_set (o := 41) B0 (.slice x9 d.sn.ns y9)
  simp only [List.setIfInBounds_toArray, List.set_cons_succ, List.set_cons_zero] at B0
  replace G0 := G0.keep TT (fun b o hb _ (h : b = _) => by omega)
  replace G1 := G1.keep TT (fun b o hb _ (h : b = _) => by omega)
  replace G2 := G2.keep TT (fun b o hb _ (h : b = _) => by omega)
  replace G3 := G3.keep TT (fun b hb h3 _ k (h : b = _) => by omega)
  replace G4 := G4.keep TT (fun i b o hb _ (h : b = _) => by have := (bP i b hb).1; omega)
  replace G5 := G5.keep TT (fun i b o hb _ (h : b = _) => by have := (bS i b hb).1; omega)
  replace hp6 : Hid (p6 = ((((((((((W11.setCell ⟨w.heap.size, 32, none⟩ (.int .i64 d.sn.T)).setCell ⟨w.heap.size, 33, none⟩ (.int .i64 d.sn.P)).setCell ⟨w.heap.size, 34, none⟩ (.int .i64 d.sn.C)).setCell ⟨w.heap.size, 35, none⟩ (.int .i64 d.sn.B)).setCell ⟨w.heap.size, 36, none⟩ (.int .i64 d.sn.L)).setCell ⟨w.heap.size, 37, none⟩ (.bool d.sn.S)).setCell ⟨w.heap.size, 38, none⟩ (.bool d.sn.Q)).setCell ⟨w.heap.size, 39, none⟩ (.int .i64 d.sn.cap)).setCell ⟨w.heap.size, 40, none⟩ (.slice x8 d.sn.n y8)).setCell ⟨w.heap.size, 41, none⟩ (.slice x9 d.sn.ns y9)).heap.size) := by show _ = _; rw [hp6.out]; simp
  clear TT
  generalize (((((((((W11.setCell ⟨w.heap.size, 32, none⟩ (.int .i64 d.sn.T)).setCell ⟨w.heap.size, 33, none⟩ (.int .i64 d.sn.P)).setCell ⟨w.heap.size, 34, none⟩ (.int .i64 d.sn.C)).setCell ⟨w.heap.size, 35, none⟩ (.int .i64 d.sn.B)).setCell ⟨w.heap.size, 36, none⟩ (.int .i64 d.sn.L)).setCell ⟨w.heap.size, 37, none⟩ (.bool d.sn.S)).setCell ⟨w.heap.size, 38, none⟩ (.bool d.sn.Q)).setCell ⟨w.heap.size, 39, none⟩ (.int .i64 d.sn.cap)).setCell ⟨w.heap.size, 40, none⟩ (.slice x8 d.sn.n y8)).setCell ⟨w.heap.size, 41, none⟩ (.slice x9 d.sn.ns y9) = W12 at *
  have HR := hide (And.intro G0 (And.intro G1 (And.intro G2 (And.intro G3 (And.intro G4 G5)))))
  have HL := hide (And.intro l0 (And.intro l1 (And.intro l2 (And.intro l3 (And.intro l4 (And.intro l5 l6))))))
  have HB := hide (And.intro bR (And.intro dP (And.intro bP (And.intro dS bS))))
  clear G0 G1 G2 G3 G4 G5 l0 l1 l2 l3 l4 l5 l6 bR dP bP dS bS
  rename_i K2 hK2
  refine wp_region_lit ?_
  refine wpList_load_row rfl _ _ rfl w.heap.size rfl _ _ _ _ B0 Tryz.underlying46 rfl infoSplit ?_
  refine wpList_store_row rfl _ _ _ rfl (w.heap.size + 1) _ rfl rfl _ _ B1 infoSplit rfl (by first | kernel_rfl | simp [Value.oneCell']) ?_
  refine hK2 _ _ ?_
  have B3 := setRow_heap _ _ _ #[.slice x0 d.m y0, .slice x1 d.np y1, .slice x2 d.nr y2, .int .i64 d.bank, .int .i64 d.A, .int .i64 d.X, .int .i64 d.S, .int .i64 d.Pc, .bool d.Z, .bool d.N, .bool d.C, .bool d.I, .bool d.hd, .int .i64 d.sh, .int .i64 d.T, .bool d.nmi, .int .i64 d.ctrl, .bool d.kn, .int .i64 d.ka, .int .i64 d.st, .slice x3 d.nq y3, .int .i64 d.pc.t, .int .i64 d.pc.c, .int .i64 d.pc.s, .int .i64 d.pc.ad, .int .i64 d.pc.pl, .bool d.pc.bl, .slice x4 d.pc.nt y4, .slice x5 d.pc.nd y5, .int .i64 d.pc.cap, .slice x6 d.pc.n y6, .slice x7 d.pc.mf y7, .int .i64 d.sn.T, .int .i64 d.sn.P, .int .i64 d.sn.C, .int .i64 d.sn.B, .int .i64 d.sn.L, .bool d.sn.S, .bool d.sn.Q, .int .i64 d.sn.cap, .slice x8 d.sn.n y8, .slice x9 d.sn.ns y9] _ _ B1
  have WW := wrote_setRowU B1 #[.slice x0 d.m y0, .slice x1 d.np y1, .slice x2 d.nr y2, .int .i64 d.bank, .int .i64 d.A, .int .i64 d.X, .int .i64 d.S, .int .i64 d.Pc, .bool d.Z, .bool d.N, .bool d.C, .bool d.I, .bool d.hd, .int .i64 d.sh, .int .i64 d.T, .bool d.nmi, .int .i64 d.ctrl, .bool d.kn, .int .i64 d.ka, .int .i64 d.st, .slice x3 d.nq y3, .int .i64 d.pc.t, .int .i64 d.pc.c, .int .i64 d.pc.s, .int .i64 d.pc.ad, .int .i64 d.pc.pl, .bool d.pc.bl, .slice x4 d.pc.nt y4, .slice x5 d.pc.nd y5, .int .i64 d.pc.cap, .slice x6 d.pc.n y6, .slice x7 d.pc.mf y7, .int .i64 d.sn.T, .int .i64 d.sn.P, .int .i64 d.sn.C, .int .i64 d.sn.B, .int .i64 d.sn.L, .bool d.sn.S, .bool d.sn.Q, .int .i64 d.sn.cap, .slice x8 d.sn.n y8, .slice x9 d.sn.ns y9]
  clear B0 B1
  go_wp2
  refine bodyPost_ret (v := .agg #[.slice x0 d.m y0, .slice x1 d.np y1, .slice x2 d.nr y2, .int .i64 d.bank, .int .i64 d.A, .int .i64 d.X, .int .i64 d.S, .int .i64 d.Pc, .bool d.Z, .bool d.N, .bool d.C, .bool d.I, .bool d.hd, .int .i64 d.sh, .int .i64 d.T, .bool d.nmi, .int .i64 d.ctrl, .bool d.kn, .int .i64 d.ka, .int .i64 d.st, .slice x3 d.nq y3, .int .i64 d.pc.t, .int .i64 d.pc.c, .int .i64 d.pc.s, .int .i64 d.pc.ad, .int .i64 d.pc.pl, .bool d.pc.bl, .slice x4 d.pc.nt y4, .slice x5 d.pc.nd y5, .int .i64 d.pc.cap, .slice x6 d.pc.n y6, .slice x7 d.pc.mf y7, .int .i64 d.sn.T, .int .i64 d.sn.P, .int .i64 d.sn.C, .int .i64 d.sn.B, .int .i64 d.sn.L, .bool d.sn.S, .bool d.sn.Q, .int .i64 d.sn.cap, .slice x8 d.sn.n y8, .slice x9 d.sn.ns y9]) (results_cell_row (by rfl) _ _ (w.heap.size + 1) _ _ _ _ rfl B3 Tryz.underlying46 rfl infoSplit) rfl ?_
  have hW9 := WW.size
  have hp6' := hp6.out
  generalize W12.setRow (w.heap.size + 1) #[.slice x0 d.m y0, .slice x1 d.np y1, .slice x2 d.nr y2, .int .i64 d.bank, .int .i64 d.A, .int .i64 d.X, .int .i64 d.S, .int .i64 d.Pc, .bool d.Z, .bool d.N, .bool d.C, .bool d.I, .bool d.hd, .int .i64 d.sh, .int .i64 d.T, .bool d.nmi, .int .i64 d.ctrl, .bool d.kn, .int .i64 d.ka, .int .i64 d.st, .slice x3 d.nq y3, .int .i64 d.pc.t, .int .i64 d.pc.c, .int .i64 d.pc.s, .int .i64 d.pc.ad, .int .i64 d.pc.pl, .bool d.pc.bl, .slice x4 d.pc.nt y4, .slice x5 d.pc.nd y5, .int .i64 d.pc.cap, .slice x6 d.pc.n y6, .slice x7 d.pc.mf y7, .int .i64 d.sn.T, .int .i64 d.sn.P, .int .i64 d.sn.C, .int .i64 d.sn.B, .int .i64 d.sn.L, .bool d.sn.S, .bool d.sn.Q, .int .i64 d.sn.cap, .slice x8 d.sn.n y8, .slice x9 d.sn.ns y9] = W13 at *
  obtain ⟨G0, G1, G2, G3, G4, G5⟩ := HR.out
  obtain ⟨l0, l1, l2, l3, l4, l5, l6⟩ := HL.out
  obtain ⟨bR, dP, bP, dS, bS⟩ := HB.out
  clear HR HL HB
  refine ⟨_, rfl, ⟨fun i b => (i = 0 ∧ p0 ≤ b ∧ b < p1) ∨ (i = 1 ∧ p1 ≤ b ∧ b < p2) ∨ (i = 2 ∧ p2 ≤ b ∧ b < p3) ∨ (i = 3 ∧ p3 ≤ b ∧ b < p4) ∨ (∃ k, i = 4 + 2 * k ∧ DP k b) ∨ (∃ k, i = 5 + 2 * k ∧ DS k b), _, _, o3, rfl,
    ⟨_, _, _, _, _, _, _, _, _, _, rfl, (G0.keep WW (fun b o hb _ (h : b = _) => by omega)).mono (fun b _ h => Or.inl ⟨rfl, h⟩),
      (G1.keep WW (fun b o hb _ (h : b = _) => by omega)).mono (fun b _ h => Or.inr (Or.inl ⟨rfl, h⟩)),
      (G2.keep WW (fun b o hb _ (h : b = _) => by omega)).mono (fun b _ h => Or.inr (Or.inr (Or.inl ⟨rfl, h⟩))),
      (RowAt.onR (G3.keep WW (fun b hb h3 _ k (h : b = _) => by omega))).mono (fun b _ h => Or.inr (Or.inr (Or.inr (Or.inl ⟨rfl, bR b h⟩)))),
      (G4.keep WW (fun i b o hb _ (h : b = _) => by have := (bP i b hb).1; omega)).mono (fun i b _ h => Or.inr (Or.inr (Or.inr (Or.inr (Or.inl ⟨i, rfl, h⟩))))),
      (G5.keep WW (fun i b o hb _ (h : b = _) => by have := (bS i b hb).1; omega)).mono (fun i b _ h => Or.inr (Or.inr (Or.inr (Or.inr (Or.inr ⟨i, rfl, h⟩)))))⟩, ?_, ?_, rfl, (G3.keep WW (fun b hb h3 _ k (h : b = _) => by omega)).mono (by omega), fun b hb => Or.inr (Or.inr (Or.inr (Or.inl ⟨rfl, bR b hb⟩)))⟩, L0.trans (WW.below L0.size (fun b o hb (h : b = _) => by omega))⟩
  · clear G0 G1 G2 G3 G4 G5 L0 WW
    intro i j b h1 h2
    have eP : ∀ k, DP k b → p4 ≤ b ∧ b < p5 := fun k h => bP k b h
    have eS : ∀ k, DS k b → p5 ≤ b ∧ b < p6 := fun k h => bS k b h
    rcases h1 with ⟨rfl, h1⟩ | ⟨rfl, h1⟩ | ⟨rfl, h1⟩ | ⟨rfl, h1⟩ | ⟨k, rfl, h1⟩ | ⟨k, rfl, h1⟩ <;> rcases h2 with ⟨rfl, h2⟩ | ⟨rfl, h2⟩ | ⟨rfl, h2⟩ | ⟨rfl, h2⟩ | ⟨k', rfl, h2⟩ | ⟨k', rfl, h2⟩ <;> first | rfl | (have := dP _ _ _ h1 h2; omega) | (have := dS _ _ _ h1 h2; omega) | (have := eP _ h1; have := eS _ h2; omega) | (have := eS _ h1; have := eP _ h2; omega) | (have := eP _ h1; omega) | (have := eP _ h2; omega) | (have := eS _ h1; omega) | (have := eS _ h2; omega) | omega
  · clear G0 G1 G2 G3 G4 G5 L0 WW
    intro i b h
    rcases h with ⟨rfl, h⟩ | ⟨rfl, h⟩ | ⟨rfl, h⟩ | ⟨rfl, h⟩ | ⟨k, rfl, h⟩ | ⟨k, rfl, h⟩ <;> first | (have := bP _ _ h; omega) | (have := bS _ _ h; omega) | omega
end Go.Proofs.YtjcaligejlhjdaaGreat
