/-
  Chapter 15 of the program by its contracts: what is right.
-/
import Derived.Test.YtjcaligejlhjdaaGreatUC
import Derived.Test.YtjcaligejlhjdaaGreatTI
import Derived.Test.YtjcaligejlhjdaaGreatJ2
import Derived.Test.YtjcaligejlhjdaaGreatU0
import Derived.Test.YtjcaligejlhjdaaGreatPD
import Derived.Lib.QuietBelow
import Derived.BigQuiet
import Derived.Deep.DeepCutAuto
namespace Go.Proofs.YtjcaligejlhjdaaGreat
set_option linter.unusedVariables false
set_option linter.unusedSimpArgs false
open Go.ChangeShapes Go.WideShapes Go.ChangeAt Go.RowKit Go.Sort
/-- Nothing of the console is of a time below 0, or above that of the processor. -/
def noneB (d : SpD) : Bool := decide (0 ≤ d.T) && (decide (d.T ≤ 20000) && (decide (0 ≤ d.ka) && (decide (d.ka ≤ d.T) && (decide (0 ≤ d.st) && (decide (d.st ≤ d.T) && (decide (d.pc.t ≤ d.T) && (decide (lastU d.pc.f d.pc.n ≤ d.T) && (decide (d.sn.T ≤ d.T) && decide (lastU d.sn.f d.sn.n ≤ d.T)))))))))
theorem infoSplitI : (Tryz.prog.info? 46).map (·.size) = some 42 := by kernel_rfl
theorem wpList_load_rowI {P : Program} {ops : Array Oper} {rest : List Oper} {o : Oper} {a : Act} {w : World} {Q : Exit → Act → World → Prop} (hw : Region.wanted o (yielded ops a.tmps) = true) (ty : TypeId) (x : Operand) (ho : o.op = .load ty x)
    (g : Nat) (hx : a.eval x = .pointer (some ⟨g, 0, none⟩)) (t : TypeId) (cs : Array Value) (fr : Nat × Nat) (d : TypeDesc) (hg : w.heap[g]? = some (.cells cs t fr))
    (hu : P.underlying ty = some d) (hd : (match d with | .struct _ | .array _ _ => true | _ => false) = true) (hi : (P.info? ty).map (·.size) = some cs.size)
    (h : wpList P ops Q rest (a.put o.dst (.agg cs)) w) : wpList P ops Q (o :: rest) a w :=
  wpList_step fun K hK => by rw [if_pos hw]; exact wp_load_row ty x ho g hx t cs fr d hg hu hd hi (hK _ _ h)
theorem lastT_U (f : Nat → Int) (n : Nat) : lastT f n = lastU f n := rfl
theorem okSplit_impl (d : SpD) : okSplit d = (okMem d.m d.ln d.f d.nr d.g d.bank && (okPads d.np d.p && (okCpu d.A d.X d.S d.Pc && (okPc d.pc && (okSn d.sn && (inB d.sh 0 255 && (inB d.ctrl 0 255 && noneB d))))))) := by
  unfold okSplit noneB inB
  rw [Bool.and_left_comm (okPads d.np d.p)]
  simp only [Bool.and_assoc]
  congr 13
  rw [Bool.and_left_comm (decide (d.sn.T ≤ d.T))]
set_option maxHeartbeats 8000000 in
theorem noneBeyond (w : World) (D : Nat → Nat → Prop) (v : Value) (d : SpD) (H : SplitOn w D v d) : Calls Tryz.prog 97 #[v] w fun e w' => e = .returned (.bool (noneB d)) ∧ Below w.heap.size w w' := by
  obtain ⟨u0, u1, u2, u3, q1, q2, q3, q4, r1, r2, rfl, h0, h1, h2, h3, h4, h5⟩ := H
  obtain ⟨y2, hy2, g2⟩ := h2.ints
  simp only [Value.agg.injEq, Array.mk.injEq, List.cons.injEq, and_true] at hy2
  subst hy2
  have g0 := h0.ints
  obtain ⟨a1, c1, e1, s1⟩ := id h1
  subst e1
  have g1 := s1.ints c1
  obtain ⟨s3, c3, rfl, n3, w3⟩ : ∃ a c, q3 = .slice a d.pc.n c ∧ d.pc.n ≤ 1048576 ∧ RowOf .i64 w a (d.pc.n * 3) d.pc.f := by
    obtain ⟨x1, x2, x3, x4, e, -, hr, -⟩ := id h4
    simp only [Value.agg.injEq, Array.mk.injEq, List.cons.injEq, and_true, true_and] at e
    obtain ⟨-, -, rfl, -⟩ := e
    obtain ⟨a, c, e1, hn, hrow, -, -⟩ := id hr
    exact ⟨a, c, e1, hn.1, hrow⟩
  obtain ⟨s5, c5, rfl, n5, w5⟩ : ∃ a c, r1 = .slice a d.sn.n c ∧ d.sn.n ≤ 1048576 ∧ RowOf .i64 w a (d.sn.n * 3) d.sn.f := by
    obtain ⟨x1, x2, e, hr, -⟩ := id h5
    simp only [Value.agg.injEq, Array.mk.injEq, List.cons.injEq, and_true, true_and] at e
    obtain ⟨rfl, -⟩ := e
    obtain ⟨a, c, e1, hn, hrow, -, -⟩ := id hr
    exact ⟨a, c, e1, hn.1, hrow⟩
  clear h0 h1 h2 h3 h4 h5 s1 g0 g1 g2
  obtain ⟨cs, hcs⟩ : ∃ cs : Array Value, Hid (cs = #[u0, .slice a1 d.np c1, u2, .int .i64 d.bank, .int .i64 d.A, .int .i64 d.X, .int .i64 d.S, .int .i64 d.Pc, .bool d.Z, .bool d.N, .bool d.C, .bool d.I, .bool d.hd, .int .i64 d.sh, .int .i64 d.T, .bool d.nmi, .int .i64 d.ctrl, .bool d.kn, .int .i64 d.ka, .int .i64 d.st, u3, .int .i64 d.pc.t, .int .i64 d.pc.c, .int .i64 d.pc.s, .int .i64 d.pc.ad, .int .i64 d.pc.pl, .bool d.pc.bl, q1, q2, .int .i64 d.pc.cap, .slice s3 d.pc.n c3, q4, .int .i64 d.sn.T, .int .i64 d.sn.P, .int .i64 d.sn.C, .int .i64 d.sn.B, .int .i64 d.sn.L, .bool d.sn.S, .bool d.sn.Q, .int .i64 d.sn.cap, .slice s5 d.sn.n c5, r2]) := ⟨_, rfl⟩
  have f14 : cs[14]? = some (.int .i64 d.T) := by rw [hcs.out]; rfl
  have f18 : cs[18]? = some (.int .i64 d.ka) := by rw [hcs.out]; rfl
  have f19 : cs[19]? = some (.int .i64 d.st) := by rw [hcs.out]; rfl
  have f21 : cs[21]? = some (.int .i64 d.pc.t) := by rw [hcs.out]; rfl
  have f29 : cs[29]? = some (.int .i64 d.pc.cap) := by rw [hcs.out]; rfl
  have f30 : cs[30]? = some (.slice s3 d.pc.n c3) := by rw [hcs.out]; rfl
  have f32 : cs[32]? = some (.int .i64 d.sn.T) := by rw [hcs.out]; rfl
  have f39 : cs[39]? = some (.int .i64 d.sn.cap) := by rw [hcs.out]; rfl
  have f40 : cs[40]? = some (.slice s5 d.sn.n c5) := by rw [hcs.out]; rfl
  rw [← hcs.out]
  clear hcs
  have L0 : Below w.heap.size w (w.alloc (.cells cs 46)) := (Below.refl _ _).alloc (Nat.le_refl _) _
  have k0 := box_new w cs 46
  obtain ⟨z7, hz7⟩ : ∃ b, Hid (b = lastU d.pc.f d.pc.n) := ⟨_, rfl⟩
  obtain ⟨z9, hz9⟩ : ∃ b, Hid (b = lastU d.sn.f d.sn.n) := ⟨_, rfl⟩
  obtain ⟨r, hr⟩ : ∃ r, Hid (r = noneB d) := ⟨_, rfl⟩
  rw [← hr.out]
  obtain ⟨b0, x0⟩ : ∃ b, decide (0 ≤ d.T) = b := ⟨_, rfl⟩
  obtain ⟨b1, x1⟩ : ∃ b, decide (d.T ≤ 20000) = b := ⟨_, rfl⟩
  obtain ⟨b2, x2⟩ : ∃ b, decide (0 ≤ d.ka) = b := ⟨_, rfl⟩
  obtain ⟨b3, x3⟩ : ∃ b, decide (d.ka ≤ d.T) = b := ⟨_, rfl⟩
  obtain ⟨b4, x4⟩ : ∃ b, decide (0 ≤ d.st) = b := ⟨_, rfl⟩
  obtain ⟨b5, x5⟩ : ∃ b, decide (d.st ≤ d.T) = b := ⟨_, rfl⟩
  obtain ⟨b6, x6⟩ : ∃ b, decide (d.pc.t ≤ d.T) = b := ⟨_, rfl⟩
  obtain ⟨b7, x7⟩ : ∃ b, decide (z7 ≤ d.T) = b := ⟨_, rfl⟩
  obtain ⟨b8, x8⟩ : ∃ b, decide (d.sn.T ≤ d.T) = b := ⟨_, rfl⟩
  obtain ⟨b9, x9⟩ : ∃ b, decide (z9 ≤ d.T) = b := ⟨_, rfl⟩
  have HOK : Hid (r = (b0 && (b1 && (b2 && (b3 && (b4 && (b5 && (b6 && (b7 && (b8 && b9)))))))))) := by show _ = _; rw [hr.out, ← x0, ← x1, ← x2, ← x3, ← x4, ← x5, ← x6, ← x7, ← x8, ← x9, hz7.out, hz9.out]; rfl
  clear hr
  go_enter Tryz.func97, Tryz.ntmps97
  go_upto_region 1 with (fail)
  generalize w.alloc (.cells cs 46) = W0 at *
  have L7 := hide (fun (dd : Nat) (os : Array Obj) => reached (grow (redrawn W0 dd) os) s3 d.pc.n c3 d.pc.f d.pc.cap n3 (w3.keep (wrote_below (below_snoc L0 (below_regrown W0 dd os)) Nowhere) (fun _ _ _ x => x)))
  rw [lastT_U, ← hz7.out] at L7
  have L9 := hide (fun (dd : Nat) (os : Array Obj) => reached (grow (redrawn W0 dd) os) s5 d.sn.n c5 d.sn.f d.sn.cap n5 (w5.keep (wrote_below (below_snoc L0 (below_regrown W0 dd os)) Nowhere) (fun _ _ _ x => x)))
  rw [lastT_U, ← hz9.out] at L9
  have c0 := boxU k0
  dsimp only [List.append]
  refine wp_region_quiet_below (by kernel_rfl) (by kernel_rfl) ?_
  repeat (go_big_quiet_step (first | (go_at_call 136; first | with_reducible exact Calls.regrown_of (L7.out _ _) | with_reducible exact Calls.regrown_of (L9.out _ _))))
  cases b0
  · have HE : Hid (r = false) := by rw [HOK.out]; rfl
    repeat (go_big_quiet_step (first | (go_at_call 136; first | with_reducible exact Calls.regrown_of (L7.out _ _) | with_reducible exact Calls.regrown_of (L9.out _ _))))
    refine wpQuiet_nil ?_
    intro _ hw'
    obtain ⟨⟨dq, osq⟩, hw''⟩ := hw'
    subst hw''
    have LQ := below_snoc L0 (below_regrown W0 dq osq)
    generalize grow (redrawn W0 dq) osq = w4 at *
    clear c0
    go_wp2
    go_ret
    exact ⟨ret_bool HE.out.symm, LQ⟩
  repeat (go_big_quiet_step (first | (go_at_call 136; first | with_reducible exact Calls.regrown_of (L7.out _ _) | with_reducible exact Calls.regrown_of (L9.out _ _))))
  cases b1
  · have HE : Hid (r = false) := by rw [HOK.out]; rfl
    repeat (go_big_quiet_step (first | (go_at_call 136; first | with_reducible exact Calls.regrown_of (L7.out _ _) | with_reducible exact Calls.regrown_of (L9.out _ _))))
    refine wpQuiet_nil ?_
    intro _ hw'
    obtain ⟨⟨dq, osq⟩, hw''⟩ := hw'
    subst hw''
    have LQ := below_snoc L0 (below_regrown W0 dq osq)
    generalize grow (redrawn W0 dq) osq = w4 at *
    clear c0
    go_wp2
    go_ret
    exact ⟨ret_bool HE.out.symm, LQ⟩
  repeat (go_big_quiet_step (first | (go_at_call 136; first | with_reducible exact Calls.regrown_of (L7.out _ _) | with_reducible exact Calls.regrown_of (L9.out _ _))))
  cases b2
  · have HE : Hid (r = false) := by rw [HOK.out]; rfl
    repeat (go_big_quiet_step (first | (go_at_call 136; first | with_reducible exact Calls.regrown_of (L7.out _ _) | with_reducible exact Calls.regrown_of (L9.out _ _))))
    refine wpQuiet_nil ?_
    intro _ hw'
    obtain ⟨⟨dq, osq⟩, hw''⟩ := hw'
    subst hw''
    have LQ := below_snoc L0 (below_regrown W0 dq osq)
    generalize grow (redrawn W0 dq) osq = w4 at *
    clear c0
    go_wp2
    go_ret
    exact ⟨ret_bool HE.out.symm, LQ⟩
  repeat (go_big_quiet_step (first | (go_at_call 136; first | with_reducible exact Calls.regrown_of (L7.out _ _) | with_reducible exact Calls.regrown_of (L9.out _ _))))
  cases b3
  · have HE : Hid (r = false) := by rw [HOK.out]; rfl
    repeat (go_big_quiet_step (first | (go_at_call 136; first | with_reducible exact Calls.regrown_of (L7.out _ _) | with_reducible exact Calls.regrown_of (L9.out _ _))))
    refine wpQuiet_nil ?_
    intro _ hw'
    obtain ⟨⟨dq, osq⟩, hw''⟩ := hw'
    subst hw''
    have LQ := below_snoc L0 (below_regrown W0 dq osq)
    generalize grow (redrawn W0 dq) osq = w4 at *
    clear c0
    go_wp2
    go_ret
    exact ⟨ret_bool HE.out.symm, LQ⟩
  repeat (go_big_quiet_step (first | (go_at_call 136; first | with_reducible exact Calls.regrown_of (L7.out _ _) | with_reducible exact Calls.regrown_of (L9.out _ _))))
  cases b4
  · have HE : Hid (r = false) := by rw [HOK.out]; rfl
    repeat (go_big_quiet_step (first | (go_at_call 136; first | with_reducible exact Calls.regrown_of (L7.out _ _) | with_reducible exact Calls.regrown_of (L9.out _ _))))
    refine wpQuiet_nil ?_
    intro _ hw'
    obtain ⟨⟨dq, osq⟩, hw''⟩ := hw'
    subst hw''
    have LQ := below_snoc L0 (below_regrown W0 dq osq)
    generalize grow (redrawn W0 dq) osq = w4 at *
    clear c0
    go_wp2
    go_ret
    exact ⟨ret_bool HE.out.symm, LQ⟩
  repeat (go_big_quiet_step (first | (go_at_call 136; first | with_reducible exact Calls.regrown_of (L7.out _ _) | with_reducible exact Calls.regrown_of (L9.out _ _))))
  cases b5
  · have HE : Hid (r = false) := by rw [HOK.out]; rfl
    repeat (go_big_quiet_step (first | (go_at_call 136; first | with_reducible exact Calls.regrown_of (L7.out _ _) | with_reducible exact Calls.regrown_of (L9.out _ _))))
    refine wpQuiet_nil ?_
    intro _ hw'
    obtain ⟨⟨dq, osq⟩, hw''⟩ := hw'
    subst hw''
    have LQ := below_snoc L0 (below_regrown W0 dq osq)
    generalize grow (redrawn W0 dq) osq = w4 at *
    clear c0
    go_wp2
    go_ret
    exact ⟨ret_bool HE.out.symm, LQ⟩
  repeat (go_big_quiet_step (first | (go_at_call 136; first | with_reducible exact Calls.regrown_of (L7.out _ _) | with_reducible exact Calls.regrown_of (L9.out _ _))))
  cases b6
  · have HE : Hid (r = false) := by rw [HOK.out]; rfl
    repeat (go_big_quiet_step (first | (go_at_call 136; first | with_reducible exact Calls.regrown_of (L7.out _ _) | with_reducible exact Calls.regrown_of (L9.out _ _))))
    refine wpQuiet_nil ?_
    intro _ hw'
    obtain ⟨⟨dq, osq⟩, hw''⟩ := hw'
    subst hw''
    have LQ := below_snoc L0 (below_regrown W0 dq osq)
    generalize grow (redrawn W0 dq) osq = w4 at *
    clear c0
    go_wp2
    go_ret
    exact ⟨ret_bool HE.out.symm, LQ⟩
  repeat (go_big_quiet_step (first | (go_at_call 136; first | with_reducible exact Calls.regrown_of (L7.out _ _) | with_reducible exact Calls.regrown_of (L9.out _ _))))
  cases b7
  · have HE : Hid (r = false) := by rw [HOK.out]; rfl
    repeat (go_big_quiet_step (first | (go_at_call 136; first | with_reducible exact Calls.regrown_of (L7.out _ _) | with_reducible exact Calls.regrown_of (L9.out _ _))))
    refine wpQuiet_nil ?_
    intro _ hw'
    obtain ⟨⟨dq, osq⟩, hw''⟩ := hw'
    subst hw''
    have LQ := below_snoc L0 (below_regrown W0 dq osq)
    generalize grow (redrawn W0 dq) osq = w4 at *
    clear c0
    go_wp2
    go_ret
    exact ⟨ret_bool HE.out.symm, LQ⟩
  repeat (go_big_quiet_step (first | (go_at_call 136; first | with_reducible exact Calls.regrown_of (L7.out _ _) | with_reducible exact Calls.regrown_of (L9.out _ _))))
  cases b8
  · have HE : Hid (r = false) := by rw [HOK.out]; rfl
    repeat (go_big_quiet_step (first | (go_at_call 136; first | with_reducible exact Calls.regrown_of (L7.out _ _) | with_reducible exact Calls.regrown_of (L9.out _ _))))
    refine wpQuiet_nil ?_
    intro _ hw'
    obtain ⟨⟨dq, osq⟩, hw''⟩ := hw'
    subst hw''
    have LQ := below_snoc L0 (below_regrown W0 dq osq)
    generalize grow (redrawn W0 dq) osq = w4 at *
    clear c0
    go_wp2
    go_ret
    exact ⟨ret_bool HE.out.symm, LQ⟩
  have HE : Hid (r = b9) := by rw [HOK.out]; rfl
  repeat (go_big_quiet_step (first | (go_at_call 136; first | with_reducible exact Calls.regrown_of (L7.out _ _) | with_reducible exact Calls.regrown_of (L9.out _ _))))
  refine wpQuiet_nil ?_
  intro _ hw'
  obtain ⟨⟨dq, osq⟩, hw''⟩ := hw'
  subst hw''
  have LQ := below_snoc L0 (below_regrown W0 dq osq)
  generalize grow (redrawn W0 dq) osq = w4 at *
  clear c0
  go_wp2
  go_ret
  exact ⟨ret_bool HE.out.symm, LQ⟩
set_option maxHeartbeats 8000000 in
theorem implSplitOk (w : World) (D : Nat → Nat → Prop) (v : Value) (d : SpD) (H : SplitOn w D v d) : Calls Tryz.prog 35 #[v] w fun e w' => e = .returned (.bool (okSplit d)) ∧ Below w.heap.size w w' := by
  have HN := hide H
  obtain ⟨u0, u1, u2, u3, q1, q2, q3, q4, r1, r2, rfl, h0, h1, h2, h3, h4, h5⟩ := H
  obtain ⟨y2, hy2, g2⟩ := h2.ints
  simp only [Value.agg.injEq, Array.mk.injEq, List.cons.injEq, and_true] at hy2
  subst hy2
  have g0 := h0.ints
  obtain ⟨a1, c1, e1, s1⟩ := id h1
  subst e1
  have g1 := s1.ints c1
  obtain ⟨s3, c3, rfl, n3, w3⟩ : ∃ a c, q3 = .slice a d.pc.n c ∧ d.pc.n ≤ 1048576 ∧ RowOf .i64 w a (d.pc.n * 3) d.pc.f := by
    obtain ⟨x1, x2, x3, x4, e, -, hr, -⟩ := id h4
    simp only [Value.agg.injEq, Array.mk.injEq, List.cons.injEq, and_true, true_and] at e
    obtain ⟨-, -, rfl, -⟩ := e
    obtain ⟨a, c, e1, hn, hrow, -, -⟩ := id hr
    exact ⟨a, c, e1, hn.1, hrow⟩
  obtain ⟨s5, c5, rfl, n5, w5⟩ : ∃ a c, r1 = .slice a d.sn.n c ∧ d.sn.n ≤ 1048576 ∧ RowOf .i64 w a (d.sn.n * 3) d.sn.f := by
    obtain ⟨x1, x2, e, hr, -⟩ := id h5
    simp only [Value.agg.injEq, Array.mk.injEq, List.cons.injEq, and_true, true_and] at e
    obtain ⟨rfl, -⟩ := e
    obtain ⟨a, c, e1, hn, hrow, -, -⟩ := id hr
    exact ⟨a, c, e1, hn.1, hrow⟩
  have L0 : Below w.heap.size w (w.alloc (.cells #[u0, .slice a1 d.np c1, u2, .int .i64 d.bank, .int .i64 d.A, .int .i64 d.X, .int .i64 d.S, .int .i64 d.Pc, .bool d.Z, .bool d.N, .bool d.C, .bool d.I, .bool d.hd, .int .i64 d.sh, .int .i64 d.T, .bool d.nmi, .int .i64 d.ctrl, .bool d.kn, .int .i64 d.ka, .int .i64 d.st, u3, .int .i64 d.pc.t, .int .i64 d.pc.c, .int .i64 d.pc.s, .int .i64 d.pc.ad, .int .i64 d.pc.pl, .bool d.pc.bl, q1, q2, .int .i64 d.pc.cap, .slice s3 d.pc.n c3, q4, .int .i64 d.sn.T, .int .i64 d.sn.P, .int .i64 d.sn.C, .int .i64 d.sn.B, .int .i64 d.sn.L, .bool d.sn.S, .bool d.sn.Q, .int .i64 d.sn.cap, .slice s5 d.sn.n c5, r2] 46)) := (Below.refl _ _).alloc (Nat.le_refl _) _
  have k0 := box_new w #[u0, .slice a1 d.np c1, u2, .int .i64 d.bank, .int .i64 d.A, .int .i64 d.X, .int .i64 d.S, .int .i64 d.Pc, .bool d.Z, .bool d.N, .bool d.C, .bool d.I, .bool d.hd, .int .i64 d.sh, .int .i64 d.T, .bool d.nmi, .int .i64 d.ctrl, .bool d.kn, .int .i64 d.ka, .int .i64 d.st, u3, .int .i64 d.pc.t, .int .i64 d.pc.c, .int .i64 d.pc.s, .int .i64 d.pc.ad, .int .i64 d.pc.pl, .bool d.pc.bl, q1, q2, .int .i64 d.pc.cap, .slice s3 d.pc.n c3, q4, .int .i64 d.sn.T, .int .i64 d.sn.P, .int .i64 d.sn.C, .int .i64 d.sn.B, .int .i64 d.sn.L, .bool d.sn.S, .bool d.sn.Q, .int .i64 d.sn.cap, .slice s5 d.sn.n c5, r2] 46
  clear h0 h1 h2 h3 s1
  have KE : ∀ {W : World}, Below w.heap.size w W → ∀ {F : Nat → Nat → Prop} {v : Value} {n : Nat} {f : Nat → Int}, Ints .i64 w F v n f → Ints .i64 W F v n f := fun L _ _ _ _ h => h.keep (wrote_below L Nowhere) (fun _ _ _ x => x)
  have KS : ∀ {W : World}, Below w.heap.size w W → ∀ {F : Nat → Nat → Prop} {v : Value} {m : Nat} {ln : Nat → Nat} {f : Nat → Nat → Int}, IntSS .i64 w F v m ln f → IntSS .i64 W F v m ln f := fun L _ _ _ _ _ h => h.keep (wrote_below L Nowhere) (fun _ _ _ x => x)
  obtain ⟨b0, qb0⟩ : ∃ b, Hid (b = okMem d.m d.ln d.f d.nr d.g d.bank) := ⟨_, rfl⟩
  obtain ⟨b1, qb1⟩ : ∃ b, Hid (b = okPads d.np d.p) := ⟨_, rfl⟩
  obtain ⟨b2, qb2⟩ : ∃ b, Hid (b = okCpu d.A d.X d.S d.Pc) := ⟨_, rfl⟩
  obtain ⟨b3, qb3⟩ : ∃ b, Hid (b = okPc d.pc) := ⟨_, rfl⟩
  obtain ⟨b4, qb4⟩ : ∃ b, Hid (b = okSn d.sn) := ⟨_, rfl⟩
  obtain ⟨b5, qb5⟩ : ∃ b, Hid (b = inB d.sh 0 255) := ⟨_, rfl⟩
  obtain ⟨b6, qb6⟩ : ∃ b, Hid (b = inB d.ctrl 0 255) := ⟨_, rfl⟩
  obtain ⟨b7, qb7⟩ : ∃ b, Hid (b = noneB d) := ⟨_, rfl⟩
  obtain ⟨r, hr⟩ : ∃ r, Hid (r = okSplit d) := ⟨_, rfl⟩
  rw [← hr.out]
  have HOK : Hid (r = (b0 && (b1 && (b2 && (b3 && (b4 && (b5 && (b6 && b7)))))))) := by show _ = _; rw [hr.out, okSplit_impl, qb0.out, qb1.out, qb2.out, qb3.out, qb4.out, qb5.out, qb6.out, qb7.out]
  clear hr
  go_enter Tryz.func35, Tryz.ntmps35
  go_upto_region 1 with (fail)
  generalize w.alloc (.cells #[u0, .slice a1 d.np c1, u2, .int .i64 d.bank, .int .i64 d.A, .int .i64 d.X, .int .i64 d.S, .int .i64 d.Pc, .bool d.Z, .bool d.N, .bool d.C, .bool d.I, .bool d.hd, .int .i64 d.sh, .int .i64 d.T, .bool d.nmi, .int .i64 d.ctrl, .bool d.kn, .int .i64 d.ka, .int .i64 d.st, u3, .int .i64 d.pc.t, .int .i64 d.pc.c, .int .i64 d.pc.s, .int .i64 d.pc.ad, .int .i64 d.pc.pl, .bool d.pc.bl, q1, q2, .int .i64 d.pc.cap, .slice s3 d.pc.n c3, q4, .int .i64 d.sn.T, .int .i64 d.sn.P, .int .i64 d.sn.C, .int .i64 d.sn.B, .int .i64 d.sn.L, .bool d.sn.S, .bool d.sn.Q, .int .i64 d.sn.cap, .slice s5 d.sn.n c5, r2] 46) = W0 at *
  have c0 := boxC k0
  go_wp2_with fail
  clear c0
  have HC := hide (implMemOk W0 _ _ _ _ d.m d.ln d.f d.nr d.g d.bank (KS L0 g0) (KE L0 g2))
  rw [← qb0.out] at HC
  refine HC.out.mono ?_
  clear HC
  rintro e W1 ⟨rfl, L⟩
  replace L0 := below_snoc L0 L
  replace k0 := box_keep k0 L (boxLt k0)
  clear L
  cases b0
  · have HE : Hid (r = false) := by rw [HOK.out]; rfl
    have c0 := boxC k0
    go_wp2
    go_ret
    exact ⟨ret_bool HE.out.symm, L0⟩
  have c0 := boxC k0
  go_wp2_with fail
  clear c0
  have HC := hide (implPadsOkS W1 _ _ d.np d.p (KE L0 g1))
  rw [← qb1.out] at HC
  refine HC.out.mono ?_
  clear HC
  rintro e W2 ⟨rfl, hw⟩
  have L : Below W1.heap.size W1 W2 := by rw [hw]; exact Below.refl _ _
  clear hw
  replace L0 := below_snoc L0 L
  replace k0 := box_keep k0 L (boxLt k0)
  clear L
  cases b1
  · have HE : Hid (r = false) := by rw [HOK.out]; rfl
    have c0 := boxC k0
    go_wp2
    go_ret
    exact ⟨ret_bool HE.out.symm, L0⟩
  have c0 := boxC k0
  go_wp2_with fail
  clear c0
  have HC := hide (implCpuOk W2 d.A d.X d.S d.Pc d.Z d.N d.C d.I)
  rw [← qb2.out] at HC
  refine HC.out.mono ?_
  clear HC
  rintro e W3 ⟨rfl, L⟩
  replace L0 := below_snoc L0 L
  replace k0 := box_keep k0 L (boxLt k0)
  clear L
  cases b2
  · have HE : Hid (r = false) := by rw [HOK.out]; rfl
    have c0 := boxC k0
    go_wp2
    go_ret
    exact ⟨ret_bool HE.out.symm, L0⟩
  have c0 := boxC k0
  go_wp2_with fail
  clear c0
  have HC := hide (implPictureOk W3 _ _ d.pc (h4.keep (wrote_below L0 Nowhere) (fun _ _ _ _ _ x => x)))
  rw [← qb3.out] at HC
  refine HC.out.mono ?_
  clear HC
  rintro e W4 ⟨rfl, L⟩
  replace L0 := below_snoc L0 L
  replace k0 := box_keep k0 L (boxLt k0)
  clear L
  cases b3
  · have HE : Hid (r = false) := by rw [HOK.out]; rfl
    have c0 := boxC k0
    go_wp2
    go_ret
    exact ⟨ret_bool HE.out.symm, L0⟩
  have c0 := boxC k0
  go_wp2_with fail
  clear c0
  have HC := hide (implSoundOk W4 _ _ d.sn (h5.keep (wrote_below L0 Nowhere) (fun _ _ _ _ _ x => x)))
  rw [← qb4.out] at HC
  refine HC.out.mono ?_
  clear HC
  rintro e W5 ⟨rfl, L⟩
  replace L0 := below_snoc L0 L
  replace k0 := box_keep k0 L (boxLt k0)
  clear L
  cases b4
  · have HE : Hid (r = false) := by rw [HOK.out]; rfl
    have c0 := boxC k0
    go_wp2
    go_ret
    exact ⟨ret_bool HE.out.symm, L0⟩
  have c0 := boxC k0
  go_wp2_with fail
  clear c0
  have HC := hide (isByte d.sh W5)
  rw [← qb5.out] at HC
  refine HC.out.mono ?_
  clear HC
  rintro e W6 ⟨rfl, hw⟩
  have L : Below W5.heap.size W5 W6 := by rw [hw]; exact Below.refl _ _
  clear hw
  replace L0 := below_snoc L0 L
  replace k0 := box_keep k0 L (boxLt k0)
  clear L
  cases b5
  · have HE : Hid (r = false) := by rw [HOK.out]; rfl
    have c0 := boxC k0
    go_wp2
    go_ret
    exact ⟨ret_bool HE.out.symm, L0⟩
  have c0 := boxC k0
  go_wp2_with fail
  clear c0
  have HC := hide (isByte d.ctrl W6)
  rw [← qb6.out] at HC
  refine HC.out.mono ?_
  clear HC
  rintro e W7 ⟨rfl, hw⟩
  have L : Below W6.heap.size W6 W7 := by rw [hw]; exact Below.refl _ _
  clear hw
  replace L0 := below_snoc L0 L
  replace k0 := box_keep k0 L (boxLt k0)
  clear L
  cases b6
  · have HE : Hid (r = false) := by rw [HOK.out]; rfl
    have c0 := boxC k0
    go_wp2
    go_ret
    exact ⟨ret_bool HE.out.symm, L0⟩
  have c0 := boxC k0
  go_wp2_with (refine wpList_load_rowI (by rfl) _ _ rfl (w.heap.size) rfl _ _ _ _ k0 Tryz.underlying46 rfl infoSplitI ?_)
  clear c0
  have HC := hide (noneBeyond W7 _ _ d (HN.out.keep (wrote_below L0 Nowhere) (fun _ _ _ _ _ x => x)))
  rw [← qb7.out] at HC
  refine HC.out.mono ?_
  clear HC
  rintro e W8 ⟨rfl, L⟩
  replace L0 := below_snoc L0 L
  replace k0 := box_keep k0 L (boxLt k0)
  clear L
  have HE : Hid (r = b7) := by rw [HOK.out]; rfl
  have c0 := boxC k0
  go_wp2
  go_ret
  exact ⟨ret_bool HE.out.symm, L0⟩
end Go.Proofs.YtjcaligejlhjdaaGreat
