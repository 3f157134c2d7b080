/-
  Chapter 15 of the specification by its contracts: what is right.
-/
import Derived.Test.YtjcaligejlhjdaaGreatUA
import Derived.Test.YtjcaligejlhjdaaGreatTC
import Derived.Test.YtjcaligejlhjdaaGreatC7
import Derived.Lib.QuietBelow
import Derived.BigQuiet
import Derived.Deep.DeepCutAuto
namespace Go.Proofs.YtjcaligejlhjdaaGreat
set_option linter.unusedVariables false
set_option linter.unusedSimpArgs false
open Go.ChangeShapes Go.WideShapes Go.ChangeAt Go.RowKit Go.Sort
theorem boxU {W : World} {b : Nat} {cs : Array Value} {T : TypeId} (h : W.heap[b]? = some (.cells cs T (0, 0))) (d : Nat) (os : Array Obj) (j : Nat) : (grow (redrawn W d) os).cell? ⟨b, j, none⟩ = cs[j]? := boxC (((below_regrown W d os).block _ (boxLt h)).trans h) j
/-- The time of the last record; 0: there is none. -/
def lastU (f : Nat → Int) (q : Nat) : Int := if q = 0 then 0 else f ((q - 1) * 3)
def okSplit (d : SpD) : Bool := okPads d.np d.p && (okMem d.m d.ln d.f d.nr d.g d.bank && (okCpu d.A d.X d.S d.Pc && (okPc d.pc && (okSn d.sn && (inB d.sh 0 255 && (inB d.ctrl 0 255 && (inB d.T 0 20000 && (inB d.ka 0 d.T && (inB d.st 0 d.T && (decide (d.pc.t ≤ d.T) && (decide (d.sn.T ≤ d.T) && (decide (lastU d.pc.f d.pc.n ≤ d.T) && decide (lastU d.sn.f d.sn.n ≤ d.T)))))))))))))
theorem l14Last (w : World) (a : Option Addr) (n c : Nat) (f : Nat → Int) (cap : Int) (hn : n ≤ 1048576) (H : RowOf .i64 w a (n * 3) f) : Calls Tryz.prog 88 #[.agg #[.int .i64 cap, .slice a n c]] w fun e w' => e = .returned (.int .i64 (lastU f n)) ∧ Below w.heap.size w w' := by
  have C0 : Below w.heap.size w (w.alloc (.cells #[.int .i64 cap, .slice a n c] 38)) := (Below.refl _ _).alloc (Nat.le_refl _) _
  have k0 := box_new w #[.int .i64 cap, .slice a n c] 38
  obtain ⟨bb, hbb⟩ : ∃ b, Hid (b = lastU f n) := ⟨_, rfl⟩
  rw [← hbb.out]
  go_enter Tryz.func88, Tryz.ntmps88
  go_upto_region 1 with (fail)
  generalize w.alloc (.cells #[.int .i64 cap, .slice a n c] 38) = W0 at *
  have c0 := boxC k0
  by_cases h0 : n = 0
  · subst h0
    have HE : Hid (bb = 0) := by show _ = _; rw [hbb.out]; rfl
    clear hbb H
    go_wp2
    go_ret
    exact ⟨ret_int HE.out.symm, C0⟩
  · have HE : Hid (bb = f ((n - 1) * 3)) := by show _ = _; rw [hbb.out]; unfold lastU; rw [if_neg h0]
    clear hbb
    obtain ⟨b, off, rfl, q0, q1, q2⟩ := H.rec3 (show n - 1 < n by omega)
    have hb : b < w.heap.size := block_lt_of_cell q0
    have d0 := (C0.cell (p := ⟨b, off + (n - 1) * 3, none⟩) hb).trans q0
    obtain ⟨m, rfl⟩ : ∃ m, n = m + 1 := ⟨n - 1, by omega⟩
    simp only [Nat.add_sub_cancel] at d0 HE
    clear H q0 q1 q2
    have hne : (((m + 1 : Nat) : Int) == 0) = false := by simp; omega
    have w1 : IntKind.i64.wrap (m : Int) = m := by rw [IntKind.wrap_i64]; omega
    go_wp2
    go_ret
    exact ⟨ret_int HE.out.symm, C0⟩
set_option maxHeartbeats 8000000 in
theorem specSplitOk (w : World) (D : Nat → Nat → Prop) (v : Value) (d : SpD) (H : SplitOn w D v d) : Calls Tryz.prog 29 #[v] w fun e w' => e = .returned (.bool (okSplit d)) ∧ Below w.heap.size w w' := by
  obtain ⟨u0, u1, u2, u3, q1, q2, q3, q4, r1, r2, rfl, h0, h1, h2, h3, h4, h5⟩ := H
  obtain ⟨y2, hy2, g2⟩ := h2.ints
  simp only [Value.agg.injEq, Array.mk.injEq, List.cons.injEq, and_true] at hy2
  subst hy2
  have g0 := h0.ints
  obtain ⟨a1, c1, e1, s1⟩ := id h1
  subst e1
  have g1 := s1.ints c1
  obtain ⟨s3, c3, rfl, n3, w3⟩ : ∃ a c, q3 = .slice a d.pc.n c ∧ d.pc.n ≤ 1048576 ∧ RowOf .i64 w a (d.pc.n * 3) d.pc.f := by
    obtain ⟨x1, x2, x3, x4, e, -, hr, -⟩ := id h4
    simp only [Value.agg.injEq, Array.mk.injEq, List.cons.injEq, and_true, true_and] at e
    obtain ⟨-, -, rfl, -⟩ := e
    obtain ⟨a, c, e1, hn, hrow, -, -⟩ := id hr
    exact ⟨a, c, e1, hn.1, hrow⟩
  obtain ⟨s5, c5, rfl, n5, w5⟩ : ∃ a c, r1 = .slice a d.sn.n c ∧ d.sn.n ≤ 1048576 ∧ RowOf .i64 w a (d.sn.n * 3) d.sn.f := by
    obtain ⟨x1, x2, e, hr, -⟩ := id h5
    simp only [Value.agg.injEq, Array.mk.injEq, List.cons.injEq, and_true, true_and] at e
    obtain ⟨rfl, -⟩ := e
    obtain ⟨a, c, e1, hn, hrow, -, -⟩ := id hr
    exact ⟨a, c, e1, hn.1, hrow⟩
  clear h0 h1 h2 h3 s1
  have L0 : Below w.heap.size w (w.alloc (.cells #[u0, .slice a1 d.np c1, u2, .int .i64 d.bank, .int .i64 d.A, .int .i64 d.X, .int .i64 d.S, .int .i64 d.Pc, .bool d.Z, .bool d.N, .bool d.C, .bool d.I, .bool d.hd, .int .i64 d.sh, .int .i64 d.T, .bool d.nmi, .int .i64 d.ctrl, .bool d.kn, .int .i64 d.ka, .int .i64 d.st, u3, .int .i64 d.pc.t, .int .i64 d.pc.c, .int .i64 d.pc.s, .int .i64 d.pc.ad, .int .i64 d.pc.pl, .bool d.pc.bl, q1, q2, .int .i64 d.pc.cap, .slice s3 d.pc.n c3, q4, .int .i64 d.sn.T, .int .i64 d.sn.P, .int .i64 d.sn.C, .int .i64 d.sn.B, .int .i64 d.sn.L, .bool d.sn.S, .bool d.sn.Q, .int .i64 d.sn.cap, .slice s5 d.sn.n c5, r2] 46)) := (Below.refl _ _).alloc (Nat.le_refl _) _
  have k0 := box_new w #[u0, .slice a1 d.np c1, u2, .int .i64 d.bank, .int .i64 d.A, .int .i64 d.X, .int .i64 d.S, .int .i64 d.Pc, .bool d.Z, .bool d.N, .bool d.C, .bool d.I, .bool d.hd, .int .i64 d.sh, .int .i64 d.T, .bool d.nmi, .int .i64 d.ctrl, .bool d.kn, .int .i64 d.ka, .int .i64 d.st, u3, .int .i64 d.pc.t, .int .i64 d.pc.c, .int .i64 d.pc.s, .int .i64 d.pc.ad, .int .i64 d.pc.pl, .bool d.pc.bl, q1, q2, .int .i64 d.pc.cap, .slice s3 d.pc.n c3, q4, .int .i64 d.sn.T, .int .i64 d.sn.P, .int .i64 d.sn.C, .int .i64 d.sn.B, .int .i64 d.sn.L, .bool d.sn.S, .bool d.sn.Q, .int .i64 d.sn.cap, .slice s5 d.sn.n c5, r2] 46
  have KE : ∀ {W : World}, Below w.heap.size w W → ∀ {F : Nat → Nat → Prop} {v : Value} {n : Nat} {f : Nat → Int}, Ints .i64 w F v n f → Ints .i64 W F v n f := fun L _ _ _ _ h => h.keep (wrote_below L Nowhere) (fun _ _ _ x => x)
  have KS : ∀ {W : World}, Below w.heap.size w W → ∀ {F : Nat → Nat → Prop} {v : Value} {m : Nat} {ln : Nat → Nat} {f : Nat → Nat → Int}, IntSS .i64 w F v m ln f → IntSS .i64 W F v m ln f := fun L _ _ _ _ _ h => h.keep (wrote_below L Nowhere) (fun _ _ _ x => x)
  obtain ⟨z12, hz12⟩ : ∃ b, Hid (b = lastU d.pc.f d.pc.n) := ⟨_, rfl⟩
  obtain ⟨z13, hz13⟩ : ∃ b, Hid (b = lastU d.sn.f d.sn.n) := ⟨_, rfl⟩
  obtain ⟨b0, qb0⟩ : ∃ b, Hid (b = okPads d.np d.p) := ⟨_, rfl⟩
  obtain ⟨b1, qb1⟩ : ∃ b, Hid (b = okMem d.m d.ln d.f d.nr d.g d.bank) := ⟨_, rfl⟩
  obtain ⟨b2, qb2⟩ : ∃ b, Hid (b = okCpu d.A d.X d.S d.Pc) := ⟨_, rfl⟩
  obtain ⟨b3, qb3⟩ : ∃ b, Hid (b = okPc d.pc) := ⟨_, rfl⟩
  obtain ⟨b4, qb4⟩ : ∃ b, Hid (b = okSn d.sn) := ⟨_, rfl⟩
  obtain ⟨b5, qb5⟩ : ∃ b, Hid (b = inB d.sh 0 255) := ⟨_, rfl⟩
  obtain ⟨b6, qb6⟩ : ∃ b, Hid (b = inB d.ctrl 0 255) := ⟨_, rfl⟩
  obtain ⟨b7, qb7⟩ : ∃ b, Hid (b = inB d.T 0 20000) := ⟨_, rfl⟩
  obtain ⟨b8, qb8⟩ : ∃ b, Hid (b = inB d.ka 0 d.T) := ⟨_, rfl⟩
  obtain ⟨b9, qb9⟩ : ∃ b, Hid (b = inB d.st 0 d.T) := ⟨_, rfl⟩
  obtain ⟨b10, qb10⟩ : ∃ b, Hid (b = decide (d.pc.t ≤ d.T)) := ⟨_, rfl⟩
  obtain ⟨b11, qb11⟩ : ∃ b, Hid (b = decide (d.sn.T ≤ d.T)) := ⟨_, rfl⟩
  obtain ⟨b12, qb12⟩ : ∃ b, Hid (b = decide (z12 ≤ d.T)) := ⟨_, rfl⟩
  obtain ⟨b13, qb13⟩ : ∃ b, Hid (b = decide (z13 ≤ d.T)) := ⟨_, rfl⟩
  obtain ⟨r, hr⟩ : ∃ r, Hid (r = okSplit d) := ⟨_, rfl⟩
  rw [← hr.out]
  have HOK : Hid (r = (b0 && (b1 && (b2 && (b3 && (b4 && (b5 && (b6 && (b7 && (b8 && (b9 && (b10 && (b11 && (b12 && b13)))))))))))))) := by show _ = _; rw [hr.out, qb0.out, qb1.out, qb2.out, qb3.out, qb4.out, qb5.out, qb6.out, qb7.out, qb8.out, qb9.out, qb10.out, qb11.out, qb12.out, qb13.out, hz12.out, hz13.out]; rfl
  clear hr
  go_enter Tryz.func29, Tryz.ntmps29
  go_upto_region 1 with (fail)
  generalize w.alloc (.cells #[u0, .slice a1 d.np c1, u2, .int .i64 d.bank, .int .i64 d.A, .int .i64 d.X, .int .i64 d.S, .int .i64 d.Pc, .bool d.Z, .bool d.N, .bool d.C, .bool d.I, .bool d.hd, .int .i64 d.sh, .int .i64 d.T, .bool d.nmi, .int .i64 d.ctrl, .bool d.kn, .int .i64 d.ka, .int .i64 d.st, u3, .int .i64 d.pc.t, .int .i64 d.pc.c, .int .i64 d.pc.s, .int .i64 d.pc.ad, .int .i64 d.pc.pl, .bool d.pc.bl, q1, q2, .int .i64 d.pc.cap, .slice s3 d.pc.n c3, q4, .int .i64 d.sn.T, .int .i64 d.sn.P, .int .i64 d.sn.C, .int .i64 d.sn.B, .int .i64 d.sn.L, .bool d.sn.S, .bool d.sn.Q, .int .i64 d.sn.cap, .slice s5 d.sn.n c5, r2] 46) = W0 at *
  have c0 := boxC k0
  go_wp2_with fail
  clear c0
  have HC := hide (specPadsOk W0 _ _ d.np d.p (KE L0 g1))
  rw [← qb0.out] at HC
  refine HC.out.mono ?_
  clear HC
  rintro e W1 ⟨rfl, hw⟩
  have L : Below W0.heap.size W0 W1 := by rw [hw]; exact Below.refl _ _
  clear hw
  replace L0 := below_snoc L0 L
  replace k0 := box_keep k0 L (boxLt k0)
  clear L
  cases b0
  · have HE : Hid (r = false) := by rw [HOK.out]; rfl
    have c0 := boxC k0
    go_wp2
    go_ret
    exact ⟨ret_bool HE.out.symm, L0⟩
  have c0 := boxC k0
  go_wp2_with fail
  clear c0
  have HC := hide (specMemOk W1 _ _ _ _ d.m d.ln d.f d.nr d.g d.bank (KS L0 g0) (KE L0 g2))
  rw [← qb1.out] at HC
  refine HC.out.mono ?_
  clear HC
  rintro e W2 ⟨rfl, L⟩
  replace L0 := below_snoc L0 L
  replace k0 := box_keep k0 L (boxLt k0)
  clear L
  cases b1
  · have HE : Hid (r = false) := by rw [HOK.out]; rfl
    have c0 := boxC k0
    go_wp2
    go_ret
    exact ⟨ret_bool HE.out.symm, L0⟩
  have c0 := boxC k0
  go_wp2_with fail
  clear c0
  have HC := hide (specCpuOk W2 d.A d.X d.S d.Pc d.Z d.N d.C d.I)
  rw [← qb2.out] at HC
  refine HC.out.mono ?_
  clear HC
  rintro e W3 ⟨rfl, L⟩
  replace L0 := below_snoc L0 L
  replace k0 := box_keep k0 L (boxLt k0)
  clear L
  cases b2
  · have HE : Hid (r = false) := by rw [HOK.out]; rfl
    have c0 := boxC k0
    go_wp2
    go_ret
    exact ⟨ret_bool HE.out.symm, L0⟩
  have c0 := boxC k0
  go_wp2_with fail
  clear c0
  have HC := hide (specPictureOk W3 _ _ d.pc (h4.keep (wrote_below L0 Nowhere) (fun _ _ _ _ _ x => x)))
  rw [← qb3.out] at HC
  refine HC.out.mono ?_
  clear HC
  rintro e W4 ⟨rfl, L⟩
  replace L0 := below_snoc L0 L
  replace k0 := box_keep k0 L (boxLt k0)
  clear L
  cases b3
  · have HE : Hid (r = false) := by rw [HOK.out]; rfl
    have c0 := boxC k0
    go_wp2
    go_ret
    exact ⟨ret_bool HE.out.symm, L0⟩
  have c0 := boxC k0
  go_wp2_with fail
  clear c0
  have HC := hide (specSoundOk W4 _ _ d.sn (h5.keep (wrote_below L0 Nowhere) (fun _ _ _ _ _ x => x)))
  rw [← qb4.out] at HC
  refine HC.out.mono ?_
  clear HC
  rintro e W5 ⟨rfl, L⟩
  replace L0 := below_snoc L0 L
  replace k0 := box_keep k0 L (boxLt k0)
  clear L
  cases b4
  · have HE : Hid (r = false) := by rw [HOK.out]; rfl
    have c0 := boxC k0
    go_wp2
    go_ret
    exact ⟨ret_bool HE.out.symm, L0⟩
  have c0 := boxC k0
  go_wp2_with fail
  clear c0
  have HC := hide (l5Byte W5 d.sh)
  rw [← qb5.out] at HC
  refine HC.out.mono ?_
  clear HC
  rintro e W6 ⟨rfl, hw⟩
  have L : Below W5.heap.size W5 W6 := by rw [hw]; exact Below.refl _ _
  clear hw
  replace L0 := below_snoc L0 L
  replace k0 := box_keep k0 L (boxLt k0)
  clear L
  cases b5
  · have HE : Hid (r = false) := by rw [HOK.out]; rfl
    have c0 := boxC k0
    go_wp2
    go_ret
    exact ⟨ret_bool HE.out.symm, L0⟩
  have c0 := boxC k0
  go_wp2_with fail
  clear c0
  have HC := hide (l5Byte W6 d.ctrl)
  rw [← qb6.out] at HC
  refine HC.out.mono ?_
  clear HC
  rintro e W7 ⟨rfl, hw⟩
  have L : Below W6.heap.size W6 W7 := by rw [hw]; exact Below.refl _ _
  clear hw
  replace L0 := below_snoc L0 L
  replace k0 := box_keep k0 L (boxLt k0)
  clear L
  cases b6
  · have HE : Hid (r = false) := by rw [HOK.out]; rfl
    have c0 := boxC k0
    go_wp2
    go_ret
    exact ⟨ret_bool HE.out.symm, L0⟩
  have c0 := boxC k0
  go_wp2_with fail
  clear c0
  have HC := hide (l1In d.T 0 20000 W7)
  rw [← qb7.out] at HC
  refine HC.out.mono ?_
  clear HC
  rintro e W8 ⟨rfl, hw⟩
  have L : Below W7.heap.size W7 W8 := by rw [hw]; exact Below.refl _ _
  clear hw
  replace L0 := below_snoc L0 L
  replace k0 := box_keep k0 L (boxLt k0)
  clear L
  cases b7
  · have HE : Hid (r = false) := by rw [HOK.out]; rfl
    have c0 := boxC k0
    go_wp2
    go_ret
    exact ⟨ret_bool HE.out.symm, L0⟩
  have c0 := boxC k0
  go_wp2_with fail
  clear c0
  have HC := hide (l1In d.ka 0 d.T W8)
  rw [← qb8.out] at HC
  refine HC.out.mono ?_
  clear HC
  rintro e W9 ⟨rfl, hw⟩
  have L : Below W8.heap.size W8 W9 := by rw [hw]; exact Below.refl _ _
  clear hw
  replace L0 := below_snoc L0 L
  replace k0 := box_keep k0 L (boxLt k0)
  clear L
  cases b8
  · have HE : Hid (r = false) := by rw [HOK.out]; rfl
    have c0 := boxC k0
    go_wp2
    go_ret
    exact ⟨ret_bool HE.out.symm, L0⟩
  have c0 := boxC k0
  go_wp2_with fail
  clear c0
  have HC := hide (l1In d.st 0 d.T W9)
  rw [← qb9.out] at HC
  refine HC.out.mono ?_
  clear HC
  rintro e W10 ⟨rfl, hw⟩
  have L : Below W9.heap.size W9 W10 := by rw [hw]; exact Below.refl _ _
  clear hw
  replace L0 := below_snoc L0 L
  replace k0 := box_keep k0 L (boxLt k0)
  clear L
  cases b9
  · have HE : Hid (r = false) := by rw [HOK.out]; rfl
    have c0 := boxC k0
    go_wp2
    go_ret
    exact ⟨ret_bool HE.out.symm, L0⟩
  by_cases h20 : ¬ (d.pc.t ≤ d.T)
  · obtain rfl : b10 = false := by rw [qb10.out]; exact decide_eq_false h20
    have HE : Hid (r = false) := by rw [HOK.out]; rfl
    have c0 := boxC k0
    go_wp2
    go_ret
    exact ⟨ret_bool HE.out.symm, L0⟩
  replace h20 := Decidable.not_not.1 h20
  obtain rfl : b10 = true := by rw [qb10.out]; exact decide_eq_true h20
  by_cases h21 : ¬ (d.sn.T ≤ d.T)
  · obtain rfl : b11 = false := by rw [qb11.out]; exact decide_eq_false h21
    have HE : Hid (r = false) := by rw [HOK.out]; rfl
    have c0 := boxC k0
    go_wp2
    go_ret
    exact ⟨ret_bool HE.out.symm, L0⟩
  replace h21 := Decidable.not_not.1 h21
  obtain rfl : b11 = true := by rw [qb11.out]; exact decide_eq_true h21
  have c0 := boxC k0
  go_upto_region 5 with (fail)
  clear c0
  have L12 := hide (fun (dd : Nat) (os : Array Obj) => l14Last (grow (redrawn W10 dd) os) s3 d.pc.n c3 d.pc.f d.pc.cap n3 (w3.keep (wrote_below (below_snoc L0 (below_regrown W10 dd os)) Nowhere) (fun _ _ _ x => x)))
  rw [← hz12.out] at L12
  have L13 := hide (fun (dd : Nat) (os : Array Obj) => l14Last (grow (redrawn W10 dd) os) s5 d.sn.n c5 d.sn.f d.sn.cap n5 (w5.keep (wrote_below (below_snoc L0 (below_regrown W10 dd os)) Nowhere) (fun _ _ _ x => x)))
  rw [← hz13.out] at L13
  have c0 := boxU k0
  by_cases h22 : z12 ≤ d.T
  · by_cases h23 : z13 ≤ d.T
    · have HE : Hid (r = true) := by show _ = _; rw [HOK.out, qb12.out, qb13.out]; simp [h22, h23]
      refine wp_region_quiet_below (by kernel_rfl) (by kernel_rfl) ?_
      repeat (go_big_quiet_step (first | (go_at_call 88; first | with_reducible exact Calls.regrown_of (L12.out _ _) | with_reducible exact Calls.regrown_of (L13.out _ _))))
      refine wpQuiet_nil ?_
      intro _ hw'
      obtain ⟨⟨dq, osq⟩, hw''⟩ := hw'
      subst hw''
      have LQ := below_snoc L0 (below_regrown W10 dq osq)
      generalize grow (redrawn W10 dq) osq = w4 at *
      clear c0
      go_wp2
      go_ret
      exact ⟨ret_bool HE.out.symm, LQ⟩
    · have HE : Hid (r = false) := by show _ = _; rw [HOK.out, qb12.out, qb13.out]; simp [h22, h23]
      refine wp_region_quiet_below (by kernel_rfl) (by kernel_rfl) ?_
      repeat (go_big_quiet_step (first | (go_at_call 88; first | with_reducible exact Calls.regrown_of (L12.out _ _) | with_reducible exact Calls.regrown_of (L13.out _ _))))
      refine wpQuiet_nil ?_
      intro _ hw'
      obtain ⟨⟨dq, osq⟩, hw''⟩ := hw'
      subst hw''
      have LQ := below_snoc L0 (below_regrown W10 dq osq)
      generalize grow (redrawn W10 dq) osq = w4 at *
      clear c0
      go_wp2
      go_ret
      exact ⟨ret_bool HE.out.symm, LQ⟩
  · have HE : Hid (r = false) := by show _ = _; rw [HOK.out, qb12.out, qb13.out]; simp [h22]
    refine wp_region_quiet_below (by kernel_rfl) (by kernel_rfl) ?_
    repeat (go_big_quiet_step (first | (go_at_call 88; first | with_reducible exact Calls.regrown_of (L12.out _ _) | with_reducible exact Calls.regrown_of (L13.out _ _))))
    refine wpQuiet_nil ?_
    intro _ hw'
    obtain ⟨⟨dq, osq⟩, hw''⟩ := hw'
    subst hw''
    have LQ := below_snoc L0 (below_regrown W10 dq osq)
    generalize grow (redrawn W10 dq) osq = w4 at *
    clear c0
    go_wp2
    go_ret
    exact ⟨ret_bool HE.out.symm, LQ⟩
end Go.Proofs.YtjcaligejlhjdaaGreat
