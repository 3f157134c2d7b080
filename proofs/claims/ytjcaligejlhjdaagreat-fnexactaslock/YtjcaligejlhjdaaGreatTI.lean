/-
  The program's chapter 14: which units are right.
-/
import Derived.Test.YtjcaligejlhjdaaGreatTC
import Derived.Test.YtjcaligejlhjdaaGreatTF
import Derived.Test.YtjcaligejlhjdaaGreatRIa
import Derived.Test.YtjcaligejlhjdaaGreatI9
import Derived.Test.YtjcaligejlhjdaaGreatI8b
namespace Go.Proofs.YtjcaligejlhjdaaGreat
set_option linter.unusedVariables false
set_option linter.unusedSimpArgs false
open Go.ChangeShapes Go.WideShapes Go.ChangeAt Go.RowKit
set_option maxHeartbeats 1000000 in
theorem noneAhead (w : World) (a : Option Addr) (n c : Nat) (f : Nat → Int) (cap t : Int) (hn : n ≤ 1048576) (H : RowOf .i64 w a (n * 3) f) : Calls Tryz.prog 132 #[.agg #[.int .i64 cap, .slice a n c], .int .i64 t] w fun e w' => e = .returned (.bool (lateOk n f t)) ∧ Below w.heap.size w w' := by
  have C0 : Below w.heap.size w (w.alloc (.cells #[.int .i64 cap, .slice a n c] 38)) := (Below.refl _ _).alloc (Nat.le_refl _) _
  have k0 := box_new w #[.int .i64 cap, .slice a n c] 38
  obtain ⟨bb, hbb⟩ : ∃ b, Hid (b = lateOk n f t) := ⟨_, rfl⟩
  rw [← hbb.out]
  go_enter Tryz.func132, Tryz.ntmps132
  go_upto_region 1 with (fail)
  generalize w.alloc (.cells #[.int .i64 cap, .slice a n c] 38) = W0 at *
  have c0 := boxC k0
  by_cases h0 : n = 0
  · subst h0
    have HE : Hid (bb = true) := by show _ = _; rw [hbb.out]; rfl
    clear hbb H
    go_wp2
    go_ret
    exact ⟨ret_bool HE.out.symm, C0⟩
  · obtain ⟨b, off, rfl, q0, q1, q2⟩ := H.rec3 (show 0 < n by omega)
    have hb : b < w.heap.size := block_lt_of_cell q0
    have d0 := (C0.cell (p := ⟨b, off + 0 * 3, none⟩) hb).trans q0
    simp only [Nat.zero_mul, Nat.add_zero] at d0
    have HE : Hid (bb = decide (t ≤ f 0)) := by show _ = _; rw [hbb.out]; unfold lateOk; rw [show (n == 0) = false by simpa using h0]; rfl
    clear hbb H q0 q1 q2
    obtain ⟨x, hx⟩ : ∃ x, Hid (x = f 0) := ⟨_, rfl⟩
    rw [← hx.out] at d0 HE
    clear hx
    have hne : ((n : Int) == 0) = false := by simp; omega
    have hlt : (0 : Int) < (n : Int) := by omega
    go_wp2
    go_ret
    exact ⟨ret_bool (by rw [HE.out]), C0⟩
set_option maxHeartbeats 4000000 in
theorem implSoundOk (w : World) (D : Nat → Nat → Prop) (v : Value) (d : SnD) (H : SnOn w D v d) : Calls Tryz.prog 95 #[v] w fun e w' => e = .returned (.bool (okSn d)) ∧ Below w.heap.size w w' := by
  obtain ⟨u1, u2, rfl, h1, h2⟩ := H
  obtain ⟨x', xd, rfl⟩ := h2.two
  have hns := h2.small
  obtain ⟨a, c, e1, hn, hrow, hF, hD⟩ := id h1
  subst e1
  have L0 : Below w.heap.size w (w.alloc (.cells #[.int .i64 d.T, .int .i64 d.P, .int .i64 d.C, .int .i64 d.B, .int .i64 d.L, .bool d.S, .bool d.Q, .int .i64 d.cap, .slice a d.n c, .slice x' d.ns xd] 44)) := (Below.refl _ _).alloc (Nat.le_refl _) _
  have k0 := box_new w #[.int .i64 d.T, .int .i64 d.P, .int .i64 d.C, .int .i64 d.B, .int .i64 d.L, .bool d.S, .bool d.Q, .int .i64 d.cap, .slice a d.n c, .slice x' d.ns xd] 44
  clear h2 hD hF
  obtain ⟨b0, qb0⟩ : ∃ b, Hid (b = okApu d.T d.P d.C d.B d.L) := ⟨_, rfl⟩
  obtain ⟨b1, qb1⟩ : ∃ b, Hid (b = okRing d.cap d.n d.f) := ⟨_, rfl⟩
  obtain ⟨b2, qb2⟩ : ∃ b, Hid (b = lateOk d.n d.f d.T) := ⟨_, rfl⟩
  obtain ⟨b3, qb3⟩ : ∃ b, Hid (b = ((d.ns : Int) == d.T / 16)) := ⟨_, rfl⟩
  obtain ⟨r, hr⟩ : ∃ r, Hid (r = okSn d) := ⟨_, rfl⟩
  rw [← hr.out]
  have HOK : Hid (r = (b0 && (b1 && (b2 && b3)))) := by show _ = _; rw [hr.out, qb0.out, qb1.out, qb2.out, qb3.out]; rfl
  have HT : b0 = true → Hid (0 ≤ d.T ∧ d.T ≤ 20000) := fun h => by have := okApu_of (qb0.out ▸ h); exact ⟨this.t0, this.t1⟩
  clear hr
  go_enter Tryz.func95, Tryz.ntmps95
  go_upto_region 1 with (fail)
  generalize w.alloc (.cells #[.int .i64 d.T, .int .i64 d.P, .int .i64 d.C, .int .i64 d.B, .int .i64 d.L, .bool d.S, .bool d.Q, .int .i64 d.cap, .slice a d.n c, .slice x' d.ns xd] 44) = W0 at *
  have c0 := boxC k0
  go_wp2_with fail
  clear c0
  have HC := hide (implApuOk W0 d.T d.P d.C d.B d.L d.S d.Q)
  rw [← qb0.out] at HC
  refine HC.out.mono ?_
  clear HC
  rintro e W1 ⟨rfl, L⟩
  replace L0 := below_snoc L0 L
  replace k0 := box_keep k0 L (boxLt k0)
  clear L
  cases b0
  · have HE : Hid (r = false) := by rw [HOK.out]; rfl
    have c0 := boxC k0
    go_wp2
    go_ret
    exact ⟨ret_bool HE.out.symm, L0⟩
  have hT := hide (HT rfl).out
  clear HT
  have c0 := boxC k0
  go_wp2_with fail
  clear c0
  have HC := hide (implRingOk W1 _ (.agg #[.int .i64 d.cap, .slice a d.n c]) d.cap d.n d.f ⟨_, rfl, h1.keep (wrote_below L0 Nowhere) (fun _ _ _ _ x => x)⟩)
  rw [← qb1.out] at HC
  refine HC.out.mono ?_
  clear HC
  rintro e W2 ⟨rfl, L⟩
  replace L0 := below_snoc L0 L
  replace k0 := box_keep k0 L (boxLt k0)
  clear L
  cases b1
  · have HE : Hid (r = false) := by rw [HOK.out]; rfl
    have c0 := boxC k0
    go_wp2
    go_ret
    exact ⟨ret_bool HE.out.symm, L0⟩
  have c0 := boxC k0
  go_wp2_with fail
  clear c0
  have HC := hide (noneAhead W2 a d.n c d.f d.cap d.T hn.1 (hrow.keep (wrote_below L0 Nowhere) (fun _ _ _ x => x)))
  rw [← qb2.out] at HC
  refine HC.out.mono ?_
  clear HC
  rintro e W3 ⟨rfl, L⟩
  replace L0 := below_snoc L0 L
  replace k0 := box_keep k0 L (boxLt k0)
  clear L
  cases b2
  · have HE : Hid (r = false) := by rw [HOK.out]; rfl
    have c0 := boxC k0
    go_wp2
    go_ret
    exact ⟨ret_bool HE.out.symm, L0⟩
  have HE : Hid (r = b3) := by rw [HOK.out]; rfl
  have c0 := boxC k0
  go_wp2_with fail
  clear c0
  have HC := hide (areSamplesT W3 x' d.ns xd hns d.T hT.out.1 hT.out.2)
  rw [← qb3.out] at HC
  refine HC.out.mono ?_
  clear HC
  rintro e W4 ⟨rfl, hw⟩
  have L : Below W3.heap.size W3 W4 := by rw [hw]; exact Below.refl _ _
  clear hw
  replace L0 := below_snoc L0 L
  replace k0 := box_keep k0 L (boxLt k0)
  clear L
  have c0 := boxC k0
  go_wp2
  go_ret
  exact ⟨ret_bool HE.out.symm, L0⟩
set_option maxHeartbeats 4000000 in
theorem implPictureOk (w : World) (D : Nat → Nat → Prop) (v : Value) (d : PcD) (H : PcOn w D v d) : Calls Tryz.prog 94 #[v] w fun e w' => e = .returned (.bool (okPc d)) ∧ Below w.heap.size w w' := by
  obtain ⟨u1, u2, u3, u4, rfl, hP, h1, h4⟩ := H
  obtain ⟨p1, y1, p2, y2, rfl, rfl, hnt, hnd⟩ := hP.lists
  obtain ⟨p4, y4, rfl⟩ := h4.form
  obtain ⟨a, c, e1, hn, hrow, hF, hD⟩ := id h1
  subst e1
  obtain ⟨v1, v2, ev, i1, i2⟩ := hP.ints
  simp only [Value.agg.injEq, Array.mk.injEq, List.cons.injEq, and_true, true_and] at ev
  obtain ⟨rfl, rfl⟩ := ev
  have g4 := h4.ints
  have L0 : Below w.heap.size w (w.alloc (.cells #[.int .i64 d.t, .int .i64 d.c, .int .i64 d.s, .int .i64 d.ad, .int .i64 d.pl, .bool d.bl, .slice p1 d.nt y1, .slice p2 d.nd y2, .int .i64 d.cap, .slice a d.n c, .slice p4 d.mf y4] 40)) := (Below.refl _ _).alloc (Nat.le_refl _) _
  have k0 := box_new w #[.int .i64 d.t, .int .i64 d.c, .int .i64 d.s, .int .i64 d.ad, .int .i64 d.pl, .bool d.bl, .slice p1 d.nt y1, .slice p2 d.nd y2, .int .i64 d.cap, .slice a d.n c, .slice p4 d.mf y4] 40
  clear hP h4 hD hF
  obtain ⟨b0, qb0⟩ : ∃ b, Hid (b = okPpu d.t d.c d.s d.ad d.pl d.nt d.tb d.nd d.dt) := ⟨_, rfl⟩
  obtain ⟨b1, qb1⟩ : ∃ b, Hid (b = okRing d.cap d.n d.f) := ⟨_, rfl⟩
  obtain ⟨b2, qb2⟩ : ∃ b, Hid (b = lateOk d.n d.f d.t) := ⟨_, rfl⟩
  obtain ⟨b3, qb3⟩ : ∃ b, Hid (b = okFrT d.mf d.lf d.t) := ⟨_, rfl⟩
  obtain ⟨r, hr⟩ : ∃ r, Hid (r = okPc d) := ⟨_, rfl⟩
  rw [← hr.out]
  have HOK : Hid (r = (b0 && (b1 && (b2 && b3)))) := by show _ = _; rw [hr.out, qb0.out, qb1.out, qb2.out, qb3.out]; rfl
  have HT : b0 = true → Hid (0 ≤ d.t ∧ d.t ≤ 20000) := fun h => okPpu_rangeT (qb0.out ▸ h)
  clear hr
  go_enter Tryz.func94, Tryz.ntmps94
  go_upto_region 1 with (fail)
  generalize w.alloc (.cells #[.int .i64 d.t, .int .i64 d.c, .int .i64 d.s, .int .i64 d.ad, .int .i64 d.pl, .bool d.bl, .slice p1 d.nt y1, .slice p2 d.nd y2, .int .i64 d.cap, .slice a d.n c, .slice p4 d.mf y4] 40) = W0 at *
  have c0 := boxC k0
  go_wp2_with fail
  clear c0
  have HC := hide (implPpuOk W0 _ _ d.t d.c d.s d.ad d.pl d.bl _ _ d.nt d.tb d.nd d.dt (i1.keep (wrote_below L0 Nowhere) (fun _ _ _ x => x)) (i2.keep (wrote_below L0 Nowhere) (fun _ _ _ x => x)))
  rw [← qb0.out] at HC
  refine HC.out.mono ?_
  clear HC
  rintro e W1 ⟨rfl, L⟩
  replace L0 := below_snoc L0 L
  replace k0 := box_keep k0 L (boxLt k0)
  clear L
  cases b0
  · have HE : Hid (r = false) := by rw [HOK.out]; rfl
    have c0 := boxC k0
    go_wp2
    go_ret
    exact ⟨ret_bool HE.out.symm, L0⟩
  have hT := hide (HT rfl).out
  clear HT
  have c0 := boxC k0
  go_wp2_with fail
  clear c0
  have HC := hide (implRingOk W1 _ (.agg #[.int .i64 d.cap, .slice a d.n c]) d.cap d.n d.f ⟨_, rfl, h1.keep (wrote_below L0 Nowhere) (fun _ _ _ _ x => x)⟩)
  rw [← qb1.out] at HC
  refine HC.out.mono ?_
  clear HC
  rintro e W2 ⟨rfl, L⟩
  replace L0 := below_snoc L0 L
  replace k0 := box_keep k0 L (boxLt k0)
  clear L
  cases b1
  · have HE : Hid (r = false) := by rw [HOK.out]; rfl
    have c0 := boxC k0
    go_wp2
    go_ret
    exact ⟨ret_bool HE.out.symm, L0⟩
  have c0 := boxC k0
  go_wp2_with fail
  clear c0
  have HC := hide (noneAhead W2 a d.n c d.f d.cap d.t hn.1 (hrow.keep (wrote_below L0 Nowhere) (fun _ _ _ x => x)))
  rw [← qb2.out] at HC
  refine HC.out.mono ?_
  clear HC
  rintro e W3 ⟨rfl, L⟩
  replace L0 := below_snoc L0 L
  replace k0 := box_keep k0 L (boxLt k0)
  clear L
  cases b2
  · have HE : Hid (r = false) := by rw [HOK.out]; rfl
    have c0 := boxC k0
    go_wp2
    go_ret
    exact ⟨ret_bool HE.out.symm, L0⟩
  have HE : Hid (r = b3) := by rw [HOK.out]; rfl
  have c0 := boxC k0
  go_wp2_with fail
  clear c0
  have HC := hide (areFramesT W3 _ _ d.mf d.lf d.fr d.t (g4.keep (wrote_below L0 Nowhere) (fun _ _ _ x => x)) hT.out.1 hT.out.2)
  rw [← qb3.out] at HC
  refine HC.out.mono ?_
  clear HC
  rintro e W4 ⟨rfl, L⟩
  replace L0 := below_snoc L0 L
  replace k0 := box_keep k0 L (boxLt k0)
  clear L
  have c0 := boxC k0
  go_wp2
  go_ret
  exact ⟨ret_bool HE.out.symm, L0⟩
end Go.Proofs.YtjcaligejlhjdaaGreat
