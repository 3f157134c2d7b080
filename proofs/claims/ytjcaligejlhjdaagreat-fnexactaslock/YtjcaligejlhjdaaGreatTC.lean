/-
  Chapter 14 of the specification: SoundOk.
-/
import Derived.Test.YtjcaligejlhjdaaGreatTA
import Derived.Test.YtjcaligejlhjdaaGreatRC
import Derived.Test.YtjcaligejlhjdaaGreatTB
import Derived.Test.YtjcaligejlhjdaaGreatTF
import Derived.Test.YtjcaligejlhjdaaGreatS8
import Derived.Lib.QuietBelow
import Derived.BigQuiet
namespace Go.Proofs.YtjcaligejlhjdaaGreat
set_option linter.unusedVariables false
set_option linter.unusedSimpArgs false
open Go.ChangeShapes Go.WideShapes Go.ChangeAt Go.RowKit Go.Sort
/-- The ring's first record is not behind the time. -/
def lateOk (n : Nat) (f : Nat → Int) (t : Int) : Bool := n == 0 || decide (t ≤ f 0)
def okSn (d : SnD) : Bool := okApu d.T d.P d.C d.B d.L && (okRing d.cap d.n d.f && (lateOk d.n d.f d.T && ((d.ns : Int) == d.T / 16)))
set_option maxHeartbeats 2000000 in
theorem specSoundOk (w : World) (D : Nat → Nat → Prop) (v : Value) (d : SnD) (H : SnOn w D v d) : Calls Tryz.prog 85 #[v] w fun e w' => e = .returned (.bool (okSn d)) ∧ Below w.heap.size w w' := by
  obtain ⟨u1, u2, rfl, h1, h2⟩ := H
  obtain ⟨x', xd, rfl⟩ := h2.two
  have hns := h2.small
  obtain ⟨a, c, e1, hn, hr, hF, hD⟩ := id h1
  subst e1
  have C0 : Below w.heap.size w (w.alloc (.cells #[.int .i64 d.T, .int .i64 d.P, .int .i64 d.C, .int .i64 d.B, .int .i64 d.L, .bool d.S, .bool d.Q, .int .i64 d.cap, .slice a d.n c, .slice x' d.ns xd] 44)) := (Below.refl _ _).alloc (Nat.le_refl _) _
  have B0 := box_new w #[.int .i64 d.T, .int .i64 d.P, .int .i64 d.C, .int .i64 d.B, .int .i64 d.L, .bool d.S, .bool d.Q, .int .i64 d.cap, .slice a d.n c, .slice x' d.ns xd] 44
  have h1' := hide (h1.below C0)
  clear h1 h2 hD hF
  have HA := hide (fun W => specApuOk W d.T d.P d.C d.B d.L d.S d.Q)
  have HR := hide (fun W h => specRingOk W (D 0) (.agg #[.int .i64 d.cap, .slice a d.n c]) d.cap d.n d.f h)
  obtain ⟨ba, hba⟩ : ∃ b, Hid (b = okApu d.T d.P d.C d.B d.L) := ⟨_, rfl⟩
  obtain ⟨br, hbr⟩ : ∃ b, Hid (b = okRing d.cap d.n d.f) := ⟨_, rfl⟩
  have HOK : Hid (okSn d = (ba && (br && (lateOk d.n d.f d.T && ((d.ns : Int) == d.T / 16))))) := by show _ = _; unfold okSn; rw [hba.out, hbr.out]
  have HT : ba = true → Hid (0 ≤ d.T ∧ d.T ≤ 20000) := fun h => by have := okApu_of (hba.out ▸ h); exact ⟨this.t0, this.t1⟩
  rw [← hba.out] at HA
  rw [← hbr.out] at HR
  clear hba hbr
  go_enter Tryz.func85, Tryz.ntmps85
  go_wp2_with fail
  generalize w.alloc (.cells #[.int .i64 d.T, .int .i64 d.P, .int .i64 d.C, .int .i64 d.B, .int .i64 d.L, .bool d.S, .bool d.Q, .int .i64 d.cap, .slice a d.n c, .slice x' d.ns xd] 44) = W0 at *
  refine (HA.out _).mono ?_
  rintro e W1 ⟨rfl, L⟩
  replace C0 := below_snoc C0 L
  replace B0 := box_keep B0 L (boxLt B0)
  replace h1' := hide (h1'.out.below L)
  clear L
  cases ba
  · clear HT
    have HE : Hid (okSn d = false) := by show _ = _; rw [HOK.out]; rfl
    go_wp2
    go_ret
    exact ⟨ret_bool HE.out.symm, C0⟩
  have HTT := HT rfl
  clear HT
  have c0 := boxC B0
  go_wp2_with fail
  clear c0
  refine (HR.out _ ⟨_, rfl, h1'.out⟩).mono ?_
  rintro e W2 ⟨rfl, L⟩
  replace C0 := below_snoc C0 L
  replace B0 := box_keep B0 L (boxLt B0)
  clear L h1'
  cases br
  · have HE : Hid (okSn d = false) := by show _ = _; rw [HOK.out]; rfl
    go_wp2
    go_ret
    exact ⟨ret_bool HE.out.symm, C0⟩
  obtain ⟨hT0, hT1⟩ := HTT.out
  clear HTT HA HR
  have t16 : d.T.tdiv 16 = d.T / 16 := Int.tdiv_eq_ediv_of_nonneg hT0
  obtain ⟨b9, hb9⟩ : ∃ b, Hid (b = ((d.ns : Int) == d.T / 16)) := ⟨_, rfl⟩
  rw [← hb9.out] at HOK
  have g9 : ((d.ns : Int) == d.T / 16) = b9 := hb9.out.symm
  clear hb9
  go_upto_region 3 with (fail)
  have s0 := boxRR B0
  obtain ⟨fn, hfn⟩ : ∃ m, Hid (m = d.n) := ⟨_, rfl⟩
  by_cases hz : d.n = 0
  · have hz' : ((d.n : Int) == 0) = true := by rw [hz]; rfl
    have xp : True := trivial
    have HL : Hid (lateOk d.n d.f d.T = true) := by show _ = _; unfold lateOk; simp [hz]
    rw [HL.out] at HOK
    clear HL hz
    refine wp_region_quiet_below (by kernel_rfl) (by kernel_rfl) ?_
    repeat (go_big_quiet_step (fail))
    refine wpQuiet_nil ?_
    intro _ hw'
    obtain ⟨⟨dq, osq⟩, hw''⟩ := hw'
    subst hw''
    have C2 := below_snoc C0 (below_regrown W2 dq osq)
    generalize grow (redrawn W2 dq) osq = W3 at *
    clear s0 xp
    have HE : Hid (okSn d = b9) := by show _ = _; rw [HOK.out]; simp [*]
    go_wp2
    go_ret
    exact ⟨ret_bool HE.out.symm, C2⟩
  · have hz' : ((d.n : Int) == 0) = false := by simp [hz]
    obtain ⟨b, off, rfl, q0, -, -⟩ := hr.rec3 (q := 0) (by omega)
    obtain ⟨x0, hx0⟩ : ∃ x, Hid (x = d.f 0) := ⟨_, rfl⟩
    rw [show d.f (0 * 3) = x0 from hx0.out.symm] at q0
    have hb : b < w.heap.size := block_lt_of_cell q0
    have hpos : (0 : Int) < (d.n : Int) := by omega
    have xp : ∀ (dd : Nat) (os : Array Obj), (grow (redrawn W2 dd) os).cell? ⟨b, off + 0 * 3, none⟩ = some (.int .i64 x0) := fun dd os => ((below_regrown W2 dd os).cell (p := ⟨b, off + 0 * 3, none⟩) (Nat.lt_of_lt_of_le hb C0.size)).trans ((C0.cell (p := ⟨b, off + 0 * 3, none⟩) hb).trans q0)
    simp only [Nat.zero_mul, Nat.add_zero] at xp
    by_cases hle : d.T ≤ x0
    · have HL : Hid (lateOk d.n d.f d.T = true) := by show _ = _; unfold lateOk; rw [← hx0.out]; simp [hle]
      rw [HL.out] at HOK
      clear HL hz q0 hr
      refine wp_region_quiet_below (by kernel_rfl) (by kernel_rfl) ?_
      repeat (go_big_quiet_step (fail))
      refine wpQuiet_nil ?_
      intro _ hw'
      obtain ⟨⟨dq, osq⟩, hw''⟩ := hw'
      subst hw''
      have C2 := below_snoc C0 (below_regrown W2 dq osq)
      generalize grow (redrawn W2 dq) osq = W3 at *
      clear s0 xp
      have HE : Hid (okSn d = b9) := by show _ = _; rw [HOK.out]; simp [*]
      go_wp2
      go_ret
      exact ⟨ret_bool HE.out.symm, C2⟩
    · have HL : Hid (lateOk d.n d.f d.T = false) := by show _ = _; unfold lateOk; rw [← hx0.out]; simp [hle, hz]
      rw [HL.out] at HOK
      clear HL hz q0 hr
      refine wp_region_quiet_below (by kernel_rfl) (by kernel_rfl) ?_
      repeat (go_big_quiet_step (fail))
      refine wpQuiet_nil ?_
      intro _ hw'
      obtain ⟨⟨dq, osq⟩, hw''⟩ := hw'
      subst hw''
      have C2 := below_snoc C0 (below_regrown W2 dq osq)
      generalize grow (redrawn W2 dq) osq = W3 at *
      clear s0 xp
      have HE : Hid (okSn d = false) := by show _ = _; rw [HOK.out]; simp [*]
      go_wp2
      go_ret
      exact ⟨ret_bool HE.out.symm, C2⟩
end Go.Proofs.YtjcaligejlhjdaaGreat
namespace Go.Proofs.YtjcaligejlhjdaaGreat
set_option linter.unusedVariables false
set_option linter.unusedSimpArgs false
open Go.ChangeShapes Go.WideShapes Go.ChangeAt Go.RowKit Go.Sort
def okPc (d : PcD) : Bool := okPpu d.t d.c d.s d.ad d.pl d.nt d.tb d.nd d.dt && (okRing d.cap d.n d.f && (lateOk d.n d.f d.t && okFrT d.mf d.lf d.t))
set_option maxHeartbeats 4000000 in
theorem specPictureOk (w : World) (D : Nat → Nat → Prop) (v : Value) (d : PcD) (H : PcOn w D v d) : Calls Tryz.prog 84 #[v] w fun e w' => e = .returned (.bool (okPc d)) ∧ Below w.heap.size w w' := by
  obtain ⟨u1, u2, u3, u4, rfl, hP, h1, h4⟩ := H
  obtain ⟨p1, y1, p2, y2, rfl, rfl, hnt, hnd⟩ := hP.lists
  obtain ⟨p4, y4, rfl⟩ := h4.form
  have hmf := h4.many
  obtain ⟨a, c, e1, hn, hr, hF, hD⟩ := id h1
  subst e1
  have C0 : Below w.heap.size w (w.alloc (.cells #[.int .i64 d.t, .int .i64 d.c, .int .i64 d.s, .int .i64 d.ad, .int .i64 d.pl, .bool d.bl, .slice p1 d.nt y1, .slice p2 d.nd y2, .int .i64 d.cap, .slice a d.n c, .slice p4 d.mf y4] 40)) := (Below.refl _ _).alloc (Nat.le_refl _) _
  have B0 := box_new w #[.int .i64 d.t, .int .i64 d.c, .int .i64 d.s, .int .i64 d.ad, .int .i64 d.pl, .bool d.bl, .slice p1 d.nt y1, .slice p2 d.nd y2, .int .i64 d.cap, .slice a d.n c, .slice p4 d.mf y4] 40
  have h1' := hide (h1.below C0)
  have hP' := hide (hP.below C0)
  have h4' := hide (h4.below C0)
  clear h1 hP h4 hD hF
  have HA := hide (fun W (h : PpuOn W (D 0) (.agg #[.int .i64 d.t, .int .i64 d.c, .int .i64 d.s, .int .i64 d.ad, .int .i64 d.pl, .bool d.bl, .slice p1 d.nt y1, .slice p2 d.nd y2]) d.t d.c d.s d.ad d.pl d.bl d.nt d.tb d.nd d.dt) => by
    obtain ⟨u, u', e, i1, i2⟩ := h.ints
    simp only [Value.agg.injEq, Array.mk.injEq, List.cons.injEq, and_true, true_and] at e
    obtain ⟨rfl, rfl⟩ := e
    exact specPpuOk W _ _ d.t d.c d.s d.ad d.pl d.bl _ _ d.nt d.tb d.nd d.dt i1 i2)
  have HR := hide (fun W h => specRingOk W (D 1) (.agg #[.int .i64 d.cap, .slice a d.n c]) d.cap d.n d.f h)
  obtain ⟨ba, hba⟩ : ∃ b, Hid (b = okPpu d.t d.c d.s d.ad d.pl d.nt d.tb d.nd d.dt) := ⟨_, rfl⟩
  obtain ⟨br, hbr⟩ : ∃ b, Hid (b = okRing d.cap d.n d.f) := ⟨_, rfl⟩
  obtain ⟨b9, hb9⟩ : ∃ b, Hid (b = okFrT d.mf d.lf d.t) := ⟨_, rfl⟩
  have HOK : Hid (okPc d = (ba && (br && (lateOk d.n d.f d.t && b9)))) := by show _ = _; unfold okPc; rw [hba.out, hbr.out, hb9.out]
  have HT : ba = true → Hid (0 ≤ d.t ∧ d.t ≤ 20000) := fun h => okPpu_rangeT (hba.out ▸ h)
  have HF0 := hide (fun W (t0 : 0 ≤ d.t) (t1 : d.t ≤ 20000) (h : SsOn W (D 2) (.slice p4 d.mf y4) d.mf d.lf d.fr) => l12FramesOkT W _ _ d.mf d.lf d.fr d.t h.ints t0 t1)
  rw [← hba.out] at HA
  rw [← hbr.out] at HR
  rw [← hb9.out] at HF0
  clear hba hbr hb9
  go_enter Tryz.func84, Tryz.ntmps84
  go_wp2_with fail
  generalize w.alloc (.cells #[.int .i64 d.t, .int .i64 d.c, .int .i64 d.s, .int .i64 d.ad, .int .i64 d.pl, .bool d.bl, .slice p1 d.nt y1, .slice p2 d.nd y2, .int .i64 d.cap, .slice a d.n c, .slice p4 d.mf y4] 40) = W0 at *
  refine (HA.out _ hP'.out).mono ?_
  rintro e W1 ⟨rfl, L⟩
  replace C0 := below_snoc C0 L
  replace B0 := box_keep B0 L (boxLt B0)
  replace h1' := hide (h1'.out.below L)
  replace h4' := hide (h4'.out.below L)
  clear L hP'
  cases ba
  · clear HT
    have HE : Hid (okPc d = false) := by show _ = _; rw [HOK.out]; rfl
    go_wp2
    go_ret
    exact ⟨ret_bool HE.out.symm, C0⟩
  have HTT := HT rfl
  clear HT
  have c0 := boxC B0
  go_wp2_with fail
  clear c0
  refine (HR.out _ ⟨_, rfl, h1'.out⟩).mono ?_
  rintro e W2 ⟨rfl, L⟩
  replace C0 := below_snoc C0 L
  replace B0 := box_keep B0 L (boxLt B0)
  replace h4' := hide (h4'.out.below L)
  clear L h1'
  cases br
  · have HE : Hid (okPc d = false) := by show _ = _; rw [HOK.out]; rfl
    go_wp2
    go_ret
    exact ⟨ret_bool HE.out.symm, C0⟩
  obtain ⟨hT0, hT1⟩ := HTT.out
  have HC := hide (fun W (L : Below W2.heap.size W2 W) => HF0.out W hT0 hT1 (h4'.out.below L))
  clear HTT HA HR HF0 h4'
  go_upto_region 3 with (fail)
  have s0 := boxRR B0
  by_cases hz : d.n = 0
  · have hz' : ((d.n : Int) == 0) = true := by rw [hz]; rfl
    have xp : True := trivial
    have HL : Hid (lateOk d.n d.f d.t = true) := by show _ = _; unfold lateOk; simp [hz]
    rw [HL.out] at HOK
    clear HL hz
    refine wp_region_quiet_below (by kernel_rfl) (by kernel_rfl) ?_
    repeat (go_big_quiet_step (first | (go_at_call 121; exact Calls.regrown_of (HC.out _ (below_regrown _ _ _)))))
    refine wpQuiet_nil ?_
    intro _ hw'
    obtain ⟨⟨dq, osq⟩, hw''⟩ := hw'
    subst hw''
    have C2 := below_snoc C0 (below_regrown W2 dq osq)
    generalize grow (redrawn W2 dq) osq = W3 at *
    clear s0 xp
    have HE : Hid (okPc d = b9) := by show _ = _; rw [HOK.out]; rfl
    go_wp2
    go_ret
    exact ⟨ret_bool HE.out.symm, C2⟩
  · have hz' : ((d.n : Int) == 0) = false := by simp [hz]
    obtain ⟨b, off, rfl, q0, -, -⟩ := hr.rec3 (q := 0) (by omega)
    obtain ⟨x0, hx0⟩ : ∃ x, Hid (x = d.f 0) := ⟨_, rfl⟩
    rw [show d.f (0 * 3) = x0 from hx0.out.symm] at q0
    have hb : b < w.heap.size := block_lt_of_cell q0
    have hpos : (0 : Int) < (d.n : Int) := by omega
    have xp : ∀ (dd : Nat) (os : Array Obj), (grow (redrawn W2 dd) os).cell? ⟨b, off + 0 * 3, none⟩ = some (.int .i64 x0) := fun dd os => ((below_regrown W2 dd os).cell (p := ⟨b, off + 0 * 3, none⟩) (Nat.lt_of_lt_of_le hb C0.size)).trans ((C0.cell (p := ⟨b, off + 0 * 3, none⟩) hb).trans q0)
    simp only [Nat.zero_mul, Nat.add_zero] at xp
    by_cases hle : d.t ≤ x0
    · have HL : Hid (lateOk d.n d.f d.t = true) := by show _ = _; unfold lateOk; rw [← hx0.out]; simp [hle]
      rw [HL.out] at HOK
      clear HL hz q0 hr
      refine wp_region_quiet_below (by kernel_rfl) (by kernel_rfl) ?_
      repeat (go_big_quiet_step (first | (go_at_call 121; exact Calls.regrown_of (HC.out _ (below_regrown _ _ _)))))
      refine wpQuiet_nil ?_
      intro _ hw'
      obtain ⟨⟨dq, osq⟩, hw''⟩ := hw'
      subst hw''
      have C2 := below_snoc C0 (below_regrown W2 dq osq)
      generalize grow (redrawn W2 dq) osq = W3 at *
      clear s0 xp
      have HE : Hid (okPc d = b9) := by show _ = _; rw [HOK.out]; rfl
      go_wp2
      go_ret
      exact ⟨ret_bool HE.out.symm, C2⟩
    · have HL : Hid (lateOk d.n d.f d.t = false) := by show _ = _; unfold lateOk; rw [← hx0.out]; simp [hle, hz]
      rw [HL.out] at HOK
      clear HL hz q0 hr
      refine wp_region_quiet_below (by kernel_rfl) (by kernel_rfl) ?_
      repeat (go_big_quiet_step (first | (go_at_call 121; exact Calls.regrown_of (HC.out _ (below_regrown _ _ _)))))
      refine wpQuiet_nil ?_
      intro _ hw'
      obtain ⟨⟨dq, osq⟩, hw''⟩ := hw'
      subst hw''
      have C2 := below_snoc C0 (below_regrown W2 dq osq)
      generalize grow (redrawn W2 dq) osq = W3 at *
      clear s0 xp
      have HE : Hid (okPc d = false) := by show _ = _; rw [HOK.out]; rfl
      go_wp2
      go_ret
      exact ⟨ret_bool HE.out.symm, C2⟩
end Go.Proofs.YtjcaligejlhjdaaGreat
