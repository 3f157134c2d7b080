/-
  The program's chapter 13 by its contracts: what may follow, what a ring is, a new ring.
-/
import Derived.Test.YtjcaligejlhjdaaGreatRC
import Derived.Test.YtjcaligejlhjdaaGreatG1
import Derived.Test.YtjcaligejlhjdaaGreatJ2
import Derived.Deep.DeepCutAuto
import Derived.Deep.RegionHeld3
import Derived.Lib.QuietBelow
namespace Go.Proofs.YtjcaligejlhjdaaGreat
set_option linter.unusedVariables false
set_option linter.unusedSimpArgs false
open Go.ChangeShapes Go.WideShapes Go.ChangeAt Go.RowKit Go.Sort
/-- A record that may come behind one of time t. -/
def fol (t x0 x1 x2 : Int) : Bool := decide (t ≤ x0) && (decide (x0 ≤ 20000) && (inB x1 0 7 && inB x2 0 255))
theorem bank8 (x : Int) : (x = ((bankIx 8 x : Nat) : Int)) ↔ inB x 0 7 = true := by
  unfold bankIx inB
  simp
  omega
set_option maxHeartbeats 2000000 in
theorem follows (w : World) (x0 x1 x2 t : Int) : Calls Tryz.prog 151 #[.agg #[.int .i64 x0, .int .i64 x1, .int .i64 x2], .int .i64 t] w fun e w' => e = .returned (.bool (fol t x0 x1 x2)) ∧ Below w.heap.size w w' := by
  have C0 : Below w.heap.size w (w.alloc (.cells #[.int .i64 x0, .int .i64 x1, .int .i64 x2] 144)) := (Below.refl _ _).alloc (Nat.le_refl _) _
  have k0 := box_new w #[.int .i64 x0, .int .i64 x1, .int .i64 x2] 144
  have HL := hide (fun W => leftBy x1 8 W (by omega) (by omega))
  have HB := hide (bank8 x1)
  have HI := hide (fun W => isByte x2 W)
  generalize bankIx 8 x1 = bx at *
  obtain ⟨b2, hb2⟩ : ∃ b, Hid (b = inB x2 0 255) := ⟨_, rfl⟩
  rw [← hb2.out] at HI
  obtain ⟨bb, hbb⟩ : ∃ b, Hid (b = fol t x0 x1 x2) := ⟨_, rfl⟩
  rw [← hbb.out]
  go_enter Tryz.func151, Tryz.ntmps151
  go_upto_region 1 with (fail)
  generalize w.alloc (.cells #[.int .i64 x0, .int .i64 x1, .int .i64 x2] 144) = W0 at *
  have c0 := boxRR k0
  by_cases h1 : t ≤ x0
  · by_cases h2 : x0 ≤ 20000
    · cases h3 : inB x1 0 7
      · have h3' : (x1 == (bx : Int)) = false := by rw [beq_eq_false_iff_ne]; intro e; have := HB.out.1 e; rw [h3] at this; cases this
        have HE : Hid (bb = false) := by show _ = _; rw [hbb.out]; unfold fol; rw [h3]; simp
        clear HB h3
        refine wp_region_quiet_below (by kernel_rfl) (by kernel_rfl) ?_
        repeat (quiet_step (first | (go_at_call 155; exact Calls.regrown_of ((HL.out _).mono (fun _ _ h => ⟨h.1, by rw [h.2]; exact Below.refl _ _⟩))) | (go_at_call 96; exact Calls.regrown_of ((HI.out _).mono (fun _ _ h => ⟨h.1, by rw [h.2]; exact Below.refl _ _⟩)))))
        refine wpQuiet_nil ?_
        intro _ hw'
        obtain ⟨⟨dq, osq⟩, hw''⟩ := hw'
        subst hw''
        have LQ := below_regrown W0 dq osq
        generalize Go.Sort.grow (redrawn W0 dq) osq = w4 at *
        go_wp2
        go_ret
        exact ⟨ret_bool HE.out.symm, C0.trans (LQ.mono C0.size)⟩
      · have h3' : x1 = (bx : Int) := HB.out.2 h3
        have HE : Hid (bb = b2) := by show _ = _; rw [hbb.out, hb2.out]; unfold fol; rw [h3, decide_eq_true h1, decide_eq_true h2]; rfl
        have h4 : (x1 == (bx : Int)) = true := by rw [beq_iff_eq]; exact h3'
        clear HB h3 h3'
        refine wp_region_quiet_below (by kernel_rfl) (by kernel_rfl) ?_
        repeat (quiet_step (first | (go_at_call 155; exact Calls.regrown_of ((HL.out _).mono (fun _ _ h => ⟨h.1, by rw [h.2]; exact Below.refl _ _⟩))) | (go_at_call 96; exact Calls.regrown_of ((HI.out _).mono (fun _ _ h => ⟨h.1, by rw [h.2]; exact Below.refl _ _⟩)))))
        refine wpQuiet_nil ?_
        intro _ hw'
        obtain ⟨⟨dq, osq⟩, hw''⟩ := hw'
        subst hw''
        have LQ := below_regrown W0 dq osq
        generalize Go.Sort.grow (redrawn W0 dq) osq = w4 at *
        go_wp2
        go_ret
        exact ⟨ret_bool HE.out.symm, C0.trans (LQ.mono C0.size)⟩
    · have HE : Hid (bb = false) := by show _ = _; rw [hbb.out]; unfold fol; rw [decide_eq_false h2]; simp
      clear HB
      refine wp_region_quiet_below (by kernel_rfl) (by kernel_rfl) ?_
      repeat (quiet_step (first | (go_at_call 155; exact Calls.regrown_of ((HL.out _).mono (fun _ _ h => ⟨h.1, by rw [h.2]; exact Below.refl _ _⟩))) | (go_at_call 96; exact Calls.regrown_of ((HI.out _).mono (fun _ _ h => ⟨h.1, by rw [h.2]; exact Below.refl _ _⟩)))))
      refine wpQuiet_nil ?_
      intro _ hw'
      obtain ⟨⟨dq, osq⟩, hw''⟩ := hw'
      subst hw''
      have LQ := below_regrown W0 dq osq
      generalize Go.Sort.grow (redrawn W0 dq) osq = w4 at *
      go_wp2
      go_ret
      exact ⟨ret_bool HE.out.symm, C0.trans (LQ.mono C0.size)⟩
  · have HE : Hid (bb = false) := by show _ = _; rw [hbb.out]; unfold fol; rw [decide_eq_false h1]; simp
    clear HB
    refine wp_region_quiet_below (by kernel_rfl) (by kernel_rfl) ?_
    repeat (quiet_step (first | (go_at_call 155; exact Calls.regrown_of ((HL.out _).mono (fun _ _ h => ⟨h.1, by rw [h.2]; exact Below.refl _ _⟩))) | (go_at_call 96; exact Calls.regrown_of ((HI.out _).mono (fun _ _ h => ⟨h.1, by rw [h.2]; exact Below.refl _ _⟩)))))
    refine wpQuiet_nil ?_
    intro _ hw'
    obtain ⟨⟨dq, osq⟩, hw''⟩ := hw'
    subst hw''
    have LQ := below_regrown W0 dq osq
    generalize Go.Sort.grow (redrawn W0 dq) osq = w4 at *
    go_wp2
    go_ret
    exact ⟨ret_bool HE.out.symm, C0.trans (LQ.mono C0.size)⟩
/-- The time of the last of q records. -/
def lastT (f : Nat → Int) (q : Nat) : Int := if q = 0 then 0 else f ((q - 1) * 3)
theorem fol_step {f : Nat → Int} {q : Nat} (h : okUpto f q) : (fol (lastT f q) (f (q * 3)) (f (q * 3 + 1)) (f (q * 3 + 2)) = true) ↔ okUpto f (q + 1) := by
  have key : (fol (lastT f q) (f (q * 3)) (f (q * 3 + 1)) (f (q * 3 + 2)) = true) ↔ (okRec f q = true ∧ (0 < q → f ((q - 1) * 3) ≤ f (q * 3))) := by
    unfold fol okRec lastT
    by_cases hq : q = 0
    · subst hq
      simp [inB]
      omega
    · have h0 := (h (q - 1) (by omega)).1
      unfold okRec at h0
      simp [inB] at h0
      rw [if_neg hq]
      simp [inB]
      omega
  rw [key]
  constructor
  · rintro ⟨a, b⟩
    exact h.step a b
  · intro hh
    exact hh q (by omega)
theorem okUpto.prev {f : Nat → Int} {n q : Nat} (h : okUpto f n) (hq : q ≤ n) : okUpto f q := fun i hi => h i (by omega)
set_option maxHeartbeats 2000000 in
theorem areRecs (w : World) (a : Option Addr) (n c : Nat) (f : Nat → Int) (hn : n ≤ 1048576) (H : RowOf .i64 w a (n * 3) f) : Calls Tryz.prog 123 #[.slice a n c] w fun e w' => e = .returned (.bool (decide (okUpto f n))) ∧ Below w.heap.size w w' := by
  go_enter Tryz.func123, Tryz.ntmps123
  go_wp2
  go_loopw [3, 8] (fun t i wr => ∃ q : Nat, q ≤ n ∧ i = .int .i64 q ∧ t = .int .i64 (lastT f q) ∧ okUpto f q ∧ Below w.heap.size w wr) (fun _ i _ => n - (intOf i).toNat)
  case atStart => exact ⟨0, Nat.zero_le _, rfl, rfl, fun i hi => absurd hi (Nat.not_lt_zero _), Below.refl _ _⟩
  case round =>
    obtain ⟨q, hq, rfl, rfl, hU, hL⟩ := hrel
    have HU := hide hU
    clear hU
    by_cases hlt : q < n
    · have hlt' : (q : Int) < (n : Int) := by omega
      obtain ⟨b, off, rfl, q0, q1, q2⟩ := H.rec3 hlt
      have hb : b < w.heap.size := block_lt_of_cell q0
      have d0 := (hL.cell (p := ⟨b, off + q * 3, none⟩) hb).trans q0
      have d1 := (hL.cell (p := ⟨b, off + q * 3 + 1, none⟩) hb).trans q1
      have d2 := (hL.cell (p := ⟨b, off + q * 3 + 2, none⟩) hb).trans q2
      have wq : IntKind.i64.wrap (q : Int) = q := by rw [IntKind.wrap_i64]; omega
      have HS := hide (fol_step HU.out)
      have HT : Hid (lastT f (q + 1) = f (q * 3)) := by show _ = _; unfold lastT; rw [if_neg (by omega)]; rfl
      obtain ⟨lt, hlt2⟩ : ∃ x, Hid (x = lastT f q) := ⟨_, rfl⟩
      obtain ⟨x, hx⟩ : ∃ x, Hid (x = f (q * 3)) := ⟨_, rfl⟩
      obtain ⟨y, hy⟩ : ∃ y, Hid (y = f (q * 3 + 1)) := ⟨_, rfl⟩
      obtain ⟨z, hz⟩ : ∃ z, Hid (z = f (q * 3 + 2)) := ⟨_, rfl⟩
      rw [← hx.out] at d0 HS HT
      rw [← hy.out] at d1 HS
      rw [← hz.out] at d2 HS
      rw [← hlt2.out] at HS ⊢
      clear hx hy hz hlt2 q0 q1 q2
      have LA : Below wr.heap.size wr (wr.alloc (.cells #[.int .i64 x, .int .i64 y, .int .i64 z] 144)) := (Below.refl _ _).alloc (Nat.le_refl _) _
      have C1 := below_snoc hL LA
      have X1 := box_new wr #[.int .i64 x, .int .i64 y, .int .i64 z] 144
      go_upto_region 5 with (fail)
      clear d0 d1 d2 LA
      obtain ⟨zz, hzz⟩ : ∃ zz, Hid (zz = wr.heap.size) := ⟨_, rfl⟩
      rw [← hzz.out] at X1 ⊢
      clear hL hzz
      generalize wr.alloc (.cells #[.int .i64 x, .int .i64 y, .int .i64 z] 144) = W1 at *
      have c1 := boxC X1
      go_wp2_with fail
      refine (follows _ x y z lt).mono ?_
      rintro e W2 ⟨rfl, L⟩
      have C2 := below_snoc C1 L
      replace X1 := box_keep X1 L (boxLt X1)
      clear c1 L C1
      have c1 := boxC X1
      cases hf : fol lt x y z
      · have HE : Hid (decide (okUpto f n) = false) := decide_eq_false (fun h => by have := HS.out.2 (h.prev (by omega)); rw [hf] at this; cases this)
        clear HS HT HU
        go_wp2
        go_ret
        exact ⟨ret_bool HE.out.symm, C2⟩
      · have HV := hide (HS.out.1 hf)
        clear HS HU
        go_wp2
        go_round
        case rel => exact ⟨q + 1, by omega, by go_num, by rw [HT.out], HV.out, C2⟩
        case measure => simp [intOf]; omega
    · have hlt' : ¬ (q : Int) < (n : Int) := by omega
      have HE : Hid (decide (okUpto f n) = true) := decide_eq_true (by have := HU.out; rwa [show q = n by omega] at this)
      go_wp2
      go_ret
      exact ⟨ret_bool HE.out.symm, hL⟩
theorem reached (w : World) (a : Option Addr) (n c : Nat) (f : Nat → Int) (cap : Int) (hn : n ≤ 1048576) (H : RowOf .i64 w a (n * 3) f) : Calls Tryz.prog 136 #[.agg #[.int .i64 cap, .slice a n c]] w fun e w' => e = .returned (.int .i64 (lastT f n)) ∧ Below w.heap.size w w' := by
  have C0 : Below w.heap.size w (w.alloc (.cells #[.int .i64 cap, .slice a n c] 38)) := (Below.refl _ _).alloc (Nat.le_refl _) _
  have k0 := box_new w #[.int .i64 cap, .slice a n c] 38
  obtain ⟨bb, hbb⟩ : ∃ b, Hid (b = lastT f n) := ⟨_, rfl⟩
  rw [← hbb.out]
  go_enter Tryz.func136, Tryz.ntmps136
  go_upto_region 1 with (fail)
  generalize w.alloc (.cells #[.int .i64 cap, .slice a n c] 38) = W0 at *
  have c0 := boxC k0
  by_cases h0 : n = 0
  · subst h0
    have HE : Hid (bb = 0) := by show _ = _; rw [hbb.out]; rfl
    clear hbb H
    go_wp2
    go_ret
    exact ⟨ret_int HE.out.symm, C0⟩
  · have HE : Hid (bb = f ((n - 1) * 3)) := by show _ = _; rw [hbb.out]; unfold lastT; rw [if_neg h0]
    clear hbb
    obtain ⟨b, off, rfl, q0, q1, q2⟩ := H.rec3 (show n - 1 < n by omega)
    have hb : b < w.heap.size := block_lt_of_cell q0
    have d0 := (C0.cell (p := ⟨b, off + (n - 1) * 3, none⟩) hb).trans q0
    obtain ⟨m, rfl⟩ : ∃ m, n = m + 1 := ⟨n - 1, by omega⟩
    simp only [Nat.add_sub_cancel] at d0 HE
    clear H q0 q1 q2
    have hne : (((m + 1 : Nat) : Int) == 0) = false := by simp; omega
    have w1 : IntKind.i64.wrap (m : Int) = m := by rw [IntKind.wrap_i64]; omega
    go_wp2
    go_ret
    exact ⟨ret_int HE.out.symm, C0⟩
theorem implRingOk (w : World) (D : Nat → Prop) (v : Value) (cap : Int) (n : Nat) (f : Nat → Int) (H : RgOn w D v cap n f) : Calls Tryz.prog 89 #[v] w fun e w' => e = .returned (.bool (okRing cap n f)) ∧ Below w.heap.size w w' := by
  obtain ⟨u, rfl, a, c, rfl, hn, hr, -, -⟩ := H
  have C0 : Below w.heap.size w (w.alloc (.cells #[.int .i64 cap, .slice a n c] 38)) := (Below.refl _ _).alloc (Nat.le_refl _) _
  have k0 := box_new w #[.int .i64 cap, .slice a n c] 38
  obtain ⟨bb, hbb⟩ : ∃ b, Hid (b = okRing cap n f) := ⟨_, rfl⟩
  rw [← hbb.out]
  have HR := hide (hr.keep (wrote_below C0 Nowhere) (fun _ _ _ x => x))
  clear hr
  go_enter Tryz.func89, Tryz.ntmps89
  go_upto_region 1 with (fail)
  generalize w.alloc (.cells #[.int .i64 cap, .slice a n c] 38) = W0 at *
  have c0 := boxC k0
  have HF : Hid (((¬ 1 ≤ cap) ∨ (¬ cap ≤ 16) ∨ (¬ (n : Int) ≤ cap)) → bb = false) := by
    intro h
    rw [hbb.out]
    unfold okRing inB
    simp
    omega
  by_cases h1 : 1 ≤ cap
  · by_cases h2 : cap ≤ 16
    · by_cases h3 : (n : Int) ≤ cap
      · have HE : Hid (bb = decide (okUpto f n)) := by
          show _ = _
          rw [hbb.out]
          unfold okRing inB
          simp [h1, h2, h3]
        clear hbb HF
        go_wp2_with fail
        refine (areRecs _ a n c f hn.1 HR.out).mono ?_
        rintro e W1 ⟨rfl, L⟩
        have C1 := below_snoc C0 L
        clear c0 HR
        generalize decide (okUpto f n) = bq at *
        go_wp2
        go_ret
        exact ⟨ret_bool HE.out.symm, C1⟩
      · have HE := hide (HF.out (Or.inr (Or.inr h3)))
        clear hbb HF
        go_wp2
        go_ret
        exact ⟨ret_bool HE.out.symm, C0⟩
    · have HE := hide (HF.out (Or.inr (Or.inl h2)))
      clear hbb HF
      go_wp2
      go_ret
      exact ⟨ret_bool HE.out.symm, C0⟩
  · have HE := hide (HF.out (Or.inl h1))
    clear hbb HF
    go_wp2
    go_ret
    exact ⟨ret_bool HE.out.symm, C0⟩
end Go.Proofs.YtjcaligejlhjdaaGreat
