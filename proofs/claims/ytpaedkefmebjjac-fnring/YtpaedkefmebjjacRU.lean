/-
  FnTaken: what is taken from a drawn ring is its head, and all others stay in order.
-/
import Derived.Test.YtpaedkefmebjjacRT
import Derived.Test.YtpaedkefmebjjacRI
import Derived.Test.YtpaedkefmebjjacRG
namespace Go.Proofs.Ytpaedkefmebjjac
set_option linter.unusedVariables false
set_option linter.unusedSimpArgs false
open Go.ChangeShapes Go.WideShapes Go.ChangeAt Go.RowKit Go.Sort
set_option maxHeartbeats 400000 in
theorem drawRingTake (w : World) (B : Nat) (a : Option Addr) (len cap : Nat) (hB : B ≤ w.heap.size) (H : Code w B a len) :
    Calls Try.prog 15 #[.slice a len cap] w fun e w' => ∃ (cR : Int) (n : Nat) (f : Nat → Int) (v : Value), e = .returned v ∧ RgOn w' (fun b => w.heap.size ≤ b) v cR n f ∧ Below w.heap.size w w' := by
  have k0 := box_new w #[.int .i64 0, .slice none 0 0] 26
  have LA : Below w.heap.size w (w.alloc (.cells #[.int .i64 0, .slice none 0 0] 26)) := (Below.refl _ _).alloc (Nat.le_refl _) _
  have H0 := H.keep (LA.mono hB)
  go_enter Try.func15, Try.ntmps15
  go_wp2_with fail
  obtain ⟨W0, hW0⟩ : ∃ W, W = w.alloc (.cells #[.int .i64 0, .slice none 0 0] 26) := ⟨_, rfl⟩
  have hz0 : W0.heap.size = w.heap.size + 1 := by rw [hW0]; simp
  rw [← hW0] at H0 LA k0 ⊢
  clear hW0
  refine (l1New W0 B a len cap (by omega) H0).mono ?_
  rintro e W1 ⟨rfl, H1, L1, z1⟩
  have C1 := below_snoc LA L1
  replace k0 := box_keep k0 L1 (boxLt k0)
  obtain ⟨c0, hc0⟩ : ∃ x, Hid (x = W0.heap.size) := ⟨_, rfl⟩
  rw [← hc0.out] at H1 z1 ⊢
  have e0 : w.heap.size < c0 := by rw [hc0.out]; omega
  have e1 : c0 < W1.heap.size := by omega
  clear LA L1 H0 hc0 hz0 z1
  go_wp2_with fail
  refine (l13Draw W1 B c0 a len cap H1 e1).mono ?_
  rintro e W2 ⟨cR, n, f, v, rfl, hR, -, S2⟩
  have C2 : Below w.heap.size w W2 := C1.trans (S2.below (by omega) (by omega))
  replace k0 := (S2.block _ (boxLt k0) (by omega)).trans k0
  have hs2 := S2.size
  clear S2 C1 H1
  obtain ⟨ra, rc, rfl⟩ := hR.two
  have c0 := boxC k0
  have f0 := boxF k0
  have fin : ∀ W5, Wrote (fun b _ => b = w.heap.size) W2 W5 → RgOn W5 (fun b => w.heap.size ≤ b) (.agg #[.int .i64 cR, .slice ra n rc]) cR n f ∧ Below w.heap.size w W5 := fun W5 h => ⟨(hR.keep h (fun b o (h1 : W1.heap.size ≤ b) _ (e : b = _) => by omega)).mono (fun b _ (h : W1.heap.size ≤ b) => by omega), C2.trans (h.below C2.size (fun b o hb (e : b = _) => by omega))⟩
  have HN := hide fin
  clear fin hR
  go_wp2
  refine bodyPost_ret (v := .agg #[.int .i64 cR, .slice ra n rc]) (by simp [results, Try.results15, go_sem, c0]) rfl ?_
  exact ⟨cR, n, f, _, rfl, HN.out _ (Wrote.setCell (Wrote.setCell (Wrote.refl (fun b _ => b = w.heap.size) W2) (fun _ => rfl) _) (fun _ => rfl) _)⟩
theorem headV_no {ok : Bool} {n : Nat} {f : Nat → Int} (h : (ok && decide (0 < n)) = false) (j : Nat) : headV ok n f j = 0 := by
  unfold headV
  rw [if_neg]
  rintro ⟨rfl, h0⟩
  rw [decide_eq_true h0] at h
  cases h
theorem ok_take {cap : Int} {n : Nat} {f : Nat → Int} (h : okRing cap n f = true) (h0 : 0 < n) : okRing cap (n - 1) (fun i => f (i + 3)) = true := by
  unfold okRing at h ⊢
  simp only [Bool.and_eq_true, decide_eq_true_eq] at h ⊢
  refine ⟨fun i hi => ?_, h.2.1, by omega⟩
  obtain ⟨h1, h2⟩ := h.1 (i + 1) (by omega)
  unfold okRec at h1 ⊢
  dsimp only
  rw [show i * 3 + 3 = (i + 1) * 3 by omega, show i * 3 + 1 + 3 = (i + 1) * 3 + 1 by omega, show i * 3 + 2 + 3 = (i + 1) * 3 + 2 by omega]
  refine ⟨h1, fun hi0 => ?_⟩
  have := h2 (by omega)
  rw [show i + 1 - 1 = i by omega] at this
  rw [show (i - 1) * 3 + 3 = i * 3 by omega]
  exact this
theorem RgOn.row {W : World} {D : Nat → Prop} {ra : Option Addr} {cap : Int} {n rc : Nat} {f : Nat → Int} (H : RgOn W D (.agg #[.int .i64 cap, .slice ra n rc]) cap n f) : n ≤ 1048576 ∧ RowOf .i64 W ra (n * 3) f := by
  obtain ⟨u, e, a', c', e', hn1, hr, -, -⟩ := H
  simp only [Value.agg.injEq, Array.mk.injEq, List.cons.injEq, and_true, true_and] at e
  subst e
  simp only [Value.slice.injEq, true_and] at e'
  obtain ⟨rfl, rfl⟩ := e'
  exact ⟨hn1.1, hr⟩
set_option maxRecDepth 20000 in
set_option maxHeartbeats 4000000 in
theorem lawTaken (w : World) (s0 : Option Addr) (n0 c0 : Nat) (h : (1048576 : Int) < (n0 : Int) ∨ Code w w.heap.size s0 n0) :
    Calls Try.prog 4 #[.slice s0 n0 c0] w fun e w' => e = .returned (.bool true) ∧ Below w.heap.size w w' := by
  by_cases hbig : (1048576 : Int) < (n0 : Int)
  · have hb' : decide ((1048576 : Int) < (n0 : Int)) = true := decide_eq_true hbig
    go_enter Try.func4, Try.ntmps4
    go_wp2_with fail
    refine (lawsBig _ s0 n0 c0).mono ?_
    rintro e w' ⟨rfl, rfl⟩
    rw [hb']
    go_wp2
    go_ret
    exact ⟨rfl, Below.refl _ _⟩
  · have hb' : decide ((1048576 : Int) < (n0 : Int)) = false := decide_eq_false hbig
    have hcode : Code w w.heap.size s0 n0 := h.resolve_left hbig
    clear hbig h
    go_enter Try.func4, Try.ntmps4
    go_wp2_with fail
    refine (lawsBig _ s0 n0 c0).mono ?_
    rintro e w' ⟨rfl, rfl⟩
    rw [hb']
    clear hb'
    go_wp2_with fail
    refine (drawRingTake _ w'.heap.size s0 n0 c0 (Nat.le_refl _) hcode).mono ?_
    rintro e W1 ⟨cap, n, f, v, rfl, H, C1⟩
    clear hcode
    obtain ⟨ra, rc, rfl⟩ := H.two
    have LA : Below W1.heap.size W1 (W1.alloc (.cells #[.int .i64 cap, .slice ra n rc] 26)) := (Below.refl _ _).alloc (Nat.le_refl _) _
    have kR := box_new W1 #[.int .i64 cap, .slice ra n rc] 26
    replace C1 := below_snoc C1 LA
    replace H := H.below LA
    clear LA
    go_upto_region 4 with (fail)
    obtain ⟨zr, hzr⟩ : ∃ z, Hid (z = W1.heap.size) := ⟨_, rfl⟩
    rw [← hzr.out] at kR ⊢
    clear hzr
    generalize W1.alloc (.cells #[.int .i64 cap, .slice ra n rc] 26) = W2 at *
    have HT := hide (fun W (L : Below W2.heap.size W2 W) => implRingTake W _ _ cap n f (H.below L))
    have HU := hide (fun W (L : Below W2.heap.size W2 W) => specRingTake W _ _ cap n f (H.below L))
    have HD := hide (fun W (L : Below W2.heap.size W2 W) => implRingHead W _ _ cap n f (H.below L))
    have HX := hide (fun W D' v' h => implRingOk W D' v' cap (n - 1) (fun i => f (i + 3)) h)
    have HK := hide (@ok_take cap n f)
    obtain ⟨ok, hok⟩ : ∃ b, Hid (b = okRing cap n f) := ⟨_, rfl⟩
    rw [← hok.out] at HT HU HD HK
    clear hok
    obtain ⟨x0, hx0⟩ : ∃ x, Hid (x = headV ok n f 0) := ⟨_, rfl⟩
    obtain ⟨x1, hx1⟩ : ∃ x, Hid (x = headV ok n f 1) := ⟨_, rfl⟩
    obtain ⟨x2, hx2⟩ : ∃ x, Hid (x = headV ok n f 2) := ⟨_, rfl⟩
    obtain ⟨bb, hbb⟩ : ∃ x, Hid (x = (ok && decide (0 < n))) := ⟨_, rfl⟩
    obtain ⟨cP, hcP⟩ : ∃ z, Hid (z = putC ok cap) := ⟨_, rfl⟩
    obtain ⟨nP, hnP⟩ : ∃ z, Hid (z = takeN ok n) := ⟨_, rfl⟩
    obtain ⟨fP, hfP⟩ : ∃ z, Hid (z = takeF ok f) := ⟨_, rfl⟩
    rw [← hx0.out, ← hx1.out, ← hx2.out, ← hbb.out] at HT HU HD
    rw [← hcP.out, ← hnP.out, ← hfP.out] at HT HU
    have D2 : Below W2.heap.size W2 W2 := Below.refl _ _
    have cR := boxC kR
    go_wp2_with fail
    clear cR
    refine (HT.out _ D2).mono ?_
    rintro e W3 ⟨vS, rfl, ⟨oS⟩, L⟩
    obtain ⟨wa, wc, rfl⟩ := oS.two
    replace D2 := below_snoc D2 L
    replace kR := box_keep kR L (boxLt kR)
    clear L HT
    have LA : Below W3.heap.size W3 ((W3.alloc (.cells #[.int .i64 cP, .slice wa nP wc] 26)).alloc (.cells #[.int .i64 x0, .int .i64 x1, .int .i64 x2] 28)) := ((Below.refl _ _).alloc (Nat.le_refl _) _).alloc (by simp) _
    have kS : ((W3.alloc (.cells #[.int .i64 cP, .slice wa nP wc] 26)).alloc (.cells #[.int .i64 x0, .int .i64 x1, .int .i64 x2] 28)).heap[W3.heap.size]? = some (.cells #[.int .i64 cP, .slice wa nP wc] 26 (0, 0)) := boxA (box_new W3 _ _) _
    have kX : ((W3.alloc (.cells #[.int .i64 cP, .slice wa nP wc] 26)).alloc (.cells #[.int .i64 x0, .int .i64 x1, .int .i64 x2] 28)).heap[W3.heap.size + 1]? = some (.cells #[.int .i64 x0, .int .i64 x1, .int .i64 x2] 28 (0, 0)) := by simpa using box_new (W3.alloc (.cells #[.int .i64 cP, .slice wa nP wc] 26)) #[.int .i64 x0, .int .i64 x1, .int .i64 x2] 28
    replace D2 := below_snoc D2 LA
    replace kR := box_keep kR LA (boxLt kR)
    replace oS := oS.below LA
    clear LA
    go_upto_region 5 with (fail)
    obtain ⟨zs, hzs⟩ : ∃ z, Hid (z = W3.heap.size) := ⟨_, rfl⟩
    rw [← hzs.out] at kS kX ⊢
    clear hzs
    generalize (W3.alloc (.cells #[.int .i64 cP, .slice wa nP wc] 26)).alloc (.cells #[.int .i64 x0, .int .i64 x1, .int .i64 x2] 28) = W4 at *
    have cR := boxC kR
    go_wp2_with fail
    clear cR
    refine (HU.out _ D2).mono ?_
    rintro e W5 ⟨vU, rfl, ⟨oU⟩, L⟩
    obtain ⟨ta, tc, rfl⟩ := oU.two
    replace D2 := below_snoc D2 L
    replace kR := box_keep kR L (boxLt kR)
    replace kS := box_keep kS L (boxLt kS)
    replace kX := box_keep kX L (boxLt kX)
    replace oS := oS.below L
    clear L HU oU
    have LA : Below W5.heap.size W5 ((W5.alloc (.cells #[.int .i64 cP, .slice ta nP tc] 26)).alloc (.cells #[.int .i64 x0, .int .i64 x1, .int .i64 x2] 28)) := ((Below.refl _ _).alloc (Nat.le_refl _) _).alloc (by simp) _
    have kY : ((W5.alloc (.cells #[.int .i64 cP, .slice ta nP tc] 26)).alloc (.cells #[.int .i64 x0, .int .i64 x1, .int .i64 x2] 28)).heap[W5.heap.size + 1]? = some (.cells #[.int .i64 x0, .int .i64 x1, .int .i64 x2] 28 (0, 0)) := by simpa using box_new (W5.alloc (.cells #[.int .i64 cP, .slice ta nP tc] 26)) #[.int .i64 x0, .int .i64 x1, .int .i64 x2] 28
    replace D2 := below_snoc D2 LA
    replace kR := box_keep kR LA (boxLt kR)
    replace kS := box_keep kS LA (boxLt kS)
    replace kX := box_keep kX LA (boxLt kX)
    replace oS := oS.below LA
    clear LA
    go_upto_region 6 with (fail)
    obtain ⟨zu, hzu⟩ : ∃ z, Hid (z = W5.heap.size) := ⟨_, rfl⟩
    rw [← hzu.out] at kY ⊢
    clear hzu
    generalize (W5.alloc (.cells #[.int .i64 cP, .slice ta nP tc] 26)).alloc (.cells #[.int .i64 x0, .int .i64 x1, .int .i64 x2] 28) = W6 at *
    have cR := boxC kR
    go_wp2_with fail
    clear cR
    refine (HD.out _ D2).mono ?_
    rintro e W7 ⟨rfl, L⟩
    replace D2 := below_snoc D2 L
    replace kR := box_keep kR L (boxLt kR)
    replace kS := box_keep kS L (boxLt kS)
    replace kX := box_keep kX L (boxLt kX)
    replace kY := box_keep kY L (boxLt kY)
    replace oS := oS.below L
    clear L HD
    have LA : Below W7.heap.size W7 (W7.alloc (.cells #[.int .i64 x0, .int .i64 x1, .int .i64 x2] 28)) := (Below.refl _ _).alloc (Nat.le_refl _) _
    have kH := box_new W7 #[.int .i64 x0, .int .i64 x1, .int .i64 x2] 28
    replace D2 := below_snoc D2 LA
    replace kR := box_keep kR LA (boxLt kR)
    replace kS := box_keep kS LA (boxLt kS)
    replace kX := box_keep kX LA (boxLt kX)
    replace kY := box_keep kY LA (boxLt kY)
    replace oS := oS.below LA
    clear LA
    go_upto_region 7 with (fail)
    obtain ⟨zh, hzh⟩ : ∃ z, Hid (z = W7.heap.size) := ⟨_, rfl⟩
    rw [← hzh.out] at kH ⊢
    clear hzh
    generalize W7.alloc (.cells #[.int .i64 x0, .int .i64 x1, .int .i64 x2] 28) = W8 at *
    replace C1 := below_snoc C1 D2
    replace H := H.below D2
    clear D2
    have cX := boxC kX
    have cY := boxC kY
    have cH := boxC kH
    cases hb : bb
    · have hbn : (ok && decide (0 < n)) = false := by rw [← hbb.out]; exact hb
      obtain rfl : x0 = 0 := by rw [hx0.out]; exact headV_no hbn 0
      obtain rfl : x1 = 0 := by rw [hx1.out]; exact headV_no hbn 1
      obtain rfl : x2 = 0 := by rw [hx2.out]; exact headV_no hbn 2
      subst hb
      clear hx0 hx1 hx2 hbb hbn
      go_wp2
      go_ret
      exact ⟨by first | rfl | simp, C1⟩
    · have hbt : (ok && decide (0 < n)) = true := by rw [← hbb.out]; exact hb
      have hok1 : ok = true := by cases ok; (cases hbt); rfl
      subst hok1
      have hn0 : 0 < n := by simpa using hbt
      obtain rfl : cP = cap := hcP.out
      obtain rfl : nP = n - 1 := by rw [hnP.out]; rfl
      obtain rfl : fP = fun i => f (i + 3) := by rw [hfP.out]; rfl
      subst hb
      have HOK := hide (HK.out rfl hn0)
      clear hx0 hx1 hx2 hbb hbt hcP hnP hfP HK
      obtain ⟨hn1, hr⟩ := H.row
      obtain ⟨-, hs⟩ := oS.row
      obtain ⟨m, rfl⟩ : ∃ m, n = m + 1 := ⟨n - 1, by omega⟩
      rw [show m + 1 - 1 = m by omega] at hs kS oS HOK HX
      clear hn0
      have HS := hide hs
      have HRR := hide hr
      clear hs hr
      have cS := boxC kS
      have cR := boxC kR
      go_wp2
      clear cX cY cH cS cR
      go_loopw [12] (fun i wr => ∃ q : Nat, q ≤ m ∧ i = .int .i64 q ∧ Below W8.heap.size W8 wr) (fun i _ => m - (intOf i).toNat)
      case atStart => exact ⟨0, Nat.zero_le _, rfl, by first | exact Below.refl _ _ | exact (Below.refl _ _).drew⟩
      case round =>
        obtain ⟨q, hq, rfl, hL⟩ := hrel
        have kR1 := box_keep kR hL (boxLt kR)
        have kS1 := box_keep kS hL (boxLt kS)
        by_cases hlt : q < m
        · have hlt' : (q : Int) < (m : Int) := by omega
          obtain ⟨b, off, rfl, q0, q1, q2⟩ := HRR.out.rec3 (show q + 1 < m + 1 by omega)
          obtain ⟨b2, off2, rfl, p0, p1, p2⟩ := HS.out.rec3 hlt
          have hb : b < W8.heap.size := block_lt_of_cell q0
          have hb2 : b2 < W8.heap.size := block_lt_of_cell p0
          rw [show q * 3 + 3 = (q + 1) * 3 by omega] at p0
          rw [show q * 3 + 1 + 3 = (q + 1) * 3 + 1 by omega] at p1
          rw [show q * 3 + 2 + 3 = (q + 1) * 3 + 2 by omega] at p2
          generalize f ((q + 1) * 3) = y0 at *
          generalize f ((q + 1) * 3 + 1) = y1 at *
          generalize f ((q + 1) * 3 + 2) = y2 at *
          have lw := hL.size
          obtain ⟨k, hk⟩ : ∃ k, k = q + 1 := ⟨_, rfl⟩
          rw [← hk] at q0 q1 q2
          have d0 : ∀ d os, (grow (redrawn wr d) os).cell? ⟨b, off + k * 3, none⟩ = some (.int .i64 y0) := fun d os => ((below_regrown wr d os).cell (p := ⟨b, off + k * 3, none⟩) (show b < wr.heap.size by omega)).trans ((hL.cell (p := ⟨b, off + k * 3, none⟩) hb).trans q0)
          have d1 : ∀ d os, (grow (redrawn wr d) os).cell? ⟨b, off + k * 3 + 1, none⟩ = some (.int .i64 y1) := fun d os => ((below_regrown wr d os).cell (p := ⟨b, off + k * 3 + 1, none⟩) (show b < wr.heap.size by omega)).trans ((hL.cell (p := ⟨b, off + k * 3 + 1, none⟩) hb).trans q1)
          have d2 : ∀ d os, (grow (redrawn wr d) os).cell? ⟨b, off + k * 3 + 2, none⟩ = some (.int .i64 y2) := fun d os => ((below_regrown wr d os).cell (p := ⟨b, off + k * 3 + 2, none⟩) (show b < wr.heap.size by omega)).trans ((hL.cell (p := ⟨b, off + k * 3 + 2, none⟩) hb).trans q2)
          have g0 : ∀ d os, (grow (redrawn wr d) os).cell? ⟨b2, off2 + q * 3, none⟩ = some (.int .i64 y0) := fun d os => ((below_regrown wr d os).cell (p := ⟨b2, off2 + q * 3, none⟩) (show b2 < wr.heap.size by omega)).trans ((hL.cell (p := ⟨b2, off2 + q * 3, none⟩) hb2).trans p0)
          have g1 : ∀ d os, (grow (redrawn wr d) os).cell? ⟨b2, off2 + q * 3 + 1, none⟩ = some (.int .i64 y1) := fun d os => ((below_regrown wr d os).cell (p := ⟨b2, off2 + q * 3 + 1, none⟩) (show b2 < wr.heap.size by omega)).trans ((hL.cell (p := ⟨b2, off2 + q * 3 + 1, none⟩) hb2).trans p1)
          have g2 : ∀ d os, (grow (redrawn wr d) os).cell? ⟨b2, off2 + q * 3 + 2, none⟩ = some (.int .i64 y2) := fun d os => ((below_regrown wr d os).cell (p := ⟨b2, off2 + q * 3 + 2, none⟩) (show b2 < wr.heap.size by omega)).trans ((hL.cell (p := ⟨b2, off2 + q * 3 + 2, none⟩) hb2).trans p2)
          have wq : IntKind.i64.wrap (q : Int) = q := by rw [IntKind.wrap_i64]; omega
          have wq1 : IntKind.i64.wrap (k : Int) = k := by rw [IntKind.wrap_i64]; omega
          have hkq : (q : Int) + 1 = (k : Int) := by omega
          have hq1 : (k : Int) < (m : Int) + 1 := by omega
          have HKQ := hide hk
          clear hk
          have sR := boxRR kR1
          have sS := boxRR kS1
          have cS := boxC kS1
          go_upto_region 14 with (fail)
          clear cS
          refine wp_region_quiet_below (by kernel_rfl) (by kernel_rfl) ?_
          repeat (quiet_step (fail))
          refine wpQuiet_nil ?_
          intro _ hw'
          obtain ⟨⟨dq, osq⟩, hw''⟩ := hw'
          subst hw''
          have L2 := below_regrown wr dq osq
          generalize grow (redrawn wr dq) osq = W9 at *
          have hL9 := below_snoc hL L2
          clear d0 d1 d2 g0 g1 g2 sR sS L2 hkq wq1 hq1
          go_wp2
          have hgood : ∃ q' : Nat, q' ≤ m ∧ Value.int .i64 ((q : Int) + 1) = .int .i64 (q' : Int) ∧ Below W8.heap.size W8 W9 := ⟨q + 1, by omega, by go_num, hL9⟩
          refine ⟨?_, ?_⟩
          · (repeat apply Exists.intro)
            exact ⟨hgood, rfl⟩
          · simp [intOf]
            omega
        · have hqm : q = m := by omega
          subst hqm
          have cS := boxC kS1
          have cR := boxC kR1
          go_wp2_with fail
          clear cS cR
          refine (HX.out _ _ _ (oS.below hL)).mono ?_
          rintro e W9 ⟨rfl, L9⟩
          rw [HOK.out]
          have C9 := below_snoc (below_snoc C1 hL) L9
          go_wp2
          go_ret
          exact ⟨rfl, C9⟩
end Go.Proofs.Ytpaedkefmebjjac
