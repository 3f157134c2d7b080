/-
  FnRing: records come out of a drawn ring as they went in; no more go in than it can have.
-/
import Derived.Test.YtpaedkefmebjjacRU
import Derived.Test.YtpaedkefmebjjacRW
namespace Go.Proofs.Ytpaedkefmebjjac
set_option linter.unusedVariables false
set_option linter.unusedSimpArgs false
open Go.ChangeShapes Go.WideShapes Go.ChangeAt Go.RowKit Go.Sort
theorem headV_yes {n : Nat} {f : Nat → Int} (h0 : 0 < n) (j : Nat) : headV true n f j = f j := if_pos ⟨rfl, h0⟩
theorem headOk (w : World) (D : Nat → Prop) (v : Value) (cap : Int) (n : Nat) (f : Nat → Int) (H : RgOn w D v cap n f) (hok : okRing cap n f = true) (h0 : 0 < n) : Calls Try.prog 13 #[v] w fun e w' => e = .returned (.tuple #[.agg #[.int .i64 (f 0), .int .i64 (f 1), .int .i64 (f 2)], .bool true]) ∧ Below w.heap.size w w' := by
  have := implRingHead w D v cap n f H
  rw [hok, headV_yes h0, headV_yes h0, headV_yes h0, decide_eq_true h0] at this
  exact this
theorem takeOk (w : World) (D : Nat → Prop) (v : Value) (cap : Int) (n : Nat) (f : Nat → Int) (H : RgOn w D v cap n f) (hok : okRing cap n f = true) (h0 : 0 < n) : Calls Try.prog 14 #[v] w fun e w' => ∃ v', e = .returned (.tuple #[v', .agg #[.int .i64 (f 0), .int .i64 (f 1), .int .i64 (f 2)], .bool true]) ∧ RgNw w w' v' cap (n - 1) (fun i => f (i + 3)) ∧ Below w.heap.size w w' := by
  have := implRingTake w D v cap n f H
  rw [hok, headV_yes h0, headV_yes h0, headV_yes h0, decide_eq_true h0] at this
  exact this
theorem takeNone (w : World) (D : Nat → Prop) (v : Value) (cap : Int) (f : Nat → Int) (H : RgOn w D v cap 0 f) : Calls Try.prog 14 #[v] w fun e w' => ∃ v' c', e = .returned (.tuple #[v', .agg #[.int .i64 0, .int .i64 0, .int .i64 0], .bool false]) ∧ RgNw w w' v' c' 0 (takeF (okRing cap 0 f) f) ∧ Below w.heap.size w w' := by
  have h := implRingTake w D v cap 0 f H
  have e : ∀ j, headV (okRing cap 0 f) 0 f j = 0 := fun j => if_neg (fun h => by omega)
  rw [e, e, e] at h
  refine h.mono (fun e w' ⟨v', h1, h2, h3⟩ => ⟨v', putC (okRing cap 0 f) cap, ?_, ?_, h3⟩)
  · rw [h1]
    simp
  · have e2 : takeN (okRing cap 0 f) 0 = 0 := by unfold takeN; split <;> rfl
    rw [e2] at h2
    exact h2
theorem ok_drop {cap : Int} {n q : Nat} {f : Nat → Int} (h : okRing cap n f = true) (hq : q ≤ n) : okRing cap (n - q) (fun i => f (i + q * 3)) = true := by
  induction q with
  | zero => simpa using h
  | succ q ih =>
    have := ok_take (ih (by omega)) (by omega)
    rw [show n - (q + 1) = n - q - 1 by omega]
    rw [show (fun i => f (i + (q + 1) * 3)) = (fun i => (fun i => f (i + q * 3)) (i + 3)) from funext (fun i => by rw [show i + (q + 1) * 3 = i + 3 + q * 3 by omega])]
    exact this
theorem okRing0 (c : Int) (f : Nat → Int) : okRing c 0 f = (decide (1 ≤ c) && decide (c ≤ 16)) := by
  unfold okRing inB
  have : okUpto f 0 := fun i hi => absurd hi (Nat.not_lt_zero _)
  rw [decide_eq_true this]
  by_cases h1 : 1 ≤ c
  · by_cases h2 : c ≤ 16
    · simp [h1, h2]; omega
    · simp [h1, h2]
  · simp [h1]
/-- Where the loop stands: the ring that was drawn, the record, and the ring whose first q records are taken. -/
structure LQ (w W : World) (zr zx zs q n : Nat) (ra : Option Addr) (rc : Nat) (cap t r x : Int) (f fP : Nat → Int) : Prop where
  kR : W.heap[zr]? = some (.cells #[.int .i64 cap, .slice ra n rc] 26 (0, 0))
  kX : W.heap[zx]? = some (.cells #[.int .i64 t, .int .i64 r, .int .i64 x] 28 (0, 0))
  kS : ∃ sa sc, W.heap[zs]? = some (.cells #[.int .i64 cap, .slice sa (n + 1 - q) sc] 26 (0, 0)) ∧ RgOn W (fun b => b ≠ zs) (.agg #[.int .i64 cap, .slice sa (n + 1 - q) sc]) cap (n + 1 - q) (fun i => fP (i + q * 3))
  hR : RgOn W (fun b => b ≠ zs) (.agg #[.int .i64 cap, .slice ra n rc]) cap n f
  C : Below w.heap.size w W
theorem LQ.below {w W W' : World} {zr zx zs q n : Nat} {ra : Option Addr} {rc : Nat} {cap t r x : Int} {f fP : Nat → Int} (h : LQ w W zr zx zs q n ra rc cap t r x f fP) (L : Below W.heap.size W W') : LQ w W' zr zx zs q n ra rc cap t r x f fP := by
  obtain ⟨sa, sc, k, g⟩ := h.kS
  exact ⟨box_keep h.kR L (boxLt h.kR), box_keep h.kX L (boxLt h.kX), ⟨sa, sc, box_keep k L (boxLt k), g.below L⟩, h.hR.below L, below_snoc h.C L⟩
set_option maxRecDepth 20000 in
set_option maxHeartbeats 8000000 in
theorem lawRing (w : World) (s0 : Option Addr) (n0 c0 : Nat) (h : (1048576 : Int) < (n0 : Int) ∨ Code w w.heap.size s0 n0) :
    Calls Try.prog 3 #[.slice s0 n0 c0] w fun e w' => e = .returned (.bool true) ∧ Below w.heap.size w w' := by
  by_cases hbig : (1048576 : Int) < (n0 : Int)
  · have hb' : decide ((1048576 : Int) < (n0 : Int)) = true := decide_eq_true hbig
    go_enter Try.func3, Try.ntmps3
    go_wp2_with fail
    refine (lawsBig _ s0 n0 c0).mono ?_
    rintro e w' ⟨rfl, rfl⟩
    rw [hb']
    go_wp2
    go_ret
    exact ⟨rfl, Below.refl _ _⟩
  · have hb' : decide ((1048576 : Int) < (n0 : Int)) = false := decide_eq_false hbig
    have hcode : Code w w.heap.size s0 n0 := h.resolve_left hbig
    clear hbig h
    go_enter Try.func3, Try.ntmps3
    go_wp2_with fail
    refine (lawsBig _ s0 n0 c0).mono ?_
    rintro e w' ⟨rfl, rfl⟩
    rw [hb']
    clear hb'
    go_wp2_with fail
    refine (drawRingPut _ w'.heap.size s0 n0 c0 (Nat.le_refl _) hcode).mono ?_
    rintro e W1 ⟨cap, n, f, v, t, r, x, rfl, H, C1⟩
    obtain ⟨ra, rc, rfl⟩ := H.two
    have LA : Below W1.heap.size W1 ((W1.alloc (.cells #[.int .i64 cap, .slice ra n rc] 26)).alloc (.cells #[.int .i64 t, .int .i64 r, .int .i64 x] 28)) := ((Below.refl _ _).alloc (Nat.le_refl _) _).alloc (by simp) _
    have kR : ((W1.alloc (.cells #[.int .i64 cap, .slice ra n rc] 26)).alloc (.cells #[.int .i64 t, .int .i64 r, .int .i64 x] 28)).heap[W1.heap.size]? = some (.cells #[.int .i64 cap, .slice ra n rc] 26 (0, 0)) := boxA (box_new W1 _ _) _
    have kX : ((W1.alloc (.cells #[.int .i64 cap, .slice ra n rc] 26)).alloc (.cells #[.int .i64 t, .int .i64 r, .int .i64 x] 28)).heap[W1.heap.size + 1]? = some (.cells #[.int .i64 t, .int .i64 r, .int .i64 x] 28 (0, 0)) := by simpa using box_new (W1.alloc (.cells #[.int .i64 cap, .slice ra n rc] 26)) #[.int .i64 t, .int .i64 r, .int .i64 x] 28
    have lz0 := C1.size
    replace C1 := below_snoc C1 LA
    obtain ⟨zr, hzr⟩ : ∃ z, Hid (z = W1.heap.size) := ⟨_, rfl⟩
    have lzr : w'.heap.size ≤ zr := by rw [hzr.out]; exact lz0
    replace H := (H.mono (E := fun b => b < zr) (fun b hb _ => by rw [hzr.out]; exact hb)).below LA
    clear LA
    go_upto_region 4 with (fail)
    rw [← hzr.out] at kR kX ⊢
    clear hzr
    generalize (W1.alloc (.cells #[.int .i64 cap, .slice ra n rc] 26)).alloc (.cells #[.int .i64 t, .int .i64 r, .int .i64 x] 28) = W2 at *
    have HT := hide (fun W (L : Below W2.heap.size W2 W) => implRingPut W _ _ cap n f t r x (H.below L))
    have HU := hide (fun W (L : Below W2.heap.size W2 W) => specRingPut W _ _ cap n f t r x (H.below L))
    have HO := hide (fun W (L : Below W2.heap.size W2 W) => implRingOk W _ _ cap n f (H.below L))
    have HP := hide (fun W (L : Below W2.heap.size W2 W) => specRingOk W _ _ cap n f (H.below L))
    obtain ⟨o2, ho2⟩ : ∃ b, Hid (b = okRing cap (n + 1) (put3 f n t r x)) := ⟨_, rfl⟩
    obtain ⟨ok, hok⟩ : ∃ b, Hid (b = okRing cap n f) := ⟨_, rfl⟩
    rw [← hok.out, ← ho2.out] at HT HU
    rw [← hok.out] at HO HP
    obtain ⟨bb, hbb⟩ : ∃ x, Hid (x = (ok && o2)) := ⟨_, rfl⟩
    rw [← hbb.out] at HT HU
    obtain ⟨cP, hcP⟩ : ∃ z, Hid (z = putC ok cap) := ⟨_, rfl⟩
    obtain ⟨nP, hnP⟩ : ∃ z, Hid (z = putN ok bb n) := ⟨_, rfl⟩
    obtain ⟨fP, hfP⟩ : ∃ z, Hid (z = putF ok bb f n t r x) := ⟨_, rfl⟩
    rw [← hcP.out, ← hnP.out, ← hfP.out] at HT HU
    have D2 : Below W2.heap.size W2 W2 := Below.refl _ _
    have cR := boxC kR
    have cX := boxC kX
    go_wp2_with fail
    clear cR cX
    refine (HT.out _ D2).mono ?_
    rintro e W3 ⟨vS, rfl, ⟨oS⟩, L⟩
    obtain ⟨wa, wk, rfl⟩ := oS.two
    have hl2 := boxLt kX
    have hl3 := L.size
    replace D2 := below_snoc D2 L
    replace kR := box_keep kR L (boxLt kR)
    replace kX := box_keep kX L (boxLt kX)
    clear L HT
    have LA : Below W3.heap.size W3 (W3.alloc (.cells #[.int .i64 cP, .slice wa nP wk] 26)) := (Below.refl _ _).alloc (Nat.le_refl _) _
    have kS := box_new W3 #[.int .i64 cP, .slice wa nP wk] 26
    replace D2 := below_snoc D2 LA
    replace kR := box_keep kR LA (boxLt kR)
    replace kX := box_keep kX LA (boxLt kX)
    obtain ⟨zs, hzs⟩ : ∃ z, Hid (z = W3.heap.size) := ⟨_, rfl⟩
    have lzs : zr + 1 < zs := by rw [hzs.out]; omega
    replace oS := (oS.mono (E := fun b => b ≠ zs) (fun b hb _ => by rw [hzs.out]; omega)).below LA
    clear LA hl2 hl3
    go_upto_region 5 with (fail)
    rw [← hzs.out] at kS ⊢
    clear hzs
    generalize W3.alloc (.cells #[.int .i64 cP, .slice wa nP wk] 26) = W4 at *
    have cR := boxC kR
    have cX := boxC kX
    go_wp2_with fail
    clear cR cX
    refine (HU.out _ D2).mono ?_
    rintro e W5 ⟨vU, rfl, ⟨oU⟩, L⟩
    obtain ⟨ta, tc, rfl⟩ := oU.two
    replace D2 := below_snoc D2 L
    replace kR := box_keep kR L (boxLt kR)
    replace kX := box_keep kX L (boxLt kX)
    replace kS := box_keep kS L (boxLt kS)
    replace oS := oS.below L
    clear L HU oU
    have LA : Below W5.heap.size W5 (W5.alloc (.cells #[.int .i64 cP, .slice ta nP tc] 26)) := (Below.refl _ _).alloc (Nat.le_refl _) _
    replace D2 := below_snoc D2 LA
    replace kR := box_keep kR LA (boxLt kR)
    replace kX := box_keep kX LA (boxLt kX)
    replace kS := box_keep kS LA (boxLt kS)
    replace oS := oS.below LA
    clear LA
    go_upto_region 6 with (fail)
    generalize W5.heap.size = zu at *
    generalize W5.alloc (.cells #[.int .i64 cP, .slice ta nP tc] 26) = W6 at *
    have sR := boxRR kR
    refine wp_region_quiet_below (by kernel_rfl) (by kernel_rfl) ?_
    repeat (quiet_step (first | (go_at_call 9; exact Calls.regrown_of (HO.out _ (below_snoc D2 (below_regrown _ _ _)))) | (go_at_call 10; exact Calls.regrown_of (HP.out _ (below_snoc D2 (below_regrown _ _ _))))))
    refine wpQuiet_nil ?_
    intro _ hw'
    obtain ⟨⟨dq, osq⟩, hw''⟩ := hw'
    subst hw''
    have L := below_regrown W6 dq osq
    generalize grow (redrawn W6 dq) osq = W7 at *
    replace D2 := below_snoc D2 L
    replace kR := box_keep kR L (boxLt kR)
    replace kX := box_keep kX L (boxLt kX)
    replace kS := box_keep kS L (boxLt kS)
    replace oS := oS.below L
    clear L sR HO HP
    replace C1 := below_snoc C1 D2
    replace H := H.below D2
    clear D2
    go_wp2_with fail
    refine (drawRingNew _ w'.heap.size s0 n0 c0 C1.size (hcode.keep C1)).mono ?_
    rintro e W8 ⟨nn, rfl, L0⟩
    have L : Below W7.heap.size W7 W8 := L0
    replace C1 := below_snoc C1 L
    replace kR := box_keep kR L (boxLt kR)
    replace kX := box_keep kX L (boxLt kX)
    replace kS := box_keep kS L (boxLt kS)
    replace oS := oS.below L
    replace H := H.below L
    clear L L0 hcode
    obtain ⟨fr, hfr⟩ : ∃ b, Hid (b = okRing nn 0 (fun _ => 0)) := ⟨_, rfl⟩
    have HN := hide (fun W => implRingNew W nn)
    rw [← hfr.out] at HN
    obtain ⟨cN, hcN⟩ : ∃ z : Int, Hid (z = if fr then nn else 0) := ⟨_, rfl⟩
    rw [← hcN.out] at HN
    clear hcN
    rw [okRing0] at hfr
    go_wp2_with fail
    refine (HN.out _).mono ?_
    rintro e W9 ⟨vN, rfl, ⟨oN⟩, L⟩
    obtain ⟨na, nc, rfl⟩ := oN.two
    replace C1 := below_snoc C1 L
    replace kR := box_keep kR L (boxLt kR)
    replace kX := box_keep kX L (boxLt kX)
    replace kS := box_keep kS L (boxLt kS)
    replace oS := oS.below L
    replace H := H.below L
    clear L HN oN
    have LA : Below W9.heap.size W9 (W9.alloc (.cells #[.int .i64 cN, .slice na 0 nc] 26)) := (Below.refl _ _).alloc (Nat.le_refl _) _
    replace C1 := below_snoc C1 LA
    replace kR := box_keep kR LA (boxLt kR)
    replace kX := box_keep kX LA (boxLt kX)
    replace kS := box_keep kS LA (boxLt kS)
    replace oS := oS.below LA
    replace H := H.below LA
    clear LA
    go_upto_region 10 with (fail)
    generalize W9.heap.size = zn at *
    generalize W9.alloc (.cells #[.int .i64 cN, .slice na 0 nc] 26) = Wa at *
    go_cut [67] (fun s W => s = .bool false ∧ W = Wa)
    case first =>
      by_cases h1 : 1 ≤ nn
      · obtain rfl : fr = decide (nn ≤ 16) := by rw [hfr.out, decide_eq_true h1]; rfl
        clear hfr
        go_wp2
        go_meet
        exact ⟨by first | rfl | simp, rfl⟩
      · obtain rfl : fr = false := by rw [hfr.out, decide_eq_false h1]; rfl
        clear hfr
        go_wp2
        go_meet
        exact ⟨by first | rfl | simp, rfl⟩
    case rest =>
      obtain ⟨rfl, hWW⟩ := hcut
      rw [hWW]
      clear hWW hfr
      cases hb : bb
      · subst hb
        have cR := boxC kR
        have cS := boxC kS
        have hnn : nP = n ∨ nP = 0 := by
          rw [hnP.out]
          cases ok
          · exact Or.inr rfl
          · exact Or.inl rfl
        rcases hnn with rfl | rfl
        · clear hnP hfP hcP hbb
          go_wp2
          go_ret
          exact ⟨by first | rfl | simp, C1⟩
        · clear hnP hfP hcP hbb
          by_cases hn0 : n = 0
          · subst hn0
            go_wp2
            go_ret
            exact ⟨by first | rfl | simp, C1⟩
          · have hne : ((0 : Int) == (n : Int)) = false := by rw [beq_eq_false_iff_ne]; omega
            go_wp2
            go_ret
            exact ⟨by first | rfl | simp, C1⟩
      · subst hb
        have hbt : (ok && o2) = true := hbb.out.symm
        have hok1 : ok = true := by cases ok; (cases hbt); rfl
        subst hok1
        have ho21 : o2 = true := by simpa using hbt
        obtain rfl : cP = cap := hcP.out
        obtain rfl : nP = n + 1 := by rw [hnP.out]; rfl
        obtain rfl : fP = put3 f n t r x := by rw [hfP.out]; rfl
        have HOK : Hid (okRing cP (n + 1) (put3 f n t r x) = true) := by show _ = _; rw [← ho2.out]; exact ho21
        clear hbt ho21 hbb hcP hnP hfP ho2 hok
        have hsm : n + 1 ≤ 16 := okRing_small HOK.out
        have M : LQ w' Wa zr (zr + 1) zs 0 n ra rc cP t r x f (put3 f n t r x) := ⟨kR, kX, ⟨wa, wk, kS, by simpa using oS⟩, H.mono (fun b _ (h : b < zr) => by omega), C1⟩
        have cR := boxC kR
        clear kX kS oS H C1
        go_wp2
        clear cR kR
        go_loopw [12] (fun i wr => ∃ q : Nat, q ≤ n ∧ i = .int .i64 q ∧ LQ w' wr zr (zr + 1) zs q n ra rc cP t r x f (put3 f n t r x)) (fun i _ => n - (intOf i).toNat)
        case atStart => exact ⟨0, Nat.zero_le _, rfl, M⟩
        case round =>
          clear M
          obtain ⟨q, hq, rfl, M⟩ := hrel
          obtain ⟨sa, sc, kS, hS⟩ := M.kS
          obtain ⟨N, hN⟩ : ∃ N, Hid (N = n + 1 - q) := ⟨_, rfl⟩
          obtain ⟨F, hF⟩ : ∃ F : Nat → Int, Hid (F = fun i => put3 f n t r x (i + q * 3)) := ⟨_, rfl⟩
          rw [← hN.out, ← hF.out] at hS
          rw [← hN.out] at kS
          have okF : okRing cP N F = true := by rw [hN.out, hF.out]; exact ok_drop HOK.out (by omega)
          have hN0 : 0 < N := by rw [hN.out]; omega
          have HD := hide (fun W D' v' (h : RgOn W D' v' cP N F) => headOk W D' v' cP N F h okF hN0)
          have HE := hide (fun W D' v' (h : RgOn W D' v' cP N F) => takeOk W D' v' cP N F h okF hN0)
          clear okF
          by_cases hlt : q < n
          · have hlt' : (q : Int) < (n : Int) := by omega
            obtain ⟨y0, hy0⟩ : ∃ y, Hid (y = f (q * 3)) := ⟨_, rfl⟩
            obtain ⟨y1, hy1⟩ : ∃ y, Hid (y = f (q * 3 + 1)) := ⟨_, rfl⟩
            obtain ⟨y2, hy2⟩ : ∃ y, Hid (y = f (q * 3 + 2)) := ⟨_, rfl⟩
            have f0 : F 0 = y0 := by rw [hF.out, hy0.out]; unfold put3; dsimp only; rw [if_neg (by omega), if_neg (by omega), if_neg (by omega)]; congr 1; omega
            have f1 : F 1 = y1 := by rw [hF.out, hy1.out]; unfold put3; dsimp only; rw [if_neg (by omega), if_neg (by omega), if_neg (by omega)]; congr 1; omega
            have f2 : F 2 = y2 := by rw [hF.out, hy2.out]; unfold put3; dsimp only; rw [if_neg (by omega), if_neg (by omega), if_neg (by omega)]; congr 1; omega
            rw [f0, f1, f2] at HD HE
            clear f0 f1 f2
            have cR := boxC M.kR
            have cS := boxC kS
            go_wp2_with fail
            clear cR cS
            refine (HD.out _ _ _ hS).mono ?_
            rintro e Wb ⟨rfl, L⟩
            replace M := M.below L
            replace kS := box_keep kS L (boxLt kS)
            replace hS := hS.below L
            clear L HD
            have LA : Below Wb.heap.size Wb (Wb.alloc (.cells #[.int .i64 y0, .int .i64 y1, .int .i64 y2] 28)) := (Below.refl _ _).alloc (Nat.le_refl _) _
            have kH := box_new Wb #[.int .i64 y0, .int .i64 y1, .int .i64 y2] 28
            replace M := M.below LA
            replace kS := box_keep kS LA (boxLt kS)
            replace hS := hS.below LA
            clear LA
            go_upto_region 18 with (fail)
            generalize Wb.heap.size = zh at *
            generalize Wb.alloc (.cells #[.int .i64 y0, .int .i64 y1, .int .i64 y2] 28) = Wc at *
            have cS := boxC kS
            go_wp2_with fail
            clear cS
            refine (HE.out _ _ _ hS).mono ?_
            rintro e Wd ⟨vT, rfl, ⟨oT⟩, L⟩
            obtain ⟨ta2, tc2, rfl⟩ := oT.two
            have lsz : zs < Wc.heap.size := boxLt kS
            replace M := M.below L
            replace kS := box_keep kS L (boxLt kS)
            replace kH := box_keep kH L (boxLt kH)
            clear L HE hS
            replace oT := oT.mono (E := fun b => b ≠ zs) (fun b _ h => by omega)
            have LA : Below Wd.heap.size Wd ((Wd.alloc (.cells #[.int .i64 cP, .slice ta2 (N - 1) tc2] 26)).alloc (.cells #[.int .i64 y0, .int .i64 y1, .int .i64 y2] 28)) := ((Below.refl _ _).alloc (Nat.le_refl _) _).alloc (by simp) _
            have kT : ((Wd.alloc (.cells #[.int .i64 cP, .slice ta2 (N - 1) tc2] 26)).alloc (.cells #[.int .i64 y0, .int .i64 y1, .int .i64 y2] 28)).heap[Wd.heap.size]? = some (.cells #[.int .i64 cP, .slice ta2 (N - 1) tc2] 26 (0, 0)) := boxA (box_new Wd _ _) _
            have kY : ((Wd.alloc (.cells #[.int .i64 cP, .slice ta2 (N - 1) tc2] 26)).alloc (.cells #[.int .i64 y0, .int .i64 y1, .int .i64 y2] 28)).heap[Wd.heap.size + 1]? = some (.cells #[.int .i64 y0, .int .i64 y1, .int .i64 y2] 28 (0, 0)) := by simpa using box_new (Wd.alloc (.cells #[.int .i64 cP, .slice ta2 (N - 1) tc2] 26)) #[.int .i64 y0, .int .i64 y1, .int .i64 y2] 28
            have ltz : zs < Wd.heap.size := boxLt kS
            replace M := M.below LA
            replace kS := box_keep kS LA (boxLt kS)
            replace kH := box_keep kH LA (boxLt kH)
            replace oT := oT.below LA
            clear LA
            go_upto_region 19 with (fail)
            generalize Wd.heap.size = zt at *
            generalize (Wd.alloc (.cells #[.int .i64 cP, .slice ta2 (N - 1) tc2] 26)).alloc (.cells #[.int .i64 y0, .int .i64 y1, .int .i64 y2] 28) = We at *
            obtain ⟨b, off, hra, q0, q1, q2⟩ := M.hR.row.2.rec3 hlt
            subst hra
            have hb : b < We.heap.size := block_lt_of_cell q0
            rw [← hy0.out] at q0
            rw [← hy1.out] at q1
            rw [← hy2.out] at q2
            have d0 : ∀ d os, (grow (redrawn We d) os).cell? ⟨b, off + q * 3, none⟩ = some (.int .i64 y0) := fun d os => ((below_regrown We d os).cell (p := ⟨b, off + q * 3, none⟩) hb).trans q0
            have d1 : ∀ d os, (grow (redrawn We d) os).cell? ⟨b, off + q * 3 + 1, none⟩ = some (.int .i64 y1) := fun d os => ((below_regrown We d os).cell (p := ⟨b, off + q * 3 + 1, none⟩) hb).trans q1
            have d2 : ∀ d os, (grow (redrawn We d) os).cell? ⟨b, off + q * 3 + 2, none⟩ = some (.int .i64 y2) := fun d os => ((below_regrown We d os).cell (p := ⟨b, off + q * 3 + 2, none⟩) hb).trans q2
            have wq : IntKind.i64.wrap (q : Int) = q := by rw [IntKind.wrap_i64]; omega
            have sR := boxRR M.kR
            have sH := boxRR kH
            have sY := boxRR kY
            refine wp_region_quiet_below (by kernel_rfl) (by kernel_rfl) ?_
            repeat (quiet_step (fail))
            refine wpQuiet_nil ?_
            intro _ hw'
            obtain ⟨⟨dq, osq⟩, hw''⟩ := hw'
            subst hw''
            have L2 := below_regrown We dq osq
            generalize grow (redrawn We dq) osq = Wf at *
            replace M := M.below L2
            replace kS := box_keep kS L2 (boxLt kS)
            replace kT := box_keep kT L2 (boxLt kT)
            replace oT := oT.below L2
            clear d0 d1 d2 sR sH sY L2 q0 q1 q2 hy0 hy1 hy2 kH kY
            have cT := boxC kT
            have cS := boxC kS
            have fS := boxF kS
            go_upto_region 16 with (fail)
            have T1 : Wrote (fun b _ => b = zs) Wf ((Wf.setCell ⟨zs, 0, none⟩ (.int .i64 cP)).setCell ⟨zs, 1, none⟩ (.slice ta2 (N - 1) tc2)) := Wrote.setCell (Wrote.setCell (Wrote.refl (fun b _ => b = zs) Wf) (fun _ => rfl) _) (fun _ => rfl) _
            have HB := boxSetR (o := 1) (boxSetR (o := 0) kS (.int .i64 cP)) (.slice ta2 (N - 1) tc2)
            simp only [List.setIfInBounds_toArray, List.set_cons_succ, List.set_cons_zero] at HB
            replace oT := oT.keep T1 (fun b o (h1 : b ≠ zs) _ (e : b = zs) => h1 e)
            have eN : N - 1 = n + 1 - (q + 1) := by rw [hN.out]; omega
            have eF : (fun i => F (i + 3)) = (fun i => put3 f n t r x (i + (q + 1) * 3)) := by rw [hF.out]; funext i; dsimp only; congr 1; omega
            have M2 : LQ w' ((Wf.setCell ⟨zs, 0, none⟩ (.int .i64 cP)).setCell ⟨zs, 1, none⟩ (.slice ta2 (N - 1) tc2)) zr (zr + 1) zs (q + 1) n (some ⟨b, off, none⟩) rc cP t r x f (put3 f n t r x) := ⟨boxWroteR M.kR T1 (fun o (e : zr = zs) => by omega), boxWroteR M.kX T1 (fun o (e : zr + 1 = zs) => by omega), ⟨ta2, tc2, by rw [← eN]; exact HB, by rw [← eN, ← eF]; exact oT⟩, M.hR.keep T1 (fun b o (h1 : b ≠ zs) _ (e : b = zs) => h1 e), M.C.trans (T1.below M.C.size (fun b o hb (e : b = zs) => by omega))⟩
            clear M kS kT oT cT cS fS T1 HB eN eF
            generalize (Wf.setCell ⟨zs, 0, none⟩ (.int .i64 cP)).setCell ⟨zs, 1, none⟩ (.slice ta2 (N - 1) tc2) = Wg at *
            go_wp2
            have hgood : ∃ q' : Nat, q' ≤ n ∧ Value.int .i64 ((q : Int) + 1) = .int .i64 (q' : Int) ∧ LQ w' Wg zr (zr + 1) zs q' n (some ⟨b, off, none⟩) rc cP t r x f (put3 f n t r x) := ⟨q + 1, by omega, by go_num, M2⟩
            refine ⟨?_, ?_⟩
            · first
                | exact hgood
                | ((repeat apply Exists.intro); exact ⟨hgood, rfl⟩)
            · simp [intOf]
              omega
          · have hqn : q = n := by omega
            subst hqn
            have HN1 : Hid (N = 1) := by show _ = _; rw [hN.out]; omega
            have f0 : F 0 = t := by rw [hF.out]; unfold put3; dsimp only; rw [if_pos (by omega)]
            have f1 : F 1 = r := by rw [hF.out]; unfold put3; dsimp only; rw [if_neg (by omega), if_pos (by omega)]
            have f2 : F 2 = x := by rw [hF.out]; unfold put3; dsimp only; rw [if_neg (by omega), if_neg (by omega), if_pos (by omega)]
            rw [f0, f1, f2] at HE
            clear f0 f1 f2 HD
            have hlt' : ¬ (q : Int) < (q : Int) := by omega
            have cR := boxC M.kR
            have cS := boxC kS
            go_wp2_with fail
            clear cR cS
            refine (HE.out _ _ _ hS).mono ?_
            rintro e Wb ⟨vT, rfl, ⟨oT⟩, L⟩
            rw [show N - 1 = 0 by rw [HN1.out]] at oT
            obtain ⟨ta2, tc2, rfl⟩ := oT.two
            replace M := M.below L
            clear L HE hS kS
            have LA : Below Wb.heap.size Wb ((Wb.alloc (.cells #[.int .i64 cP, .slice ta2 0 tc2] 26)).alloc (.cells #[.int .i64 t, .int .i64 r, .int .i64 x] 28)) := ((Below.refl _ _).alloc (Nat.le_refl _) _).alloc (by simp) _
            have kT : ((Wb.alloc (.cells #[.int .i64 cP, .slice ta2 0 tc2] 26)).alloc (.cells #[.int .i64 t, .int .i64 r, .int .i64 x] 28)).heap[Wb.heap.size]? = some (.cells #[.int .i64 cP, .slice ta2 0 tc2] 26 (0, 0)) := boxA (box_new Wb _ _) _
            have kY : ((Wb.alloc (.cells #[.int .i64 cP, .slice ta2 0 tc2] 26)).alloc (.cells #[.int .i64 t, .int .i64 r, .int .i64 x] 28)).heap[Wb.heap.size + 1]? = some (.cells #[.int .i64 t, .int .i64 r, .int .i64 x] 28 (0, 0)) := by simpa using box_new (Wb.alloc (.cells #[.int .i64 cP, .slice ta2 0 tc2] 26)) #[.int .i64 t, .int .i64 r, .int .i64 x] 28
            replace M := M.below LA
            replace oT := oT.below LA
            clear LA
            go_upto_region 23 with (fail)
            generalize Wb.heap.size = zt at *
            generalize (Wb.alloc (.cells #[.int .i64 cP, .slice ta2 0 tc2] 26)).alloc (.cells #[.int .i64 t, .int .i64 r, .int .i64 x] 28) = Wc at *
            have cT := boxC kT
            go_wp2_with fail
            clear cT
            refine (takeNone _ _ _ cP _ oT).mono ?_
            rintro e Wd ⟨vN, cM, rfl, ⟨oM⟩, L⟩
            obtain ⟨ma, mc, rfl⟩ := oM.two
            replace M := M.below L
            replace kT := box_keep kT L (boxLt kT)
            replace kY := box_keep kY L (boxLt kY)
            clear L oT oM
            have LA : Below Wd.heap.size Wd ((Wd.alloc (.cells #[.int .i64 cM, .slice ma 0 mc] 26)).alloc (.cells #[.int .i64 0, .int .i64 0, .int .i64 0] 28)) := ((Below.refl _ _).alloc (Nat.le_refl _) _).alloc (by simp) _
            replace M := M.below LA
            replace kT := box_keep kT LA (boxLt kT)
            replace kY := box_keep kY LA (boxLt kY)
            clear LA
            go_upto_region 24 with (fail)
            generalize Wd.heap.size = zm at *
            generalize (Wd.alloc (.cells #[.int .i64 cM, .slice ma 0 mc] 26)).alloc (.cells #[.int .i64 0, .int .i64 0, .int .i64 0] 28) = We at *
            have cT := boxC kT
            have cY := boxC kY
            have cX := boxC M.kX
            have C9 := M.C
            go_wp2
            go_ret
            exact ⟨by first | rfl | simp, C9⟩
end Go.Proofs.Ytpaedkefmebjjac
