/-
  FnPicture: in any Period of a drawn picture unit just one picture is told, of Seen dots.
-/
import Derived.Test.YtpaedkefmebjjafZ9
import Derived.Test.YtpaedkefmebjjafI8
import Derived.Test.YtpaedkefmebjjafV2
namespace Go.Proofs.Ytpaedkefmebjjaf
set_option linter.unusedVariables false
set_option linter.unusedSimpArgs false
open Go.ChangeShapes Go.WideShapes Go.ChangeAt Go.RowKit Go.Sort
def toldN (t : Int) (k : Nat) : Int := if (48 - t) % 64 < k then 1 else 0
def toldS (t : Int) (k : Nat) : Int := if (48 - t) % 64 < k then 48 else 0
/-- The picture unit of a loop of ticks: in a block z, right, k cycles behind t. -/
structure PicAt (w W : World) (z : Nat) (t c s ad pl : Int) (n : Nat) (f : Nat → Int) (k : Nat) : Prop where
  ex : ∃ bl a1 x1 a2 x2 m g, W.heap[z]? = some (.cells #[.int .i64 (t + k), .int .i64 c, .int .i64 s, .int .i64 ad, .int .i64 pl, .bool bl, .slice a1 n x1, .slice a2 m x2] 26 (0, 0)) ∧ PpuOn W (fun b => w.heap.size ≤ b ∧ b ≠ z) (.agg #[.int .i64 (t + k), .int .i64 c, .int .i64 s, .int .i64 ad, .int .i64 pl, .bool bl, .slice a1 n x1, .slice a2 m x2]) (t + k) c s ad pl bl n f m g ∧ IsPpu (t + k) c s ad pl n f m g ∧ Below w.heap.size w W
theorem sameDots (w : World) (D E : Nat → Prop) (u v : Value) (k : Nat) (h : Nat → Int) (H : ListOn w D u k h) (K : ListOn w E v k h) : Calls Try.prog 11 #[u, v] w fun e w' => e = .returned (.bool true) ∧ Below w.heap.size w w' := by
  obtain ⟨a, x, rfl, r⟩ := H
  obtain ⟨b, y, rfl, r'⟩ := K
  refine (sameInts w _ _ _ _ k h h (r.ints x) (r'.ints y) (fun _ _ => rfl)).mono ?_
  rintro e w' ⟨rfl, d, rfl⟩
  exact ⟨rfl, below_drewN (Below.refl _ _) d⟩
theorem tickedAs_any {ok : Bool} {w W : World} {v u : Value} {t c s ad pl : Int} {bl : Bool} {n : Nat} {f : Nat → Int} {m : Nat} {g : Nat → Int} (H : TickedAs ok w W v u t c s ad pl bl n f m g) : ∃ (t' c' s' ad' pl' : Int) (bl' : Bool) (n' : Nat) (f' : Nat → Int) (m' : Nat) (g' : Nat → Int), Ticked w W v u t' c' s' ad' pl' bl' n' f' m' g' (if ok = true then tlM t m else 0) g ∧ (ok = false → n' = 0) ∧ (ok = true → t' = tkT t) := by
  cases ok
  · exact ⟨_, _, _, _, _, _, _, _, _, _, H, fun _ => rfl, fun h => absurd h (by decide)⟩
  · exact ⟨_, _, _, _, _, _, _, _, _, _, H, fun h => absurd h (by decide), fun _ => rfl⟩
set_option maxHeartbeats 4000000 in
theorem lawPicture (w : World) (s0 : Option Addr) (n0 c0 : Nat) (h : (1048576 : Int) < (n0 : Int) ∨ Code w w.heap.size s0 n0) :
    Calls Try.prog 3 #[.slice s0 n0 c0] w fun e w' => e = .returned (.bool true) ∧ Below w.heap.size w w' := by
  by_cases hbig : (1048576 : Int) < (n0 : Int)
  · have hb' : decide ((1048576 : Int) < (n0 : Int)) = true := decide_eq_true hbig
    go_enter Try.func3, Try.ntmps3
    go_wp2_with fail
    refine (lawsBig _ s0 n0 c0).mono ?_
    rintro e w' ⟨rfl, rfl⟩
    rw [hb']
    go_wp2
    go_ret
    exact ⟨rfl, Below.refl _ _⟩
  · have hb' : decide ((1048576 : Int) < (n0 : Int)) = false := decide_eq_false hbig
    have hcode : Code w w.heap.size s0 n0 := h.resolve_left hbig
    clear hbig h
    go_enter Try.func3, Try.ntmps3
    go_wp2_with fail
    refine (lawsBig _ s0 n0 c0).mono ?_
    rintro e w' ⟨rfl, rfl⟩
    rw [hb']
    clear hb'
    go_wp2_with fail
    refine (drawPpuTick _ w'.heap.size s0 n0 c0 (Nat.le_refl _) hcode).mono ?_
    rintro e W1 ⟨v, rfl, ⟨t, c, s, ad, pl, bl, n, f, m, g, U⟩, L1⟩
    obtain ⟨a1, x1, a2, x2, rfl⟩ := U.two
    replace U := U.mono (E := fun b => w'.heap.size ≤ b ∧ b ≠ W1.heap.size) (fun b hb h => ⟨h, by omega⟩)
    have k3 := box_new W1 #[.int .i64 t, .int .i64 c, .int .i64 s, .int .i64 ad, .int .i64 pl, .bool bl, .slice a1 n x1, .slice a2 m x2] 26
    have LA : Below W1.heap.size W1 (W1.alloc (.cells #[.int .i64 t, .int .i64 c, .int .i64 s, .int .i64 ad, .int .i64 pl, .bool bl, .slice a1 n x1, .slice a2 m x2] 26)) := (Below.refl _ _).alloc (Nat.le_refl _) _
    have C1 := below_snoc L1 LA
    replace U := U.below LA
    have hz3 : w'.heap.size ≤ W1.heap.size := L1.size
    go_upto_region 4 with (fail)
    obtain ⟨z, hz⟩ : ∃ z, Hid (z = W1.heap.size) := ⟨_, rfl⟩
    generalize W1.alloc (.cells #[.int .i64 t, .int .i64 c, .int .i64 s, .int .i64 ad, .int .i64 pl, .bool bl, .slice a1 n x1, .slice a2 m x2] 26) = W2 at *
    rw [← hz.out] at k3 U hz3 ⊢
    clear hz LA L1 hcode
    have c3 := boxC k3
    obtain ⟨ok, hok⟩ : ∃ ok, Hid (ok = okPpu t c s ad pl n f m g) := ⟨_, rfl⟩
    obtain ⟨kk, hkk⟩ : ∃ kk, Hid (kk = (if ok = true then tlM t m else 0)) := ⟨_, rfl⟩
    obtain ⟨b9, hb9⟩ : ∃ b9, Hid (b9 = tlNk ok t c) := ⟨_, rfl⟩
    go_wp2_with fail
    clear c3
    refine (onImplPpuTick _ _ _ t c s ad pl bl n f m g U).mono ?_
    rintro e W3 ⟨v4, u4, rfl, T4⟩
    rw [← hok.out] at T4 ⊢
    obtain ⟨t4, c4, s4, ad4, pl4, bl4, n4, f4, m4, g4, T4, hn4, ht4⟩ := tickedAs_any T4
    rw [← hkk.out] at T4
    rw [← hb9.out]
    obtain ⟨D4, E4, P4, Q4, dj4, lo4, L3⟩ := T4
    have HN4 := hide hn4
    have HT4 := hide ht4
    clear hn4 ht4
    have hz4 : z < W3.heap.size := Nat.lt_of_lt_of_le (boxLt k3) L3.size
    obtain ⟨b1, y1, b2, y2, rfl⟩ := P4.two
    obtain ⟨l1, v1, rfl⟩ := Q4.two
    have C2 := below_snoc C1 L3
    replace k3 := boxA (box_keep k3 L3 (boxLt k3)) (.cells #[.int .i64 t4, .int .i64 c4, .int .i64 s4, .int .i64 ad4, .int .i64 pl4, .bool bl4, .slice b1 n4 y1, .slice b2 m4 y2] 26)
    replace U := (U.below L3).below ((Below.refl _ W3).alloc (Nat.le_refl _) (.cells #[.int .i64 t4, .int .i64 c4, .int .i64 s4, .int .i64 ad4, .int .i64 pl4, .bool bl4, .slice b1 n4 y1, .slice b2 m4 y2] 26))
    have k4 := box_new W3 #[.int .i64 t4, .int .i64 c4, .int .i64 s4, .int .i64 ad4, .int .i64 pl4, .bool bl4, .slice b1 n4 y1, .slice b2 m4 y2] 26
    have LA : Below W3.heap.size W3 (W3.alloc (.cells #[.int .i64 t4, .int .i64 c4, .int .i64 s4, .int .i64 ad4, .int .i64 pl4, .bool bl4, .slice b1 n4 y1, .slice b2 m4 y2] 26)) := (Below.refl _ _).alloc (Nat.le_refl _) _
    replace C2 := below_snoc C2 LA
    replace Q4 := Q4.below LA
    go_upto_region 5 with (fail)
    obtain ⟨z4, hz⟩ : ∃ z4, Hid (z4 = W3.heap.size) := ⟨_, rfl⟩
    generalize W3.alloc (.cells #[.int .i64 t4, .int .i64 c4, .int .i64 s4, .int .i64 ad4, .int .i64 pl4, .bool bl4, .slice b1 n4 y1, .slice b2 m4 y2] 26) = W4 at *
    rw [← hz.out] at k4 hz4 ⊢
    clear hz LA L3 C1 P4 dj4 lo4
    have c3 := boxC k3
    go_wp2_with fail
    clear c3
    refine (onSpecPpuTick _ _ _ t c s ad pl bl n f m g U).mono ?_
    rintro e W5 ⟨v5, u5, rfl, T5⟩
    rw [← hok.out] at T5 ⊢
    obtain ⟨t5, c5, s5, ad5, pl5, bl5, n5, f5, m5, g5, T5, -, -⟩ := tickedAs_any T5
    rw [← hkk.out] at T5
    rw [← hb9.out]
    obtain ⟨D5, E5, P5, Q5, -, -, L5⟩ := T5
    obtain ⟨d1, z1, d2, z2, rfl⟩ := P5.two
    obtain ⟨l2, v2, rfl⟩ := Q5.two
    have C3 := below_snoc C2 L5
    have LB : Below W5.heap.size W5 (W5.alloc (.cells #[.int .i64 t5, .int .i64 c5, .int .i64 s5, .int .i64 ad5, .int .i64 pl5, .bool bl5, .slice d1 n5 z1, .slice d2 m5 z2] 26)) := (Below.refl _ _).alloc (Nat.le_refl _) _
    replace C3 := below_snoc C3 LB
    replace k3 := boxA (box_keep k3 L5 (boxLt k3)) (.cells #[.int .i64 t5, .int .i64 c5, .int .i64 s5, .int .i64 ad5, .int .i64 pl5, .bool bl5, .slice d1 n5 z1, .slice d2 m5 z2] 26)
    replace k4 := boxA (box_keep k4 L5 (boxLt k4)) (.cells #[.int .i64 t5, .int .i64 c5, .int .i64 s5, .int .i64 ad5, .int .i64 pl5, .bool bl5, .slice d1 n5 z1, .slice d2 m5 z2] 26)
    replace U := (U.below L5).below LB
    replace Q4 := (Q4.below L5).below LB
    replace Q5 := Q5.below LB
    go_upto_region 6 with (fail)
    generalize W5.alloc (.cells #[.int .i64 t5, .int .i64 c5, .int .i64 s5, .int .i64 ad5, .int .i64 pl5, .bool bl5, .slice d1 n5 z1, .slice d2 m5 z2] 26) = W6 at *
    clear L5 LB C2 P5
    have c3 := boxR k3
    have hbb : (b9 != b9) = false := by simp
    have hoo : (ok != ok) = false := by simp
    have S1 : ∀ d os, Calls Try.prog 11 #[.slice l1 kk v1, .slice l2 kk v2] (grow (redrawn W6 d) os) fun e w' => e = .returned (.bool true) ∧ Below (grow (redrawn W6 d) os).heap.size (grow (redrawn W6 d) os) w' := fun d os => sameDots _ _ _ _ _ kk g (Q4.below (below_regrown W6 d os)) (Q5.below (below_regrown W6 d os))
    have S2 : ∀ d os, Calls Try.prog 12 #[.agg #[.int .i64 t, .int .i64 c, .int .i64 s, .int .i64 ad, .int .i64 pl, .bool bl, .slice a1 n x1, .slice a2 m x2]] (grow (redrawn W6 d) os) fun e w' => e = .returned (.bool ok) ∧ Below (grow (redrawn W6 d) os).heap.size (grow (redrawn W6 d) os) w' := fun d os => by
      rw [hok.out]
      exact onImplPpuOk _ _ _ t c s ad pl bl n f m g (U.below (below_regrown W6 d os))
    have S3 : ∀ d os, Calls Try.prog 13 #[.agg #[.int .i64 t, .int .i64 c, .int .i64 s, .int .i64 ad, .int .i64 pl, .bool bl, .slice a1 n x1, .slice a2 m x2]] (grow (redrawn W6 d) os) fun e w' => e = .returned (.bool ok) ∧ Below (grow (redrawn W6 d) os).heap.size (grow (redrawn W6 d) os) w' := fun d os => by
      rw [hok.out]
      exact onSpecPpuOk _ _ _ t c s ad pl bl n f m g (U.below (below_regrown W6 d os))
    refine wp_region_quiet_below (by kernel_rfl) (by kernel_rfl) ?_
    repeat (go_big_quiet_step (first | (go_at_call 11; exact Calls.regrown_of (S1 _ _)) | (go_at_call 12; exact Calls.regrown_of (S2 _ _)) | (go_at_call 13; exact Calls.regrown_of (S3 _ _))))
    refine wpQuiet_nil ?_
    intro _ hw'
    obtain ⟨⟨dq, osq⟩, hw''⟩ := hw'
    subst hw''
    have LQ := below_regrown W6 dq osq
    replace k3 := box_keep k3 LQ (boxLt k3)
    replace k4 := box_keep k4 LQ (boxLt k4)
    replace U := U.below LQ
    have C4 := below_snoc C3 LQ
    clear S1 S2 S3 c3 Q4 Q5 LQ C3
    generalize Go.Sort.grow (redrawn W6 dq) osq = W7 at *
    have c3 := boxC k3
    go_wp2_with fail
    clear c3
    refine (onSpecPpuOk _ _ _ t c s ad pl bl n f m g U).mono ?_
    rintro e W8 ⟨rfl, L8⟩
    rw [← hok.out]
    have C5 := below_snoc C4 L8
    replace k3 := box_keep k3 L8 (boxLt k3)
    replace k4 := box_keep k4 L8 (boxLt k4)
    replace U := U.below L8
    clear L8 C4
    have c3 := boxC k3
    have c4 := boxC k4
    cases ok
    · obtain rfl := HN4.out rfl
      go_wp2
      go_ret
      exact ⟨rfl, C5⟩
    · have ht := HT4.out rfl
      have IP := okPpu_of hok.out.symm
      have t0 := IP.t0
      have t1 := IP.t1
      by_cases hov : 20000 < t + 64
      · by_cases hmx : t = 20000
        · have ht2 : t4 = t := by rw [ht]; exact if_pos hmx
          subst ht2
          have e1 : (t4 == t4 + 1) = false := beq_eq_false_iff_ne.2 (by omega)
          have e2 : (t4 == 20000) = true := by simpa using hmx
          have hov' : ¬ t4 + 64 ≤ 20000 := by omega
          clear hmx ht
          go_wp2
          go_ret
          exact ⟨rfl, C5⟩
        · have ht2 : t4 = t + 1 := by rw [ht]; exact if_neg hmx
          subst ht2
          go_wp2
          go_ret
          exact ⟨rfl, C5⟩
      · have P0 : PicAt w' W8 z t c s ad pl n f 0 := ⟨bl, a1, x1, a2, x2, m, g, by rw [show t + ((0 : Nat) : Int) = t by omega]; exact k3, by rw [show t + ((0 : Nat) : Int) = t by omega]; exact U, by rw [show t + ((0 : Nat) : Int) = t by omega]; exact IP, C5⟩
        have HP0 := hide P0
        have hr0 : 0 ≤ (48 - t) % 64 ∧ (48 - t) % 64 < 64 := by omega
        clear P0 IP k4 U ht HT4 HN4 C5
        go_wp2
        clear c3 c4 k3
        go_loopw [10, 11, 12] (fun nn ss kk wr => ∃ k : Nat, k ≤ 64 ∧ kk = .int .i64 k ∧ nn = .int .i64 (toldN t k) ∧ ss = .int .i64 (toldS t k) ∧ PicAt w' wr z t c s ad pl n f k) (fun _ _ kk _ => 64 - (intOf kk).toNat)
        case atStart => exact ⟨0, by omega, rfl, by rw [toldN, if_neg (by omega)], by rw [toldS, if_neg (by omega)], HP0.out⟩
        case round =>
          obtain ⟨k, hk, rfl, rfl, rfl, PA⟩ := hrel
          clear HP0
          by_cases hlt : k < 64
          · have hlt' : (k : Int) < 64 := by omega
            obtain ⟨bl', a1', x1', a2', x2', m', g', kz, U', IP', CB⟩ := PA
            have hz8 : w'.heap.size ≤ wr.heap.size := CB.size
            obtain ⟨T, hT⟩ : ∃ T, Hid (T = t + k) := ⟨_, rfl⟩
            have hTr := hT.out
            rw [← hTr] at kz U' IP'
            have T0 : 0 ≤ T := by omega
            have T1 : T + 1 ≤ 20000 := by omega
            have hdm : (m' : Int) = dotsN T := IP'.dots
            have okk := okPpu_is IP'
            have tk : tkT T = T + 1 := if_neg (by omega)
            have IN := isPpu_tick IP'
            rw [tk] at IN
            clear IP' hov
            rename_i hh1 hh2
            have cz := boxC kz
            by_cases hB : T % 64 = 48
            · have hlm : tlM T m' = 48 := by
                have : m' = 48 := by unfold dotsN at hdm; rw [if_neg (by omega)] at hdm; omega
                exact (if_neg (by omega)).trans ((if_pos hB).trans this)
              have hrk : (48 - t) % 64 = k := by omega
              have n0 : toldN t k = 0 := if_neg (by omega)
              have HN : Hid (toldN t (k + 1) = 1 ∧ toldS t (k + 1) = 48) := ⟨if_pos (by omega), if_pos (by omega)⟩
              rw [n0]
              clear hB hdm hTr n0 hrk hr0
              go_wp2_with fail
              clear cz
              refine (onImplPpuTickT _ _ _ T c s ad pl bl' n f m' g' U' okk).mono ?_
              rintro e W9 ⟨v9, u9, rfl, D9, E9, P9, Q9, -, lo9, L9⟩
              rw [tk] at P9
              rw [hlm] at Q9
              generalize tkB T bl' = tb at *
              generalize tkM T m' = tm at *
              generalize tkG T f s pl m' g' = tg at *
              obtain ⟨b1', y1', b2', y2', rfl⟩ := P9.two
              obtain ⟨l9, v9, rfl⟩ := Q9.two
              have CB2 := below_snoc CB L9
              have LB : Below W9.heap.size W9 (W9.alloc (.cells #[.int .i64 (T + 1), .int .i64 c, .int .i64 s, .int .i64 ad, .int .i64 pl, .bool tb, .slice b1' n y1', .slice b2' tm y2'] 26)) := (Below.refl _ _).alloc (Nat.le_refl _) _
              replace CB2 := below_snoc CB2 LB
              have hz9 : z < wr.heap.size := boxLt kz
              have kz9 := boxA (box_keep kz L9 hz9) (.cells #[.int .i64 (T + 1), .int .i64 c, .int .i64 s, .int .i64 ad, .int .i64 pl, .bool tb, .slice b1' n y1', .slice b2' tm y2'] 26)
              have kn := box_new W9 #[.int .i64 (T + 1), .int .i64 c, .int .i64 s, .int .i64 ad, .int .i64 pl, .bool tb, .slice b1' n y1', .slice b2' tm y2'] 26
              replace P9 := P9.below LB
              have hzn : W9.heap.size ≠ z := by have := L9.size; omega
              go_upto_region 17 with (fail)
              clear L9 LB CB U' kz Q9
              generalize W9.alloc (.cells #[.int .i64 (T + 1), .int .i64 c, .int .i64 s, .int .i64 ad, .int .i64 pl, .bool tb, .slice b1' n y1', .slice b2' tm y2'] 26) = W10 at *
              generalize W9.heap.size = zn at *
              have cz := boxC kz9
              have cn := boxC kn
              have fz := boxF kz9
              go_wp2_with fail
              clear cz cn fz
              refine (onImplPpuOk _ _ _ (T + 1) c s ad pl tb n f tm tg P9).mono ?_
              rintro e W11 ⟨rfl, L11⟩
              rw [okPpu_is IN]
              replace kz9 := box_keep kz9 L11 (boxLt kz9)
              replace kn := box_keep kn L11 (boxLt kn)
              replace P9 := P9.below L11
              replace CB2 := below_snoc CB2 L11
              clear L11
              have cz := boxC kz9
              have cn := boxC kn
              have fz := boxF kz9
              have FIN : Hid (PicAt w' ((((((((W11.setCell ⟨z, 0, none⟩ (.int .i64 (T + 1))).setCell ⟨z, 1, none⟩ (.int .i64 c)).setCell ⟨z, 2, none⟩ (.int .i64 s)).setCell ⟨z, 3, none⟩ (.int .i64 ad)).setCell ⟨z, 4, none⟩ (.int .i64 pl)).setCell ⟨z, 5, none⟩ (.bool tb)).setCell ⟨z, 6, none⟩ (.slice b1' n y1')).setCell ⟨z, 7, none⟩ (.slice b2' tm y2')) z t c s ad pl n f (k + 1)) := by
                have WP := put8_wrote W11 z (.int .i64 (T + 1)) (.int .i64 c) (.int .i64 s) (.int .i64 ad) (.int .i64 pl) (.bool tb) (.slice b1' n y1') (.slice b2' tm y2')
                have e1 : t + ((k + 1 : Nat) : Int) = T + 1 := by rw [hT.out]; omega
                refine ⟨tb, b1', y1', b2', y2', tm, tg, ?_, ?_, ?_, CB2.trans (WP.below CB2.size (fun b o hb e => by omega))⟩
                · rw [e1]; exact put8_box kz9 _ _ _ _ _ _ _ _
                · rw [e1]
                  exact ((P9.mono (E := fun b => w'.heap.size ≤ b ∧ b ≠ z) (fun b _ hb => by have := lo9 b (Or.inl hb); omega))).keep WP (fun b o hb _ e => hb.2 e)
                · rw [e1]; exact IN
              clear kz9 kn P9 CB2 IN lo9
              go_wp2
              go_round
              case rel => exact ⟨k + 1, by omega, by go_num, by rw [HN.out.1], by rw [HN.out.2], FIN.out⟩
              case measure => simp [intOf]; omega
            · have hlm : tlM T m' = 0 := (if_neg (by omega)).trans (if_neg hB)
              have hrk : ¬ (48 - t) % 64 = k := by omega
              have HN : Hid (toldN t (k + 1) = toldN t k ∧ toldS t (k + 1) = toldS t k) := by
                constructor
                · unfold toldN
                  by_cases h : (48 - t) % 64 < k
                  · rw [if_pos h, if_pos (by omega)]
                  · rw [if_neg h, if_neg (by omega)]
                · unfold toldS
                  by_cases h : (48 - t) % 64 < k
                  · rw [if_pos h, if_pos (by omega)]
                  · rw [if_neg h, if_neg (by omega)]
              clear hB hdm hTr hrk hr0
              go_wp2_with fail
              clear cz
              refine (onImplPpuTickT _ _ _ T c s ad pl bl' n f m' g' U' okk).mono ?_
              rintro e W9 ⟨v9, u9, rfl, D9, E9, P9, Q9, -, lo9, L9⟩
              rw [tk] at P9
              rw [hlm] at Q9
              generalize tkB T bl' = tb at *
              generalize tkM T m' = tm at *
              generalize tkG T f s pl m' g' = tg at *
              obtain ⟨b1', y1', b2', y2', rfl⟩ := P9.two
              obtain ⟨l9, v9, rfl⟩ := Q9.two
              have CB2 := below_snoc CB L9
              have LB : Below W9.heap.size W9 (W9.alloc (.cells #[.int .i64 (T + 1), .int .i64 c, .int .i64 s, .int .i64 ad, .int .i64 pl, .bool tb, .slice b1' n y1', .slice b2' tm y2'] 26)) := (Below.refl _ _).alloc (Nat.le_refl _) _
              replace CB2 := below_snoc CB2 LB
              have hz9 : z < wr.heap.size := boxLt kz
              have kz9 := boxA (box_keep kz L9 hz9) (.cells #[.int .i64 (T + 1), .int .i64 c, .int .i64 s, .int .i64 ad, .int .i64 pl, .bool tb, .slice b1' n y1', .slice b2' tm y2'] 26)
              have kn := box_new W9 #[.int .i64 (T + 1), .int .i64 c, .int .i64 s, .int .i64 ad, .int .i64 pl, .bool tb, .slice b1' n y1', .slice b2' tm y2'] 26
              replace P9 := P9.below LB
              have hzn : W9.heap.size ≠ z := by have := L9.size; omega
              go_upto_region 17 with (fail)
              clear L9 LB CB U' kz Q9
              generalize W9.alloc (.cells #[.int .i64 (T + 1), .int .i64 c, .int .i64 s, .int .i64 ad, .int .i64 pl, .bool tb, .slice b1' n y1', .slice b2' tm y2'] 26) = W10 at *
              generalize W9.heap.size = zn at *
              have cz := boxC kz9
              have cn := boxC kn
              have fz := boxF kz9
              go_wp2_with fail
              clear cz cn fz
              refine (onImplPpuOk _ _ _ (T + 1) c s ad pl tb n f tm tg P9).mono ?_
              rintro e W11 ⟨rfl, L11⟩
              rw [okPpu_is IN]
              replace kz9 := box_keep kz9 L11 (boxLt kz9)
              replace kn := box_keep kn L11 (boxLt kn)
              replace P9 := P9.below L11
              replace CB2 := below_snoc CB2 L11
              clear L11
              have cz := boxC kz9
              have cn := boxC kn
              have fz := boxF kz9
              have FIN : Hid (PicAt w' ((((((((W11.setCell ⟨z, 0, none⟩ (.int .i64 (T + 1))).setCell ⟨z, 1, none⟩ (.int .i64 c)).setCell ⟨z, 2, none⟩ (.int .i64 s)).setCell ⟨z, 3, none⟩ (.int .i64 ad)).setCell ⟨z, 4, none⟩ (.int .i64 pl)).setCell ⟨z, 5, none⟩ (.bool tb)).setCell ⟨z, 6, none⟩ (.slice b1' n y1')).setCell ⟨z, 7, none⟩ (.slice b2' tm y2')) z t c s ad pl n f (k + 1)) := by
                have WP := put8_wrote W11 z (.int .i64 (T + 1)) (.int .i64 c) (.int .i64 s) (.int .i64 ad) (.int .i64 pl) (.bool tb) (.slice b1' n y1') (.slice b2' tm y2')
                have e1 : t + ((k + 1 : Nat) : Int) = T + 1 := by rw [hT.out]; omega
                refine ⟨tb, b1', y1', b2', y2', tm, tg, ?_, ?_, ?_, CB2.trans (WP.below CB2.size (fun b o hb e => by omega))⟩
                · rw [e1]; exact put8_box kz9 _ _ _ _ _ _ _ _
                · rw [e1]
                  exact ((P9.mono (E := fun b => w'.heap.size ≤ b ∧ b ≠ z) (fun b _ hb => by have := lo9 b (Or.inl hb); omega))).keep WP (fun b o hb _ e => hb.2 e)
                · rw [e1]; exact IN
              clear kz9 kn P9 CB2 IN lo9
              go_wp2
              go_round
              case rel => exact ⟨k + 1, by omega, by go_num, by rw [HN.out.1], by rw [HN.out.2], FIN.out⟩
              case measure => simp [intOf]; omega
          · have hk64 : k = 64 := by omega
            subst hk64
            have n1 : toldN t 64 = 1 := if_pos (by omega)
            have n2 : toldS t 64 = 48 := if_pos (by omega)
            obtain ⟨bl', a1', x1', a2', x2', m', g', kz, U', IP', CB⟩ := PA
            rw [n1, n2]
            clear n1 n2 IP' U' kz hlt hk
            go_wp2
            go_ret
            exact ⟨rfl, CB⟩
end Go.Proofs.Ytpaedkefmebjjaf
