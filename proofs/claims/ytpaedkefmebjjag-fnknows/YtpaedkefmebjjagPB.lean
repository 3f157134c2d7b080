/-
  FnKnows: a drawn picture unit tells so in a stretch of time just if the processor knows that it does.
-/
import Derived.Test.YtpaedkefmebjjagP8
import Derived.Test.YtpaedkefmebjjagI9
namespace Go.Proofs.Ytpaedkefmebjjag
set_option linter.unusedVariables false
set_option linter.unusedSimpArgs false
open Go.ChangeShapes Go.WideShapes Go.ChangeAt Go.RowKit Go.Sort
def toldB (t c : Int) (k : Nat) : Bool := decide ((48 - t) % 64 < k) && decide (127 < c)
theorem told_blank (t : Int) (t0 : 0 ≤ t) (t1 : t + 8 ≤ 20000) (c : Int) : toldB t c 7 = (decide (127 < c) && in9 t (t + 7) 48 64) := by
  unfold toldB in9
  rw [show max t 0 = t by omega, show min (t + 7) 20000 = t + 7 by omega, Bool.and_comm]
  congr 1
  apply decide_eq_decide.2
  constructor <;> intro h <;> omega
set_option maxRecDepth 40000 in
set_option maxHeartbeats 4000000 in
theorem lawKnows (w : World) (s0 : Option Addr) (n0 c0 : Nat) (h : (1048576 : Int) < (n0 : Int) ∨ Code w w.heap.size s0 n0) :
    Calls Try.prog 3 #[.slice s0 n0 c0] w fun e w' => e = .returned (.bool true) ∧ Below w.heap.size w w' := by
  by_cases hbig : (1048576 : Int) < (n0 : Int)
  · have hb' : decide ((1048576 : Int) < (n0 : Int)) = true := decide_eq_true hbig
    go_enter Try.func3, Try.ntmps3
    go_wp2_with fail
    refine (lawsBig _ s0 n0 c0).mono ?_
    rintro e w' ⟨rfl, rfl⟩
    rw [hb']
    go_wp2
    go_ret
    exact ⟨rfl, Below.refl _ _⟩
  · have hb' : decide ((1048576 : Int) < (n0 : Int)) = false := decide_eq_false hbig
    have hcode : Code w w.heap.size s0 n0 := h.resolve_left hbig
    clear hbig h
    go_enter Try.func3, Try.ntmps3
    go_wp2_with fail
    refine (lawsBig _ s0 n0 c0).mono ?_
    rintro e w' ⟨rfl, rfl⟩
    rw [hb']
    clear hb'
    go_wp2_with fail
    refine (drawPpuTick _ w'.heap.size s0 n0 c0 (Nat.le_refl _) hcode).mono ?_
    rintro e W1 ⟨v, rfl, ⟨t, c, s, ad, pl, bl, n, f, m, g, U⟩, L1⟩
    obtain ⟨a1, x1, a2, x2, rfl⟩ := U.two
    replace U := U.mono (E := fun b => w'.heap.size ≤ b ∧ b ≠ W1.heap.size) (fun b hb h => ⟨h, by omega⟩)
    have k3 := box_new W1 #[.int .i64 t, .int .i64 c, .int .i64 s, .int .i64 ad, .int .i64 pl, .bool bl, .slice a1 n x1, .slice a2 m x2] 26
    have LA : Below W1.heap.size W1 (W1.alloc (.cells #[.int .i64 t, .int .i64 c, .int .i64 s, .int .i64 ad, .int .i64 pl, .bool bl, .slice a1 n x1, .slice a2 m x2] 26)) := (Below.refl _ _).alloc (Nat.le_refl _) _
    have C1 := below_snoc L1 LA
    replace U := U.below LA
    have hz3 : w'.heap.size ≤ W1.heap.size := L1.size
    go_upto_region 4 with (fail)
    obtain ⟨z, hz⟩ : ∃ z, Hid (z = W1.heap.size) := ⟨_, rfl⟩
    generalize W1.alloc (.cells #[.int .i64 t, .int .i64 c, .int .i64 s, .int .i64 ad, .int .i64 pl, .bool bl, .slice a1 n x1, .slice a2 m x2] 26) = W2 at *
    rw [← hz.out] at k3 U hz3 ⊢
    clear hz LA L1 hcode
    have c3 := boxC k3
    obtain ⟨ok, hok⟩ : ∃ ok, Hid (ok = okPpu t c s ad pl n f m g) := ⟨_, rfl⟩
    obtain ⟨kk, hkk⟩ : ∃ kk, Hid (kk = (if ok = true then tlM t m else 0)) := ⟨_, rfl⟩
    obtain ⟨b9, hb9⟩ : ∃ b9, Hid (b9 = tlNk ok t c) := ⟨_, rfl⟩
    go_wp2_with fail
    clear c3
    refine (onImplPpuTick _ _ _ t c s ad pl bl n f m g U).mono ?_
    rintro e W3 ⟨v4, u4, rfl, T4⟩
    rw [← hok.out] at T4 ⊢
    obtain ⟨t4, c4, s4, ad4, pl4, bl4, n4, f4, m4, g4, T4, -, -⟩ := tickedAs_any T4
    rw [← hkk.out] at T4
    rw [← hb9.out]
    obtain ⟨D4, E4, P4, Q4, -, -, L3⟩ := T4
    obtain ⟨b1, y1, b2, y2, rfl⟩ := P4.two
    obtain ⟨l1, v1, rfl⟩ := Q4.two
    have C2 := below_snoc C1 L3
    have LA : Below W3.heap.size W3 (W3.alloc (.cells #[.int .i64 t4, .int .i64 c4, .int .i64 s4, .int .i64 ad4, .int .i64 pl4, .bool bl4, .slice b1 n4 y1, .slice b2 m4 y2] 26)) := (Below.refl _ _).alloc (Nat.le_refl _) _
    replace k3 := boxA (box_keep k3 L3 (boxLt k3)) (.cells #[.int .i64 t4, .int .i64 c4, .int .i64 s4, .int .i64 ad4, .int .i64 pl4, .bool bl4, .slice b1 n4 y1, .slice b2 m4 y2] 26)
    replace U := (U.below L3).below LA
    replace C2 := below_snoc C2 LA
    go_upto_region 6 with (fail)
    generalize W3.alloc (.cells #[.int .i64 t4, .int .i64 c4, .int .i64 s4, .int .i64 ad4, .int .i64 pl4, .bool bl4, .slice b1 n4 y1, .slice b2 m4 y2] 26) = W4 at *
    clear LA L3 C1 P4 Q4
    have c3 := boxC k3
    go_wp2_with fail
    clear c3
    refine (onSpecPpuTick _ _ _ t c s ad pl bl n f m g U).mono ?_
    rintro e W5 ⟨v5, u5, rfl, T5⟩
    rw [← hok.out] at T5 ⊢
    obtain ⟨t5, c5, s5, ad5, pl5, bl5, n5, f5, m5, g5, T5, -, -⟩ := tickedAs_any T5
    rw [← hkk.out] at T5
    rw [← hb9.out]
    obtain ⟨D5, E5, P5, Q5, -, -, L5⟩ := T5
    obtain ⟨d1, z1, d2, z2, rfl⟩ := P5.two
    obtain ⟨l2, v2, rfl⟩ := Q5.two
    have C3 := below_snoc C2 L5
    have LB : Below W5.heap.size W5 (W5.alloc (.cells #[.int .i64 t5, .int .i64 c5, .int .i64 s5, .int .i64 ad5, .int .i64 pl5, .bool bl5, .slice d1 n5 z1, .slice d2 m5 z2] 26)) := (Below.refl _ _).alloc (Nat.le_refl _) _
    replace C3 := below_snoc C3 LB
    replace k3 := boxA (box_keep k3 L5 (boxLt k3)) (.cells #[.int .i64 t5, .int .i64 c5, .int .i64 s5, .int .i64 ad5, .int .i64 pl5, .bool bl5, .slice d1 n5 z1, .slice d2 m5 z2] 26)
    replace U := (U.below L5).below LB
    go_upto_region 7 with (fail)
    generalize W5.alloc (.cells #[.int .i64 t5, .int .i64 c5, .int .i64 s5, .int .i64 ad5, .int .i64 pl5, .bool bl5, .slice d1 n5 z1, .slice d2 m5 z2] 26) = W6 at *
    clear L5 LB C2 P5 Q5
    have c3 := boxC k3
    have hbb : (b9 != b9) = false := by simp
    go_upto_region 9 with (fail)
    go_wp2_with fail
    clear c3
    refine (onSpecPpuOk _ _ _ t c s ad pl bl n f m g U).mono ?_
    rintro e W8 ⟨rfl, L8⟩
    rw [← hok.out]
    have C5 := below_snoc C3 L8
    replace k3 := box_keep k3 L8 (boxLt k3)
    replace U := U.below L8
    clear L8 C3 hbb hb9
    have c3 := boxC k3
    cases ok
    · go_wp2
      go_ret
      exact ⟨rfl, C5⟩
    · have IP := okPpu_of hok.out.symm
      have t0 := IP.t0
      have t1 := IP.t1
      by_cases hov : 20000 < t + 8
      · go_wp2
        go_ret
        exact ⟨rfl, C5⟩
      · have P0 : PicAt w' W8 z t c s ad pl n f 0 := ⟨bl, a1, x1, a2, x2, m, g, by rw [show t + ((0 : Nat) : Int) = t by omega]; exact k3, by rw [show t + ((0 : Nat) : Int) = t by omega]; exact U, by rw [show t + ((0 : Nat) : Int) = t by omega]; exact IP, C5⟩
        have HP0 := hide P0
        have hr0 : 0 ≤ (48 - t) % 64 ∧ (48 - t) % 64 < 64 := by omega
        clear P0 IP U C5
        go_wp2
        clear c3 k3
        go_loopw [11, 12] (fun tt kk wr => ∃ k : Nat, k ≤ 7 ∧ kk = .int .i64 k ∧ tt = .bool (toldB t c k) ∧ PicAt w' wr z t c s ad pl n f k) (fun _ kk _ => 7 - (intOf kk).toNat)
        case atStart => exact ⟨0, by omega, rfl, by rw [toldB, decide_eq_false (by omega)]; rfl, HP0.out⟩
        case round =>
          obtain ⟨k, hk, rfl, rfl, PA⟩ := hrel
          clear HP0
          obtain ⟨bl', a1', x1', a2', x2', m', g', kz, U', IP', CB⟩ := PA
          have hz8 : w'.heap.size ≤ wr.heap.size := CB.size
          obtain ⟨T, hT⟩ : ∃ T, Hid (T = t + k) := ⟨_, rfl⟩
          have hTr := hT.out
          rw [← hTr] at kz U' IP'
          have cz := boxC kz
          by_cases hlt : k < 7
          · have hlt' : (k : Int) < 7 := by omega
            have T0 : 0 ≤ T := by omega
            have T1 : T + 1 ≤ 20000 := by omega
            have okk := okPpu_is IP'
            have tk : tkT T = T + 1 := if_neg (by omega)
            have IN := isPpu_tick IP'
            rw [tk] at IN
            clear IP' hov
            obtain ⟨tn, htn⟩ : ∃ tn, Hid (tn = tlN T c) := ⟨_, rfl⟩
            have HN : Hid (toldB t c (k + 1) = (toldB t c k || tn)) := by
              show _ = _
              rw [htn.out]
              unfold toldB tlN
              rw [if_neg (by omega)]
              by_cases hB : T % 64 = 48
              · have hrk : (48 - t) % 64 = k := by omega
                rw [if_pos hB, decide_eq_true (show (48 - t) % 64 < ((k + 1 : Nat) : Int) by omega), decide_eq_false (show ¬ (48 - t) % 64 < (k : Int) by omega)]
                simp
              · have hrk : ¬ (48 - t) % 64 = k := by omega
                rw [if_neg hB, Bool.or_false]
                congr 1
                apply decide_eq_decide.2
                omega
            clear hTr hr0
            go_wp2_with fail
            clear cz
            refine (onImplPpuTickT _ _ _ T c s ad pl bl' n f m' g' U' okk).mono ?_
            rintro e W9 ⟨v9, u9, rfl, D9, E9, P9, Q9, -, lo9, L9⟩
            rw [tk] at P9
            rw [← htn.out]
            generalize tkB T bl' = tb at *
            generalize tkM T m' = tm at *
            generalize tkG T f s pl m' g' = tg at *
            generalize tlM T m' = lm at *
            obtain ⟨b1', y1', b2', y2', rfl⟩ := P9.two
            obtain ⟨l9, v9, rfl⟩ := Q9.two
            have CB2 := below_snoc CB L9
            have LB : Below W9.heap.size W9 (W9.alloc (.cells #[.int .i64 (T + 1), .int .i64 c, .int .i64 s, .int .i64 ad, .int .i64 pl, .bool tb, .slice b1' n y1', .slice b2' tm y2'] 26)) := (Below.refl _ _).alloc (Nat.le_refl _) _
            replace CB2 := below_snoc CB2 LB
            have hz9 : z < wr.heap.size := boxLt kz
            have kz9 := boxA (box_keep kz L9 hz9) (.cells #[.int .i64 (T + 1), .int .i64 c, .int .i64 s, .int .i64 ad, .int .i64 pl, .bool tb, .slice b1' n y1', .slice b2' tm y2'] 26)
            have kn := box_new W9 #[.int .i64 (T + 1), .int .i64 c, .int .i64 s, .int .i64 ad, .int .i64 pl, .bool tb, .slice b1' n y1', .slice b2' tm y2'] 26
            replace P9 := P9.below LB
            have hzn : W9.heap.size ≠ z := by have := L9.size; omega
            go_upto_region 16 with (fail)
            clear L9 LB CB U' kz Q9
            generalize W9.alloc (.cells #[.int .i64 (T + 1), .int .i64 c, .int .i64 s, .int .i64 ad, .int .i64 pl, .bool tb, .slice b1' n y1', .slice b2' tm y2'] 26) = W11 at *
            generalize W9.heap.size = zn at *
            have cz := boxC kz9
            have cn := boxC kn
            have fz := boxF kz9
            have FIN : Hid (PicAt w' ((((((((W11.setCell ⟨z, 0, none⟩ (.int .i64 (T + 1))).setCell ⟨z, 1, none⟩ (.int .i64 c)).setCell ⟨z, 2, none⟩ (.int .i64 s)).setCell ⟨z, 3, none⟩ (.int .i64 ad)).setCell ⟨z, 4, none⟩ (.int .i64 pl)).setCell ⟨z, 5, none⟩ (.bool tb)).setCell ⟨z, 6, none⟩ (.slice b1' n y1')).setCell ⟨z, 7, none⟩ (.slice b2' tm y2')) z t c s ad pl n f (k + 1)) := by
              have WP := put8_wrote W11 z (.int .i64 (T + 1)) (.int .i64 c) (.int .i64 s) (.int .i64 ad) (.int .i64 pl) (.bool tb) (.slice b1' n y1') (.slice b2' tm y2')
              have e1 : t + ((k + 1 : Nat) : Int) = T + 1 := by rw [hT.out]; omega
              refine ⟨tb, b1', y1', b2', y2', tm, tg, ?_, ?_, ?_, CB2.trans (WP.below CB2.size (fun b o hb e => by omega))⟩
              · rw [e1]; exact put8_box kz9 _ _ _ _ _ _ _ _
              · rw [e1]
                exact ((P9.mono (E := fun b => w'.heap.size ≤ b ∧ b ≠ z) (fun b _ hb => by have := lo9 b (Or.inl hb); omega))).keep WP (fun b o hb _ e => hb.2 e)
              · rw [e1]; exact IN
            clear kz9 kn P9 CB2 IN lo9 okk tk
            generalize toldB t c k = tq at *
            cases tq
            · go_wp2
              go_round
              case rel => exact ⟨k + 1, by omega, by go_num, by rw [HN.out]; rfl, FIN.out⟩
              case measure => simp [intOf]; omega
            · go_wp2
              go_round
              case rel => exact ⟨k + 1, by omega, by go_num, by rw [HN.out]; rfl, FIN.out⟩
              case measure => simp [intOf]; omega
          · have hk7 : k = 7 := by omega
            subst hk7
            have hT7 : T = t + 7 := hTr
            have HB := hide (told_blank t t0 (by omega) c)
            rw [HB.out, ← hT7]
            have HI := hide (implBlankIn wr t T)
            generalize in9 t T 48 64 = bq at *
            clear hT7 hTr hlt hk IP' U' hov hr0 hT
            by_cases h127 : 127 < c
            · rw [decide_eq_true h127, Bool.true_and]
              have hqq : (bq == bq) = true := by simp
              go_wp2_with fail
              refine (unhide HI).mono ?_
              rintro e w9 ⟨rfl, L9⟩
              go_wp2
              go_ret
              exact ⟨rfl, below_snoc CB L9⟩
            · rw [decide_eq_false h127, Bool.false_and]
              go_wp2
              go_ret
              exact ⟨rfl, CB⟩
end Go.Proofs.Ytpaedkefmebjjag
