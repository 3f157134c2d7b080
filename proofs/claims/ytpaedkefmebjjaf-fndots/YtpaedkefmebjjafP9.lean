/-
  FnDots: the next dot of a drawn picture unit is what is told of its place; with another scroll it is that of another place.
-/
import Derived.Test.YtpaedkefmebjjafZA
import Derived.Test.YtpaedkefmebjjafI8
import Derived.Deep.DeepCutAuto
namespace Go.Proofs.Ytpaedkefmebjjaf
set_option linter.unusedVariables false
set_option linter.unusedSimpArgs false
open Go.ChangeShapes Go.WideShapes Go.ChangeAt Go.RowKit Go.Sort
theorem dotOf_in {t c s ad pl : Int} {n : Nat} {f : Nat → Int} {m : Nat} {g : Nat → Int} (a : Int) : 0 ≤ dotOf (okPpu t c s ad pl n f m g) f s pl a ∧ dotOf (okPpu t c s ad pl n f m g) f s pl a ≤ 63 := by
  unfold dotOf
  split
  · rename_i h
    exact dotV_in (okPpu_of h.1) a
  · omega
theorem dotV_next (f : Nat → Int) (s pl k : Int) (k0 : 0 ≤ k) (h7 : ¬ k % 8 = 7) : dotV f (s + 1) pl k = dotV f s pl (k + 1) := by
  unfold dotV
  rw [show (k % 8 + (s + 1) + k / 8) = ((k + 1) % 8 + s + (k + 1) / 8) by omega]
theorem PpuOn.dots {W : World} {D : Nat → Prop} {v0 v1 v2 v3 v4 v5 v6 : Value} {b : Option Addr} {m' y : Nat} {t c s ad pl : Int} {bl : Bool} {n m : Nat} {f g : Nat → Int} (h : PpuOn W D (.agg #[v0, v1, v2, v3, v4, v5, v6, .slice b m' y]) t c s ad pl bl n f m g) : SlOn W D b m g := by
  obtain ⟨a', x', b', y', e, h1, h2, h3⟩ := h
  cases e
  exact h2
theorem PpuOn.tab {W : World} {D : Nat → Prop} {v0 v1 v2 v3 v4 v5 v7 : Value} {b : Option Addr} {m' y : Nat} {t c s ad pl : Int} {bl : Bool} {n m : Nat} {f g : Nat → Int} (h : PpuOn W D (.agg #[v0, v1, v2, v3, v4, v5, .slice b m' y, v7]) t c s ad pl bl n f m g) : SlOn W D b n f := by
  obtain ⟨a', x', b', y', e, h1, h2, h3⟩ := h
  cases e
  exact h1
set_option maxRecDepth 40000 in
set_option maxHeartbeats 4000000 in
theorem lawDots (w : World) (s0 : Option Addr) (n0 c0 : Nat) (h : (1048576 : Int) < (n0 : Int) ∨ Code w w.heap.size s0 n0) :
    Calls Try.prog 4 #[.slice s0 n0 c0] w fun e w' => e = .returned (.bool true) ∧ Below w.heap.size w w' := by
  by_cases hbig : (1048576 : Int) < (n0 : Int)
  · have hb' : decide ((1048576 : Int) < (n0 : Int)) = true := decide_eq_true hbig
    go_enter Try.func4, Try.ntmps4
    go_wp2_with fail
    refine (lawsBig _ s0 n0 c0).mono ?_
    rintro e w' ⟨rfl, rfl⟩
    rw [hb']
    go_wp2
    go_ret
    exact ⟨rfl, Below.refl _ _⟩
  · have hb' : decide ((1048576 : Int) < (n0 : Int)) = false := decide_eq_false hbig
    have hcode : Code w w.heap.size s0 n0 := h.resolve_left hbig
    clear hbig h
    go_enter Try.func4, Try.ntmps4
    go_wp2_with fail
    refine (lawsBig _ s0 n0 c0).mono ?_
    rintro e w' ⟨rfl, rfl⟩
    rw [hb']
    clear hb'
    go_wp2_with fail
    refine (drawDot _ w'.heap.size s0 n0 c0 (Nat.le_refl _) hcode).mono ?_
    rintro e W1 ⟨v, k, rfl, k0, k1, ⟨t, c, s, ad, pl, bl, n, f, m, g, U⟩, L1⟩
    obtain ⟨a1, x1, a2, x2, rfl⟩ := U.two
    replace U := U.mono (E := fun b => w'.heap.size ≤ b ∧ b ≠ W1.heap.size) (fun b hb h => ⟨h, by omega⟩)
    have k3 := box_new W1 #[.int .i64 t, .int .i64 c, .int .i64 s, .int .i64 ad, .int .i64 pl, .bool bl, .slice a1 n x1, .slice a2 m x2] 26
    have LA : Below W1.heap.size W1 (W1.alloc (.cells #[.int .i64 t, .int .i64 c, .int .i64 s, .int .i64 ad, .int .i64 pl, .bool bl, .slice a1 n x1, .slice a2 m x2] 26)) := (Below.refl _ _).alloc (Nat.le_refl _) _
    have C1 := below_snoc L1 LA
    replace U := U.below LA
    have hz3 : w'.heap.size ≤ W1.heap.size := L1.size
    go_upto_region 4 with (fail)
    obtain ⟨z, hz⟩ : ∃ z, Hid (z = W1.heap.size) := ⟨_, rfl⟩
    generalize W1.alloc (.cells #[.int .i64 t, .int .i64 c, .int .i64 s, .int .i64 ad, .int .i64 pl, .bool bl, .slice a1 n x1, .slice a2 m x2] 26) = W2 at *
    rw [← hz.out] at k3 U hz3 ⊢
    clear hz LA L1 hcode
    have c3 := boxC k3
    obtain ⟨ok, hok⟩ : ∃ ok, Hid (ok = okPpu t c s ad pl n f m g) := ⟨_, rfl⟩
    obtain ⟨d, hd⟩ : ∃ d, Hid (d = dotOf ok f s pl k) := ⟨_, rfl⟩
    have d0 : 0 ≤ d ∧ d ≤ 63 := by rw [hd.out, hok.out]; exact dotOf_in k
    go_wp2_with fail
    clear c3
    refine (onImplDot _ _ _ t c s ad pl bl n f m g U k).mono ?_
    rintro e W3 ⟨rfl, L3⟩
    rw [← hok.out, ← hd.out]
    replace k3 := box_keep k3 L3 (boxLt k3)
    replace U := U.below L3
    have C2 := below_snoc C1 L3
    clear C1 L3
    have c3 := boxC k3
    go_wp2_with fail
    clear c3
    refine (onSpecDot _ _ _ t c s ad pl bl n f m g U k).mono ?_
    rintro e W4 ⟨rfl, L4⟩
    rw [← hok.out, ← hd.out]
    replace k3 := box_keep k3 L4 (boxLt k3)
    replace U := U.below L4
    have C3 := below_snoc C2 L4
    clear C2 L4
    have c3 := boxC k3
    have dn : (d != d) = false := by simp
    have d1 : ¬ d < 0 := by omega
    have d2 : ¬ 63 < d := by omega
    go_wp2_with fail
    clear c3 dn d1 d2
    refine (onSpecPpuOk _ _ _ t c s ad pl bl n f m g U).mono ?_
    rintro e W5 ⟨rfl, L5⟩
    rw [← hok.out]
    replace k3 := box_keep k3 L5 (boxLt k3)
    replace U := U.below L5
    have C4 := below_snoc C3 L5
    clear C3 L5
    have c3 := boxC k3
    cases ok
    · have hd0 : d = 0 := by rw [hd.out]; exact if_neg (by simp)
      subst hd0
      go_wp2
      go_ret
      exact ⟨rfl, C4⟩
    · have OK := hok.out.symm
      have IP := okPpu_of OK
      have t0 := IP.t0
      have t1 := IP.t1
      have s0' := IP.s0
      have s1' := IP.s1
      have m64 : t.tmod 64 = t % 64 := Int.tmod_eq_emod_of_nonneg t0
      go_wp2_with fail
      clear c3 m64
      refine (onImplPpuTickT _ _ _ t c s ad pl bl n f m g U OK).mono ?_
      rintro e W6 ⟨v6, u6, rfl, D6, E6, P6, Q6, -, lo6, L6⟩
      generalize tkB t bl = tb at *
      obtain ⟨tm, htm⟩ : ∃ tm, Hid (tm = tkM t m) := ⟨_, rfl⟩
      obtain ⟨tg, htg⟩ : ∃ tg, Hid (tg = tkG t f s pl m g) := ⟨_, rfl⟩
      rw [← htm.out, ← htg.out] at P6
      obtain ⟨b1, y1, b2, y2, rfl⟩ := P6.two
      obtain ⟨l6, v6, rfl⟩ := Q6.two
      have C5 := below_snoc C4 L6
      have LB : Below W6.heap.size W6 (W6.alloc (.cells #[.int .i64 (tkT t), .int .i64 c, .int .i64 s, .int .i64 ad, .int .i64 pl, .bool tb, .slice b1 n y1, .slice b2 tm y2] 26)) := (Below.refl _ _).alloc (Nat.le_refl _) _
      replace C5 := below_snoc C5 LB
      replace k3 := boxA (box_keep k3 L6 (boxLt k3)) (.cells #[.int .i64 (tkT t), .int .i64 c, .int .i64 s, .int .i64 ad, .int .i64 pl, .bool tb, .slice b1 n y1, .slice b2 tm y2] 26)
      have k7 := box_new W6 #[.int .i64 (tkT t), .int .i64 c, .int .i64 s, .int .i64 ad, .int .i64 pl, .bool tb, .slice b1 n y1, .slice b2 tm y2] 26
      replace U := (U.below L6).below LB
      replace P6 := P6.below LB
      go_upto_region 11 with (fail)
      clear L6 LB C4 lo6 Q6
      generalize W6.alloc (.cells #[.int .i64 (tkT t), .int .i64 c, .int .i64 s, .int .i64 ad, .int .i64 pl, .bool tb, .slice b1 n y1, .slice b2 tm y2] 26) = W7 at *
      generalize W6.heap.size = z7 at *
      have c3 := boxR k3
      have c7 := boxR k7
      go_cut [73] (fun v WX => v = .bool false ∧ Below W7.heap.size W7 WX)
      case first =>
        by_cases hA : t % 64 < 48
        · by_cases hB : t < 20000
          · have hm : (m : Int) = t % 64 := by have := IP.dots; unfold dotsN at this; rw [if_neg (by omega)] at this; exact this
            have e1 : tm = m + 1 := by rw [htm.out]; exact (if_neg (by omega)).trans (if_pos hA)
            have e2 : tg m = dotV f s pl m := by rw [htg.out]; unfold tkG; rw [if_neg (by omega), if_pos hA]; unfold snoc; rw [if_pos rfl, hm]
            subst e1
            have QD := P6.dots
            obtain ⟨bb, off, qe2, -⟩ := QD.row m (by omega)
            have QC : ∀ d os, (Go.Sort.grow (redrawn W7 d) os).cell? ⟨bb, off + m, none⟩ = some (.int .i64 (dotV f s pl m)) := fun d os => by
              obtain ⟨bb', off', e3, hc⟩ := (QD.keep (wrote_below (below_regrown W7 d os) Nowhere) (fun _ _ _ _ _ x => x)).row m (by omega)
              rw [qe2] at e3
              simp only [Option.some.injEq, Addr.mk.injEq, and_true] at e3
              obtain ⟨rfl, rfl⟩ := e3
              rw [hc, e2]
            subst qe2
            have HD : ∀ d os, Calls Try.prog 15 #[.agg #[.int .i64 t, .int .i64 c, .int .i64 s, .int .i64 ad, .int .i64 pl, .bool bl, .slice a1 n x1, .slice a2 m x2], .int .i64 (m : Int)] (grow (redrawn W7 d) os) fun e w' => e = .returned (.int .i64 (dotV f s pl m)) ∧ Below (grow (redrawn W7 d) os).heap.size (grow (redrawn W7 d) os) w' := fun d os => by
              refine (onImplDot _ _ _ t c s ad pl bl n f m g (U.below (below_regrown W7 d os)) m).mono ?_
              rintro e w' ⟨rfl, h⟩
              rw [OK]
              exact ⟨ret_int (if_pos ⟨rfl, by omega, by omega⟩), h⟩
            have w1 : IntKind.i64.wrap ((m : Int) + 1) = (m : Int) + 1 := by rw [IntKind.wrap_i64]; omega
            have w2 : IntKind.i64.wrap (m : Int) = m := by rw [IntKind.wrap_i64]; omega
            have n1 : ((((m + 1 : Nat) : Nat) : Int) != (m : Int) + 1) = false := by simp
            have n3 : (m : Int) < ((m + 1 : Nat) : Int) := by omega
            have n4 : (0 : Int) ≤ (m : Int) := by omega
            rw [← hm] at hA ⊢
            generalize dotV f s pl m = dv at *
            have n2 : (dv != dv) = false := by simp
            have HM := hide hm
            clear hm QD e2 htm htg IP OK P6
            refine wp_region_quiet_below (by kernel_rfl) (by kernel_rfl) ?_
            repeat (go_big_quiet_step ((go_at_call 15; exact Calls.regrown_of (HD _ _))))
            refine wpQuiet_nil ?_
            intro _ hw'
            obtain ⟨⟨dq, osq⟩, hw''⟩ := hw'
            subst hw''
            have LQ := below_regrown W7 dq osq
            generalize Go.Sort.grow (redrawn W7 dq) osq = w4 at *
            go_wp2_with fail
            rw [HM.out]
            go_meet
            exact ⟨rfl, LQ⟩
          · have hB' : ¬ t < 20000 := hB
            refine wp_region_quiet_below (by kernel_rfl) (by kernel_rfl) ?_
            repeat (go_big_quiet_step (fail))
            refine wpQuiet_nil ?_
            intro _ hw'
            obtain ⟨⟨dq, osq⟩, hw''⟩ := hw'
            subst hw''
            have LQ := below_regrown W7 dq osq
            generalize Go.Sort.grow (redrawn W7 dq) osq = w4 at *
            go_wp2_with fail
            go_meet
            exact ⟨rfl, LQ⟩
        · refine wp_region_quiet_below (by kernel_rfl) (by kernel_rfl) ?_
          repeat (go_big_quiet_step (fail))
          refine wpQuiet_nil ?_
          intro _ hw'
          obtain ⟨⟨dq, osq⟩, hw''⟩ := hw'
          subst hw''
          have LQ := below_regrown W7 dq osq
          generalize Go.Sort.grow (redrawn W7 dq) osq = w4 at *
          go_wp2_with fail
          go_meet
          exact ⟨rfl, LQ⟩
      case rest =>
      obtain ⟨rfl, LQ⟩ := hcut
      obtain ⟨W8, hW8⟩ : ∃ x, x = wc := ⟨_, rfl⟩
      subst hW8
      replace k3 := box_keep k3 LQ (boxLt k3)
      replace U := U.below LQ
      have C6 := below_snoc C5 LQ
      clear LQ C5 P6 k7 c3 c7 htm htg
      have ws : IntKind.i64.wrap (s + 1) = s + 1 := by rw [IntKind.wrap_i64]; omega
      have c3 := boxC k3
      go_wp2_with fail
      clear c3
      refine (onImplPpuWrite _ _ _ t c s ad pl bl n f m g U 1 (s + 1)).mono ?_
      rintro e W9 ⟨v9, rfl, P9, L9⟩
      rw [OK] at P9
      rw [show wrC true 1 (s + 1) c = c from rfl, show wrA true 1 (s + 1) ad = ad from rfl, show wrP true 1 (s + 1) pl = pl from rfl, show wrT true 1 (s + 1) ad f = f from rfl, show wrS true 1 (s + 1) s = (s + 1) % 256 from rfl] at P9
      obtain ⟨s4, hs4⟩ : ∃ s4, Hid (s4 = (s + 1) % 256) := ⟨_, rfl⟩
      rw [← hs4.out] at P9
      obtain ⟨e1, w1, e2, w2, rfl⟩ := P9.two
      have C7 := below_snoc C6 L9
      have LB : Below W9.heap.size W9 (W9.alloc (.cells #[.int .i64 t, .int .i64 c, .int .i64 s4, .int .i64 ad, .int .i64 pl, .bool bl, .slice e1 n w1, .slice e2 m w2] 26)) := (Below.refl _ _).alloc (Nat.le_refl _) _
      have C8 := below_snoc C7 LB
      replace k3 := boxA (box_keep k3 L9 (boxLt k3)) (.cells #[.int .i64 t, .int .i64 c, .int .i64 s4, .int .i64 ad, .int .i64 pl, .bool bl, .slice e1 n w1, .slice e2 m w2] 26)
      have k10 := box_new W9 #[.int .i64 t, .int .i64 c, .int .i64 s4, .int .i64 ad, .int .i64 pl, .bool bl, .slice e1 n w1, .slice e2 m w2] 26
      replace U := (U.below L9).below LB
      replace P9 := P9.below LB
      go_upto_region 14 with (fail)
      clear L9 LB C6 C7
      generalize W9.alloc (.cells #[.int .i64 t, .int .i64 c, .int .i64 s4, .int .i64 ad, .int .i64 pl, .bool bl, .slice e1 n w1, .slice e2 m w2] 26) = W10 at *
      generalize W9.heap.size = z10 at *
      have c3 := boxR k3
      have c10 := boxR k10
      have wk : IntKind.i64.wrap (k + 1) = k + 1 := by rw [IntKind.wrap_i64]; omega
      by_cases q0 : k < 0
      · refine wp_region_quiet_below (by kernel_rfl) (by kernel_rfl) ?_
        repeat (go_big_quiet_step (fail))
        refine wpQuiet_nil ?_
        intro _ hw'
        obtain ⟨⟨dq, osq⟩, hw''⟩ := hw'
        subst hw''
        have LQ := below_snoc C8 (below_regrown W10 dq osq)
        generalize Go.Sort.grow (redrawn W10 dq) osq = w4 at *
        go_wp2
        go_ret
        exact ⟨rfl, LQ⟩
      have km : k.tmod 8 = k % 8 := Int.tmod_eq_emod_of_nonneg (by omega)
      by_cases q1 : 48 ≤ k + 1
      · refine wp_region_quiet_below (by kernel_rfl) (by kernel_rfl) ?_
        repeat (go_big_quiet_step (fail))
        refine wpQuiet_nil ?_
        intro _ hw'
        obtain ⟨⟨dq, osq⟩, hw''⟩ := hw'
        subst hw''
        have LQ := below_snoc C8 (below_regrown W10 dq osq)
        generalize Go.Sort.grow (redrawn W10 dq) osq = w4 at *
        go_wp2
        go_ret
        exact ⟨rfl, LQ⟩
      by_cases q2 : k % 8 = 7
      · rw [q2] at km
        refine wp_region_quiet_below (by kernel_rfl) (by kernel_rfl) ?_
        repeat (go_big_quiet_step (fail))
        refine wpQuiet_nil ?_
        intro _ hw'
        obtain ⟨⟨dq, osq⟩, hw''⟩ := hw'
        subst hw''
        have LQ := below_snoc C8 (below_regrown W10 dq osq)
        generalize Go.Sort.grow (redrawn W10 dq) osq = w4 at *
        go_wp2
        go_ret
        exact ⟨rfl, LQ⟩
      have q2' : (k % 8 == 7) = false := by simpa using q2
      by_cases q3 : s = 255
      · subst q3
        clear q2
        refine wp_region_quiet_below (by kernel_rfl) (by kernel_rfl) ?_
        repeat (go_big_quiet_step (fail))
        refine wpQuiet_nil ?_
        intro _ hw'
        obtain ⟨⟨dq, osq⟩, hw''⟩ := hw'
        subst hw''
        have LQ := below_snoc C8 (below_regrown W10 dq osq)
        generalize Go.Sort.grow (redrawn W10 dq) osq = w4 at *
        go_wp2
        go_ret
        exact ⟨rfl, LQ⟩
      have q3' : (s == 255) = false := by simpa using q3
      have e4 : s4 = s + 1 := by rw [hs4.out]; omega
      have IW := isPpu_write IP 1 (s + 1)
      rw [show wrC true 1 (s + 1) c = c from rfl, show wrA true 1 (s + 1) ad = ad from rfl, show wrP true 1 (s + 1) pl = pl from rfl, show wrT true 1 (s + 1) ad f = f from rfl, show wrS true 1 (s + 1) s = (s + 1) % 256 from rfl, ← hs4.out] at IW
      have hdn : dotV f s4 pl k = dotV f s pl (k + 1) := by rw [e4]; exact dotV_next f s pl k (by omega) q2
      have H1 : ∀ d os, Calls Try.prog 15 #[.agg #[.int .i64 t, .int .i64 c, .int .i64 s4, .int .i64 ad, .int .i64 pl, .bool bl, .slice e1 n w1, .slice e2 m w2], .int .i64 k] (grow (redrawn W10 d) os) fun e w' => e = .returned (.int .i64 (dotV f s pl (k + 1))) ∧ Below (grow (redrawn W10 d) os).heap.size (grow (redrawn W10 d) os) w' := fun d os => by
        refine (onImplDot _ _ _ t c s4 ad pl bl n f m g (P9.below (below_regrown W10 d os)) k).mono ?_
        rintro e w' ⟨rfl, h⟩
        rw [okPpu_is IW]
        exact ⟨ret_int ((if_pos ⟨rfl, by omega, by omega⟩).trans hdn), h⟩
      have H2 : ∀ d os, Calls Try.prog 15 #[.agg #[.int .i64 t, .int .i64 c, .int .i64 s, .int .i64 ad, .int .i64 pl, .bool bl, .slice a1 n x1, .slice a2 m x2], .int .i64 (k + 1)] (grow (redrawn W10 d) os) fun e w' => e = .returned (.int .i64 (dotV f s pl (k + 1))) ∧ Below (grow (redrawn W10 d) os).heap.size (grow (redrawn W10 d) os) w' := fun d os => by
        refine (onImplDot _ _ _ t c s ad pl bl n f m g (U.below (below_regrown W10 d os)) (k + 1)).mono ?_
        rintro e w' ⟨rfl, h⟩
        rw [OK]
        exact ⟨ret_int (if_pos ⟨rfl, by omega, by omega⟩), h⟩
      generalize dotV f s pl (k + 1) = dv at *
      have n2 : (dv == dv) = true := by simp
      clear q2 q3 e4 IW hdn P9 U IP OK hs4
      refine wp_region_quiet_below (by kernel_rfl) (by kernel_rfl) ?_
      repeat (go_big_quiet_step ((go_at_call 15; first | with_reducible exact Calls.regrown_of (H1 _ _) | with_reducible exact Calls.regrown_of (H2 _ _))))
      refine wpQuiet_nil ?_
      intro _ hw'
      obtain ⟨⟨dq, osq⟩, hw''⟩ := hw'
      subst hw''
      have LQ := below_snoc C8 (below_regrown W10 dq osq)
      generalize Go.Sort.grow (redrawn W10 dq) osq = w4 at *
      go_wp2
      go_ret
      exact ⟨rfl, LQ⟩
end Go.Proofs.Ytpaedkefmebjjaf
