/-
  FnPictureRegs: what is written to a drawn picture unit's table is read there; no write or read takes time.
-/
import Derived.Test.YtpaedkefmebjjafP9
import Derived.Test.YtpaedkefmebjjafV2
namespace Go.Proofs.Ytpaedkefmebjjaf
set_option linter.unusedVariables false
set_option linter.unusedSimpArgs false
open Go.ChangeShapes Go.WideShapes Go.ChangeAt Go.RowKit Go.Sort
set_option maxRecDepth 40000 in
set_option maxHeartbeats 4000000 in
theorem lawPictureRegs (w : World) (s0 : Option Addr) (n0 c0 : Nat) (h : (1048576 : Int) < (n0 : Int) ∨ Code w w.heap.size s0 n0) :
    Calls Try.prog 5 #[.slice s0 n0 c0] w fun e w' => e = .returned (.bool true) ∧ Below w.heap.size w w' := by
  by_cases hbig : (1048576 : Int) < (n0 : Int)
  · have hb' : decide ((1048576 : Int) < (n0 : Int)) = true := decide_eq_true hbig
    go_enter Try.func5, Try.ntmps5
    go_wp2_with fail
    refine (lawsBig _ s0 n0 c0).mono ?_
    rintro e w' ⟨rfl, rfl⟩
    rw [hb']
    go_wp2
    go_ret
    exact ⟨rfl, Below.refl _ _⟩
  · have hb' : decide ((1048576 : Int) < (n0 : Int)) = false := decide_eq_false hbig
    have hcode : Code w w.heap.size s0 n0 := h.resolve_left hbig
    clear hbig h
    go_enter Try.func5, Try.ntmps5
    go_wp2_with fail
    refine (lawsBig _ s0 n0 c0).mono ?_
    rintro e w' ⟨rfl, rfl⟩
    rw [hb']
    clear hb'
    go_wp2_with fail
    refine (drawPpuWrite _ w'.heap.size s0 n0 c0 (Nat.le_refl _) hcode).mono ?_
    rintro e W1 ⟨v, reg, x, rfl, g0, g1, ⟨t, c, s, ad, pl, bl, n, f, m, g, U⟩, L1⟩
    obtain ⟨a1, x1, a2, x2, rfl⟩ := U.two
    have k3 := box_new W1 #[.int .i64 t, .int .i64 c, .int .i64 s, .int .i64 ad, .int .i64 pl, .bool bl, .slice a1 n x1, .slice a2 m x2] 26
    have LA : Below W1.heap.size W1 (W1.alloc (.cells #[.int .i64 t, .int .i64 c, .int .i64 s, .int .i64 ad, .int .i64 pl, .bool bl, .slice a1 n x1, .slice a2 m x2] 26)) := (Below.refl _ _).alloc (Nat.le_refl _) _
    have C1 := below_snoc L1 LA
    replace U := U.below LA
    go_upto_region 4 with (fail)
    obtain ⟨z, hz⟩ : ∃ z, Hid (z = W1.heap.size) := ⟨_, rfl⟩
    generalize W1.alloc (.cells #[.int .i64 t, .int .i64 c, .int .i64 s, .int .i64 ad, .int .i64 pl, .bool bl, .slice a1 n x1, .slice a2 m x2] 26) = W2 at *
    rw [← hz.out] at k3 ⊢
    clear hz LA L1
    have c3 := boxC k3
    obtain ⟨ok, hok⟩ : ∃ ok, Hid (ok = okPpu t c s ad pl n f m g) := ⟨_, rfl⟩
    obtain ⟨qc, hqc⟩ : ∃ q, Hid (q = wrC ok reg x c) := ⟨_, rfl⟩
    obtain ⟨qs, hqs⟩ : ∃ q, Hid (q = wrS ok reg x s) := ⟨_, rfl⟩
    obtain ⟨qa, hqa⟩ : ∃ q, Hid (q = wrA ok reg x ad) := ⟨_, rfl⟩
    obtain ⟨qp, hqp⟩ : ∃ q, Hid (q = wrP ok reg x pl) := ⟨_, rfl⟩
    obtain ⟨qf, hqf⟩ : ∃ q, Hid (q = wrT ok reg x ad f) := ⟨_, rfl⟩
    go_wp2_with fail
    clear c3
    refine (onImplPpuWrite _ _ _ t c s ad pl bl n f m g U reg x).mono ?_
    rintro e W3 ⟨v3, rfl, Q3, L3⟩
    rw [← hok.out, ← hqc.out, ← hqs.out, ← hqa.out, ← hqp.out, ← hqf.out] at Q3
    obtain ⟨b1, y1, b2, y2, rfl⟩ := Q3.two
    have C2 := below_snoc C1 L3
    have LB : Below W3.heap.size W3 (W3.alloc (.cells #[.int .i64 t, .int .i64 qc, .int .i64 qs, .int .i64 qa, .int .i64 qp, .bool bl, .slice b1 n y1, .slice b2 m y2] 26)) := (Below.refl _ _).alloc (Nat.le_refl _) _
    replace C2 := below_snoc C2 LB
    replace k3 := boxA (box_keep k3 L3 (boxLt k3)) (.cells #[.int .i64 t, .int .i64 qc, .int .i64 qs, .int .i64 qa, .int .i64 qp, .bool bl, .slice b1 n y1, .slice b2 m y2] 26)
    have k6 := box_new W3 #[.int .i64 t, .int .i64 qc, .int .i64 qs, .int .i64 qa, .int .i64 qp, .bool bl, .slice b1 n y1, .slice b2 m y2] 26
    replace U := (U.below L3).below LB
    replace Q3 := Q3.below LB
    go_upto_region 5 with (fail)
    clear L3 LB C1
    generalize W3.alloc (.cells #[.int .i64 t, .int .i64 qc, .int .i64 qs, .int .i64 qa, .int .i64 qp, .bool bl, .slice b1 n y1, .slice b2 m y2] 26) = W4 at *
    generalize W3.heap.size = z6 at *
    have c3 := boxC k3
    go_wp2_with fail
    clear c3
    refine (onSpecPpuWrite _ _ _ t c s ad pl bl n f m g U reg x).mono ?_
    rintro e W5 ⟨v5, rfl, R5, L5⟩
    rw [← hok.out, ← hqc.out, ← hqs.out, ← hqa.out, ← hqp.out, ← hqf.out] at R5
    obtain ⟨d1, z1, d2, z2, rfl⟩ := R5.two
    have C3 := below_snoc C2 L5
    have LB : Below W5.heap.size W5 (W5.alloc (.cells #[.int .i64 t, .int .i64 qc, .int .i64 qs, .int .i64 qa, .int .i64 qp, .bool bl, .slice d1 n z1, .slice d2 m z2] 26)) := (Below.refl _ _).alloc (Nat.le_refl _) _
    replace C3 := below_snoc C3 LB
    replace k3 := boxA (box_keep k3 L5 (boxLt k3)) (.cells #[.int .i64 t, .int .i64 qc, .int .i64 qs, .int .i64 qa, .int .i64 qp, .bool bl, .slice d1 n z1, .slice d2 m z2] 26)
    replace k6 := boxA (box_keep k6 L5 (boxLt k6)) (.cells #[.int .i64 t, .int .i64 qc, .int .i64 qs, .int .i64 qa, .int .i64 qp, .bool bl, .slice d1 n z1, .slice d2 m z2] 26)
    have k7 := box_new W5 #[.int .i64 t, .int .i64 qc, .int .i64 qs, .int .i64 qa, .int .i64 qp, .bool bl, .slice d1 n z1, .slice d2 m z2] 26
    replace U := (U.below L5).below LB
    replace Q3 := (Q3.below L5).below LB
    replace R5 := R5.below LB
    go_upto_region 6 with (fail)
    clear L5 LB C2
    generalize W5.alloc (.cells #[.int .i64 t, .int .i64 qc, .int .i64 qs, .int .i64 qa, .int .i64 qp, .bool bl, .slice d1 n z1, .slice d2 m z2] 26) = W6 at *
    generalize W5.heap.size = z7 at *
    have c6 := boxC k6
    have c7 := boxC k7
    go_wp2_with fail
    clear c6 c7
    refine (sameInts W6 _ _ _ _ n qf qf (Q3.tab.ints y1) (R5.tab.ints z1) (fun _ _ => rfl)).mono ?_
    rintro e W7 ⟨rfl, dd, hW7⟩
    have L7 : Below W6.heap.size W6 W7 := by rw [hW7]; exact below_drewN (Below.refl _ _) dd
    clear hW7
    replace k3 := box_keep k3 L7 (boxLt k3)
    replace k6 := box_keep k6 L7 (boxLt k6)
    replace U := U.below L7
    replace Q3 := Q3.below L7
    have C4 := below_snoc C3 L7
    clear k7 R5 L7 C3
    have hcode2 := hcode.keep C4
    go_upto_region 8 with (fail)
    go_wp2_with fail
    refine (drawPpuRead _ w'.heap.size s0 n0 c0 C4.size hcode2).mono ?_
    rintro e W8 ⟨v8, k, rfl, g2, g3, ⟨t8, c8, s8, ad8, pl8, bl8, n8, f8, m8, g8, U8⟩, L8⟩
    obtain ⟨e1, w1, e2, w2, rfl⟩ := U8.two
    have C5 := below_snoc C4 L8
    have LB : Below W8.heap.size W8 (W8.alloc (.cells #[.int .i64 t8, .int .i64 c8, .int .i64 s8, .int .i64 ad8, .int .i64 pl8, .bool bl8, .slice e1 n8 w1, .slice e2 m8 w2] 26)) := (Below.refl _ _).alloc (Nat.le_refl _) _
    replace C5 := below_snoc C5 LB
    replace k3 := boxA (box_keep k3 L8 (boxLt k3)) (.cells #[.int .i64 t8, .int .i64 c8, .int .i64 s8, .int .i64 ad8, .int .i64 pl8, .bool bl8, .slice e1 n8 w1, .slice e2 m8 w2] 26)
    replace k6 := boxA (box_keep k6 L8 (boxLt k6)) (.cells #[.int .i64 t8, .int .i64 c8, .int .i64 s8, .int .i64 ad8, .int .i64 pl8, .bool bl8, .slice e1 n8 w1, .slice e2 m8 w2] 26)
    have k8 := box_new W8 #[.int .i64 t8, .int .i64 c8, .int .i64 s8, .int .i64 ad8, .int .i64 pl8, .bool bl8, .slice e1 n8 w1, .slice e2 m8 w2] 26
    replace U := (U.below L8).below LB
    replace Q3 := (Q3.below L8).below LB
    replace U8 := U8.below LB
    go_upto_region 9 with (fail)
    clear L8 LB C4 hcode hcode2
    generalize W8.alloc (.cells #[.int .i64 t8, .int .i64 c8, .int .i64 s8, .int .i64 ad8, .int .i64 pl8, .bool bl8, .slice e1 n8 w1, .slice e2 m8 w2] 26) = W9 at *
    generalize W8.heap.size = z8 at *
    obtain ⟨ok8, hok8⟩ : ∃ ok, Hid (ok = okPpu t8 c8 s8 ad8 pl8 n8 f8 m8 g8) := ⟨_, rfl⟩
    obtain ⟨ra, hra⟩ : ∃ q, Hid (q = rdA ok8 k ad8) := ⟨_, rfl⟩
    obtain ⟨rb, hrb⟩ : ∃ q, Hid (q = rdB ok8 k bl8) := ⟨_, rfl⟩
    obtain ⟨rv, hrv⟩ : ∃ q, Hid (q = rdV ok8 k bl8 ad8 f8) := ⟨_, rfl⟩
    have c8' := boxC k8
    go_wp2_with fail
    clear c8'
    refine (onImplPpuRead _ _ _ t8 c8 s8 ad8 pl8 bl8 n8 f8 m8 g8 U8 k).mono ?_
    rintro e W10 ⟨v10, rfl, T10, L10⟩
    rw [← hok8.out, ← hrv.out]
    rw [← hok8.out, ← hra.out, ← hrb.out] at T10
    obtain ⟨h1, u1, h2, u2, rfl⟩ := T10.two
    have C6 := below_snoc C5 L10
    have LB : Below W10.heap.size W10 (W10.alloc (.cells #[.int .i64 t8, .int .i64 c8, .int .i64 s8, .int .i64 ra, .int .i64 pl8, .bool rb, .slice h1 n8 u1, .slice h2 m8 u2] 26)) := (Below.refl _ _).alloc (Nat.le_refl _) _
    replace C6 := below_snoc C6 LB
    replace k3 := boxA (box_keep k3 L10 (boxLt k3)) (.cells #[.int .i64 t8, .int .i64 c8, .int .i64 s8, .int .i64 ra, .int .i64 pl8, .bool rb, .slice h1 n8 u1, .slice h2 m8 u2] 26)
    replace k6 := boxA (box_keep k6 L10 (boxLt k6)) (.cells #[.int .i64 t8, .int .i64 c8, .int .i64 s8, .int .i64 ra, .int .i64 pl8, .bool rb, .slice h1 n8 u1, .slice h2 m8 u2] 26)
    replace k8 := boxA (box_keep k8 L10 (boxLt k8)) (.cells #[.int .i64 t8, .int .i64 c8, .int .i64 s8, .int .i64 ra, .int .i64 pl8, .bool rb, .slice h1 n8 u1, .slice h2 m8 u2] 26)
    have k10 := box_new W10 #[.int .i64 t8, .int .i64 c8, .int .i64 s8, .int .i64 ra, .int .i64 pl8, .bool rb, .slice h1 n8 u1, .slice h2 m8 u2] 26
    replace U := (U.below L10).below LB
    replace Q3 := (Q3.below L10).below LB
    replace U8 := (U8.below L10).below LB
    go_upto_region 10 with (fail)
    clear L10 LB C5 T10
    generalize W10.alloc (.cells #[.int .i64 t8, .int .i64 c8, .int .i64 s8, .int .i64 ra, .int .i64 pl8, .bool rb, .slice h1 n8 u1, .slice h2 m8 u2] 26) = W11 at *
    generalize W10.heap.size = z10 at *
    have c8' := boxC k8
    go_wp2_with fail
    clear c8'
    refine (onSpecPpuRead _ _ _ t8 c8 s8 ad8 pl8 bl8 n8 f8 m8 g8 U8 k).mono ?_
    rintro e W12 ⟨v12, rfl, T12, L12⟩
    rw [← hok8.out, ← hrv.out]
    rw [← hok8.out, ← hra.out, ← hrb.out] at T12
    obtain ⟨j1, o1, j2, o2, rfl⟩ := T12.two
    have C7 := below_snoc C6 L12
    have LB : Below W12.heap.size W12 (W12.alloc (.cells #[.int .i64 t8, .int .i64 c8, .int .i64 s8, .int .i64 ra, .int .i64 pl8, .bool rb, .slice j1 n8 o1, .slice j2 m8 o2] 26)) := (Below.refl _ _).alloc (Nat.le_refl _) _
    replace C7 := below_snoc C7 LB
    replace k3 := boxA (box_keep k3 L12 (boxLt k3)) (.cells #[.int .i64 t8, .int .i64 c8, .int .i64 s8, .int .i64 ra, .int .i64 pl8, .bool rb, .slice j1 n8 o1, .slice j2 m8 o2] 26)
    replace k6 := boxA (box_keep k6 L12 (boxLt k6)) (.cells #[.int .i64 t8, .int .i64 c8, .int .i64 s8, .int .i64 ra, .int .i64 pl8, .bool rb, .slice j1 n8 o1, .slice j2 m8 o2] 26)
    replace k8 := boxA (box_keep k8 L12 (boxLt k8)) (.cells #[.int .i64 t8, .int .i64 c8, .int .i64 s8, .int .i64 ra, .int .i64 pl8, .bool rb, .slice j1 n8 o1, .slice j2 m8 o2] 26)
    replace k10 := boxA (box_keep k10 L12 (boxLt k10)) (.cells #[.int .i64 t8, .int .i64 c8, .int .i64 s8, .int .i64 ra, .int .i64 pl8, .bool rb, .slice j1 n8 o1, .slice j2 m8 o2] 26)
    replace U := (U.below L12).below LB
    replace Q3 := (Q3.below L12).below LB
    replace U8 := (U8.below L12).below LB
    go_upto_region 11 with (fail)
    clear L12 LB C6 T12
    generalize W12.alloc (.cells #[.int .i64 t8, .int .i64 c8, .int .i64 s8, .int .i64 ra, .int .i64 pl8, .bool rb, .slice j1 n8 o1, .slice j2 m8 o2] 26) = W13 at *
    have c8' := boxC k8
    have c10 := boxC k10
    go_cut [112] (fun v WX => v = .bool false ∧ Below W13.heap.size W13 WX)
    case first =>
      by_cases hk2 : k = 2
      · subst hk2
        cases ok8
        · have hb : rb = bl8 := by rw [hrb.out]; exact if_neg (by simp)
          subst hb
          cases rb
          · go_wp2_with fail
            go_meet
            exact ⟨rfl, Below.refl _ _⟩
          · go_wp2_with fail
            refine (onSpecPpuOk _ _ _ t8 c8 s8 ad8 pl8 _ n8 f8 m8 g8 U8).mono ?_
            rintro e W14 ⟨rfl, L14⟩
            rw [← hok8.out]
            go_wp2_with fail
            go_meet
            exact ⟨rfl, L14⟩
        · have hb : rb = false := by rw [hrb.out]; exact if_pos ⟨rfl, rfl⟩
          subst hb
          go_wp2_with fail
          go_meet
          exact ⟨rfl, Below.refl _ _⟩
      · have hk' : (k == 2) = false := by simpa using hk2
        go_wp2_with fail
        go_meet
        exact ⟨rfl, Below.refl _ _⟩
    case rest =>
    obtain ⟨rfl, LQ⟩ := hcut
    obtain ⟨W14, hW14⟩ : ∃ x, x = wc := ⟨_, rfl⟩
    subst hW14
    replace k3 := box_keep k3 LQ (boxLt k3)
    replace k6 := box_keep k6 LQ (boxLt k6)
    replace U := U.below LQ
    replace Q3 := Q3.below LQ
    have C8 := below_snoc C7 LQ
    clear LQ C7 k8 k10 c8' c10 U8 hrv hrb hra hok8
    have c3 := boxC k3
    go_wp2_with fail
    clear c3
    refine (onSpecPpuOk _ _ _ t c s ad pl bl n f m g U).mono ?_
    rintro e W15 ⟨rfl, L15⟩
    rw [← hok.out]
    replace k3 := box_keep k3 L15 (boxLt k3)
    replace k6 := box_keep k6 L15 (boxLt k6)
    replace U := U.below L15
    replace Q3 := Q3.below L15
    have C9 := below_snoc C8 L15
    clear L15 C8
    have c3 := boxC k3
    cases ok
    · go_wp2
      go_ret
      exact ⟨rfl, C9⟩
    · have OK := hok.out.symm
      have IP := okPpu_of OK
      have I1 := isPpu_write IP 3 reg
      obtain ⟨r16, hr16⟩ : ∃ r, Hid (r = reg % 256 % 16) := ⟨_, rfl⟩
      rw [show wrC true 3 reg c = c from rfl, show wrS true 3 reg s = s from rfl, show wrP true 3 reg pl = pl from rfl, show wrT true 3 reg ad f = f from rfl, show wrA true 3 reg ad = reg % 256 % 16 from rfl, ← hr16.out] at I1
      have rr0 : 0 ≤ r16 ∧ r16 ≤ 15 := by rw [hr16.out]; omega
      obtain ⟨r17, hr17⟩ : ∃ r, Hid (r = (r16 + 1) % 16) := ⟨_, rfl⟩
      obtain ⟨xv, hxv⟩ : ∃ r, Hid (r = x % 256 % 64) := ⟨_, rfl⟩
      obtain ⟨f2, hf2⟩ : ∃ f2, Hid (f2 = wrT true 4 x r16 f) := ⟨_, rfl⟩
      have hfx : f2 r16.toNat = xv := by rw [hf2.out, hxv.out]; show (if r16.toNat = r16.toNat then x % 256 % 64 else f r16.toNat) = _; rw [if_pos rfl]
      have I2 := isPpu_write I1 4 x
      rw [show wrC true 4 x c = c from rfl, show wrS true 4 x s = s from rfl, show wrP true 4 x pl = pl from rfl, show wrA true 4 x r16 = (r16 + 1) % 16 from rfl, ← hr17.out, ← hf2.out] at I2
      have I3 := isPpu_write I2 3 reg
      rw [show wrC true 3 reg c = c from rfl, show wrS true 3 reg s = s from rfl, show wrP true 3 reg pl = pl from rfl, show wrT true 3 reg r17 f2 = f2 from rfl, show wrA true 3 reg r17 = reg % 256 % 16 from rfl, ← hr16.out] at I3
      have IQ := isPpu_write IP reg x
      rw [← hqc.out, ← hqs.out, ← hqa.out, ← hqp.out, ← hqf.out] at IQ
      go_wp2_with fail
      clear c3
      refine (onImplPpuWrite _ _ _ t c s ad pl bl n f m g U 3 reg).mono ?_
      rintro e W16 ⟨va, rfl, A1, L16⟩
      rw [OK, show wrC true 3 reg c = c from rfl, show wrS true 3 reg s = s from rfl, show wrP true 3 reg pl = pl from rfl, show wrT true 3 reg ad f = f from rfl, show wrA true 3 reg ad = reg % 256 % 16 from rfl, ← hr16.out] at A1
      have C10 := below_snoc C9 L16
      replace k3 := box_keep k3 L16 (boxLt k3)
      replace k6 := box_keep k6 L16 (boxLt k6)
      replace Q3 := Q3.below L16
      clear L16 C9 U
      go_wp2_with fail
      refine (onImplPpuWrite _ _ _ t c s r16 pl bl n f m g A1 4 x).mono ?_
      rintro e W17 ⟨vb, rfl, A2, L17⟩
      rw [okPpu_is I1, show wrC true 4 x c = c from rfl, show wrS true 4 x s = s from rfl, show wrP true 4 x pl = pl from rfl, show wrA true 4 x r16 = (r16 + 1) % 16 from rfl, ← hr17.out, ← hf2.out] at A2
      have C11 := below_snoc C10 L17
      replace k3 := box_keep k3 L17 (boxLt k3)
      replace k6 := box_keep k6 L17 (boxLt k6)
      replace Q3 := Q3.below L17
      clear L17 C10 A1
      go_wp2_with fail
      refine (onImplPpuWrite _ _ _ t c s r17 pl bl n f2 m g A2 3 reg).mono ?_
      rintro e W18 ⟨vc, rfl, A3, L18⟩
      rw [okPpu_is I2, show wrC true 3 reg c = c from rfl, show wrS true 3 reg s = s from rfl, show wrP true 3 reg pl = pl from rfl, show wrT true 3 reg r17 f2 = f2 from rfl, show wrA true 3 reg r17 = reg % 256 % 16 from rfl, ← hr16.out] at A3
      obtain ⟨p1, v1, p2, v2, rfl⟩ := A3.two
      have C12 := below_snoc C11 L18
      have LB : Below W18.heap.size W18 (W18.alloc (.cells #[.int .i64 t, .int .i64 c, .int .i64 s, .int .i64 r16, .int .i64 pl, .bool bl, .slice p1 n v1, .slice p2 m v2] 26)) := (Below.refl _ _).alloc (Nat.le_refl _) _
      replace C12 := below_snoc C12 LB
      replace k3 := boxA (box_keep k3 L18 (boxLt k3)) (.cells #[.int .i64 t, .int .i64 c, .int .i64 s, .int .i64 r16, .int .i64 pl, .bool bl, .slice p1 n v1, .slice p2 m v2] 26)
      replace k6 := boxA (box_keep k6 L18 (boxLt k6)) (.cells #[.int .i64 t, .int .i64 c, .int .i64 s, .int .i64 r16, .int .i64 pl, .bool bl, .slice p1 n v1, .slice p2 m v2] 26)
      have k14 := box_new W18 #[.int .i64 t, .int .i64 c, .int .i64 s, .int .i64 r16, .int .i64 pl, .bool bl, .slice p1 n v1, .slice p2 m v2] 26
      replace Q3 := (Q3.below L18).below LB
      replace A3 := A3.below LB
      go_upto_region 16 with (fail)
      clear L18 LB C11 A2
      generalize W18.alloc (.cells #[.int .i64 t, .int .i64 c, .int .i64 s, .int .i64 r16, .int .i64 pl, .bool bl, .slice p1 n v1, .slice p2 m v2] 26) = W19 at *
      generalize W18.heap.size = z14 at *
      have c14 := boxC k14
      go_wp2_with fail
      clear c14
      refine (onImplPpuRead _ _ _ t c s r16 pl bl n f2 m g A3 4).mono ?_
      rintro e W20 ⟨vd, rfl, B1, L20⟩
      rw [okPpu_is I3, show rdV true 4 bl r16 f2 = f2 r16.toNat from rfl, hfx]
      rw [okPpu_is I3, show rdA true 4 r16 = (r16 + 1) % 16 from rfl, show rdB true 4 bl = bl from rfl, ← hr17.out] at B1
      obtain ⟨l1, i1, l2, i2, rfl⟩ := B1.two
      have C13 := below_snoc C12 L20
      have LB : Below W20.heap.size W20 (W20.alloc (.cells #[.int .i64 t, .int .i64 c, .int .i64 s, .int .i64 r17, .int .i64 pl, .bool bl, .slice l1 n i1, .slice l2 m i2] 26)) := (Below.refl _ _).alloc (Nat.le_refl _) _
      replace C13 := below_snoc C13 LB
      replace k3 := boxA (box_keep k3 L20 (boxLt k3)) (.cells #[.int .i64 t, .int .i64 c, .int .i64 s, .int .i64 r17, .int .i64 pl, .bool bl, .slice l1 n i1, .slice l2 m i2] 26)
      replace k6 := boxA (box_keep k6 L20 (boxLt k6)) (.cells #[.int .i64 t, .int .i64 c, .int .i64 s, .int .i64 r17, .int .i64 pl, .bool bl, .slice l1 n i1, .slice l2 m i2] 26)
      replace k14 := boxA (box_keep k14 L20 (boxLt k14)) (.cells #[.int .i64 t, .int .i64 c, .int .i64 s, .int .i64 r17, .int .i64 pl, .bool bl, .slice l1 n i1, .slice l2 m i2] 26)
      have k15 := box_new W20 #[.int .i64 t, .int .i64 c, .int .i64 s, .int .i64 r17, .int .i64 pl, .bool bl, .slice l1 n i1, .slice l2 m i2] 26
      replace Q3 := (Q3.below L20).below LB
      replace A3 := (A3.below L20).below LB
      go_upto_region 17 with (fail)
      clear L20 LB C12 B1
      generalize W20.alloc (.cells #[.int .i64 t, .int .i64 c, .int .i64 s, .int .i64 r17, .int .i64 pl, .bool bl, .slice l1 n i1, .slice l2 m i2] 26) = W21 at *
      generalize W20.heap.size = z15 at *
      have c3 := boxR k3
      have c6 := boxR k6
      have c14 := boxR k14
      have c15 := boxR k15
      have B1 : ∀ d os, Calls Try.prog 23 #[.int .i64 x] (grow (redrawn W21 d) os) fun e w' => e = .returned (.int .i64 (x % 256)) ∧ Below (grow (redrawn W21 d) os).heap.size (grow (redrawn W21 d) os) w' := fun d os => (implByte x _).mono (fun e w' ⟨he, hw⟩ => ⟨he, by rw [hw]; exact Below.refl _ _⟩)
      have B2 : ∀ d os, Calls Try.prog 23 #[.int .i64 reg] (grow (redrawn W21 d) os) fun e w' => e = .returned (.int .i64 (reg % 256)) ∧ Below (grow (redrawn W21 d) os).heap.size (grow (redrawn W21 d) os) w' := fun d os => (implByte reg _).mono (fun e w' ⟨he, hw⟩ => ⟨he, by rw [hw]; exact Below.refl _ _⟩)
      have B3 : ∀ d os, Calls Try.prog 12 #[.agg #[.int .i64 t, .int .i64 qc, .int .i64 qs, .int .i64 qa, .int .i64 qp, .bool bl, .slice b1 n y1, .slice b2 m y2]] (grow (redrawn W21 d) os) fun e w' => e = .returned (.bool true) ∧ Below (grow (redrawn W21 d) os).heap.size (grow (redrawn W21 d) os) w' := fun d os => by
        rw [← okPpu_is IQ]
        exact onImplPpuOk _ _ _ t qc qs qa qp bl n qf m g (Q3.below (below_regrown W21 d os))
      have B4 : ∀ d os, Calls Try.prog 12 #[.agg #[.int .i64 t, .int .i64 c, .int .i64 s, .int .i64 r16, .int .i64 pl, .bool bl, .slice p1 n v1, .slice p2 m v2]] (grow (redrawn W21 d) os) fun e w' => e = .returned (.bool true) ∧ Below (grow (redrawn W21 d) os).heap.size (grow (redrawn W21 d) os) w' := fun d os => by
        rw [← okPpu_is I3]
        exact onImplPpuOk _ _ _ t c s r16 pl bl n f2 m g (A3.below (below_regrown W21 d os))
      have b1 : (x % 256).tmod 64 = xv := by rw [hxv.out]; exact Int.tmod_eq_emod_of_nonneg (by omega)
      have b2 : (reg % 256).tmod 16 = r16 := by rw [hr16.out]; exact Int.tmod_eq_emod_of_nonneg (by omega)
      have b3 : (r16 + 1).tmod 16 = r17 := by rw [hr17.out]; exact Int.tmod_eq_emod_of_nonneg (by omega)
      have b4 : IntKind.i64.wrap (r16 + 1) = r16 + 1 := by rw [IntKind.wrap_i64]; omega
      have b5 : (t == t) = true := by simp
      have b6 : (xv == xv) = true := by simp
      have b7 : (r17 == r17) = true := by simp
      generalize x % 256 = xb at *
      generalize reg % 256 = rb' at *
      clear hfx I1 I2 I3 IQ IP OK Q3 A3 k3 k6 k14 k15 hf2
      refine wp_region_quiet_below (by kernel_rfl) (by kernel_rfl) ?_
      repeat (go_big_quiet_step (first | (go_at_call 23; first | with_reducible exact Calls.regrown_of (B1 _ _) | with_reducible exact Calls.regrown_of (B2 _ _)) | (go_at_call 12; first | with_reducible exact Calls.regrown_of (B3 _ _) | with_reducible exact Calls.regrown_of (B4 _ _))))
      refine wpQuiet_nil ?_
      intro _ hw'
      obtain ⟨⟨dq, osq⟩, hw''⟩ := hw'
      subst hw''
      have LQ := below_snoc C13 (below_regrown W21 dq osq)
      generalize Go.Sort.grow (redrawn W21 dq) osq = w4 at *
      go_wp2
      go_ret
      exact ⟨rfl, LQ⟩
end Go.Proofs.Ytpaedkefmebjjaf
