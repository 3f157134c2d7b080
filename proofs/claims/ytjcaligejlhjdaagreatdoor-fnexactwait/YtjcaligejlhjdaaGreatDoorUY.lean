/-
  FnExactWait.
-/
import Derived.Test.YtjcaligejlhjdaaGreatDoorUW
import Derived.Test.YtjcaligejlhjdaaGreatDoorUE
import Derived.Test.YtjcaligejlhjdaaGreatDoorUJ
import Derived.Test.YtjcaligejlhjdaaGreatDoorG0
import Derived.Deep.RegionHeld3
import Derived.Deep.DeepCutAuto
namespace Go.Proofs.YtjcaligejlhjdaaGreatDoor
set_option linter.unusedVariables false
set_option linter.unusedSimpArgs false
open Go.ChangeShapes Go.WideShapes Go.ChangeAt Go.RowKit
set_option maxRecDepth 40000 in
set_option maxHeartbeats 8000000 in
theorem lawWait (w : World) (d : SpD) (u0 : Value) (ra0 : Nat → Option Addr) (rc0 : Nat → Nat) (a1 : Option Addr) (c1 : Nat) (a2 : Option Addr) (c2 : Nat) (a3 : Option Addr) (c3 : Nat) (b1 : Option Addr) (y1 : Nat) (b2 : Option Addr) (y2 : Nat) (b3 : Option Addr) (y3 : Nat) (b4 : Option Addr) (y4 : Nat) (ra4 : Nat → Option Addr) (rc4 : Nat → Nat) (e1 : Option Addr) (z1 : Nat) (e2 : Option Addr) (z2 : Nat) (H : RawS w d u0 ra0 rc0 a1 c1 a2 c2 a3 c3 b1 y1 b2 y2 b3 y3 b4 y4 ra4 rc4 e1 z1 e2 z2) (T0 : OpTab w) :
    Calls Tryz.prog 3 #[.agg #[u0, .slice a1 d.np c1, .slice a2 d.nr c2, .int .i64 d.bank, .int .i64 d.A, .int .i64 d.X, .int .i64 d.S, .int .i64 d.Pc, .bool d.Z, .bool d.N, .bool d.C, .bool d.I, .bool d.hd, .int .i64 d.sh, .int .i64 d.T, .bool d.nmi, .int .i64 d.ctrl, .bool d.kn, .int .i64 d.ka, .int .i64 d.st, .slice a3 d.nq c3, .int .i64 d.pc.t, .int .i64 d.pc.c, .int .i64 d.pc.s, .int .i64 d.pc.ad, .int .i64 d.pc.pl, .bool d.pc.bl, .slice b1 d.pc.nt y1, .slice b2 d.pc.nd y2, .int .i64 d.pc.cap, .slice b3 d.pc.n y3, .slice b4 d.pc.mf y4, .int .i64 d.sn.T, .int .i64 d.sn.P, .int .i64 d.sn.C, .int .i64 d.sn.B, .int .i64 d.sn.L, .bool d.sn.S, .bool d.sn.Q, .int .i64 d.sn.cap, .slice e1 d.sn.n z1, .slice e2 d.sn.ns z2]] w fun e w' => e = .returned (.bool true) ∧ Below w.heap.size w w' := by
  have HT0 := hide T0
  clear T0
  obtain ⟨cs, hcs⟩ : ∃ cs : Array Value, Hid (cs = #[u0, .slice a1 d.np c1, .slice a2 d.nr c2, .int .i64 d.bank, .int .i64 d.A, .int .i64 d.X, .int .i64 d.S, .int .i64 d.Pc, .bool d.Z, .bool d.N, .bool d.C, .bool d.I, .bool d.hd, .int .i64 d.sh, .int .i64 d.T, .bool d.nmi, .int .i64 d.ctrl, .bool d.kn, .int .i64 d.ka, .int .i64 d.st, .slice a3 d.nq c3, .int .i64 d.pc.t, .int .i64 d.pc.c, .int .i64 d.pc.s, .int .i64 d.pc.ad, .int .i64 d.pc.pl, .bool d.pc.bl, .slice b1 d.pc.nt y1, .slice b2 d.pc.nd y2, .int .i64 d.pc.cap, .slice b3 d.pc.n y3, .slice b4 d.pc.mf y4, .int .i64 d.sn.T, .int .i64 d.sn.P, .int .i64 d.sn.C, .int .i64 d.sn.B, .int .i64 d.sn.L, .bool d.sn.S, .bool d.sn.Q, .int .i64 d.sn.cap, .slice e1 d.sn.n z1, .slice e2 d.sn.ns z2]) := ⟨_, rfl⟩
  have hsz : cs.size = 42 := by rw [hcs.out]; rfl
  have HZ : Hid (∀ W, RawSS W u0 d.m ra0 d.ln rc0 d.f → RawSS W (.slice b4 d.pc.mf y4) d.pc.mf ra4 d.pc.lf rc4 d.pc.fr → Calls Tryz.prog 4 #[.agg cs, .int .i64 1048576] W fun e w' => e = .returned (.int .i64 (szOut 1048576 (szSp d))) ∧ Below W.heap.size W w') := fun W h0 h5 => by
    rw [hcs.out]
    exact szSplit W d u0 ra0 rc0 a1 c1 a2 c2 a3 c3 b1 y1 b2 y2 b3 y3 b4 y4 ra4 rc4 e1 z1 e2 z2 1048576 h0 h5 H.n1 H.n2 H.n3 H.n4 H.n5 H.n6 H.n7 H.n8 (by omega) (by omega)
  have HT : Hid (szSp d ≤ 1048576 → ∀ W, Below w.heap.size w W → Calls Tryz.prog 6 #[.agg cs] W fun e w' => ∃ cs', cs'.size = 42 ∧ cs'.all (·.oneCell') = true ∧ e = .returned (.agg cs') ∧ (∃ D, SplitOn w' D (.agg cs') d ∧ Dis D ∧ ∀ i b, D i b → W.heap.size ≤ b ∧ b < w'.heap.size) ∧ Below W.heap.size W w') := fun hs W L => by
    rw [hcs.out]
    refine (onToSplit W u0 _ _ _ _ _ b3 y3 _ e1 z1 e2 z2 d (H.raw hs L) hs).mono ?_
    rintro e w' ⟨v, rfl, ⟨D, o, h1, h2⟩, L'⟩
    obtain ⟨cs', rfl, hs', ho'⟩ := o.agg
    exact ⟨cs', hs', ho', rfl, ⟨D, o, h1, h2⟩, L'⟩
  rw [← hcs.out]
  clear hcs
  have C0 : Below w.heap.size w (w.alloc (.cells cs 44)) := (Below.refl _ _).alloc (Nat.le_refl _) _
  have k0 := box_new w cs 44
  have R0 := hide (H.r0.below C0)
  have R5 := hide (H.r7.below C0)
  clear H
  go_enter Tryz.func3, Tryz.ntmps3
  go_upto_region 2 with (fail)
  generalize w.alloc (.cells cs 44) = W0 at *
  refine wp_region_lit ?_
  refine wpList_load_row rfl _ _ rfl (w.heap.size) rfl _ _ _ _ k0 Tryz.underlying44 rfl (infoAtU infoLawsS hsz) ?_
  go_wp2_with fail
  refine (HZ.out _ R0.out R5.out).mono ?_
  rintro e W1 ⟨rfl, L⟩
  have C1 := below_snoc C0 L
  replace k0 := box_keep k0 L (boxLt k0)
  clear L C0 R0 R5 HZ
  by_cases hbig : (1048576 : Int) < (szSp d : Int)
  · have HZ := hide (szOut_no hbig)
    rw [HZ.out]
    go_wp2
    go_ret
    exact ⟨rfl, C1⟩
  have HZ := hide (szOut_ok (show (szSp d : Int) ≤ 1048576 by omega))
  rw [HZ.out]
  replace HT := hide (HT.out (by omega))
  obtain ⟨lf, hlf⟩ : ∃ lf : Int, Hid (lf = 1048576 - (szSp d : Int)) := ⟨_, rfl⟩
  rw [← hlf.out]
  have hnn : ¬ (lf < 0) := by rw [hlf.out]; omega
  clear HZ hbig hlf
  go_upto_region 5 with (fail)
  refine wp_region_lit ?_
  refine wpList_load_row rfl _ _ rfl (w.heap.size) rfl _ _ _ _ k0 Tryz.underlying44 rfl (infoAtU infoLawsS hsz) ?_
  go_wp2_with fail
  refine (HT.out _ C1).mono ?_
  rintro e W2 ⟨cS, scS, onecS, rfl, ⟨DS, oS, -, -⟩, L⟩
  have C2 := below_snoc C1 L
  replace k0 := box_keep k0 L (boxLt k0)
  clear L C1
  go_wp2_with fail
  refine (specWait _ DS _ d oS).mono ?_
  rintro e W3 ⟨rfl, L⟩
  have C3 := below_snoc C2 L
  replace k0 := box_keep k0 L (boxLt k0)
  clear L C2 oS
  obtain ⟨ok, hok⟩ : ∃ ok, Hid (ok = waitS d) := ⟨_, rfl⟩
  rw [← hok.out]
  have HI := hide (fun W D v h (L : Below w.heap.size w W) => implWait W D v d h (HT0.out.mono L))
  rw [← hok.out] at HI
  clear hok
  go_upto_region 6 with (fail)
  refine wp_region_lit ?_
  refine wpList_load_row rfl _ _ rfl (w.heap.size) rfl _ _ _ _ k0 Tryz.underlying44 rfl (infoAtU infoLawsS hsz) ?_
  go_wp2_with fail
  refine (HT.out _ C3).mono ?_
  rintro e W4 ⟨c0, sc0, onec0, rfl, ⟨D0, o0, -, -⟩, L⟩
  have C4 := below_snoc C3 L
  replace k0 := box_keep k0 L (boxLt k0)
  clear L C3
  have x0 := box_new W4 c0 61
  have LA : Below W4.heap.size W4 (W4.alloc (.cells c0 61)) := (Below.refl _ _).alloc (Nat.le_refl _) _
  replace C4 := below_snoc C4 LA
  replace k0 := box_keep k0 LA (boxLt k0)
  replace o0 := o0.below LA
  clear LA
  have hst := run_storeCells_new (P := Tryz.prog) W4 61 #[.slice none 0 0, .slice none 0 0, .slice none 0 0, .int .i64 0, .int .i64 0, .int .i64 0, .int .i64 0, .int .i64 0, .bool false, .bool false, .bool false, .bool false, .bool false, .int .i64 0, .int .i64 0, .bool false, .int .i64 0, .bool false, .int .i64 0, .int .i64 0, .slice none 0 0, .int .i64 0, .int .i64 0, .int .i64 0, .int .i64 0, .int .i64 0, .bool false, .slice none 0 0, .slice none 0 0, .int .i64 0, .slice none 0 0, .slice none 0 0, .int .i64 0, .int .i64 0, .int .i64 0, .int .i64 0, .int .i64 0, .bool false, .bool false, .int .i64 0, .slice none 0 0, .slice none 0 0] c0 (infoAtU infoSplit sc0) (by rw [sc0]; rfl) onec0
  go_upto_region 7 with (fail)
  clear hst
  obtain ⟨z, hz⟩ : ∃ z, Hid (z = W4.heap.size) := ⟨_, rfl⟩
  rw [← hz.out] at x0 ⊢
  clear hz
  generalize W4.alloc (.cells c0 61) = W5 at *
  refine wp_region_lit ?_
  refine wpList_load_row rfl _ _ rfl z rfl _ _ _ _ x0 Tryz.underlying61 rfl (infoAtU infoSplit sc0) ?_
  go_wp2_with fail
  refine (HI.out _ D0 _ o0 C4).mono ?_
  rintro e W6 ⟨rfl, L⟩
  have C6 := below_snoc C4 L
  replace k0 := box_keep k0 L (boxLt k0)
  replace x0 := box_keep x0 L (boxLt x0)
  replace o0 := o0.below L
  clear L C4 HI
  have hoo : (ok != ok) = false := by simp
  go_upto_region 10 with (fail)
  rename_i K2 hK2 K3 hK3
  refine wp_region_eff [some 22, some 23, some 24, some 25, some 26] (by kernel_rfl) (by kernel_rfl) (by kernel_rfl) (by kernel_rfl) (by simp [slotsOf])
    (fun _ _ _ => False)
    (fun i v W => match i with
      | 0 => v = .agg c0
      | 1 => v = .agg cs
      | 2 => ∃ cX DX, v = .agg cX ∧ SplitOn W DX (.agg cX) d
      | 3 => v = .bool true
      | _ => v = .bool false) ?_ ?_ ?_
  · intro i j o v W W' hij _ _ hW h
    match i, h with
    | 0, h => exact h
    | 1, h => exact h
    | 2, ⟨cX, DX, h1, h2⟩ => exact ⟨cX, DX, h1, h2.keep hW (fun _ _ _ _ _ x => x)⟩
    | 3, h => exact h
    | _ + 4, h => exact h
  · intro i o a' W K ho F L hw hK
    have t1 := F.get (t := 1) (v := .pointer (some ⟨w.heap.size, 0, none⟩)) (by decide) rfl
    have t5 := F.get (t := 5) (v := .pointer (some ⟨z, 0, none⟩)) (by decide) rfl
    have LB : Below W6.heap.size W6 W := L.below (Nat.le_refl _) (fun b o _ ⟨j, _, _, _, _, h⟩ => h)
    match i with
    | 0 =>
        simp only [List.getElem?_toArray, List.getElem?_cons_zero, List.getElem?_cons_succ, Option.some.injEq] at ho
        subst ho
        refine wp_load_row _ _ rfl z (by simpa [Act.eval] using t5) _ _ _ _ (box_keep x0 LB (boxLt x0)) Tryz.underlying61 rfl (infoAtU infoSplit sc0) ?_
        exact hK _ _ (Wrote.refl _ _) rfl
    | 1 =>
        simp only [List.getElem?_toArray, List.getElem?_cons_zero, List.getElem?_cons_succ, Option.some.injEq] at ho
        subst ho
        refine wp_load_row _ _ rfl w.heap.size (by simpa [Act.eval] using t1) _ _ _ _ (box_keep k0 LB (boxLt k0)) Tryz.underlying44 rfl (infoAtU infoLawsS hsz) ?_
        exact hK _ _ (Wrote.refl _ _) rfl
    | 2 =>
        simp only [List.getElem?_toArray, List.getElem?_cons_zero, List.getElem?_cons_succ, Option.some.injEq] at ho
        subst ho
        have q1 : a'.tmps[23]?.getD undef = .agg cs := hw 1 (by kernel_rfl)
        go_simp
        refine (HT.out W (below_snoc C6 LB)).mono ?_
        rintro e W' ⟨cX, -, -, rfl, ⟨DX, oX, -, -⟩, LX⟩
        exact hK _ _ (wrote_below LX _) ⟨cX, DX, rfl, oX⟩
    | 3 =>
        simp only [List.getElem?_toArray, List.getElem?_cons_zero, List.getElem?_cons_succ, Option.some.injEq] at ho
        subst ho
        have q0 : a'.tmps[22]?.getD undef = .agg c0 := hw 0 (by kernel_rfl)
        obtain ⟨cX, DX, q2, oX⟩ : ∃ cX DX, a'.tmps[24]?.getD undef = .agg cX ∧ SplitOn W DX (.agg cX) d := hw 2 (by kernel_rfl)
        go_simp
        refine (onEqSplit W _ _ _ _ d (o0.below LB) oX).mono ?_
        rintro e W' ⟨rfl, LX⟩
        exact hK _ _ (wrote_below LX _) rfl
    | 4 =>
        simp only [List.getElem?_toArray, List.getElem?_cons_zero, List.getElem?_cons_succ, Option.some.injEq] at ho
        subst ho
        have q3 : a'.tmps[25]?.getD undef = .bool true := hw 3 (by kernel_rfl)
        go_simp
        exact hK _ _ (Wrote.refl _ _) rfl
    | _ + 5 => simp at ho
  · intro a' W F L hφ
    have LB : Below W6.heap.size W6 W := L.below (Nat.le_refl _) (fun b o _ ⟨j, h⟩ => h)
    have v4 : a'.tmps[26]?.getD undef = .bool false := hφ 4 (by decide)
    rw [F.same, show slotsOf [some 22, some 23, some 24, some 25, some 26] = [22, 23, 24, 25, 26] from rfl]
    simp only [List.foldl_cons, List.foldl_nil]
    rw [v4]
    generalize a'.tmps[22]?.getD undef = s0
    generalize a'.tmps[23]?.getD undef = s1
    generalize a'.tmps[24]?.getD undef = s2
    generalize a'.tmps[25]?.getD undef = s3
    clear hφ L F v4
    refine hK3 _ _ ?_
    go_simp
    go_wp2
    go_ret
    exact ⟨rfl, below_snoc C6 LB⟩
end Go.Proofs.YtjcaligejlhjdaaGreatDoor
