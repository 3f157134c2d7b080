/-
  FnExactLockOk.
-/
import Derived.Test.YtpaedkefmebjjarLA
import Derived.Test.YtpaedkefmebjjarKS
import Derived.Test.YtpaedkefmebjjarKIa
import Derived.Test.YtpaedkefmebjjarG0
import Derived.Deep.RegionHeld3
import Derived.Deep.DeepCutAuto
namespace Go.Proofs.Ytpaedkefmebjjar
set_option linter.unusedVariables false
set_option linter.unusedSimpArgs false
open Go.ChangeShapes Go.WideShapes Go.ChangeAt Go.RowKit
set_option maxRecDepth 40000 in
set_option maxHeartbeats 8000000 in
theorem lawLockOk (w : World) (d : LockD) (u0 : Value) (ra0 : Nat → Option Addr) (rc0 : Nat → Nat) (a1 : Option Addr) (c1 : Nat) (a2 : Option Addr) (c2 : Nat) (a3 : Option Addr) (c3 : Nat) (a4 : Option Addr) (c4 : Nat) (u5 : Value) (ra5 : Nat → Option Addr) (rc5 : Nat → Nat) (a6 : Option Addr) (c6 : Nat) (a7 : Option Addr) (c7 : Nat) (H : RawA w d u0 ra0 rc0 a1 c1 a2 c2 a3 c3 a4 c4 u5 ra5 rc5 a6 c6 a7 c7) :
    Calls Try.prog 3 #[.agg #[u0, .slice a1 d.np c1, .slice a2 d.nr c2, .int .i64 d.bank, .int .i64 d.A, .int .i64 d.X, .int .i64 d.S, .int .i64 d.Pc, .bool d.Z, .bool d.N, .bool d.C, .bool d.I, .int .i64 d.t, .int .i64 d.c, .int .i64 d.s, .int .i64 d.ad, .int .i64 d.pl, .bool d.bl, .slice a3 d.nt c3, .slice a4 d.nd c4, .int .i64 d.T, .int .i64 d.P, .int .i64 d.K, .int .i64 d.B, .int .i64 d.L, .bool d.Q, .bool d.R, .bool d.hd, .int .i64 d.sh, .bool d.nmi, .int .i64 d.st, u5, .slice a6 d.ns c6, .slice a7 d.nq c7]] w fun e w' => e = .returned (.bool true) ∧ Below w.heap.size w w' := by
  obtain ⟨cs, hcs⟩ : ∃ cs : Array Value, Hid (cs = #[u0, .slice a1 d.np c1, .slice a2 d.nr c2, .int .i64 d.bank, .int .i64 d.A, .int .i64 d.X, .int .i64 d.S, .int .i64 d.Pc, .bool d.Z, .bool d.N, .bool d.C, .bool d.I, .int .i64 d.t, .int .i64 d.c, .int .i64 d.s, .int .i64 d.ad, .int .i64 d.pl, .bool d.bl, .slice a3 d.nt c3, .slice a4 d.nd c4, .int .i64 d.T, .int .i64 d.P, .int .i64 d.K, .int .i64 d.B, .int .i64 d.L, .bool d.Q, .bool d.R, .bool d.hd, .int .i64 d.sh, .bool d.nmi, .int .i64 d.st, u5, .slice a6 d.ns c6, .slice a7 d.nq c7]) := ⟨_, rfl⟩
  have hsz : cs.size = 34 := by rw [hcs.out]; rfl
  have HZ : Hid (∀ W, RawSS W u0 d.m ra0 d.ln rc0 d.f → RawSS W u5 d.mf ra5 d.lf rc5 d.fr → Calls Try.prog 5 #[.agg cs, .int .i64 1048576] W fun e w' => e = .returned (.int .i64 (szOut 1048576 (szD d))) ∧ Below W.heap.size W w') := fun W h0 h5 => by
    rw [hcs.out]
    exact szLock W d u0 ra0 rc0 a1 c1 a2 c2 a3 c3 a4 c4 u5 ra5 rc5 a6 c6 a7 c7 1048576 h0 h5 H.n1 H.n2 H.n3 H.n4 H.n6 H.n7 (by omega) (by omega)
  have HT : Hid (szD d ≤ 1048576 → ∀ W, Below w.heap.size w W → Calls Try.prog 7 #[.agg cs] W fun e w' => ∃ cs', cs'.size = 34 ∧ cs'.all (·.oneCell') = true ∧ e = .returned (.agg cs') ∧ (∃ D, LockOn w' D (.agg cs') d ∧ Dis D ∧ ∀ i b, D i b → W.heap.size ≤ b ∧ b < w'.heap.size) ∧ Below W.heap.size W w') := fun hs W L => by
    rw [hcs.out]
    refine (onToLock W u0 (.slice a1 d.np c1) (.slice a2 d.nr c2) (.slice a3 d.nt c3) (.slice a4 d.nd c4) u5 (.slice a6 d.ns c6) (.slice a7 d.nq c7) d (H.raw hs L) (szD_parts hs).1 (szD_parts hs).2).mono ?_
    rintro e w' ⟨v, rfl, ⟨D, o, h1, h2⟩, L'⟩
    obtain ⟨cs', rfl, hs', ho'⟩ := o.agg
    exact ⟨cs', hs', ho', rfl, ⟨D, o, h1, h2⟩, L'⟩
  rw [← hcs.out]
  clear hcs
  have C0 : Below w.heap.size w (w.alloc (.cells cs 39)) := (Below.refl _ _).alloc (Nat.le_refl _) _
  have k0 := box_new w cs 39
  have R0 := hide (H.r0.below C0)
  have R5 := hide (H.r5.below C0)
  clear H
  go_enter Try.func3, Try.ntmps3
  go_upto_region 2 with (fail)
  generalize w.alloc (.cells cs 39) = W0 at *
  refine wp_region_lit ?_
  refine wpList_load_row rfl _ _ rfl (w.heap.size) rfl _ _ _ _ k0 Try.underlying39 rfl (infoAt infoLaws hsz) ?_
  go_wp2_with fail
  refine (HZ.out _ R0.out R5.out).mono ?_
  rintro e W1 ⟨rfl, L⟩
  have C1 := below_snoc C0 L
  replace k0 := box_keep k0 L (boxLt k0)
  clear L C0 R0 R5 HZ
  by_cases hbig : (1048576 : Int) < (szD d : Int)
  · have HZ := hide (szOut_no hbig)
    rw [HZ.out]
    go_wp2
    go_ret
    exact ⟨rfl, C1⟩
  have HZ := hide (szOut_ok (show (szD d : Int) ≤ 1048576 by omega))
  rw [HZ.out]
  replace HT := hide (HT.out (by omega))
  obtain ⟨lf, hlf⟩ : ∃ lf : Int, Hid (lf = 1048576 - (szD d : Int)) := ⟨_, rfl⟩
  rw [← hlf.out]
  have hnn : ¬ (lf < 0) := by rw [hlf.out]; omega
  clear HZ hbig hlf
  go_upto_region 5 with (fail)
  refine wp_region_lit ?_
  refine wpList_load_row rfl _ _ rfl (w.heap.size) rfl _ _ _ _ k0 Try.underlying39 rfl (infoAt infoLaws hsz) ?_
  go_wp2_with fail
  refine (HT.out _ C1).mono ?_
  rintro e W2 ⟨cS, scS, onecS, rfl, ⟨DS, oS, -, -⟩, L⟩
  have C2 := below_snoc C1 L
  replace k0 := box_keep k0 L (boxLt k0)
  clear L C1
  go_wp2_with fail
  refine (specLockOk _ DS _ d oS).mono ?_
  rintro e W3 ⟨rfl, L⟩
  have C3 := below_snoc C2 L
  replace k0 := box_keep k0 L (boxLt k0)
  clear L C2 oS
  obtain ⟨ok, hok⟩ : ∃ ok, Hid (ok = okLock d) := ⟨_, rfl⟩
  rw [← hok.out]
  have HI := hide (fun W D v h => implLockOk W D v d h)
  rw [← hok.out] at HI
  clear hok
  go_upto_region 6 with (fail)
  refine wp_region_lit ?_
  refine wpList_load_row rfl _ _ rfl (w.heap.size) rfl _ _ _ _ k0 Try.underlying39 rfl (infoAt infoLaws hsz) ?_
  go_wp2_with fail
  refine (HT.out _ C3).mono ?_
  rintro e W4 ⟨c0, sc0, onec0, rfl, ⟨D0, o0, -, -⟩, L⟩
  have C4 := below_snoc C3 L
  replace k0 := box_keep k0 L (boxLt k0)
  clear L C3
  have x0 := box_new W4 c0 50
  have LA : Below W4.heap.size W4 (W4.alloc (.cells c0 50)) := (Below.refl _ _).alloc (Nat.le_refl _) _
  replace C4 := below_snoc C4 LA
  replace k0 := box_keep k0 LA (boxLt k0)
  replace o0 := o0.below LA
  clear LA
  have hst := run_storeCells_new (P := Try.prog) W4 50 #[.slice none 0 0, .slice none 0 0, .slice none 0 0, .int .i64 0, .int .i64 0, .int .i64 0, .int .i64 0, .int .i64 0, .bool false, .bool false, .bool false, .bool false, .int .i64 0, .int .i64 0, .int .i64 0, .int .i64 0, .int .i64 0, .bool false, .slice none 0 0, .slice none 0 0, .int .i64 0, .int .i64 0, .int .i64 0, .int .i64 0, .int .i64 0, .bool false, .bool false, .bool false, .int .i64 0, .bool false, .int .i64 0, .slice none 0 0, .slice none 0 0, .slice none 0 0] c0 (infoAt infoLock sc0) (by rw [sc0]; rfl) onec0
  go_upto_region 7 with (fail)
  clear hst
  obtain ⟨z, hz⟩ : ∃ z, Hid (z = W4.heap.size) := ⟨_, rfl⟩
  rw [← hz.out] at x0 ⊢
  clear hz
  generalize W4.alloc (.cells c0 50) = W5 at *
  refine wp_region_lit ?_
  refine wpList_load_row rfl _ _ rfl z rfl _ _ _ _ x0 Try.underlying50 rfl (infoAt infoLock sc0) ?_
  go_wp2_with fail
  refine (HI.out _ D0 _ o0).mono ?_
  rintro e W6 ⟨rfl, L⟩
  have C6 := below_snoc C4 L
  replace k0 := box_keep k0 L (boxLt k0)
  replace x0 := box_keep x0 L (boxLt x0)
  replace o0 := o0.below L
  clear L C4 HI
  have hoo : (ok != ok) = false := by simp
  go_upto_region 10 with (fail)
  rename_i K2 hK2 K3 hK3
  refine wp_region_eff [some 22, some 23, some 24, some 25, some 26] (by kernel_rfl) (by kernel_rfl) (by kernel_rfl) (by kernel_rfl) (by simp [slotsOf])
    (fun _ _ _ => False)
    (fun i v W => match i with
      | 0 => v = .agg c0
      | 1 => v = .agg cs
      | 2 => ∃ cX DX, v = .agg cX ∧ LockOn W DX (.agg cX) d
      | 3 => v = .bool true
      | _ => v = .bool false) ?_ ?_ ?_
  · intro i j o v W W' hij _ _ hW h
    match i, h with
    | 0, h => exact h
    | 1, h => exact h
    | 2, ⟨cX, DX, h1, h2⟩ => exact ⟨cX, DX, h1, h2.keep hW (fun _ _ _ _ _ x => x)⟩
    | 3, h => exact h
    | _ + 4, h => exact h
  · intro i o a' W K ho F L hw hK
    have t1 := F.get (t := 1) (v := .pointer (some ⟨w.heap.size, 0, none⟩)) (by decide) rfl
    have t5 := F.get (t := 5) (v := .pointer (some ⟨z, 0, none⟩)) (by decide) rfl
    have LB : Below W6.heap.size W6 W := L.below (Nat.le_refl _) (fun b o _ ⟨j, _, _, _, _, h⟩ => h)
    match i with
    | 0 =>
        simp only [List.getElem?_toArray, List.getElem?_cons_zero, List.getElem?_cons_succ, Option.some.injEq] at ho
        subst ho
        refine wp_load_row _ _ rfl z (by simpa [Act.eval] using t5) _ _ _ _ (box_keep x0 LB (boxLt x0)) Try.underlying50 rfl (infoAt infoLock sc0) ?_
        exact hK _ _ (Wrote.refl _ _) rfl
    | 1 =>
        simp only [List.getElem?_toArray, List.getElem?_cons_zero, List.getElem?_cons_succ, Option.some.injEq] at ho
        subst ho
        refine wp_load_row _ _ rfl w.heap.size (by simpa [Act.eval] using t1) _ _ _ _ (box_keep k0 LB (boxLt k0)) Try.underlying39 rfl (infoAt infoLaws hsz) ?_
        exact hK _ _ (Wrote.refl _ _) rfl
    | 2 =>
        simp only [List.getElem?_toArray, List.getElem?_cons_zero, List.getElem?_cons_succ, Option.some.injEq] at ho
        subst ho
        have q1 : a'.tmps[23]?.getD undef = .agg cs := hw 1 (by kernel_rfl)
        go_simp
        refine (HT.out W (below_snoc C6 LB)).mono ?_
        rintro e W' ⟨cX, -, -, rfl, ⟨DX, oX, -, -⟩, LX⟩
        exact hK _ _ (wrote_below LX _) ⟨cX, DX, rfl, oX⟩
    | 3 =>
        simp only [List.getElem?_toArray, List.getElem?_cons_zero, List.getElem?_cons_succ, Option.some.injEq] at ho
        subst ho
        have q0 : a'.tmps[22]?.getD undef = .agg c0 := hw 0 (by kernel_rfl)
        obtain ⟨cX, DX, q2, oX⟩ : ∃ cX DX, a'.tmps[24]?.getD undef = .agg cX ∧ LockOn W DX (.agg cX) d := hw 2 (by kernel_rfl)
        go_simp
        refine (onEqLock W _ _ _ _ d (o0.below LB) oX).mono ?_
        rintro e W' ⟨rfl, LX⟩
        exact hK _ _ (wrote_below LX _) rfl
    | 4 =>
        simp only [List.getElem?_toArray, List.getElem?_cons_zero, List.getElem?_cons_succ, Option.some.injEq] at ho
        subst ho
        have q3 : a'.tmps[25]?.getD undef = .bool true := hw 3 (by kernel_rfl)
        go_simp
        exact hK _ _ (Wrote.refl _ _) rfl
    | _ + 5 => simp at ho
  · intro a' W F L hφ
    have LB : Below W6.heap.size W6 W := L.below (Nat.le_refl _) (fun b o _ ⟨j, h⟩ => h)
    have v4 : a'.tmps[26]?.getD undef = .bool false := hφ 4 (by decide)
    rw [F.same, show slotsOf [some 22, some 23, some 24, some 25, some 26] = [22, 23, 24, 25, 26] from rfl]
    simp only [List.foldl_cons, List.foldl_nil]
    rw [v4]
    generalize a'.tmps[22]?.getD undef = s0
    generalize a'.tmps[23]?.getD undef = s1
    generalize a'.tmps[24]?.getD undef = s2
    generalize a'.tmps[25]?.getD undef = s3
    clear hφ L F v4
    refine hK3 _ _ ?_
    go_simp
    go_wp2
    go_ret
    exact ⟨rfl, below_snoc C6 LB⟩
end Go.Proofs.Ytpaedkefmebjjar
