/-
  FnExactLockSame.
-/
import Derived.Test.YtmccplbfggcogaaND
import Derived.Test.YtmccplbfggcogaaKW
import Derived.Test.YtmccplbfggcogaaG0
import Derived.Deep.RegionHeld3
import Derived.Deep.DeepCutAuto
import Derived.Deep.WholeRow
namespace Go.Proofs.Ytmccplbfggcogaa
set_option linter.unusedVariables false
set_option linter.unusedSimpArgs false
open Go.ChangeShapes Go.WideShapes Go.ChangeAt Go.RowKit
set_option maxRecDepth 40000 in
set_option maxHeartbeats 4000000 in
theorem lawLockSame2 (w : World) (cs0 cs1 : Array Value) (hs0 : cs0.size = 34) (hs1 : cs1.size = 34) (s0 s1 : Nat) (x : Bool) (P0 P1 : World → Value → Prop)
    (hb0 : Hid (∀ W W' v, Below W.heap.size W W' → P0 W v → P0 W' v)) (hb1 : Hid (∀ W W' v, Below W.heap.size W W' → P1 W v → P1 W' v))
    (HZ0 : Hid (∀ W, Below w.heap.size w W → Calls Try.prog 22 #[.agg cs0, .int .i64 1048576] W fun e w' => e = .returned (.int .i64 (szOut 1048576 s0)) ∧ Below W.heap.size W w'))
    (HZ1 : Hid (∀ W (left : Int), 0 ≤ left → left ≤ 1048576 → Below w.heap.size w W → Calls Try.prog 22 #[.agg cs1, .int .i64 left] W fun e w' => e = .returned (.int .i64 (szOut left s1)) ∧ Below W.heap.size W w'))
    (HT0 : Hid (s0 ≤ 1048576 → ∀ W, Below w.heap.size w W → Calls Try.prog 24 #[.agg cs0] W fun e w' => ∃ cs' : Array Value, cs'.size = 34 ∧ cs'.all (·.oneCell') = true ∧ e = .returned (.agg cs') ∧ P0 w' (.agg cs') ∧ Below W.heap.size W w'))
    (HT1 : Hid (s1 ≤ 1048576 → ∀ W, Below w.heap.size w W → Calls Try.prog 24 #[.agg cs1] W fun e w' => ∃ cs' : Array Value, cs'.size = 34 ∧ cs'.all (·.oneCell') = true ∧ e = .returned (.agg cs') ∧ P1 w' (.agg cs') ∧ Below W.heap.size W w'))
    (HS : Hid (∀ W v u, P0 W v → P1 W u → Calls Try.prog 23 #[v, u] W fun e w' => e = .returned (.bool x) ∧ Below W.heap.size W w'))
    (HI : Hid (∀ W v u, P0 W v → P1 W u → Calls Try.prog 25 #[v, u] W fun e w' => e = .returned (.bool x) ∧ Below W.heap.size W w'))
    (HE0 : Hid (∀ W v u, P0 W v → P0 W u → Calls Try.prog 26 #[v, u] W fun e w' => e = .returned (.bool true) ∧ Below W.heap.size W w'))
    (HE1 : Hid (∀ W v u, P1 W v → P1 W u → Calls Try.prog 26 #[v, u] W fun e w' => e = .returned (.bool true) ∧ Below W.heap.size W w')) :
    Calls Try.prog 6 #[.agg cs0, .agg cs1] w fun e w' => e = .returned (.bool true) ∧ Below w.heap.size w w' := by
  have iL : (Try.prog.info? 75).map (·.size) = some 34 := by kernel_rfl
  have iI : (Try.prog.info? 79).map (·.size) = some 34 := by kernel_rfl
  have i0 := hide (iL.trans (congrArg some hs0.symm))
  have i1 := hide (iL.trans (congrArg some hs1.symm))
  clear iL
  replace iI := hide iI
  clear hs0 hs1
  have C0 : Below w.heap.size w ((w.alloc (.cells cs0 75)).alloc (.cells cs1 75)) := ((Below.refl _ _).alloc (Nat.le_refl _) _).alloc (by simp) _
  have k0 : ((w.alloc (.cells cs0 75)).alloc (.cells cs1 75)).heap[w.heap.size]? = some (.cells cs0 75 (0, 0)) := boxA (box_new w cs0 75) _
  have k1 : ((w.alloc (.cells cs0 75)).alloc (.cells cs1 75)).heap[w.heap.size + 1]? = some (.cells cs1 75 (0, 0)) := by simpa using box_new (w.alloc (.cells cs0 75)) cs1 75
  go_enter Try.func6, Try.ntmps6
  go_upto_region 2 with (fail)
  generalize (w.alloc (.cells cs0 75)).alloc (.cells cs1 75) = W0 at *
  refine wp_region_lit ?_
  refine wpList_load_row rfl _ _ rfl (w.heap.size) rfl _ _ _ _ k0 Try.underlying75 rfl i0.out ?_
  go_wp2_with fail
  refine (HZ0.out _ C0).mono ?_
  rintro e W1 ⟨rfl, L⟩
  have C1 := below_snoc C0 L
  replace k0 := box_keep k0 L (boxLt k0)
  replace k1 := box_keep k1 L (boxLt k1)
  clear L C0 HZ0
  by_cases hbig : (1048576 : Int) < (s0 : Int)
  · have HZ := hide (szOut_no hbig)
    rw [HZ.out]
    go_wp2
    go_ret
    exact ⟨rfl, C1⟩
  have HZ := hide (szOut_ok (show (s0 : Int) ≤ 1048576 by omega))
  rw [HZ.out]
  replace HT0 := hide (HT0.out (by omega))
  obtain ⟨lf, hlf⟩ : ∃ lf : Int, Hid (lf = 1048576 - (s0 : Int)) := ⟨_, rfl⟩
  rw [← hlf.out]
  have hnn : ¬ (lf < 0) := by rw [hlf.out]; omega
  have hle := hide (show lf ≤ 1048576 by rw [hlf.out]; omega)
  clear HZ hbig hlf
  go_upto_region 5 with (fail)
  refine wp_region_lit ?_
  refine wpList_load_row rfl _ _ rfl (w.heap.size + 1) rfl _ _ _ _ k1 Try.underlying75 rfl i1.out ?_
  go_wp2_with fail
  refine (HZ1.out _ lf (by omega) hle.out C1).mono ?_
  rintro e W2 ⟨rfl, L⟩
  have C2 := below_snoc C1 L
  replace k0 := box_keep k0 L (boxLt k0)
  replace k1 := box_keep k1 L (boxLt k1)
  clear L C1 HZ1
  by_cases hbig : lf < (s1 : Int)
  · have HZ := hide (szOut_no hbig)
    rw [HZ.out]
    go_wp2
    go_ret
    exact ⟨rfl, C2⟩
  have HZ := hide (szOut_ok (show (s1 : Int) ≤ lf by omega))
  rw [HZ.out]
  replace HT1 := hide (HT1.out (by have := hle.out; omega))
  obtain ⟨lg, hlg⟩ : ∃ lg : Int, Hid (lg = lf - (s1 : Int)) := ⟨_, rfl⟩
  rw [← hlg.out]
  have hnn2 : ¬ (lg < 0) := by rw [hlg.out]; omega
  clear HZ hbig hlg hle
  go_upto_region 8 with (fail)
  rename_i Ka hKa Kb hKb
  refine wp_region_eff [some 20, some 21, some 22, some 23, some 24, some 6] (by kernel_rfl) (by kernel_rfl) (by kernel_rfl) (by kernel_rfl) (by simp [slotsOf])
    (fun _ _ _ => False)
    (fun i v W => match i with
      | 0 => v = .agg cs0
      | 1 => P0 W v
      | 2 => v = .agg cs1
      | 3 => P1 W v
      | 4 => v = .bool x
      | _ => v = .bool x) ?_ ?_ ?_
  · intro i j o v W W' hij _ _ hW h
    match i, h with
    | 0, h => exact h
    | 1, h => exact hb0.out _ _ _ (hW.below (Nat.le_refl _) (fun _ _ _ x => x)) h
    | 2, h => exact h
    | 3, h => exact hb1.out _ _ _ (hW.below (Nat.le_refl _) (fun _ _ _ x => x)) h
    | 4, h => exact h
    | _ + 5, h => exact h
  · intro i o a' W K ho F L hw hK
    have t2 := F.get (t := 2) (v := .pointer (some ⟨w.heap.size, 0, none⟩)) (by decide) rfl
    have t3 := F.get (t := 3) (v := .pointer (some ⟨w.heap.size + 1, 0, none⟩)) (by decide) rfl
    have LB : Below W2.heap.size W2 W := L.below (Nat.le_refl _) (fun b o _ ⟨j, _, _, _, _, h⟩ => h)
    match i with
    | 0 =>
        simp only [List.getElem?_toArray, List.getElem?_cons_zero, List.getElem?_cons_succ, Option.some.injEq] at ho
        subst ho
        refine wp_load_row _ _ rfl w.heap.size (by simpa [Act.eval] using t2) _ _ _ _ (box_keep k0 LB (boxLt k0)) Try.underlying75 rfl i0.out ?_
        exact hK _ _ (Wrote.refl _ _) rfl
    | 1 =>
        simp only [List.getElem?_toArray, List.getElem?_cons_zero, List.getElem?_cons_succ, Option.some.injEq] at ho
        subst ho
        have q0 : a'.tmps[20]?.getD undef = .agg cs0 := hw 0 (by kernel_rfl)
        go_simp
        refine (HT0.out W (below_snoc C2 LB)).mono ?_
        rintro e W' ⟨cX, -, -, rfl, oX, LX⟩
        exact hK _ _ (wrote_below LX _) oX
    | 2 =>
        simp only [List.getElem?_toArray, List.getElem?_cons_zero, List.getElem?_cons_succ, Option.some.injEq] at ho
        subst ho
        refine wp_load_row _ _ rfl (w.heap.size + 1) (by simpa [Act.eval] using t3) _ _ _ _ (box_keep k1 LB (boxLt k1)) Try.underlying75 rfl i1.out ?_
        exact hK _ _ (Wrote.refl _ _) rfl
    | 3 =>
        simp only [List.getElem?_toArray, List.getElem?_cons_zero, List.getElem?_cons_succ, Option.some.injEq] at ho
        subst ho
        have q2 : a'.tmps[22]?.getD undef = .agg cs1 := hw 2 (by kernel_rfl)
        go_simp
        refine (HT1.out W (below_snoc C2 LB)).mono ?_
        rintro e W' ⟨cX, -, -, rfl, oX, LX⟩
        exact hK _ _ (wrote_below LX _) oX
    | 4 =>
        simp only [List.getElem?_toArray, List.getElem?_cons_zero, List.getElem?_cons_succ, Option.some.injEq] at ho
        subst ho
        have q1 : P0 W (a'.tmps[21]?.getD undef) := hw 1 (by kernel_rfl)
        have q3 : P1 W (a'.tmps[23]?.getD undef) := hw 3 (by kernel_rfl)
        go_simp
        refine (HS.out W _ _ q1 q3).mono ?_
        rintro e W' ⟨rfl, LX⟩
        exact hK _ _ (wrote_below LX _) rfl
    | 5 =>
        simp only [List.getElem?_toArray, List.getElem?_cons_zero, List.getElem?_cons_succ, Option.some.injEq] at ho
        subst ho
        have q4 : a'.tmps[24]?.getD undef = .bool x := hw 4 (by kernel_rfl)
        go_simp
        exact hK _ _ (Wrote.refl _ _) rfl
    | _ + 6 => simp at ho
  · intro a' W3 F L hφ
    have LB : Below W2.heap.size W2 W3 := L.below (Nat.le_refl _) (fun b o _ ⟨j, h⟩ => h)
    have v5 : a'.tmps[6]?.getD undef = .bool x := hφ 5 (by decide)
    rw [F.same, show slotsOf [some 20, some 21, some 22, some 23, some 24, some 6] = [20, 21, 22, 23, 24, 6] from rfl]
    simp only [List.foldl_cons, List.foldl_nil]
    rw [v5]
    generalize a'.tmps[20]?.getD undef = e0
    generalize a'.tmps[21]?.getD undef = e1
    generalize a'.tmps[22]?.getD undef = e2
    generalize a'.tmps[23]?.getD undef = e3
    generalize a'.tmps[24]?.getD undef = e4
    have C3 := below_snoc C2 LB
    replace k0 := box_keep k0 LB (boxLt k0)
    replace k1 := box_keep k1 LB (boxLt k1)
    clear hφ L F v5 LB C2 HS
    refine hKb _ _ ?_
    go_simp
    go_upto_region 9 with (fail)
    refine wp_region_lit ?_
    refine wpList_load_row rfl _ _ rfl (w.heap.size) rfl _ _ _ _ k0 Try.underlying75 rfl i0.out ?_
    go_wp2_with fail
    refine (HT0.out _ C3).mono ?_
    rintro e W4 ⟨c0, sc0, onec0, rfl, o0, L⟩
    have C4 := below_snoc C3 L
    replace k0 := box_keep k0 L (boxLt k0)
    replace k1 := box_keep k1 L (boxLt k1)
    clear L C3
    have x0 := box_new W4 c0 79
    have LA : Below W4.heap.size W4 (W4.alloc (.cells c0 79)) := (Below.refl _ _).alloc (Nat.le_refl _) _
    replace C4 := below_snoc C4 LA
    replace k0 := box_keep k0 LA (boxLt k0)
    replace k1 := box_keep k1 LA (boxLt k1)
    replace o0 := hb0.out _ _ _ LA o0
    clear LA
    have j0 := hide (iI.out.trans (congrArg some sc0.symm))
    have hst := run_storeCells_new (P := Try.prog) W4 79 #[.slice none 0 0, .slice none 0 0, .slice none 0 0, .int .i64 0, .int .i64 0, .int .i64 0, .int .i64 0, .int .i64 0, .bool false, .bool false, .bool false, .bool false, .int .i64 0, .int .i64 0, .int .i64 0, .int .i64 0, .int .i64 0, .bool false, .slice none 0 0, .slice none 0 0, .int .i64 0, .int .i64 0, .int .i64 0, .int .i64 0, .int .i64 0, .bool false, .bool false, .bool false, .int .i64 0, .bool false, .int .i64 0, .slice none 0 0, .slice none 0 0, .slice none 0 0] c0 j0.out (by rw [sc0]; rfl) onec0
    go_upto_region 10 with (fail)
    clear hst sc0 onec0
    obtain ⟨z, hz⟩ : ∃ z, Hid (z = W4.heap.size) := ⟨_, rfl⟩
    rw [← hz.out] at x0 ⊢
    clear hz
    generalize W4.alloc (.cells c0 79) = W5 at *
    refine wp_region_lit ?_
    refine wpList_load_row rfl _ _ rfl (w.heap.size + 1) rfl _ _ _ _ k1 Try.underlying75 rfl i1.out ?_
    go_wp2_with fail
    refine (HT1.out _ C4).mono ?_
    rintro e W6 ⟨c1, sc1, onec1, rfl, o1, L⟩
    have C6 := below_snoc C4 L
    replace k0 := box_keep k0 L (boxLt k0)
    replace k1 := box_keep k1 L (boxLt k1)
    replace x0 := box_keep x0 L (boxLt x0)
    replace o0 := hb0.out _ _ _ L o0
    clear L C4
    have x1 := box_new W6 c1 79
    have LA : Below W6.heap.size W6 (W6.alloc (.cells c1 79)) := (Below.refl _ _).alloc (Nat.le_refl _) _
    replace C6 := below_snoc C6 LA
    replace k0 := box_keep k0 LA (boxLt k0)
    replace k1 := box_keep k1 LA (boxLt k1)
    replace x0 := box_keep x0 LA (boxLt x0)
    replace o0 := hb0.out _ _ _ LA o0
    replace o1 := hb1.out _ _ _ LA o1
    clear LA
    have j1 := hide (iI.out.trans (congrArg some sc1.symm))
    have hst := run_storeCells_new (P := Try.prog) W6 79 #[.slice none 0 0, .slice none 0 0, .slice none 0 0, .int .i64 0, .int .i64 0, .int .i64 0, .int .i64 0, .int .i64 0, .bool false, .bool false, .bool false, .bool false, .int .i64 0, .int .i64 0, .int .i64 0, .int .i64 0, .int .i64 0, .bool false, .slice none 0 0, .slice none 0 0, .int .i64 0, .int .i64 0, .int .i64 0, .int .i64 0, .int .i64 0, .bool false, .bool false, .bool false, .int .i64 0, .bool false, .int .i64 0, .slice none 0 0, .slice none 0 0, .slice none 0 0] c1 j1.out (by rw [sc1]; rfl) onec1
    go_upto_region 11 with (fail)
    clear hst sc1 onec1
    obtain ⟨y, hy⟩ : ∃ y, Hid (y = W6.heap.size) := ⟨_, rfl⟩
    rw [← hy.out] at x1 ⊢
    clear hy
    generalize W6.alloc (.cells c1 79) = W7 at *
    refine wp_region_lit ?_
    refine wpList_load_row rfl _ _ rfl z rfl _ _ _ _ x0 Try.underlying79 rfl j0.out ?_
    refine wpList_load_row rfl _ _ rfl y rfl _ _ _ _ x1 Try.underlying79 rfl j1.out ?_
    go_wp2_with fail
    refine (HI.out _ _ _ o0 o1).mono ?_
    rintro e W8 ⟨rfl, L⟩
    have C8 := below_snoc C6 L
    replace k0 := box_keep k0 L (boxLt k0)
    replace k1 := box_keep k1 L (boxLt k1)
    replace x0 := box_keep x0 L (boxLt x0)
    replace x1 := box_keep x1 L (boxLt x1)
    replace o0 := hb0.out _ _ _ L o0
    replace o1 := hb1.out _ _ _ L o1
    clear L C6 HI
    have hoo : (x != x) = false := by simp
    go_upto_region 14 with (fail)
    clear hoo
    rename_i Kc35 hKc35 Kd35 hKd35
    refine wp_region_eff [some 35, some 36, some 37, some 38, some 39] (by kernel_rfl) (by kernel_rfl) (by kernel_rfl) (by kernel_rfl) (by simp [slotsOf])
      (fun _ _ _ => False)
      (fun i v W => match i with
        | 0 => v = .agg c0
        | 1 => v = .agg cs0
        | 2 => P0 W v
        | 3 => v = .bool true
        | _ => v = .bool false) ?_ ?_ ?_
    · intro i j o v W W' hij _ _ hW h
      match i, h with
      | 0, h => exact h
      | 1, h => exact h
      | 2, h => exact hb0.out _ _ _ (hW.below (Nat.le_refl _) (fun _ _ _ x => x)) h
      | 3, h => exact h
      | _ + 4, h => exact h
    · intro i o a' W K ho F L hw hK
      have tk := F.get (t := 2) (v := .pointer (some ⟨w.heap.size, 0, none⟩)) (by decide) rfl
      have tz := F.get (t := 7) (v := .pointer (some ⟨z, 0, none⟩)) (by decide) rfl
      have LB : Below W8.heap.size W8 W := L.below (Nat.le_refl _) (fun b o _ ⟨j, _, _, _, _, h⟩ => h)
      match i with
      | 0 =>
        simp only [List.getElem?_toArray, List.getElem?_cons_zero, List.getElem?_cons_succ, Option.some.injEq] at ho
        subst ho
        refine wp_load_row _ _ rfl z (by simpa [Act.eval] using tz) _ _ _ _ (box_keep x0 LB (boxLt x0)) Try.underlying79 rfl j0.out ?_
        exact hK _ _ (Wrote.refl _ _) rfl
      | 1 =>
        simp only [List.getElem?_toArray, List.getElem?_cons_zero, List.getElem?_cons_succ, Option.some.injEq] at ho
        subst ho
        refine wp_load_row _ _ rfl (w.heap.size) (by simpa [Act.eval] using tk) _ _ _ _ (box_keep k0 LB (boxLt k0)) Try.underlying75 rfl i0.out ?_
        exact hK _ _ (Wrote.refl _ _) rfl
      | 2 =>
        simp only [List.getElem?_toArray, List.getElem?_cons_zero, List.getElem?_cons_succ, Option.some.injEq] at ho
        subst ho
        have q1 : a'.tmps[36]?.getD undef = .agg cs0 := hw 1 (by kernel_rfl)
        go_simp
        refine (HT0.out W (below_snoc C8 LB)).mono ?_
        rintro e W' ⟨cX, -, -, rfl, oX, LX⟩
        exact hK _ _ (wrote_below LX _) oX
      | 3 =>
        simp only [List.getElem?_toArray, List.getElem?_cons_zero, List.getElem?_cons_succ, Option.some.injEq] at ho
        subst ho
        have q0 : a'.tmps[35]?.getD undef = .agg c0 := hw 0 (by kernel_rfl)
        have q2 : P0 W (a'.tmps[37]?.getD undef) := hw 2 (by kernel_rfl)
        go_simp
        refine (HE0.out W _ _ (hb0.out _ _ _ LB o0) q2).mono ?_
        rintro e W' ⟨rfl, LX⟩
        exact hK _ _ (wrote_below LX _) rfl
      | 4 =>
        simp only [List.getElem?_toArray, List.getElem?_cons_zero, List.getElem?_cons_succ, Option.some.injEq] at ho
        subst ho
        have q3 : a'.tmps[38]?.getD undef = .bool true := hw 3 (by kernel_rfl)
        go_simp
        exact hK _ _ (Wrote.refl _ _) rfl
      | _ + 5 => simp at ho
    · intro a' W35 F L hφ
      have LB : Below W8.heap.size W8 W35 := L.below (Nat.le_refl _) (fun b o _ ⟨j, h⟩ => h)
      have v4 : a'.tmps[39]?.getD undef = .bool false := hφ 4 (by decide)
      rw [F.same, show slotsOf [some 35, some 36, some 37, some 38, some 39] = [35, 36, 37, 38, 39] from rfl]
      simp only [List.foldl_cons, List.foldl_nil]
      rw [v4]
      generalize a'.tmps[35]?.getD undef = f0
      generalize a'.tmps[36]?.getD undef = f1
      generalize a'.tmps[37]?.getD undef = f2
      generalize a'.tmps[38]?.getD undef = f3
      have C35 := below_snoc C8 LB
      replace k1 := box_keep k1 LB (boxLt k1)
      replace x1 := box_keep x1 LB (boxLt x1)
      replace o1 := hb1.out _ _ _ LB o1
      clear hφ L F v4 LB k0 x0 o0
      refine hKd35 _ _ ?_
      go_simp
      go_upto_region 16 with (fail)
      rename_i Kc40 hKc40 Kd40 hKd40
      refine wp_region_eff [some 40, some 41, some 42, some 43, some 44] (by kernel_rfl) (by kernel_rfl) (by kernel_rfl) (by kernel_rfl) (by simp [slotsOf])
        (fun _ _ _ => False)
        (fun i v W => match i with
          | 0 => v = .agg c1
          | 1 => v = .agg cs1
          | 2 => P1 W v
          | 3 => v = .bool true
          | _ => v = .bool false) ?_ ?_ ?_
      · intro i j o v W W' hij _ _ hW h
        match i, h with
        | 0, h => exact h
        | 1, h => exact h
        | 2, h => exact hb1.out _ _ _ (hW.below (Nat.le_refl _) (fun _ _ _ x => x)) h
        | 3, h => exact h
        | _ + 4, h => exact h
      · intro i o a' W K ho F L hw hK
        have tk := F.get (t := 3) (v := .pointer (some ⟨w.heap.size + 1, 0, none⟩)) (by decide) rfl
        have tz := F.get (t := 8) (v := .pointer (some ⟨y, 0, none⟩)) (by decide) rfl
        have LB : Below W35.heap.size W35 W := L.below (Nat.le_refl _) (fun b o _ ⟨j, _, _, _, _, h⟩ => h)
        match i with
        | 0 =>
          simp only [List.getElem?_toArray, List.getElem?_cons_zero, List.getElem?_cons_succ, Option.some.injEq] at ho
          subst ho
          refine wp_load_row _ _ rfl y (by simpa [Act.eval] using tz) _ _ _ _ (box_keep x1 LB (boxLt x1)) Try.underlying79 rfl j1.out ?_
          exact hK _ _ (Wrote.refl _ _) rfl
        | 1 =>
          simp only [List.getElem?_toArray, List.getElem?_cons_zero, List.getElem?_cons_succ, Option.some.injEq] at ho
          subst ho
          refine wp_load_row _ _ rfl (w.heap.size + 1) (by simpa [Act.eval] using tk) _ _ _ _ (box_keep k1 LB (boxLt k1)) Try.underlying75 rfl i1.out ?_
          exact hK _ _ (Wrote.refl _ _) rfl
        | 2 =>
          simp only [List.getElem?_toArray, List.getElem?_cons_zero, List.getElem?_cons_succ, Option.some.injEq] at ho
          subst ho
          have q1 : a'.tmps[41]?.getD undef = .agg cs1 := hw 1 (by kernel_rfl)
          go_simp
          refine (HT1.out W (below_snoc C35 LB)).mono ?_
          rintro e W' ⟨cX, -, -, rfl, oX, LX⟩
          exact hK _ _ (wrote_below LX _) oX
        | 3 =>
          simp only [List.getElem?_toArray, List.getElem?_cons_zero, List.getElem?_cons_succ, Option.some.injEq] at ho
          subst ho
          have q0 : a'.tmps[40]?.getD undef = .agg c1 := hw 0 (by kernel_rfl)
          have q2 : P1 W (a'.tmps[42]?.getD undef) := hw 2 (by kernel_rfl)
          go_simp
          refine (HE1.out W _ _ (hb1.out _ _ _ LB o1) q2).mono ?_
          rintro e W' ⟨rfl, LX⟩
          exact hK _ _ (wrote_below LX _) rfl
        | 4 =>
          simp only [List.getElem?_toArray, List.getElem?_cons_zero, List.getElem?_cons_succ, Option.some.injEq] at ho
          subst ho
          have q3 : a'.tmps[43]?.getD undef = .bool true := hw 3 (by kernel_rfl)
          go_simp
          exact hK _ _ (Wrote.refl _ _) rfl
        | _ + 5 => simp at ho
      · intro a' W40 F L hφ
        have LB : Below W35.heap.size W35 W40 := L.below (Nat.le_refl _) (fun b o _ ⟨j, h⟩ => h)
        have v4 : a'.tmps[44]?.getD undef = .bool false := hφ 4 (by decide)
        rw [F.same, show slotsOf [some 40, some 41, some 42, some 43, some 44] = [40, 41, 42, 43, 44] from rfl]
        simp only [List.foldl_cons, List.foldl_nil]
        rw [v4]
        generalize a'.tmps[40]?.getD undef = f0
        generalize a'.tmps[41]?.getD undef = f1
        generalize a'.tmps[42]?.getD undef = f2
        generalize a'.tmps[43]?.getD undef = f3
        have C40 := below_snoc C35 LB
        clear hφ L F v4
        refine hKd40 _ _ ?_
        go_simp
        go_wp2
        go_ret
        exact ⟨rfl, C40⟩
def LkP (d : LockD) (W : World) (v : Value) : Prop := ∃ D, LockOn W D v d
theorem rawSzLock {w W : World} {left : Int} (d0 : LockD) (u00 : Value) (ra00 : Nat → Option Addr) (rc00 : Nat → Nat) (a10 : Option Addr) (c10 : Nat) (a20 : Option Addr) (c20 : Nat) (a30 : Option Addr) (c30 : Nat) (a40 : Option Addr) (c40 : Nat) (u50 : Value) (ra50 : Nat → Option Addr) (rc50 : Nat → Nat) (a60 : Option Addr) (c60 : Nat) (a70 : Option Addr) (c70 : Nat) (H : RawA w d0 u00 ra00 rc00 a10 c10 a20 c20 a30 c30 a40 c40 u50 ra50 rc50 a60 c60 a70 c70) (h0 : 0 ≤ left) (h1 : left ≤ 1048576) (L : Below w.heap.size w W) :
    Calls Try.prog 22 #[.agg #[u00, .slice a10 d0.np c10, .slice a20 d0.nr c20, .int .i64 d0.bank, .int .i64 d0.A, .int .i64 d0.X, .int .i64 d0.S, .int .i64 d0.Pc, .bool d0.Z, .bool d0.N, .bool d0.C, .bool d0.I, .int .i64 d0.t, .int .i64 d0.c, .int .i64 d0.s, .int .i64 d0.ad, .int .i64 d0.pl, .bool d0.bl, .slice a30 d0.nt c30, .slice a40 d0.nd c40, .int .i64 d0.T, .int .i64 d0.P, .int .i64 d0.K, .int .i64 d0.B, .int .i64 d0.L, .bool d0.Q, .bool d0.R, .bool d0.hd, .int .i64 d0.sh, .bool d0.nmi, .int .i64 d0.st, u50, .slice a60 d0.ns c60, .slice a70 d0.nq c70], .int .i64 left] W fun e w' => e = .returned (.int .i64 (szOut left (szD d0))) ∧ Below W.heap.size W w' :=
  szLock W d0 u00 ra00 rc00 a10 c10 a20 c20 a30 c30 a40 c40 u50 ra50 rc50 a60 c60 a70 c70 left (H.r0.below L) (H.r5.below L) H.n1 H.n2 H.n3 H.n4 H.n6 H.n7 h0 h1
theorem rawToLock {w W : World} (d0 : LockD) (u00 : Value) (ra00 : Nat → Option Addr) (rc00 : Nat → Nat) (a10 : Option Addr) (c10 : Nat) (a20 : Option Addr) (c20 : Nat) (a30 : Option Addr) (c30 : Nat) (a40 : Option Addr) (c40 : Nat) (u50 : Value) (ra50 : Nat → Option Addr) (rc50 : Nat → Nat) (a60 : Option Addr) (c60 : Nat) (a70 : Option Addr) (c70 : Nat) (H : RawA w d0 u00 ra00 rc00 a10 c10 a20 c20 a30 c30 a40 c40 u50 ra50 rc50 a60 c60 a70 c70) (hs : szD d0 ≤ 1048576) (L : Below w.heap.size w W) :
    Calls Try.prog 24 #[.agg #[u00, .slice a10 d0.np c10, .slice a20 d0.nr c20, .int .i64 d0.bank, .int .i64 d0.A, .int .i64 d0.X, .int .i64 d0.S, .int .i64 d0.Pc, .bool d0.Z, .bool d0.N, .bool d0.C, .bool d0.I, .int .i64 d0.t, .int .i64 d0.c, .int .i64 d0.s, .int .i64 d0.ad, .int .i64 d0.pl, .bool d0.bl, .slice a30 d0.nt c30, .slice a40 d0.nd c40, .int .i64 d0.T, .int .i64 d0.P, .int .i64 d0.K, .int .i64 d0.B, .int .i64 d0.L, .bool d0.Q, .bool d0.R, .bool d0.hd, .int .i64 d0.sh, .bool d0.nmi, .int .i64 d0.st, u50, .slice a60 d0.ns c60, .slice a70 d0.nq c70]] W fun e w' => ∃ cs' : Array Value, cs'.size = 34 ∧ cs'.all (·.oneCell') = true ∧ e = .returned (.agg cs') ∧ LkP d0 w' (.agg cs') ∧ Below W.heap.size W w' := by
  refine (onToLock W u00 (.slice a10 d0.np c10) (.slice a20 d0.nr c20) (.slice a30 d0.nt c30) (.slice a40 d0.nd c40) u50 (.slice a60 d0.ns c60) (.slice a70 d0.nq c70) d0 (H.raw hs L) (szD_parts hs).1 (szD_parts hs).2).mono ?_
  rintro e w' ⟨v, rfl, ⟨D, o, h1, h2⟩, L'⟩
  obtain ⟨cs', rfl, hs', ho'⟩ := o.agg
  exact ⟨cs', hs', ho', rfl, ⟨D, o⟩, L'⟩
theorem lawLockSame (w : World) (d0 : LockD) (u00 : Value) (ra00 : Nat → Option Addr) (rc00 : Nat → Nat) (a10 : Option Addr) (c10 : Nat) (a20 : Option Addr) (c20 : Nat) (a30 : Option Addr) (c30 : Nat) (a40 : Option Addr) (c40 : Nat) (u50 : Value) (ra50 : Nat → Option Addr) (rc50 : Nat → Nat) (a60 : Option Addr) (c60 : Nat) (a70 : Option Addr) (c70 : Nat) (d1 : LockD) (u01 : Value) (ra01 : Nat → Option Addr) (rc01 : Nat → Nat) (a11 : Option Addr) (c11 : Nat) (a21 : Option Addr) (c21 : Nat) (a31 : Option Addr) (c31 : Nat) (a41 : Option Addr) (c41 : Nat) (u51 : Value) (ra51 : Nat → Option Addr) (rc51 : Nat → Nat) (a61 : Option Addr) (c61 : Nat) (a71 : Option Addr) (c71 : Nat) (H0 : RawA w d0 u00 ra00 rc00 a10 c10 a20 c20 a30 c30 a40 c40 u50 ra50 rc50 a60 c60 a70 c70) (H1 : RawA w d1 u01 ra01 rc01 a11 c11 a21 c21 a31 c31 a41 c41 u51 ra51 rc51 a61 c61 a71 c71) :
    Calls Try.prog 6 #[.agg #[u00, .slice a10 d0.np c10, .slice a20 d0.nr c20, .int .i64 d0.bank, .int .i64 d0.A, .int .i64 d0.X, .int .i64 d0.S, .int .i64 d0.Pc, .bool d0.Z, .bool d0.N, .bool d0.C, .bool d0.I, .int .i64 d0.t, .int .i64 d0.c, .int .i64 d0.s, .int .i64 d0.ad, .int .i64 d0.pl, .bool d0.bl, .slice a30 d0.nt c30, .slice a40 d0.nd c40, .int .i64 d0.T, .int .i64 d0.P, .int .i64 d0.K, .int .i64 d0.B, .int .i64 d0.L, .bool d0.Q, .bool d0.R, .bool d0.hd, .int .i64 d0.sh, .bool d0.nmi, .int .i64 d0.st, u50, .slice a60 d0.ns c60, .slice a70 d0.nq c70], .agg #[u01, .slice a11 d1.np c11, .slice a21 d1.nr c21, .int .i64 d1.bank, .int .i64 d1.A, .int .i64 d1.X, .int .i64 d1.S, .int .i64 d1.Pc, .bool d1.Z, .bool d1.N, .bool d1.C, .bool d1.I, .int .i64 d1.t, .int .i64 d1.c, .int .i64 d1.s, .int .i64 d1.ad, .int .i64 d1.pl, .bool d1.bl, .slice a31 d1.nt c31, .slice a41 d1.nd c41, .int .i64 d1.T, .int .i64 d1.P, .int .i64 d1.K, .int .i64 d1.B, .int .i64 d1.L, .bool d1.Q, .bool d1.R, .bool d1.hd, .int .i64 d1.sh, .bool d1.nmi, .int .i64 d1.st, u51, .slice a61 d1.ns c61, .slice a71 d1.nq c71]] w fun e w' => e = .returned (.bool true) ∧ Below w.heap.size w w' :=
  lawLockSame2 w _ _ rfl rfl (szD d0) (szD d1) (lockB d0 d1) (LkP d0) (LkP d1) (fun _ _ _ L ⟨D, h⟩ => ⟨D, h.below L⟩) (fun _ _ _ L ⟨D, h⟩ => ⟨D, h.below L⟩)
    (fun W L => rawSzLock d0 u00 ra00 rc00 a10 c10 a20 c20 a30 c30 a40 c40 u50 ra50 rc50 a60 c60 a70 c70 H0 (by omega) (by omega) L) (fun W left h0 h1 L => rawSzLock d1 u01 ra01 rc01 a11 c11 a21 c21 a31 c31 a41 c41 u51 ra51 rc51 a61 c61 a71 c71 H1 h0 h1 L) (fun hs W L => rawToLock d0 u00 ra00 rc00 a10 c10 a20 c20 a30 c30 a40 c40 u50 ra50 rc50 a60 c60 a70 c70 H0 hs L) (fun hs W L => rawToLock d1 u01 ra01 rc01 a11 c11 a21 c21 a31 c31 a41 c41 u51 ra51 rc51 a61 c61 a71 c71 H1 hs L)
    (fun W v u ⟨D, h⟩ ⟨E, k⟩ => specLockSame W D E v u d0 d1 h k) (fun W v u ⟨D, h⟩ ⟨E, k⟩ => implLockSame W D E v u d0 d1 h k)
    (fun W v u ⟨D, h⟩ ⟨E, k⟩ => onEqLock W D E v u _ h k) (fun W v u ⟨D, h⟩ ⟨E, k⟩ => onEqLock W D E v u _ h k)
end Go.Proofs.Ytmccplbfggcogaa
