/-
  FnExactRingOk, FnExactRingNew, FnExactRingHead, FnExactRingTake.
-/
import Derived.Test.YtpaedkefmebjjasRI
import Derived.Test.YtpaedkefmebjjasG0
import Derived.Deep.RegionHeld3
import Derived.Deep.DeepCutAuto
namespace Go.Proofs.Ytpaedkefmebjjas
set_option linter.unusedVariables false
set_option linter.unusedSimpArgs false
open Go.ChangeShapes Go.WideShapes Go.ChangeAt Go.RowKit
theorem box_wrote' {R : Nat → Nat → Prop} {w w' : World} {b : Nat} {o : Obj} (h : w.heap[b]? = some o) (hw : Wrote R w w') (hd : ∀ o, ¬ R b o) : w'.heap[b]? = some o := (hw.block b (boxLt h) hd).trans h
set_option maxRecDepth 40000 in
set_option maxHeartbeats 4000000 in
theorem lawRingOk (w : World) (cap : Int) (a : Option Addr) (n c : Nat) (f : Nat → Int) (hn : n ≤ 9223372036854775807) (hnc : n ≤ c) (hr : RowOf .i64 w a (n * 3) f) : Calls Try.prog 3 #[.agg #[.int .i64 cap, .slice a n c]] w fun e w' => e = .returned (.bool true) ∧ Below w.heap.size w w' := by
  have C0 : Below w.heap.size w (w.alloc (.cells #[.int .i64 cap, .slice a n c] 24)) := (Below.refl _ _).alloc (Nat.le_refl _) _
  have k0 := box_new w #[.int .i64 cap, .slice a n c] 24
  have HZ := hide (fun W => szRing W cap a n c hn 1048576 (by omega) (by omega))
  obtain ⟨lf, hlf⟩ : ∃ x, Hid (x = szOut 1048576 n) := ⟨_, rfl⟩
  rw [← hlf.out] at HZ
  go_enter Try.func3, Try.ntmps3
  go_wp2_with fail
  generalize w.alloc (.cells #[.int .i64 cap, .slice a n c] 24) = W0 at *
  refine (HZ.out _).mono ?_
  rintro e W1 ⟨rfl, L⟩
  have C1 := below_snoc C0 L
  replace k0 := box_keep k0 L (boxLt k0)
  have hk00 := boxLt k0
  clear L C0 HZ
  by_cases hbig : (1048576 : Int) < (n : Int)
  · obtain rfl : lf = -1 := by rw [hlf.out]; exact szOut_no hbig
    go_wp2
    go_ret
    exact ⟨rfl, C1⟩
  have hn1 : n ≤ 1048576 := by omega
  have hnn : ¬ (lf < 0) := by rw [hlf.out, szOut_ok (by omega)]; omega
  clear hlf hbig
  have c_k0 := boxC k0
  go_wp2_with fail
  clear c_k0
  refine (onToRing _ a n c cap f hn1 (hr.keep (wrote_below C1 Nowhere) (fun _ _ _ x => x))).mono ?_
  rintro e W2 ⟨vS, rfl, oS, L⟩
  have C2 := below_snoc C1 L
  replace k0 := box_keep k0 L (boxLt k0)
  have sz2 := L.size
  clear L C1
  go_wp2_with fail
  have HI := hide (fun W D v h => implRingOk W D v cap n f h)
  have HS := hide (fun W D v h => specRingOk W D v cap n f h)
  obtain ⟨rb, hrb⟩ : ∃ x, Hid (x = okRing cap n f) := ⟨_, rfl⟩
  rw [← hrb.out] at HI HS
  clear hrb
  refine (HS.out _ _ _ oS).mono ?_
  rintro e W3 ⟨rfl, L⟩
  have C3 := below_snoc C2 L
  replace k0 := box_keep k0 L (boxLt k0)
  replace oS := oS.below L
  have sz3 := L.size
  clear L C2
  clear oS
  have c_k0 := boxC k0
  go_wp2_with fail
  clear c_k0
  refine (onToRing _ a n c cap f hn1 (hr.keep (wrote_below C3 Nowhere) (fun _ _ _ x => x))).mono ?_
  rintro e W4 ⟨v0, rfl, o0, L⟩
  have C4 := below_snoc C3 L
  replace k0 := box_keep k0 L (boxLt k0)
  have sz4 := L.size
  clear L C3
  obtain ⟨xa, xc, rfl⟩ := o0.two
  have bx0 := box_new W4 #[.int .i64 cap, .slice xa n xc] 29
  have LA : Below W4.heap.size W4 (W4.alloc (.cells #[.int .i64 cap, .slice xa n xc] 29)) := (Below.refl _ _).alloc (Nat.le_refl _) _
  go_upto_region 7 with (fail)
  have C5 := below_snoc C4 LA
  replace k0 := box_keep k0 LA (boxLt k0)
  replace o0 := o0.below LA
  have sz5 := LA.size
  clear LA C4
  obtain ⟨zbx0, hzbx0⟩ : ∃ z, Hid (z = W4.heap.size) := ⟨_, rfl⟩
  rw [← hzbx0.out] at bx0 ⊢
  generalize W4.alloc (.cells #[.int .i64 cap, .slice xa n xc] 29) = W5 at *
  have gzbx0 : W4.heap.size ≤ zbx0 := by rw [hzbx0.out]; exact Nat.le_refl _
  have lzbx0 := boxLt bx0
  clear hzbx0
  have c_bx0 := boxC bx0
  go_wp2_with fail
  clear c_bx0
  refine (HI.out _ _ _ o0).mono ?_
  rintro e W6 ⟨rfl, L⟩
  have C6 := below_snoc C5 L
  replace k0 := box_keep k0 L (boxLt k0)
  replace bx0 := box_keep bx0 L (boxLt bx0)
  replace o0 := o0.below L
  have sz6 := L.size
  clear L C5
  have hrr : (rb != rb) = false := by simp
  go_upto_region 10 with (fail)
  rename_i K2 hK2 K3' hK3'
  refine wp_region_eff [some 22, some 23, some 24, some 25, some 26] (by kernel_rfl) (by kernel_rfl) (by kernel_rfl) (by kernel_rfl) (by simp [slotsOf])
    (fun _ _ _ => False)
    (fun i v W => match i with
      | 0 => v = .agg #[.int .i64 cap, .slice xa n xc]
      | 1 => v = .agg #[.int .i64 cap, .slice a n c]
      | 2 => ∃ vX DX, v = vX ∧ RgOn W DX vX cap n f
      | 3 => v = .bool true
      | _ => v = .bool false) ?_ ?_ ?_
  · intro i j o v W W' hij _ _ hW h
    match i, h with
    | 0, h => exact h
    | 1, h => exact h
    | 2, ⟨vX, DX, h1, h2⟩ => exact ⟨vX, DX, h1, h2.keep hW (fun _ _ _ _ x => x)⟩
    | 3, h => exact h
    | _ + 4, h => exact h
  · intro i o a' W K ho F L hw hK
    have t1 := F.get (t := 1) (v := .pointer (some ⟨w.heap.size, 0, none⟩)) (by decide) rfl
    have t5 := F.get (t := 5) (v := .pointer (some ⟨zbx0, 0, none⟩)) (by decide) rfl
    have LB : Below W6.heap.size W6 W := L.below (Nat.le_refl _) (fun b o _ ⟨j, _, _, _, _, h⟩ => h)
    match i with
    | 0 =>
        simp only [List.getElem?_toArray, List.getElem?_cons_zero, List.getElem?_cons_succ, Option.some.injEq] at ho
        subst ho
        have rb' := boxC (box_keep bx0 LB (boxLt bx0))
        go_simp
        exact hK _ _ (Wrote.refl _ _) rfl
    | 1 =>
        simp only [List.getElem?_toArray, List.getElem?_cons_zero, List.getElem?_cons_succ, Option.some.injEq] at ho
        subst ho
        have rb' := boxC (box_keep k0 LB (boxLt k0))
        go_simp
        exact hK _ _ (Wrote.refl _ _) rfl
    | 2 =>
        simp only [List.getElem?_toArray, List.getElem?_cons_zero, List.getElem?_cons_succ, Option.some.injEq] at ho
        subst ho
        have q1 : a'.tmps[23]?.getD undef = .agg #[.int .i64 cap, .slice a n c] := hw 1 (by kernel_rfl)
        go_simp
        refine (onToRing W a n c cap f hn1 (hr.keep (wrote_below (below_snoc C6 LB) Nowhere) (fun _ _ _ x => x))).mono ?_
        rintro e W' ⟨vX, rfl, oX, LX⟩
        exact hK _ _ (wrote_below LX _) ⟨vX, _, rfl, oX⟩
    | 3 =>
        simp only [List.getElem?_toArray, List.getElem?_cons_zero, List.getElem?_cons_succ, Option.some.injEq] at ho
        subst ho
        have q0 : a'.tmps[22]?.getD undef = .agg #[.int .i64 cap, .slice xa n xc] := hw 0 (by kernel_rfl)
        obtain ⟨vX, DX, q2, oX⟩ : ∃ vX DX, a'.tmps[24]?.getD undef = vX ∧ RgOn W DX vX cap n f := hw 2 (by kernel_rfl)
        go_simp
        refine (onEqRing W _ _ _ _ cap n f (o0.below LB) oX).mono ?_
        rintro e W' ⟨rfl, LX⟩
        exact hK _ _ (wrote_below LX _) rfl
    | 4 =>
        simp only [List.getElem?_toArray, List.getElem?_cons_zero, List.getElem?_cons_succ, Option.some.injEq] at ho
        subst ho
        have q3 : a'.tmps[25]?.getD undef = .bool true := hw 3 (by kernel_rfl)
        go_simp
        exact hK _ _ (Wrote.refl _ _) rfl
    | _ + 5 => simp at ho
  · intro a' W F L hφ
    have LB : Below W6.heap.size W6 W := L.below (Nat.le_refl _) (fun b o _ ⟨j, h⟩ => h)
    have v4 : a'.tmps[26]?.getD undef = .bool false := hφ 4 (by decide)
    rw [F.same, show slotsOf [some 22, some 23, some 24, some 25, some 26] = [22, 23, 24, 25, 26] from rfl]
    simp only [List.foldl_cons, List.foldl_nil]
    rw [v4]
    generalize a'.tmps[22]?.getD undef = s0
    generalize a'.tmps[23]?.getD undef = s1'
    generalize a'.tmps[24]?.getD undef = s2
    generalize a'.tmps[25]?.getD undef = s3
    clear hφ L F v4
    refine hK3' _ _ ?_
    go_simp
    obtain ⟨W7, hWW⟩ : ∃ x, x = W := ⟨_, rfl⟩
    subst hWW
    have C7 := below_snoc C6 LB
    replace k0 := box_keep k0 LB (boxLt k0)
    replace bx0 := box_keep bx0 LB (boxLt bx0)
    replace o0 := o0.below LB
    have sz7 := LB.size
    clear LB C6
    go_wp2
    go_ret
    exact ⟨rfl, C7⟩
set_option maxRecDepth 40000 in
set_option maxHeartbeats 4000000 in
theorem lawRingHead (w : World) (cap : Int) (a : Option Addr) (n c : Nat) (f : Nat → Int) (hn : n ≤ 9223372036854775807) (hnc : n ≤ c) (hr : RowOf .i64 w a (n * 3) f) : Calls Try.prog 6 #[.agg #[.int .i64 cap, .slice a n c]] w fun e w' => e = .returned (.bool true) ∧ Below w.heap.size w w' := by
  have C0 : Below w.heap.size w (w.alloc (.cells #[.int .i64 cap, .slice a n c] 24)) := (Below.refl _ _).alloc (Nat.le_refl _) _
  have k0 := box_new w #[.int .i64 cap, .slice a n c] 24
  have HZ := hide (fun W => szRing W cap a n c hn 1048576 (by omega) (by omega))
  obtain ⟨lf, hlf⟩ : ∃ x, Hid (x = szOut 1048576 n) := ⟨_, rfl⟩
  rw [← hlf.out] at HZ
  go_enter Try.func6, Try.ntmps6
  go_wp2_with fail
  generalize w.alloc (.cells #[.int .i64 cap, .slice a n c] 24) = W0 at *
  refine (HZ.out _).mono ?_
  rintro e W1 ⟨rfl, L⟩
  have C1 := below_snoc C0 L
  replace k0 := box_keep k0 L (boxLt k0)
  have hk00 := boxLt k0
  clear L C0 HZ
  by_cases hbig : (1048576 : Int) < (n : Int)
  · obtain rfl : lf = -1 := by rw [hlf.out]; exact szOut_no hbig
    go_wp2
    go_ret
    exact ⟨rfl, C1⟩
  have hn1 : n ≤ 1048576 := by omega
  have hnn : ¬ (lf < 0) := by rw [hlf.out, szOut_ok (by omega)]; omega
  clear hlf hbig
  have c_k0 := boxC k0
  go_wp2_with fail
  clear c_k0
  refine (onToRing _ a n c cap f hn1 (hr.keep (wrote_below C1 Nowhere) (fun _ _ _ x => x))).mono ?_
  rintro e W2 ⟨vS, rfl, oS, L⟩
  have C2 := below_snoc C1 L
  replace k0 := box_keep k0 L (boxLt k0)
  have sz2 := L.size
  clear L C1
  go_wp2_with fail
  have HI := hide (fun W D v h => implRingHead W D v cap n f h)
  have HS := hide (fun W D v h => specRingHead W D v cap n f h)
  obtain ⟨x0, hx0⟩ : ∃ x, Hid (x = headV (okRing cap n f) n f 0) := ⟨_, rfl⟩
  obtain ⟨x1, hx1⟩ : ∃ x, Hid (x = headV (okRing cap n f) n f 1) := ⟨_, rfl⟩
  obtain ⟨x2, hx2⟩ : ∃ x, Hid (x = headV (okRing cap n f) n f 2) := ⟨_, rfl⟩
  obtain ⟨rb, hrb⟩ : ∃ x, Hid (x = (okRing cap n f && decide (0 < n))) := ⟨_, rfl⟩
  rw [← hx0.out, ← hx1.out, ← hx2.out, ← hrb.out] at HI HS
  clear hx0 hx1 hx2 hrb
  refine (HS.out _ _ _ oS).mono ?_
  rintro e W3 ⟨rfl, L⟩
  have C3 := below_snoc C2 L
  replace k0 := box_keep k0 L (boxLt k0)
  replace oS := oS.below L
  have sz3 := L.size
  clear L C2
  clear oS
  have bxW := box_new W3 #[.int .i64 x0, .int .i64 x1, .int .i64 x2] 40
  have LA : Below W3.heap.size W3 (W3.alloc (.cells #[.int .i64 x0, .int .i64 x1, .int .i64 x2] 40)) := (Below.refl _ _).alloc (Nat.le_refl _) _
  go_upto_region 6 with (fail)
  have C4 := below_snoc C3 LA
  replace k0 := box_keep k0 LA (boxLt k0)
  have sz4 := LA.size
  clear LA C3
  obtain ⟨zbxW, hzbxW⟩ : ∃ z, Hid (z = W3.heap.size) := ⟨_, rfl⟩
  rw [← hzbxW.out] at bxW ⊢
  generalize W3.alloc (.cells #[.int .i64 x0, .int .i64 x1, .int .i64 x2] 40) = W4 at *
  have gzbxW : W3.heap.size ≤ zbxW := by rw [hzbxW.out]; exact Nat.le_refl _
  have lzbxW := boxLt bxW
  clear hzbxW
  have c_k0 := boxC k0
  go_wp2_with fail
  clear c_k0
  refine (onToRing _ a n c cap f hn1 (hr.keep (wrote_below C4 Nowhere) (fun _ _ _ x => x))).mono ?_
  rintro e W5 ⟨v0, rfl, o0, L⟩
  have C5 := below_snoc C4 L
  replace k0 := box_keep k0 L (boxLt k0)
  replace bxW := box_keep bxW L (boxLt bxW)
  have sz5 := L.size
  clear L C4
  obtain ⟨xa, xc, rfl⟩ := o0.two
  have bx0 := box_new W5 #[.int .i64 cap, .slice xa n xc] 29
  have LA : Below W5.heap.size W5 (W5.alloc (.cells #[.int .i64 cap, .slice xa n xc] 29)) := (Below.refl _ _).alloc (Nat.le_refl _) _
  go_upto_region 7 with (fail)
  have C6 := below_snoc C5 LA
  replace k0 := box_keep k0 LA (boxLt k0)
  replace bxW := box_keep bxW LA (boxLt bxW)
  replace o0 := o0.below LA
  have sz6 := LA.size
  clear LA C5
  obtain ⟨zbx0, hzbx0⟩ : ∃ z, Hid (z = W5.heap.size) := ⟨_, rfl⟩
  rw [← hzbx0.out] at bx0 ⊢
  generalize W5.alloc (.cells #[.int .i64 cap, .slice xa n xc] 29) = W6 at *
  have gzbx0 : W5.heap.size ≤ zbx0 := by rw [hzbx0.out]; exact Nat.le_refl _
  have lzbx0 := boxLt bx0
  clear hzbx0
  have c_bx0 := boxC bx0
  go_wp2_with fail
  clear c_bx0
  refine (HI.out _ _ _ o0).mono ?_
  rintro e W7 ⟨rfl, L⟩
  have C7 := below_snoc C6 L
  replace k0 := box_keep k0 L (boxLt k0)
  replace bxW := box_keep bxW L (boxLt bxW)
  replace bx0 := box_keep bx0 L (boxLt bx0)
  replace o0 := o0.below L
  have sz7 := L.size
  clear L C6
  have bxG := box_new W7 #[.int .i64 x0, .int .i64 x1, .int .i64 x2] 40
  have LA : Below W7.heap.size W7 (W7.alloc (.cells #[.int .i64 x0, .int .i64 x1, .int .i64 x2] 40)) := (Below.refl _ _).alloc (Nat.le_refl _) _
  go_upto_region 8 with (fail)
  have C8 := below_snoc C7 LA
  replace k0 := box_keep k0 LA (boxLt k0)
  replace bxW := box_keep bxW LA (boxLt bxW)
  replace bx0 := box_keep bx0 LA (boxLt bx0)
  replace o0 := o0.below LA
  have sz8 := LA.size
  clear LA C7
  obtain ⟨zbxG, hzbxG⟩ : ∃ z, Hid (z = W7.heap.size) := ⟨_, rfl⟩
  rw [← hzbxG.out] at bxG ⊢
  generalize W7.alloc (.cells #[.int .i64 x0, .int .i64 x1, .int .i64 x2] 40) = W8 at *
  have gzbxG : W7.heap.size ≤ zbxG := by rw [hzbxG.out]; exact Nat.le_refl _
  have lzbxG := boxLt bxG
  clear hzbxG
  have c_bxG := boxC bxG
  have c_bxW := boxC bxW
  go_wp2_with fail
  clear c_bxG c_bxW
  refine (eqRec _ x0 x1 x2).mono ?_
  rintro e W9 ⟨rfl, L⟩
  have C9 := below_snoc C8 L
  replace k0 := box_keep k0 L (boxLt k0)
  replace bxW := box_keep bxW L (boxLt bxW)
  replace bx0 := box_keep bx0 L (boxLt bx0)
  replace bxG := box_keep bxG L (boxLt bxG)
  replace o0 := o0.below L
  have sz9 := L.size
  clear L C8
  have hrr : (rb != rb) = false := by simp
  go_upto_region 10 with (fail)
  rename_i K2 hK2 K3' hK3'
  refine wp_region_eff [some 36, some 37, some 38, some 39, some 40] (by kernel_rfl) (by kernel_rfl) (by kernel_rfl) (by kernel_rfl) (by simp [slotsOf])
    (fun _ _ _ => False)
    (fun i v W => match i with
      | 0 => v = .agg #[.int .i64 cap, .slice xa n xc]
      | 1 => v = .agg #[.int .i64 cap, .slice a n c]
      | 2 => ∃ vX DX, v = vX ∧ RgOn W DX vX cap n f
      | 3 => v = .bool true
      | _ => v = .bool false) ?_ ?_ ?_
  · intro i j o v W W' hij _ _ hW h
    match i, h with
    | 0, h => exact h
    | 1, h => exact h
    | 2, ⟨vX, DX, h1, h2⟩ => exact ⟨vX, DX, h1, h2.keep hW (fun _ _ _ _ x => x)⟩
    | 3, h => exact h
    | _ + 4, h => exact h
  · intro i o a' W K ho F L hw hK
    have t1 := F.get (t := 1) (v := .pointer (some ⟨w.heap.size, 0, none⟩)) (by decide) rfl
    have t5 := F.get (t := 6) (v := .pointer (some ⟨zbx0, 0, none⟩)) (by decide) rfl
    have LB : Below W9.heap.size W9 W := L.below (Nat.le_refl _) (fun b o _ ⟨j, _, _, _, _, h⟩ => h)
    match i with
    | 0 =>
        simp only [List.getElem?_toArray, List.getElem?_cons_zero, List.getElem?_cons_succ, Option.some.injEq] at ho
        subst ho
        have rb' := boxC (box_keep bx0 LB (boxLt bx0))
        go_simp
        exact hK _ _ (Wrote.refl _ _) rfl
    | 1 =>
        simp only [List.getElem?_toArray, List.getElem?_cons_zero, List.getElem?_cons_succ, Option.some.injEq] at ho
        subst ho
        have rb' := boxC (box_keep k0 LB (boxLt k0))
        go_simp
        exact hK _ _ (Wrote.refl _ _) rfl
    | 2 =>
        simp only [List.getElem?_toArray, List.getElem?_cons_zero, List.getElem?_cons_succ, Option.some.injEq] at ho
        subst ho
        have q1 : a'.tmps[37]?.getD undef = .agg #[.int .i64 cap, .slice a n c] := hw 1 (by kernel_rfl)
        go_simp
        refine (onToRing W a n c cap f hn1 (hr.keep (wrote_below (below_snoc C9 LB) Nowhere) (fun _ _ _ x => x))).mono ?_
        rintro e W' ⟨vX, rfl, oX, LX⟩
        exact hK _ _ (wrote_below LX _) ⟨vX, _, rfl, oX⟩
    | 3 =>
        simp only [List.getElem?_toArray, List.getElem?_cons_zero, List.getElem?_cons_succ, Option.some.injEq] at ho
        subst ho
        have q0 : a'.tmps[36]?.getD undef = .agg #[.int .i64 cap, .slice xa n xc] := hw 0 (by kernel_rfl)
        obtain ⟨vX, DX, q2, oX⟩ : ∃ vX DX, a'.tmps[38]?.getD undef = vX ∧ RgOn W DX vX cap n f := hw 2 (by kernel_rfl)
        go_simp
        refine (onEqRing W _ _ _ _ cap n f (o0.below LB) oX).mono ?_
        rintro e W' ⟨rfl, LX⟩
        exact hK _ _ (wrote_below LX _) rfl
    | 4 =>
        simp only [List.getElem?_toArray, List.getElem?_cons_zero, List.getElem?_cons_succ, Option.some.injEq] at ho
        subst ho
        have q3 : a'.tmps[39]?.getD undef = .bool true := hw 3 (by kernel_rfl)
        go_simp
        exact hK _ _ (Wrote.refl _ _) rfl
    | _ + 5 => simp at ho
  · intro a' W F L hφ
    have LB : Below W9.heap.size W9 W := L.below (Nat.le_refl _) (fun b o _ ⟨j, h⟩ => h)
    have v4 : a'.tmps[40]?.getD undef = .bool false := hφ 4 (by decide)
    rw [F.same, show slotsOf [some 36, some 37, some 38, some 39, some 40] = [36, 37, 38, 39, 40] from rfl]
    simp only [List.foldl_cons, List.foldl_nil]
    rw [v4]
    generalize a'.tmps[36]?.getD undef = s0
    generalize a'.tmps[37]?.getD undef = s1'
    generalize a'.tmps[38]?.getD undef = s2
    generalize a'.tmps[39]?.getD undef = s3
    clear hφ L F v4
    refine hK3' _ _ ?_
    go_simp
    obtain ⟨W10, hWW⟩ : ∃ x, x = W := ⟨_, rfl⟩
    subst hWW
    have C10 := below_snoc C9 LB
    replace k0 := box_keep k0 LB (boxLt k0)
    replace bxW := box_keep bxW LB (boxLt bxW)
    replace bx0 := box_keep bx0 LB (boxLt bx0)
    replace bxG := box_keep bxG LB (boxLt bxG)
    replace o0 := o0.below LB
    have sz10 := LB.size
    clear LB C9
    go_wp2
    go_ret
    exact ⟨rfl, C10⟩
set_option maxRecDepth 40000 in
set_option maxHeartbeats 4000000 in
theorem lawRingTake (w : World) (cap : Int) (a : Option Addr) (n c : Nat) (f : Nat → Int) (hn : n ≤ 9223372036854775807) (hnc : n ≤ c) (hr : RowOf .i64 w a (n * 3) f) : Calls Try.prog 7 #[.agg #[.int .i64 cap, .slice a n c]] w fun e w' => e = .returned (.bool true) ∧ Below w.heap.size w w' := by
  have C0 : Below w.heap.size w (w.alloc (.cells #[.int .i64 cap, .slice a n c] 24)) := (Below.refl _ _).alloc (Nat.le_refl _) _
  have k0 := box_new w #[.int .i64 cap, .slice a n c] 24
  have HZ := hide (fun W => szRing W cap a n c hn 1048576 (by omega) (by omega))
  obtain ⟨lf, hlf⟩ : ∃ x, Hid (x = szOut 1048576 n) := ⟨_, rfl⟩
  rw [← hlf.out] at HZ
  go_enter Try.func7, Try.ntmps7
  go_wp2_with fail
  generalize w.alloc (.cells #[.int .i64 cap, .slice a n c] 24) = W0 at *
  refine (HZ.out _).mono ?_
  rintro e W1 ⟨rfl, L⟩
  have C1 := below_snoc C0 L
  replace k0 := box_keep k0 L (boxLt k0)
  have hk00 := boxLt k0
  clear L C0 HZ
  by_cases hbig : (1048576 : Int) < (n : Int)
  · obtain rfl : lf = -1 := by rw [hlf.out]; exact szOut_no hbig
    go_wp2
    go_ret
    exact ⟨rfl, C1⟩
  have hn1 : n ≤ 1048576 := by omega
  have hnn : ¬ (lf < 0) := by rw [hlf.out, szOut_ok (by omega)]; omega
  clear hlf hbig
  have c_k0 := boxC k0
  go_wp2_with fail
  clear c_k0
  refine (onToRing _ a n c cap f hn1 (hr.keep (wrote_below C1 Nowhere) (fun _ _ _ x => x))).mono ?_
  rintro e W2 ⟨vS, rfl, oS, L⟩
  have C2 := below_snoc C1 L
  replace k0 := box_keep k0 L (boxLt k0)
  have sz2 := L.size
  clear L C1
  go_wp2_with fail
  have HI := hide (fun W D v h => implRingTake W D v cap n f h)
  have HS := hide (fun W D v h => specRingTake W D v cap n f h)
  obtain ⟨x0, hx0⟩ : ∃ x, Hid (x = headV (okRing cap n f) n f 0) := ⟨_, rfl⟩
  obtain ⟨x1, hx1⟩ : ∃ x, Hid (x = headV (okRing cap n f) n f 1) := ⟨_, rfl⟩
  obtain ⟨x2, hx2⟩ : ∃ x, Hid (x = headV (okRing cap n f) n f 2) := ⟨_, rfl⟩
  obtain ⟨rb, hrb⟩ : ∃ x, Hid (x = (okRing cap n f && decide (0 < n))) := ⟨_, rfl⟩
  rw [← hx0.out, ← hx1.out, ← hx2.out, ← hrb.out] at HI HS
  have HN : Hid (takeN (okRing cap n f) n ≤ 1048576) := by show _ ≤ _; unfold takeN; split <;> omega
  obtain ⟨cP, hcP⟩ : ∃ x, Hid (x = putC (okRing cap n f) cap) := ⟨_, rfl⟩
  obtain ⟨nP, hnP⟩ : ∃ x, Hid (x = takeN (okRing cap n f) n) := ⟨_, rfl⟩
  obtain ⟨fP, hfP⟩ : ∃ x, Hid (x = takeF (okRing cap n f) f) := ⟨_, rfl⟩
  rw [← hcP.out, ← hnP.out, ← hfP.out] at HI HS
  rw [← hnP.out] at HN
  clear hcP hnP hfP
  clear hx0 hx1 hx2 hrb
  refine (HS.out _ _ _ oS).mono ?_
  rintro e W3 ⟨vW, rfl, ⟨oW⟩, L⟩
  have C3 := below_snoc C2 L
  replace k0 := box_keep k0 L (boxLt k0)
  replace oS := oS.below L
  have sz3 := L.size
  clear L C2
  clear oS
  obtain ⟨wa, wc, rfl⟩ := oW.two
  have bxW := boxA (box_new W3 #[.int .i64 cP, .slice wa nP wc] 29) (.cells #[.int .i64 x0, .int .i64 x1, .int .i64 x2] 40)
  have bxV := box_new (W3.alloc (.cells #[.int .i64 cP, .slice wa nP wc] 29)) #[.int .i64 x0, .int .i64 x1, .int .i64 x2] 40
  have LA : Below W3.heap.size W3 ((W3.alloc (.cells #[.int .i64 cP, .slice wa nP wc] 29)).alloc (.cells #[.int .i64 x0, .int .i64 x1, .int .i64 x2] 40)) := ((Below.refl _ _).alloc (Nat.le_refl _) _).alloc (by simp) _
  have hzz : (W3.alloc (.cells #[.int .i64 cP, .slice wa nP wc] 29)).heap.size = W3.heap.size + 1 := by simp
  rw [hzz] at bxV
  go_upto_region 6 with (fail)
  have C4 := below_snoc C3 LA
  replace k0 := box_keep k0 LA (boxLt k0)
  replace oW := oW.below LA
  have sz4 := LA.size
  clear LA C3
  obtain ⟨zbxW, hzbxW⟩ : ∃ z, Hid (z = W3.heap.size) := ⟨_, rfl⟩
  obtain ⟨zbxV, hzbxV⟩ : ∃ z, Hid (z = W3.heap.size + 1) := ⟨_, rfl⟩
  rw [← hzbxV.out] at bxV ⊢
  rw [← hzbxW.out] at bxW ⊢
  have gzbxW : W3.heap.size ≤ zbxW := by rw [hzbxW.out]; exact Nat.le_refl _
  have gzbxV : zbxW + 1 = zbxV := by rw [hzbxW.out, hzbxV.out]
  generalize (W3.alloc (.cells #[.int .i64 cP, .slice wa nP wc] 29)).alloc (.cells #[.int .i64 x0, .int .i64 x1, .int .i64 x2] 40) = W4 at *
  have lzbxW := boxLt bxW
  have lzbxV := boxLt bxV
  clear hzbxW hzbxV hzz
  have c_k0 := boxC k0
  go_wp2_with fail
  clear c_k0
  refine (onToRing _ a n c cap f hn1 (hr.keep (wrote_below C4 Nowhere) (fun _ _ _ x => x))).mono ?_
  rintro e W5 ⟨v0, rfl, o0, L⟩
  have C5 := below_snoc C4 L
  replace k0 := box_keep k0 L (boxLt k0)
  replace bxW := box_keep bxW L (boxLt bxW)
  replace bxV := box_keep bxV L (boxLt bxV)
  replace oW := oW.below L
  have sz5 := L.size
  clear L C4
  obtain ⟨xa, xc, rfl⟩ := o0.two
  have bx0 := box_new W5 #[.int .i64 cap, .slice xa n xc] 29
  have LA : Below W5.heap.size W5 (W5.alloc (.cells #[.int .i64 cap, .slice xa n xc] 29)) := (Below.refl _ _).alloc (Nat.le_refl _) _
  go_upto_region 7 with (fail)
  have C6 := below_snoc C5 LA
  replace k0 := box_keep k0 LA (boxLt k0)
  replace bxW := box_keep bxW LA (boxLt bxW)
  replace bxV := box_keep bxV LA (boxLt bxV)
  replace oW := oW.below LA
  replace o0 := o0.below LA
  have sz6 := LA.size
  clear LA C5
  obtain ⟨zbx0, hzbx0⟩ : ∃ z, Hid (z = W5.heap.size) := ⟨_, rfl⟩
  rw [← hzbx0.out] at bx0 ⊢
  generalize W5.alloc (.cells #[.int .i64 cap, .slice xa n xc] 29) = W6 at *
  have gzbx0 : W5.heap.size ≤ zbx0 := by rw [hzbx0.out]; exact Nat.le_refl _
  have lzbx0 := boxLt bx0
  clear hzbx0
  have c_bx0 := boxC bx0
  go_wp2_with fail
  clear c_bx0
  refine (HI.out _ _ _ o0).mono ?_
  rintro e W7 ⟨vG, rfl, ⟨oG⟩, L⟩
  have C7 := below_snoc C6 L
  replace k0 := box_keep k0 L (boxLt k0)
  replace bxW := box_keep bxW L (boxLt bxW)
  replace bxV := box_keep bxV L (boxLt bxV)
  replace bx0 := box_keep bx0 L (boxLt bx0)
  replace oW := oW.below L
  replace o0 := o0.below L
  have sz7 := L.size
  clear L C6
  obtain ⟨ga, gc, rfl⟩ := oG.two
  have bxG := boxA (box_new W7 #[.int .i64 cP, .slice ga nP gc] 29) (.cells #[.int .i64 x0, .int .i64 x1, .int .i64 x2] 40)
  have bxH := box_new (W7.alloc (.cells #[.int .i64 cP, .slice ga nP gc] 29)) #[.int .i64 x0, .int .i64 x1, .int .i64 x2] 40
  have LA : Below W7.heap.size W7 ((W7.alloc (.cells #[.int .i64 cP, .slice ga nP gc] 29)).alloc (.cells #[.int .i64 x0, .int .i64 x1, .int .i64 x2] 40)) := ((Below.refl _ _).alloc (Nat.le_refl _) _).alloc (by simp) _
  have hzz : (W7.alloc (.cells #[.int .i64 cP, .slice ga nP gc] 29)).heap.size = W7.heap.size + 1 := by simp
  rw [hzz] at bxH
  go_upto_region 8 with (fail)
  have C8 := below_snoc C7 LA
  replace k0 := box_keep k0 LA (boxLt k0)
  replace bxW := box_keep bxW LA (boxLt bxW)
  replace bxV := box_keep bxV LA (boxLt bxV)
  replace bx0 := box_keep bx0 LA (boxLt bx0)
  replace oW := oW.below LA
  replace o0 := o0.below LA
  replace oG := oG.below LA
  have sz8 := LA.size
  clear LA C7
  obtain ⟨zbxG, hzbxG⟩ : ∃ z, Hid (z = W7.heap.size) := ⟨_, rfl⟩
  obtain ⟨zbxH, hzbxH⟩ : ∃ z, Hid (z = W7.heap.size + 1) := ⟨_, rfl⟩
  rw [← hzbxH.out] at bxH ⊢
  rw [← hzbxG.out] at bxG ⊢
  have gzbxG : W7.heap.size ≤ zbxG := by rw [hzbxG.out]; exact Nat.le_refl _
  have gzbxH : zbxG + 1 = zbxH := by rw [hzbxG.out, hzbxH.out]
  generalize (W7.alloc (.cells #[.int .i64 cP, .slice ga nP gc] 29)).alloc (.cells #[.int .i64 x0, .int .i64 x1, .int .i64 x2] 40) = W8 at *
  have lzbxG := boxLt bxG
  have lzbxH := boxLt bxH
  clear hzbxG hzbxH hzz
  have c_bxG := boxC bxG
  have c_bxW := boxC bxW
  go_wp2_with fail
  clear c_bxG c_bxW
  refine (onEqRing _ _ _ _ _ cP nP fP oG oW).mono ?_
  rintro e W9 ⟨rfl, L⟩
  have C9 := below_snoc C8 L
  replace k0 := box_keep k0 L (boxLt k0)
  replace bxW := box_keep bxW L (boxLt bxW)
  replace bxV := box_keep bxV L (boxLt bxV)
  replace bx0 := box_keep bx0 L (boxLt bx0)
  replace bxG := box_keep bxG L (boxLt bxG)
  replace bxH := box_keep bxH L (boxLt bxH)
  replace oW := oW.below L
  replace o0 := o0.below L
  replace oG := oG.below L
  have sz9 := L.size
  clear L C8
  have c_bxH := boxC bxH
  have c_bxV := boxC bxV
  go_wp2_with fail
  clear c_bxH c_bxV
  refine (eqRec _ x0 x1 x2).mono ?_
  rintro e W10 ⟨rfl, L⟩
  have C10 := below_snoc C9 L
  replace k0 := box_keep k0 L (boxLt k0)
  replace bxW := box_keep bxW L (boxLt bxW)
  replace bxV := box_keep bxV L (boxLt bxV)
  replace bx0 := box_keep bx0 L (boxLt bx0)
  replace bxG := box_keep bxG L (boxLt bxG)
  replace bxH := box_keep bxH L (boxLt bxH)
  replace oW := oW.below L
  replace o0 := o0.below L
  replace oG := oG.below L
  have sz10 := L.size
  clear L C9
  have hrr : (rb != rb) = false := by simp
  go_upto_region 10 with (fail)
  rename_i K2 hK2 K3' hK3'
  refine wp_region_eff [some 52, some 53, some 54, some 55, some 56] (by kernel_rfl) (by kernel_rfl) (by kernel_rfl) (by kernel_rfl) (by simp [slotsOf])
    (fun _ _ _ => False)
    (fun i v W => match i with
      | 0 => v = .agg #[.int .i64 cap, .slice xa n xc]
      | 1 => v = .agg #[.int .i64 cap, .slice a n c]
      | 2 => ∃ vX DX, v = vX ∧ RgOn W DX vX cap n f
      | 3 => v = .bool true
      | _ => v = .bool false) ?_ ?_ ?_
  · intro i j o v W W' hij _ _ hW h
    match i, h with
    | 0, h => exact h
    | 1, h => exact h
    | 2, ⟨vX, DX, h1, h2⟩ => exact ⟨vX, DX, h1, h2.keep hW (fun _ _ _ _ x => x)⟩
    | 3, h => exact h
    | _ + 4, h => exact h
  · intro i o a' W K ho F L hw hK
    have t1 := F.get (t := 1) (v := .pointer (some ⟨w.heap.size, 0, none⟩)) (by decide) rfl
    have t5 := F.get (t := 7) (v := .pointer (some ⟨zbx0, 0, none⟩)) (by decide) rfl
    have LB : Below W10.heap.size W10 W := L.below (Nat.le_refl _) (fun b o _ ⟨j, _, _, _, _, h⟩ => h)
    match i with
    | 0 =>
        simp only [List.getElem?_toArray, List.getElem?_cons_zero, List.getElem?_cons_succ, Option.some.injEq] at ho
        subst ho
        have rb' := boxC (box_keep bx0 LB (boxLt bx0))
        go_simp
        exact hK _ _ (Wrote.refl _ _) rfl
    | 1 =>
        simp only [List.getElem?_toArray, List.getElem?_cons_zero, List.getElem?_cons_succ, Option.some.injEq] at ho
        subst ho
        have rb' := boxC (box_keep k0 LB (boxLt k0))
        go_simp
        exact hK _ _ (Wrote.refl _ _) rfl
    | 2 =>
        simp only [List.getElem?_toArray, List.getElem?_cons_zero, List.getElem?_cons_succ, Option.some.injEq] at ho
        subst ho
        have q1 : a'.tmps[53]?.getD undef = .agg #[.int .i64 cap, .slice a n c] := hw 1 (by kernel_rfl)
        go_simp
        refine (onToRing W a n c cap f hn1 (hr.keep (wrote_below (below_snoc C10 LB) Nowhere) (fun _ _ _ x => x))).mono ?_
        rintro e W' ⟨vX, rfl, oX, LX⟩
        exact hK _ _ (wrote_below LX _) ⟨vX, _, rfl, oX⟩
    | 3 =>
        simp only [List.getElem?_toArray, List.getElem?_cons_zero, List.getElem?_cons_succ, Option.some.injEq] at ho
        subst ho
        have q0 : a'.tmps[52]?.getD undef = .agg #[.int .i64 cap, .slice xa n xc] := hw 0 (by kernel_rfl)
        obtain ⟨vX, DX, q2, oX⟩ : ∃ vX DX, a'.tmps[54]?.getD undef = vX ∧ RgOn W DX vX cap n f := hw 2 (by kernel_rfl)
        go_simp
        refine (onEqRing W _ _ _ _ cap n f (o0.below LB) oX).mono ?_
        rintro e W' ⟨rfl, LX⟩
        exact hK _ _ (wrote_below LX _) rfl
    | 4 =>
        simp only [List.getElem?_toArray, List.getElem?_cons_zero, List.getElem?_cons_succ, Option.some.injEq] at ho
        subst ho
        have q3 : a'.tmps[55]?.getD undef = .bool true := hw 3 (by kernel_rfl)
        go_simp
        exact hK _ _ (Wrote.refl _ _) rfl
    | _ + 5 => simp at ho
  · intro a' W F L hφ
    have LB : Below W10.heap.size W10 W := L.below (Nat.le_refl _) (fun b o _ ⟨j, h⟩ => h)
    have v4 : a'.tmps[56]?.getD undef = .bool false := hφ 4 (by decide)
    rw [F.same, show slotsOf [some 52, some 53, some 54, some 55, some 56] = [52, 53, 54, 55, 56] from rfl]
    simp only [List.foldl_cons, List.foldl_nil]
    rw [v4]
    generalize a'.tmps[52]?.getD undef = s0
    generalize a'.tmps[53]?.getD undef = s1'
    generalize a'.tmps[54]?.getD undef = s2
    generalize a'.tmps[55]?.getD undef = s3
    clear hφ L F v4
    refine hK3' _ _ ?_
    go_simp
    obtain ⟨W11, hWW⟩ : ∃ x, x = W := ⟨_, rfl⟩
    subst hWW
    have C11 := below_snoc C10 LB
    replace k0 := box_keep k0 LB (boxLt k0)
    replace bxW := box_keep bxW LB (boxLt bxW)
    replace bxV := box_keep bxV LB (boxLt bxV)
    replace bx0 := box_keep bx0 LB (boxLt bx0)
    replace bxG := box_keep bxG LB (boxLt bxG)
    replace bxH := box_keep bxH LB (boxLt bxH)
    replace oW := oW.below LB
    replace o0 := o0.below LB
    replace oG := oG.below LB
    have sz11 := LB.size
    clear LB C10
    have c_bx0 := boxC bx0
    go_wp2_with fail
    clear c_bx0
    refine (onMarkRing _ _ _ cap n f 1 o0 (by omega) (by omega)).mono ?_
    rintro e W12 ⟨rfl, -, T⟩
    have C12 := C11.trans (T.below C11.size (fun b o hb h => by obtain ⟨h1, h2⟩ := h; omega))
    replace k0 := box_wrote' k0 T (fun o h => by obtain ⟨h1, h2⟩ := h; omega)
    replace bxW := box_wrote' bxW T (fun o h => by obtain ⟨h1, h2⟩ := h; omega)
    replace bxV := box_wrote' bxV T (fun o h => by obtain ⟨h1, h2⟩ := h; omega)
    replace bx0 := box_wrote' bx0 T (fun o h => by obtain ⟨h1, h2⟩ := h; omega)
    replace bxG := box_wrote' bxG T (fun o h => by obtain ⟨h1, h2⟩ := h; omega)
    replace bxH := box_wrote' bxH T (fun o h => by obtain ⟨h1, h2⟩ := h; omega)
    replace oW := oW.keep T (fun b o hb _ h => by obtain ⟨h1, h2⟩ := h; obtain ⟨h3, h4⟩ := hb; omega)
    replace oG := oG.keep T (fun b o hb _ h => by obtain ⟨h1, h2⟩ := h; obtain ⟨h3, h4⟩ := hb; omega)
    have sz12 := T.size
    clear T C11
    clear o0
    obtain ⟨kd, hkd⟩ : ∃ k : Int, Hid (k = 1 + 3 * (n : Int)) := ⟨_, rfl⟩
    rw [← hkd.out]
    have hk0 : ¬ (kd < 0) := by rw [hkd.out]; omega
    have hk0' : decide (kd < 0) = false := decide_eq_false hk0
    clear hkd
    have c_bxG := boxC bxG
    have c_bxW := boxC bxW
    go_wp2_with fail
    clear c_bxG c_bxW
    refine (onEqRing _ _ _ _ _ cP nP fP oG oW).mono ?_
    rintro e W13 ⟨rfl, L⟩
    have C13 := below_snoc C12 L
    replace k0 := box_keep k0 L (boxLt k0)
    replace bxW := box_keep bxW L (boxLt bxW)
    replace bxV := box_keep bxV L (boxLt bxV)
    replace bx0 := box_keep bx0 L (boxLt bx0)
    replace bxG := box_keep bxG L (boxLt bxG)
    replace bxH := box_keep bxH L (boxLt bxH)
    replace oW := oW.below L
    replace oG := oG.below L
    have sz13 := L.size
    clear L C12
    have c_bxH := boxC bxH
    have c_bxV := boxC bxV
    go_wp2_with fail
    clear c_bxH c_bxV
    refine (eqRec _ x0 x1 x2).mono ?_
    rintro e W14 ⟨rfl, L⟩
    have C14 := below_snoc C13 L
    replace k0 := box_keep k0 L (boxLt k0)
    replace bxW := box_keep bxW L (boxLt bxW)
    replace bxV := box_keep bxV L (boxLt bxV)
    replace bx0 := box_keep bx0 L (boxLt bx0)
    replace bxG := box_keep bxG L (boxLt bxG)
    replace bxH := box_keep bxH L (boxLt bxH)
    replace oW := oW.below L
    replace oG := oG.below L
    have sz14 := L.size
    clear L C13
    have c_bxG := boxC bxG
    go_wp2_with fail
    clear c_bxG
    refine (onMarkRing _ _ _ cP nP fP 1 oG (by omega) (by omega)).mono ?_
    rintro e W15 ⟨rfl, oK, T⟩
    have C15 := C14.trans (T.below C14.size (fun b o hb h => by obtain ⟨h1, h2⟩ := h; omega))
    replace k0 := box_wrote' k0 T (fun o h => by obtain ⟨h1, h2⟩ := h; omega)
    replace bxW := box_wrote' bxW T (fun o h => by obtain ⟨h1, h2⟩ := h; omega)
    replace bxV := box_wrote' bxV T (fun o h => by obtain ⟨h1, h2⟩ := h; omega)
    replace bx0 := box_wrote' bx0 T (fun o h => by obtain ⟨h1, h2⟩ := h; omega)
    replace bxG := box_wrote' bxG T (fun o h => by obtain ⟨h1, h2⟩ := h; omega)
    replace bxH := box_wrote' bxH T (fun o h => by obtain ⟨h1, h2⟩ := h; omega)
    replace oW := oW.keep T (fun b o hb _ h => by obtain ⟨h1, h2⟩ := h; obtain ⟨h3, h4⟩ := hb; omega)
    have sz15 := T.size
    clear T C14
    clear oG
    have HHD := hide (fun W D h => onHeldRing W D (.agg #[.int .i64 cP, .slice ga nP gc]) cP nP 1 h (by omega) (by omega))
    obtain ⟨km, hkm⟩ : ∃ k : Int, Hid (k = 1 + 3 * (nP : Int)) := ⟨_, rfl⟩
    rw [← hkm.out] at HHD ⊢
    have hm0 : ¬ (km < 0) := by rw [hkm.out]; omega
    have hmm : (km != km) = false := by simp
    clear hkm
    have c_bxG := boxC bxG
    go_wp2_with fail
    clear c_bxG
    refine (HHD.out _ _ oK).mono ?_
    rintro e W16 ⟨rfl, L⟩
    have C16 := below_snoc C15 L
    replace k0 := box_keep k0 L (boxLt k0)
    replace bxW := box_keep bxW L (boxLt bxW)
    replace bxV := box_keep bxV L (boxLt bxV)
    replace bx0 := box_keep bx0 L (boxLt bx0)
    replace bxG := box_keep bxG L (boxLt bxG)
    replace bxH := box_keep bxH L (boxLt bxH)
    replace oW := oW.below L
    replace oK := oK.below L
    have sz16 := L.size
    clear L C15
    have c_k0 := boxC k0
    go_wp2_with fail
    clear c_k0
    refine (onToRing _ a n c cap f hn1 (hr.keep (wrote_below C16 Nowhere) (fun _ _ _ x => x))).mono ?_
    rintro e W17 ⟨vY, rfl, oY, L⟩
    have C17 := below_snoc C16 L
    replace k0 := box_keep k0 L (boxLt k0)
    replace bxW := box_keep bxW L (boxLt bxW)
    replace bxV := box_keep bxV L (boxLt bxV)
    replace bx0 := box_keep bx0 L (boxLt bx0)
    replace bxG := box_keep bxG L (boxLt bxG)
    replace bxH := box_keep bxH L (boxLt bxH)
    replace oW := oW.below L
    replace oK := oK.below L
    have sz17 := L.size
    clear L C16
    go_wp2_with fail
    refine (HI.out _ _ _ oY).mono ?_
    rintro e W18 ⟨vZ, rfl, ⟨oZ⟩, L⟩
    have C18 := below_snoc C17 L
    replace k0 := box_keep k0 L (boxLt k0)
    replace bxW := box_keep bxW L (boxLt bxW)
    replace bxV := box_keep bxV L (boxLt bxV)
    replace bx0 := box_keep bx0 L (boxLt bx0)
    replace bxG := box_keep bxG L (boxLt bxG)
    replace bxH := box_keep bxH L (boxLt bxH)
    replace oW := oW.below L
    replace oK := oK.below L
    replace oY := oY.below L
    have sz18 := L.size
    clear L C17
    clear oY
    obtain ⟨ha, hc, rfl⟩ := oZ.two
    have bxY := boxA (box_new W18 #[.int .i64 cP, .slice ha nP hc] 29) (.cells #[.int .i64 x0, .int .i64 x1, .int .i64 x2] 40)
    have bxZ := box_new (W18.alloc (.cells #[.int .i64 cP, .slice ha nP hc] 29)) #[.int .i64 x0, .int .i64 x1, .int .i64 x2] 40
    have LA : Below W18.heap.size W18 ((W18.alloc (.cells #[.int .i64 cP, .slice ha nP hc] 29)).alloc (.cells #[.int .i64 x0, .int .i64 x1, .int .i64 x2] 40)) := ((Below.refl _ _).alloc (Nat.le_refl _) _).alloc (by simp) _
    have hzz : (W18.alloc (.cells #[.int .i64 cP, .slice ha nP hc] 29)).heap.size = W18.heap.size + 1 := by simp
    rw [hzz] at bxZ
    go_upto_region 25 with (fail)
    have C19 := below_snoc C18 LA
    replace k0 := box_keep k0 LA (boxLt k0)
    replace bxW := box_keep bxW LA (boxLt bxW)
    replace bxV := box_keep bxV LA (boxLt bxV)
    replace bx0 := box_keep bx0 LA (boxLt bx0)
    replace bxG := box_keep bxG LA (boxLt bxG)
    replace bxH := box_keep bxH LA (boxLt bxH)
    replace oW := oW.below LA
    replace oK := oK.below LA
    replace oZ := oZ.below LA
    have sz19 := LA.size
    clear LA C18
    obtain ⟨zbxY, hzbxY⟩ : ∃ z, Hid (z = W18.heap.size) := ⟨_, rfl⟩
    obtain ⟨zbxZ, hzbxZ⟩ : ∃ z, Hid (z = W18.heap.size + 1) := ⟨_, rfl⟩
    rw [← hzbxZ.out] at bxZ ⊢
    rw [← hzbxY.out] at bxY ⊢
    have gzbxY : W18.heap.size ≤ zbxY := by rw [hzbxY.out]; exact Nat.le_refl _
    have gzbxZ : zbxY + 1 = zbxZ := by rw [hzbxY.out, hzbxZ.out]
    generalize (W18.alloc (.cells #[.int .i64 cP, .slice ha nP hc] 29)).alloc (.cells #[.int .i64 x0, .int .i64 x1, .int .i64 x2] 40) = W19 at *
    have lzbxY := boxLt bxY
    have lzbxZ := boxLt bxZ
    clear hzbxY hzbxZ hzz
    have c_bxY := boxC bxY
    have c_bxW := boxC bxW
    go_wp2_with fail
    clear c_bxY c_bxW
    refine (onEqRing _ _ _ _ _ cP nP fP oZ oW).mono ?_
    rintro e W20 ⟨rfl, L⟩
    have C20 := below_snoc C19 L
    replace k0 := box_keep k0 L (boxLt k0)
    replace bxW := box_keep bxW L (boxLt bxW)
    replace bxV := box_keep bxV L (boxLt bxV)
    replace bx0 := box_keep bx0 L (boxLt bx0)
    replace bxG := box_keep bxG L (boxLt bxG)
    replace bxH := box_keep bxH L (boxLt bxH)
    replace bxY := box_keep bxY L (boxLt bxY)
    replace bxZ := box_keep bxZ L (boxLt bxZ)
    replace oW := oW.below L
    replace oK := oK.below L
    replace oZ := oZ.below L
    have sz20 := L.size
    clear L C19
    have c_bxZ := boxC bxZ
    have c_bxV := boxC bxV
    go_wp2_with fail
    clear c_bxZ c_bxV
    refine (eqRec _ x0 x1 x2).mono ?_
    rintro e W21 ⟨rfl, L⟩
    have C21 := below_snoc C20 L
    replace k0 := box_keep k0 L (boxLt k0)
    replace bxW := box_keep bxW L (boxLt bxW)
    replace bxV := box_keep bxV L (boxLt bxV)
    replace bx0 := box_keep bx0 L (boxLt bx0)
    replace bxG := box_keep bxG L (boxLt bxG)
    replace bxH := box_keep bxH L (boxLt bxH)
    replace bxY := box_keep bxY L (boxLt bxY)
    replace bxZ := box_keep bxZ L (boxLt bxZ)
    replace oW := oW.below L
    replace oK := oK.below L
    replace oZ := oZ.below L
    have sz21 := L.size
    clear L C20
    have c_bxG := boxC bxG
    go_wp2_with fail
    clear c_bxG
    refine (HHD.out _ _ oK).mono ?_
    rintro e W22 ⟨rfl, L⟩
    have C22 := below_snoc C21 L
    replace k0 := box_keep k0 L (boxLt k0)
    replace bxW := box_keep bxW L (boxLt bxW)
    replace bxV := box_keep bxV L (boxLt bxV)
    replace bx0 := box_keep bx0 L (boxLt bx0)
    replace bxG := box_keep bxG L (boxLt bxG)
    replace bxH := box_keep bxH L (boxLt bxH)
    replace bxY := box_keep bxY L (boxLt bxY)
    replace bxZ := box_keep bxZ L (boxLt bxZ)
    replace oW := oW.below L
    replace oK := oK.below L
    replace oZ := oZ.below L
    have sz22 := L.size
    clear L C21
    go_wp2
    go_ret
    exact ⟨rfl, C22⟩
set_option maxRecDepth 40000 in
set_option maxHeartbeats 4000000 in
theorem lawRingNew (w : World) (cap : Int) : Calls Try.prog 4 #[.int .i64 cap] w fun e w' => e = .returned (.bool true) ∧ Below w.heap.size w w' := by
  have HI := hide (fun W => implRingNew W cap)
  have HS := hide (fun W => specRingNew W cap)
  obtain ⟨cP, hcP⟩ : ∃ x, Hid (x = if okRing cap 0 (fun _ => 0) then cap else 0) := ⟨_, rfl⟩
  rw [← hcP.out] at HI HS
  obtain ⟨rb, hrb⟩ : ∃ x, Hid (x = okRing cap 0 (fun _ => 0)) := ⟨_, rfl⟩
  rw [← hrb.out] at HI HS
  clear hcP hrb
  have C1 : Below w.heap.size w w := Below.refl _ _
  have oW : ∀ W : World, RgOn W (fun _ => False) (.agg #[.int .i64 cP, .slice none 0 0]) cP 0 (fun _ => 0) := fun W => RgOn.none0 cP _
  go_enter Try.func4, Try.ntmps4
  go_wp2_with fail
  refine (HS.out _).mono ?_
  rintro e W2 ⟨rfl, L⟩
  have C2 := below_snoc C1 L
  have hw2 := C2.size
  clear L C1
  have bxW := box_new W2 #[.int .i64 cP, .slice none 0 0] 29
  have LA : Below W2.heap.size W2 (W2.alloc (.cells #[.int .i64 cP, .slice none 0 0] 29)) := (Below.refl _ _).alloc (Nat.le_refl _) _
  go_upto_region 2 with (fail)
  have C3 := below_snoc C2 LA
  have sz3 := LA.size
  clear LA C2
  obtain ⟨zbxW, hzbxW⟩ : ∃ z, Hid (z = W2.heap.size) := ⟨_, rfl⟩
  rw [← hzbxW.out] at bxW ⊢
  generalize W2.alloc (.cells #[.int .i64 cP, .slice none 0 0] 29) = W3 at *
  have gzbxW : W2.heap.size ≤ zbxW := by rw [hzbxW.out]; exact Nat.le_refl _
  have lzbxW := boxLt bxW
  clear hzbxW
  go_wp2_with fail
  refine (HI.out _).mono ?_
  rintro e W4 ⟨vG, rfl, ⟨oG⟩, L⟩
  have C4 := below_snoc C3 L
  replace bxW := box_keep bxW L (boxLt bxW)
  have sz4 := L.size
  clear L C3
  obtain ⟨ga, gc, rfl⟩ := oG.two
  have bxG := box_new W4 #[.int .i64 cP, .slice ga 0 gc] 29
  have LA : Below W4.heap.size W4 (W4.alloc (.cells #[.int .i64 cP, .slice ga 0 gc] 29)) := (Below.refl _ _).alloc (Nat.le_refl _) _
  go_upto_region 3 with (fail)
  have C5 := below_snoc C4 LA
  replace bxW := box_keep bxW LA (boxLt bxW)
  replace oG := oG.below LA
  have sz5 := LA.size
  clear LA C4
  obtain ⟨zbxG, hzbxG⟩ : ∃ z, Hid (z = W4.heap.size) := ⟨_, rfl⟩
  rw [← hzbxG.out] at bxG ⊢
  generalize W4.alloc (.cells #[.int .i64 cP, .slice ga 0 gc] 29) = W5 at *
  have gzbxG : W4.heap.size ≤ zbxG := by rw [hzbxG.out]; exact Nat.le_refl _
  have lzbxG := boxLt bxG
  clear hzbxG
  have c_bxG := boxC bxG
  have c_bxW := boxC bxW
  go_wp2_with fail
  clear c_bxG c_bxW
  refine (onEqRing _ _ _ _ _ cP 0 (fun _ => 0) oG (oW _)).mono ?_
  rintro e W6 ⟨rfl, L⟩
  have C6 := below_snoc C5 L
  replace bxW := box_keep bxW L (boxLt bxW)
  replace bxG := box_keep bxG L (boxLt bxG)
  replace oG := oG.below L
  have sz6 := L.size
  clear L C5
  have hrr : (rb != rb) = false := by simp
  have c_bxG := boxC bxG
  go_wp2_with fail
  clear c_bxG
  refine (onMarkRing _ _ _ cP 0 (fun _ => 0) 1 oG (by omega) (by omega)).mono ?_
  rintro e W7 ⟨rfl, oK, T⟩
  have C7 := C6.trans (T.below C6.size (fun b o hb h => by obtain ⟨h1, h2⟩ := h; omega))
  replace bxW := box_wrote' bxW T (fun o h => by obtain ⟨h1, h2⟩ := h; omega)
  replace bxG := box_wrote' bxG T (fun o h => by obtain ⟨h1, h2⟩ := h; omega)
  have sz7 := T.size
  clear T C6
  clear oG
  have HHD := hide (fun W D h => onHeldRing W D (.agg #[.int .i64 cP, .slice ga 0 gc]) cP 0 1 h (by omega) (by omega))
  obtain ⟨km, hkm⟩ : ∃ k : Int, Hid (k = 1 + 3 * ((0 : Nat) : Int)) := ⟨_, rfl⟩
  rw [← hkm.out] at HHD ⊢
  have hm0 : ¬ (km < 0) := by rw [hkm.out]; omega
  have hmm : (km != km) = false := by simp
  clear hkm
  have c_bxG := boxC bxG
  go_wp2_with fail
  clear c_bxG
  refine (HHD.out _ _ oK).mono ?_
  rintro e W8 ⟨rfl, L⟩
  have C8 := below_snoc C7 L
  replace bxW := box_keep bxW L (boxLt bxW)
  replace bxG := box_keep bxG L (boxLt bxG)
  replace oK := oK.below L
  have sz8 := L.size
  clear L C7
  go_wp2_with fail
  refine (HI.out _).mono ?_
  rintro e W9 ⟨vH, rfl, ⟨oH⟩, L⟩
  have C9 := below_snoc C8 L
  replace bxW := box_keep bxW L (boxLt bxW)
  replace bxG := box_keep bxG L (boxLt bxG)
  replace oK := oK.below L
  have sz9 := L.size
  clear L C8
  obtain ⟨ha, hc, rfl⟩ := oH.two
  have bxH := box_new W9 #[.int .i64 cP, .slice ha 0 hc] 29
  have LA : Below W9.heap.size W9 (W9.alloc (.cells #[.int .i64 cP, .slice ha 0 hc] 29)) := (Below.refl _ _).alloc (Nat.le_refl _) _
  go_upto_region 14 with (fail)
  have C10 := below_snoc C9 LA
  replace bxW := box_keep bxW LA (boxLt bxW)
  replace bxG := box_keep bxG LA (boxLt bxG)
  replace oK := oK.below LA
  replace oH := oH.below LA
  have sz10 := LA.size
  clear LA C9
  obtain ⟨zbxH, hzbxH⟩ : ∃ z, Hid (z = W9.heap.size) := ⟨_, rfl⟩
  rw [← hzbxH.out] at bxH ⊢
  generalize W9.alloc (.cells #[.int .i64 cP, .slice ha 0 hc] 29) = W10 at *
  have gzbxH : W9.heap.size ≤ zbxH := by rw [hzbxH.out]; exact Nat.le_refl _
  have lzbxH := boxLt bxH
  clear hzbxH
  have c_bxH := boxC bxH
  have c_bxW := boxC bxW
  go_wp2_with fail
  clear c_bxH c_bxW
  refine (onEqRing _ _ _ _ _ cP 0 (fun _ => 0) oH (oW _)).mono ?_
  rintro e W11 ⟨rfl, L⟩
  have C11 := below_snoc C10 L
  replace bxW := box_keep bxW L (boxLt bxW)
  replace bxG := box_keep bxG L (boxLt bxG)
  replace bxH := box_keep bxH L (boxLt bxH)
  replace oK := oK.below L
  replace oH := oH.below L
  have sz11 := L.size
  clear L C10
  have c_bxG := boxC bxG
  go_wp2_with fail
  clear c_bxG
  refine (HHD.out _ _ oK).mono ?_
  rintro e W12 ⟨rfl, L⟩
  have C12 := below_snoc C11 L
  replace bxW := box_keep bxW L (boxLt bxW)
  replace bxG := box_keep bxG L (boxLt bxG)
  replace bxH := box_keep bxH L (boxLt bxH)
  replace oK := oK.below L
  replace oH := oH.below L
  have sz12 := L.size
  clear L C11
  go_wp2
  go_ret
  exact ⟨rfl, C12⟩
end Go.Proofs.Ytpaedkefmebjjas
