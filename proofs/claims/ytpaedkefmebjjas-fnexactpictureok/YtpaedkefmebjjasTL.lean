/-
  FnExactPictureOk.
-/
import Derived.Test.YtpaedkefmebjjasTI
import Derived.Test.YtpaedkefmebjjasG0
import Derived.Deep.RegionHeld3
import Derived.Deep.DeepCutAuto
namespace Go.Proofs.Ytpaedkefmebjjas
set_option linter.unusedVariables false
set_option linter.unusedSimpArgs false
open Go.ChangeShapes Go.WideShapes Go.ChangeAt Go.RowKit
theorem intsOfRow {W : World} {a : Option Addr} {n c : Nat} {f : Nat → Int} (hr : RowOf .i64 W a n f) (hn : n ≤ 1048576) : Ints .i64 W (fun b o => Foot a n b o) (.slice a n c) n f := ⟨a, c, rfl, hn, hr, fun b o h => h⟩
set_option maxRecDepth 40000 in
set_option maxHeartbeats 4000000 in
theorem lawPictureOk (w : World) (d : PcD) (a1 : Option Addr) (a1c : Nat) (a2 : Option Addr) (a2c : Nat) (a3 : Option Addr) (a3c : Nat) (a4 : Option Addr) (a4c : Nat) (ra : Nat → Option Addr) (rc : Nat → Nat) (h1 : d.nt ≤ 9223372036854775807) (h2 : d.nd ≤ 9223372036854775807) (h3 : d.n ≤ 9223372036854775807) (hr1 : RowOf .i64 w a1 d.nt d.tb) (hr2 : RowOf .i64 w a2 d.nd d.dt) (hr3 : RowOf .i64 w a3 (d.n * 3) d.f) (hR : RawSS w (.slice a4 d.mf a4c) d.mf ra d.lf rc d.fr) : Calls Try.prog 8 #[.agg #[.int .i64 d.t, .int .i64 d.c, .int .i64 d.s, .int .i64 d.ad, .int .i64 d.pl, .bool d.bl, .slice a1 d.nt a1c, .slice a2 d.nd a2c, .int .i64 d.cap, .slice a3 d.n a3c, .slice a4 d.mf a4c]] w fun e w' => e = .returned (.bool true) ∧ Below w.heap.size w w' := by
  have C0 : Below w.heap.size w (w.alloc (.cells #[.int .i64 d.t, .int .i64 d.c, .int .i64 d.s, .int .i64 d.ad, .int .i64 d.pl, .bool d.bl, .slice a1 d.nt a1c, .slice a2 d.nd a2c, .int .i64 d.cap, .slice a3 d.n a3c, .slice a4 d.mf a4c] 53)) := (Below.refl _ _).alloc (Nat.le_refl _) _
  have k0 := box_new w #[.int .i64 d.t, .int .i64 d.c, .int .i64 d.s, .int .i64 d.ad, .int .i64 d.pl, .bool d.bl, .slice a1 d.nt a1c, .slice a2 d.nd a2c, .int .i64 d.cap, .slice a3 d.n a3c, .slice a4 d.mf a4c] 53
  have R0 := hide (hR.below C0)
  have HZ := hide (fun W (h : RawSS W (.slice a4 d.mf a4c) d.mf ra d.lf rc d.fr) => szPicture W d a1 a1c a2 a2c a3 a3c a4 a4c ra rc 1048576 h h1 h2 h3 (by omega) (by omega))
  obtain ⟨lf, hlf⟩ : ∃ x, Hid (x = szOut 1048576 ((d.nt + d.nd + d.n + (d.mf + psum d.lf d.mf) : Nat))) := ⟨_, rfl⟩
  rw [← hlf.out] at HZ
  go_enter Try.func8, Try.ntmps8
  go_wp2_with fail
  generalize w.alloc (.cells #[.int .i64 d.t, .int .i64 d.c, .int .i64 d.s, .int .i64 d.ad, .int .i64 d.pl, .bool d.bl, .slice a1 d.nt a1c, .slice a2 d.nd a2c, .int .i64 d.cap, .slice a3 d.n a3c, .slice a4 d.mf a4c] 53) = W0 at *
  refine (HZ.out _ R0.out).mono ?_
  rintro e W1 ⟨rfl, L⟩
  have C1 := below_snoc C0 L
  replace k0 := box_keep k0 L (boxLt k0)
  have hk00 := boxLt k0
  clear L C0 HZ
  by_cases hbig : (1048576 : Int) < (((d.nt + d.nd + d.n + (d.mf + psum d.lf d.mf) : Nat)) : Int)
  · obtain rfl : lf = -1 := by rw [hlf.out]; exact szOut_no hbig
    go_wp2
    go_ret
    exact ⟨rfl, C1⟩
  have hnt1 : d.nt ≤ 1048576 := by omega
  have hnd1 : d.nd ≤ 1048576 := by omega
  have hn1 : d.n ≤ 1048576 := by omega
  have hm1 : d.mf + psum d.lf d.mf ≤ 1048576 := by omega
  have hnn : ¬ (lf < 0) := by rw [hlf.out, szOut_ok (by omega)]; omega
  clear hlf hbig
  have c_k0 := boxC k0
  go_wp2_with fail
  clear c_k0
  refine (onToPicture _ d a1 a1c a2 a2c a3 a3c a4 a4c _ _ _ (intsOfRow (hr1.keep (wrote_below C1 Nowhere) (fun _ _ _ x => x)) hnt1) (intsOfRow (hr2.keep (wrote_below C1 Nowhere) (fun _ _ _ x => x)) hnd1) hn1 (hr3.keep (wrote_below C1 Nowhere) (fun _ _ _ x => x)) ((hR.below C1).ints hm1) hm1).mono ?_
  rintro e W2 ⟨DS, vS, rfl, oS, -, -, L⟩
  have C2 := below_snoc C1 L
  replace k0 := box_keep k0 L (boxLt k0)
  have sz2 := L.size
  clear L C1
  go_wp2_with fail
  have HI := hide (fun W D v h => implPictureOk W D v d h)
  have HS := hide (fun W D v h => specPictureOk W D v d h)
  obtain ⟨rb, hrb⟩ : ∃ x, Hid (x = okPc d) := ⟨_, rfl⟩
  rw [← hrb.out] at HI HS
  clear hrb
  refine (HS.out _ _ _ oS).mono ?_
  rintro e W3 ⟨rfl, L⟩
  have C3 := below_snoc C2 L
  replace k0 := box_keep k0 L (boxLt k0)
  replace oS := oS.below L
  have sz3 := L.size
  clear L C2
  clear oS
  have c_k0 := boxC k0
  go_wp2_with fail
  clear c_k0
  refine (onToPicture _ d a1 a1c a2 a2c a3 a3c a4 a4c _ _ _ (intsOfRow (hr1.keep (wrote_below C3 Nowhere) (fun _ _ _ x => x)) hnt1) (intsOfRow (hr2.keep (wrote_below C3 Nowhere) (fun _ _ _ x => x)) hnd1) hn1 (hr3.keep (wrote_below C3 Nowhere) (fun _ _ _ x => x)) ((hR.below C3).ints hm1) hm1).mono ?_
  rintro e W4 ⟨D0, v0, rfl, o0, -, -, L⟩
  have C4 := below_snoc C3 L
  replace k0 := box_keep k0 L (boxLt k0)
  have sz4 := L.size
  clear L C3
  obtain ⟨x1, x1c, x2, x2c, x3, x3c, x4, x4c, rfl⟩ := o0.form
  have bx0 := box_new W4 #[.int .i64 d.t, .int .i64 d.c, .int .i64 d.s, .int .i64 d.ad, .int .i64 d.pl, .bool d.bl, .slice x1 d.nt x1c, .slice x2 d.nd x2c, .int .i64 d.cap, .slice x3 d.n x3c, .slice x4 d.mf x4c] 58
  have LA : Below W4.heap.size W4 (W4.alloc (.cells #[.int .i64 d.t, .int .i64 d.c, .int .i64 d.s, .int .i64 d.ad, .int .i64 d.pl, .bool d.bl, .slice x1 d.nt x1c, .slice x2 d.nd x2c, .int .i64 d.cap, .slice x3 d.n x3c, .slice x4 d.mf x4c] 58)) := (Below.refl _ _).alloc (Nat.le_refl _) _
  go_upto_region 7 with (fail)
  have C5 := below_snoc C4 LA
  replace k0 := box_keep k0 LA (boxLt k0)
  replace o0 := o0.below LA
  have sz5 := LA.size
  clear LA C4
  obtain ⟨zbx0, hzbx0⟩ : ∃ z, Hid (z = W4.heap.size) := ⟨_, rfl⟩
  rw [← hzbx0.out] at bx0 ⊢
  generalize W4.alloc (.cells #[.int .i64 d.t, .int .i64 d.c, .int .i64 d.s, .int .i64 d.ad, .int .i64 d.pl, .bool d.bl, .slice x1 d.nt x1c, .slice x2 d.nd x2c, .int .i64 d.cap, .slice x3 d.n x3c, .slice x4 d.mf x4c] 58) = W5 at *
  have gzbx0 : W4.heap.size ≤ zbx0 := by rw [hzbx0.out]; exact Nat.le_refl _
  have lzbx0 := boxLt bx0
  clear hzbx0
  have c_bx0 := boxC bx0
  go_wp2_with fail
  clear c_bx0
  refine (HI.out _ _ _ o0).mono ?_
  rintro e W6 ⟨rfl, L⟩
  have C6 := below_snoc C5 L
  replace k0 := box_keep k0 L (boxLt k0)
  replace bx0 := box_keep bx0 L (boxLt bx0)
  replace o0 := o0.below L
  have sz6 := L.size
  clear L C5
  have hrr : (rb != rb) = false := by simp
  go_upto_region 10 with (fail)
  rename_i K2 hK2 K3' hK3'
  refine wp_region_eff [some 22, some 23, some 24, some 25, some 26] (by kernel_rfl) (by kernel_rfl) (by kernel_rfl) (by kernel_rfl) (by simp [slotsOf])
    (fun _ _ _ => False)
    (fun i v W => match i with
      | 0 => v = .agg #[.int .i64 d.t, .int .i64 d.c, .int .i64 d.s, .int .i64 d.ad, .int .i64 d.pl, .bool d.bl, .slice x1 d.nt x1c, .slice x2 d.nd x2c, .int .i64 d.cap, .slice x3 d.n x3c, .slice x4 d.mf x4c]
      | 1 => v = .agg #[.int .i64 d.t, .int .i64 d.c, .int .i64 d.s, .int .i64 d.ad, .int .i64 d.pl, .bool d.bl, .slice a1 d.nt a1c, .slice a2 d.nd a2c, .int .i64 d.cap, .slice a3 d.n a3c, .slice a4 d.mf a4c]
      | 2 => ∃ vX DX, v = vX ∧ PcOn W DX vX d
      | 3 => v = .bool true
      | _ => v = .bool false) ?_ ?_ ?_
  · intro i j o v W W' hij _ _ hW h
    match i, h with
    | 0, h => exact h
    | 1, h => exact h
    | 2, ⟨vX, DX, h1, h2⟩ => exact ⟨vX, DX, h1, h2.keep hW (fun _ _ _ _ _ x => x)⟩
    | 3, h => exact h
    | _ + 4, h => exact h
  · intro i o a' W K ho F L hw hK
    have t1 := F.get (t := 1) (v := .pointer (some ⟨w.heap.size, 0, none⟩)) (by decide) rfl
    have t5 := F.get (t := 5) (v := .pointer (some ⟨zbx0, 0, none⟩)) (by decide) rfl
    have LB : Below W6.heap.size W6 W := L.below (Nat.le_refl _) (fun b o _ ⟨j, _, _, _, _, h⟩ => h)
    match i with
    | 0 =>
        simp only [List.getElem?_toArray, List.getElem?_cons_zero, List.getElem?_cons_succ, Option.some.injEq] at ho
        subst ho
        have rb' := boxC (box_keep bx0 LB (boxLt bx0))
        go_simp
        exact hK _ _ (Wrote.refl _ _) rfl
    | 1 =>
        simp only [List.getElem?_toArray, List.getElem?_cons_zero, List.getElem?_cons_succ, Option.some.injEq] at ho
        subst ho
        have rb' := boxC (box_keep k0 LB (boxLt k0))
        go_simp
        exact hK _ _ (Wrote.refl _ _) rfl
    | 2 =>
        simp only [List.getElem?_toArray, List.getElem?_cons_zero, List.getElem?_cons_succ, Option.some.injEq] at ho
        subst ho
        have q1 : a'.tmps[23]?.getD undef = .agg #[.int .i64 d.t, .int .i64 d.c, .int .i64 d.s, .int .i64 d.ad, .int .i64 d.pl, .bool d.bl, .slice a1 d.nt a1c, .slice a2 d.nd a2c, .int .i64 d.cap, .slice a3 d.n a3c, .slice a4 d.mf a4c] := hw 1 (by kernel_rfl)
        go_simp
        refine (onToPicture W d a1 a1c a2 a2c a3 a3c a4 a4c _ _ _ (intsOfRow (hr1.keep (wrote_below (below_snoc C6 LB) Nowhere) (fun _ _ _ x => x)) hnt1) (intsOfRow (hr2.keep (wrote_below (below_snoc C6 LB) Nowhere) (fun _ _ _ x => x)) hnd1) hn1 (hr3.keep (wrote_below (below_snoc C6 LB) Nowhere) (fun _ _ _ x => x)) ((hR.below (below_snoc C6 LB)).ints hm1) hm1).mono ?_
        rintro e W' ⟨DX, vX, rfl, oX, -, -, LX⟩
        exact hK _ _ (wrote_below LX _) ⟨vX, _, rfl, oX⟩
    | 3 =>
        simp only [List.getElem?_toArray, List.getElem?_cons_zero, List.getElem?_cons_succ, Option.some.injEq] at ho
        subst ho
        have q0 : a'.tmps[22]?.getD undef = .agg #[.int .i64 d.t, .int .i64 d.c, .int .i64 d.s, .int .i64 d.ad, .int .i64 d.pl, .bool d.bl, .slice x1 d.nt x1c, .slice x2 d.nd x2c, .int .i64 d.cap, .slice x3 d.n x3c, .slice x4 d.mf x4c] := hw 0 (by kernel_rfl)
        obtain ⟨vX, DX, q2, oX⟩ : ∃ vX DX, a'.tmps[24]?.getD undef = vX ∧ PcOn W DX vX d := hw 2 (by kernel_rfl)
        go_simp
        refine (onEqPicture W _ _ _ _ d (o0.below LB) oX).mono ?_
        rintro e W' ⟨rfl, LX⟩
        exact hK _ _ (wrote_below LX _) rfl
    | 4 =>
        simp only [List.getElem?_toArray, List.getElem?_cons_zero, List.getElem?_cons_succ, Option.some.injEq] at ho
        subst ho
        have q3 : a'.tmps[25]?.getD undef = .bool true := hw 3 (by kernel_rfl)
        go_simp
        exact hK _ _ (Wrote.refl _ _) rfl
    | _ + 5 => simp at ho
  · intro a' W F L hφ
    have LB : Below W6.heap.size W6 W := L.below (Nat.le_refl _) (fun b o _ ⟨j, h⟩ => h)
    have v4 : a'.tmps[26]?.getD undef = .bool false := hφ 4 (by decide)
    rw [F.same, show slotsOf [some 22, some 23, some 24, some 25, some 26] = [22, 23, 24, 25, 26] from rfl]
    simp only [List.foldl_cons, List.foldl_nil]
    rw [v4]
    generalize a'.tmps[22]?.getD undef = s0
    generalize a'.tmps[23]?.getD undef = s1'
    generalize a'.tmps[24]?.getD undef = s2
    generalize a'.tmps[25]?.getD undef = s3
    clear hφ L F v4
    refine hK3' _ _ ?_
    go_simp
    obtain ⟨W7, hWW⟩ : ∃ x, x = W := ⟨_, rfl⟩
    subst hWW
    have C7 := below_snoc C6 LB
    replace k0 := box_keep k0 LB (boxLt k0)
    replace bx0 := box_keep bx0 LB (boxLt bx0)
    replace o0 := o0.below LB
    have sz7 := LB.size
    clear LB C6
    go_wp2
    go_ret
    exact ⟨rfl, C7⟩
end Go.Proofs.Ytpaedkefmebjjas
