/-
  FnExactSoundOk.
-/
import Derived.Test.YtpaedkefmebjjatTI
import Derived.Test.YtpaedkefmebjjatG0
import Derived.Deep.RegionHeld3
import Derived.Deep.DeepCutAuto
namespace Go.Proofs.Ytpaedkefmebjjat
set_option linter.unusedVariables false
set_option linter.unusedSimpArgs false
open Go.ChangeShapes Go.WideShapes Go.ChangeAt Go.RowKit
set_option maxRecDepth 40000 in
set_option maxHeartbeats 4000000 in
theorem lawSoundOk (w : World) (d : SnD) (a : Option Addr) (c : Nat) (a2 : Option Addr) (c2 : Nat) (h1 : d.n ≤ 9223372036854775807) (h2 : d.ns ≤ 9223372036854775807) (hr : RowOf .i64 w a (d.n * 3) d.f) (hs : RowOf .i64 w a2 d.ns d.sm) : Calls Try.prog 3 #[.agg #[.int .i64 d.T, .int .i64 d.P, .int .i64 d.C, .int .i64 d.B, .int .i64 d.L, .bool d.S, .bool d.Q, .int .i64 d.cap, .slice a d.n c, .slice a2 d.ns c2]] w fun e w' => e = .returned (.bool true) ∧ Below w.heap.size w w' := by
  have C0 : Below w.heap.size w (w.alloc (.cells #[.int .i64 d.T, .int .i64 d.P, .int .i64 d.C, .int .i64 d.B, .int .i64 d.L, .bool d.S, .bool d.Q, .int .i64 d.cap, .slice a d.n c, .slice a2 d.ns c2] 29)) := (Below.refl _ _).alloc (Nat.le_refl _) _
  have k0 := box_new w #[.int .i64 d.T, .int .i64 d.P, .int .i64 d.C, .int .i64 d.B, .int .i64 d.L, .bool d.S, .bool d.Q, .int .i64 d.cap, .slice a d.n c, .slice a2 d.ns c2] 29
  have HZ := hide (fun W => szSound W d a c a2 c2 1048576 h1 h2 (by omega) (by omega))
  obtain ⟨lf, hlf⟩ : ∃ x, Hid (x = szOut 1048576 ((d.n + d.ns : Nat))) := ⟨_, rfl⟩
  rw [← hlf.out] at HZ
  go_enter Try.func3, Try.ntmps3
  go_wp2_with fail
  generalize w.alloc (.cells #[.int .i64 d.T, .int .i64 d.P, .int .i64 d.C, .int .i64 d.B, .int .i64 d.L, .bool d.S, .bool d.Q, .int .i64 d.cap, .slice a d.n c, .slice a2 d.ns c2] 29) = W0 at *
  refine (HZ.out _).mono ?_
  rintro e W1 ⟨rfl, L⟩
  have C1 := below_snoc C0 L
  replace k0 := box_keep k0 L (boxLt k0)
  have hk00 := boxLt k0
  clear L C0 HZ
  by_cases hbig : (1048576 : Int) < (((d.n + d.ns : Nat)) : Int)
  · obtain rfl : lf = -1 := by rw [hlf.out]; exact szOut_no hbig
    go_wp2
    go_ret
    exact ⟨rfl, C1⟩
  have hn1 : d.n ≤ 1048576 := by omega
  have hs1 : d.ns ≤ 1048576 := by omega
  have hnn : ¬ (lf < 0) := by rw [hlf.out, szOut_ok (by omega)]; omega
  clear hlf hbig
  have c_k0 := boxC k0
  go_wp2_with fail
  clear c_k0
  refine (onToSound _ d a c a2 c2 hn1 hs1 (hr.keep (wrote_below C1 Nowhere) (fun _ _ _ x => x)) (hs.keep (wrote_below C1 Nowhere) (fun _ _ _ x => x))).mono ?_
  rintro e W2 ⟨DS, vS, rfl, oS, -, -, L⟩
  have C2 := below_snoc C1 L
  replace k0 := box_keep k0 L (boxLt k0)
  have sz2 := L.size
  clear L C1
  go_wp2_with fail
  have HI := hide (fun W D v h => implSoundOk W D v d h)
  have HS := hide (fun W D v h => specSoundOk W D v d h)
  obtain ⟨rb, hrb⟩ : ∃ x, Hid (x = okSn d) := ⟨_, rfl⟩
  rw [← hrb.out] at HI HS
  clear hrb
  refine (HS.out _ _ _ oS).mono ?_
  rintro e W3 ⟨rfl, L⟩
  have C3 := below_snoc C2 L
  replace k0 := box_keep k0 L (boxLt k0)
  replace oS := oS.below L
  have sz3 := L.size
  clear L C2
  clear oS
  have c_k0 := boxC k0
  go_wp2_with fail
  clear c_k0
  refine (onToSound _ d a c a2 c2 hn1 hs1 (hr.keep (wrote_below C3 Nowhere) (fun _ _ _ x => x)) (hs.keep (wrote_below C3 Nowhere) (fun _ _ _ x => x))).mono ?_
  rintro e W4 ⟨D0, v0, rfl, o0, -, -, L⟩
  have C4 := below_snoc C3 L
  replace k0 := box_keep k0 L (boxLt k0)
  have sz4 := L.size
  clear L C3
  obtain ⟨xa, xc, xa2, xc2, rfl⟩ := o0.form
  have bx0 := box_new W4 #[.int .i64 d.T, .int .i64 d.P, .int .i64 d.C, .int .i64 d.B, .int .i64 d.L, .bool d.S, .bool d.Q, .int .i64 d.cap, .slice xa d.n xc, .slice xa2 d.ns xc2] 37
  have LA : Below W4.heap.size W4 (W4.alloc (.cells #[.int .i64 d.T, .int .i64 d.P, .int .i64 d.C, .int .i64 d.B, .int .i64 d.L, .bool d.S, .bool d.Q, .int .i64 d.cap, .slice xa d.n xc, .slice xa2 d.ns xc2] 37)) := (Below.refl _ _).alloc (Nat.le_refl _) _
  go_upto_region 7 with (fail)
  have C5 := below_snoc C4 LA
  replace k0 := box_keep k0 LA (boxLt k0)
  replace o0 := o0.below LA
  have sz5 := LA.size
  clear LA C4
  obtain ⟨zbx0, hzbx0⟩ : ∃ z, Hid (z = W4.heap.size) := ⟨_, rfl⟩
  rw [← hzbx0.out] at bx0 ⊢
  generalize W4.alloc (.cells #[.int .i64 d.T, .int .i64 d.P, .int .i64 d.C, .int .i64 d.B, .int .i64 d.L, .bool d.S, .bool d.Q, .int .i64 d.cap, .slice xa d.n xc, .slice xa2 d.ns xc2] 37) = W5 at *
  have gzbx0 : W4.heap.size ≤ zbx0 := by rw [hzbx0.out]; exact Nat.le_refl _
  have lzbx0 := boxLt bx0
  clear hzbx0
  have c_bx0 := boxC bx0
  go_wp2_with fail
  clear c_bx0
  refine (HI.out _ _ _ o0).mono ?_
  rintro e W6 ⟨rfl, L⟩
  have C6 := below_snoc C5 L
  replace k0 := box_keep k0 L (boxLt k0)
  replace bx0 := box_keep bx0 L (boxLt bx0)
  replace o0 := o0.below L
  have sz6 := L.size
  clear L C5
  have hrr : (rb != rb) = false := by simp
  go_upto_region 10 with (fail)
  rename_i K2 hK2 K3' hK3'
  refine wp_region_eff [some 22, some 23, some 24, some 25, some 26] (by kernel_rfl) (by kernel_rfl) (by kernel_rfl) (by kernel_rfl) (by simp [slotsOf])
    (fun _ _ _ => False)
    (fun i v W => match i with
      | 0 => v = .agg #[.int .i64 d.T, .int .i64 d.P, .int .i64 d.C, .int .i64 d.B, .int .i64 d.L, .bool d.S, .bool d.Q, .int .i64 d.cap, .slice xa d.n xc, .slice xa2 d.ns xc2]
      | 1 => v = .agg #[.int .i64 d.T, .int .i64 d.P, .int .i64 d.C, .int .i64 d.B, .int .i64 d.L, .bool d.S, .bool d.Q, .int .i64 d.cap, .slice a d.n c, .slice a2 d.ns c2]
      | 2 => ∃ vX DX, v = vX ∧ SnOn W DX vX d
      | 3 => v = .bool true
      | _ => v = .bool false) ?_ ?_ ?_
  · intro i j o v W W' hij _ _ hW h
    match i, h with
    | 0, h => exact h
    | 1, h => exact h
    | 2, ⟨vX, DX, h1, h2⟩ => exact ⟨vX, DX, h1, h2.keep hW (fun _ _ _ _ _ x => x)⟩
    | 3, h => exact h
    | _ + 4, h => exact h
  · intro i o a' W K ho F L hw hK
    have t1 := F.get (t := 1) (v := .pointer (some ⟨w.heap.size, 0, none⟩)) (by decide) rfl
    have t5 := F.get (t := 5) (v := .pointer (some ⟨zbx0, 0, none⟩)) (by decide) rfl
    have LB : Below W6.heap.size W6 W := L.below (Nat.le_refl _) (fun b o _ ⟨j, _, _, _, _, h⟩ => h)
    match i with
    | 0 =>
        simp only [List.getElem?_toArray, List.getElem?_cons_zero, List.getElem?_cons_succ, Option.some.injEq] at ho
        subst ho
        have rb' := boxC (box_keep bx0 LB (boxLt bx0))
        go_simp
        exact hK _ _ (Wrote.refl _ _) rfl
    | 1 =>
        simp only [List.getElem?_toArray, List.getElem?_cons_zero, List.getElem?_cons_succ, Option.some.injEq] at ho
        subst ho
        have rb' := boxC (box_keep k0 LB (boxLt k0))
        go_simp
        exact hK _ _ (Wrote.refl _ _) rfl
    | 2 =>
        simp only [List.getElem?_toArray, List.getElem?_cons_zero, List.getElem?_cons_succ, Option.some.injEq] at ho
        subst ho
        have q1 : a'.tmps[23]?.getD undef = .agg #[.int .i64 d.T, .int .i64 d.P, .int .i64 d.C, .int .i64 d.B, .int .i64 d.L, .bool d.S, .bool d.Q, .int .i64 d.cap, .slice a d.n c, .slice a2 d.ns c2] := hw 1 (by kernel_rfl)
        go_simp
        refine (onToSound W d a c a2 c2 hn1 hs1 (hr.keep (wrote_below (below_snoc C6 LB) Nowhere) (fun _ _ _ x => x)) (hs.keep (wrote_below (below_snoc C6 LB) Nowhere) (fun _ _ _ x => x))).mono ?_
        rintro e W' ⟨DX, vX, rfl, oX, -, -, LX⟩
        exact hK _ _ (wrote_below LX _) ⟨vX, _, rfl, oX⟩
    | 3 =>
        simp only [List.getElem?_toArray, List.getElem?_cons_zero, List.getElem?_cons_succ, Option.some.injEq] at ho
        subst ho
        have q0 : a'.tmps[22]?.getD undef = .agg #[.int .i64 d.T, .int .i64 d.P, .int .i64 d.C, .int .i64 d.B, .int .i64 d.L, .bool d.S, .bool d.Q, .int .i64 d.cap, .slice xa d.n xc, .slice xa2 d.ns xc2] := hw 0 (by kernel_rfl)
        obtain ⟨vX, DX, q2, oX⟩ : ∃ vX DX, a'.tmps[24]?.getD undef = vX ∧ SnOn W DX vX d := hw 2 (by kernel_rfl)
        go_simp
        refine (onEqSound W _ _ _ _ d (o0.below LB) oX).mono ?_
        rintro e W' ⟨rfl, LX⟩
        exact hK _ _ (wrote_below LX _) rfl
    | 4 =>
        simp only [List.getElem?_toArray, List.getElem?_cons_zero, List.getElem?_cons_succ, Option.some.injEq] at ho
        subst ho
        have q3 : a'.tmps[25]?.getD undef = .bool true := hw 3 (by kernel_rfl)
        go_simp
        exact hK _ _ (Wrote.refl _ _) rfl
    | _ + 5 => simp at ho
  · intro a' W F L hφ
    have LB : Below W6.heap.size W6 W := L.below (Nat.le_refl _) (fun b o _ ⟨j, h⟩ => h)
    have v4 : a'.tmps[26]?.getD undef = .bool false := hφ 4 (by decide)
    rw [F.same, show slotsOf [some 22, some 23, some 24, some 25, some 26] = [22, 23, 24, 25, 26] from rfl]
    simp only [List.foldl_cons, List.foldl_nil]
    rw [v4]
    generalize a'.tmps[22]?.getD undef = s0
    generalize a'.tmps[23]?.getD undef = s1'
    generalize a'.tmps[24]?.getD undef = s2
    generalize a'.tmps[25]?.getD undef = s3
    clear hφ L F v4
    refine hK3' _ _ ?_
    go_simp
    obtain ⟨W7, hWW⟩ : ∃ x, x = W := ⟨_, rfl⟩
    subst hWW
    have C7 := below_snoc C6 LB
    replace k0 := box_keep k0 LB (boxLt k0)
    replace bx0 := box_keep bx0 LB (boxLt bx0)
    replace o0 := o0.below LB
    have sz7 := LB.size
    clear LB C6
    go_wp2
    go_ret
    exact ⟨rfl, C7⟩
end Go.Proofs.Ytpaedkefmebjjat
