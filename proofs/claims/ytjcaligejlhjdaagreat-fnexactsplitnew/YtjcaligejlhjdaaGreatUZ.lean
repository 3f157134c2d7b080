/-
  FnExactSplitNew.
-/
import Derived.Test.YtjcaligejlhjdaaGreatUT
import Derived.Test.YtjcaligejlhjdaaGreatUM
import Derived.Test.YtjcaligejlhjdaaGreatG0
import Derived.Deep.RegionHeld3
import Derived.Deep.DeepCutAuto
namespace Go.Proofs.YtjcaligejlhjdaaGreat
set_option linter.unusedVariables false
set_option linter.unusedSimpArgs false
open Go.ChangeShapes Go.WideShapes Go.ChangeAt Go.RowKit
theorem wpList_load_rowN {P : Program} {ops : Array Oper} {rest : List Oper} {o : Oper} {a : Act} {w : World} {Q : Exit → Act → World → Prop} (hw : Region.wanted o (yielded ops a.tmps) = true) (ty : TypeId) (x : Operand) (ho : o.op = .load ty x)
    (g : Nat) (hx : a.eval x = .pointer (some ⟨g, 0, none⟩)) (t : TypeId) (cs : Array Value) (fr : Nat × Nat) (d : TypeDesc) (hg : w.heap[g]? = some (.cells cs t fr))
    (hu : P.underlying ty = some d) (hd : (match d with | .struct _ | .array _ _ => true | _ => false) = true) (hi : (P.info? ty).map (·.size) = some cs.size)
    (h : wpList P ops Q rest (a.put o.dst (.agg cs)) w) : wpList P ops Q (o :: rest) a w :=
  wpList_step fun K hK => by rw [if_pos hw]; exact wp_load_row ty x ho g hx t cs fr d hg hu hd hi (hK _ _ h)
theorem markSN_new {m : Nat} {ln : Nat → Nat} {f : Nat → Nat → Int} {np : Nat} {p : Nat → Int} {cap : Int} (hs : m + psum ln m ≤ 1048576) (hn : np ≤ 1048576) : 1 + markSN (if okSplit (newS m ln f np p cap) then newS m ln f np p cap else zeroS) ≤ 1099000000000 ∧ 0 ≤ markSN (if okSplit (newS m ln f np p cap) then newS m ln f np p cap else zeroS) := by
  split
  · have e : markSN (newS m ln f np p cap) = psum ln m + np + 512 + 16 := by simp [markSN, newS, zeroPc, zeroSnU, psum]
    rw [e]
    omega
  · have e : markSN zeroS = 0 := by simp [markSN, zeroS, zeroPc, zeroSnU, psum]
    rw [e]
    omega
set_option maxRecDepth 40000 in
set_option maxHeartbeats 8000000 in
theorem lawSplitNew (w : World) (u0 : Value) (m : Nat) (ra0 : Nat → Option Addr) (ln : Nat → Nat) (rc0 : Nat → Nat) (f : Nat → Nat → Int) (w0 : RawSS w u0 m ra0 ln rc0 f) (s1 : Option Addr) (n1 c1 : Nat) (f1 : Nat → Int) (hrow : RowOf .i64 w s1 n1 f1) (cap : Int) :
    Calls Tryz.prog 3 #[.agg #[u0], .slice s1 n1 c1, .int .i64 cap] w fun e w' => e = .returned (.bool true) ∧ Below w.heap.size w w' := by
  have C0 : Below w.heap.size w (w.alloc (.cells #[u0] 24)) := (Below.refl _ _).alloc (Nat.le_refl _) _
  have k0 : (w.alloc (.cells #[u0] 24)).heap[w.heap.size]? = some (.cells #[u0] 24 (0, 0)) := box_new w #[u0] 24
  by_cases hbig1 : (1048576 : Int) < (n1 : Int)
  · go_enter Tryz.func3, Tryz.ntmps3
    go_wp2
    go_ret
    exact ⟨rfl, C0⟩
  have hn1 : n1 ≤ 1048576 := by omega
  have HI1 : Ints .i64 w (fun _ _ => True) (.slice s1 n1 c1) n1 f1 := ⟨_, _, rfl, hn1, hrow, fun _ _ _ => trivial⟩
  clear hrow
  by_cases hbig0 : (1048576 : Int) < ((m + psum ln m : Nat) : Int)
  · have HZ0 := hide (szOut_no hbig0)
    clear hbig0
    go_enter Tryz.func3, Tryz.ntmps3
    go_wp2_with fail
    generalize (w.alloc (.cells #[u0] 24)) = W0 at *
    refine (szImage _ u0 m ra0 ln rc0 f (w0.below C0) (1048576) (by omega) (by omega)).mono ?_
    rintro e W1 ⟨rfl, L⟩
    rw [HZ0.out]
    have C1 := below_snoc C0 L
    clear L C0
    go_wp2
    go_ret
    exact ⟨rfl, C1⟩
  have HZ0 := hide (szOut_ok (show ((m + psum ln m : Nat) : Int) ≤ 1048576 by omega))
  have hsm0 : m + psum ln m ≤ 1048576 := by omega
  have hI0 := w0.ints hsm0
  have HMR := hide (markSN_new (f := f) (p := f1) (cap := cap) hsm0 hn1)
  go_enter Tryz.func3, Tryz.ntmps3
  go_wp2_with fail
  generalize (w.alloc (.cells #[u0] 24)) = W0 at *
  refine (szImage _ u0 m ra0 ln rc0 f (w0.below C0) (1048576) (by omega) (by omega)).mono ?_
  rintro e W1 ⟨rfl, L⟩
  rw [HZ0.out]
  obtain ⟨lf, hlf⟩ : ∃ lf : Int, Hid (lf = 1048576 - ((m + psum ln m : Nat) : Int)) := ⟨_, rfl⟩
  rw [← hlf.out]
  have hnn : ¬ (lf < 0) := by rw [hlf.out]; omega
  have C1 := below_snoc C0 L
  replace k0 := box_keep k0 L (boxLt k0)
  have hk00 := boxLt k0
  clear HZ0 hbig0 hlf L C0 w0
  have c_k0 := boxC k0
  go_wp2_with fail
  clear c_k0
  refine (onToImg _ _ u0 m ln f (hI0.keep (wrote_below C1 Nowhere) (fun _ _ _ x => x)) hsm0).mono ?_
  rintro e W2 ⟨vS, rfl, oS, L⟩
  have C2 := below_snoc C1 L
  replace k0 := box_keep k0 L (boxLt k0)
  have sz2 := L.size
  clear L C1
  go_wp2_with fail
  refine (onToList _ _ (.slice s1 n1 c1) n1 f1 (HI1.keep (wrote_below C2 Nowhere) (fun _ _ _ x => x))).mono ?_
  rintro e W3 ⟨vP, rfl, oP, L⟩
  have C3 := below_snoc C2 L
  replace k0 := box_keep k0 L (boxLt k0)
  replace oS := oS.below L
  have sz3 := L.size
  clear L C2
  go_wp2_with fail
  refine (specSplitNew _ _ _ vS vP m ln f n1 f1 cap oS.ints oP.intsR).mono ?_
  rintro e W4 ⟨vW, rfl, ⟨DW, oW, -, bW⟩, L⟩
  have C4 := below_snoc C3 L
  replace k0 := box_keep k0 L (boxLt k0)
  replace oS := oS.below L
  replace oP := oP.below L
  have sz4 := L.size
  clear L C3
  clear oS oP
  obtain ⟨cW, rfl, scW, onecW⟩ := oW.agg
  have HI := hide (fun W D0 D1 u v h k => implSplitNew W D0 D1 u v m ln f n1 f1 cap h k)
  obtain ⟨rd, hrd⟩ : ∃ x, Hid (x = if okSplit (newS m ln f n1 f1 cap) then newS m ln f n1 f1 cap else zeroS) := ⟨_, rfl⟩
  rw [← hrd.out] at oW HMR HI
  obtain ⟨rb, hrb⟩ : ∃ x, Hid (x = okSplit (newS m ln f n1 f1 cap)) := ⟨_, rfl⟩
  rw [← hrb.out] at HI ⊢
  clear hrd hrb
  have hst := run_storeCells_new (P := Tryz.prog) W4 46 #[.slice none 0 0, .slice none 0 0, .slice none 0 0, .int .i64 0, .int .i64 0, .int .i64 0, .int .i64 0, .int .i64 0, .bool false, .bool false, .bool false, .bool false, .bool false, .int .i64 0, .int .i64 0, .bool false, .int .i64 0, .bool false, .int .i64 0, .int .i64 0, .slice none 0 0, .int .i64 0, .int .i64 0, .int .i64 0, .int .i64 0, .int .i64 0, .bool false, .slice none 0 0, .slice none 0 0, .int .i64 0, .slice none 0 0, .slice none 0 0, .int .i64 0, .int .i64 0, .int .i64 0, .int .i64 0, .int .i64 0, .bool false, .bool false, .int .i64 0, .slice none 0 0, .slice none 0 0] cW (infoAtT infoSplit scW) (by rw [scW]; rfl) onecW
  have bxW := box_new W4 cW 46
  have LA : Below W4.heap.size W4 (W4.alloc (.cells cW 46)) := (Below.refl _ _).alloc (Nat.le_refl _) _
  go_upto_region 8 with (fail)
  clear hst
  have C5 := below_snoc C4 LA
  replace k0 := box_keep k0 LA (boxLt k0)
  replace oW := oW.below LA
  have sz5 := LA.size
  clear LA C4
  obtain ⟨zbxW, hzbxW⟩ : ∃ z, Hid (z = W4.heap.size) := ⟨_, rfl⟩
  rw [← hzbxW.out] at bxW ⊢
  generalize W4.alloc (.cells cW 46) = W5 at *
  have gzbxW : W4.heap.size ≤ zbxW := by rw [hzbxW.out]; exact Nat.le_refl _
  have lzbxW := boxLt bxW
  clear hzbxW
  have c_k0 := boxC k0
  go_wp2_with fail
  clear c_k0
  refine (onToImg _ _ u0 m ln f (hI0.keep (wrote_below C5 Nowhere) (fun _ _ _ x => x)) hsm0).mono ?_
  rintro e W6 ⟨v0, rfl, o0, L⟩
  have C6 := below_snoc C5 L
  replace k0 := box_keep k0 L (boxLt k0)
  replace bxW := box_keep bxW L (boxLt bxW)
  replace oW := oW.below L
  have sz6 := L.size
  clear L C5
  obtain ⟨xa, xc, rfl⟩ := o0.form
  have bxI := box_new W6 #[.slice xa m xc] 27
  have LA : Below W6.heap.size W6 (W6.alloc (.cells #[.slice xa m xc] 27)) := (Below.refl _ _).alloc (Nat.le_refl _) _
  go_upto_region 9 with (fail)
  have C7 := below_snoc C6 LA
  replace k0 := box_keep k0 LA (boxLt k0)
  replace bxW := box_keep bxW LA (boxLt bxW)
  replace oW := oW.below LA
  replace o0 := o0.below LA
  have sz7 := LA.size
  clear LA C6
  obtain ⟨zbxI, hzbxI⟩ : ∃ z, Hid (z = W6.heap.size) := ⟨_, rfl⟩
  rw [← hzbxI.out] at bxI ⊢
  generalize W6.alloc (.cells #[.slice xa m xc] 27) = W7 at *
  have gzbxI : W6.heap.size ≤ zbxI := by rw [hzbxI.out]; exact Nat.le_refl _
  have lzbxI := boxLt bxI
  clear hzbxI
  go_wp2_with fail
  refine (onToList _ _ (.slice s1 n1 c1) n1 f1 (HI1.keep (wrote_below C7 Nowhere) (fun _ _ _ x => x))).mono ?_
  rintro e W8 ⟨vQ, rfl, oQ, L⟩
  have C8 := below_snoc C7 L
  replace k0 := box_keep k0 L (boxLt k0)
  replace bxW := box_keep bxW L (boxLt bxW)
  replace bxI := box_keep bxI L (boxLt bxI)
  replace oW := oW.below L
  replace o0 := o0.below L
  have sz8 := L.size
  clear L C7
  obtain ⟨ya, yc, rfl⟩ := oQ.two
  have c_bxI := boxC bxI
  go_wp2_with fail
  clear c_bxI
  refine (HI.out _ _ _ _ _ o0 oQ).mono ?_
  rintro e W9 ⟨vG, rfl, ⟨DG, oG, dG, bG⟩, L⟩
  have C9 := below_snoc C8 L
  replace k0 := box_keep k0 L (boxLt k0)
  replace bxW := box_keep bxW L (boxLt bxW)
  replace bxI := box_keep bxI L (boxLt bxI)
  replace oW := oW.below L
  replace o0 := o0.below L
  replace oQ := oQ.below L
  have sz9 := L.size
  clear L C8
  obtain ⟨cG, rfl, scG, onecG⟩ := oG.agg
  have hst := run_storeCells_new (P := Tryz.prog) W9 46 #[.slice none 0 0, .slice none 0 0, .slice none 0 0, .int .i64 0, .int .i64 0, .int .i64 0, .int .i64 0, .int .i64 0, .bool false, .bool false, .bool false, .bool false, .bool false, .int .i64 0, .int .i64 0, .bool false, .int .i64 0, .bool false, .int .i64 0, .int .i64 0, .slice none 0 0, .int .i64 0, .int .i64 0, .int .i64 0, .int .i64 0, .int .i64 0, .bool false, .slice none 0 0, .slice none 0 0, .int .i64 0, .slice none 0 0, .slice none 0 0, .int .i64 0, .int .i64 0, .int .i64 0, .int .i64 0, .int .i64 0, .bool false, .bool false, .int .i64 0, .slice none 0 0, .slice none 0 0] cG (infoAtT infoSplit scG) (by rw [scG]; rfl) onecG
  have bxG := box_new W9 cG 46
  have LA : Below W9.heap.size W9 (W9.alloc (.cells cG 46)) := (Below.refl _ _).alloc (Nat.le_refl _) _
  go_upto_region 11 with (fail)
  clear hst
  have C10 := below_snoc C9 LA
  replace k0 := box_keep k0 LA (boxLt k0)
  replace bxW := box_keep bxW LA (boxLt bxW)
  replace bxI := box_keep bxI LA (boxLt bxI)
  replace oW := oW.below LA
  replace o0 := o0.below LA
  replace oQ := oQ.below LA
  replace oG := oG.below LA
  have sz10 := LA.size
  clear LA C9
  obtain ⟨zbxG, hzbxG⟩ : ∃ z, Hid (z = W9.heap.size) := ⟨_, rfl⟩
  rw [← hzbxG.out] at bxG ⊢
  generalize W9.alloc (.cells cG 46) = W10 at *
  have gzbxG : W9.heap.size ≤ zbxG := by rw [hzbxG.out]; exact Nat.le_refl _
  have lzbxG := boxLt bxG
  clear hzbxG
  refine wp_region_lit ?_
  refine wpList_load_row rfl _ _ rfl (zbxG) rfl _ _ _ _ bxG Tryz.underlying46 rfl (infoAtT infoSplit scG) ?_
  refine wpList_load_row rfl _ _ rfl (zbxW) rfl _ _ _ _ bxW Tryz.underlying46 rfl (infoAtT infoSplit scW) ?_
  go_wp2_with fail
  refine (onEqSplit _ _ _ _ _ rd oG oW).mono ?_
  rintro e W11 ⟨rfl, L⟩
  have C11 := below_snoc C10 L
  replace k0 := box_keep k0 L (boxLt k0)
  replace bxW := box_keep bxW L (boxLt bxW)
  replace bxI := box_keep bxI L (boxLt bxI)
  replace bxG := box_keep bxG L (boxLt bxG)
  replace oW := oW.below L
  replace o0 := o0.below L
  replace oQ := oQ.below L
  replace oG := oG.below L
  have sz11 := L.size
  clear L C10
  have hrr : (rb != rb) = false := by simp
  go_upto_region 13 with (fail)
  rename_i K2 hK2 K3' hK3'
  refine wp_region_eff [some 56, some 57, some 58, some 59, some 60] (by kernel_rfl) (by kernel_rfl) (by kernel_rfl) (by kernel_rfl) (by simp [slotsOf])
    (fun _ _ _ => False)
    (fun i v W => match i with
      | 0 => v = .agg #[.slice xa m xc]
      | 1 => v = .agg #[u0]
      | 2 => ∃ vX DX, v = .agg #[vX] ∧ SsOn W DX vX m ln f
      | 3 => v = .bool true
      | _ => v = .bool false) ?_ ?_ ?_
  · intro i j o v W W' hij _ _ hW h
    match i, h with
    | 0, h => exact h
    | 1, h => exact h
    | 2, ⟨vX, DX, h1, h2⟩ => exact ⟨vX, DX, h1, h2.keep hW (fun _ _ _ _ x => x)⟩
    | 3, h => exact h
    | _ + 4, h => exact h
  · intro i o a' W K ho F L hw hK
    have t3 := F.get (t := 3) (v := .pointer (some ⟨w.heap.size, 0, none⟩)) (by decide) rfl
    have t10 := F.get (t := 10) (v := .pointer (some ⟨zbxI, 0, none⟩)) (by decide) rfl
    have LB : Below W11.heap.size W11 W := L.below (Nat.le_refl _) (fun b o _ ⟨j, _, _, _, _, h⟩ => h)
    match i with
    | 0 =>
        simp only [List.getElem?_toArray, List.getElem?_cons_zero, List.getElem?_cons_succ, Option.some.injEq] at ho
        subst ho
        have rb' := boxC (box_keep bxI LB (boxLt bxI))
        go_simp
        exact hK _ _ (Wrote.refl _ _) rfl
    | 1 =>
        simp only [List.getElem?_toArray, List.getElem?_cons_zero, List.getElem?_cons_succ, Option.some.injEq] at ho
        subst ho
        have rb' := boxC (box_keep k0 LB (boxLt k0))
        go_simp
        exact hK _ _ (Wrote.refl _ _) rfl
    | 2 =>
        simp only [List.getElem?_toArray, List.getElem?_cons_zero, List.getElem?_cons_succ, Option.some.injEq] at ho
        subst ho
        have q1 : a'.tmps[57]?.getD undef = .agg #[u0] := hw 1 (by kernel_rfl)
        go_simp
        refine (onToImg W _ u0 m ln f (hI0.keep (wrote_below (below_snoc C11 LB) Nowhere) (fun _ _ _ x => x)) hsm0).mono ?_
        rintro e W' ⟨vX, rfl, oX, LX⟩
        exact hK _ _ (wrote_below LX _) ⟨vX, _, rfl, oX⟩
    | 3 =>
        simp only [List.getElem?_toArray, List.getElem?_cons_zero, List.getElem?_cons_succ, Option.some.injEq] at ho
        subst ho
        have q0 : a'.tmps[56]?.getD undef = .agg #[.slice xa m xc] := hw 0 (by kernel_rfl)
        obtain ⟨vX, DX, q2, oX⟩ : ∃ vX DX, a'.tmps[58]?.getD undef = .agg #[vX] ∧ SsOn W DX vX m ln f := hw 2 (by kernel_rfl)
        go_simp
        refine (onEqImg W _ _ _ _ m ln f (o0.below LB) oX).mono ?_
        rintro e W' ⟨rfl, LX⟩
        exact hK _ _ (wrote_below LX _) rfl
    | 4 =>
        simp only [List.getElem?_toArray, List.getElem?_cons_zero, List.getElem?_cons_succ, Option.some.injEq] at ho
        subst ho
        have q3 : a'.tmps[59]?.getD undef = .bool true := hw 3 (by kernel_rfl)
        go_simp
        exact hK _ _ (Wrote.refl _ _) rfl
    | _ + 5 => simp at ho
  · intro a' W F L hφ
    have LB : Below W11.heap.size W11 W := L.below (Nat.le_refl _) (fun b o _ ⟨j, h⟩ => h)
    have v4 : a'.tmps[60]?.getD undef = .bool false := hφ 4 (by decide)
    rw [F.same, show slotsOf [some 56, some 57, some 58, some 59, some 60] = [56, 57, 58, 59, 60] from rfl]
    simp only [List.foldl_cons, List.foldl_nil]
    rw [v4]
    generalize a'.tmps[56]?.getD undef = s0
    generalize a'.tmps[57]?.getD undef = s1'
    generalize a'.tmps[58]?.getD undef = s2
    generalize a'.tmps[59]?.getD undef = s3
    clear hφ L F v4
    refine hK3' _ _ ?_
    go_simp
    obtain ⟨W12, hWW⟩ : ∃ x, x = W := ⟨_, rfl⟩
    subst hWW
    have C12 := below_snoc C11 LB
    replace k0 := box_keep k0 LB (boxLt k0)
    replace bxW := box_keep bxW LB (boxLt bxW)
    replace bxI := box_keep bxI LB (boxLt bxI)
    replace bxG := box_keep bxG LB (boxLt bxG)
    replace oW := oW.below LB
    replace o0 := o0.below LB
    replace oQ := oQ.below LB
    replace oG := oG.below LB
    have sz12 := LB.size
    clear LB C11
    go_wp2_with fail
    refine (onToList _ _ (.slice s1 n1 c1) n1 f1 (HI1.keep (wrote_below C12 Nowhere) (fun _ _ _ x => x))).mono ?_
    rintro e W13 ⟨vR, rfl, oR, L⟩
    have C13 := below_snoc C12 L
    replace k0 := box_keep k0 L (boxLt k0)
    replace bxW := box_keep bxW L (boxLt bxW)
    replace bxI := box_keep bxI L (boxLt bxI)
    replace bxG := box_keep bxG L (boxLt bxG)
    replace oW := oW.below L
    replace o0 := o0.below L
    replace oQ := oQ.below L
    replace oG := oG.below L
    have sz13 := L.size
    clear L C12
    go_wp2_with fail
    refine (onEqList _ _ _ _ _ n1 f1 oQ oR).mono ?_
    rintro e W14 ⟨rfl, L⟩
    have C14 := below_snoc C13 L
    replace k0 := box_keep k0 L (boxLt k0)
    replace bxW := box_keep bxW L (boxLt bxW)
    replace bxI := box_keep bxI L (boxLt bxI)
    replace bxG := box_keep bxG L (boxLt bxG)
    replace oW := oW.below L
    replace o0 := o0.below L
    replace oQ := oQ.below L
    replace oG := oG.below L
    replace oR := oR.below L
    have sz14 := L.size
    clear L C13
    clear oR
    have c_bxI := boxC bxI
    go_wp2_with fail
    clear c_bxI
    refine (onMarkImg _ _ _ m ln f 1 o0 (by omega) (by omega)).mono ?_
    rintro e W15 ⟨rfl, -, T⟩
    have C15 := C14.trans (T.below C14.size (fun b o hb h => by obtain ⟨h1, h2⟩ := h; omega))
    replace k0 := box_wrote k0 T (fun o h => by obtain ⟨h1, h2⟩ := h; omega)
    replace bxW := box_wrote bxW T (fun o h => by obtain ⟨h1, h2⟩ := h; omega)
    replace bxI := box_wrote bxI T (fun o h => by obtain ⟨h1, h2⟩ := h; omega)
    replace bxG := box_wrote bxG T (fun o h => by obtain ⟨h1, h2⟩ := h; omega)
    replace oW := oW.keep T (fun i b o hb _ h => by obtain ⟨h1, h2⟩ := h; have := bW _ _ hb; omega)
    replace oG := oG.keep T (fun i b o hb _ h => by obtain ⟨h1, h2⟩ := h; have := bG _ _ hb; omega)
    replace oQ := oQ.keep T (fun b o hb _ h => by obtain ⟨h1, h2⟩ := h; obtain ⟨h3, h4⟩ := hb; omega)
    have sz15 := T.size
    clear T C14
    clear o0
    obtain ⟨kp, hkp⟩ : ∃ k : Int, Hid (k = 1 + ((psum ln m : Nat) : Int)) := ⟨_, rfl⟩
    have hkp0 : 0 ≤ kp ∧ kp ≤ 1048577 := by rw [hkp.out]; omega
    rw [← hkp.out]
    clear hkp
    go_wp2_with fail
    refine (onMarkList _ _ _ n1 f1 kp oQ (by omega) (by omega)).mono ?_
    rintro e W16 ⟨rfl, -, T⟩
    have C16 := C15.trans (T.below C15.size (fun b o hb h => by obtain ⟨h1, h2⟩ := h; omega))
    replace k0 := box_wrote k0 T (fun o h => by obtain ⟨h1, h2⟩ := h; omega)
    replace bxW := box_wrote bxW T (fun o h => by obtain ⟨h1, h2⟩ := h; omega)
    replace bxI := box_wrote bxI T (fun o h => by obtain ⟨h1, h2⟩ := h; omega)
    replace bxG := box_wrote bxG T (fun o h => by obtain ⟨h1, h2⟩ := h; omega)
    replace oW := oW.keep T (fun i b o hb _ h => by obtain ⟨h1, h2⟩ := h; have := bW _ _ hb; omega)
    replace oG := oG.keep T (fun i b o hb _ h => by obtain ⟨h1, h2⟩ := h; have := bG _ _ hb; omega)
    have sz16 := T.size
    clear T C15
    clear oQ
    obtain ⟨kd, hkd⟩ : ∃ k : Int, Hid (k = kp + (n1 : Int)) := ⟨_, rfl⟩
    rw [← hkd.out]
    have hk0 : ¬ (kd < 0) := by rw [hkd.out]; omega
    have hk0' : decide (kd < 0) = false := decide_eq_false hk0
    clear hkd
    go_upto_region 20 with (fail)
    refine wp_region_lit ?_
    refine wpList_plain rfl (fun K3 hK3 => ?_)
    go_simp
    refine hK3 _ _ ?_
    clear hK3
    refine wpList_plain rfl (fun K3 hK3 => ?_)
    go_simp
    refine hK3 _ _ ?_
    clear hK3
    refine wpList_plain rfl (fun K3 hK3 => ?_)
    go_simp
    refine hK3 _ _ ?_
    clear hK3
    refine wpList_load_rowN (by kernel_rfl) _ _ rfl (zbxG) rfl _ _ _ _ bxG Tryz.underlying46 rfl (infoAtT infoSplit scG) ?_
    refine wpList_load_rowN (by kernel_rfl) _ _ rfl (zbxW) rfl _ _ _ _ bxW Tryz.underlying46 rfl (infoAtT infoSplit scW) ?_
    go_wp2_with fail
    refine (onEqSplit _ _ _ _ _ rd oG oW).mono ?_
    rintro e W17 ⟨rfl, L⟩
    have C17 := below_snoc C16 L
    replace k0 := box_keep k0 L (boxLt k0)
    replace bxW := box_keep bxW L (boxLt bxW)
    replace bxI := box_keep bxI L (boxLt bxI)
    replace bxG := box_keep bxG L (boxLt bxG)
    replace oW := oW.below L
    replace oG := oG.below L
    have sz17 := L.size
    clear L C16
    go_upto_region 23 with (fail)
    refine wp_region_lit ?_
    refine wpList_load_row rfl _ _ rfl (zbxG) rfl _ _ _ _ bxG Tryz.underlying46 rfl (infoAtT infoSplit scG) ?_
    go_wp2_with fail
    refine (onMarkSplit _ DG _ rd 1 oG dG (fun i b h => by have := bG _ _ h; omega) (by omega) HMR.out.1).mono ?_
    rintro e W18 ⟨rfl, oK, T⟩
    have C18 := C17.trans (T.below C17.size (fun b o hb h => by obtain ⟨i', h⟩ := h; have := bG _ _ h; omega))
    replace k0 := box_wrote k0 T (fun o h => by obtain ⟨i', h⟩ := h; have := bG _ _ h; omega)
    replace bxW := box_wrote bxW T (fun o h => by obtain ⟨i', h⟩ := h; have := bG _ _ h; omega)
    replace bxI := box_wrote bxI T (fun o h => by obtain ⟨i', h⟩ := h; have := bG _ _ h; omega)
    replace bxG := box_wrote bxG T (fun o h => by obtain ⟨i', h⟩ := h; have := bG _ _ h; omega)
    replace oW := oW.keep T (fun i b o hb _ ⟨i', h⟩ => by have := bG _ _ h; have := bW _ _ hb; omega)
    have sz18 := T.size
    clear T C17
    clear oG
    have HHD := hide (fun W h => onHeldSplit W DG (.agg cG) rd 1 h (by omega) HMR.out.1)
    obtain ⟨km, hkm⟩ : ∃ k, Hid (k = 1 + markSN rd) := ⟨_, rfl⟩
    rw [← hkm.out] at HHD ⊢
    have hm0 : ¬ (km < 0) := by have := HMR.out.2; rw [hkm.out]; omega
    have hmm : (km != km) = false := by simp
    clear hkm
    go_upto_region 25 with (fail)
    refine wp_region_lit ?_
    refine wpList_load_row rfl _ _ rfl (zbxG) rfl _ _ _ _ bxG Tryz.underlying46 rfl (infoAtT infoSplit scG) ?_
    go_wp2_with fail
    refine (HHD.out _ oK).mono ?_
    rintro e W19 ⟨rfl, L⟩
    have C19 := below_snoc C18 L
    replace k0 := box_keep k0 L (boxLt k0)
    replace bxW := box_keep bxW L (boxLt bxW)
    replace bxI := box_keep bxI L (boxLt bxI)
    replace bxG := box_keep bxG L (boxLt bxG)
    replace oW := oW.below L
    replace oK := oK.below L
    have sz19 := L.size
    clear L C18
    go_upto_region 30 with (fail)
    have c_k0 := boxC k0
    go_wp2_with fail
    clear c_k0
    refine (onToImg _ _ u0 m ln f (hI0.keep (wrote_below C19 Nowhere) (fun _ _ _ x => x)) hsm0).mono ?_
    rintro e W20 ⟨vY, rfl, oY, L⟩
    have C20 := below_snoc C19 L
    replace k0 := box_keep k0 L (boxLt k0)
    replace bxW := box_keep bxW L (boxLt bxW)
    replace bxI := box_keep bxI L (boxLt bxI)
    replace bxG := box_keep bxG L (boxLt bxG)
    replace oW := oW.below L
    replace oK := oK.below L
    have sz20 := L.size
    clear L C19
    go_wp2_with fail
    refine (onToList _ _ (.slice s1 n1 c1) n1 f1 (HI1.keep (wrote_below C20 Nowhere) (fun _ _ _ x => x))).mono ?_
    rintro e W21 ⟨vZ, rfl, oZ, L⟩
    have C21 := below_snoc C20 L
    replace k0 := box_keep k0 L (boxLt k0)
    replace bxW := box_keep bxW L (boxLt bxW)
    replace bxI := box_keep bxI L (boxLt bxI)
    replace bxG := box_keep bxG L (boxLt bxG)
    replace oW := oW.below L
    replace oK := oK.below L
    replace oY := oY.below L
    have sz21 := L.size
    clear L C20
    go_wp2_with fail
    refine (HI.out _ _ _ _ _ oY oZ).mono ?_
    rintro e W22 ⟨vH, rfl, ⟨DH, oH, -, -⟩, L⟩
    have C22 := below_snoc C21 L
    replace k0 := box_keep k0 L (boxLt k0)
    replace bxW := box_keep bxW L (boxLt bxW)
    replace bxI := box_keep bxI L (boxLt bxI)
    replace bxG := box_keep bxG L (boxLt bxG)
    replace oW := oW.below L
    replace oK := oK.below L
    replace oY := oY.below L
    replace oZ := oZ.below L
    have sz22 := L.size
    clear L C21
    clear oY oZ
    obtain ⟨cH, rfl, scH, onecH⟩ := oH.agg
    have hst := run_storeCells_new (P := Tryz.prog) W22 46 #[.slice none 0 0, .slice none 0 0, .slice none 0 0, .int .i64 0, .int .i64 0, .int .i64 0, .int .i64 0, .int .i64 0, .bool false, .bool false, .bool false, .bool false, .bool false, .int .i64 0, .int .i64 0, .bool false, .int .i64 0, .bool false, .int .i64 0, .int .i64 0, .slice none 0 0, .int .i64 0, .int .i64 0, .int .i64 0, .int .i64 0, .int .i64 0, .bool false, .slice none 0 0, .slice none 0 0, .int .i64 0, .slice none 0 0, .slice none 0 0, .int .i64 0, .int .i64 0, .int .i64 0, .int .i64 0, .int .i64 0, .bool false, .bool false, .int .i64 0, .slice none 0 0, .slice none 0 0] cH (infoAtT infoSplit scH) (by rw [scH]; rfl) onecH
    have bxH := box_new W22 cH 46
    have LA : Below W22.heap.size W22 (W22.alloc (.cells cH 46)) := (Below.refl _ _).alloc (Nat.le_refl _) _
    go_upto_region 31 with (fail)
    clear hst
    have C23 := below_snoc C22 LA
    replace k0 := box_keep k0 LA (boxLt k0)
    replace bxW := box_keep bxW LA (boxLt bxW)
    replace bxI := box_keep bxI LA (boxLt bxI)
    replace bxG := box_keep bxG LA (boxLt bxG)
    replace oW := oW.below LA
    replace oK := oK.below LA
    replace oH := oH.below LA
    have sz23 := LA.size
    clear LA C22
    obtain ⟨zbxH, hzbxH⟩ : ∃ z, Hid (z = W22.heap.size) := ⟨_, rfl⟩
    rw [← hzbxH.out] at bxH ⊢
    generalize W22.alloc (.cells cH 46) = W23 at *
    have gzbxH : W22.heap.size ≤ zbxH := by rw [hzbxH.out]; exact Nat.le_refl _
    have lzbxH := boxLt bxH
    clear hzbxH
    refine wp_region_lit ?_
    refine wpList_load_row rfl _ _ rfl (zbxH) rfl _ _ _ _ bxH Tryz.underlying46 rfl (infoAtT infoSplit scH) ?_
    refine wpList_load_row rfl _ _ rfl (zbxW) rfl _ _ _ _ bxW Tryz.underlying46 rfl (infoAtT infoSplit scW) ?_
    go_wp2_with fail
    refine (onEqSplit _ _ _ _ _ rd oH oW).mono ?_
    rintro e W24 ⟨rfl, L⟩
    have C24 := below_snoc C23 L
    replace k0 := box_keep k0 L (boxLt k0)
    replace bxW := box_keep bxW L (boxLt bxW)
    replace bxI := box_keep bxI L (boxLt bxI)
    replace bxG := box_keep bxG L (boxLt bxG)
    replace bxH := box_keep bxH L (boxLt bxH)
    replace oW := oW.below L
    replace oK := oK.below L
    replace oH := oH.below L
    have sz24 := L.size
    clear L C23
    go_upto_region 34 with (fail)
    refine wp_region_lit ?_
    refine wpList_load_row rfl _ _ rfl (zbxG) rfl _ _ _ _ bxG Tryz.underlying46 rfl (infoAtT infoSplit scG) ?_
    go_wp2_with fail
    refine (HHD.out _ oK).mono ?_
    rintro e W25 ⟨rfl, L⟩
    have C25 := below_snoc C24 L
    replace k0 := box_keep k0 L (boxLt k0)
    replace bxW := box_keep bxW L (boxLt bxW)
    replace bxI := box_keep bxI L (boxLt bxI)
    replace bxG := box_keep bxG L (boxLt bxG)
    replace bxH := box_keep bxH L (boxLt bxH)
    replace oW := oW.below L
    replace oK := oK.below L
    replace oH := oH.below L
    have sz25 := L.size
    clear L C24
    go_wp2
    go_ret
    exact ⟨rfl, C25⟩
end Go.Proofs.YtjcaligejlhjdaaGreat
