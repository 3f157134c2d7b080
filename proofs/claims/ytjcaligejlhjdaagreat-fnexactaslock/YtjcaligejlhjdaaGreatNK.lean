/-
  FnExactAsLock.
-/
import Derived.Test.YtjcaligejlhjdaaGreatNI
import Derived.Test.YtjcaligejlhjdaaGreatUM
import Derived.Test.YtjcaligejlhjdaaGreatG0
import Derived.Deep.RegionHeld3
import Derived.Deep.DeepCutAuto
import Derived.Deep.WholeRow
namespace Go.Proofs.YtjcaligejlhjdaaGreat
set_option linter.unusedVariables false
set_option linter.unusedSimpArgs false
open Go.ChangeShapes Go.WideShapes Go.ChangeAt Go.RowKit
/-- A console in step on a stretch of blocks. -/
def LkS (d : LockD) (lo hi : Nat) (W : World) (v : Value) : Prop := ∃ D, LockOn W D v d ∧ Dis D ∧ ∀ i b, D i b → lo ≤ b ∧ b < hi
theorem LkS.keepP {d : LockD} {R : Nat → Nat → Prop} {lo hi : Nat} {W W' : World} {v : Value} (hw : Wrote R W W') (hd : ∀ b o, lo ≤ b → b < hi → ¬ R b o) (H : LkS d lo hi W v) : LkS d lo hi W' v := by
  obtain ⟨D, h, h1, h2⟩ := H
  exact ⟨D, h.keep hw (fun i b o hb _ => hd b o (h2 i b hb).1 (h2 i b hb).2), h1, h2⟩
theorem LkCp.out17 {w w' : World} {v : Value} {d : LockD} (H : LkCp w w' v d) : ∃ c : Array Value, v = .agg c ∧ c.size = 34 ∧ c.all (·.oneCell') = true ∧ LkS d w.heap.size w'.heap.size w' v := by
  obtain ⟨D, h, h1, h2⟩ := H
  obtain ⟨c, e, s1, s2⟩ := h.agg
  exact ⟨c, e, s1, s2, D, h, h1, h2⟩
theorem markN_asL (d : SpD) (hs : szSp d ≤ 1048576) : markN (asL d) ≤ 1048576 := by
  unfold asL
  split
  · unfold szSp at hs
    simp only [markN, asD]
    omega
  · simp [markN, zeroL17, psum]
theorem markN_nn (d : LockD) : 0 ≤ 1 + markN d := by unfold markN; omega
theorem markLkS {d : LockD} {lo hi : Nat} {W : World} {v : Value} (hs : markN d ≤ 1048576) (hh : hi ≤ W.heap.size) (H : LkS d lo hi W v) :
    Calls Tryz.prog 22 #[v, .int .i64 1] W fun e w' => e = .returned (.int .i64 (1 + markN d)) ∧ LkS (markD d 1) lo hi w' v ∧ Wrote (fun b _ => lo ≤ b ∧ b < hi) W w' := by
  obtain ⟨D, h, h1, h2⟩ := H
  refine (onMarkLock W D v d 1 h h1 (fun i b hb => Nat.lt_of_lt_of_le (h2 i b hb).2 hh) (by omega) (by omega)).mono ?_
  rintro e w' ⟨rfl, k, T⟩
  exact ⟨rfl, ⟨D, k, h1, h2⟩, T.mono (fun b o _ ⟨i, hb⟩ => h2 i b hb)⟩
theorem heldLkS {d : LockD} {lo hi : Nat} {W : World} {v : Value} (hs : markN d ≤ 1048576) (H : LkS (markD d 1) lo hi W v) :
    Calls Tryz.prog 23 #[v, .int .i64 1] W fun e w' => e = .returned (.int .i64 (1 + markN d)) ∧ Below W.heap.size W w' := by
  obtain ⟨D, h, h1, h2⟩ := H
  exact onHeldLock W D v d 1 h (by omega) (by omega)
set_option maxRecDepth 40000 in
set_option maxHeartbeats 8000000 in
theorem lawAsLock1 (w : World) (cs : Array Value) (hs0 : cs.size = 42) (s : Nat) (kA kR : Int) (kA0 : 0 ≤ kA) (kR0 : 0 ≤ kR) (PA PR PM : Nat → Nat → World → Value → Prop)
    (hA : Hid (∀ (R : Nat → Nat → Prop) lo hi W W' v, Wrote R W W' → (∀ b o, lo ≤ b → b < hi → ¬ R b o) → PA lo hi W v → PA lo hi W' v)) (hR : Hid (∀ (R : Nat → Nat → Prop) lo hi W W' v, Wrote R W W' → (∀ b o, lo ≤ b → b < hi → ¬ R b o) → PR lo hi W v → PR lo hi W' v)) (hM : Hid (∀ (R : Nat → Nat → Prop) lo hi W W' v, Wrote R W W' → (∀ b o, lo ≤ b → b < hi → ¬ R b o) → PM lo hi W v → PM lo hi W' v))
    (HZ : Hid (∀ W, Below w.heap.size w W → Calls Tryz.prog 17 #[.agg cs, .int .i64 1048576] W fun e w' => e = .returned (.int .i64 (szOut 1048576 s)) ∧ Below W.heap.size W w'))
    (HT : Hid (s ≤ 1048576 → ∀ W, Below w.heap.size w W → Calls Tryz.prog 19 #[.agg cs] W fun e w' => ∃ c : Array Value, c.size = 42 ∧ c.all (·.oneCell') = true ∧ e = .returned (.agg c) ∧ PA W.heap.size w'.heap.size w' (.agg c) ∧ Below W.heap.size W w'))
    (HS : Hid (∀ lo hi W v, PA lo hi W v → Calls Tryz.prog 18 #[v] W fun e w' => ∃ c : Array Value, c.size = 34 ∧ c.all (·.oneCell') = true ∧ e = .returned (.agg c) ∧ PR W.heap.size w'.heap.size w' (.agg c) ∧ Below W.heap.size W w'))
    (HI : Hid (∀ lo hi W v, PA lo hi W v → Calls Tryz.prog 20 #[v] W fun e w' => ∃ c : Array Value, c.size = 34 ∧ c.all (·.oneCell') = true ∧ e = .returned (.agg c) ∧ PR W.heap.size w'.heap.size w' (.agg c) ∧ Below W.heap.size W w'))
    (HEA : Hid (∀ lo hi lo' hi' W v u, PA lo hi W v → PA lo' hi' W u → Calls Tryz.prog 10 #[v, u] W fun e w' => e = .returned (.bool true) ∧ Below W.heap.size W w'))
    (HER : Hid (∀ lo hi lo' hi' W v u, PR lo hi W v → PR lo' hi' W u → Calls Tryz.prog 21 #[v, u] W fun e w' => e = .returned (.bool true) ∧ Below W.heap.size W w'))
    (HMA : Hid (s ≤ 1048576 → ∀ lo hi W v, hi ≤ W.heap.size → PA lo hi W v → Calls Tryz.prog 15 #[v, .int .i64 1] W fun e w' => e = .returned (.int .i64 kA) ∧ Wrote (fun b _ => lo ≤ b ∧ b < hi) W w'))
    (HMR : Hid (s ≤ 1048576 → ∀ lo hi W v, hi ≤ W.heap.size → PR lo hi W v → Calls Tryz.prog 22 #[v, .int .i64 1] W fun e w' => e = .returned (.int .i64 kR) ∧ PM lo hi w' v ∧ Wrote (fun b _ => lo ≤ b ∧ b < hi) W w'))
    (HHR : Hid (s ≤ 1048576 → ∀ lo hi W v, PM lo hi W v → Calls Tryz.prog 23 #[v, .int .i64 1] W fun e w' => e = .returned (.int .i64 kR) ∧ Below W.heap.size W w')) :
    Calls Tryz.prog 4 #[.agg cs] w fun e w' => e = .returned (.bool true) ∧ Below w.heap.size w w' := by
  have iL : (Tryz.prog.info? 71).map (·.size) = some 42 := by kernel_rfl
  have iI : (Tryz.prog.info? 46).map (·.size) = some 42 := by kernel_rfl
  have iR : (Tryz.prog.info? 76).map (·.size) = some 34 := by kernel_rfl
  have i0 := hide (iL.trans (congrArg some hs0.symm))
  replace iI := hide iI
  replace iR := hide iR
  clear hs0 iL
  have C0 : Below w.heap.size w (w.alloc (.cells cs 71)) := (Below.refl _ _).alloc (Nat.le_refl _) _
  have k0 := box_new w cs 71
  go_enter Tryz.func4, Tryz.ntmps4
  go_upto_region 2 with (fail)
  generalize w.alloc (.cells cs 71) = W0 at *
  have hk00 := boxLt k0
  refine wp_region_lit ?_
  refine wpList_load_row rfl _ _ rfl (w.heap.size) rfl _ _ _ _ k0 Tryz.underlying71 rfl i0.out ?_
  go_wp2_with fail
  refine (HZ.out _ C0).mono ?_
  rintro e W1 ⟨rfl, L⟩
  have C1 := below_snoc C0 L
  replace k0 := box_keep k0 L (boxLt k0)
  have sz1 := L.size
  clear L C0
  clear HZ
  by_cases hbig : (1048576 : Int) < (s : Int)
  · have HZ := hide (szOut_no hbig)
    rw [HZ.out]
    go_wp2
    go_ret
    exact ⟨rfl, C1⟩
  have HZ := hide (szOut_ok (show (s : Int) ≤ 1048576 by omega))
  rw [HZ.out]
  replace HT := hide (HT.out (by omega))
  replace HMA := hide (HMA.out (by omega))
  replace HMR := hide (HMR.out (by omega))
  replace HHR := hide (HHR.out (by omega))
  obtain ⟨lf, hlf⟩ : ∃ lf : Int, Hid (lf = 1048576 - (s : Int)) := ⟨_, rfl⟩
  rw [← hlf.out]
  have hnn : ¬ (lf < 0) := by rw [hlf.out]; omega
  clear HZ hbig hlf
  go_upto_region 5 with (fail)
  refine wp_region_lit ?_
  refine wpList_load_row rfl _ _ rfl (w.heap.size) rfl _ _ _ _ k0 Tryz.underlying71 rfl i0.out ?_
  go_wp2_with fail
  refine (HT.out _ C1).mono ?_
  rintro e W2 ⟨cS, scS, oneS, rfl, oS, L⟩
  have C2 := below_snoc C1 L
  replace k0 := box_keep k0 L (boxLt k0)
  have sz2 := L.size
  clear L C1
  clear scS oneS
  go_wp2_with fail
  refine (HS.out _ _ _ _ oS).mono ?_
  rintro e W3 ⟨cW, scW, oneW, rfl, oW, L⟩
  clear oS
  obtain ⟨p0, hp0⟩ : ∃ p, Hid (p = W2.heap.size) := ⟨_, rfl⟩
  obtain ⟨q0, hq0⟩ : ∃ p, Hid (p = W3.heap.size) := ⟨_, rfl⟩
  rw [← hp0.out, ← hq0.out] at oW
  have lp0 : w.heap.size < p0 := by rw [hp0.out]; omega
  have lq0 : q0 ≤ W3.heap.size := by rw [hq0.out]; exact Nat.le_refl _
  clear hp0 hq0
  have C3 := below_snoc C2 L
  replace k0 := box_keep k0 L (boxLt k0)
  have sz3 := L.size
  clear L C2
  have jW := hide (iR.out.trans (congrArg some scW.symm))
  have hst := run_storeCells_new (P := Tryz.prog) W3 76 #[.slice none 0 0, .slice none 0 0, .slice none 0 0, .int .i64 0, .int .i64 0, .int .i64 0, .int .i64 0, .int .i64 0, .bool false, .bool false, .bool false, .bool false, .int .i64 0, .int .i64 0, .int .i64 0, .int .i64 0, .int .i64 0, .bool false, .slice none 0 0, .slice none 0 0, .int .i64 0, .int .i64 0, .int .i64 0, .int .i64 0, .int .i64 0, .bool false, .bool false, .bool false, .int .i64 0, .bool false, .int .i64 0, .slice none 0 0, .slice none 0 0, .slice none 0 0] cW jW.out (by rw [scW]; rfl) oneW
  have bW := box_new W3 cW 76
  have LA : Below W3.heap.size W3 (W3.alloc (.cells cW 76)) := (Below.refl _ _).alloc (Nat.le_refl _) _
  go_upto_region 6 with (fail)
  clear hst scW oneW
  have C4 := below_snoc C3 LA
  replace k0 := box_keep k0 LA (boxLt k0)
  replace oW := hR.out _ _ _ _ _ _ (wrote_below LA Nowhere) (fun _ _ _ _ x => x) oW
  have sz4 := LA.size
  clear LA C3
  obtain ⟨zW, hzzW⟩ : ∃ z, Hid (z = W3.heap.size) := ⟨_, rfl⟩
  rw [← hzzW.out] at bW ⊢
  generalize W3.alloc (.cells cW 76) = W4 at *
  have gzzW : W3.heap.size ≤ zW := by rw [hzzW.out]; exact Nat.le_refl _
  have lzzW := boxLt bW
  clear hzzW
  clear HS
  refine wp_region_lit ?_
  refine wpList_load_row rfl _ _ rfl (w.heap.size) rfl _ _ _ _ k0 Tryz.underlying71 rfl i0.out ?_
  go_wp2_with fail
  refine (HT.out _ C4).mono ?_
  rintro e W5 ⟨cX, scX, oneX, rfl, oX, L⟩
  obtain ⟨p1, hp1⟩ : ∃ p, Hid (p = W4.heap.size) := ⟨_, rfl⟩
  obtain ⟨q1, hq1⟩ : ∃ p, Hid (p = W5.heap.size) := ⟨_, rfl⟩
  rw [← hp1.out, ← hq1.out] at oX
  have lp1 : zW < p1 := by rw [hp1.out]; exact lzzW
  have lq1 : q1 ≤ W5.heap.size := by rw [hq1.out]; exact Nat.le_refl _
  have eq1 : p1 ≤ q1 := by rw [hp1.out, hq1.out]; exact L.size
  clear hp1 hq1
  have C5 := below_snoc C4 L
  replace k0 := box_keep k0 L (boxLt k0)
  replace bW := box_keep bW L (boxLt bW)
  replace oW := hR.out _ _ _ _ _ _ (wrote_below L Nowhere) (fun _ _ _ _ x => x) oW
  have sz5 := L.size
  clear L C4
  have jX := hide (iI.out.trans (congrArg some scX.symm))
  have hst := run_storeCells_new (P := Tryz.prog) W5 46 #[.slice none 0 0, .slice none 0 0, .slice none 0 0, .int .i64 0, .int .i64 0, .int .i64 0, .int .i64 0, .int .i64 0, .bool false, .bool false, .bool false, .bool false, .bool false, .int .i64 0, .int .i64 0, .bool false, .int .i64 0, .bool false, .int .i64 0, .int .i64 0, .slice none 0 0, .int .i64 0, .int .i64 0, .int .i64 0, .int .i64 0, .int .i64 0, .bool false, .slice none 0 0, .slice none 0 0, .int .i64 0, .slice none 0 0, .slice none 0 0, .int .i64 0, .int .i64 0, .int .i64 0, .int .i64 0, .int .i64 0, .bool false, .bool false, .int .i64 0, .slice none 0 0, .slice none 0 0] cX jX.out (by rw [scX]; rfl) oneX
  have bX := box_new W5 cX 46
  have LA : Below W5.heap.size W5 (W5.alloc (.cells cX 46)) := (Below.refl _ _).alloc (Nat.le_refl _) _
  go_upto_region 7 with (fail)
  clear hst scX oneX
  have C6 := below_snoc C5 LA
  replace k0 := box_keep k0 LA (boxLt k0)
  replace bW := box_keep bW LA (boxLt bW)
  replace oW := hR.out _ _ _ _ _ _ (wrote_below LA Nowhere) (fun _ _ _ _ x => x) oW
  replace oX := hA.out _ _ _ _ _ _ (wrote_below LA Nowhere) (fun _ _ _ _ x => x) oX
  have sz6 := LA.size
  clear LA C5
  obtain ⟨zX, hzzX⟩ : ∃ z, Hid (z = W5.heap.size) := ⟨_, rfl⟩
  rw [← hzzX.out] at bX ⊢
  generalize W5.alloc (.cells cX 46) = W6 at *
  have gzzX : W5.heap.size ≤ zX := by rw [hzzX.out]; exact Nat.le_refl _
  have lzzX := boxLt bX
  clear hzzX
  refine wp_region_lit ?_
  refine wpList_load_row rfl _ _ rfl (zX) rfl _ _ _ _ bX Tryz.underlying46 rfl jX.out ?_
  go_wp2_with fail
  refine (HI.out _ _ _ _ oX).mono ?_
  rintro e W7 ⟨cG, scG, oneG, rfl, oG, L⟩
  obtain ⟨p2, hp2⟩ : ∃ p, Hid (p = W6.heap.size) := ⟨_, rfl⟩
  obtain ⟨q2, hq2⟩ : ∃ p, Hid (p = W7.heap.size) := ⟨_, rfl⟩
  rw [← hp2.out, ← hq2.out] at oG
  have lp2 : zX < p2 := by rw [hp2.out]; exact lzzX
  have lq2 : q2 ≤ W7.heap.size := by rw [hq2.out]; exact Nat.le_refl _
  have eq2 : p2 ≤ q2 := by rw [hp2.out, hq2.out]; exact L.size
  clear hp2 hq2
  have C7 := below_snoc C6 L
  replace k0 := box_keep k0 L (boxLt k0)
  replace bW := box_keep bW L (boxLt bW)
  replace bX := box_keep bX L (boxLt bX)
  replace oW := hR.out _ _ _ _ _ _ (wrote_below L Nowhere) (fun _ _ _ _ x => x) oW
  replace oX := hA.out _ _ _ _ _ _ (wrote_below L Nowhere) (fun _ _ _ _ x => x) oX
  have sz7 := L.size
  clear L C6
  have jG := hide (iR.out.trans (congrArg some scG.symm))
  have hst := run_storeCells_new (P := Tryz.prog) W7 76 #[.slice none 0 0, .slice none 0 0, .slice none 0 0, .int .i64 0, .int .i64 0, .int .i64 0, .int .i64 0, .int .i64 0, .bool false, .bool false, .bool false, .bool false, .int .i64 0, .int .i64 0, .int .i64 0, .int .i64 0, .int .i64 0, .bool false, .slice none 0 0, .slice none 0 0, .int .i64 0, .int .i64 0, .int .i64 0, .int .i64 0, .int .i64 0, .bool false, .bool false, .bool false, .int .i64 0, .bool false, .int .i64 0, .slice none 0 0, .slice none 0 0, .slice none 0 0] cG jG.out (by rw [scG]; rfl) oneG
  have bG := box_new W7 cG 76
  have LA : Below W7.heap.size W7 (W7.alloc (.cells cG 76)) := (Below.refl _ _).alloc (Nat.le_refl _) _
  go_upto_region 8 with (fail)
  clear hst scG oneG
  have C8 := below_snoc C7 LA
  replace k0 := box_keep k0 LA (boxLt k0)
  replace bW := box_keep bW LA (boxLt bW)
  replace bX := box_keep bX LA (boxLt bX)
  replace oW := hR.out _ _ _ _ _ _ (wrote_below LA Nowhere) (fun _ _ _ _ x => x) oW
  replace oX := hA.out _ _ _ _ _ _ (wrote_below LA Nowhere) (fun _ _ _ _ x => x) oX
  replace oG := hR.out _ _ _ _ _ _ (wrote_below LA Nowhere) (fun _ _ _ _ x => x) oG
  have sz8 := LA.size
  clear LA C7
  obtain ⟨zG, hzzG⟩ : ∃ z, Hid (z = W7.heap.size) := ⟨_, rfl⟩
  rw [← hzzG.out] at bG ⊢
  generalize W7.alloc (.cells cG 76) = W8 at *
  have gzzG : W7.heap.size ≤ zG := by rw [hzzG.out]; exact Nat.le_refl _
  have lzzG := boxLt bG
  clear hzzG
  refine wp_region_lit ?_
  refine wpList_load_row rfl _ _ rfl (zG) rfl _ _ _ _ bG Tryz.underlying76 rfl jG.out ?_
  refine wpList_load_row rfl _ _ rfl (zW) rfl _ _ _ _ bW Tryz.underlying76 rfl jW.out ?_
  go_wp2_with fail
  refine (HER.out _ _ _ _ _ _ _ oG oW).mono ?_
  rintro e W9 ⟨rfl, L⟩
  have C9 := below_snoc C8 L
  replace k0 := box_keep k0 L (boxLt k0)
  replace bW := box_keep bW L (boxLt bW)
  replace bX := box_keep bX L (boxLt bX)
  replace bG := box_keep bG L (boxLt bG)
  replace oW := hR.out _ _ _ _ _ _ (wrote_below L Nowhere) (fun _ _ _ _ x => x) oW
  replace oX := hA.out _ _ _ _ _ _ (wrote_below L Nowhere) (fun _ _ _ _ x => x) oX
  replace oG := hR.out _ _ _ _ _ _ (wrote_below L Nowhere) (fun _ _ _ _ x => x) oG
  have sz9 := L.size
  clear L C8
  go_upto_region 10 with (fail)
  rename_i Kc hKc
  refine wp_region_eff [some 27, some 28, some 29, some 30, some 31] (by kernel_rfl) (by kernel_rfl) (by kernel_rfl) (by kernel_rfl) (by simp [slotsOf])
    (fun _ _ _ => False)
    (fun i v W => match i with
      | 0 => v = .agg cX
      | 1 => v = .agg cs
      | 2 => ∃ lo hi, PA lo hi W v
      | 3 => v = .bool true
      | _ => v = .bool false) ?_ ?_ ?_
  · intro i j o v W W' hij _ _ hW h
    match i, h with
    | 0, h => exact h
    | 1, h => exact h
    | 2, ⟨lo, hi, h⟩ => exact ⟨lo, hi, hA.out _ _ _ _ _ _ hW (fun _ _ _ _ x => x) h⟩
    | 3, h => exact h
    | _ + 4, h => exact h
  · intro i o a' W K ho F L hw hK
    have t1 := F.get (t := 1) (v := .pointer (some ⟨w.heap.size, 0, none⟩)) (by decide) rfl
    have t5 := F.get (t := 5) (v := .pointer (some ⟨zX, 0, none⟩)) (by decide) rfl
    have LB : Below W9.heap.size W9 W := L.below (Nat.le_refl _) (fun b o _ ⟨j, _, _, _, _, h⟩ => h)
    match i with
    | 0 =>
        simp only [List.getElem?_toArray, List.getElem?_cons_zero, List.getElem?_cons_succ, Option.some.injEq] at ho
        subst ho
        refine wp_load_row _ _ rfl zX (by simpa [Act.eval] using t5) _ _ _ _ (box_keep bX LB (boxLt bX)) Tryz.underlying46 rfl jX.out ?_
        exact hK _ _ (Wrote.refl _ _) rfl
    | 1 =>
        simp only [List.getElem?_toArray, List.getElem?_cons_zero, List.getElem?_cons_succ, Option.some.injEq] at ho
        subst ho
        refine wp_load_row _ _ rfl w.heap.size (by simpa [Act.eval] using t1) _ _ _ _ (box_keep k0 LB (boxLt k0)) Tryz.underlying71 rfl i0.out ?_
        exact hK _ _ (Wrote.refl _ _) rfl
    | 2 =>
        simp only [List.getElem?_toArray, List.getElem?_cons_zero, List.getElem?_cons_succ, Option.some.injEq] at ho
        subst ho
        have q1 : a'.tmps[28]?.getD undef = .agg cs := hw 1 (by kernel_rfl)
        go_simp
        refine (HT.out W (below_snoc C9 LB)).mono ?_
        rintro e W' ⟨cY, -, -, rfl, oY, LX⟩
        exact hK _ _ (wrote_below LX _) ⟨_, _, oY⟩
    | 3 =>
        simp only [List.getElem?_toArray, List.getElem?_cons_zero, List.getElem?_cons_succ, Option.some.injEq] at ho
        subst ho
        have q0 : a'.tmps[27]?.getD undef = .agg cX := hw 0 (by kernel_rfl)
        obtain ⟨lo, hi, oY⟩ : ∃ lo hi, PA lo hi W (a'.tmps[29]?.getD undef) := hw 2 (by kernel_rfl)
        go_simp
        refine (HEA.out _ _ _ _ W _ _ (hA.out _ _ _ _ _ _ (wrote_below LB Nowhere) (fun _ _ _ _ x => x) oX) oY).mono ?_
        rintro e W' ⟨rfl, LX⟩
        exact hK _ _ (wrote_below LX _) rfl
    | 4 =>
        simp only [List.getElem?_toArray, List.getElem?_cons_zero, List.getElem?_cons_succ, Option.some.injEq] at ho
        subst ho
        have q3 : a'.tmps[30]?.getD undef = .bool true := hw 3 (by kernel_rfl)
        go_simp
        exact hK _ _ (Wrote.refl _ _) rfl
    | _ + 5 => simp at ho
  intro a' W10 F L0 hφ
  have L : Below W9.heap.size W9 W10 := L0.below (Nat.le_refl _) (fun b o _ ⟨j, h⟩ => h)
  have v4 : a'.tmps[31]?.getD undef = .bool false := hφ 4 (by decide)
  rw [F.same, show slotsOf [some 27, some 28, some 29, some 30, some 31] = [27, 28, 29, 30, 31] from rfl]
  simp only [List.foldl_cons, List.foldl_nil]
  rw [v4]
  generalize a'.tmps[27]?.getD undef = f0
  generalize a'.tmps[28]?.getD undef = f1
  generalize a'.tmps[29]?.getD undef = f2
  generalize a'.tmps[30]?.getD undef = f3
  clear hφ L0 F v4
  have C10 := below_snoc C9 L
  replace k0 := box_keep k0 L (boxLt k0)
  replace bW := box_keep bW L (boxLt bW)
  replace bX := box_keep bX L (boxLt bX)
  replace bG := box_keep bG L (boxLt bG)
  replace oW := hR.out _ _ _ _ _ _ (wrote_below L Nowhere) (fun _ _ _ _ x => x) oW
  replace oX := hA.out _ _ _ _ _ _ (wrote_below L Nowhere) (fun _ _ _ _ x => x) oX
  replace oG := hR.out _ _ _ _ _ _ (wrote_below L Nowhere) (fun _ _ _ _ x => x) oG
  have sz10 := L.size
  clear L C9
  refine hKc _ _ ?_
  go_simp
  go_upto_region 13 with (fail)
  refine wp_region_lit ?_
  refine wpList_load_row rfl _ _ rfl (zX) rfl _ _ _ _ bX Tryz.underlying46 rfl jX.out ?_
  go_wp2_with fail
  refine (HMA.out _ _ _ _ (by omega) oX).mono ?_
  rintro e W11 ⟨rfl, TT⟩
  clear oX
  have C11 := C10.trans (TT.below C10.size (fun b o hb (h : _ ∧ _) => by omega))
  replace k0 := box_wrote17 k0 TT (fun o (h : _ ∧ _) => by omega)
  replace bW := box_wrote17 bW TT (fun o (h : _ ∧ _) => by omega)
  replace bX := box_wrote17 bX TT (fun o (h : _ ∧ _) => by omega)
  replace bG := box_wrote17 bG TT (fun o (h : _ ∧ _) => by omega)
  replace oW := hR.out _ _ _ _ _ _ TT (fun b o h1 h2 (h : _ ∧ _) => by omega) oW
  replace oG := hR.out _ _ _ _ _ _ TT (fun b o h1 h2 (h : _ ∧ _) => by omega) oG
  have sz11 := TT.size
  clear TT C10
  have hkA : ¬ (kA < 0) := by omega
  have hkD : Hid (decide (kA < 0) = false) := by show _ = _; simp; omega
  go_upto_region 14 with (fail)
  refine wp_region_lit ?_
  refine wpList_plain rfl fun K14 hK14 => ?_
  go_simp
  refine hK14 _ _ ?_
  clear hK14 K14
  refine wpList_plain rfl fun K14 hK14 => ?_
  go_simp
  refine hK14 _ _ ?_
  clear hK14 K14
  refine wpList_plain rfl fun K14 hK14 => ?_
  go_simp
  refine hK14 _ _ ?_
  clear hK14 K14
  simp only [hkD.out]
  refine wpList_load_rowG17 (by kernel_rfl) _ _ rfl zG rfl _ _ _ _ bG Tryz.underlying76 rfl jG.out ?_
  refine wpList_load_rowG17 (by kernel_rfl) _ _ rfl zW rfl _ _ _ _ bW Tryz.underlying76 rfl jW.out ?_
  go_wp2_with fail
  refine (HER.out _ _ _ _ _ _ _ oG oW).mono ?_
  rintro e W12 ⟨rfl, L⟩
  have C12 := below_snoc C11 L
  replace k0 := box_keep k0 L (boxLt k0)
  replace bW := box_keep bW L (boxLt bW)
  replace bX := box_keep bX L (boxLt bX)
  replace bG := box_keep bG L (boxLt bG)
  replace oW := hR.out _ _ _ _ _ _ (wrote_below L Nowhere) (fun _ _ _ _ x => x) oW
  replace oG := hR.out _ _ _ _ _ _ (wrote_below L Nowhere) (fun _ _ _ _ x => x) oG
  have sz12 := L.size
  clear L C11
  go_upto_region 17 with (fail)
  refine wp_region_lit ?_
  refine wpList_load_row rfl _ _ rfl (zG) rfl _ _ _ _ bG Tryz.underlying76 rfl jG.out ?_
  go_wp2_with fail
  refine (HMR.out _ _ _ _ (by omega) oG).mono ?_
  rintro e W13 ⟨rfl, oM, TT⟩
  clear oG
  have C13 := C12.trans (TT.below C12.size (fun b o hb (h : _ ∧ _) => by omega))
  replace k0 := box_wrote17 k0 TT (fun o (h : _ ∧ _) => by omega)
  replace bW := box_wrote17 bW TT (fun o (h : _ ∧ _) => by omega)
  replace bX := box_wrote17 bX TT (fun o (h : _ ∧ _) => by omega)
  replace bG := box_wrote17 bG TT (fun o (h : _ ∧ _) => by omega)
  replace oW := hR.out _ _ _ _ _ _ TT (fun b o h1 h2 (h : _ ∧ _) => by omega) oW
  have sz13 := TT.size
  clear TT C12
  go_upto_region 19 with (fail)
  refine wp_region_lit ?_
  refine wpList_load_row rfl _ _ rfl (zG) rfl _ _ _ _ bG Tryz.underlying76 rfl jG.out ?_
  go_wp2_with fail
  refine (HHR.out _ _ _ _ oM).mono ?_
  rintro e W14 ⟨rfl, L⟩
  have C14 := below_snoc C13 L
  replace k0 := box_keep k0 L (boxLt k0)
  replace bW := box_keep bW L (boxLt bW)
  replace bX := box_keep bX L (boxLt bX)
  replace bG := box_keep bG L (boxLt bG)
  replace oW := hR.out _ _ _ _ _ _ (wrote_below L Nowhere) (fun _ _ _ _ x => x) oW
  replace oM := hM.out _ _ _ _ _ _ (wrote_below L Nowhere) (fun _ _ _ _ x => x) oM
  have sz14 := L.size
  clear L C13
  have hkR : ¬ (kR < 0) := by omega
  have hkk : (kR != kR) = false := by simp
  go_upto_region 24 with (fail)
  refine wp_region_lit ?_
  refine wpList_load_row rfl _ _ rfl (w.heap.size) rfl _ _ _ _ k0 Tryz.underlying71 rfl i0.out ?_
  go_wp2_with fail
  refine (HT.out _ C14).mono ?_
  rintro e W15 ⟨cT, scT, oneT, rfl, oT, L⟩
  have C15 := below_snoc C14 L
  replace k0 := box_keep k0 L (boxLt k0)
  replace bW := box_keep bW L (boxLt bW)
  replace bX := box_keep bX L (boxLt bX)
  replace bG := box_keep bG L (boxLt bG)
  replace oW := hR.out _ _ _ _ _ _ (wrote_below L Nowhere) (fun _ _ _ _ x => x) oW
  replace oM := hM.out _ _ _ _ _ _ (wrote_below L Nowhere) (fun _ _ _ _ x => x) oM
  have sz15 := L.size
  clear L C14
  clear scT oneT
  go_wp2_with fail
  refine (HI.out _ _ _ _ oT).mono ?_
  rintro e W16 ⟨cH, scH, oneH, rfl, oH, L⟩
  clear oT
  have C16 := below_snoc C15 L
  replace k0 := box_keep k0 L (boxLt k0)
  replace bW := box_keep bW L (boxLt bW)
  replace bX := box_keep bX L (boxLt bX)
  replace bG := box_keep bG L (boxLt bG)
  replace oW := hR.out _ _ _ _ _ _ (wrote_below L Nowhere) (fun _ _ _ _ x => x) oW
  replace oM := hM.out _ _ _ _ _ _ (wrote_below L Nowhere) (fun _ _ _ _ x => x) oM
  have sz16 := L.size
  clear L C15
  have jH := hide (iR.out.trans (congrArg some scH.symm))
  have hst := run_storeCells_new (P := Tryz.prog) W16 76 #[.slice none 0 0, .slice none 0 0, .slice none 0 0, .int .i64 0, .int .i64 0, .int .i64 0, .int .i64 0, .int .i64 0, .bool false, .bool false, .bool false, .bool false, .int .i64 0, .int .i64 0, .int .i64 0, .int .i64 0, .int .i64 0, .bool false, .slice none 0 0, .slice none 0 0, .int .i64 0, .int .i64 0, .int .i64 0, .int .i64 0, .int .i64 0, .bool false, .bool false, .bool false, .int .i64 0, .bool false, .int .i64 0, .slice none 0 0, .slice none 0 0, .slice none 0 0] cH jH.out (by rw [scH]; rfl) oneH
  have bH := box_new W16 cH 76
  have LA : Below W16.heap.size W16 (W16.alloc (.cells cH 76)) := (Below.refl _ _).alloc (Nat.le_refl _) _
  go_upto_region 25 with (fail)
  clear hst scH oneH
  have C17 := below_snoc C16 LA
  replace k0 := box_keep k0 LA (boxLt k0)
  replace bW := box_keep bW LA (boxLt bW)
  replace bX := box_keep bX LA (boxLt bX)
  replace bG := box_keep bG LA (boxLt bG)
  replace oW := hR.out _ _ _ _ _ _ (wrote_below LA Nowhere) (fun _ _ _ _ x => x) oW
  replace oM := hM.out _ _ _ _ _ _ (wrote_below LA Nowhere) (fun _ _ _ _ x => x) oM
  replace oH := hR.out _ _ _ _ _ _ (wrote_below LA Nowhere) (fun _ _ _ _ x => x) oH
  have sz17 := LA.size
  clear LA C16
  obtain ⟨zH, hzzH⟩ : ∃ z, Hid (z = W16.heap.size) := ⟨_, rfl⟩
  rw [← hzzH.out] at bH ⊢
  generalize W16.alloc (.cells cH 76) = W17 at *
  have gzzH : W16.heap.size ≤ zH := by rw [hzzH.out]; exact Nat.le_refl _
  have lzzH := boxLt bH
  clear hzzH
  refine wp_region_lit ?_
  refine wpList_load_row rfl _ _ rfl (zH) rfl _ _ _ _ bH Tryz.underlying76 rfl jH.out ?_
  refine wpList_load_row rfl _ _ rfl (zW) rfl _ _ _ _ bW Tryz.underlying76 rfl jW.out ?_
  go_wp2_with fail
  refine (HER.out _ _ _ _ _ _ _ oH oW).mono ?_
  rintro e W18 ⟨rfl, L⟩
  have C18 := below_snoc C17 L
  replace k0 := box_keep k0 L (boxLt k0)
  replace bW := box_keep bW L (boxLt bW)
  replace bX := box_keep bX L (boxLt bX)
  replace bG := box_keep bG L (boxLt bG)
  replace bH := box_keep bH L (boxLt bH)
  replace oW := hR.out _ _ _ _ _ _ (wrote_below L Nowhere) (fun _ _ _ _ x => x) oW
  replace oM := hM.out _ _ _ _ _ _ (wrote_below L Nowhere) (fun _ _ _ _ x => x) oM
  replace oH := hR.out _ _ _ _ _ _ (wrote_below L Nowhere) (fun _ _ _ _ x => x) oH
  have sz18 := L.size
  clear L C17
  go_upto_region 28 with (fail)
  refine wp_region_lit ?_
  refine wpList_load_row rfl _ _ rfl (zG) rfl _ _ _ _ bG Tryz.underlying76 rfl jG.out ?_
  go_wp2_with fail
  refine (HHR.out _ _ _ _ oM).mono ?_
  rintro e W19 ⟨rfl, L⟩
  have C19 := below_snoc C18 L
  replace k0 := box_keep k0 L (boxLt k0)
  replace bW := box_keep bW L (boxLt bW)
  replace bX := box_keep bX L (boxLt bX)
  replace bG := box_keep bG L (boxLt bG)
  replace bH := box_keep bH L (boxLt bH)
  replace oW := hR.out _ _ _ _ _ _ (wrote_below L Nowhere) (fun _ _ _ _ x => x) oW
  replace oM := hM.out _ _ _ _ _ _ (wrote_below L Nowhere) (fun _ _ _ _ x => x) oM
  replace oH := hR.out _ _ _ _ _ _ (wrote_below L Nowhere) (fun _ _ _ _ x => x) oH
  have sz19 := L.size
  clear L C18
  go_wp2
  go_ret
  exact ⟨rfl, C19⟩
theorem lawAsLock (w : World) (d : SpD) (u0 : Value) (ra0 : Nat → Option Addr) (rc0 : Nat → Nat) (a1 : Option Addr) (c1 : Nat) (a2 : Option Addr) (c2 : Nat) (a3 : Option Addr) (c3 : Nat) (b1 : Option Addr) (y1 : Nat) (b2 : Option Addr) (y2 : Nat) (b3 : Option Addr) (y3 : Nat) (b4 : Option Addr) (y4 : Nat) (ra4 : Nat → Option Addr) (rc4 : Nat → Nat) (e1 : Option Addr) (z1 : Nat) (e2 : Option Addr) (z2 : Nat) (H : RawS w d u0 ra0 rc0 a1 c1 a2 c2 a3 c3 b1 y1 b2 y2 b3 y3 b4 y4 ra4 rc4 e1 z1 e2 z2) :
    Calls Tryz.prog 4 #[.agg #[u0, .slice a1 d.np c1, .slice a2 d.nr c2, .int .i64 d.bank, .int .i64 d.A, .int .i64 d.X, .int .i64 d.S, .int .i64 d.Pc, .bool d.Z, .bool d.N, .bool d.C, .bool d.I, .bool d.hd, .int .i64 d.sh, .int .i64 d.T, .bool d.nmi, .int .i64 d.ctrl, .bool d.kn, .int .i64 d.ka, .int .i64 d.st, .slice a3 d.nq c3, .int .i64 d.pc.t, .int .i64 d.pc.c, .int .i64 d.pc.s, .int .i64 d.pc.ad, .int .i64 d.pc.pl, .bool d.pc.bl, .slice b1 d.pc.nt y1, .slice b2 d.pc.nd y2, .int .i64 d.pc.cap, .slice b3 d.pc.n y3, .slice b4 d.pc.mf y4, .int .i64 d.sn.T, .int .i64 d.sn.P, .int .i64 d.sn.C, .int .i64 d.sn.B, .int .i64 d.sn.L, .bool d.sn.S, .bool d.sn.Q, .int .i64 d.sn.cap, .slice e1 d.sn.n z1, .slice e2 d.sn.ns z2]] w fun e w' => e = .returned (.bool true) ∧ Below w.heap.size w w' :=
  lawAsLock1 w _ rfl (szSp d) (1 + markSN d) (1 + markN (asL d)) (markSN_nn d) (markN_nn _) (SpP d) (LkS (asL d)) (LkS (markD (asL d) 1))
    (fun R lo hi W W' v hw hd h => h.keepP hw hd) (fun R lo hi W W' v hw hd h => h.keepP hw hd) (fun R lo hi W W' v hw hd h => h.keepP hw hd)
    (fun W L => rawSzSplit u0 ra0 rc0 a1 c1 a2 c2 a3 c3 b1 y1 b2 y2 b3 y3 b4 y4 ra4 rc4 e1 z1 e2 z2 H L) (fun hs W L => rawToSplit u0 ra0 rc0 a1 c1 a2 c2 a3 c3 b1 y1 b2 y2 b3 y3 b4 y4 ra4 rc4 e1 z1 e2 z2 H hs L)
    (fun lo hi W v ⟨D, h, _, _⟩ => (specAsLock W D v d h).mono (fun e w' ⟨v', he, hc, L⟩ => by obtain ⟨c, rfl, s1, s2, hP⟩ := hc.out17; exact ⟨c, s1, s2, he, hP, L⟩))
    (fun lo hi W v ⟨D, h, _, _⟩ => (implAsLock W D v d h).mono (fun e w' ⟨v', he, hc, L⟩ => by obtain ⟨c, rfl, s1, s2, hP⟩ := hc.out17; exact ⟨c, s1, s2, he, hP, L⟩))
    (fun lo hi lo' hi' W v u ⟨D, h, _, _⟩ ⟨E, k, _, _⟩ => onEqSplit W D E v u d h k)
    (fun lo hi lo' hi' W v u ⟨D, h, _, _⟩ ⟨E, k, _, _⟩ => onEqLock W D E v u _ h k)
    (fun hs lo hi W v hh h => markSpP hs hh h) (fun hs lo hi W v hh h => markLkS (markN_asL d hs) hh h) (fun hs lo hi W v h => heldLkS (markN_asL d hs) h)
end Go.Proofs.YtjcaligejlhjdaaGreat
