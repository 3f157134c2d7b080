/-
  The program's picture unit (chapter 8), by its contracts: arrays of dots.
-/
import Derived.Test.YteefbbnkfclllaaDoorS8
import Derived.Test.YteefbbnkfclllaaDoorI2
import Derived.Laws.CopyRow
import Derived.Laws.IdiomCopy
import Derived.Laws.Rows
import Derived.Laws.Tables
import Derived.Laws.StructEq
import Derived.ChangeKeysEq
import Derived.Lib.QuietBelow
import Derived.Deep.WholeRow
namespace Go.Proofs.YteefbbnkfclllaaDoor
set_option linter.unusedVariables false
set_option linter.unusedSimpArgs false
open Go.ChangeShapes Go.WideShapes Go.ChangeAt Go.RowKit Go.Sort
theorem tmod_parts (x m : Int) (hm : 0 < m) : (x.tmod m < 0 → x.tmod m + m = x % m) ∧ (¬ x.tmod m < 0 → x.tmod m = x % m) ∧ -m < x.tmod m ∧ x.tmod m < m := by
  have h1 := Int.emod_nonneg x (show m ≠ 0 by omega)
  have h2 := Int.emod_lt_of_pos x hm
  rcases Int.le_total 0 x with h | h
  · have e := Int.tmod_eq_emod_of_nonneg (b := m) h
    rw [e]
    exact ⟨fun _ => by omega, fun _ => rfl, by omega, by omega⟩
  · have e : x.tmod m = -((-x) % m) := by
      have := Int.neg_tmod (-x) m
      rw [Int.neg_neg] at this
      rw [this, Int.tmod_eq_emod_of_nonneg (by omega)]
    have k1 := Int.emod_nonneg (-x) (show m ≠ 0 by omega)
    have k2 := Int.emod_lt_of_pos (-x) hm
    have d1 := Int.emod_add_mul_ediv x m
    have d2 := Int.emod_add_mul_ediv (-x) m
    rw [e]
    have key : (-x) % m = 0 ∧ x % m = 0 ∨ (-x) % m = m - x % m := by
      by_cases z : x % m = 0
      · left
        refine ⟨?_, z⟩
        have : m ∣ x := Int.dvd_of_emod_eq_zero z
        exact Int.emod_eq_zero_of_dvd (Int.dvd_neg.2 this)
      · right
        rw [Int.neg_emod]
        have hn : ¬ m ∣ x := fun hd => z (Int.emod_eq_zero_of_dvd hd)
        rw [if_neg hn]
        omega
    rcases key with ⟨k, z⟩ | k
    · exact ⟨fun h => by omega, fun _ => by omega, by omega, by omega⟩
    · by_cases z : (-x) % m = 0
      · exact ⟨fun h => by omega, fun _ => by omega, by omega, by omega⟩
      · exact ⟨fun h => by omega, fun h => by omega, by omega, by omega⟩
theorem left16 (x : Int) (w : World) : Calls Tryd.prog 45 #[.int .i64 x, .int .i64 16] w fun e w' => e = .returned (.int .i64 (x % 16)) ∧ w' = w := by
  obtain ⟨h1, h2, h3, h4⟩ := tmod_parts x 16 (by omega)
  have HQ := hide (And.intro h1 h2)
  clear h1 h2
  by_cases hn : x.tmod 16 < 0
  · go_enter Tryd.func45, Tryd.ntmps45
    go_wp2
    go_ret
    exact ⟨ret_int ((unhide HQ).1 hn), rfl⟩
  · go_enter Tryd.func45, Tryd.ntmps45
    go_wp2
    go_ret
    exact ⟨ret_int ((unhide HQ).2 (by omega)), rfl⟩
theorem left64 (x : Int) (w : World) : Calls Tryd.prog 45 #[.int .i64 x, .int .i64 64] w fun e w' => e = .returned (.int .i64 (x % 64)) ∧ w' = w := by
  obtain ⟨h1, h2, h3, h4⟩ := tmod_parts x 64 (by omega)
  have HQ := hide (And.intro h1 h2)
  clear h1 h2
  by_cases hn : x.tmod 64 < 0
  · go_enter Tryd.func45, Tryd.ntmps45
    go_wp2
    go_ret
    exact ⟨ret_int ((unhide HQ).1 hn), rfl⟩
  · go_enter Tryd.func45, Tryd.ntmps45
    go_wp2
    go_ret
    exact ⟨ret_int ((unhide HQ).2 (by omega)), rfl⟩
/-- The dots of a list, as an array of 48. -/
def scr (n : Nat) (f : Nat → Int) : Nat → Int := fun i => if i < n then f i else 0
theorem scrCopied (n : Nat) (f : Nat → Int) : (rowVals (min n 48) f ++ (rowVals 48 (fun _ => 0)).drop (min n 48)) = rowVals 48 (scr n f) := by
  apply List.ext_getElem?
  intro i
  by_cases h : i < min n 48
  · rw [List.getElem?_append_left (by rw [rowVals_len]; omega), rowVals_get _ _ i h, rowVals_get _ _ i (by omega)]
    unfold scr
    rw [if_pos (by omega)]
  · rw [List.getElem?_append_right (by rw [rowVals_len]; omega), rowVals_len, List.getElem?_drop]
    by_cases k : i < 48
    · rw [show min n 48 + (i - min n 48) = i by omega, rowVals_get _ _ i k, rowVals_get _ _ i k]
      unfold scr
      rw [if_neg (by omega)]
    · rw [List.getElem?_eq_none (by rw [rowVals_len]; omega), List.getElem?_eq_none (by rw [rowVals_len]; omega)]
theorem zeros48 : (rowVals 48 (fun _ => 0)).toArray = #[.int .i64 0, .int .i64 0, .int .i64 0, .int .i64 0, .int .i64 0, .int .i64 0, .int .i64 0, .int .i64 0, .int .i64 0, .int .i64 0, .int .i64 0, .int .i64 0, .int .i64 0, .int .i64 0, .int .i64 0, .int .i64 0, .int .i64 0, .int .i64 0, .int .i64 0, .int .i64 0, .int .i64 0, .int .i64 0, .int .i64 0, .int .i64 0, .int .i64 0, .int .i64 0, .int .i64 0, .int .i64 0, .int .i64 0, .int .i64 0, .int .i64 0, .int .i64 0, .int .i64 0, .int .i64 0, .int .i64 0, .int .i64 0, .int .i64 0, .int .i64 0, .int .i64 0, .int .i64 0, .int .i64 0, .int .i64 0, .int .i64 0, .int .i64 0, .int .i64 0, .int .i64 0, .int .i64 0, .int .i64 0] := by rfl
theorem zeros48_size : (rowVals 48 (fun _ => 0)).toArray.size = 48 := by rfl
theorem below_setRow {n : Nat} {w W : World} (h : Below n w W) {g : Nat} (cs : Array Value) (hg : n ≤ g) : Below n w (W.setRow g cs) :=
  ⟨h.os, h.tape, h.output, by rw [setRow_size]; exact h.size, fun k hk => by rw [setRow_other _ _ _ _ (by omega)]; exact h.block k hk⟩
theorem rowVals_all (n : Nat) (f : Nat → Int) : (rowVals n f).toArray.all (·.oneCell') = true := by
  rw [Array.all_eq_true_iff_forall_mem]
  intro x hx
  exact rowVals_one n f x (by simpa using hx)
theorem info48 : (Tryd.prog.info? 60).map (·.size) = some 48 := by kernel_rfl
set_option maxRecDepth 4000 in
set_option maxHeartbeats 1000000 in
theorem screenOf (w : World) (F : Nat → Nat → Prop) (u : Value) (n : Nat) (f : Nat → Int) (H : Ints .i64 w F u n f) :
    Calls Tryd.prog 37 #[u] w fun e w' => e = .returned (.agg (rowVals 48 (scr n f)).toArray) ∧ Below w.heap.size w w' := by
  obtain ⟨ua, ux, rfl, un, hr, -⟩ := H
  go_enter Tryd.func37, Tryd.ntmps37
  go_wp2
  rw [← zeros48]
  have L0 : Below w.heap.size w ((w.alloc (.cells (rowVals 48 (fun _ => 0)).toArray 60)).alloc (.cells (rowVals 48 (fun _ => 0)).toArray 60)) := ((Below.refl _ _).alloc (Nat.le_refl _) _).alloc (by simp) _
  have k0 : ((w.alloc (.cells (rowVals 48 (fun _ => 0)).toArray 60)).alloc (.cells (rowVals 48 (fun _ => 0)).toArray 60)).heap[w.heap.size]? = some (.cells (rowVals 48 (fun _ => 0)).toArray 60 (0, 0)) := boxA (box_new w _ _) _
  have k1 : ((w.alloc (.cells (rowVals 48 (fun _ => 0)).toArray 60)).alloc (.cells (rowVals 48 (fun _ => 0)).toArray 60)).heap[w.heap.size + 1]? = some (.cells (rowVals 48 (fun _ => 0)).toArray 60 (0, 0)) := by simpa using box_new (w.alloc (.cells (rowVals 48 (fun _ => 0)).toArray 60)) (rowVals 48 (fun _ => 0)).toArray 60
  replace hr := hr.keep (wrote_below L0 Nowhere) (fun _ _ _ x => x)
  generalize ((w.alloc (.cells (rowVals 48 (fun _ => 0)).toArray 60)).alloc (.cells (rowVals 48 (fun _ => 0)).toArray 60)) = W0 at *
  obtain ⟨W1, hcp, kk0, kk1, L1⟩ : ∃ W1, (Builtin.copy_ #[24, 24] 3 #[.slice (some ⟨w.heap.size + 1, 0, none⟩) 48 48, .slice ua n ux]).run Tryd.prog W0 = .ok (.int .i64 ((min n 48 : Nat) : Int)) W1 ∧ W1.heap[w.heap.size]? = some (.cells (rowVals 48 (fun _ => 0)).toArray 60 (0, 0)) ∧ W1.heap[w.heap.size + 1]? = some (.cells (rowVals 48 (scr n f)).toArray 60 (0, 0)) ∧ Below w.heap.size w W1 := by
    by_cases hn : n = 0
    · subst hn
      refine ⟨W0, ?_, k0, ?_, L0⟩
      · have := run_copy_none (P := Tryd.prog) W0 24 24 3 3 (some ⟨w.heap.size + 1, 0, none⟩) ua 48 48 0 ux Tryd.underlying24 (by kernel_rfl) (by rfl)
        exact this
      · rw [k1]
        congr 3
    · obtain ⟨rb, ro, rfl, -⟩ := hr 0 (by omega)
      have hr' := hr
      have := run_copy_row (P := Tryd.prog) W0 24 24 3 3 (w.heap.size + 1) 0 48 48 ⟨rb, ro, none⟩ n ux (rowVals 48 (fun _ => 0)).toArray 60 (rowVals (min n 48) f) Tryd.underlying24 (by kernel_rfl) k1 (by rw [rowVals_len]) (by exact rowVals_cells (fun i hi => hr i (by omega))) (by rw [rowVals_len, zeros48_size]; omega) (rowVals_one _ _)
      rw [rowVals_len, List.take_zero, List.nil_append, Nat.zero_add, scrCopied] at this
      refine ⟨_, this, ?_, ?_, ?_⟩
      · rw [setRow_other _ _ _ _ (by omega)]
        exact k0
      · exact setRow_heap _ _ _ _ _ _ k1
      · exact below_setRow L0 _ (by omega)
  simp only [hcp, Result.andThen]
  rw [Oper.upon_value]
  clear hcp hr k0 k1 L0
  go_upto_region 3 with (fail)
  rename_i K1 h1
  refine wp_region_lit ?_
  refine wpList_load_row rfl _ _ rfl (w.heap.size + 1) rfl _ _ _ _ kk1 Tryd.underlying60 rfl info48 ?_
  refine wpList_store_row rfl _ _ _ rfl w.heap.size _ rfl rfl _ _ kk0 info48 rfl (rowVals_all _ _) ?_
  refine h1 _ _ ?_
  go_wp2
  refine bodyPost_ret (v := .agg (rowVals 48 (scr n f)).toArray) (results_cell_row (by rfl) _ _ w.heap.size _ _ _ _ rfl (setRow_heap _ _ _ _ _ _ kk0) Tryd.underlying60 rfl info48) rfl ?_
  exact ⟨rfl, below_setRow L1 _ (Nat.le_refl _)⟩
theorem index48 (g : Nat → Int) (q : Nat) (hq : q < 48) (w : World) : (Instr.index 60 (.agg (rowVals 48 g).toArray) (.int .i64 q)).run Tryd.prog w = .ok (.int .i64 (g q)) w := by
  obtain ⟨i0, hi, hz0, hz1, hz2⟩ := info_parts info3
  have hx : (rowVals 48 g).toArray[q]? = some (.int .i64 (g q)) := by rw [List.getElem?_toArray, rowVals_get 48 g q hq]
  have hp := run_part_plain (P := Tryd.prog) w (e := 3) (by kernel_rfl) (off := q) hx
  have h2 : (q : Int) < ((48 : Nat) : Int) := by omega
  simp [Instr.index, asIntOf, run_underlying Tryd.underlying60, Result.andThen, sizeOf, typeInfo, hi, hz1, hp, h2]
  intro h; omega
def cutTo (q : Nat) (g : Nat → Int) : Nat → Int := fun i => if i < q then g i % 64 else g i
theorem cutTo_next (q : Nat) (hq : q < 48) (g : Nat → Int) : (rowVals 48 (cutTo q g)).toArray.setIfInBounds q (.int .i64 (g q % 64)) = (rowVals 48 (cutTo (q + 1) g)).toArray := by
  rw [List.setIfInBounds_toArray]
  congr 1
  apply List.ext_getElem?
  intro j
  by_cases hj : j < 48
  · rw [rowVals_get 48 _ j hj]
    by_cases e : q = j
    · subst e
      rw [List.getElem?_set_self (by rw [rowVals_len]; exact hj)]
      unfold cutTo
      rw [if_pos (by omega)]
    · rw [List.getElem?_set_ne e, rowVals_get 48 _ j hj]
      unfold cutTo
      by_cases k : j < q
      · rw [if_pos k, if_pos (by omega)]
      · rw [if_neg k, if_neg (by omega)]
  · rw [List.getElem?_eq_none (by rw [List.length_set, rowVals_len]; omega), List.getElem?_eq_none (by rw [rowVals_len]; omega)]
theorem cutTo_all (g : Nat → Int) : rowVals 48 (cutTo 48 g) = rowVals 48 (fun i => g i % 64) := List.map_congr_left (fun i hi => by rw [cutTo, if_pos (List.mem_range.1 hi)])
theorem cutTo_zero (g : Nat → Int) : rowVals 48 (cutTo 0 g) = rowVals 48 g := List.map_congr_left (fun i hi => by rw [cutTo, if_neg (by omega)])
set_option maxHeartbeats 1000000 in
theorem scrCut (w : World) (g : Nat → Int) : Calls Tryd.prog 38 #[.agg (rowVals 48 g).toArray] w fun e w' => e = .returned (.agg (rowVals 48 (fun i => g i % 64)).toArray) ∧ Below w.heap.size w w' := by
  go_enter Tryd.func38, Tryd.ntmps38
  go_upto_region 1 with (fail)
  rw [← zeros48]
  have L0 : Below w.heap.size w ((w.alloc (.cells (rowVals 48 g).toArray 60)).alloc (.cells (rowVals 48 (fun _ => 0)).toArray 60)) := ((Below.refl _ _).alloc (Nat.le_refl _) _).alloc (by simp) _
  have k0 : ((w.alloc (.cells (rowVals 48 g).toArray 60)).alloc (.cells (rowVals 48 (fun _ => 0)).toArray 60)).heap[w.heap.size]? = some (.cells (rowVals 48 g).toArray 60 (0, 0)) := boxA (box_new w _ _) _
  have k1 : ((w.alloc (.cells (rowVals 48 g).toArray 60)).alloc (.cells (rowVals 48 (fun _ => 0)).toArray 60)).heap[w.heap.size + 1]? = some (.cells (rowVals 48 (fun _ => 0)).toArray 60 (0, 0)) := by simpa using box_new (w.alloc (.cells (rowVals 48 g).toArray 60)) (rowVals 48 (fun _ => 0)).toArray 60
  generalize ((w.alloc (.cells (rowVals 48 g).toArray 60)).alloc (.cells (rowVals 48 (fun _ => 0)).toArray 60)) = W0 at *
  refine wp_region_lit ?_
  refine wpList_load_row rfl _ _ rfl w.heap.size rfl _ _ _ _ k0 Tryd.underlying60 rfl info48 ?_
  go_wp2
  go_loopw [6] (fun i wr => ∃ q : Nat, q ≤ 48 ∧ i = .int .i64 q ∧ wr.heap[w.heap.size]? = some (.cells (rowVals 48 (cutTo q g)).toArray 60 (0, 0)) ∧ wr.heap[w.heap.size + 1]? = some (.cells (rowVals 48 (fun _ => 0)).toArray 60 (0, 0)) ∧ Below w.heap.size w wr) (fun i _ => 48 - (intOf i).toNat)
  case atStart => exact ⟨0, by omega, rfl, by rw [cutTo_zero]; exact k0, k1, L0⟩
  case round =>
    obtain ⟨q, hq, rfl, h0, h1, L⟩ := hrel
    clear k0 k1 L0
    by_cases hlt : q < 48
    · have hlt' : (q : Int) < 48 := by omega
      have hix := index48 g q hlt
      have hc : wr.cell? ⟨w.heap.size, q, none⟩ = some (.int .i64 (cutTo q g q)) := by rw [boxC h0 q, List.getElem?_toArray, rowVals_get 48 _ q hlt]
      have hf := boxF h0 q
      go_wp2_with fail
      refine (left64 _ _).mono ?_
      rintro e w1 ⟨rfl, rfl⟩
      go_wp2
      go_round
      case rel =>
        refine ⟨q + 1, by omega, by go_num, ?_, box_set_ne8 h1 (by omega), L.setCell (by simp) _⟩
        have := box_set (o := q) h0 (.int .i64 (g q % 64))
        rw [cutTo_next q hlt] at this
        exact this
      case measure => simp [intOf]; omega
    · have hlt' : ¬ (q : Int) < 48 := by omega
      have hq48 : q = 48 := by omega
      subst hq48
      rw [cutTo_all] at h0
      clear hlt hlt' hq
      go_upto_region 6 with (fail)
      rename_i K1 h2
      refine wp_region_lit ?_
      refine wpList_load_row rfl _ _ rfl w.heap.size rfl _ _ _ _ h0 Tryd.underlying60 rfl info48 ?_
      refine wpList_store_row rfl _ _ _ rfl (w.heap.size + 1) _ rfl rfl _ _ h1 info48 rfl (rowVals_all _ _) ?_
      refine h2 _ _ ?_
      go_wp2
      refine bodyPost_ret (v := .agg (rowVals 48 (fun i => g i % 64)).toArray) (results_cell_row (by rfl) _ _ (w.heap.size + 1) _ _ _ _ rfl (setRow_heap _ _ _ _ _ _ h1) Tryd.underlying60 rfl info48) rfl ?_
      exact ⟨rfl, below_setRow L _ (by omega)⟩
/-- A whole row out of a block that is not written, in a region whose operations only read. -/
theorem wpQuiet_load_row {P : Program} {ops : Array Oper} {W : World} {Q : Act → Prop} {rest : List Oper} {o : Oper} {a : Act} (hw : Region.wanted o (yielded ops a.tmps) = true) (ty : TypeId) (x : Operand) (ho : o.op = .load ty x)
    (g : Nat) (hx : a.eval x = .pointer (some ⟨g, 0, none⟩)) (t : TypeId) (cs : Array Value) (d : TypeDesc) (hg : W.heap[g]? = some (.cells cs t (0, 0)))
    (hu : P.underlying ty = some d) (hd : (match d with | .struct _ | .array _ _ => true | _ => false) = true) (hi : (P.info? ty).map (·.size) = some cs.size)
    (h : wpQuiet P ops (fun w' => ∃ p : Regrown, w' = grow (redrawn W p.d) p.os) Q rest (a.put o.dst (.agg cs))) : wpQuiet P ops (fun w' => ∃ p : Regrown, w' = grow (redrawn W p.d) p.os) Q (o :: rest) a :=
  Go.BigFrame.wpQuiet_want hw (fun K hK => ⟨.agg cs, fun w' ⟨p, e⟩ => by
    subst e
    have hb := ((below_regrown W p.d p.os).block _ (boxLt hg)).trans hg
    unfold Oper.quietAt execOp
    simp only [ho, hx, Instr.loadAt, Instr.sureAddr, Sem.run_bind, Sem.run_pure, Result.andThen_ok, run_loadVar_row _ g t ty cs (0, 0) d hb hu hd hi]
    exact ⟨rfl, rfl⟩, hK _ h⟩)
theorem eqItems48 (f g : Nat → Int) (w : World) (d : Nat) : ∀ is : List Nat, (∀ i, i ∈ is → i < 48) → (Op.eqItems (d + 1) 3 1 (rowVals 48 f).toArray (rowVals 48 g).toArray is).run Tryd.prog w = .ok (is.all (fun i => f i == g i)) w
  | [], _ => by simp [Op.eqItems]
  | i :: is, h => by
    have hi := h i (by simp)
    have p1 := run_part_plain (P := Tryd.prog) w (e := 3) (by kernel_rfl) (off := i) (xs := (rowVals 48 f).toArray) (v := .int .i64 (f i)) (by rw [List.getElem?_toArray, rowVals_get 48 f i hi])
    have p2 := run_part_plain (P := Tryd.prog) w (e := 3) (by kernel_rfl) (off := i) (xs := (rowVals 48 g).toArray) (v := .int .i64 (g i)) (by rw [List.getElem?_toArray, rowVals_get 48 g i hi])
    have ih := eqItems48 f g w d is (fun j hj => h j (by simp [hj]))
    simp only [Op.eqItems, Sem.run_bind, Nat.mul_one, p1, p2, Result.andThen_ok, run_equalIn_int w d 3 .i64 .i64 _ _ Tryd.underlying3]
    cases hb : f i == g i
    · simp [hb]
    · simp [hb, ih]
theorem eql48 (f g : Nat → Int) (w : World) : (binOp .eql 60 (.agg (rowVals 48 f).toArray) (.agg (rowVals 48 g).toArray)).run Tryd.prog w = .ok (.bool ((List.range 48).all (fun i => f i == g i))) w := by
  obtain ⟨i0, hi, hz0, hz1, hz2⟩ := info_parts info3
  have hc : Tryd.prog.cellsOf 3 = 1 := by kernel_rfl
  rw [run_eql_struct, show (10000 : Nat) = 9999 + 1 from rfl, run_equalIn_array w 9999 _ _ Tryd.underlying60 hi, hc, show (9999 : Nat) = 9998 + 1 from rfl, eqItems48 f g w 9998 _ (fun i hi => List.mem_range.1 hi)]
  rfl
theorem same48 (n : Nat) (f : Nat → Int) (hn : n ≤ 48) : (List.range 48).all (fun i => scr n f i == scr n f i % 64) = allIn n f 0 63 := by
  cases h : allIn n f 0 63
  · rw [Bool.eq_false_iff]
    intro e
    have := allIn_yes (n := n) (f := f) (lo := 0) (hi := 63) (fun j hj => by
      have := List.all_eq_true.1 e j (List.mem_range.2 (by omega))
      have e2 : scr n f j = f j := if_pos hj
      rw [e2] at this
      have := eq_of_beq this
      omega)
    rw [h] at this
    cases this
  · rw [List.all_eq_true]
    intro i hi
    have k := allIn_of h
    by_cases hlt : i < n
    · have e2 : scr n f i = f i := if_pos hlt
      have := k i hlt
      rw [e2]
      exact beq_iff_eq.2 (by omega)
    · have e2 : scr n f i = 0 := if_neg hlt
      rw [e2]
      rfl
set_option maxHeartbeats 1000000 in
theorem isColours (w : World) (F : Nat → Nat → Prop) (u : Value) (n : Nat) (f : Nat → Int) (many : Int) (H : Ints .i64 w F u n f) (h1 : many ≤ 48) :
    Calls Tryd.prog 21 #[u, .int .i64 many] w fun e w' => e = .returned (.bool (decide ((n : Int) = many) && allIn n f 0 63)) ∧ Below w.heap.size w w' := by
  obtain ⟨ua, ux, rfl, un, hr, hF⟩ := H
  have H : Ints .i64 w F (.slice ua n ux) n f := ⟨_, _, rfl, un, hr, hF⟩
  clear hr hF
  go_enter Tryd.func21, Tryd.ntmps21
  go_wp2_with fail
  refine (screenOf _ F _ n f H).mono ?_
  rintro e w1 ⟨rfl, L1⟩
  have hlen : (rowVals 48 (scr n f)).length = 48 := rowVals_len _ _
  have hsc : (storeCells ⟨w1.heap.size, 0, none⟩ (rowVals 48 (scr n f)) 0).run Tryd.prog (w1.alloc (.cells #[.int .i64 0, .int .i64 0, .int .i64 0, .int .i64 0, .int .i64 0, .int .i64 0, .int .i64 0, .int .i64 0, .int .i64 0, .int .i64 0, .int .i64 0, .int .i64 0, .int .i64 0, .int .i64 0, .int .i64 0, .int .i64 0, .int .i64 0, .int .i64 0, .int .i64 0, .int .i64 0, .int .i64 0, .int .i64 0, .int .i64 0, .int .i64 0, .int .i64 0, .int .i64 0, .int .i64 0, .int .i64 0, .int .i64 0, .int .i64 0, .int .i64 0, .int .i64 0, .int .i64 0, .int .i64 0, .int .i64 0, .int .i64 0, .int .i64 0, .int .i64 0, .int .i64 0, .int .i64 0, .int .i64 0, .int .i64 0, .int .i64 0, .int .i64 0, .int .i64 0, .int .i64 0, .int .i64 0, .int .i64 0] 60)) = .ok () (w1.alloc (.cells (rowVals 48 (scr n f)).toArray 60)) := run_storeCells_new (P := Tryd.prog) w1 60 #[.int .i64 0, .int .i64 0, .int .i64 0, .int .i64 0, .int .i64 0, .int .i64 0, .int .i64 0, .int .i64 0, .int .i64 0, .int .i64 0, .int .i64 0, .int .i64 0, .int .i64 0, .int .i64 0, .int .i64 0, .int .i64 0, .int .i64 0, .int .i64 0, .int .i64 0, .int .i64 0, .int .i64 0, .int .i64 0, .int .i64 0, .int .i64 0, .int .i64 0, .int .i64 0, .int .i64 0, .int .i64 0, .int .i64 0, .int .i64 0, .int .i64 0, .int .i64 0, .int .i64 0, .int .i64 0, .int .i64 0, .int .i64 0, .int .i64 0, .int .i64 0, .int .i64 0, .int .i64 0, .int .i64 0, .int .i64 0, .int .i64 0, .int .i64 0, .int .i64 0, .int .i64 0, .int .i64 0, .int .i64 0] (rowVals 48 (scr n f)).toArray info48 rfl (rowVals_all _ _)
  go_upto_region 2 with (fail)
  clear hlen hsc
  have k0 := box_new w1 (rowVals 48 (scr n f)).toArray 60
  have L2 : Below w.heap.size w (w1.alloc (.cells (rowVals 48 (scr n f)).toArray 60)) := L1.alloc (L1.size) _
  generalize w1.alloc (.cells (rowVals 48 (scr n f)).toArray 60) = W2 at *
  by_cases hn : (n : Int) = many
  · have hd : ((n : Int) == many) = true := by simpa using hn
    have HE : Hid ((decide ((n : Int) = many) && allIn n f 0 63) = allIn n f 0 63) := by show _ = _; rw [decide_eq_true hn, Bool.true_and]
    have hS := same48 n f (by omega)
    have hE := eql48 (scr n f) (fun i => scr n f i % 64)
    rw [hS] at hE
    clear hS
    refine wp_region_quiet_below (by kernel_rfl) (by kernel_rfl) ?_
    iterate 5 (quiet_step (fail))
    iterate 2 (refine wpQuiet_load_row (by kernel_rfl) _ _ rfl w1.heap.size rfl _ _ _ k0 Tryd.underlying60 rfl info48 ?_)
    quiet_step ((go_at_call 38; exact Calls.regrown_of (scrCut _ _)))
    iterate 3 (quiet_step (fail))
    refine wpQuiet_nil ?_
    intro _ hw'
    obtain ⟨⟨dq, osq⟩, hw''⟩ := hw'
    subst hw''
    have LQ := below_regrown W2 dq osq
    generalize Go.Sort.grow (redrawn W2 dq) osq = w4 at *
    go_wp2
    go_ret
    exact ⟨ret_bool HE.out.symm, L2.trans (LQ.mono L2.size)⟩
  · have hd : ((n : Int) == many) = false := by simpa using hn
    have HE : Hid ((decide ((n : Int) = many) && allIn n f 0 63) = false) := by show _ = _; rw [decide_eq_false hn, Bool.false_and]
    refine wp_region_quiet_below (by kernel_rfl) (by kernel_rfl) ?_
    iterate 11 (quiet_step (fail))
    refine wpQuiet_nil ?_
    intro _ hw'
    obtain ⟨⟨dq, osq⟩, hw''⟩ := hw'
    subst hw''
    have LQ := below_regrown W2 dq osq
    generalize Go.Sort.grow (redrawn W2 dq) osq = w4 at *
    go_wp2
    go_ret
    exact ⟨ret_bool HE.out.symm, L2.trans (LQ.mono L2.size)⟩
end Go.Proofs.YteefbbnkfclllaaDoor
