/-
  The program's rows of records by their contracts.
-/
import Derived.Test.YtpaedkefmebjjasRIa
import Derived.Laws.CopyRow
import Derived.Laws.IdiomCopy
import Derived.Laws.Rows
import Derived.Laws.Tables
import Derived.Deep.WholeRow
import Derived.Deep.AppendLies
namespace Go.Proofs.Ytpaedkefmebjjas
set_option linter.unusedVariables false
set_option linter.unusedSimpArgs false
open Go.ChangeShapes Go.WideShapes Go.ChangeAt Go.RowKit Go.Sort
/-- The cells of a row: sixteen slots, how many it may have, its head and its tail. -/
def rowV (g : Nat → Int) (most h t : Int) : Array Value := (recVals 48 g ++ [Value.int .i64 most, Value.int .i64 h, Value.int .i64 t]).toArray
section
variable {g g' : Nat → Int} {most h t : Int}
theorem rowV_size : (rowV g most h t).size = 51 := by unfold rowV; simp [recVals_len]
theorem rowV_slot {j : Nat} (hj : j < 48) : (rowV g most h t)[j]? = some (.int .i64 (g j)) := by
  unfold rowV
  rw [List.getElem?_toArray, List.getElem?_append_left (by rw [recVals_len]; exact hj), recVals_get g hj]
theorem rowV_48 : (rowV g most h t)[48]? = some (.int .i64 most) := by unfold rowV; rw [List.getElem?_toArray, List.getElem?_append_right (by rw [recVals_len]; omega), recVals_len]; rfl
theorem rowV_49 : (rowV g most h t)[49]? = some (.int .i64 h) := by unfold rowV; rw [List.getElem?_toArray, List.getElem?_append_right (by rw [recVals_len]; omega), recVals_len]; rfl
theorem rowV_50 : (rowV g most h t)[50]? = some (.int .i64 t) := by unfold rowV; rw [List.getElem?_toArray, List.getElem?_append_right (by rw [recVals_len]; omega), recVals_len]; rfl
theorem rowV_is {cs : Array Value} (h0 : cs.size = 51) (h1 : ∀ j, j < 48 → cs[j]? = some (.int .i64 (g j))) (h2 : cs[48]? = some (.int .i64 most)) (h3 : cs[49]? = some (.int .i64 h)) (h4 : cs[50]? = some (.int .i64 t)) : cs = rowV g most h t := by
  apply Array.ext_getElem?
  intro j
  by_cases a : j < 48
  · rw [h1 j a, rowV_slot a]
  · by_cases b : j = 48
    · rw [b, h2, rowV_48]
    · by_cases c : j = 49
      · rw [c, h3, rowV_49]
      · by_cases d : j = 50
        · rw [d, h4, rowV_50]
        · rw [Array.getElem?_eq_none (by omega), Array.getElem?_eq_none (by rw [rowV_size]; omega)]
theorem rowV_one : (rowV g most h t).all (·.oneCell') = true := by
  rw [Array.all_eq_true_iff_forall_mem]
  intro x hx
  unfold rowV at hx
  simp only [List.mem_toArray, List.mem_append, List.mem_cons, List.not_mem_nil, or_false] at hx
  rcases hx with hx | rfl | rfl | rfl
  · unfold recVals at hx
    obtain ⟨i, -, rfl⟩ := List.mem_map.1 hx
    rfl
  · rfl
  · rfl
  · rfl
theorem rowV_tail (t' : Int) : (rowV g most h t).setIfInBounds 50 (.int .i64 t') = rowV g most h t' := by
  refine rowV_is (by rw [Array.size_setIfInBounds, rowV_size]) (fun j hj => ?_) ?_ ?_ ?_
  · rw [Array.getElem?_setIfInBounds_ne (by omega), rowV_slot hj]
  · rw [Array.getElem?_setIfInBounds_ne (by omega), rowV_48]
  · rw [Array.getElem?_setIfInBounds_ne (by omega), rowV_49]
  · rw [Array.getElem?_setIfInBounds_self_of_lt (by rw [rowV_size]; omega)]
theorem rowV_head (h' : Int) : (rowV g most h t).setIfInBounds 49 (.int .i64 h') = rowV g most h' t := by
  refine rowV_is (by rw [Array.size_setIfInBounds, rowV_size]) (fun j hj => ?_) ?_ ?_ ?_
  · rw [Array.getElem?_setIfInBounds_ne (by omega), rowV_slot hj]
  · rw [Array.getElem?_setIfInBounds_ne (by omega), rowV_48]
  · rw [Array.getElem?_setIfInBounds_self_of_lt (by rw [rowV_size]; omega)]
  · rw [Array.getElem?_setIfInBounds_ne (by omega), rowV_50]
theorem rowV_put {q : Nat} (hq : q < 16) (a b c : Int) : (((rowV g most h t).setIfInBounds (q * 3) (.int .i64 a)).setIfInBounds (q * 3 + 1) (.int .i64 b)).setIfInBounds (q * 3 + 2) (.int .i64 c) = rowV (put3 g q a b c) most h t := by
  refine rowV_is (by simp [rowV_size]) (fun j hj => ?_) ?_ ?_ ?_
  · unfold put3
    simp only [Array.getElem?_setIfInBounds, Array.size_setIfInBounds, rowV_size]
    by_cases e2 : q * 3 + 2 = j
    · rw [if_pos e2, if_pos (by omega), if_neg (by omega), if_neg (by omega), if_pos (by omega)]
    · rw [if_neg e2]
      by_cases e1 : q * 3 + 1 = j
      · rw [if_pos e1, if_pos (by omega), if_neg (by omega), if_pos (by omega)]
      · rw [if_neg e1]
        by_cases e0 : q * 3 = j
        · rw [if_pos e0, if_pos (by omega), if_pos (by omega)]
        · rw [if_neg e0, if_neg (by omega), if_neg (by omega), if_neg (by omega), rowV_slot hj]
  · rw [Array.getElem?_setIfInBounds_ne (by omega), Array.getElem?_setIfInBounds_ne (by omega), Array.getElem?_setIfInBounds_ne (by omega), rowV_48]
  · rw [Array.getElem?_setIfInBounds_ne (by omega), Array.getElem?_setIfInBounds_ne (by omega), Array.getElem?_setIfInBounds_ne (by omega), rowV_49]
  · rw [Array.getElem?_setIfInBounds_ne (by omega), Array.getElem?_setIfInBounds_ne (by omega), Array.getElem?_setIfInBounds_ne (by omega), rowV_50]
/-- n records, and nothing behind them. -/
def pad3 (n : Nat) (f : Nat → Int) : Nat → Int := fun j => if j < n * 3 then f j else 0
theorem rowV_copy {n : Nat} {f : Nat → Int} (hn : n ≤ 16) : ((rowV (fun _ => 0) most h t).toList.take 0 ++ recVals (n * 3) f ++ (rowV (fun _ => 0) most h t).toList.drop (0 + (recVals (n * 3) f).length)).toArray = rowV (pad3 n f) most h t := by
  have key : ∀ j, ((rowV (fun _ => 0) most h t).toList.take 0 ++ recVals (n * 3) f ++ (rowV (fun _ => 0) most h t).toList.drop (0 + (recVals (n * 3) f).length)).toArray[j]? = if j < n * 3 then some (.int .i64 (f j)) else (rowV (fun _ => 0) most h t)[j]? := fun j => by
    rw [List.take_zero, List.nil_append, Nat.zero_add, recVals_len, List.getElem?_toArray]
    by_cases hj : j < n * 3
    · rw [List.getElem?_append_left (by rw [recVals_len]; exact hj), recVals_get f hj, if_pos hj]
    · rw [List.getElem?_append_right (by rw [recVals_len]; omega), recVals_len, List.getElem?_drop, if_neg hj, show n * 3 + (j - n * 3) = j by omega, Array.getElem?_toList]
  refine rowV_is ?_ (fun j hj => ?_) ?_ ?_ ?_
  · simp [recVals_len, rowV_size]
    omega
  · rw [key]
    unfold pad3
    by_cases e : j < n * 3
    · rw [if_pos e, if_pos e]
    · rw [if_neg e, if_neg e, rowV_slot hj]
  · rw [key, if_neg (by omega), rowV_48]
  · rw [key, if_neg (by omega), rowV_49]
  · rw [key, if_neg (by omega), rowV_50]
end
set_option maxRecDepth 4000 in
theorem rowV_lit (most t : Int) : rowV (fun _ => 0) most 0 t = #[.int .i64 0, .int .i64 0, .int .i64 0, .int .i64 0, .int .i64 0, .int .i64 0, .int .i64 0, .int .i64 0, .int .i64 0, .int .i64 0, .int .i64 0, .int .i64 0, .int .i64 0, .int .i64 0, .int .i64 0, .int .i64 0, .int .i64 0, .int .i64 0, .int .i64 0, .int .i64 0, .int .i64 0, .int .i64 0, .int .i64 0, .int .i64 0, .int .i64 0, .int .i64 0, .int .i64 0, .int .i64 0, .int .i64 0, .int .i64 0, .int .i64 0, .int .i64 0, .int .i64 0, .int .i64 0, .int .i64 0, .int .i64 0, .int .i64 0, .int .i64 0, .int .i64 0, .int .i64 0, .int .i64 0, .int .i64 0, .int .i64 0, .int .i64 0, .int .i64 0, .int .i64 0, .int .i64 0, .int .i64 0, .int .i64 most, .int .i64 0, .int .i64 t] := by rfl
theorem run_copy_recs (P : Program) (w : World) (dT sT ty elem : TypeId) (k : Nat) (g o dLen dCap : Nat) (a : Addr) (sLen sCap : Nat) (cur : Array Value) (t : TypeId) (cs : List Value)
    (hu : P.underlying dT = some (.slice elem)) (hs : (P.info? elem).map (·.size) = some k)
    (hg : w.heap[g]? = some (.cells cur t (0, 0))) (hn : cs.length = Nat.min sLen dLen * k)
    (hsrc : ∀ j v, cs[j]? = some v → w.cell? (a.add j) = some v) (hfit : o + cs.length ≤ cur.size) (h1 : ∀ v ∈ cs, v.oneCell' = true) :
    (Builtin.copy_ #[dT, sT] ty #[.slice (some ⟨g, o, none⟩) dLen dCap, .slice (some a) sLen sCap]).run P w =
      .ok (goInt (Nat.min sLen dLen)) (w.setRow g (cur.toList.take o ++ cs ++ cur.toList.drop (o + cs.length)).toArray) := by
  have hl := run_loadCells_list (P := P) w a cs hsrc
  have hst := run_storeCells_at P g o t cs 0 cur w hg (by simpa using hfit) h1
  cases hq : P.info? elem with
  | none => simp [hq] at hs
  | some i =>
    have hi : i.size = k := by simpa [hq] using hs
    simp [Builtin.copy_, run_underlying hu, Builtin.lenOf, Builtin.firstCells, sizeOf, typeInfo, hq, hi, ← hn, hl, hst]
theorem run_copy_recs0 (P : Program) (w : World) (dT sT ty elem : TypeId) (k : Nat) (d a : Option Addr) (dLen dCap sCap : Nat) (hu : P.underlying dT = some (.slice elem)) (hs : (P.info? elem).map (·.size) = some k) :
    (Builtin.copy_ #[dT, sT] ty #[.slice d dLen dCap, .slice a 0 sCap]).run P w = .ok (goInt 0) w := by
  cases hq : P.info? elem with
  | none => simp [hq] at hs
  | some i =>
    have hl : ∀ (x : Addr), (loadCells x 0).run P w = .ok #[] w := fun x => by simpa using run_loadCells_list (P := P) w x [] (by simp)
    cases d <;> cases a <;> simp [Builtin.copy_, run_underlying hu, Builtin.lenOf, Builtin.firstCells, sizeOf, typeInfo, hq, storeCells, hl]
theorem below_setRowR {n : Nat} {w W : World} (h : Below n w W) {g : Nat} (cs : Array Value) (hg : n ≤ g) : Below n w (W.setRow g cs) :=
  ⟨h.os, h.tape, h.output, by rw [setRow_size]; exact h.size, fun k hk => by rw [setRow_other _ _ _ _ (by omega)]; exact h.block k hk⟩
/-- What was written before, and then into blocks that had not been. -/
theorem Wrote.after {R S : Nat → Nat → Prop} {u v w : World} (h : Wrote R u v) (k : Wrote S v w) (hs : ∀ b o, b < u.heap.size → ¬ S b o) : Wrote R u w :=
  ⟨k.os.trans h.os, k.tape.trans h.tape, k.output.trans h.output, Nat.le_trans h.size k.size,
    fun i hi hr => (k.block i (Nat.lt_of_lt_of_le hi h.size) (fun o => hs i o hi)).trans (h.block i hi hr),
    fun b o hb hr => (k.cell b o (Nat.lt_of_lt_of_le hb h.size) (hs b o hb)).trans (h.cell b o hb hr),
    fun b o hb => (k.frozen b o (Nat.lt_of_lt_of_le hb h.size)).trans (h.frozen b o hb)⟩
theorem infoRow : (Try.prog.info? 71).map (·.size) = some 51 := by kernel_rfl
theorem infoRowAt {g : Nat → Int} {most h t : Int} : (Try.prog.info? 71).map (·.size) = some (rowV g most h t).size := by rw [rowV_size]; exact infoRow
theorem infoRec3 : (Try.prog.info? 40).map (·.size) = some 3 := by kernel_rfl
set_option maxRecDepth 8000 in
set_option maxHeartbeats 2000000 in
theorem rowOf (w : World) (most : Int) (a : Option Addr) (n c : Nat) (f : Nat → Int) (hn : n ≤ 16) (H : RowOf .i64 w a (n * 3) f) : Calls Try.prog 40 #[.int .i64 most, .slice a n c] w fun e w' => e = .returned (.agg (rowV (pad3 n f) most 0 n)) ∧ Below w.heap.size w w' := by
  go_enter Try.func40, Try.ntmps40
  go_upto_region 1 with (fail)
  rw [← rowV_lit 0 0]
  have C0 : Below w.heap.size w (w.alloc (.cells (rowV (fun _ => 0) 0 0 0) 71)) := (Below.refl _ _).alloc (Nat.le_refl _) _
  have k0 := box_new w (rowV (fun _ => 0) 0 0 0) 71
  generalize w.alloc (.cells (rowV (fun _ => 0) 0 0 0) 71) = W0 at *
  rename_i K1 h1
  refine wp_region_lit ?_
  iterate 5 (refine wpList_plain rfl (fun K9 hK9 => ?_); go_simp; refine hK9 _ _ ?_; clear hK9)
  rw [← rowV_lit 0 0, ← rowV_lit most n]
  refine wpList_store_row rfl _ _ _ rfl (W0.heap.size) (rowV (fun _ => 0) most 0 n) rfl rfl _ _ (box_new W0 (rowV (fun _ => 0) 0 0 0) 71) infoRowAt (by rw [rowV_size, rowV_size]) rowV_one ?_
  rw [World.setRow_alloc_new]
  have LA : Below W0.heap.size W0 (W0.alloc (.cells (rowV (fun _ => 0) most 0 n) 71)) := (Below.refl _ _).alloc (Nat.le_refl _) _
  replace C0 := below_snoc C0 LA
  have hb0 := boxLt k0
  replace k0 := box_keep k0 LA (boxLt k0)
  have k1 := box_new W0 (rowV (fun _ => 0) most 0 n) 71
  clear LA
  obtain ⟨z, hz⟩ : ∃ z, Hid (z = W0.heap.size) := ⟨_, rfl⟩
  rw [← hz.out] at k1 hb0 ⊢
  clear hz
  replace H := H.keep (wrote_below C0 Nowhere) (fun _ _ _ x => x)
  generalize W0.alloc (.cells (rowV (fun _ => 0) most 0 n) 71) = W1 at *
  obtain ⟨W2, hcp, kk0, kk1, L1⟩ : ∃ W2, (Builtin.copy_ #[27, 27] 3 #[.slice (some ⟨z, 0, none⟩) 16 16, .slice a n c]).run Try.prog W1 = .ok (.int .i64 (n : Int)) W2 ∧ W2.heap[w.heap.size]? = some (.cells (rowV (fun _ => 0) 0 0 0) 71 (0, 0)) ∧ W2.heap[z]? = some (.cells (rowV (pad3 n f) most 0 n) 71 (0, 0)) ∧ Below w.heap.size w W2 := by
    by_cases hn0 : n = 0
    · subst hn0
      refine ⟨W1, run_copy_recs0 Try.prog W1 27 27 3 40 3 (some ⟨z, 0, none⟩) a 16 16 c Try.underlying27 infoRec3, k0, ?_, C0⟩
      rw [k1]
      congr 3
    · obtain ⟨rb, ro, rfl, -⟩ := H 0 (by omega)
      have hc := run_copy_recs Try.prog W1 27 27 3 40 3 z 0 16 16 ⟨rb, ro, none⟩ n c (rowV (fun _ => 0) most 0 n) 71 (recVals (n * 3) f) Try.underlying27 infoRec3 k1 (by rw [recVals_len, show Nat.min n 16 = n from Nat.min_eq_left hn]) (recVals_cells H) (by rw [recVals_len, rowV_size]; omega) (fun v hv => by unfold recVals at hv; obtain ⟨i, -, rfl⟩ := List.mem_map.1 hv; rfl)
      rw [rowV_copy hn, show Nat.min n 16 = n from Nat.min_eq_left hn] at hc
      refine ⟨_, hc, ?_, ?_, ?_⟩
      · rw [setRow_other _ _ _ _ (by omega)]
        exact k0
      · exact setRow_heap _ _ _ _ _ _ k1
      · exact below_setRowR C0 _ (by omega)
  refine h1 _ _ ?_
  clear h1 H k0 k1 C0
  go_upto_region 3 with (fail)
  clear hcp
  rename_i K2 h2
  refine wp_region_lit ?_
  refine wpList_load_row rfl _ _ rfl z rfl _ _ _ _ kk1 Try.underlying71 rfl infoRowAt ?_
  refine wpList_store_row rfl _ _ _ rfl w.heap.size _ rfl rfl _ _ kk0 infoRowAt (by rw [rowV_size, rowV_size]) rowV_one ?_
  refine h2 _ _ ?_
  go_wp2
  refine bodyPost_ret (v := .agg (rowV (pad3 n f) most 0 n)) (results_cell_row (by rfl) _ _ w.heap.size _ _ _ _ rfl (setRow_heap _ _ _ _ _ _ kk0) Try.underlying71 rfl infoRowAt) rfl ?_
  exact ⟨rfl, below_setRowR L1 _ (Nat.le_refl _)⟩
set_option maxRecDepth 8000 in
set_option maxHeartbeats 2000000 in
theorem rowPut (w : World) (z : Nat) (g : Nat → Int) (most : Int) (n : Nat) (a b c : Int) (hn : n ≤ 16) (hm : most ≤ 16) (K : w.heap[z]? = some (.cells (rowV g most 0 n) 71 (0, 0))) : Calls Try.prog 43 #[.pointer (some ⟨z, 0, none⟩), .agg #[.int .i64 a, .int .i64 b, .int .i64 c]] w fun e w' => e = .returned (.bool (decide ((n : Int) < most))) ∧ w'.heap[z]? = some (.cells (if (n : Int) < most then rowV (put3 g n a b c) most 0 (n + 1) else rowV g most 0 n) 71 (0, 0)) ∧ Wrote (fun b _ => b = z) w w' := by
  have C0 : Below w.heap.size w (w.alloc (.cells #[.int .i64 a, .int .i64 b, .int .i64 c] 40)) := (Below.refl _ _).alloc (Nat.le_refl _) _
  have k0 := box_new w #[.int .i64 a, .int .i64 b, .int .i64 c] 40
  have hz := boxLt K
  replace K := box_keep K C0 (boxLt K)
  have T0 : Wrote (fun b _ => b = z) w (w.alloc (.cells #[.int .i64 a, .int .i64 b, .int .i64 c] 40)) := wrote_below C0 _
  obtain ⟨cE, hcE⟩ : ∃ x, Hid (x = if (n : Int) < most then rowV (put3 g n a b c) most 0 (n + 1) else rowV g most 0 n) := ⟨_, rfl⟩
  rw [← hcE.out]
  obtain ⟨bb, hbb⟩ : ∃ x, Hid (x = decide ((n : Int) < most)) := ⟨_, rfl⟩
  rw [← hbb.out]
  go_enter Try.func43, Try.ntmps43
  go_upto_region 1 with (fail)
  obtain ⟨y, hy⟩ : ∃ y, Hid (y = w.heap.size) := ⟨_, rfl⟩
  rw [← hy.out] at k0 hz ⊢
  clear hy C0
  generalize w.alloc (.cells #[.int .i64 a, .int .i64 b, .int .i64 c] 40) = W0 at *
  have c48 : ∀ d os, (grow (redrawn W0 d) os).cell? ⟨z, 48, none⟩ = some (.int .i64 most) := fun d os => by rw [boxRR K]; exact rowV_48
  have c49 : ∀ d os, (grow (redrawn W0 d) os).cell? ⟨z, 49, none⟩ = some (.int .i64 0) := fun d os => by rw [boxRR K]; exact rowV_49
  have c50 : ∀ d os, (grow (redrawn W0 d) os).cell? ⟨z, 50, none⟩ = some (.int .i64 n) := fun d os => by rw [boxRR K]; exact rowV_50
  have wn : IntKind.i64.wrap (n : Int) = n := by rw [IntKind.wrap_i64]; omega
  by_cases h : (n : Int) < most
  · have HE : Hid (bb = true ∧ cE = rowV (put3 g n a b c) most 0 (n + 1)) := ⟨by rw [hbb.out]; exact decide_eq_true h, by rw [hcE.out, if_pos h]⟩
    have hn16 : n < 16 := by omega
    have hmod : Int.tmod (n : Int) 16 = n := by rw [Int.tmod_eq_emod_of_nonneg (by omega)]; omega
    have hlt16 : (n : Int) < 16 := by omega
    have hz' : z ≠ y := by omega
    clear hbb hcE
    refine wp_region_quiet_below (by kernel_rfl) (by kernel_rfl) ?_
    repeat (quiet_step (fail))
    refine wpQuiet_nil ?_
    intro _ hw'
    obtain ⟨⟨dq, osq⟩, hw''⟩ := hw'
    subst hw''
    have LQ := below_regrown W0 dq osq
    replace K := box_keep K LQ (boxLt K)
    replace k0 := box_keep k0 LQ (boxLt k0)
    replace T0 := T0.trans (wrote_below LQ _)
    clear c48 c49 c50
    generalize Go.Sort.grow (redrawn W0 dq) osq = W1 at *
    clear LQ
    go_upto_region 3 with (fail)
    refine wp_region_eff [some 19, some 20, some 21, some 22, some 23, some 24, some 25, some 26, some 27, some 28, none] (by kernel_rfl) (by kernel_rfl) (by kernel_rfl) (by kernel_rfl) (by first | (simp [slotsOf]; done) | (simp [slotsOf, Act.put]; done))
      (fun j b _ => j = 10 ∧ b = z)
      (fun i v W => match i with
        | 0 => v = .pointer (some ⟨z, 0, none⟩)
        | 1 => v = .pointer (some ⟨z, 0, none⟩)
        | 2 => v = .pointer (some ⟨z, 0, none⟩)
        | 3 => v = .pointer (some ⟨z, 50, none⟩)
        | 4 => v = .int .i64 n
        | 5 => v = .int .i64 n
        | 6 => v = .agg #[.int .i64 a, .int .i64 b, .int .i64 c]
        | 7 => v = .pointer (some ⟨z, 0, none⟩)
        | 8 => v = .pointer (some ⟨z, 0, none⟩)
        | 9 => v = .pointer (some ⟨z, n * 3, none⟩)
        | _ => W.heap[z]? = some (.cells (rowV (put3 g n a b c) most 0 n) 71 (0, 0))) ?_ ?_ ?_
    · intro i j o v W W' hij ho _ hW h
      match i, hij, ho, h with
      | 0, hij, _, h => exact h
      | 1, hij, _, h => exact h
      | 2, hij, _, h => exact h
      | 3, hij, _, h => exact h
      | 4, hij, _, h => exact h
      | 5, hij, _, h => exact h
      | 6, hij, _, h => exact h
      | 7, hij, _, h => exact h
      | 8, hij, _, h => exact h
      | 9, hij, _, h => exact h
      | 10, hij, _, h => exact boxWroteR h hW (fun o e => by omega)
      | _ + 11, _, ho, _ => simp at ho
    · intro i o a' W K8 ho F L hw hK
      match i with
      | 0 =>
        simp only [List.getElem?_toArray, List.getElem?_cons_zero, List.getElem?_cons_succ, Option.some.injEq] at ho
        subst ho
        have t0 := F.get (t := 0) (v := .pointer (some ⟨z, 0, none⟩)) (by decide) rfl
        go_simp
        exact hK _ _ (Wrote.refl _ _) rfl
      | 1 =>
        simp only [List.getElem?_toArray, List.getElem?_cons_zero, List.getElem?_cons_succ, Option.some.injEq] at ho
        subst ho
        have t0 := F.get (t := 0) (v := .pointer (some ⟨z, 0, none⟩)) (by decide) rfl
        go_simp
        exact hK _ _ (Wrote.refl _ _) rfl
      | 2 =>
        simp only [List.getElem?_toArray, List.getElem?_cons_zero, List.getElem?_cons_succ, Option.some.injEq] at ho
        subst ho
        have q1 : a'.tmps[20]?.getD undef = .pointer (some ⟨z, 0, none⟩) := hw 1 (by kernel_rfl)
        go_simp
        exact hK _ _ (Wrote.refl _ _) rfl
      | 3 =>
        simp only [List.getElem?_toArray, List.getElem?_cons_zero, List.getElem?_cons_succ, Option.some.injEq] at ho
        subst ho
        have q2 : a'.tmps[21]?.getD undef = .pointer (some ⟨z, 0, none⟩) := hw 2 (by kernel_rfl)
        go_simp
        exact hK _ _ (Wrote.refl _ _) rfl
      | 4 =>
        simp only [List.getElem?_toArray, List.getElem?_cons_zero, List.getElem?_cons_succ, Option.some.injEq] at ho
        subst ho
        have q3 : a'.tmps[22]?.getD undef = .pointer (some ⟨z, 50, none⟩) := hw 3 (by kernel_rfl)
        have rZ := boxWroteR K L (fun o ⟨j, oj, hj, hoj, hwj, e⟩ => by obtain ⟨rfl, e⟩ := e; simp only [List.getElem?_toArray, List.getElem?_cons_zero, List.getElem?_cons_succ, Option.some.injEq] at hoj; subst hoj; cases hwj.symm.trans (show waitsB _ 4 = true by kernel_rfl))
        have r50 := boxC rZ 50
        rw [rowV_50] at r50
        go_simp
        exact hK _ _ (Wrote.refl _ _) rfl
      | 5 =>
        simp only [List.getElem?_toArray, List.getElem?_cons_zero, List.getElem?_cons_succ, Option.some.injEq] at ho
        subst ho
        have q4 : a'.tmps[23]?.getD undef = .int .i64 n := hw 4 (by kernel_rfl)
        go_simp
        exact hK _ _ (Wrote.refl _ _) (by first | rfl | simp [hmod])
      | 6 =>
        simp only [List.getElem?_toArray, List.getElem?_cons_zero, List.getElem?_cons_succ, Option.some.injEq] at ho
        subst ho
        have t3 := F.get (t := 3) (v := .pointer (some ⟨y, 0, none⟩)) (by decide) rfl
        have ry := boxC (boxWroteR k0 L (fun o ⟨j, oj, hj, hoj, hwj, e⟩ => by omega))
        go_simp
        exact hK _ _ (Wrote.refl _ _) rfl
      | 7 =>
        simp only [List.getElem?_toArray, List.getElem?_cons_zero, List.getElem?_cons_succ, Option.some.injEq] at ho
        subst ho
        have q0 : a'.tmps[19]?.getD undef = .pointer (some ⟨z, 0, none⟩) := hw 0 (by kernel_rfl)
        go_simp
        exact hK _ _ (Wrote.refl _ _) rfl
      | 8 =>
        simp only [List.getElem?_toArray, List.getElem?_cons_zero, List.getElem?_cons_succ, Option.some.injEq] at ho
        subst ho
        have q7 : a'.tmps[26]?.getD undef = .pointer (some ⟨z, 0, none⟩) := hw 7 (by kernel_rfl)
        go_simp
        exact hK _ _ (Wrote.refl _ _) rfl
      | 9 =>
        simp only [List.getElem?_toArray, List.getElem?_cons_zero, List.getElem?_cons_succ, Option.some.injEq] at ho
        subst ho
        have q5 : a'.tmps[24]?.getD undef = .int .i64 n := hw 5 (by kernel_rfl)
        have q8 : a'.tmps[27]?.getD undef = .pointer (some ⟨z, 0, none⟩) := hw 8 (by kernel_rfl)
        go_simp
        exact hK _ _ (Wrote.refl _ _) rfl
      | 10 =>
        simp only [List.getElem?_toArray, List.getElem?_cons_zero, List.getElem?_cons_succ, Option.some.injEq] at ho
        subst ho
        have q6 : a'.tmps[25]?.getD undef = .agg #[.int .i64 a, .int .i64 b, .int .i64 c] := hw 6 (by kernel_rfl)
        have q9 : a'.tmps[28]?.getD undef = .pointer (some ⟨z, n * 3, none⟩) := hw 9 (by kernel_rfl)
        have rZ := boxWroteR K L (fun o ⟨j, oj, hj, hoj, hwj, e⟩ => by omega)
        have d0 := boxC rZ (n * 3)
        have d1 := boxC rZ (n * 3 + 1)
        have d2 := boxC rZ (n * 3 + 2)
        rw [rowV_slot (by omega)] at d0 d1 d2
        have ff := boxF rZ
        have HB := boxSetR (o := n * 3 + 2) (boxSetR (o := n * 3 + 1) (boxSetR (o := n * 3) rZ (.int .i64 a)) (.int .i64 b)) (.int .i64 c)
        rw [rowV_put hn16] at HB
        have HBB := hide HB
        clear HB rZ
        go_simp
        exact hK undef _ (Wrote.setCell (Wrote.setCell (Wrote.setCell (Wrote.refl _ W) (fun _ => ⟨rfl, rfl⟩) _) (fun _ => ⟨rfl, rfl⟩) _) (fun _ => ⟨rfl, rfl⟩) _) HBB.out
      | _ + 11 => simp at ho
    · intro a' W F L hφ
      have p19 : a'.tmps[19]?.getD undef = .pointer (some ⟨z, 0, none⟩) := hφ 0 (by decide)
      have p20 : a'.tmps[20]?.getD undef = .pointer (some ⟨z, 0, none⟩) := hφ 1 (by decide)
      have p21 : a'.tmps[21]?.getD undef = .pointer (some ⟨z, 0, none⟩) := hφ 2 (by decide)
      have p22 : a'.tmps[22]?.getD undef = .pointer (some ⟨z, 50, none⟩) := hφ 3 (by decide)
      have p23 : a'.tmps[23]?.getD undef = .int .i64 n := hφ 4 (by decide)
      have p24 : a'.tmps[24]?.getD undef = .int .i64 n := hφ 5 (by decide)
      have p25 : a'.tmps[25]?.getD undef = .agg #[.int .i64 a, .int .i64 b, .int .i64 c] := hφ 6 (by decide)
      have p26 : a'.tmps[26]?.getD undef = .pointer (some ⟨z, 0, none⟩) := hφ 7 (by decide)
      have p27 : a'.tmps[27]?.getD undef = .pointer (some ⟨z, 0, none⟩) := hφ 8 (by decide)
      have p28 : a'.tmps[28]?.getD undef = .pointer (some ⟨z, n * 3, none⟩) := hφ 9 (by decide)
      have e10 := hφ 10 (by decide)
      rw [F.same, show slotsOf [some 19, some 20, some 21, some 22, some 23, some 24, some 25, some 26, some 27, some 28, none] = [19, 20, 21, 22, 23, 24, 25, 26, 27, 28] from rfl]
      simp only [List.foldl_cons, List.foldl_nil]
      rw [p19, p20, p21, p22, p23, p24, p25, p26, p27, p28]
      have T1 : Wrote (fun b _ => b = z) w W := T0.trans (L.mono (fun b o _ ⟨j, e⟩ => e.2))
      clear hφ L F p19 p20 p21 p22 p23 p24 p25 p26 p27 p28 T0 K
      have r50 := boxC e10 50
      rw [rowV_50] at r50
      have ff := boxF e10
      go_simp
      go_wp2
      go_ret
      refine ⟨ret_bool HE.out.1.symm, ?_, Wrote.setCell T1 (fun _ => rfl) _⟩
      rw [HE.out.2]
      have := boxSetR (o := 50) e10 (.int .i64 (n + 1))
      rw [rowV_tail] at this
      exact this
  · have HE : Hid (bb = false ∧ cE = rowV g most 0 n) := ⟨by rw [hbb.out]; exact decide_eq_false h, by rw [hcE.out, if_neg h]⟩
    have h' : most ≤ (n : Int) := by omega
    clear hbb hcE
    refine wp_region_quiet_below (by kernel_rfl) (by kernel_rfl) ?_
    repeat (quiet_step (fail))
    refine wpQuiet_nil ?_
    intro _ hw'
    obtain ⟨⟨dq, osq⟩, hw''⟩ := hw'
    subst hw''
    have LQ := below_regrown W0 dq osq
    replace K := box_keep K LQ (boxLt K)
    replace T0 := T0.trans (wrote_below LQ _)
    clear c48 c49 c50
    generalize Go.Sort.grow (redrawn W0 dq) osq = W1 at *
    go_wp2
    go_ret
    exact ⟨ret_bool HE.out.1.symm, by rw [HE.out.2]; exact K, T0⟩
set_option maxRecDepth 8000 in
set_option maxHeartbeats 2000000 in
theorem rowFirst (w : World) (z : Nat) (g : Nat → Int) (most : Int) (n : Nat) (hn : n ≤ 16) (K : w.heap[z]? = some (.cells (rowV g most 0 n) 71 (0, 0))) : Calls Try.prog 45 #[.pointer (some ⟨z, 0, none⟩)] w fun e w' => e = .returned (.tuple #[.agg #[.int .i64 (headV true n g 0), .int .i64 (headV true n g 1), .int .i64 (headV true n g 2)], .bool (decide (0 < n))]) ∧ Below w.heap.size w w' := by
  have C0 : Below w.heap.size w (w.alloc (.cells #[.int .i64 0, .int .i64 0, .int .i64 0] 40)) := (Below.refl _ _).alloc (Nat.le_refl _) _
  have k0 := box_new w #[.int .i64 0, .int .i64 0, .int .i64 0] 40
  have hz := boxLt K
  replace K := box_keep K C0 (boxLt K)
  obtain ⟨x0, hx0⟩ : ∃ x, Hid (x = headV true n g 0) := ⟨_, rfl⟩
  obtain ⟨x1, hx1⟩ : ∃ x, Hid (x = headV true n g 1) := ⟨_, rfl⟩
  obtain ⟨x2, hx2⟩ : ∃ x, Hid (x = headV true n g 2) := ⟨_, rfl⟩
  obtain ⟨bb, hbb⟩ : ∃ x, Hid (x = decide (0 < n)) := ⟨_, rfl⟩
  rw [← hx0.out, ← hx1.out, ← hx2.out, ← hbb.out]
  go_enter Try.func45, Try.ntmps45
  go_upto_region 1 with (fail)
  obtain ⟨y, hy⟩ : ∃ y, Hid (y = w.heap.size) := ⟨_, rfl⟩
  rw [← hy.out] at k0 hz ⊢
  have hyl : w.heap.size ≤ y := Nat.le_of_eq hy.out.symm
  clear hy
  generalize w.alloc (.cells #[.int .i64 0, .int .i64 0, .int .i64 0] 40) = W0 at *
  have c49 : ∀ d os, (grow (redrawn W0 d) os).cell? ⟨z, 49, none⟩ = some (.int .i64 0) := fun d os => by rw [boxRR K]; exact rowV_49
  have c50 : ∀ d os, (grow (redrawn W0 d) os).cell? ⟨z, 50, none⟩ = some (.int .i64 n) := fun d os => by rw [boxRR K]; exact rowV_50
  by_cases h : n = 0
  · subst h
    have hv : ∀ j, headV true 0 g j = 0 := fun j => if_neg (fun h => by omega)
    have HF : Hid (x0 = 0 ∧ x1 = 0 ∧ x2 = 0 ∧ bb = false) := ⟨by rw [hx0.out, hv], by rw [hx1.out, hv], by rw [hx2.out, hv], by rw [hbb.out]; rfl⟩
    clear hx0 hx1 hx2 hbb hv
    refine wp_region_quiet_below (by kernel_rfl) (by kernel_rfl) ?_
    repeat (quiet_step (fail))
    refine wpQuiet_nil ?_
    intro _ hw'
    obtain ⟨⟨dq, osq⟩, hw''⟩ := hw'
    subst hw''
    have LQ := below_regrown W0 dq osq
    replace k0 := box_keep k0 LQ (boxLt k0)
    replace C0 := below_snoc C0 LQ
    clear c49 c50 K
    generalize Go.Sort.grow (redrawn W0 dq) osq = W1 at *
    clear LQ
    have LA : Below W1.heap.size W1 (W1.alloc (.cells #[.int .i64 0, .int .i64 0, .int .i64 0] 40)) := (Below.refl _ _).alloc (Nat.le_refl _) _
    have C1 := below_snoc C0 LA
    have x3 := box_new W1 #[.int .i64 0, .int .i64 0, .int .i64 0] 40
    replace k0 := box_keep k0 LA (boxLt k0)
    go_upto_region 3 with (fail)
    have cx := boxC x3
    have cy := boxC k0
    have fy := boxF k0
    have fin : ∀ W5, Wrote (fun b _ => b = y) (W1.alloc (.cells #[.int .i64 0, .int .i64 0, .int .i64 0] 40)) W5 → Below w.heap.size w W5 := fun W5 h => C1.trans (h.below C1.size (fun b o hb (e : b = _) => by omega))
    generalize W1.alloc (.cells #[.int .i64 0, .int .i64 0, .int .i64 0] 40) = W2 at *
    clear LA C0
    go_wp2
    refine bodyPost_ret (v := .tuple #[.agg #[.int .i64 0, .int .i64 0, .int .i64 0], .bool false]) (by simp [results, Try.results45, go_sem, cy]) rfl ?_
    refine ⟨by rw [HF.out.1, HF.out.2.1, HF.out.2.2.1, HF.out.2.2.2], fin _ ?_⟩
    repeat (first | with_reducible exact Wrote.refl _ _ | with_reducible refine Wrote.drew ?_ | with_reducible refine Wrote.setCell ?_ (fun _ => by omega) _)
  · have hv : ∀ j, headV true n g j = g j := fun j => if_pos ⟨rfl, by omega⟩
    have HF : Hid (x0 = g 0 ∧ x1 = g 1 ∧ x2 = g 2 ∧ bb = true) := ⟨by rw [hx0.out, hv], by rw [hx1.out, hv], by rw [hx2.out, hv], by rw [hbb.out]; exact decide_eq_true (by omega)⟩
    clear hx0 hx1 hx2 hbb hv
    have hne : ((0 : Int) == (n : Int)) = false := by rw [beq_eq_false_iff_ne]; omega
    refine wp_region_quiet_below (by kernel_rfl) (by kernel_rfl) ?_
    repeat (quiet_step (fail))
    refine wpQuiet_nil ?_
    intro _ hw'
    obtain ⟨⟨dq, osq⟩, hw''⟩ := hw'
    subst hw''
    have LQ := below_regrown W0 dq osq
    replace K := box_keep K LQ (boxLt K)
    replace k0 := box_keep k0 LQ (boxLt k0)
    replace C0 := below_snoc C0 LQ
    clear c49 c50
    generalize Go.Sort.grow (redrawn W0 dq) osq = W1 at *
    clear LQ
    go_upto_region 4 with (fail)
    refine wp_region_eff [some 15, some 16, some 17, some 18, some 19, some 20, some 21, some 22, some 23, some 24, none, some 3] (by kernel_rfl) (by kernel_rfl) (by kernel_rfl) (by kernel_rfl) (by first | (simp [slotsOf]; done) | (simp [slotsOf, Act.put]; done))
      (fun j b _ => j = 10 ∧ b = y)
      (fun i v W => match i with
        | 0 => v = .pointer (some ⟨z, 0, none⟩)
        | 1 => v = .pointer (some ⟨z, 0, none⟩)
        | 2 => v = .pointer (some ⟨z, 0, none⟩)
        | 3 => v = .pointer (some ⟨z, 49, none⟩)
        | 4 => v = .int .i64 0
        | 5 => v = .int .i64 0
        | 6 => v = .pointer (some ⟨z, 0, none⟩)
        | 7 => v = .pointer (some ⟨z, 0, none⟩)
        | 8 => v = .pointer (some ⟨z, 0, none⟩)
        | 9 => v = .agg #[.int .i64 (g 0), .int .i64 (g 1), .int .i64 (g 2)]
        | 10 => W.heap[y]? = some (.cells #[.int .i64 (g 0), .int .i64 (g 1), .int .i64 (g 2)] 40 (0, 0))
        | _ => v = .bool true) ?_ ?_ ?_
    · intro i j o v W W' hij ho _ hW h
      match i, hij, ho, h with
      | 0, hij, _, h => exact h
      | 1, hij, _, h => exact h
      | 2, hij, _, h => exact h
      | 3, hij, _, h => exact h
      | 4, hij, _, h => exact h
      | 5, hij, _, h => exact h
      | 6, hij, _, h => exact h
      | 7, hij, _, h => exact h
      | 8, hij, _, h => exact h
      | 9, hij, _, h => exact h
      | 10, hij, _, h => exact boxWroteR h hW (fun o e => by omega)
      | 11, hij, _, h => exact h
      | _ + 12, _, ho, _ => simp at ho
    · intro i o a' W K8 ho F L hw hK
      match i with
      | 0 =>
        simp only [List.getElem?_toArray, List.getElem?_cons_zero, List.getElem?_cons_succ, Option.some.injEq] at ho
        subst ho
        have t0 := F.get (t := 0) (v := .pointer (some ⟨z, 0, none⟩)) (by decide) rfl
        go_simp
        exact hK _ _ (Wrote.refl _ _) rfl
      | 1 =>
        simp only [List.getElem?_toArray, List.getElem?_cons_zero, List.getElem?_cons_succ, Option.some.injEq] at ho
        subst ho
        have t0 := F.get (t := 0) (v := .pointer (some ⟨z, 0, none⟩)) (by decide) rfl
        go_simp
        exact hK _ _ (Wrote.refl _ _) rfl
      | 2 =>
        simp only [List.getElem?_toArray, List.getElem?_cons_zero, List.getElem?_cons_succ, Option.some.injEq] at ho
        subst ho
        have q1 : a'.tmps[16]?.getD undef = .pointer (some ⟨z, 0, none⟩) := hw 1 (by kernel_rfl)
        go_simp
        exact hK _ _ (Wrote.refl _ _) rfl
      | 3 =>
        simp only [List.getElem?_toArray, List.getElem?_cons_zero, List.getElem?_cons_succ, Option.some.injEq] at ho
        subst ho
        have q2 : a'.tmps[17]?.getD undef = .pointer (some ⟨z, 0, none⟩) := hw 2 (by kernel_rfl)
        go_simp
        exact hK _ _ (Wrote.refl _ _) rfl
      | 4 =>
        simp only [List.getElem?_toArray, List.getElem?_cons_zero, List.getElem?_cons_succ, Option.some.injEq] at ho
        subst ho
        have q3 : a'.tmps[18]?.getD undef = .pointer (some ⟨z, 49, none⟩) := hw 3 (by kernel_rfl)
        have rZ := boxWroteR K L (fun o ⟨j, oj, hj, hoj, hwj, e⟩ => by omega)
        have r49 := boxC rZ 49
        rw [rowV_49] at r49
        go_simp
        exact hK _ _ (Wrote.refl _ _) rfl
      | 5 =>
        simp only [List.getElem?_toArray, List.getElem?_cons_zero, List.getElem?_cons_succ, Option.some.injEq] at ho
        subst ho
        have q4 : a'.tmps[19]?.getD undef = .int .i64 0 := hw 4 (by kernel_rfl)
        go_simp
        exact hK _ _ (Wrote.refl _ _) rfl
      | 6 =>
        simp only [List.getElem?_toArray, List.getElem?_cons_zero, List.getElem?_cons_succ, Option.some.injEq] at ho
        subst ho
        have q0 : a'.tmps[15]?.getD undef = .pointer (some ⟨z, 0, none⟩) := hw 0 (by kernel_rfl)
        go_simp
        exact hK _ _ (Wrote.refl _ _) rfl
      | 7 =>
        simp only [List.getElem?_toArray, List.getElem?_cons_zero, List.getElem?_cons_succ, Option.some.injEq] at ho
        subst ho
        have q6 : a'.tmps[21]?.getD undef = .pointer (some ⟨z, 0, none⟩) := hw 6 (by kernel_rfl)
        go_simp
        exact hK _ _ (Wrote.refl _ _) rfl
      | 8 =>
        simp only [List.getElem?_toArray, List.getElem?_cons_zero, List.getElem?_cons_succ, Option.some.injEq] at ho
        subst ho
        have q5 : a'.tmps[20]?.getD undef = .int .i64 0 := hw 5 (by kernel_rfl)
        have q7 : a'.tmps[22]?.getD undef = .pointer (some ⟨z, 0, none⟩) := hw 7 (by kernel_rfl)
        go_simp
        exact hK _ _ (Wrote.refl _ _) rfl
      | 9 =>
        simp only [List.getElem?_toArray, List.getElem?_cons_zero, List.getElem?_cons_succ, Option.some.injEq] at ho
        subst ho
        have q8 : a'.tmps[23]?.getD undef = .pointer (some ⟨z, 0, none⟩) := hw 8 (by kernel_rfl)
        have rZ := boxWroteR K L (fun o ⟨j, oj, hj, hoj, hwj, e⟩ => by omega)
        have d0 := boxC rZ 0
        have d1 := boxC rZ 1
        have d2 := boxC rZ 2
        rw [rowV_slot (by omega)] at d0 d1 d2
        go_simp
        exact hK _ _ (Wrote.refl _ _) rfl
      | 10 =>
        simp only [List.getElem?_toArray, List.getElem?_cons_zero, List.getElem?_cons_succ, Option.some.injEq] at ho
        subst ho
        have t2 := F.get (t := 2) (v := .pointer (some ⟨y, 0, none⟩)) (by decide) rfl
        have q9 : a'.tmps[24]?.getD undef = .agg #[.int .i64 (g 0), .int .i64 (g 1), .int .i64 (g 2)] := hw 9 (by kernel_rfl)
        have rY := boxWroteR k0 L (fun o ⟨j, oj, hj, hoj, hwj, e⟩ => by omega)
        have ry := boxC rY
        have fy := boxF rY
        have HB := boxSetR (o := 2) (boxSetR (o := 1) (boxSetR (o := 0) rY (.int .i64 (g 0))) (.int .i64 (g 1))) (.int .i64 (g 2))
        simp only [List.setIfInBounds_toArray, List.set_cons_succ, List.set_cons_zero] at HB
        have HBB := hide HB
        clear HB rY
        go_simp
        exact hK undef _ (Wrote.setCell (Wrote.setCell (Wrote.setCell (Wrote.refl _ W) (fun _ => ⟨rfl, rfl⟩) _) (fun _ => ⟨rfl, rfl⟩) _) (fun _ => ⟨rfl, rfl⟩) _) HBB.out
      | 11 =>
        simp only [List.getElem?_toArray, List.getElem?_cons_zero, List.getElem?_cons_succ, Option.some.injEq] at ho
        subst ho
        go_simp
        exact hK _ _ (Wrote.refl _ _) rfl
      | _ + 12 => simp at ho
    · intro a' W F L hφ
      have p15 : a'.tmps[15]?.getD undef = .pointer (some ⟨z, 0, none⟩) := hφ 0 (by decide)
      have p16 : a'.tmps[16]?.getD undef = .pointer (some ⟨z, 0, none⟩) := hφ 1 (by decide)
      have p17 : a'.tmps[17]?.getD undef = .pointer (some ⟨z, 0, none⟩) := hφ 2 (by decide)
      have p18 : a'.tmps[18]?.getD undef = .pointer (some ⟨z, 49, none⟩) := hφ 3 (by decide)
      have p19 : a'.tmps[19]?.getD undef = .int .i64 0 := hφ 4 (by decide)
      have p20 : a'.tmps[20]?.getD undef = .int .i64 0 := hφ 5 (by decide)
      have p21 : a'.tmps[21]?.getD undef = .pointer (some ⟨z, 0, none⟩) := hφ 6 (by decide)
      have p22 : a'.tmps[22]?.getD undef = .pointer (some ⟨z, 0, none⟩) := hφ 7 (by decide)
      have p23 : a'.tmps[23]?.getD undef = .pointer (some ⟨z, 0, none⟩) := hφ 8 (by decide)
      have p24 : a'.tmps[24]?.getD undef = .agg #[.int .i64 (g 0), .int .i64 (g 1), .int .i64 (g 2)] := hφ 9 (by decide)
      have e10 := hφ 10 (by decide)
      have p3 : a'.tmps[3]?.getD undef = .bool true := hφ 11 (by decide)
      rw [F.same, show slotsOf [some 15, some 16, some 17, some 18, some 19, some 20, some 21, some 22, some 23, some 24, none, some 3] = [15, 16, 17, 18, 19, 20, 21, 22, 23, 24, 3] from rfl]
      simp only [List.foldl_cons, List.foldl_nil]
      rw [p15, p16, p17, p18, p19, p20, p21, p22, p23, p24, p3]
      have C1 : Below w.heap.size w W := C0.trans (L.below C0.size (fun b o hb ⟨j, e⟩ => by omega))
      clear hφ L F p15 p16 p17 p18 p19 p20 p21 p22 p23 p24 p3 K C0
      have cy := boxC e10
      go_simp
      go_wp2
      refine bodyPost_ret (v := .tuple #[.agg #[.int .i64 (g 0), .int .i64 (g 1), .int .i64 (g 2)], .bool true]) (by simp [results, Try.results45, go_sem, cy]) rfl ?_
      exact ⟨by rw [HF.out.1, HF.out.2.1, HF.out.2.2.1, HF.out.2.2.2], C1⟩
set_option maxRecDepth 8000 in
set_option maxHeartbeats 2000000 in
theorem rowTake (w : World) (z : Nat) (g : Nat → Int) (most : Int) (n : Nat) (hn : n ≤ 16) (K : w.heap[z]? = some (.cells (rowV g most 0 n) 71 (0, 0))) : Calls Try.prog 46 #[.pointer (some ⟨z, 0, none⟩)] w fun e w' => e = .returned (.tuple #[.agg #[.int .i64 (headV true n g 0), .int .i64 (headV true n g 1), .int .i64 (headV true n g 2)], .bool (decide (0 < n))]) ∧ w'.heap[z]? = some (.cells (rowV g most (if 0 < n then 1 else 0) n) 71 (0, 0)) ∧ Wrote (fun b _ => b = z) w w' := by
  have C0 : Below w.heap.size w (w.alloc (.cells #[.int .i64 0, .int .i64 0, .int .i64 0] 40)) := (Below.refl _ _).alloc (Nat.le_refl _) _
  have k0 := box_new w #[.int .i64 0, .int .i64 0, .int .i64 0] 40
  have hz := boxLt K
  replace K := box_keep K C0 (boxLt K)
  have T0 : Wrote (fun b _ => b = z) w (w.alloc (.cells #[.int .i64 0, .int .i64 0, .int .i64 0] 40)) := wrote_below C0 _
  have HC := hide (rowFirst (w.alloc (.cells #[.int .i64 0, .int .i64 0, .int .i64 0] 40)) z g most n hn K)
  obtain ⟨x0, hx0⟩ : ∃ x, Hid (x = headV true n g 0) := ⟨_, rfl⟩
  obtain ⟨x1, hx1⟩ : ∃ x, Hid (x = headV true n g 1) := ⟨_, rfl⟩
  obtain ⟨x2, hx2⟩ : ∃ x, Hid (x = headV true n g 2) := ⟨_, rfl⟩
  obtain ⟨cE, hcE⟩ : ∃ x, Hid (x = rowV g most (if 0 < n then 1 else 0) n) := ⟨_, rfl⟩
  rw [← hcE.out]
  rw [← hx0.out, ← hx1.out, ← hx2.out] at HC ⊢
  clear hx0 hx1 hx2
  go_enter Try.func46, Try.ntmps46
  go_wp2_with fail
  obtain ⟨y, hy⟩ : ∃ y, Hid (y = w.heap.size) := ⟨_, rfl⟩
  rw [← hy.out] at k0 hz ⊢
  have hyl : w.heap.size ≤ y := Nat.le_of_eq hy.out.symm
  clear hy C0
  generalize w.alloc (.cells #[.int .i64 0, .int .i64 0, .int .i64 0] 40) = W0 at *
  refine HC.out.mono ?_
  rintro e W1 ⟨rfl, L⟩
  clear HC
  replace K := box_keep K L (boxLt K)
  replace k0 := box_keep k0 L (boxLt k0)
  replace T0 := T0.trans (wrote_below L _)
  clear L
  have LA : Below W1.heap.size W1 (W1.alloc (.cells #[.int .i64 x0, .int .i64 x1, .int .i64 x2] 40)) := (Below.refl _ _).alloc (Nat.le_refl _) _
  have k3 := box_new W1 #[.int .i64 x0, .int .i64 x1, .int .i64 x2] 40
  have h1 := boxLt k0
  have hzz := boxLt K
  replace K := box_keep K LA (boxLt K)
  replace k0 := box_keep k0 LA (boxLt k0)
  replace T0 := T0.trans (wrote_below LA _)
  clear LA
  by_cases h : 0 < n
  · have HE : Hid (decide (0 < n) = true ∧ cE = rowV g most 1 n) := ⟨decide_eq_true h, by rw [hcE.out, if_pos h]⟩
    rw [HE.out.1]
    go_upto_region 2 with (fail)
    obtain ⟨s, hs⟩ : ∃ s, Hid (s = W1.heap.size) := ⟨_, rfl⟩
    rw [← hs.out] at k3 h1 hzz ⊢
    clear hs
    generalize W1.alloc (.cells #[.int .i64 x0, .int .i64 x1, .int .i64 x2] 40) = W2 at *
    have c49 := boxC K 49
    rw [rowV_49] at c49
    have fz := boxF K
    go_upto_region 4 with (fail)
    have T1 : Wrote (fun b _ => b = z) W2 (W2.setCell ⟨z, 49, none⟩ (.int .i64 1)) := Wrote.setCell (Wrote.refl (fun b _ => b = z) W2) (fun _ => rfl) _
    have K2 := boxSetR (o := 49) K (.int .i64 1)
    rw [rowV_head] at K2
    replace k0 := boxWroteR k0 T1 (fun o (e : y = z) => by omega)
    replace k3 := boxWroteR k3 T1 (fun o (e : s = z) => by omega)
    replace T0 := T0.trans T1
    clear T1 K c49 fz
    generalize W2.setCell ⟨z, 49, none⟩ (.int .i64 1) = W3 at *
    have cy := boxC k0
    have fy := boxF k0
    have c3 := boxC k3
    have fin : ∀ W5, Wrote (fun b _ => b = y) W3 W5 → W5.heap[z]? = some (.cells cE 71 (0, 0)) ∧ Wrote (fun b _ => b = z) w W5 := fun W5 h => ⟨by rw [HE.out.2]; exact boxWroteR K2 h (fun o (e : z = y) => by omega), T0.after h (fun b o hb (e : b = y) => by omega)⟩
    have HN := hide fin
    clear fin
    go_wp2
    refine bodyPost_ret (v := .tuple #[.agg #[.int .i64 x0, .int .i64 x1, .int .i64 x2], .bool true]) (by simp [results, Try.results46, go_sem, cy]) rfl ?_
    refine ⟨by rw [HE.out.1], HN.out _ ?_⟩
    repeat (first | with_reducible exact Wrote.refl _ _ | with_reducible refine Wrote.drew ?_ | with_reducible refine Wrote.setCell ?_ (fun _ => by omega) _)
  · have HE : Hid (decide (0 < n) = false ∧ cE = rowV g most 0 n) := ⟨decide_eq_false h, by rw [hcE.out, if_neg h]⟩
    rw [HE.out.1]
    go_upto_region 2 with (fail)
    obtain ⟨s, hs⟩ : ∃ s, Hid (s = W1.heap.size) := ⟨_, rfl⟩
    rw [← hs.out] at k3 h1 hzz ⊢
    clear hs
    generalize W1.alloc (.cells #[.int .i64 x0, .int .i64 x1, .int .i64 x2] 40) = W2 at *
    have cy := boxC k0
    have fy := boxF k0
    have c3 := boxC k3
    have fin : ∀ W5, Wrote (fun b _ => b = y) W2 W5 → W5.heap[z]? = some (.cells cE 71 (0, 0)) ∧ Wrote (fun b _ => b = z) w W5 := fun W5 h => ⟨by rw [HE.out.2]; exact boxWroteR K h (fun o (e : z = y) => by omega), T0.after h (fun b o hb (e : b = y) => by omega)⟩
    have HN := hide fin
    clear fin
    go_wp2
    refine bodyPost_ret (v := .tuple #[.agg #[.int .i64 x0, .int .i64 x1, .int .i64 x2], .bool false]) (by simp [results, Try.results46, go_sem, cy]) rfl ?_
    refine ⟨by rw [HE.out.1], HN.out _ ?_⟩
    repeat (first | with_reducible exact Wrote.refl _ _ | with_reducible refine Wrote.drew ?_ | with_reducible refine Wrote.setCell ?_ (fun _ => by omega) _)
/-- 'append(xs, x)', of a list of records that is none, or that the call owns. -/
def RcAt (W : World) (lo : Nat) (o7 : Option Nat) (u : Value) (n : Nat) (f : Nat → Int) : Prop :=
  match o7 with
  | none => u = .slice none 0 0 ∧ n = 0
  | some g => ∃ c, u = .slice (some ⟨g, 0, none⟩) n c ∧ RcRow W lo g n c f
theorem RcAt.on {W : World} {lo : Nat} {o7 : Option Nat} {u : Value} {n : Nat} {f : Nat → Int} (h : RcAt W lo o7 u n f) : RsOn W (fun b => lo ≤ b) u n f := by
  cases o7 with
  | none => obtain ⟨rfl, rfl⟩ := h; exact RsOn.none0 f
  | some g => obtain ⟨c, rfl, r⟩ := h; exact r.on r.parts.1
theorem RcAt.keep {R : Nat → Nat → Prop} {W W' : World} {lo : Nat} {o7 : Option Nat} {u : Value} {n : Nat} {f : Nat → Int} (h : RcAt W lo o7 u n f) (hw : Wrote R W W') (hd : ∀ g o, o7 = some g → ¬ R g o) : RcAt W' lo o7 u n f := by
  cases o7 with
  | none => exact h
  | some g => obtain ⟨c, rfl, r⟩ := h; exact ⟨c, rfl, r.keep hw (fun o => hd g o rfl)⟩
theorem RcAt.two {W : World} {lo : Nat} {o7 : Option Nat} {u : Value} {n : Nat} {f : Nat → Int} (h : RcAt W lo o7 u n f) : ∃ a c, u = .slice a n c := by
  cases o7 with
  | none => obtain ⟨rfl, rfl⟩ := h; exact ⟨_, _, rfl⟩
  | some g => obtain ⟨c, rfl, r⟩ := h; exact ⟨_, _, rfl⟩
theorem RcAt.lo {W : World} {lo g : Nat} {o7 : Option Nat} {u : Value} {n : Nat} {f : Nat → Int} (h : RcAt W lo o7 u n f) (e : o7 = some g) : lo ≤ g := by
  subst e
  obtain ⟨c, rfl, r⟩ := h
  exact r.parts.1
theorem put3_same (f : Nat → Int) (n : Nat) {a b c : Int} (ha : a = f (n * 3)) (hb : b = f (n * 3 + 1)) (hc : c = f (n * 3 + 2)) : put3 f n a b c = f := by
  funext i
  unfold put3
  by_cases e0 : i = n * 3
  · rw [if_pos e0, e0, ha]
  · by_cases e1 : i = n * 3 + 1
    · rw [if_neg e0, if_pos e1, e1, hb]
    · by_cases e2 : i = n * 3 + 2
      · rw [if_neg e0, if_neg e1, if_pos e2, e2, hc]
      · rw [if_neg e0, if_neg e1, if_neg e2]
theorem recVals_put0 (f : Nat → Int) (t r v : Int) : recVals (1 * 3) (put3 f 0 t r v) = [.int .i64 t, .int .i64 r, .int .i64 v] := by
  have := recVals_put f 0 t r v
  simpa [recVals] using this.symm
theorem wpList_pushN (W : World) {ops : Array Oper} {rest : List Oper} {o : Oper} {a : Act} {Q : Exit → Act → World → Prop} (hg : o.guard = none) (s x : Operand) (hop : o.op = Op.call { callee := Callee.builtin Builtin.append, args := #[s, x], argTypes := #[27, 27] })
    (lo : Nat) (o7 : Option Nat) (u : Value) (n : Nat) (f : Nat → Int) (hs : a.eval s = u) (R : RcAt W lo o7 u n f) (hn : n < 1048576) (hlo : lo ≤ W.heap.size) (q : Nat) (t r v : Int) (hx : a.eval x = .slice (some ⟨q, 0, none⟩) 1 1) (hq : W.heap[q]? = some (.cells #[.int .i64 t, .int .i64 r, .int .i64 v] 40 (0, 0)))
    (h : ∀ g' u' W', RcAt W' lo (some g') u' (n + 1) (put3 f n t r v) → Wrote (fun b _ => o7 = some b) W W' → (o7 = some g' ∨ W.heap.size ≤ g') → wpList Try.prog ops Q rest (a.put o.dst u') W') : wpList Try.prog ops Q (o :: rest) a W := by
  cases o7 with
  | some g =>
    obtain ⟨c, rfl, r7⟩ := R
    exact wpList_pushRc W hg s x hop lo g n c f hs r7 hn hlo q t r v hx hq (fun g' c' W' r1 r2 r3 => h g' _ W' ⟨c', rfl, r1⟩ (r2.mono (fun b o _ e => by rw [e])) (by rcases r3 with e | e; (left; rw [e]); (right; exact e)))
  | none =>
    obtain ⟨rfl, rfl⟩ := R
    obtain ⟨i0, hi, hzz⟩ := Option.map_eq_some_iff.1 infoRec
    simp only [Prod.mk.injEq] at hzz
    obtain ⟨hz0, hz1, hz2⟩ := hzz
    have hnews : ∀ j u, [Value.int .i64 t, .int .i64 r, .int .i64 v][j]? = some u → W.cell? ((⟨q, 0, none⟩ : Addr).add j) = some u := fun j u hu => by
      have hc := boxC hq j
      match j, hu with
      | 0, hu => simp at hu; subst hu; exact hc
      | 1, hu => simp at hu; subst hu; exact hc
      | 2, hu => simp at hu; subst hu; exact hc
      | j + 3, hu => simp at hu
    have h1 : ∀ u ∈ [Value.int .i64 t, .int .i64 r, .int .i64 v], u.oneCell' = true := fun u hu => by simp at hu; rcases hu with rfl | rfl | rfl <;> rfl
    have own : W.ownsRow lo 40 3 (.slice none 0 0) 0 [] := ⟨rfl, Or.inl ⟨rfl, rfl⟩⟩
    obtain ⟨g', c', W', hrun, r1, r2, r3, r4⟩ := run_append_lies (P := Try.prog) (w := W) 27 o.type lo 40 i0 (.agg #[.int .i64 0, .int .i64 0, .int .i64 0]) 3 24 Try.underlying27 hi hz0 hz1 hz2 rfl (by decide) (.slice none 0 0) 0 [] own ⟨q, 0, none⟩ 1 1 [.int .i64 t, .int .i64 r, .int .i64 v] rfl hnews h1 (by omega) (by unfold maxLen; omega) (by omega) hlo W.heap.size rfl
    have L : Below W.heap.size W W' := (Below.refl _ _).grown r2 (Nat.le_refl _) (fun _ e => by cases e)
    refine wpList_plain hg fun K9 hK9 => ?_
    unfold Oper.wp
    simp [execOp, hop, resolve, invoke, builtin, hs, hx, hrun, Result.andThen]
    exact hK9 _ _ (h g' _ W' ⟨c', rfl, ⟨by rw [recVals_put0]; simpa using r1, by omega⟩⟩ (wrote_below L _) (Or.inr (by rcases r3 with r3 | r3; cases r3; omega)))
set_option maxRecDepth 8000 in
set_option maxHeartbeats 2000000 in
theorem rowList (w : World) (z : Nat) (g : Nat → Int) (most : Int) (h n : Nat) (hh : h ≤ n) (hn : n ≤ 16) (K : w.heap[z]? = some (.cells (rowV g most h n) 71 (0, 0))) : Calls Try.prog 44 #[.pointer (some ⟨z, 0, none⟩)] w fun e w' => ∃ u, e = .returned u ∧ RsOn w' (fun b => w.heap.size ≤ b) u (n - h) (fun i => g (i + h * 3)) ∧ Below w.heap.size w w' := by
  have c49 := boxC K 49
  rw [rowV_49] at c49
  go_enter Try.func44, Try.ntmps44
  go_wp2
  go_loopw [3, 4] (fun l i wr => ∃ (q : Nat) (o7 : Option Nat), q ≤ n - h ∧ i = .int .i64 ((h + q : Nat) : Int) ∧ RcAt wr w.heap.size o7 l q (fun i => g (i + h * 3)) ∧ Below w.heap.size w wr) (fun _ i _ => n - (intOf i).toNat)
  case atStart => exact ⟨0, none, by omega, rfl, ⟨rfl, rfl⟩, Below.refl _ _⟩
  case round =>
    obtain ⟨q, o7, hq, rfl, hR, hL⟩ := hrel
    have K1 := (hL.block z (boxLt K)).trans K
    obtain ⟨la, lc, rfl⟩ := hR.two
    have d50 := boxC K1 50
    rw [rowV_50] at d50
    by_cases hlt : h + q < n
    · have hlt' : ((h + q : Nat) : Int) < (n : Int) := by omega
      obtain ⟨m, hm⟩ : ∃ m, m = h + q := ⟨_, rfl⟩
      rw [← hm] at hlt hlt' ⊢
      have hmod : Int.tmod (m : Int) 16 = m := by rw [Int.tmod_eq_emod_of_nonneg (by omega)]; omega
      have hlt16 : (m : Int) < 16 := by omega
      have d0 := boxC K1 (m * 3)
      have d1 := boxC K1 (m * 3 + 1)
      have d2 := boxC K1 (m * 3 + 2)
      rw [rowV_slot (by omega)] at d0 d1 d2
      have HM := hide hm
      clear hm
      go_upto_region 5 with (fail)
      rename_i Kc hKc
      refine wp_region_lit ?_
      iterate 9 (refine wpList_plain rfl (fun K9 hK9 => ?_); go_simp; refine hK9 _ _ ?_; clear hK9)
      have LA : Below wr.heap.size wr (wr.alloc (.cells #[.int .i64 (g (m * 3)), .int .i64 (g (m * 3 + 1)), .int .i64 (g (m * 3 + 2))] 40)) := (Below.refl _ _).alloc (Nat.le_refl _) _
      have X1 := box_new wr #[.int .i64 (g (m * 3)), .int .i64 (g (m * 3 + 1)), .int .i64 (g (m * 3 + 2))] 40
      have C1 := below_snoc hL LA
      have R1 := hR.keep (wrote_below LA (fun _ _ => False)) (fun _ _ _ x => x)
      have HO := hide (fun g => hR.lo (g := g))
      clear LA hR d0 d1 d2 d50 K1 hL
      generalize wr.alloc (.cells #[.int .i64 (g (m * 3)), .int .i64 (g (m * 3 + 1)), .int .i64 (g (m * 3 + 2))] 40) = W1 at *
      refine wpList_pushN _ rfl _ _ rfl w.heap.size o7 _ q _ rfl R1 (by omega) C1.size _ _ _ _ rfl X1 ?_
      intro g' u' W2 r1 r2 r3
      rw [put3_same _ q (by rw [HM.out]; congr 1; omega) (by rw [HM.out]; congr 1; omega) (by rw [HM.out]; congr 1; omega)] at r1
      have C2 : Below w.heap.size w W2 := C1.trans (r2.below C1.size (fun b o hb e => by have := HO.out b e; omega))
      obtain ⟨la', lc', rfl⟩ := r1.two
      clear R1 X1 C1 r2 r3 HO
      iterate 1 (refine wpList_plain rfl (fun K9 hK9 => ?_); go_simp; refine hK9 _ _ ?_; clear hK9)
      refine hKc _ _ ?_
      clear hKc
      go_wp2
      go_round
      case rel => exact ⟨q + 1, some g', by have := HM.out; omega, by rw [show h + (q + 1) = m + 1 by rw [HM.out]; omega]; go_num, r1, C2⟩
      case measure =>
        have hm := HM.out
        simp [intOf]
        omega
    · have hlt' : ¬ ((h + q : Nat) : Int) < (n : Int) := by omega
      have hqn : q = n - h := by omega
      obtain ⟨m, hm⟩ : ∃ m, m = h + q := ⟨_, rfl⟩
      rw [← hm] at hlt hlt' ⊢
      have HR := hide hR
      have HQ := hide hqn
      clear hR hqn hm
      go_wp2
      go_ret
      exact ⟨.slice la q lc, rfl, by rw [← HQ.out]; exact HR.out.on, hL⟩
end Go.Proofs.Ytpaedkefmebjjas
