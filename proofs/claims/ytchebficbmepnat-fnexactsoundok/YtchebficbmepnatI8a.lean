/-
  The program's picture unit (chapter 8), by its contracts: arrays of dots.
-/
import Derived.Test.YtchebficbmepnatS8
import Derived.Test.YtchebficbmepnatI2
import Derived.Laws.CopyRow
import Derived.Laws.IdiomCopy
import Derived.Laws.Rows
import Derived.Laws.Tables
import Derived.Laws.StructEq
import Derived.ChangeKeysEq
import Derived.Lib.QuietBelow
import Derived.Deep.WholeRow
namespace Go.Proofs.Ytchebficbmepnat
set_option linter.unusedVariables false
set_option linter.unusedSimpArgs false
open Go.ChangeShapes Go.WideShapes Go.ChangeAt Go.RowKit Go.Sort
theorem tmod_parts (x m : Int) (hm : 0 < m) : (x.tmod m < 0 → x.tmod m + m = x % m) ∧ (¬ x.tmod m < 0 → x.tmod m = x % m) ∧ -m < x.tmod m ∧ x.tmod m < m := by
  have h1 := Int.emod_nonneg x (show m ≠ 0 by omega)
  have h2 := Int.emod_lt_of_pos x hm
  rcases Int.le_total 0 x with h | h
  · have e := Int.tmod_eq_emod_of_nonneg (b := m) h
    rw [e]
    exact ⟨fun _ => by omega, fun _ => rfl, by omega, by omega⟩
  · have e : x.tmod m = -((-x) % m) := by
      have := Int.neg_tmod (-x) m
      rw [Int.neg_neg] at this
      rw [this, Int.tmod_eq_emod_of_nonneg (by omega)]
    have k1 := Int.emod_nonneg (-x) (show m ≠ 0 by omega)
    have k2 := Int.emod_lt_of_pos (-x) hm
    have d1 := Int.emod_add_mul_ediv x m
    have d2 := Int.emod_add_mul_ediv (-x) m
    rw [e]
    have key : (-x) % m = 0 ∧ x % m = 0 ∨ (-x) % m = m - x % m := by
      by_cases z : x % m = 0
      · left
        refine ⟨?_, z⟩
        have : m ∣ x := Int.dvd_of_emod_eq_zero z
        exact Int.emod_eq_zero_of_dvd (Int.dvd_neg.2 this)
      · right
        rw [Int.neg_emod]
        have hn : ¬ m ∣ x := fun hd => z (Int.emod_eq_zero_of_dvd hd)
        rw [if_neg hn]
        omega
    rcases key with ⟨k, z⟩ | k
    · exact ⟨fun h => by omega, fun _ => by omega, by omega, by omega⟩
    · by_cases z : (-x) % m = 0
      · exact ⟨fun h => by omega, fun _ => by omega, by omega, by omega⟩
      · exact ⟨fun h => by omega, fun h => by omega, by omega, by omega⟩
theorem left16 (x : Int) (w : World) : Calls Try.prog 52 #[.int .i64 x, .int .i64 16] w fun e w' => e = .returned (.int .i64 (x % 16)) ∧ w' = w := by
  obtain ⟨h1, h2, h3, h4⟩ := tmod_parts x 16 (by omega)
  have HQ := hide (And.intro h1 h2)
  clear h1 h2
  by_cases hn : x.tmod 16 < 0
  · go_enter Try.func52, Try.ntmps52
    go_wp2
    go_ret
    exact ⟨ret_int ((unhide HQ).1 hn), rfl⟩
  · go_enter Try.func52, Try.ntmps52
    go_wp2
    go_ret
    exact ⟨ret_int ((unhide HQ).2 (by omega)), rfl⟩
theorem left64 (x : Int) (w : World) : Calls Try.prog 52 #[.int .i64 x, .int .i64 64] w fun e w' => e = .returned (.int .i64 (x % 64)) ∧ w' = w := by
  obtain ⟨h1, h2, h3, h4⟩ := tmod_parts x 64 (by omega)
  have HQ := hide (And.intro h1 h2)
  clear h1 h2
  by_cases hn : x.tmod 64 < 0
  · go_enter Try.func52, Try.ntmps52
    go_wp2
    go_ret
    exact ⟨ret_int ((unhide HQ).1 hn), rfl⟩
  · go_enter Try.func52, Try.ntmps52
    go_wp2
    go_ret
    exact ⟨ret_int ((unhide HQ).2 (by omega)), rfl⟩
/-- The dots of a list, as an array of 48. -/
def scr (n : Nat) (f : Nat → Int) : Nat → Int := fun i => if i < n then f i else 0
theorem scrCopied (n : Nat) (f : Nat → Int) : (rowVals (min n 48) f ++ (rowVals 48 (fun _ => 0)).drop (min n 48)) = rowVals 48 (scr n f) := by
  apply List.ext_getElem?
  intro i
  by_cases h : i < min n 48
  · rw [List.getElem?_append_left (by rw [rowVals_len]; omega), rowVals_get _ _ i h, rowVals_get _ _ i (by omega)]
    unfold scr
    rw [if_pos (by omega)]
  · rw [List.getElem?_append_right (by rw [rowVals_len]; omega), rowVals_len, List.getElem?_drop]
    by_cases k : i < 48
    · rw [show min n 48 + (i - min n 48) = i by omega, rowVals_get _ _ i k, rowVals_get _ _ i k]
      unfold scr
      rw [if_neg (by omega)]
    · rw [List.getElem?_eq_none (by rw [rowVals_len]; omega), List.getElem?_eq_none (by rw [rowVals_len]; omega)]
theorem zeros48 : (rowVals 48 (fun _ => 0)).toArray = #[.int .i64 0, .int .i64 0, .int .i64 0, .int .i64 0, .int .i64 0, .int .i64 0, .int .i64 0, .int .i64 0, .int .i64 0, .int .i64 0, .int .i64 0, .int .i64 0, .int .i64 0, .int .i64 0, .int .i64 0, .int .i64 0, .int .i64 0, .int .i64 0, .int .i64 0, .int .i64 0, .int .i64 0, .int .i64 0, .int .i64 0, .int .i64 0, .int .i64 0, .int .i64 0, .int .i64 0, .int .i64 0, .int .i64 0, .int .i64 0, .int .i64 0, .int .i64 0, .int .i64 0, .int .i64 0, .int .i64 0, .int .i64 0, .int .i64 0, .int .i64 0, .int .i64 0, .int .i64 0, .int .i64 0, .int .i64 0, .int .i64 0, .int .i64 0, .int .i64 0, .int .i64 0, .int .i64 0, .int .i64 0] := by rfl
theorem zeros48_size : (rowVals 48 (fun _ => 0)).toArray.size = 48 := by rfl
theorem below_setRow {n : Nat} {w W : World} (h : Below n w W) {g : Nat} (cs : Array Value) (hg : n ≤ g) : Below n w (W.setRow g cs) :=
  ⟨h.os, h.tape, h.output, by rw [setRow_size]; exact h.size, fun k hk => by rw [setRow_other _ _ _ _ (by omega)]; exact h.block k hk⟩
theorem rowVals_all (n : Nat) (f : Nat → Int) : (rowVals n f).toArray.all (·.oneCell') = true := by
  rw [Array.all_eq_true_iff_forall_mem]
  intro x hx
  exact rowVals_one n f x (by simpa using hx)
/-- A whole row out of a block that is not written, in a region whose operations only read. -/
theorem wpQuiet_load_row {P : Program} {ops : Array Oper} {W : World} {Q : Act → Prop} {rest : List Oper} {o : Oper} {a : Act} (hw : Region.wanted o (yielded ops a.tmps) = true) (ty : TypeId) (x : Operand) (ho : o.op = .load ty x)
    (g : Nat) (hx : a.eval x = .pointer (some ⟨g, 0, none⟩)) (t : TypeId) (cs : Array Value) (d : TypeDesc) (hg : W.heap[g]? = some (.cells cs t (0, 0)))
    (hu : P.underlying ty = some d) (hd : (match d with | .struct _ | .array _ _ => true | _ => false) = true) (hi : (P.info? ty).map (·.size) = some cs.size)
    (h : wpQuiet P ops (fun w' => ∃ p : Regrown, w' = grow (redrawn W p.d) p.os) Q rest (a.put o.dst (.agg cs))) : wpQuiet P ops (fun w' => ∃ p : Regrown, w' = grow (redrawn W p.d) p.os) Q (o :: rest) a :=
  Go.BigFrame.wpQuiet_want hw (fun K hK => ⟨.agg cs, fun w' ⟨p, e⟩ => by
    subst e
    have hb := ((below_regrown W p.d p.os).block _ (boxLt hg)).trans hg
    unfold Oper.quietAt execOp
    simp only [ho, hx, Instr.loadAt, Instr.sureAddr, Sem.run_bind, Sem.run_pure, Result.andThen_ok, run_loadVar_row _ g t ty cs (0, 0) d hb hu hd hi]
    exact ⟨rfl, rfl⟩, hK _ h⟩)
end Go.Proofs.Ytchebficbmepnat
