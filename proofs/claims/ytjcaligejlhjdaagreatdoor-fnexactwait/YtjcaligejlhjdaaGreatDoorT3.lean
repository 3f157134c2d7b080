/-
  The program's chapter 3: the table of ops as it is laid, and what opAt hands back.
-/
import Derived.Test.YtjcaligejlhjdaaGreatDoorJ2
namespace Go.Proofs.YtjcaligejlhjdaaGreatDoor
open Go.ChangeShapes Go.WideShapes Go.ChangeAt Go.RowKit
def opAccs : List Int := [0, 0, 1, 2, 0, 0, 0, 0, 0, 0, 0, 0, 0, 0, 1, 2, 0, 0, 0, 0, 0, 0, 0, 0, 0, 0, 0, 0, 0, 1]
/-- The table of ops stands as the document's chapter has it. -/
def OpTab (w : World) : Prop := ∀ i : Nat, i < 30 → w.cell? ⟨0, i * 4, none⟩ = some (.string (opNm.getD i ByteArray.empty)) ∧ w.cell? ⟨0, i * 4 + 1, none⟩ = some (.int .i64 (opLens.getD i 1)) ∧
  w.cell? ⟨0, i * 4 + 2, none⟩ = some (.int .i64 (opCycs.getD i 2)) ∧ w.cell? ⟨0, i * 4 + 3, none⟩ = some (.int .i64 (opAccs.getD i 0))
theorem opTab_leaf : ∀ i : Fin 30, leafAt Tryz.prog 4 198 Rows.laid_loop_example_g00231_impl_opRows (i.1 * 4) = some (.string (opNm.getD i.1 ByteArray.empty)) ∧
    leafAt Tryz.prog 4 198 Rows.laid_loop_example_g00231_impl_opRows (i.1 * 4 + 1) = some (.int .i64 (opLens.getD i.1 1)) ∧
    leafAt Tryz.prog 4 198 Rows.laid_loop_example_g00231_impl_opRows (i.1 * 4 + 2) = some (.int .i64 (opCycs.getD i.1 2)) ∧
    leafAt Tryz.prog 4 198 Rows.laid_loop_example_g00231_impl_opRows (i.1 * 4 + 3) = some (.int .i64 (opAccs.getD i.1 0)) := by
  intro ⟨i, hi⟩
  show _ ∧ _ ∧ _ ∧ _
  match i, hi with
  | 0, _ => exact ⟨by kernel_rfl, by kernel_rfl, by kernel_rfl, by kernel_rfl⟩
  | 1, _ => exact ⟨by kernel_rfl, by kernel_rfl, by kernel_rfl, by kernel_rfl⟩
  | 2, _ => exact ⟨by kernel_rfl, by kernel_rfl, by kernel_rfl, by kernel_rfl⟩
  | 3, _ => exact ⟨by kernel_rfl, by kernel_rfl, by kernel_rfl, by kernel_rfl⟩
  | 4, _ => exact ⟨by kernel_rfl, by kernel_rfl, by kernel_rfl, by kernel_rfl⟩
  | 5, _ => exact ⟨by kernel_rfl, by kernel_rfl, by kernel_rfl, by kernel_rfl⟩
  | 6, _ => exact ⟨by kernel_rfl, by kernel_rfl, by kernel_rfl, by kernel_rfl⟩
  | 7, _ => exact ⟨by kernel_rfl, by kernel_rfl, by kernel_rfl, by kernel_rfl⟩
  | 8, _ => exact ⟨by kernel_rfl, by kernel_rfl, by kernel_rfl, by kernel_rfl⟩
  | 9, _ => exact ⟨by kernel_rfl, by kernel_rfl, by kernel_rfl, by kernel_rfl⟩
  | 10, _ => exact ⟨by kernel_rfl, by kernel_rfl, by kernel_rfl, by kernel_rfl⟩
  | 11, _ => exact ⟨by kernel_rfl, by kernel_rfl, by kernel_rfl, by kernel_rfl⟩
  | 12, _ => exact ⟨by kernel_rfl, by kernel_rfl, by kernel_rfl, by kernel_rfl⟩
  | 13, _ => exact ⟨by kernel_rfl, by kernel_rfl, by kernel_rfl, by kernel_rfl⟩
  | 14, _ => exact ⟨by kernel_rfl, by kernel_rfl, by kernel_rfl, by kernel_rfl⟩
  | 15, _ => exact ⟨by kernel_rfl, by kernel_rfl, by kernel_rfl, by kernel_rfl⟩
  | 16, _ => exact ⟨by kernel_rfl, by kernel_rfl, by kernel_rfl, by kernel_rfl⟩
  | 17, _ => exact ⟨by kernel_rfl, by kernel_rfl, by kernel_rfl, by kernel_rfl⟩
  | 18, _ => exact ⟨by kernel_rfl, by kernel_rfl, by kernel_rfl, by kernel_rfl⟩
  | 19, _ => exact ⟨by kernel_rfl, by kernel_rfl, by kernel_rfl, by kernel_rfl⟩
  | 20, _ => exact ⟨by kernel_rfl, by kernel_rfl, by kernel_rfl, by kernel_rfl⟩
  | 21, _ => exact ⟨by kernel_rfl, by kernel_rfl, by kernel_rfl, by kernel_rfl⟩
  | 22, _ => exact ⟨by kernel_rfl, by kernel_rfl, by kernel_rfl, by kernel_rfl⟩
  | 23, _ => exact ⟨by kernel_rfl, by kernel_rfl, by kernel_rfl, by kernel_rfl⟩
  | 24, _ => exact ⟨by kernel_rfl, by kernel_rfl, by kernel_rfl, by kernel_rfl⟩
  | 25, _ => exact ⟨by kernel_rfl, by kernel_rfl, by kernel_rfl, by kernel_rfl⟩
  | 26, _ => exact ⟨by kernel_rfl, by kernel_rfl, by kernel_rfl, by kernel_rfl⟩
  | 27, _ => exact ⟨by kernel_rfl, by kernel_rfl, by kernel_rfl, by kernel_rfl⟩
  | 28, _ => exact ⟨by kernel_rfl, by kernel_rfl, by kernel_rfl, by kernel_rfl⟩
  | 29, _ => exact ⟨by kernel_rfl, by kernel_rfl, by kernel_rfl, by kernel_rfl⟩
  | n + 30, hi => exact absurd hi (by omega)
theorem opTab_of {w : World} (h : ∀ i v, leafAt Tryz.prog 4 198 Rows.laid_loop_example_g00231_impl_opRows i = some v → w.cell? ⟨0, i, none⟩ = some v) : OpTab w := fun i hi => by
  obtain ⟨a, b, c, d⟩ := opTab_leaf ⟨i, hi⟩
  exact ⟨h _ _ a, h _ _ b, h _ _ c, h _ _ d⟩
theorem OpTab.mono {w w' : World} (h : OpTab w) (hb : Below w.heap.size w w') : OpTab w' := fun i hi => by
  obtain ⟨a, b, c, d⟩ := h i hi
  have h0 : 0 < w.heap.size := block_lt_of_cell a
  exact ⟨(hb.cell h0).trans a, (hb.cell h0).trans b, (hb.cell h0).trans c, (hb.cell h0).trans d⟩
def nmOf (x : Int) : ByteArray := if 0 ≤ x ∧ x ≤ 29 then opNm.getD x.toNat ByteArray.empty else ⟨#[]⟩
def lenOf (x : Int) : Int := if 0 ≤ x ∧ x ≤ 29 then opLens.getD x.toNat 1 else 1
def cycOf (x : Int) : Int := if 0 ≤ x ∧ x ≤ 29 then opCycs.getD x.toNat 2 else 2
def acOf (x : Int) : Int := if 0 ≤ x ∧ x ≤ 29 then opAccs.getD x.toNat 0 else 0
theorem opAt (w : World) (x : Int) (h : OpTab w) : Calls Tryz.prog 137 #[.int .i64 x] w fun e w' => e = .returned (.agg #[.string (nmOf x), .int .i64 (lenOf x), .int .i64 (cycOf x), .int .i64 (acOf x)]) ∧ Below w.heap.size w w' := by
  have L0 : ∀ o, Below w.heap.size w (w.alloc o) := fun o => (Below.refl _ _).alloc (Nat.le_refl _) _
  by_cases hx : 0 ≤ x ∧ x ≤ 29
  · obtain ⟨i, rfl⟩ : ∃ i : Nat, x = i := ⟨x.toNat, by omega⟩
    have hi : i < 30 := by omega
    have hi' : (i : Int) < 30 := by omega
    obtain ⟨a, b, c, d⟩ := h i hi
    have h0 : 0 < w.heap.size := block_lt_of_cell a
    have h1 : decide ((i : Int) < 0) = false := by simp
    have h2 : decide (30 ≤ (i : Int)) = false := by simp; omega
    unfold nmOf lenOf cycOf acOf
    rw [if_pos hx, if_pos hx, if_pos hx, if_pos hx, Int.toNat_natCast]
    obtain ⟨v0, e0⟩ : ∃ v, v = opNm.getD i ByteArray.empty := ⟨_, rfl⟩
    obtain ⟨v1, e1⟩ : ∃ v, v = opLens.getD i 1 := ⟨_, rfl⟩
    obtain ⟨v2, e2⟩ : ∃ v, v = opCycs.getD i 2 := ⟨_, rfl⟩
    obtain ⟨v3, e3⟩ : ∃ v, v = opAccs.getD i 0 := ⟨_, rfl⟩
    rw [← e0] at a; rw [← e1] at b; rw [← e2] at c; rw [← e3] at d
    rw [← e0, ← e1, ← e2, ← e3]
    clear e0 e1 e2 e3 h hx
    go_enter Tryz.func137, Tryz.ntmps137
    go_wp2
    refine bodyPost_ret (v := .agg #[.string v0, .int .i64 v1, .int .i64 v2, .int .i64 v3]) (by simp [results, Tryz.results137, go_sem]) rfl ?_
    exact ⟨rfl, L0 _⟩
  · unfold nmOf lenOf cycOf acOf
    rw [if_neg hx, if_neg hx, if_neg hx, if_neg hx]
    rcases (by omega : x < 0 ∨ 30 ≤ x) with h1 | h1
    · have h2 : decide (x < 0) = true := by simpa using h1
      clear hx
      go_enter Tryz.func137, Tryz.ntmps137
      go_wp2
      all_goals first | (exfalso; omega) | skip
      refine bodyPost_ret (v := .agg #[.string ⟨#[]⟩, .int .i64 1, .int .i64 2, .int .i64 0]) (by simp [results, Tryz.results137, go_sem]) rfl ?_
      exact ⟨rfl, L0 _⟩
    · have h2 : decide (x < 0) = false := by simp; omega
      have h3 : decide (30 ≤ x) = true := by simpa using h1
      clear hx
      go_enter Tryz.func137, Tryz.ntmps137
      go_wp2
      all_goals first | (exfalso; omega) | skip
      refine bodyPost_ret (v := .agg #[.string ⟨#[]⟩, .int .i64 1, .int .i64 2, .int .i64 0]) (by simp [results, Tryz.results137, go_sem]) rfl ?_
      exact ⟨rfl, L0 _⟩
theorem implOpLen (w : World) (x : Int) (h : OpTab w) : Calls Tryz.prog 133 #[.int .i64 x] w fun e w' => e = .returned (.int .i64 (lenOf x)) ∧ Below w.heap.size w w' := by
  have hfd : ∀ w : World, (Instr.field 176 (.agg #[.string (nmOf x), .int .i64 (lenOf x), .int .i64 (cycOf x), .int .i64 (acOf x)]) 1).run Tryz.prog w = .ok (.int .i64 (lenOf x)) w := fun _ => by kernel_rfl
  go_enter Tryz.func133, Tryz.ntmps133
  go_wp2_with fail
  refine (opAt _ _ h).mono ?_
  rintro e w1 ⟨rfl, hb⟩
  go_wp2
  go_ret
  exact ⟨rfl, hb⟩
theorem implOpCycles (w : World) (x : Int) (h : OpTab w) : Calls Tryz.prog 109 #[.int .i64 x] w fun e w' => e = .returned (.int .i64 (cycOf x)) ∧ Below w.heap.size w w' := by
  have hfd : ∀ w : World, (Instr.field 176 (.agg #[.string (nmOf x), .int .i64 (lenOf x), .int .i64 (cycOf x), .int .i64 (acOf x)]) 2).run Tryz.prog w = .ok (.int .i64 (cycOf x)) w := fun _ => by kernel_rfl
  go_enter Tryz.func109, Tryz.ntmps109
  go_wp2_with fail
  refine (opAt _ _ h).mono ?_
  rintro e w1 ⟨rfl, hb⟩
  go_wp2
  go_ret
  exact ⟨rfl, hb⟩
theorem implOpAccess (w : World) (x : Int) (h : OpTab w) : Calls Tryz.prog 135 #[.int .i64 x] w fun e w' => e = .returned (.int .i64 (acOf x)) ∧ Below w.heap.size w w' := by
  have hfd : ∀ w : World, (Instr.field 176 (.agg #[.string (nmOf x), .int .i64 (lenOf x), .int .i64 (cycOf x), .int .i64 (acOf x)]) 3).run Tryz.prog w = .ok (.int .i64 (acOf x)) w := fun _ => by kernel_rfl
  go_enter Tryz.func135, Tryz.ntmps135
  go_wp2_with fail
  refine (opAt _ _ h).mono ?_
  rintro e w1 ⟨rfl, hb⟩
  go_wp2
  go_ret
  exact ⟨rfl, hb⟩
theorem implOpName (w : World) (x : Int) (h : OpTab w) : Calls Tryz.prog 156 #[.int .i64 x] w fun e w' => e = .returned (.string (nmOf x)) ∧ Below w.heap.size w w' := by
  have hfd : ∀ w : World, (Instr.field 176 (.agg #[.string (nmOf x), .int .i64 (lenOf x), .int .i64 (cycOf x), .int .i64 (acOf x)]) 0).run Tryz.prog w = .ok (.string (nmOf x)) w := fun _ => by kernel_rfl
  go_enter Tryz.func156, Tryz.ntmps156
  go_wp2_with fail
  refine (opAt _ _ h).mono ?_
  rintro e w1 ⟨rfl, hb⟩
  go_wp2
  go_ret
  exact ⟨rfl, hb⟩
theorem acOf_eq (x : Int) : acOf x = accOf x := by
  unfold acOf
  split
  · rename_i h
    obtain ⟨i, rfl⟩ : ∃ i : Nat, x = i := ⟨x.toNat, by omega⟩
    have hi : i < 30 := by omega
    rw [Int.toNat_natCast]
    clear h
    revert i
    decide
  · unfold accOf
    rw [if_neg (by omega), if_neg (by omega)]
end Go.Proofs.YtjcaligejlhjdaaGreatDoor
