/-
  The program's picture unit (chapter 8), by its contracts: PpuNew, PpuWrite, PpuRead.
-/
import Derived.Test.YtpaedkefmebjjarI8b
import Derived.Test.YtpaedkefmebjjarI8e
import Derived.Test.YtpaedkefmebjjarW8
namespace Go.Proofs.Ytpaedkefmebjjar
set_option linter.unusedVariables false
set_option linter.unusedSimpArgs false
open Go.ChangeShapes Go.WideShapes Go.ChangeAt Go.RowKit
theorem implPpuNew (w : World) : Calls Try.prog 61 #[] w fun e w' => ∃ p, e = .returned (.agg #[.int .i64 0, .int .i64 0, .int .i64 0, .int .i64 0, .int .i64 0, .bool false, .slice (some ⟨p, 0, none⟩) 16 16, .slice none 0 0]) ∧ Row w' w.heap.size p 16 16 (fun _ => 0) ∧ Below w.heap.size w w' := by
  obtain ⟨ob, hmk, hrow⟩ : ∃ ob : Obj, (∀ W : World, (Instr.makeSlice 25 (.int .i64 16) (.int .i64 16)).run Try.prog W = .ok (.slice (some ⟨W.heap.size, 0, none⟩) 16 16) (W.alloc ob)) ∧ Hid (∀ W : World, (W.alloc ob).rowIs W.heap.size 3 16 (fun _ => .int .i64 0)) :=
    ⟨_, run_make_row' (P := Try.prog) 25 3 (.int .i64 0) 8 Try.underlying25 info3 rfl .i64 .i64 16 (by omega) (by omega), fun W => World.rowIs_made W _ _ _⟩
  have hr := hide (hrow.out (w.alloc (.cells #[.int .i64 0, .int .i64 0, .int .i64 0, .int .i64 0, .int .i64 0, .bool false, .slice (some ⟨w.heap.size + 1, 0, none⟩) 16 16, .slice none 0 0] 45)))
  have L0 : Below w.heap.size w ((w.alloc (.cells #[.int .i64 0, .int .i64 0, .int .i64 0, .int .i64 0, .int .i64 0, .bool false, .slice (some ⟨w.heap.size + 1, 0, none⟩) 16 16, .slice none 0 0] 45)).alloc ob) := ((Below.refl _ _).alloc (Nat.le_refl _) _).alloc (by simp) _
  go_enter Try.func61, Try.ntmps61
  go_wp2
  have hr' := unhide hr
  simp only [World.size_alloc] at hr'
  refine bodyPost_ret (v := .agg #[.int .i64 0, .int .i64 0, .int .i64 0, .int .i64 0, .int .i64 0, .bool false, .slice (some ⟨w.heap.size + 1, 0, none⟩) 16 16, .slice none 0 0]) (by simp [results, Try.results61, go_sem]) rfl ?_
  exact ⟨_, rfl, Row.fresh hr' (by omega) (by omega), L0⟩
end Go.Proofs.Ytpaedkefmebjjar
