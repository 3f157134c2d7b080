/-
  The program's Poke and MemNew (chapter 6), by their contracts.
-/
import Derived.Test.YtpaedkefmebjjarI6c
namespace Go.Proofs.Ytpaedkefmebjjar
set_option linter.unusedVariables false
open Go.ChangeShapes Go.WideShapes Go.ChangeAt Go.RowKit
theorem implMemNew (w : World) : Calls Try.prog 59 #[] w fun e w' => ∃ q, e = .returned (.agg #[q, .int .i64 0]) ∧ OwnInts w' w.heap.size q 512 (fun _ => 0) ∧ Below w.heap.size w w' := by
  obtain ⟨ob, hmk, hrow⟩ : ∃ ob : Obj, (∀ W : World, (Instr.makeSlice 25 (.int .i64 512) (.int .i64 512)).run Try.prog W = .ok (.slice (some ⟨W.heap.size, 0, none⟩) 512 512) (W.alloc ob)) ∧ Hid (∀ W : World, (W.alloc ob).rowIs W.heap.size 3 512 (fun _ => .int .i64 0)) :=
    ⟨_, run_make_row' (P := Try.prog) 25 3 (.int .i64 0) 8 Try.underlying25 info3 rfl .i64 .i64 512 (by omega) (by omega), fun W => World.rowIs_made W _ _ _⟩
  have hr := hide (hrow.out (w.alloc (.cells #[.slice (some ⟨w.heap.size + 1, 0, none⟩) 512 512, .int .i64 0] 43)))
  have L0 : Below w.heap.size w ((w.alloc (.cells #[.slice (some ⟨w.heap.size + 1, 0, none⟩) 512 512, .int .i64 0] 43)).alloc ob) := ((Below.refl _ _).alloc (Nat.le_refl _) _).alloc (by simp) _
  go_enter Try.func59, Try.ntmps59
  go_wp2
  have hr' := unhide hr
  simp only [World.size_alloc] at hr'
  have O0 : OwnInts ((w.alloc (.cells #[.slice (some ⟨w.heap.size + 1, 0, none⟩) 512 512, .int .i64 0] 43)).alloc ob) (w.heap.size + 1) (.slice (some ⟨w.heap.size + 1, 0, none⟩) 512 512) 512 (fun _ => 0) := by
    refine ⟨_, _, rfl, by omega, rowOf_row hr', fun b o ⟨off, e, _, _⟩ => ?_, fun b o ⟨off, e, _, _⟩ => ?_⟩
    · simp only [Option.some.injEq, Addr.mk.injEq] at e
      obtain ⟨rfl, -, -⟩ := e
      exact ⟨hr'.lt, hr'.frozen _⟩
    · simp only [Option.some.injEq, Addr.mk.injEq] at e
      obtain ⟨rfl, -, -⟩ := e
      omega
  refine bodyPost_ret (v := .agg #[.slice (some ⟨w.heap.size + 1, 0, none⟩) 512 512, .int .i64 0]) (by simp [results, Try.results59, go_sem]) rfl ?_
  exact ⟨_, rfl, O0.mono (by omega), L0⟩
end Go.Proofs.Ytpaedkefmebjjar
