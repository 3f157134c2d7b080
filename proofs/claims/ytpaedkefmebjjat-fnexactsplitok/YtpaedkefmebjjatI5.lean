/-
  Chapter 5 by its contracts: the program's functions on a processor (its four flags kept as one set).
-/
import Derived.Test.YtpaedkefmebjjatC5
import Derived.Test.YtpaedkefmebjjatMath
import Derived.Deep.RegionWith
import Derived.Deep.RegionHeld3
import Derived.Laws.StructEq
namespace Go.Proofs.Ytpaedkefmebjjat
set_option linter.unusedVariables false
open Go.ChangeShapes Go.WideShapes Go.ChangeAt Go.RowKit
theorem cpu_eql (W : World) (A X S Pc A' X' S' Pc' : Int) (Z N C I : Bool) : (binOp .eql 60 (.agg #[.int .i64 A', .int .i64 X', .int .i64 S', .int .i64 Pc', .bool Z, .bool N, .bool C, .bool I]) (.agg #[.int .i64 A, .int .i64 X, .int .i64 S, .int .i64 Pc, .bool Z, .bool N, .bool C, .bool I])).run Try.prog W = .ok (.bool (A' == A && (X' == X && (S' == S && Pc' == Pc)))) W := by
  obtain ⟨fs, hfs, hf⟩ : ∃ fs, Try.prog.underlying 60 = some (.struct fs) ∧ Try.prog.fieldsOf 60 = fs := ⟨_, Try.underlying60, by unfold Program.fieldsOf; rw [Try.underlying60]⟩
  have hu' : Try.prog.underlying 60 = some (.struct (Try.prog.fieldsOf 60)) := by rw [hf, hfs]
  rw [run_eql_struct, show (10000 : Nat) = 9999 + 1 from rfl, run_equalIn_agg W 9999 60 _ _ hu' (by kernel_rfl), hf]
  obtain rfl := TypeDesc.struct.inj (Option.some.inj (hfs.symm.trans Try.underlying60))
  cases hA : A' == A <;> cases hX : X' == X <;> cases hS : S' == S <;> cases hP : Pc' == Pc <;> simp [Op.eqFields, go_sem, Try.underlying3, Try.underlying4, hA, hX, hS, hP]
theorem cut_ok (A X S Pc : Int) : (A % 256 == A && (X % 256 == X && (S % 256 == S && Pc % 65536 == Pc))) = okCpu A X S Pc := by
  have b : ∀ x : Int, (x % 256 == x) = inB x 0 255 := fun x => by
    by_cases h : 0 ≤ x ∧ x ≤ 255
    · rw [inB_yes h]; exact beq_iff_eq.2 (by omega)
    · rw [inB_no h]; exact beq_eq_false_iff_ne.2 (by omega)
  have p : ∀ x : Int, (x % 65536 == x) = inB x 0 65535 := fun x => by
    by_cases h : 0 ≤ x ∧ x ≤ 65535
    · rw [inB_yes h]; exact beq_iff_eq.2 (by omega)
    · rw [inB_no h]; exact beq_eq_false_iff_ne.2 (by omega)
  unfold okCpu
  rw [b, b, b, p]
  simp only [Bool.and_assoc]
theorem implCpuOk (w : World) (A X S Pc : Int) (Z N C I : Bool) : Calls Try.prog 46 #[.agg #[.int .i64 A, .int .i64 X, .int .i64 S, .int .i64 Pc, .bool Z, .bool N, .bool C, .bool I]] w
    fun e w' => e = .returned (.bool (okCpu A X S Pc)) ∧ Below w.heap.size w w' := by
  have hq := fun W => cpu_eql W A X S Pc (A % 256) (X % 256) (S % 256) (Pc % 65536) Z N C I
  have ho := hide (cut_ok A X S Pc)
  go_enter Try.func46, Try.ntmps46
  go_wp2_with fail
  go_region_held3 (fun w' => w'.cell? ⟨w.heap.size, 0, none⟩ = some (.int .i64 A) ∧ w'.cell? ⟨w.heap.size, 1, none⟩ = some (.int .i64 X) ∧ w'.cell? ⟨w.heap.size, 2, none⟩ = some (.int .i64 S) ∧ w'.cell? ⟨w.heap.size, 3, none⟩ = some (.int .i64 Pc)) (first | assumption | go_keep) (first | (go_at_call 71; refine (implByte _ _).mono ?_; rintro e w' ⟨rfl, rfl⟩) | (go_at_call 72; refine (implAddr _ _).mono ?_; rintro e w' ⟨rfl, rfl⟩))
  all_goals go_wp2
  all_goals go_ret
  all_goals exact ⟨ret_bool (unhide ho), (((Below.refl _ _).alloc (Nat.le_refl _) _).alloc (by simp) _).drew⟩
end Go.Proofs.Ytpaedkefmebjjat
