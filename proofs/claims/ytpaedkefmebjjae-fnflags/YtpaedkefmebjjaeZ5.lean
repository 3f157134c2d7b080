/-
  Processors held against each other as structs.
-/
import Derived.Test.YtpaedkefmebjjaeC5
import Derived.Laws.StructEq
import Derived.Lib.QuietBelow
namespace Go.Proofs.Ytpaedkefmebjjae
set_option linter.unusedVariables false
open Go.ChangeShapes Go.WideShapes Go.ChangeAt Go.RowKit Go.Sort
theorem cpu_neq_same (W : World) (A X S Pc : Int) (Z N C I : Bool) : (binOp .neq 25 (.agg #[.int .i64 A, .int .i64 X, .int .i64 S, .int .i64 Pc, .bool Z, .bool N, .bool C, .bool I]) (.agg #[.int .i64 A, .int .i64 X, .int .i64 S, .int .i64 Pc, .bool Z, .bool N, .bool C, .bool I])).run Try.prog W = .ok (.bool false) W := by
  obtain ⟨fs, hfs, hf⟩ : ∃ fs, Try.prog.underlying 25 = some (.struct fs) ∧ Try.prog.fieldsOf 25 = fs := ⟨_, Try.underlying25, by unfold Program.fieldsOf; rw [Try.underlying25]⟩
  have hu' : Try.prog.underlying 25 = some (.struct (Try.prog.fieldsOf 25)) := by rw [hf, hfs]
  rw [run_neq_struct, show (10000 : Nat) = 9999 + 1 from rfl, run_equalIn_agg W 9999 25 _ _ hu' (by kernel_rfl), hf]
  obtain rfl := TypeDesc.struct.inj (Option.some.inj (hfs.symm.trans Try.underlying25))
  simp [Op.eqFields, go_sem, Try.underlying3, Try.underlying4]
theorem cells8R {w : World} {b : Nat} {t : TypeId} {v0 v1 v2 v3 v4 v5 v6 v7 : Value} (h : w.heap[b]? = some (.cells #[v0, v1, v2, v3, v4, v5, v6, v7] t (0, 0))) :
    (∀ d os, (grow (redrawn w d) os).cell? ⟨b, 0, none⟩ = some v0) ∧ (∀ d os, (grow (redrawn w d) os).cell? ⟨b, 1, none⟩ = some v1) ∧ (∀ d os, (grow (redrawn w d) os).cell? ⟨b, 2, none⟩ = some v2) ∧ (∀ d os, (grow (redrawn w d) os).cell? ⟨b, 3, none⟩ = some v3) ∧ (∀ d os, (grow (redrawn w d) os).cell? ⟨b, 4, none⟩ = some v4) ∧ (∀ d os, (grow (redrawn w d) os).cell? ⟨b, 5, none⟩ = some v5) ∧ (∀ d os, (grow (redrawn w d) os).cell? ⟨b, 6, none⟩ = some v6) ∧ (∀ d os, (grow (redrawn w d) os).cell? ⟨b, 7, none⟩ = some v7) := by
  obtain ⟨q0, q1, q2, q3, q4, q5, q6, q7⟩ := cells8 h
  exact ⟨cell_regrown q0, cell_regrown q1, cell_regrown q2, cell_regrown q3, cell_regrown q4, cell_regrown q5, cell_regrown q6, cell_regrown q7⟩
theorem flags_put (z n c i : Bool) : hasB (flagsOf z n c i) 2 = z ∧ hasB (flagsOf z n c i) 128 = n ∧ hasB (flagsOf z n c i) 1 = c ∧ hasB (flagsOf z n c i) 4 = i := by
  cases z <;> cases n <;> cases c <;> cases i <;> decide
theorem flags_135 (v : Int) : bits .and .i64 v 135 = flagsOf (hasB v 2) (hasB v 128) (hasB v 1) (hasB v 4) := by
  have h : ∀ k : Fin 256, (((k.val &&& 135 : Nat)) : Int) = flagsOf ((k.val &&& 2) != 0) ((k.val &&& 128) != 0) ((k.val &&& 1) != 0) ((k.val &&& 4) != 0) := by decide +kernel
  have e := i64_and_byte v 135 (by omega)
  have := h ⟨(v % 256).toNat, by omega⟩
  show bits .and .i64 v ((135 : Nat) : Int) = _
  rw [e]
  exact this
end Go.Proofs.Ytpaedkefmebjjae
