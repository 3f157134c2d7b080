/-
  Ops and processors held against each other as structs; the lengths of ops.
-/
import Derived.Test.YtpaedkefmebjjafDoorCB
import Derived.Laws.StructEq
import Derived.Lib.QuietBelow
namespace Go.Proofs.YtpaedkefmebjjafDoor
set_option linter.unusedVariables false
open Go.ChangeShapes Go.WideShapes Go.ChangeAt Go.RowKit Go.Sort
theorem instr_neq_same (W : World) (o a : Int) : (binOp .neq 33 (.agg #[.int .i64 o, .int .i64 a]) (.agg #[.int .i64 o, .int .i64 a])).run Tryd.prog W = .ok (.bool false) W := by
  obtain ⟨fs, hfs, hf⟩ : ∃ fs, Tryd.prog.underlying 33 = some (.struct fs) ∧ Tryd.prog.fieldsOf 33 = fs := ⟨_, Tryd.underlying33, by unfold Program.fieldsOf; rw [Tryd.underlying33]⟩
  have hu' : Tryd.prog.underlying 33 = some (.struct (Tryd.prog.fieldsOf 33)) := by rw [hf, hfs]
  rw [run_neq_struct, show (10000 : Nat) = 9999 + 1 from rfl, run_equalIn_agg W 9999 33 _ _ hu' (by kernel_rfl), hf]
  obtain rfl := TypeDesc.struct.inj (Option.some.inj (hfs.symm.trans Tryd.underlying33))
  simp [Op.eqFields, go_sem, Tryd.underlying3]
theorem cpu_eql_same (W : World) (A X S Pc : Int) (Z N C I : Bool) : (binOp .eql 39 (.agg #[.int .i64 A, .int .i64 X, .int .i64 S, .int .i64 Pc, .bool Z, .bool N, .bool C, .bool I]) (.agg #[.int .i64 A, .int .i64 X, .int .i64 S, .int .i64 Pc, .bool Z, .bool N, .bool C, .bool I])).run Tryd.prog W = .ok (.bool true) W := by
  obtain ⟨fs, hfs, hf⟩ : ∃ fs, Tryd.prog.underlying 39 = some (.struct fs) ∧ Tryd.prog.fieldsOf 39 = fs := ⟨_, Tryd.underlying39, by unfold Program.fieldsOf; rw [Tryd.underlying39]⟩
  have hu' : Tryd.prog.underlying 39 = some (.struct (Tryd.prog.fieldsOf 39)) := by rw [hf, hfs]
  rw [run_eql_struct, show (10000 : Nat) = 9999 + 1 from rfl, run_equalIn_agg W 9999 39 _ _ hu' (by kernel_rfl), hf]
  obtain rfl := TypeDesc.struct.inj (Option.some.inj (hfs.symm.trans Tryd.underlying39))
  simp [Op.eqFields, go_sem, Tryd.underlying3, Tryd.underlying4]
theorem opLn_cases (x : Int) : opLn x = 1 ∨ opLn x = 2 ∨ opLn x = 3 := by
  unfold opLn
  split
  · rename_i h
    have key : ∀ k : Fin 30, opLens.getD k.1 1 = 1 ∨ opLens.getD k.1 1 = 2 ∨ opLens.getD k.1 1 = 3 := by decide
    exact key ⟨x.toNat, by omega⟩
  · exact Or.inl rfl
theorem acc_in (op arg X : Int) : 0 ≤ accAt op arg X ∧ accAt op arg X ≤ 65535 := by
  unfold accAt
  split
  · omega
  · omega
theorem acc_v (op A : Int) (h : ¬ accOf op = 2) : accV op A = 0 := if_neg h
end Go.Proofs.YtpaedkefmebjjafDoor
