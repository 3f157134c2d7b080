/-
  Chapter 5 by its contracts: the program's functions on a processor (its four flags kept as one set).
-/
import Derived.Test.YteefbbnkfclllaaDoorC5
import Derived.Test.YteefbbnkfclllaaDoorC1
import Derived.Deep.RegionWith
import Derived.Deep.RegionHeld3
import Derived.Laws.StructEq
namespace Go.Proofs.YteefbbnkfclllaaDoor
set_option linter.unusedVariables false
open Go.ChangeShapes Go.WideShapes Go.ChangeAt Go.RowKit
theorem put8 (w : World) (d : Nat) (v0 v1 v2 v3 v4 v5 v6 v7 : Value) : Below d w ((((((((w.setCell ⟨d, 0, none⟩ v0).setCell ⟨d, 1, none⟩ v1).setCell ⟨d, 2, none⟩ v2).setCell ⟨d, 3, none⟩ v3).setCell ⟨d, 4, none⟩ v4).setCell ⟨d, 5, none⟩ v5).setCell ⟨d, 6, none⟩ v6).setCell ⟨d, 7, none⟩ v7) :=
  ((((((((Below.refl d w).setCell (Nat.le_refl _) _).setCell (Nat.le_refl _) _).setCell (Nat.le_refl _) _).setCell (Nat.le_refl _) _).setCell (Nat.le_refl _) _).setCell (Nat.le_refl _) _).setCell (Nat.le_refl _) _).setCell (Nat.le_refl _) _
theorem cpu_eql (W : World) (A X S Pc A' X' S' Pc' : Int) (Z N C I : Bool) : (binOp .eql 32 (.agg #[.int .i64 A', .int .i64 X', .int .i64 S', .int .i64 Pc', .bool Z, .bool N, .bool C, .bool I]) (.agg #[.int .i64 A, .int .i64 X, .int .i64 S, .int .i64 Pc, .bool Z, .bool N, .bool C, .bool I])).run Tryd.prog W = .ok (.bool (A' == A && (X' == X && (S' == S && Pc' == Pc)))) W := by
  obtain ⟨fs, hfs, hf⟩ : ∃ fs, Tryd.prog.underlying 32 = some (.struct fs) ∧ Tryd.prog.fieldsOf 32 = fs := ⟨_, Tryd.underlying32, by unfold Program.fieldsOf; rw [Tryd.underlying32]⟩
  have hu' : Tryd.prog.underlying 32 = some (.struct (Tryd.prog.fieldsOf 32)) := by rw [hf, hfs]
  rw [run_eql_struct, show (10000 : Nat) = 9999 + 1 from rfl, run_equalIn_agg W 9999 32 _ _ hu' (by kernel_rfl), hf]
  obtain rfl := TypeDesc.struct.inj (Option.some.inj (hfs.symm.trans Tryd.underlying32))
  cases hA : A' == A <;> cases hX : X' == X <;> cases hS : S' == S <;> cases hP : Pc' == Pc <;> simp [Op.eqFields, go_sem, Tryd.underlying3, Tryd.underlying4, hA, hX, hS, hP]
theorem cut_ok (A X S Pc : Int) : (A % 256 == A && (X % 256 == X && (S % 256 == S && Pc % 65536 == Pc))) = okCpu A X S Pc := by
  have b : ∀ x : Int, (x % 256 == x) = inB x 0 255 := fun x => by
    by_cases h : 0 ≤ x ∧ x ≤ 255
    · rw [inB_yes h]; exact beq_iff_eq.2 (by omega)
    · rw [inB_no h]; exact beq_eq_false_iff_ne.2 (by omega)
  have p : ∀ x : Int, (x % 65536 == x) = inB x 0 65535 := fun x => by
    by_cases h : 0 ≤ x ∧ x ≤ 65535
    · rw [inB_yes h]; exact beq_iff_eq.2 (by omega)
    · rw [inB_no h]; exact beq_eq_false_iff_ne.2 (by omega)
  unfold okCpu
  rw [b, b, b, p]
  simp only [Bool.and_assoc]
def withF (f m : Int) (on : Bool) : Int := if on then bits .or .u8 f m else bits .andNot .u8 f m
def hasU (f m : Int) : Bool := bits .and .u8 f m != 0
def tellF (f o : Int) : Int := bits .or .u8 (bits .andNot .u8 f 130) (2 * bitOf (o == 0) + 128 * bitOf (decide (127 < o)))
theorem with_all (Z N C I : Bool) : withF (withF (withF (withF 0 1 C) 2 Z) 4 I) 128 N = flagsOf Z N C I := by
  cases Z <;> cases N <;> cases C <;> cases I <;> decide
theorem tell_c (Z N C I : Bool) (o : Int) : hasU (tellF (flagsOf Z N C I) o) 1 = C := by
  unfold tellF
  generalize (o == 0) = a
  generalize decide (127 < o) = b
  cases Z <;> cases N <;> cases C <;> cases I <;> cases a <;> cases b <;> decide
theorem tell_i (Z N C I : Bool) (o : Int) : hasU (tellF (flagsOf Z N C I) o) 4 = I := by
  unfold tellF
  generalize (o == 0) = a
  generalize decide (127 < o) = b
  cases Z <;> cases N <;> cases C <;> cases I <;> cases a <;> cases b <;> decide
theorem tell_z (Z N C I : Bool) (o : Int) : hasU (tellF (flagsOf Z N C I) o) 2 = (o == 0) := by
  unfold tellF
  generalize (o == 0) = a
  generalize decide (127 < o) = b
  cases Z <;> cases N <;> cases C <;> cases I <;> cases a <;> cases b <;> decide
theorem tell_n (Z N C I : Bool) (o : Int) : hasU (tellF (flagsOf Z N C I) o) 128 = decide (127 < o) := by
  unfold tellF
  generalize (o == 0) = a
  generalize decide (127 < o) = b
  cases Z <;> cases N <;> cases C <;> cases I <;> cases a <;> cases b <;> decide
theorem implCpuOk (w : World) (A X S Pc : Int) (Z N C I : Bool) : Calls Tryd.prog 18 #[.agg #[.int .i64 A, .int .i64 X, .int .i64 S, .int .i64 Pc, .bool Z, .bool N, .bool C, .bool I]] w
    fun e w' => e = .returned (.bool (okCpu A X S Pc)) ∧ Below w.heap.size w w' := by
  have hq := fun W => cpu_eql W A X S Pc (A % 256) (X % 256) (S % 256) (Pc % 65536) Z N C I
  have ho := hide (cut_ok A X S Pc)
  go_enter Tryd.func18, Tryd.ntmps18
  go_wp2_with fail
  go_region_held3 (fun w' => w'.cell? ⟨w.heap.size, 0, none⟩ = some (.int .i64 A) ∧ w'.cell? ⟨w.heap.size, 1, none⟩ = some (.int .i64 X) ∧ w'.cell? ⟨w.heap.size, 2, none⟩ = some (.int .i64 S) ∧ w'.cell? ⟨w.heap.size, 3, none⟩ = some (.int .i64 Pc)) (first | assumption | go_keep) (first | (go_at_call 35; refine (implByte _ _).mono ?_; rintro e w' ⟨rfl, rfl⟩) | (go_at_call 36; refine (implAddr _ _).mono ?_; rintro e w' ⟨rfl, rfl⟩))
  all_goals go_wp2
  all_goals go_ret
  all_goals exact ⟨ret_bool (unhide ho), (((Below.refl _ _).alloc (Nat.le_refl _) _).alloc (by simp) _).drew⟩
end Go.Proofs.YteefbbnkfclllaaDoor
