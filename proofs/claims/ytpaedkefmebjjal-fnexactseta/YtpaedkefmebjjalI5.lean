/-
  Chapter 5 by its contracts: the program's functions on a processor (its four flags kept as one set).
-/
import Derived.Test.YtpaedkefmebjjalC5
import Derived.Test.YtpaedkefmebjjalC1
import Derived.Deep.RegionWith
import Derived.Deep.RegionHeld3
import Derived.Laws.StructEq
namespace Go.Proofs.Ytpaedkefmebjjal
set_option linter.unusedVariables false
open Go.ChangeShapes Go.WideShapes Go.ChangeAt Go.RowKit
theorem put8 (w : World) (d : Nat) (v0 v1 v2 v3 v4 v5 v6 v7 : Value) : Below d w ((((((((w.setCell ⟨d, 0, none⟩ v0).setCell ⟨d, 1, none⟩ v1).setCell ⟨d, 2, none⟩ v2).setCell ⟨d, 3, none⟩ v3).setCell ⟨d, 4, none⟩ v4).setCell ⟨d, 5, none⟩ v5).setCell ⟨d, 6, none⟩ v6).setCell ⟨d, 7, none⟩ v7) :=
  ((((((((Below.refl d w).setCell (Nat.le_refl _) _).setCell (Nat.le_refl _) _).setCell (Nat.le_refl _) _).setCell (Nat.le_refl _) _).setCell (Nat.le_refl _) _).setCell (Nat.le_refl _) _).setCell (Nat.le_refl _) _).setCell (Nat.le_refl _) _
theorem cpu_eql (W : World) (A X S Pc A' X' S' Pc' : Int) (Z N C I : Bool) : (binOp .eql 25 (.agg #[.int .i64 A', .int .i64 X', .int .i64 S', .int .i64 Pc', .bool Z, .bool N, .bool C, .bool I]) (.agg #[.int .i64 A, .int .i64 X, .int .i64 S, .int .i64 Pc, .bool Z, .bool N, .bool C, .bool I])).run Try.prog W = .ok (.bool (A' == A && (X' == X && (S' == S && Pc' == Pc)))) W := by
  obtain ⟨fs, hfs, hf⟩ : ∃ fs, Try.prog.underlying 25 = some (.struct fs) ∧ Try.prog.fieldsOf 25 = fs := ⟨_, Try.underlying25, by unfold Program.fieldsOf; rw [Try.underlying25]⟩
  have hu' : Try.prog.underlying 25 = some (.struct (Try.prog.fieldsOf 25)) := by rw [hf, hfs]
  rw [run_eql_struct, show (10000 : Nat) = 9999 + 1 from rfl, run_equalIn_agg W 9999 25 _ _ hu' (by kernel_rfl), hf]
  obtain rfl := TypeDesc.struct.inj (Option.some.inj (hfs.symm.trans Try.underlying25))
  cases hA : A' == A <;> cases hX : X' == X <;> cases hS : S' == S <;> cases hP : Pc' == Pc <;> simp [Op.eqFields, go_sem, Try.underlying3, Try.underlying4, hA, hX, hS, hP]
theorem cut_ok (A X S Pc : Int) : (A % 256 == A && (X % 256 == X && (S % 256 == S && Pc % 65536 == Pc))) = okCpu A X S Pc := by
  have b : ∀ x : Int, (x % 256 == x) = inB x 0 255 := fun x => by
    by_cases h : 0 ≤ x ∧ x ≤ 255
    · rw [inB_yes h]; exact beq_iff_eq.2 (by omega)
    · rw [inB_no h]; exact beq_eq_false_iff_ne.2 (by omega)
  have p : ∀ x : Int, (x % 65536 == x) = inB x 0 65535 := fun x => by
    by_cases h : 0 ≤ x ∧ x ≤ 65535
    · rw [inB_yes h]; exact beq_iff_eq.2 (by omega)
    · rw [inB_no h]; exact beq_eq_false_iff_ne.2 (by omega)
  unfold okCpu
  rw [b, b, b, p]
  simp only [Bool.and_assoc]
def withF (f m : Int) (on : Bool) : Int := if on then bits .or .u8 f m else bits .andNot .u8 f m
def hasU (f m : Int) : Bool := bits .and .u8 f m != 0
def tellF (f o : Int) : Int := bits .or .u8 (bits .andNot .u8 f 130) (2 * bitOf (o == 0) + 128 * bitOf (decide (127 < o)))
theorem with_all (Z N C I : Bool) : withF (withF (withF (withF 0 1 C) 2 Z) 4 I) 128 N = flagsOf Z N C I := by
  cases Z <;> cases N <;> cases C <;> cases I <;> decide
theorem tell_c (Z N C I : Bool) (o : Int) : hasU (tellF (flagsOf Z N C I) o) 1 = C := by
  unfold tellF
  generalize (o == 0) = a
  generalize decide (127 < o) = b
  cases Z <;> cases N <;> cases C <;> cases I <;> cases a <;> cases b <;> decide
theorem tell_i (Z N C I : Bool) (o : Int) : hasU (tellF (flagsOf Z N C I) o) 4 = I := by
  unfold tellF
  generalize (o == 0) = a
  generalize decide (127 < o) = b
  cases Z <;> cases N <;> cases C <;> cases I <;> cases a <;> cases b <;> decide
theorem tell_z (Z N C I : Bool) (o : Int) : hasU (tellF (flagsOf Z N C I) o) 2 = (o == 0) := by
  unfold tellF
  generalize (o == 0) = a
  generalize decide (127 < o) = b
  cases Z <;> cases N <;> cases C <;> cases I <;> cases a <;> cases b <;> decide
theorem tell_n (Z N C I : Bool) (o : Int) : hasU (tellF (flagsOf Z N C I) o) 128 = decide (127 < o) := by
  unfold tellF
  generalize (o == 0) = a
  generalize decide (127 < o) = b
  cases Z <;> cases N <;> cases C <;> cases I <;> cases a <;> cases b <;> decide
theorem flagsWith (w : World) (f m : Int) (on : Bool) : Calls Try.prog 31 #[.int .u8 f, .int .u8 m, .bool on] w fun e w' => e = .returned (.int .u8 (withF f m on)) ∧ w' = w := by
  cases on <;> (go_enter Try.func31, Try.ntmps31; go_wp2; go_ret; exact ⟨rfl, rfl⟩)
theorem flagsHas' (w : World) (f m : Int) : Calls Try.prog 32 #[.int .u8 f, .int .u8 m] w fun e w' => e = .returned (.bool (hasU f m)) ∧ w' = w := flagsHas f m w
theorem flagsTelling (w : World) (f o : Int) (o0 : 0 ≤ o) (o1 : o < 256) : Calls Try.prog 30 #[.int .u8 f, .int .u8 o] w fun e w' => e = .returned (.int .u8 (tellF f o)) ∧ w' = w := by
  go_enter Try.func30, Try.ntmps30
  go_wp2_with (go_at_call 33; refine (octSigns _ _ o0 o1).mono ?_; rintro e w' ⟨rfl, rfl⟩)
  go_ret
  exact ⟨rfl, rfl⟩
theorem flagsIn (w : World) (x : Int) : Calls Try.prog 26 #[.int .i64 x] w fun e w' => e = .returned (.int .u8 (x % 256)) ∧ w' = w := by
  go_enter Try.func26, Try.ntmps26
  go_wp2
  go_ret
  exact ⟨rfl, rfl⟩
theorem coreOf (w : World) (A X S Pc : Int) (Z N C I : Bool) : Calls Try.prog 25 #[.agg #[.int .i64 A, .int .i64 X, .int .i64 S, .int .i64 Pc, .bool Z, .bool N, .bool C, .bool I]] w
    fun e w' => e = .returned (.agg #[.int .u8 (flagsOf Z N C I), .int .i64 A, .int .i64 X, .int .i64 S, .int .i64 Pc]) ∧ Below w.heap.size w w' := by
  have e := hide (with_all Z N C I)
  go_enter Try.func25, Try.ntmps25
  go_wp2_with (go_at_call 31; refine (flagsWith _ _ _ _).mono ?_; rintro e w' ⟨rfl, rfl⟩)
  refine bodyPost_ret (v := .agg #[.int .u8 (flagsOf Z N C I), .int .i64 A, .int .i64 X, .int .i64 S, .int .i64 Pc]) (by simp [results, Try.results25, go_sem, unhide e]) rfl ?_
  exact ⟨rfl, (((Below.refl _ _).alloc (Nat.le_refl _) _).alloc (by simp) _).alloc (by simp; omega) _⟩
theorem coreCpu (w : World) (F A X S Pc : Int) : Calls Try.prog 27 #[.agg #[.int .u8 (F), .int .i64 A, .int .i64 X, .int .i64 S, .int .i64 Pc]] w
    fun e w' => e = .returned (.agg #[.int .i64 A, .int .i64 X, .int .i64 S, .int .i64 Pc, .bool (hasU F 2), .bool (hasU F 128), .bool (hasU F 1), .bool (hasU F 4)]) ∧ Below w.heap.size w w' := by
  go_enter Try.func27, Try.ntmps27
  go_wp2_with fail
  go_region_held3 (fun w' => w'.cell? ⟨w.heap.size, 0, none⟩ = some (.int .u8 F) ∧ w'.cell? ⟨w.heap.size, 1, none⟩ = some (.int .i64 A) ∧ w'.cell? ⟨w.heap.size, 2, none⟩ = some (.int .i64 X) ∧ w'.cell? ⟨w.heap.size, 3, none⟩ = some (.int .i64 S) ∧ w'.cell? ⟨w.heap.size, 4, none⟩ = some (.int .i64 Pc)) (first | assumption | go_keep) ((go_at_call 32; refine (flagsHas' _ _ _).mono ?_; rintro e w' ⟨rfl, rfl⟩))
  all_goals (go_wp2; refine bodyPost_ret (v := .agg #[.int .i64 A, .int .i64 X, .int .i64 S, .int .i64 Pc, .bool (hasU F 2), .bool (hasU F 128), .bool (hasU F 1), .bool (hasU F 4)]) (by simp [results, Try.results27, go_sem]) rfl ?_)
  all_goals exact ⟨rfl, (((Below.refl _ _).alloc (Nat.le_refl _) _).alloc (by simp) _).drew⟩
theorem implCpuOk (w : World) (A X S Pc : Int) (Z N C I : Bool) : Calls Try.prog 10 #[.agg #[.int .i64 A, .int .i64 X, .int .i64 S, .int .i64 Pc, .bool Z, .bool N, .bool C, .bool I]] w
    fun e w' => e = .returned (.bool (okCpu A X S Pc)) ∧ Below w.heap.size w w' := by
  have hq := fun W => cpu_eql W A X S Pc (A % 256) (X % 256) (S % 256) (Pc % 65536) Z N C I
  have ho := hide (cut_ok A X S Pc)
  go_enter Try.func10, Try.ntmps10
  go_wp2_with fail
  go_region_held3 (fun w' => w'.cell? ⟨w.heap.size, 0, none⟩ = some (.int .i64 A) ∧ w'.cell? ⟨w.heap.size, 1, none⟩ = some (.int .i64 X) ∧ w'.cell? ⟨w.heap.size, 2, none⟩ = some (.int .i64 S) ∧ w'.cell? ⟨w.heap.size, 3, none⟩ = some (.int .i64 Pc)) (first | assumption | go_keep) (first | (go_at_call 22; refine (implByte _ _).mono ?_; rintro e w' ⟨rfl, rfl⟩) | (go_at_call 23; refine (implAddr _ _).mono ?_; rintro e w' ⟨rfl, rfl⟩))
  all_goals go_wp2
  all_goals go_ret
  all_goals exact ⟨ret_bool (unhide ho), (((Below.refl _ _).alloc (Nat.le_refl _) _).alloc (by simp) _).drew⟩
theorem implFlags (w : World) (A X S Pc : Int) (Z N C I : Bool) : Calls Try.prog 12 #[.agg #[.int .i64 A, .int .i64 X, .int .i64 S, .int .i64 Pc, .bool Z, .bool N, .bool C, .bool I]] w
    fun e w' => e = .returned (.int .i64 (flagsOf Z N C I)) ∧ Below w.heap.size w w' := by
  go_enter Try.func12, Try.ntmps12
  go_wp2_with fail
  refine (coreOf _ A X S Pc Z N C I).mono ?_
  rintro e w1 ⟨rfl, L1⟩
  have b0 : 0 ≤ flagsOf Z N C I ∧ flagsOf Z N C I < 256 := by cases Z <;> cases N <;> cases C <;> cases I <;> decide
  generalize hF : flagsOf Z N C I = F at *
  have hf : ∀ W, (Instr.field 38 (.agg #[.int .u8 F, .int .i64 A, .int .i64 X, .int .i64 S, .int .i64 Pc]) 0).run Try.prog W = .ok (.int .u8 F) W := fun W => by kernel_rfl
  go_wp2
  go_ret
  exact ⟨ret_int hF.symm, below_snoc ((Below.refl _ _).alloc (Nat.le_refl _) _) L1⟩
theorem implSetA (w : World) (A X S Pc : Int) (Z N C I : Bool) (v : Int) : Calls Try.prog 17 #[.agg #[.int .i64 A, .int .i64 X, .int .i64 S, .int .i64 Pc, .bool Z, .bool N, .bool C, .bool I], .int .i64 v] w
    fun e w' => e = .returned (.agg #[.int .i64 (v % 256), .int .i64 X, .int .i64 S, .int .i64 Pc, .bool (v % 256 == 0), .bool (decide (127 < v % 256)), .bool C, .bool I]) ∧ Below w.heap.size w w' := by
  have e1 := hide (tell_c Z N C I (v % 256))
  have e2 := hide (tell_z Z N C I (v % 256))
  have e4 := hide (tell_i Z N C I (v % 256))
  have e8 := hide (tell_n Z N C I (v % 256))
  go_enter Try.func17, Try.ntmps17
  go_wp2_with fail
  refine (coreOf _ A X S Pc Z N C I).mono ?_
  rintro e w1 ⟨rfl, L1⟩
  have K1 := box_keep (box_new (w.alloc _) _ _) L1 (by simp)
  have M1 := ((((Below.refl _ _).alloc (Nat.le_refl _) _).alloc (by simp) _)).trans (L1.mono (by simp; omega))
  simp only [World.size_alloc] at K1
  generalize flagsOf Z N C I = F at *
  clear L1
  go_wp2_with (first | (go_at_call 22; refine (implByte _ _).mono ?_; rintro e w' ⟨rfl, rfl⟩) | (go_at_call 30; refine (flagsTelling _ _ _ (by omega) (by omega)).mono ?_; rintro e w' ⟨rfl, rfl⟩))
  refine (coreCpu _ _ _ _ _ _).mono ?_
  rintro e w2 ⟨rfl, L2⟩
  have K2 := box_keep (boxA K1 _) L2 (by have := boxLt K1; simp; omega)
  have c2 := boxC K2
  have f2 := boxF K2
  rw [unhide e1, unhide e2, unhide e4, unhide e8]
  go_wp2
  refine bodyPost_ret (v := .agg #[.int .i64 (v % 256), .int .i64 X, .int .i64 S, .int .i64 Pc, .bool (v % 256 == 0), .bool (decide (127 < v % 256)), .bool C, .bool I]) (by simp [results, Try.results17, go_sem, c2]) rfl ?_
  exact ⟨rfl, (M1.trans ((((Below.refl _ _).alloc (Nat.le_refl _) _).trans (L2.mono (by simp))).mono M1.size)).trans ((put8 w2 _ _ _ _ _ _ _ _ _).mono (by omega))⟩
theorem implSetX (w : World) (A X S Pc : Int) (Z N C I : Bool) (v : Int) : Calls Try.prog 19 #[.agg #[.int .i64 A, .int .i64 X, .int .i64 S, .int .i64 Pc, .bool Z, .bool N, .bool C, .bool I], .int .i64 v] w
    fun e w' => e = .returned (.agg #[.int .i64 A, .int .i64 (v % 256), .int .i64 S, .int .i64 Pc, .bool (v % 256 == 0), .bool (decide (127 < v % 256)), .bool C, .bool I]) ∧ Below w.heap.size w w' := by
  have e1 := hide (tell_c Z N C I (v % 256))
  have e2 := hide (tell_z Z N C I (v % 256))
  have e4 := hide (tell_i Z N C I (v % 256))
  have e8 := hide (tell_n Z N C I (v % 256))
  go_enter Try.func19, Try.ntmps19
  go_wp2_with fail
  refine (coreOf _ A X S Pc Z N C I).mono ?_
  rintro e w1 ⟨rfl, L1⟩
  have K1 := box_keep (box_new (w.alloc _) _ _) L1 (by simp)
  have M1 := ((((Below.refl _ _).alloc (Nat.le_refl _) _).alloc (by simp) _)).trans (L1.mono (by simp; omega))
  simp only [World.size_alloc] at K1
  generalize flagsOf Z N C I = F at *
  clear L1
  go_wp2_with (first | (go_at_call 22; refine (implByte _ _).mono ?_; rintro e w' ⟨rfl, rfl⟩) | (go_at_call 30; refine (flagsTelling _ _ _ (by omega) (by omega)).mono ?_; rintro e w' ⟨rfl, rfl⟩))
  refine (coreCpu _ _ _ _ _ _).mono ?_
  rintro e w2 ⟨rfl, L2⟩
  have K2 := box_keep (boxA K1 _) L2 (by have := boxLt K1; simp; omega)
  have c2 := boxC K2
  have f2 := boxF K2
  rw [unhide e1, unhide e2, unhide e4, unhide e8]
  go_wp2
  refine bodyPost_ret (v := .agg #[.int .i64 A, .int .i64 (v % 256), .int .i64 S, .int .i64 Pc, .bool (v % 256 == 0), .bool (decide (127 < v % 256)), .bool C, .bool I]) (by simp [results, Try.results19, go_sem, c2]) rfl ?_
  exact ⟨rfl, (M1.trans ((((Below.refl _ _).alloc (Nat.le_refl _) _).trans (L2.mono (by simp))).mono M1.size)).trans ((put8 w2 _ _ _ _ _ _ _ _ _).mono (by omega))⟩
theorem implWithFlags (w : World) (A X S Pc : Int) (Z N C I : Bool) (v : Int) : Calls Try.prog 14 #[.agg #[.int .i64 A, .int .i64 X, .int .i64 S, .int .i64 Pc, .bool Z, .bool N, .bool C, .bool I], .int .i64 v] w
    fun e w' => e = .returned (.agg #[.int .i64 A, .int .i64 X, .int .i64 S, .int .i64 Pc, .bool (hasB v 2), .bool (hasB v 128), .bool (hasB v 1), .bool (hasB v 4)]) ∧ Below w.heap.size w w' := by
  have e1 : Hid (hasU (v % 256) 1 = hasB v 1) := hide (u8_has v 1 (by omega))
  have e2 : Hid (hasU (v % 256) 2 = hasB v 2) := hide (u8_has v 2 (by omega))
  have e4 : Hid (hasU (v % 256) 4 = hasB v 4) := hide (u8_has v 4 (by omega))
  have e8 : Hid (hasU (v % 256) 128 = hasB v 128) := hide (u8_has v 128 (by omega))
  go_enter Try.func14, Try.ntmps14
  go_wp2_with fail
  refine (coreOf _ A X S Pc Z N C I).mono ?_
  rintro e w1 ⟨rfl, L1⟩
  have K1 := box_keep (box_new (w.alloc _) _ _) L1 (by simp)
  have M1 := ((((Below.refl _ _).alloc (Nat.le_refl _) _).alloc (by simp) _)).trans (L1.mono (by simp; omega))
  simp only [World.size_alloc] at K1
  clear L1
  go_wp2_with (go_at_call 26; refine (flagsIn _ _).mono ?_; rintro e w' ⟨rfl, rfl⟩)
  refine (coreCpu _ _ _ _ _ _).mono ?_
  rintro e w2 ⟨rfl, L2⟩
  have K2 := box_keep (boxA K1 _) L2 (by have := boxLt K1; simp; omega)
  have c2 := boxC K2
  have f2 := boxF K2
  rw [unhide e1, unhide e2, unhide e4, unhide e8]
  go_wp2
  refine bodyPost_ret (v := .agg #[.int .i64 A, .int .i64 X, .int .i64 S, .int .i64 Pc, .bool (hasB v 2), .bool (hasB v 128), .bool (hasB v 1), .bool (hasB v 4)]) (by simp [results, Try.results14, go_sem, c2]) rfl ?_
  exact ⟨rfl, (M1.trans ((((Below.refl _ _).alloc (Nat.le_refl _) _).trans (L2.mono (by simp))).mono M1.size)).trans ((put8 w2 _ _ _ _ _ _ _ _ _).mono (by omega))⟩
end Go.Proofs.Ytpaedkefmebjjal
