/-
  Contracts of chapter 1: what each function of the bytes' chapter, the program's and the specification's, returns.
-/
import Derived.Test.YtpaedkefmebjjanDoorRows
import Derived.Test.YtpaedkefmebjjanDoorMath
import Derived.WalkKit
import Derived.ProofKit
import Derived.WalkSpells
import Derived.Outline
import Derived.Deep.QuietTactic
import Derived.BigQuiet
namespace Go.Proofs.YtpaedkefmebjjanDoor
open Go.ChangeShapes Go.WideShapes Go.ChangeAt Go.RowKit
theorem specByte (x : Int) (w : World) : Calls Tryd.prog 38 #[.int .i64 x] w fun e w' => e = .returned (.int .i64 (x % 256)) ∧ w' = w := by
  go_enter Tryd.func38, Tryd.ntmps38
  go_wp2
  go_ret
  exact ⟨ret_int (i64_and255 x), rfl⟩
theorem implByte (x : Int) (w : World) : Calls Tryd.prog 40 #[.int .i64 x] w fun e w' => e = .returned (.int .i64 (x % 256)) ∧ w' = w := by
  go_enter Tryd.func40, Tryd.ntmps40
  go_wp2
  go_ret
  exact ⟨rfl, rfl⟩
theorem specAddr (x : Int) (w : World) : Calls Tryd.prog 37 #[.int .i64 x] w fun e w' => e = .returned (.int .i64 (x % 65536)) ∧ w' = w := by
  go_enter Tryd.func37, Tryd.ntmps37
  go_wp2
  go_ret
  exact ⟨ret_int (i64_and65535 x), rfl⟩
theorem implAddr (x : Int) (w : World) : Calls Tryd.prog 50 #[.int .i64 x] w fun e w' => e = .returned (.int .i64 (x % 65536)) ∧ w' = w := by
  go_enter Tryd.func50, Tryd.ntmps50
  go_wp2
  go_ret
  exact ⟨ret_int (by rw [IntKind.wrap_u16]; exact IntWalk.wrap64_in _ (by omega)), rfl⟩
theorem l1Bit (b : Bool) (w : World) : Calls Tryd.prog 102 #[.bool b] w fun e w' => e = .returned (.int .i64 (bitOf b)) ∧ w' = w := by
  cases b <;> (go_enter Tryd.func102, Tryd.ntmps102; go_wp2; go_ret; exact ⟨rfl, rfl⟩)
theorem specAdd8 (a b : Int) (c : Bool) (w : World) : Calls Tryd.prog 101 #[.int .i64 a, .int .i64 b, .bool c] w fun e w' => e = .returned (.tuple #[.int .i64 ((a % 256 + b % 256 + bitOf c) % 256), .bool (decide (255 < a % 256 + b % 256 + bitOf c))]) ∧ w' = w := by
  have hc : 0 ≤ bitOf c ∧ bitOf c ≤ 1 := by cases c <;> simp [bitOf]
  go_enter Tryd.func101, Tryd.ntmps101
  go_wp2_with (first | (go_at_call 38; refine (specByte _ _).mono ?_; rintro e w' ⟨rfl, rfl⟩) | (go_at_call 102; refine (l1Bit _ _).mono ?_; rintro e w' ⟨rfl, rfl⟩))
  go_ret2
  exact ⟨ret_pair rfl rfl, rfl⟩
theorem specSub8 (a b : Int) (c : Bool) (w : World) : Calls Tryd.prog 64 #[.int .i64 a, .int .i64 b, .bool c] w fun e w' => e = .returned (.tuple #[.int .i64 ((a % 256 - b % 256 - 1 + bitOf c) % 256), .bool (decide (0 ≤ a % 256 - b % 256 - 1 + bitOf c))]) ∧ w' = w := by
  have hc : 0 ≤ bitOf c ∧ bitOf c ≤ 1 := by cases c <;> simp [bitOf]
  go_enter Tryd.func64, Tryd.ntmps64
  go_wp2_with (first | (go_at_call 38; refine (specByte _ _).mono ?_; rintro e w' ⟨rfl, rfl⟩) | (go_at_call 102; refine (l1Bit _ _).mono ?_; rintro e w' ⟨rfl, rfl⟩))
  go_ret2
  exact ⟨ret_pair rfl rfl, rfl⟩
theorem octPlus (a b : Int) (c : Bool) (w : World) (a0 : 0 ≤ a) (a1 : a < 256) (b0 : 0 ≤ b) (b1 : b < 256) : Calls Tryd.prog 118 #[.int .u8 a, .int .u8 b, .bool c] w fun e w' => e = .returned (.tuple #[.int .u8 ((a + b + bitOf c) % 256), .int .u8 (bitOf (decide (255 < a + b + bitOf c)))]) ∧ w' = w := by
  cases c
  · by_cases h : 255 < a + b
    · go_enter Tryd.func118, Tryd.ntmps118
      go_wp2
      go_ret2
      exact ⟨ret_pair (congrArg (Value.int .u8) (by simp only [bitOf]; simp; try omega)) (by simp [bitOf, h]), rfl⟩
    · go_enter Tryd.func118, Tryd.ntmps118
      go_wp2
      go_ret2
      exact ⟨ret_pair (congrArg (Value.int .u8) (by simp only [bitOf]; simp; try omega)) (by simp [bitOf, h]), rfl⟩
  · by_cases h : 255 < a + b + 1
    · go_enter Tryd.func118, Tryd.ntmps118
      go_wp2
      go_ret2
      exact ⟨ret_pair (congrArg (Value.int .u8) (by simp only [bitOf]; simp; try omega)) (by simp [bitOf, h]), rfl⟩
    · go_enter Tryd.func118, Tryd.ntmps118
      go_wp2
      go_ret2
      exact ⟨ret_pair (congrArg (Value.int .u8) (by simp only [bitOf]; simp; try omega)) (by simp [bitOf, h]), rfl⟩
theorem flagsHas (f n : Int) (w : World) : Calls Tryd.prog 119 #[.int .u8 f, .int .u8 n] w fun e w' => e = .returned (.bool (bits .and .u8 f n != 0)) ∧ w' = w := by
  go_enter Tryd.func119, Tryd.ntmps119
  go_wp2
  go_ret
  exact ⟨rfl, rfl⟩
theorem has_bit (b : Bool) : (bits .and .u8 (bitOf b) 1 != 0) = b := by cases b <;> decide
theorem implAdd8 (a b : Int) (c : Bool) (w : World) : Calls Tryd.prog 105 #[.int .i64 a, .int .i64 b, .bool c] w fun e w' => e = .returned (.tuple #[.int .i64 ((a % 256 + b % 256 + bitOf c) % 256), .bool (decide (255 < a % 256 + b % 256 + bitOf c))]) ∧ w' = w := by
  have hc : 0 ≤ bitOf c ∧ bitOf c ≤ 1 := by cases c <;> simp [bitOf]
  go_enter Tryd.func105, Tryd.ntmps105
  go_wp2_with (first | (go_at_call 118; refine (octPlus _ _ _ _ (by omega) (by omega) (by omega) (by omega)).mono ?_; rintro e w' ⟨rfl, rfl⟩) | (go_at_call 119; refine (flagsHas _ _ _).mono ?_; rintro e w' ⟨rfl, rfl⟩))
  go_ret2
  exact ⟨ret_pair rfl (congrArg Value.bool (has_bit _)), rfl⟩
theorem octMinus (a b : Int) (c : Bool) (w : World) (a0 : 0 ≤ a) (a1 : a < 256) (b0 : 0 ≤ b) (b1 : b < 256) : Calls Tryd.prog 120 #[.int .u8 a, .int .u8 b, .bool c] w fun e w' => e = .returned (.tuple #[.int .u8 ((a - b - 1 + bitOf c) % 256), .int .u8 (bitOf (decide (0 ≤ a - b - 1 + bitOf c)))]) ∧ w' = w := by
  have hc : 0 ≤ bitOf c ∧ bitOf c ≤ 1 := by cases c <;> simp [bitOf]
  have hs : IntKind.u8.signed = false := rfl
  have hn := u8_not b b0 b1
  go_enter Tryd.func120, Tryd.ntmps120
  go_wp2_with (go_at_call 118; refine (octPlus _ _ _ _ (by omega) (by omega) (by omega) (by omega)).mono ?_; rintro e w' ⟨rfl, rfl⟩)
  go_ret2
  exact ⟨ret_pair (congrArg (Value.int .u8) (by rw [show a + (255 - b) + bitOf c = (a - b - 1 + bitOf c) + 256 from by omega, Int.add_emod_right])) (congrArg (fun x => Value.int .u8 (bitOf x)) (decide_eq_decide.2 (by omega))), rfl⟩
theorem implSub8 (a b : Int) (c : Bool) (w : World) : Calls Tryd.prog 106 #[.int .i64 a, .int .i64 b, .bool c] w fun e w' => e = .returned (.tuple #[.int .i64 ((a % 256 - b % 256 - 1 + bitOf c) % 256), .bool (decide (0 ≤ a % 256 - b % 256 - 1 + bitOf c))]) ∧ w' = w := by
  have hc : 0 ≤ bitOf c ∧ bitOf c ≤ 1 := by cases c <;> simp [bitOf]
  go_enter Tryd.func106, Tryd.ntmps106
  go_wp2_with (first | (go_at_call 120; refine (octMinus _ _ _ _ (by omega) (by omega) (by omega) (by omega)).mono ?_; rintro e w' ⟨rfl, rfl⟩) | (go_at_call 119; refine (flagsHas _ _ _).mono ?_; rintro e w' ⟨rfl, rfl⟩))
  go_ret2
  exact ⟨ret_pair rfl (congrArg Value.bool (has_bit _)), rfl⟩
theorem octSigns (a : Int) (w : World) (a0 : 0 ≤ a) (a1 : a < 256) : Calls Tryd.prog 121 #[.int .u8 a] w fun e w' => e = .returned (.int .u8 (2 * bitOf (a == 0) + 128 * bitOf (decide (127 < a)))) ∧ w' = w := by
  by_cases h : a = 0
  · subst h
    go_enter Tryd.func121, Tryd.ntmps121
    go_wp2
    go_ret
    exact ⟨rfl, rfl⟩
  · have h0 : (a == 0) = false := by simpa using h
    by_cases g : 127 < a
    · go_enter Tryd.func121, Tryd.ntmps121
      go_wp2
      go_ret
      exact ⟨ret_int (by rw [h0, decide_eq_true g]; decide), rfl⟩
    · go_enter Tryd.func121, Tryd.ntmps121
      go_wp2
      go_ret
      exact ⟨ret_int (by rw [decide_eq_false (by omega)]; decide), rfl⟩
theorem has_z (b c : Bool) : (bits .and .u8 (2 * bitOf b + 128 * bitOf c) 2 != 0) = b := by cases b <;> cases c <;> decide
theorem has_s (b c : Bool) : (bits .and .u8 (2 * bitOf b + 128 * bitOf c) 128 != 0) = c := by cases b <;> cases c <;> decide
theorem implSigns (x : Int) (w : World) : Calls Tryd.prog 107 #[.int .i64 x] w fun e w' => e = .returned (.tuple #[.bool (x % 256 == 0), .bool (decide (127 < x % 256))]) ∧ w' = w := by
  go_enter Tryd.func107, Tryd.ntmps107
  go_wp2_with (first | (go_at_call 121; refine (octSigns _ _ (by omega) (by omega)).mono ?_; rintro e w' ⟨rfl, rfl⟩) | (go_at_call 119; refine (flagsHas _ _ _).mono ?_; rintro e w' ⟨rfl, rfl⟩))
  go_ret2
  exact ⟨ret_pair (congrArg Value.bool (has_z _ _)) (congrArg Value.bool (has_s _ _)), rfl⟩
theorem specSigns (x : Int) (w : World) : Calls Tryd.prog 65 #[.int .i64 x] w fun e w' => e = .returned (.tuple #[.bool (x % 256 == 0), .bool (decide (127 < x % 256))]) ∧ w' = w := by
  go_enter Tryd.func65, Tryd.ntmps65
  go_wp2_with (first | (go_at_call 38; refine (specByte _ _).mono ?_; rintro e w' ⟨rfl, rfl⟩))
  go_ret2
  exact ⟨ret_pair rfl rfl, rfl⟩
theorem specJoin (a b : Int) (w : World) : Calls Tryd.prog 28 #[.int .i64 a, .int .i64 b] w fun e w' => e = .returned (.int .i64 (a % 256 + 256 * (b % 256))) ∧ w' = w := by
  go_enter Tryd.func28, Tryd.ntmps28
  go_wp2_with (first | (go_at_call 38; refine (specByte _ _).mono ?_; rintro e w' ⟨rfl, rfl⟩))
  go_ret
  exact ⟨ret_int rfl, rfl⟩
theorem implJoin (a b : Int) (w : World) : Calls Tryd.prog 33 #[.int .i64 a, .int .i64 b] w fun e w' => e = .returned (.int .i64 (a % 256 + 256 * (b % 256))) ∧ w' = w := by
  go_enter Tryd.func33, Tryd.ntmps33
  go_wp2
  go_ret
  exact ⟨ret_int (by rw [u16_join _ _ (by omega) (by omega) (by omega) (by omega)]; exact IntWalk.wrap64_in _ (by omega)), rfl⟩
end Go.Proofs.YtpaedkefmebjjanDoor
