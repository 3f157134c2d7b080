/-
  Contracts of chapter 1: what each function of the bytes' chapter, the program's and the specification's, returns.
-/
import Derived.Test.YtpaedkefmebjjaiRows
import Derived.Test.YtpaedkefmebjjaiMath
import Derived.WalkKit
import Derived.ProofKit
import Derived.WalkSpells
import Derived.Outline
import Derived.Deep.QuietTactic
import Derived.BigQuiet
namespace Go.Proofs.Ytpaedkefmebjjai
open Go.ChangeShapes Go.WideShapes Go.ChangeAt Go.RowKit
theorem specByte (x : Int) (w : World) : Calls Try.prog 8 #[.int .i64 x] w fun e w' => e = .returned (.int .i64 (x % 256)) ∧ w' = w := by
  go_enter Try.func8, Try.ntmps8
  go_wp2
  go_ret
  exact ⟨ret_int (i64_and255 x), rfl⟩
theorem implByte (x : Int) (w : World) : Calls Try.prog 9 #[.int .i64 x] w fun e w' => e = .returned (.int .i64 (x % 256)) ∧ w' = w := by
  go_enter Try.func9, Try.ntmps9
  go_wp2
  go_ret
  exact ⟨rfl, rfl⟩
theorem specAddr (x : Int) (w : World) : Calls Try.prog 10 #[.int .i64 x] w fun e w' => e = .returned (.int .i64 (x % 65536)) ∧ w' = w := by
  go_enter Try.func10, Try.ntmps10
  go_wp2
  go_ret
  exact ⟨ret_int (i64_and65535 x), rfl⟩
theorem implAddr (x : Int) (w : World) : Calls Try.prog 11 #[.int .i64 x] w fun e w' => e = .returned (.int .i64 (x % 65536)) ∧ w' = w := by
  go_enter Try.func11, Try.ntmps11
  go_wp2
  go_ret
  exact ⟨ret_int (by rw [IntKind.wrap_u16]; exact IntWalk.wrap64_in _ (by omega)), rfl⟩
theorem l1Bit (b : Bool) (w : World) : Calls Try.prog 18 #[.bool b] w fun e w' => e = .returned (.int .i64 (bitOf b)) ∧ w' = w := by
  cases b <;> (go_enter Try.func18, Try.ntmps18; go_wp2; go_ret; exact ⟨rfl, rfl⟩)
theorem specAdd8 (a b : Int) (c : Bool) (w : World) : Calls Try.prog 12 #[.int .i64 a, .int .i64 b, .bool c] w fun e w' => e = .returned (.tuple #[.int .i64 ((a % 256 + b % 256 + bitOf c) % 256), .bool (decide (255 < a % 256 + b % 256 + bitOf c))]) ∧ w' = w := by
  have hc : 0 ≤ bitOf c ∧ bitOf c ≤ 1 := by cases c <;> simp [bitOf]
  go_enter Try.func12, Try.ntmps12
  go_wp2_with (first | (go_at_call 8; refine (specByte _ _).mono ?_; rintro e w' ⟨rfl, rfl⟩) | (go_at_call 18; refine (l1Bit _ _).mono ?_; rintro e w' ⟨rfl, rfl⟩))
  go_ret2
  exact ⟨ret_pair rfl rfl, rfl⟩
theorem specSub8 (a b : Int) (c : Bool) (w : World) : Calls Try.prog 14 #[.int .i64 a, .int .i64 b, .bool c] w fun e w' => e = .returned (.tuple #[.int .i64 ((a % 256 - b % 256 - 1 + bitOf c) % 256), .bool (decide (0 ≤ a % 256 - b % 256 - 1 + bitOf c))]) ∧ w' = w := by
  have hc : 0 ≤ bitOf c ∧ bitOf c ≤ 1 := by cases c <;> simp [bitOf]
  go_enter Try.func14, Try.ntmps14
  go_wp2_with (first | (go_at_call 8; refine (specByte _ _).mono ?_; rintro e w' ⟨rfl, rfl⟩) | (go_at_call 18; refine (l1Bit _ _).mono ?_; rintro e w' ⟨rfl, rfl⟩))
  go_ret2
  exact ⟨ret_pair rfl rfl, rfl⟩
theorem octPlus (a b : Int) (c : Bool) (w : World) (a0 : 0 ≤ a) (a1 : a < 256) (b0 : 0 ≤ b) (b1 : b < 256) : Calls Try.prog 19 #[.int .u8 a, .int .u8 b, .bool c] w fun e w' => e = .returned (.tuple #[.int .u8 ((a + b + bitOf c) % 256), .int .u8 (bitOf (decide (255 < a + b + bitOf c)))]) ∧ w' = w := by
  cases c
  · by_cases h : 255 < a + b
    · go_enter Try.func19, Try.ntmps19
      go_wp2
      go_ret2
      exact ⟨ret_pair (congrArg (Value.int .u8) (by simp only [bitOf]; simp; try omega)) (by simp [bitOf, h]), rfl⟩
    · go_enter Try.func19, Try.ntmps19
      go_wp2
      go_ret2
      exact ⟨ret_pair (congrArg (Value.int .u8) (by simp only [bitOf]; simp; try omega)) (by simp [bitOf, h]), rfl⟩
  · by_cases h : 255 < a + b + 1
    · go_enter Try.func19, Try.ntmps19
      go_wp2
      go_ret2
      exact ⟨ret_pair (congrArg (Value.int .u8) (by simp only [bitOf]; simp; try omega)) (by simp [bitOf, h]), rfl⟩
    · go_enter Try.func19, Try.ntmps19
      go_wp2
      go_ret2
      exact ⟨ret_pair (congrArg (Value.int .u8) (by simp only [bitOf]; simp; try omega)) (by simp [bitOf, h]), rfl⟩
theorem flagsHas (f n : Int) (w : World) : Calls Try.prog 20 #[.int .u8 f, .int .u8 n] w fun e w' => e = .returned (.bool (bits .and .u8 f n != 0)) ∧ w' = w := by
  go_enter Try.func20, Try.ntmps20
  go_wp2
  go_ret
  exact ⟨rfl, rfl⟩
theorem has_bit (b : Bool) : (bits .and .u8 (bitOf b) 1 != 0) = b := by cases b <;> decide
theorem implAdd8 (a b : Int) (c : Bool) (w : World) : Calls Try.prog 13 #[.int .i64 a, .int .i64 b, .bool c] w fun e w' => e = .returned (.tuple #[.int .i64 ((a % 256 + b % 256 + bitOf c) % 256), .bool (decide (255 < a % 256 + b % 256 + bitOf c))]) ∧ w' = w := by
  have hc : 0 ≤ bitOf c ∧ bitOf c ≤ 1 := by cases c <;> simp [bitOf]
  go_enter Try.func13, Try.ntmps13
  go_wp2_with (first | (go_at_call 19; refine (octPlus _ _ _ _ (by omega) (by omega) (by omega) (by omega)).mono ?_; rintro e w' ⟨rfl, rfl⟩) | (go_at_call 20; refine (flagsHas _ _ _).mono ?_; rintro e w' ⟨rfl, rfl⟩))
  go_ret2
  exact ⟨ret_pair rfl (congrArg Value.bool (has_bit _)), rfl⟩
theorem octMinus (a b : Int) (c : Bool) (w : World) (a0 : 0 ≤ a) (a1 : a < 256) (b0 : 0 ≤ b) (b1 : b < 256) : Calls Try.prog 21 #[.int .u8 a, .int .u8 b, .bool c] w fun e w' => e = .returned (.tuple #[.int .u8 ((a - b - 1 + bitOf c) % 256), .int .u8 (bitOf (decide (0 ≤ a - b - 1 + bitOf c)))]) ∧ w' = w := by
  have hc : 0 ≤ bitOf c ∧ bitOf c ≤ 1 := by cases c <;> simp [bitOf]
  have hs : IntKind.u8.signed = false := rfl
  have hn := u8_not b b0 b1
  go_enter Try.func21, Try.ntmps21
  go_wp2_with (go_at_call 19; refine (octPlus _ _ _ _ (by omega) (by omega) (by omega) (by omega)).mono ?_; rintro e w' ⟨rfl, rfl⟩)
  go_ret2
  exact ⟨ret_pair (congrArg (Value.int .u8) (by rw [show a + (255 - b) + bitOf c = (a - b - 1 + bitOf c) + 256 from by omega, Int.add_emod_right])) (congrArg (fun x => Value.int .u8 (bitOf x)) (decide_eq_decide.2 (by omega))), rfl⟩
theorem implSub8 (a b : Int) (c : Bool) (w : World) : Calls Try.prog 15 #[.int .i64 a, .int .i64 b, .bool c] w fun e w' => e = .returned (.tuple #[.int .i64 ((a % 256 - b % 256 - 1 + bitOf c) % 256), .bool (decide (0 ≤ a % 256 - b % 256 - 1 + bitOf c))]) ∧ w' = w := by
  have hc : 0 ≤ bitOf c ∧ bitOf c ≤ 1 := by cases c <;> simp [bitOf]
  go_enter Try.func15, Try.ntmps15
  go_wp2_with (first | (go_at_call 21; refine (octMinus _ _ _ _ (by omega) (by omega) (by omega) (by omega)).mono ?_; rintro e w' ⟨rfl, rfl⟩) | (go_at_call 20; refine (flagsHas _ _ _).mono ?_; rintro e w' ⟨rfl, rfl⟩))
  go_ret2
  exact ⟨ret_pair rfl (congrArg Value.bool (has_bit _)), rfl⟩
theorem octSigns (a : Int) (w : World) (a0 : 0 ≤ a) (a1 : a < 256) : Calls Try.prog 22 #[.int .u8 a] w fun e w' => e = .returned (.int .u8 (2 * bitOf (a == 0) + 128 * bitOf (decide (127 < a)))) ∧ w' = w := by
  by_cases h : a = 0
  · subst h
    go_enter Try.func22, Try.ntmps22
    go_wp2
    go_ret
    exact ⟨rfl, rfl⟩
  · have h0 : (a == 0) = false := by simpa using h
    by_cases g : 127 < a
    · go_enter Try.func22, Try.ntmps22
      go_wp2
      go_ret
      exact ⟨ret_int (by rw [h0, decide_eq_true g]; decide), rfl⟩
    · go_enter Try.func22, Try.ntmps22
      go_wp2
      go_ret
      exact ⟨ret_int (by rw [decide_eq_false (by omega)]; decide), rfl⟩
theorem has_z (b c : Bool) : (bits .and .u8 (2 * bitOf b + 128 * bitOf c) 2 != 0) = b := by cases b <;> cases c <;> decide
theorem has_s (b c : Bool) : (bits .and .u8 (2 * bitOf b + 128 * bitOf c) 128 != 0) = c := by cases b <;> cases c <;> decide
theorem implSigns (x : Int) (w : World) : Calls Try.prog 17 #[.int .i64 x] w fun e w' => e = .returned (.tuple #[.bool (x % 256 == 0), .bool (decide (127 < x % 256))]) ∧ w' = w := by
  go_enter Try.func17, Try.ntmps17
  go_wp2_with (first | (go_at_call 22; refine (octSigns _ _ (by omega) (by omega)).mono ?_; rintro e w' ⟨rfl, rfl⟩) | (go_at_call 20; refine (flagsHas _ _ _).mono ?_; rintro e w' ⟨rfl, rfl⟩))
  go_ret2
  exact ⟨ret_pair (congrArg Value.bool (has_z _ _)) (congrArg Value.bool (has_s _ _)), rfl⟩
theorem specSigns (x : Int) (w : World) : Calls Try.prog 16 #[.int .i64 x] w fun e w' => e = .returned (.tuple #[.bool (x % 256 == 0), .bool (decide (127 < x % 256))]) ∧ w' = w := by
  go_enter Try.func16, Try.ntmps16
  go_wp2_with (first | (go_at_call 8; refine (specByte _ _).mono ?_; rintro e w' ⟨rfl, rfl⟩))
  go_ret2
  exact ⟨ret_pair rfl rfl, rfl⟩
end Go.Proofs.Ytpaedkefmebjjai
