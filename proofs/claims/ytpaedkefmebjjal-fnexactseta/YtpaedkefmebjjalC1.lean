/-
  Contracts of chapter 1: what each function of the bytes' chapter, the program's and the specification's, returns.
-/
import Derived.Test.YtpaedkefmebjjalRows
import Derived.Test.YtpaedkefmebjjalMath
import Derived.WalkKit
import Derived.ProofKit
import Derived.WalkSpells
import Derived.Outline
import Derived.Deep.QuietTactic
import Derived.BigQuiet
namespace Go.Proofs.Ytpaedkefmebjjal
open Go.ChangeShapes Go.WideShapes Go.ChangeAt Go.RowKit
theorem specByte (x : Int) (w : World) : Calls Try.prog 28 #[.int .i64 x] w fun e w' => e = .returned (.int .i64 (x % 256)) ∧ w' = w := by
  go_enter Try.func28, Try.ntmps28
  go_wp2
  go_ret
  exact ⟨ret_int (i64_and255 x), rfl⟩
theorem implByte (x : Int) (w : World) : Calls Try.prog 22 #[.int .i64 x] w fun e w' => e = .returned (.int .i64 (x % 256)) ∧ w' = w := by
  go_enter Try.func22, Try.ntmps22
  go_wp2
  go_ret
  exact ⟨rfl, rfl⟩
theorem implAddr (x : Int) (w : World) : Calls Try.prog 23 #[.int .i64 x] w fun e w' => e = .returned (.int .i64 (x % 65536)) ∧ w' = w := by
  go_enter Try.func23, Try.ntmps23
  go_wp2
  go_ret
  exact ⟨ret_int (by rw [IntKind.wrap_u16]; exact IntWalk.wrap64_in _ (by omega)), rfl⟩
theorem l1Bit (b : Bool) (w : World) : Calls Try.prog 24 #[.bool b] w fun e w' => e = .returned (.int .i64 (bitOf b)) ∧ w' = w := by
  cases b <;> (go_enter Try.func24, Try.ntmps24; go_wp2; go_ret; exact ⟨rfl, rfl⟩)
theorem flagsHas (f n : Int) (w : World) : Calls Try.prog 32 #[.int .u8 f, .int .u8 n] w fun e w' => e = .returned (.bool (bits .and .u8 f n != 0)) ∧ w' = w := by
  go_enter Try.func32, Try.ntmps32
  go_wp2
  go_ret
  exact ⟨rfl, rfl⟩
theorem has_bit (b : Bool) : (bits .and .u8 (bitOf b) 1 != 0) = b := by cases b <;> decide
theorem octSigns (a : Int) (w : World) (a0 : 0 ≤ a) (a1 : a < 256) : Calls Try.prog 33 #[.int .u8 a] w fun e w' => e = .returned (.int .u8 (2 * bitOf (a == 0) + 128 * bitOf (decide (127 < a)))) ∧ w' = w := by
  by_cases h : a = 0
  · subst h
    go_enter Try.func33, Try.ntmps33
    go_wp2
    go_ret
    exact ⟨rfl, rfl⟩
  · have h0 : (a == 0) = false := by simpa using h
    by_cases g : 127 < a
    · go_enter Try.func33, Try.ntmps33
      go_wp2
      go_ret
      exact ⟨ret_int (by rw [h0, decide_eq_true g]; decide), rfl⟩
    · go_enter Try.func33, Try.ntmps33
      go_wp2
      go_ret
      exact ⟨ret_int (by rw [decide_eq_false (by omega)]; decide), rfl⟩
theorem has_z (b c : Bool) : (bits .and .u8 (2 * bitOf b + 128 * bitOf c) 2 != 0) = b := by cases b <;> cases c <;> decide
theorem has_s (b c : Bool) : (bits .and .u8 (2 * bitOf b + 128 * bitOf c) 128 != 0) = c := by cases b <;> cases c <;> decide
theorem specSigns (x : Int) (w : World) : Calls Try.prog 29 #[.int .i64 x] w fun e w' => e = .returned (.tuple #[.bool (x % 256 == 0), .bool (decide (127 < x % 256))]) ∧ w' = w := by
  go_enter Try.func29, Try.ntmps29
  go_wp2_with (first | (go_at_call 28; refine (specByte _ _).mono ?_; rintro e w' ⟨rfl, rfl⟩))
  go_ret2
  exact ⟨ret_pair rfl rfl, rfl⟩
end Go.Proofs.Ytpaedkefmebjjal
