/-
  Contracts of chapter 1: what each function of the bytes' chapter, the program's and the specification's, returns.
-/
import Derived.Test.YtpaedkefmebjjaeRows
import Derived.Test.YtpaedkefmebjjaeMath
import Derived.WalkKit
import Derived.ProofKit
import Derived.WalkSpells
import Derived.Outline
import Derived.Deep.QuietTactic
import Derived.BigQuiet
namespace Go.Proofs.Ytpaedkefmebjjae
open Go.ChangeShapes Go.WideShapes Go.ChangeAt Go.RowKit
theorem specByte (x : Int) (w : World) : Calls Try.prog 46 #[.int .i64 x] w fun e w' => e = .returned (.int .i64 (x % 256)) ∧ w' = w := by
  go_enter Try.func46, Try.ntmps46
  go_wp2
  go_ret
  exact ⟨ret_int (i64_and255 x), rfl⟩
theorem implByte (x : Int) (w : World) : Calls Try.prog 16 #[.int .i64 x] w fun e w' => e = .returned (.int .i64 (x % 256)) ∧ w' = w := by
  go_enter Try.func16, Try.ntmps16
  go_wp2
  go_ret
  exact ⟨rfl, rfl⟩
theorem specAddr (x : Int) (w : World) : Calls Try.prog 55 #[.int .i64 x] w fun e w' => e = .returned (.int .i64 (x % 65536)) ∧ w' = w := by
  go_enter Try.func55, Try.ntmps55
  go_wp2
  go_ret
  exact ⟨ret_int (i64_and65535 x), rfl⟩
theorem implAddr (x : Int) (w : World) : Calls Try.prog 34 #[.int .i64 x] w fun e w' => e = .returned (.int .i64 (x % 65536)) ∧ w' = w := by
  go_enter Try.func34, Try.ntmps34
  go_wp2
  go_ret
  exact ⟨ret_int (by rw [IntKind.wrap_u16]; exact IntWalk.wrap64_in _ (by omega)), rfl⟩
theorem flagsHas (f n : Int) (w : World) : Calls Try.prog 59 #[.int .u8 f, .int .u8 n] w fun e w' => e = .returned (.bool (bits .and .u8 f n != 0)) ∧ w' = w := by
  go_enter Try.func59, Try.ntmps59
  go_wp2
  go_ret
  exact ⟨rfl, rfl⟩
theorem has_bit (b : Bool) : (bits .and .u8 (bitOf b) 1 != 0) = b := by cases b <;> decide
theorem octSigns (a : Int) (w : World) (a0 : 0 ≤ a) (a1 : a < 256) : Calls Try.prog 60 #[.int .u8 a] w fun e w' => e = .returned (.int .u8 (2 * bitOf (a == 0) + 128 * bitOf (decide (127 < a)))) ∧ w' = w := by
  by_cases h : a = 0
  · subst h
    go_enter Try.func60, Try.ntmps60
    go_wp2
    go_ret
    exact ⟨rfl, rfl⟩
  · have h0 : (a == 0) = false := by simpa using h
    by_cases g : 127 < a
    · go_enter Try.func60, Try.ntmps60
      go_wp2
      go_ret
      exact ⟨ret_int (by rw [h0, decide_eq_true g]; decide), rfl⟩
    · go_enter Try.func60, Try.ntmps60
      go_wp2
      go_ret
      exact ⟨ret_int (by rw [decide_eq_false (by omega)]; decide), rfl⟩
theorem has_z (b c : Bool) : (bits .and .u8 (2 * bitOf b + 128 * bitOf c) 2 != 0) = b := by cases b <;> cases c <;> decide
theorem has_s (b c : Bool) : (bits .and .u8 (2 * bitOf b + 128 * bitOf c) 128 != 0) = c := by cases b <;> cases c <;> decide
end Go.Proofs.Ytpaedkefmebjjae
