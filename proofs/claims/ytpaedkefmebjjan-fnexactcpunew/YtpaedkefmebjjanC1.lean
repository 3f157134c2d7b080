/-
  Contracts of chapter 1: what each function of the bytes' chapter, the program's and the specification's, returns.
-/
import Derived.Test.YtpaedkefmebjjanRows
import Derived.Test.YtpaedkefmebjjanMath
import Derived.WalkKit
import Derived.ProofKit
import Derived.WalkSpells
import Derived.Outline
import Derived.Deep.QuietTactic
import Derived.BigQuiet
namespace Go.Proofs.Ytpaedkefmebjjan
open Go.ChangeShapes Go.WideShapes Go.ChangeAt Go.RowKit
theorem specByte (x : Int) (w : World) : Calls Try.prog 24 #[.int .i64 x] w fun e w' => e = .returned (.int .i64 (x % 256)) ∧ w' = w := by
  go_enter Try.func24, Try.ntmps24
  go_wp2
  go_ret
  exact ⟨ret_int (i64_and255 x), rfl⟩
theorem implByte (x : Int) (w : World) : Calls Try.prog 27 #[.int .i64 x] w fun e w' => e = .returned (.int .i64 (x % 256)) ∧ w' = w := by
  go_enter Try.func27, Try.ntmps27
  go_wp2
  go_ret
  exact ⟨rfl, rfl⟩
theorem specAddr (x : Int) (w : World) : Calls Try.prog 68 #[.int .i64 x] w fun e w' => e = .returned (.int .i64 (x % 65536)) ∧ w' = w := by
  go_enter Try.func68, Try.ntmps68
  go_wp2
  go_ret
  exact ⟨ret_int (i64_and65535 x), rfl⟩
theorem l1Bit (b : Bool) (w : World) : Calls Try.prog 50 #[.bool b] w fun e w' => e = .returned (.int .i64 (bitOf b)) ∧ w' = w := by
  cases b <;> (go_enter Try.func50, Try.ntmps50; go_wp2; go_ret; exact ⟨rfl, rfl⟩)
theorem specJoin (a b : Int) (w : World) : Calls Try.prog 34 #[.int .i64 a, .int .i64 b] w fun e w' => e = .returned (.int .i64 (a % 256 + 256 * (b % 256))) ∧ w' = w := by
  go_enter Try.func34, Try.ntmps34
  go_wp2_with (first | (go_at_call 24; refine (specByte _ _).mono ?_; rintro e w' ⟨rfl, rfl⟩))
  go_ret
  exact ⟨ret_int rfl, rfl⟩
theorem implJoin (a b : Int) (w : World) : Calls Try.prog 56 #[.int .i64 a, .int .i64 b] w fun e w' => e = .returned (.int .i64 (a % 256 + 256 * (b % 256))) ∧ w' = w := by
  go_enter Try.func56, Try.ntmps56
  go_wp2
  go_ret
  exact ⟨ret_int (by rw [u16_join _ _ (by omega) (by omega) (by omega) (by omega)]; exact IntWalk.wrap64_in _ (by omega)), rfl⟩
end Go.Proofs.Ytpaedkefmebjjan
