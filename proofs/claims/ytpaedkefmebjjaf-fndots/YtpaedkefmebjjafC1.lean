/-
  Contracts of chapter 1: what each function of the bytes' chapter, the program's and the specification's, returns.
-/
import Derived.Test.YtpaedkefmebjjafRows
import Derived.Test.YtpaedkefmebjjafMath
import Derived.WalkKit
import Derived.ProofKit
import Derived.WalkSpells
import Derived.Outline
import Derived.Deep.QuietTactic
import Derived.BigQuiet
namespace Go.Proofs.Ytpaedkefmebjjaf
open Go.ChangeShapes Go.WideShapes Go.ChangeAt Go.RowKit
theorem specByte (x : Int) (w : World) : Calls Try.prog 53 #[.int .i64 x] w fun e w' => e = .returned (.int .i64 (x % 256)) ∧ w' = w := by
  go_enter Try.func53, Try.ntmps53
  go_wp2
  go_ret
  exact ⟨ret_int (i64_and255 x), rfl⟩
theorem implByte (x : Int) (w : World) : Calls Try.prog 23 #[.int .i64 x] w fun e w' => e = .returned (.int .i64 (x % 256)) ∧ w' = w := by
  go_enter Try.func23, Try.ntmps23
  go_wp2
  go_ret
  exact ⟨rfl, rfl⟩
theorem l1Bit (b : Bool) (w : World) : Calls Try.prog 55 #[.bool b] w fun e w' => e = .returned (.int .i64 (bitOf b)) ∧ w' = w := by
  cases b <;> (go_enter Try.func55, Try.ntmps55; go_wp2; go_ret; exact ⟨rfl, rfl⟩)
end Go.Proofs.Ytpaedkefmebjjaf
