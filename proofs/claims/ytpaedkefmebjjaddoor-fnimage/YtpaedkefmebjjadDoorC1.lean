/-
  Contracts of chapter 1: what each function of the bytes' chapter, the program's and the specification's, returns.
-/
import Derived.Test.YtpaedkefmebjjadDoorRows
import Derived.Test.YtpaedkefmebjjadDoorMath
import Derived.WalkKit
import Derived.ProofKit
import Derived.WalkSpells
import Derived.Outline
import Derived.Deep.QuietTactic
import Derived.BigQuiet
namespace Go.Proofs.YtpaedkefmebjjadDoor
open Go.ChangeShapes Go.WideShapes Go.ChangeAt Go.RowKit
theorem specByte (x : Int) (w : World) : Calls Tryd.prog 29 #[.int .i64 x] w fun e w' => e = .returned (.int .i64 (x % 256)) ∧ w' = w := by
  go_enter Tryd.func29, Tryd.ntmps29
  go_wp2
  go_ret
  exact ⟨ret_int (i64_and255 x), rfl⟩
theorem implByte (x : Int) (w : World) : Calls Tryd.prog 51 #[.int .i64 x] w fun e w' => e = .returned (.int .i64 (x % 256)) ∧ w' = w := by
  go_enter Tryd.func51, Tryd.ntmps51
  go_wp2
  go_ret
  exact ⟨rfl, rfl⟩
end Go.Proofs.YtpaedkefmebjjadDoor
