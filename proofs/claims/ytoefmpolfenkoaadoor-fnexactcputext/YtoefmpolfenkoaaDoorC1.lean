/-
  Contracts of chapter 1: what each function of the bytes' chapter, the program's and the specification's, returns.
-/
import Derived.Test.YtoefmpolfenkoaaDoorRows
import Derived.Test.YtoefmpolfenkoaaDoorMath
import Derived.WalkKit
import Derived.ProofKit
import Derived.WalkSpells
import Derived.Outline
import Derived.Deep.QuietTactic
import Derived.BigQuiet
namespace Go.Proofs.YtoefmpolfenkoaaDoor
open Go.ChangeShapes Go.WideShapes Go.ChangeAt Go.RowKit
theorem implByte (x : Int) (w : World) : Calls Tryd.prog 14 #[.int .i64 x] w fun e w' => e = .returned (.int .i64 (x % 256)) ∧ w' = w := by
  go_enter Tryd.func14, Tryd.ntmps14
  go_wp2
  go_ret
  exact ⟨rfl, rfl⟩
theorem implAddr (x : Int) (w : World) : Calls Tryd.prog 15 #[.int .i64 x] w fun e w' => e = .returned (.int .i64 (x % 65536)) ∧ w' = w := by
  go_enter Tryd.func15, Tryd.ntmps15
  go_wp2
  go_ret
  exact ⟨ret_int (by rw [IntKind.wrap_u16]; exact IntWalk.wrap64_in _ (by omega)), rfl⟩
end Go.Proofs.YtoefmpolfenkoaaDoor
