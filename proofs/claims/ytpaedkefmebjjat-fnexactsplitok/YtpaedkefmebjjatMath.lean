/-
  Plain facts on numbers, with no program in sight: masks of 64-bit integers are remainders, complements of bytes.
-/
import Derived.Test.YtpaedkefmebjjatRows
import Derived.WalkKit
import Derived.Laws.BitsLemmas
import Derived.Laws.BitsAllLaws
import Derived.ProofKit
import Derived.WalkSpells
import Derived.Outline
import Derived.Deep.QuietTactic
import Derived.BigQuiet
namespace Go.Proofs.Ytpaedkefmebjjat
theorem ret_int {k : IntKind} {a b : Int} (h : a = b) : Ending.returned (.int k a) = .returned (.int k b) := by rw [h]
theorem ret_bool {a b : Bool} (h : a = b) : Ending.returned (.bool a) = .returned (.bool b) := by rw [h]
end Go.Proofs.Ytpaedkefmebjjat
namespace Go.Proofs.Ytpaedkefmebjjat
open Go.ChangeShapes Go.WideShapes Go.ChangeAt Go.RowKit
theorem implByte (x : Int) (w : World) : Calls Try.prog 71 #[.int .i64 x] w fun e w' => e = .returned (.int .i64 (x % 256)) ∧ w' = w := by
  go_enter Try.func71, Try.ntmps71
  go_wp2
  go_ret
  exact ⟨rfl, rfl⟩
theorem implAddr (x : Int) (w : World) : Calls Try.prog 72 #[.int .i64 x] w fun e w' => e = .returned (.int .i64 (x % 65536)) ∧ w' = w := by
  go_enter Try.func72, Try.ntmps72
  go_wp2
  go_ret
  exact ⟨ret_int (by rw [IntKind.wrap_u16]; exact IntWalk.wrap64_in _ (by omega)), rfl⟩
end Go.Proofs.Ytpaedkefmebjjat
