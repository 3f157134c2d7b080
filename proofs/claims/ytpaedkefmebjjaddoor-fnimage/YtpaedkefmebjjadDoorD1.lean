/-
  Contracts of chapter 1's draws: each yields integers of 64 bits, and turns nothing that was there.
-/
import Derived.Test.YtpaedkefmebjjadDoorD
namespace Go.Proofs.YtpaedkefmebjjadDoor
open Go.ChangeShapes Go.WideShapes Go.ChangeAt Go.RowKit
def picks1 (j : Nat) : Int := [-1, 256, 65535, 65536, 9223372036854775807, -9223372036854775808, 511].getD j 0
theorem picks1_in (j : Nat) : -9223372036854775808 ≤ picks1 j ∧ picks1 j ≤ 9223372036854775807 := by
  unfold picks1
  rcases j with _ | _ | _ | _ | _ | _ | _ | j <;> simp
theorem lawsBig (w : World) (a : Option Addr) (len cap : Nat) :
    Calls Tryd.prog 4 #[.slice a len cap] w fun e w' => e = .returned (.bool (decide (1048576 < (len : Int)))) ∧ w' = w := by
  go_enter Tryd.func4, Tryd.ntmps4
  go_wp2
  go_ret
  exact ⟨rfl, rfl⟩
end Go.Proofs.YtpaedkefmebjjadDoor
