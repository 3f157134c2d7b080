/-
  Contracts of chapter 1's draws: each yields integers of 64 bits, and turns nothing that was there.
-/
import Derived.Test.YteefbbnkfclllaaDoorD
namespace Go.Proofs.YteefbbnkfclllaaDoor
open Go.ChangeShapes Go.WideShapes Go.ChangeAt Go.RowKit
def picks1 (j : Nat) : Int := [-1, 256, 65535, 65536, 9223372036854775807, -9223372036854775808, 511].getD j 0
theorem picks1_in (j : Nat) : -9223372036854775808 ≤ picks1 j ∧ picks1 j ≤ 9223372036854775807 := by
  unfold picks1
  rcases j with _ | _ | _ | _ | _ | _ | _ | j <;> simp
theorem l1DrawInt (w : World) (B c : Nat) (a : Option Addr) (len cap : Nat) (H : Cur w B c a len cap) (hcw : c < w.heap.size) :
    Calls Tryd.prog 42 #[.pointer (some ⟨c, 0, none⟩)] w fun e w' => ∃ x : Int, e = .returned (.int .i64 x) ∧ -9223372036854775808 ≤ x ∧ x ≤ 9223372036854775807 ∧ Cur w' B c a len cap ∧ Step c w w' := by
  go_enter Tryd.func42, Tryd.ntmps42
  go_wp2_with fail
  refine (l1Once _ B c a len cap H 9).mono ?_
  rintro e w1 ⟨x, rfl, H1, O1⟩
  have hs : c < w1.heap.size := by rw [O1.size]; exact hcw
  cases x
  · go_wp2_with fail
    refine (l1Below _ B c a len cap H1 256).mono ?_
    rintro e w2 ⟨y, rfl, y0, y1, H2, O2⟩
    go_wp2
    go_ret
    exact ⟨y, rfl, by omega, by omega, H2, O1.step.trans O2.step⟩
  · go_wp2_with fail
    refine (l1PickInt _ B c a len cap (H1.alloc _ hs) w1.heap.size 7 (by omega) (by omega) (by omega) picks1 ?_).mono ?_
    · intro j hj
      rw [World.cell?_alloc_new]
      rcases j with _ | _ | _ | _ | _ | _ | _ | j
      · rfl
      · rfl
      · rfl
      · rfl
      · rfl
      · rfl
      · rfl
      · omega
    · rintro e w2 ⟨j, rfl, hj, H2, O2⟩
      have hp := picks1_in j
      go_wp2
      go_ret
      exact ⟨picks1 j, rfl, hp.1, hp.2, H2, (O1.step.alloc _).trans O2.step⟩
theorem lawsBig (w : World) (a : Option Addr) (len cap : Nat) :
    Calls Tryd.prog 4 #[.slice a len cap] w fun e w' => e = .returned (.bool (decide (1048576 < (len : Int)))) ∧ w' = w := by
  go_enter Tryd.func4, Tryd.ntmps4
  go_wp2
  go_ret
  exact ⟨rfl, rfl⟩
end Go.Proofs.YteefbbnkfclllaaDoor
