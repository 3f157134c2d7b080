/-
  Chapter 9's draws: times of whatever value; they turn nothing that was there but the cursor.
-/
import Derived.Test.YtpaedkefmebjjagD1
import Derived.Test.YtpaedkefmebjjagS2
namespace Go.Proofs.Ytpaedkefmebjjag
set_option linter.unusedVariables false
open Go.ChangeShapes Go.WideShapes Go.ChangeAt Go.RowKit
def pick9 (j : Nat) : Int := [-1, 20000, 20005, -9223372036854775807, 9223372036854775807].getD j 0
theorem pick9_in (j : Nat) : -9223372036854775807 ≤ pick9 j ∧ pick9 j ≤ 9223372036854775807 := by
  unfold pick9
  rcases j with _ | _ | _ | _ | _ | j <;> simp
theorem l9DrawTime (w : World) (B c : Nat) (a : Option Addr) (len cap : Nat) (H : Cur w B c a len cap) (hcw : c < w.heap.size) :
    Calls Try.prog 52 #[.pointer (some ⟨c, 0, none⟩)] w fun e w' => ∃ x : Int, e = .returned (.int .i64 x) ∧ -9223372036854775807 ≤ x ∧ x ≤ 9223372036854775807 ∧ Cur w' B c a len cap ∧ Step c w w' := by
  go_enter Try.func52, Try.ntmps52
  go_wp2_with fail
  refine (l1Once _ B c a len cap H 12).mono ?_
  rintro e w1 ⟨x, rfl, H1, O1⟩
  have hs : c < w1.heap.size := by rw [O1.size]; exact hcw
  cases x
  · go_wp2_with fail
    refine (l1Below _ B c a len cap H1 250).mono ?_
    rintro e w2 ⟨y, rfl, y0, y1, H2, O2⟩
    go_wp2
    go_ret
    exact ⟨y, rfl, by omega, by omega, H2, O1.step.trans O2.step⟩
  · go_wp2_with fail
    refine (l1PickInt _ B c a len cap (H1.alloc _ hs) w1.heap.size 5 (by omega) (by omega) (by omega) pick9 ?_).mono ?_
    · intro j hj
      rw [World.cell?_alloc_new]
      rcases j with _ | _ | _ | _ | _ | j <;> first | rfl | omega
    · rintro e w2 ⟨j, rfl, hj, H2, O2⟩
      have hp := pick9_in j
      go_wp2
      go_ret
      exact ⟨pick9 j, rfl, hp.1, hp.2, H2, (O1.step.alloc _).trans O2.step⟩
end Go.Proofs.Ytpaedkefmebjjag
