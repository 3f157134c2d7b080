/-
  Contracts of chapter 2's functions of the program: what an image is.
-/
import Derived.Test.YtpaedkefmebjjatS2
namespace Go.Proofs.Ytpaedkefmebjjat
open Go.ChangeShapes Go.WideShapes Go.ChangeAt Go.RowKit
theorem isByte (x : Int) (w : World) : Calls Try.prog 48 #[.int .i64 x] w fun e w' => e = .returned (.bool (inB x 0 255)) ∧ w' = w := by
  by_cases h : 0 ≤ x ∧ x ≤ 255
  · have e := hide (inB_yes h)
    go_enter Try.func48, Try.ntmps48
    go_wp2
    go_ret
    exact ⟨ret_bool ((by first | rfl | (simp; done) | (simp; omega) : _ = true).trans (unhide e).symm), rfl⟩
  · have e := hide (inB_no h)
    go_enter Try.func48, Try.ntmps48
    go_wp2
    go_ret
    exact ⟨ret_bool ((by simp; omega : _ = false).trans (unhide e).symm), rfl⟩
end Go.Proofs.Ytpaedkefmebjjat
