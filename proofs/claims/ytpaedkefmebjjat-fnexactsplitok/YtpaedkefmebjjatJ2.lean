/-
  The program's BankOf: a new list of the bytes of the bank that n leads to, or nothing.
-/
import Derived.Test.YtpaedkefmebjjatB2
import Derived.Test.YtpaedkefmebjjatI2
import Derived.Laws.CopyOwn
namespace Go.Proofs.Ytpaedkefmebjjat
open Go.ChangeShapes Go.WideShapes Go.ChangeAt Go.RowKit
theorem leftBy (x : Int) (m : Nat) (w : World) (h1 : 1 ≤ m) (h8 : m ≤ 8) : Calls Try.prog 57 #[.int .i64 x, .int .i64 m] w fun e w' => e = .returned (.int .i64 (bankIx m x)) ∧ w' = w := by
  obtain ⟨t1, t2, he⟩ := bankIx_eq x h1 h8
  have hb := bankIx_lt x h1
  have hq : (x.tmod m < 0 → x.tmod m + m = bankIx m x) ∧ (¬ x.tmod m < 0 → x.tmod m = bankIx m x) := by
    unfold bankIx
    have h1 := Int.emod_nonneg x (show (m : Int) ≠ 0 by omega)
    rw [Int.toNat_of_nonneg h1]
    have hm : m = 1 ∨ m = 2 ∨ m = 3 ∨ m = 4 ∨ m = 5 ∨ m = 6 ∨ m = 7 ∨ m = 8 := by omega
    rcases tmod_cases x m with ⟨h0, e⟩ | ⟨h0, e⟩ <;> rw [e] <;> rcases hm with rfl | rfl | rfl | rfl | rfl | rfl | rfl | rfl <;> refine ⟨fun _ => by omega, fun _ => by omega⟩
  have HQ := hide hq
  clear hq he
  by_cases hn : x.tmod m < 0
  · go_enter Try.func57, Try.ntmps57
    go_wp2
    go_ret
    exact ⟨ret_int ((unhide HQ).1 hn), rfl⟩
  · go_enter Try.func57, Try.ntmps57
    go_wp2
    go_ret
    exact ⟨ret_int ((unhide HQ).2 (by omega)), rfl⟩
end Go.Proofs.Ytpaedkefmebjjat
