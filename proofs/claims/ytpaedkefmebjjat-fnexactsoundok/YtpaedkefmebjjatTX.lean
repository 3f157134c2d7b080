/-
  The program's chapter 12: how many pictures and samples there are at a time.
-/
import Derived.Test.YtpaedkefmebjjatK0
import Derived.Test.YtpaedkefmebjjatS2
import Derived.Lib.QuietBelow
import Derived.Deep.DeepCutAuto
import Derived.RangeFuncNested
import Derived.RangeFuncBound
import Derived.RangeFuncCalls
import Derived.RangeFuncLeaves
import Derived.Shelf.Abstract
import Derived.WalkKit
import Derived.OwnWalkIn
import Derived.TacticsInMore
import Derived.LoopNIn
import Derived.LoopIn
import Derived.BigQuiet
namespace Go.Proofs.Ytpaedkefmebjjat
set_option linter.unusedVariables false
set_option linter.unusedSimpArgs false
open Go.ChangeShapes Go.WideShapes Go.ChangeAt Go.RowKit Go.Sort
theorem samplesByT (w : World) (t : Int) (h0 : 0 ≤ t) (h1 : t ≤ 20000) : Calls Try.prog 59 #[.int .i64 t] w fun e w' => e = .returned (.int .i64 (t / 16)) ∧ w' = w := by
  have d1 : t.tdiv 16 = t / 16 := Int.tdiv_eq_ediv_of_nonneg h0
  go_enter Try.func59, Try.ntmps59
  go_wp2
  go_ret
  exact ⟨rfl, rfl⟩
theorem areSamplesT (w : World) (a : Option Addr) (n c : Nat) (hn : n ≤ 1048576) (t : Int) (h0 : 0 ≤ t) (h1 : t ≤ 20000) : Calls Try.prog 25 #[.slice a n c, .int .i64 t] w fun e w' => e = .returned (.bool ((n : Int) == t / 16)) ∧ w' = w := by
  obtain ⟨r, hr⟩ : ∃ r, Hid (r = ((n : Int) == t / 16)) := ⟨_, rfl⟩
  rw [← hr.out]
  go_enter Try.func25, Try.ntmps25
  go_wp2_with fail
  refine (samplesByT _ t h0 h1).mono ?_
  rintro e w1 ⟨rfl, rfl⟩
  go_wp2
  go_ret
  exact ⟨ret_bool hr.out.symm, rfl⟩
end Go.Proofs.Ytpaedkefmebjjat
