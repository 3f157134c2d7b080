/-
  The program's chapter 9 by its contracts: when it is blank (a loop over an iterator of its own).
-/
import Derived.RangeFuncNested
import Derived.RangeFuncBound
import Derived.RangeFuncCalls
import Derived.RangeFuncLeaves
import Derived.Shelf.Abstract
import Derived.WalkKit
import Derived.OwnWalkIn
import Derived.TacticsInMore
import Derived.LoopNIn
import Derived.LoopIn
import Derived.Test.YtpaedkefmebjjarGreatB9
namespace Go.Proofs.YtpaedkefmebjjarGreat
set_option linter.unusedVariables false
set_option linter.unusedSimpArgs false
open Go.RowKit Go.Shelf
attribute [local go_sem] Oper.semAt_some
def blank9 (u : Int) (k : Nat) : Int := u / 64 * 64 + 48 + 64 * k
def blanks9 (u : Int) (k : Nat) : List Int := (List.range k).map (blank9 u)
theorem blanks9_succ (u : Int) (k : Nat) : blanks9 u (k + 1) = blanks9 u k ++ [blank9 u k] := by
  unfold blanks9
  rw [List.range_succ, List.map_append]
  rfl
theorem blanks9_mem (u : Int) {i k : Nat} (h : i < k) : blank9 u i ∈ blanks9 u k := List.mem_map.2 ⟨i, List.mem_range.2 h, rfl⟩
theorem implFrameOf (w : World) (t : Int) (h : t ≤ 9223372036854775807) : Calls Tryz.prog 133 #[.int .i64 t] w fun e w' => e = .returned (.int .i64 (max t 0 / 64)) ∧ w' = w := by
  by_cases ht : 0 ≤ t
  · have d64 : t.tdiv 64 = t / 64 := Int.tdiv_eq_ediv_of_nonneg ht
    go_enter Tryz.func133, Tryz.ntmps133
    go_wp2
    all_goals (go_ret; exact ⟨ret_int (by omega), rfl⟩)
  · go_enter Tryz.func133, Tryz.ntmps133
    go_wp2
    all_goals (go_ret; exact ⟨ret_int (by omega), rfl⟩)
end Go.Proofs.YtpaedkefmebjjarGreat
