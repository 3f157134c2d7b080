/-
  Contracts of the exact laws' helpers over bytes, and over images' memory: copies, comparisons, marks.
-/
import Derived.Test.YteefbbnkfclllaaDoorS2
namespace Go.Proofs.YteefbbnkfclllaaDoor
open Go.ChangeShapes Go.WideShapes Go.ChangeAt Go.RowKit
theorem infoU8 : (Tryd.prog.info? 5).map (fun i => (i.zero, i.size, i.bytes)) = some (some (.int .u8 0), 1, 1) := by kernel_rfl
theorem step_ifB (f : Nat → Int) (k j : Nat) : (if j = k then Value.int .u8 (f k) else .int .u8 (if j < k then f j else 0)) = .int .u8 (if j < k + 1 then f j else 0) := by
  by_cases h : j = k
  · subst h; simp
  · by_cases h2 : j < k
    · rw [if_neg h, if_pos h2, if_pos (by omega)]
    · rw [if_neg h, if_neg h2, if_neg (by omega)]
end Go.Proofs.YteefbbnkfclllaaDoor
