/-
  Chapter 10: the specification's cycle, write and read of a sound unit.
-/
import Derived.Test.YtmccplbfggcogaaAA
namespace Go.Proofs.Ytmccplbfggcogaa
set_option linter.unusedVariables false
set_option linter.unusedSimpArgs false
open Go.ChangeShapes Go.WideShapes Go.ChangeAt Go.RowKit
theorem tickA_end {T P C B L : Int} (h : IsApu T P C B L) (hT : T = 20000) (S Q : Bool) : tickA T P C B L S Q = .tuple #[.agg #[.int .i64 T, .int .i64 P, .int .i64 C, .int .i64 B, .int .i64 L, .bool S, .bool Q], .int .i64 0, .bool false] := by
  unfold tickA
  rw [if_pos ((okApu_iff _ _ _ _ _).2 h), if_pos hT]
theorem tickA_on {T P C B L : Int} (h : IsApu T P C B L) (hT : T ≠ 20000) (S Q : Bool) : tickA T P C B L S Q = .tuple #[.agg #[.int .i64 (T + 1), .int .i64 P, .int .i64 (tcA P C), .int .i64 (tbA C B L), .int .i64 (tlA T L), .bool S, .bool (tqA T L S Q)], .int .i64 (tvA T C B L), .bool (toldA T)] := by
  unfold tickA
  rw [if_pos ((okApu_iff _ _ _ _ _).2 h), if_neg hT]
theorem tickA_no {T P C B L : Int} (h : okApu T P C B L = false) (S Q : Bool) : tickA T P C B L S Q = .tuple #[.agg #[.int .i64 0, .int .i64 0, .int .i64 0, .int .i64 0, .int .i64 0, .bool false, .bool false], .int .i64 0, .bool false] := by
  unfold tickA
  rw [if_neg (by simp [h])]
end Go.Proofs.Ytmccplbfggcogaa
