/-
  Chapter 9 of the specification by its contracts: when it is blank.
-/
import Derived.Test.YtpaedkefmebjjarGreatS2
namespace Go.Proofs.YtpaedkefmebjjarGreat
set_option linter.unusedVariables false
set_option linter.unusedSimpArgs false
open Go.ChangeShapes Go.WideShapes Go.ChangeAt Go.RowKit
def in9 (a b rest by' : Int) : Bool := decide (max a 0 + (rest - max a 0) % by' < min b 20000)
def next9 (t : Int) : Int := min (max t 0) 20000 + (48 - min (max t 0) 20000) % 64
theorem max9 (w : World) (a b : Int) : Calls Tryz.prog 141 #[.int .i64 a, .int .i64 b] w fun e w' => e = .returned (.int .i64 (max a b)) ∧ w' = w := by
  by_cases h : b < a
  · have HE : Hid (max a b = a) := by show _ = _; omega
    go_enter Tryz.func141, Tryz.ntmps141
    go_wp2
    go_ret
    exact ⟨ret_int HE.out.symm, rfl⟩
  · have HE : Hid (max a b = b) := by show _ = _; omega
    go_enter Tryz.func141, Tryz.ntmps141
    go_wp2
    go_ret
    exact ⟨ret_int HE.out.symm, rfl⟩
theorem specFrameOf (w : World) (t : Int) (h : t ≤ 9223372036854775807) : Calls Tryz.prog 129 #[.int .i64 t] w fun e w' => e = .returned (.int .i64 (max t 0 / 64)) ∧ w' = w := by
  have f0 : 0 ≤ max t 0 := by omega
  have f1 : max t 0 ≤ 9223372036854775807 := by omega
  have M := hide (max9 w t 0)
  generalize max t 0 = f at *
  have d64 : f.tdiv 64 = f / 64 := Int.tdiv_eq_ediv_of_nonneg f0
  go_enter Tryz.func129, Tryz.ntmps129
  go_wp2_with fail
  refine (unhide M).mono ?_
  rintro e w1 ⟨rfl, rfl⟩
  go_wp2
  go_ret
  exact ⟨rfl, rfl⟩
end Go.Proofs.YtpaedkefmebjjarGreat
