/-
  Chapter 9 of the specification by its contracts: when it is blank.
-/
import Derived.Test.YtpaedkefmebjjapS2
namespace Go.Proofs.Ytpaedkefmebjjap
set_option linter.unusedVariables false
set_option linter.unusedSimpArgs false
open Go.ChangeShapes Go.WideShapes Go.ChangeAt Go.RowKit
def in9 (a b rest by' : Int) : Bool := decide (max a 0 + (rest - max a 0) % by' < min b 20000)
def next9 (t : Int) : Int := min (max t 0) 20000 + (48 - min (max t 0) 20000) % 64
theorem max9 (w : World) (a b : Int) : Calls Try.prog 22 #[.int .i64 a, .int .i64 b] w fun e w' => e = .returned (.int .i64 (max a b)) ∧ w' = w := by
  by_cases h : b < a
  · have HE : Hid (max a b = a) := by show _ = _; omega
    go_enter Try.func22, Try.ntmps22
    go_wp2
    go_ret
    exact ⟨ret_int HE.out.symm, rfl⟩
  · have HE : Hid (max a b = b) := by show _ = _; omega
    go_enter Try.func22, Try.ntmps22
    go_wp2
    go_ret
    exact ⟨ret_int HE.out.symm, rfl⟩
theorem min9 (w : World) (a b : Int) : Calls Try.prog 23 #[.int .i64 a, .int .i64 b] w fun e w' => e = .returned (.int .i64 (min a b)) ∧ w' = w := by
  by_cases h : a < b
  · have HE : Hid (min a b = a) := by show _ = _; omega
    go_enter Try.func23, Try.ntmps23
    go_wp2
    go_ret
    exact ⟨ret_int HE.out.symm, rfl⟩
  · have HE : Hid (min a b = b) := by show _ = _; omega
    go_enter Try.func23, Try.ntmps23
    go_wp2
    go_ret
    exact ⟨ret_int HE.out.symm, rfl⟩
theorem l9In48 (w : World) (a b : Int) : Calls Try.prog 20 #[.int .i64 a, .int .i64 b, .int .i64 48, .int .i64 64] w fun e w' => e = .returned (.bool (in9 a b 48 64)) ∧ w' = w := by
  obtain ⟨f, hf⟩ : ∃ f, Hid (f = max a 0) := ⟨_, rfl⟩
  obtain ⟨t, ht⟩ : ∃ t, Hid (t = min b 20000) := ⟨_, rfl⟩
  have HD : Hid (in9 a b 48 64 = decide (f + (48 - f) % 64 < t)) := by show _ = _; rw [hf.out, ht.out]; rfl
  have f0 : 0 ≤ f := by rw [hf.out]; omega
  have t1 : t ≤ 20000 := by rw [ht.out]; omega
  have M := hide (max9 w a 0)
  rw [← hf.out] at M
  have N := hide (min9 w b 20000)
  rw [← ht.out] at N
  have m1 : f.tmod 64 = f % 64 := Int.tmod_eq_emod_of_nonneg f0
  have m2 : (48 - f % 64 + 64).tmod 64 = (48 - f % 64 + 64) % 64 := Int.tmod_eq_emod_of_nonneg (by omega)
  have m3 : 0 ≤ f % 64 ∧ f % 64 < 64 := by omega
  by_cases h : t ≤ f
  · have HE : Hid (in9 a b 48 64 = false) := by show _ = _; rw [HD.out]; exact decide_eq_false (by omega)
    go_enter Try.func20, Try.ntmps20
    go_wp2_with fail
    refine (unhide M).mono ?_
    rintro e w1 ⟨rfl, rfl⟩
    go_wp2_with fail
    refine (unhide N).mono ?_
    rintro e w1 ⟨rfl, rfl⟩
    go_wp2
    go_ret
    exact ⟨ret_bool HE.out.symm, rfl⟩
  · go_enter Try.func20, Try.ntmps20
    go_wp2_with fail
    refine (unhide M).mono ?_
    rintro e w1 ⟨rfl, rfl⟩
    go_wp2_with fail
    refine (unhide N).mono ?_
    rintro e w1 ⟨rfl, rfl⟩
    go_wp2
    go_ret
    exact ⟨ret_bool HD.out.symm, rfl⟩
theorem specBlankIn (w : World) (a b : Int) : Calls Try.prog 8 #[.int .i64 a, .int .i64 b] w fun e w' => e = .returned (.bool (in9 a b 48 64)) ∧ w' = w := by
  go_enter Try.func8, Try.ntmps8
  go_wp2_with fail
  refine (l9In48 _ _ _).mono ?_
  rintro e w1 ⟨rfl, rfl⟩
  go_wp2
  go_ret
  exact ⟨rfl, rfl⟩
theorem specFrameOf (w : World) (t : Int) (h : t ≤ 9223372036854775807) : Calls Try.prog 10 #[.int .i64 t] w fun e w' => e = .returned (.int .i64 (max t 0 / 64)) ∧ w' = w := by
  have f0 : 0 ≤ max t 0 := by omega
  have f1 : max t 0 ≤ 9223372036854775807 := by omega
  have M := hide (max9 w t 0)
  generalize max t 0 = f at *
  have d64 : f.tdiv 64 = f / 64 := Int.tdiv_eq_ediv_of_nonneg f0
  go_enter Try.func10, Try.ntmps10
  go_wp2_with fail
  refine (unhide M).mono ?_
  rintro e w1 ⟨rfl, rfl⟩
  go_wp2
  go_ret
  exact ⟨rfl, rfl⟩
theorem specNextBlank (w : World) (t : Int) : Calls Try.prog 12 #[.int .i64 t] w fun e w' => e = .returned (.int .i64 (next9 t)) ∧ w' = w := by
  obtain ⟨f, hf⟩ : ∃ f, Hid (f = max t 0) := ⟨_, rfl⟩
  obtain ⟨u, hu⟩ : ∃ u, Hid (u = min f 20000) := ⟨_, rfl⟩
  have HD : Hid (next9 t = u + (48 - u) % 64) := by show _ = _; rw [hu.out, hf.out]; rfl
  have u0 : 0 ≤ u := by rw [hu.out, hf.out]; omega
  have u1 : u ≤ 20000 := by rw [hu.out]; omega
  have M := hide (max9 w t 0)
  rw [← hf.out] at M
  have N := hide (min9 w f 20000)
  rw [← hu.out] at N
  have m1 : u.tmod 64 = u % 64 := Int.tmod_eq_emod_of_nonneg u0
  have m2 : (48 - u % 64 + 64).tmod 64 = (48 - u % 64 + 64) % 64 := Int.tmod_eq_emod_of_nonneg (by omega)
  have m3 : 0 ≤ u % 64 ∧ u % 64 < 64 := by omega
  go_enter Try.func12, Try.ntmps12
  go_wp2_with fail
  refine (unhide M).mono ?_
  rintro e w1 ⟨rfl, rfl⟩
  go_wp2_with fail
  refine (unhide N).mono ?_
  rintro e w1 ⟨rfl, rfl⟩
  go_wp2
  go_ret
  exact ⟨ret_int HD.out.symm, rfl⟩
end Go.Proofs.Ytpaedkefmebjjap
