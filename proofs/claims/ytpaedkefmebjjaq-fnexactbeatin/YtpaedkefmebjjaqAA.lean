/-
  Chapter 10 by its contracts: the mirror of a sound unit, and the specification's functions on it.
-/
import Derived.Test.YtpaedkefmebjjaqC5
import Derived.Test.YtpaedkefmebjjaqB9
namespace Go.Proofs.Ytpaedkefmebjjaq
set_option linter.unusedVariables false
set_option linter.unusedSimpArgs false
open Go.ChangeShapes Go.WideShapes Go.ChangeAt Go.RowKit
def okApu (T P C B L : Int) : Bool := inB T 0 20000 && inB P 0 255 && inB C 0 255 && inB B 0 1 && inB L 0 31
structure IsApu (T P C B L : Int) : Prop where
  t0 : 0 ≤ T
  t1 : T ≤ 20000
  p0 : 0 ≤ P
  p1 : P ≤ 255
  c0 : 0 ≤ C
  c1 : C ≤ 255
  b0 : 0 ≤ B
  b1 : B ≤ 1
  l0 : 0 ≤ L
  l1 : L ≤ 31
theorem okApu_iff (T P C B L : Int) : okApu T P C B L = true ↔ IsApu T P C B L := by
  unfold okApu inB
  simp only [Bool.and_eq_true, decide_eq_true_eq]
  constructor
  · rintro ⟨⟨⟨⟨h1, h2⟩, h3⟩, h4⟩, h5⟩
    exact ⟨by omega, by omega, by omega, by omega, by omega, by omega, by omega, by omega, by omega, by omega⟩
  · intro h
    have := h.t0; have := h.t1; have := h.p0; have := h.p1; have := h.c0; have := h.c1; have := h.b0; have := h.b1; have := h.l0; have := h.l1
    omega
/- What a cycle makes of it, behind T = 20000. -/
def tcA (P C : Int) : Int := if C = 0 then P else C - 1
def tbA (C B L : Int) : Int := if C = 0 ∧ 0 < L then 1 - B else B
def tlA (T L : Int) : Int := if T % 32 = 0 ∧ 0 < L then L - 1 else L
def tqA (T L : Int) (S Q : Bool) : Bool := if T % 32 = 0 ∧ 0 < L then Q || (decide (L - 1 = 0) && S) else Q
def toldA (T : Int) : Bool := decide (T % 16 = 15)
def tvA (T C B L : Int) : Int := if T % 16 = 15 ∧ 0 < tlA T L then 8 * tbA C B L else 0
/- The whole tick: of what is none, at the end, and else. -/
def tickA (T P C B L : Int) (S Q : Bool) : Value :=
  if okApu T P C B L = true then
    if T = 20000 then .tuple #[.agg #[.int .i64 T, .int .i64 P, .int .i64 C, .int .i64 B, .int .i64 L, .bool S, .bool Q], .int .i64 0, .bool false]
    else .tuple #[.agg #[.int .i64 (T + 1), .int .i64 P, .int .i64 (tcA P C), .int .i64 (tbA C B L), .int .i64 (tlA T L), .bool S, .bool (tqA T L S Q)], .int .i64 (tvA T C B L), .bool (toldA T)]
  else .tuple #[.agg #[.int .i64 0, .int .i64 0, .int .i64 0, .int .i64 0, .int .i64 0, .bool false, .bool false], .int .i64 0, .bool false]
theorem l9In0 (w : World) (a b : Int) : Calls Try.prog 22 #[.int .i64 a, .int .i64 b, .int .i64 0, .int .i64 32] w fun e w' => e = .returned (.bool (in9 a b 0 32)) ∧ w' = w := by
  obtain ⟨f, hf⟩ : ∃ f, Hid (f = max a 0) := ⟨_, rfl⟩
  obtain ⟨t, ht⟩ : ∃ t, Hid (t = min b 20000) := ⟨_, rfl⟩
  have HD : Hid (in9 a b 0 32 = decide (f + (0 - f) % 32 < t)) := by show _ = _; rw [hf.out, ht.out]; rfl
  have f0 : 0 ≤ f := by rw [hf.out]; omega
  have t1 : t ≤ 20000 := by rw [ht.out]; omega
  have M := hide (max9 w a 0)
  rw [← hf.out] at M
  have N := hide (min9 w b 20000)
  rw [← ht.out] at N
  have m1 : f.tmod 32 = f % 32 := Int.tmod_eq_emod_of_nonneg f0
  have m2 : (-(f % 32) + 32).tmod 32 = (-(f % 32) + 32) % 32 := Int.tmod_eq_emod_of_nonneg (by omega)
  have m4 : (0 - f % 32 + 32).tmod 32 = (0 - f % 32 + 32) % 32 := Int.tmod_eq_emod_of_nonneg (by omega)
  have m3 : 0 ≤ f % 32 ∧ f % 32 < 32 := by omega
  by_cases h : t ≤ f
  · have HE : Hid (in9 a b 0 32 = false) := by show _ = _; rw [HD.out]; exact decide_eq_false (by omega)
    go_enter Try.func22, Try.ntmps22
    go_wp2_with fail
    refine (unhide M).mono ?_
    rintro e w1 ⟨rfl, rfl⟩
    go_wp2_with fail
    refine (unhide N).mono ?_
    rintro e w1 ⟨rfl, rfl⟩
    go_wp2
    go_ret
    exact ⟨ret_bool HE.out.symm, rfl⟩
  · go_enter Try.func22, Try.ntmps22
    go_wp2_with fail
    refine (unhide M).mono ?_
    rintro e w1 ⟨rfl, rfl⟩
    go_wp2_with fail
    refine (unhide N).mono ?_
    rintro e w1 ⟨rfl, rfl⟩
    go_wp2
    go_ret
    exact ⟨ret_bool (by rw [HD.out]; apply decide_eq_decide.2; omega), rfl⟩
theorem specBeatIn (w : World) (a b : Int) : Calls Try.prog 8 #[.int .i64 a, .int .i64 b] w fun e w' => e = .returned (.bool (in9 a b 0 32)) ∧ w' = w := by
  go_enter Try.func8, Try.ntmps8
  go_wp2_with fail
  refine (l9In0 _ _ _).mono ?_
  rintro e w1 ⟨rfl, rfl⟩
  go_wp2
  go_ret
  exact ⟨rfl, rfl⟩
end Go.Proofs.Ytpaedkefmebjjaq
