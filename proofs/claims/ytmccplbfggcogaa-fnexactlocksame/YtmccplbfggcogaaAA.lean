/-
  Chapter 10 by its contracts: the mirror of a sound unit, and the specification's functions on it.
-/
import Derived.Test.YtmccplbfggcogaaC5
import Derived.Test.YtmccplbfggcogaaB9
namespace Go.Proofs.Ytmccplbfggcogaa
set_option linter.unusedVariables false
set_option linter.unusedSimpArgs false
open Go.ChangeShapes Go.WideShapes Go.ChangeAt Go.RowKit
def okApu (T P C B L : Int) : Bool := inB T 0 20000 && inB P 0 255 && inB C 0 255 && inB B 0 1 && inB L 0 31
structure IsApu (T P C B L : Int) : Prop where
  t0 : 0 ≤ T
  t1 : T ≤ 20000
  p0 : 0 ≤ P
  p1 : P ≤ 255
  c0 : 0 ≤ C
  c1 : C ≤ 255
  b0 : 0 ≤ B
  b1 : B ≤ 1
  l0 : 0 ≤ L
  l1 : L ≤ 31
theorem okApu_iff (T P C B L : Int) : okApu T P C B L = true ↔ IsApu T P C B L := by
  unfold okApu inB
  simp only [Bool.and_eq_true, decide_eq_true_eq]
  constructor
  · rintro ⟨⟨⟨⟨h1, h2⟩, h3⟩, h4⟩, h5⟩
    exact ⟨by omega, by omega, by omega, by omega, by omega, by omega, by omega, by omega, by omega, by omega⟩
  · intro h
    have := h.t0; have := h.t1; have := h.p0; have := h.p1; have := h.c0; have := h.c1; have := h.b0; have := h.b1; have := h.l0; have := h.l1
    omega
/- What a cycle makes of it, behind T = 20000. -/
def tcA (P C : Int) : Int := if C = 0 then P else C - 1
def tbA (C B L : Int) : Int := if C = 0 ∧ 0 < L then 1 - B else B
def tlA (T L : Int) : Int := if T % 32 = 0 ∧ 0 < L then L - 1 else L
def tqA (T L : Int) (S Q : Bool) : Bool := if T % 32 = 0 ∧ 0 < L then Q || (decide (L - 1 = 0) && S) else Q
def toldA (T : Int) : Bool := decide (T % 16 = 15)
def tvA (T C B L : Int) : Int := if T % 16 = 15 ∧ 0 < tlA T L then 8 * tbA C B L else 0
/- The whole tick: of what is none, at the end, and else. -/
def tickA (T P C B L : Int) (S Q : Bool) : Value :=
  if okApu T P C B L = true then
    if T = 20000 then .tuple #[.agg #[.int .i64 T, .int .i64 P, .int .i64 C, .int .i64 B, .int .i64 L, .bool S, .bool Q], .int .i64 0, .bool false]
    else .tuple #[.agg #[.int .i64 (T + 1), .int .i64 P, .int .i64 (tcA P C), .int .i64 (tbA C B L), .int .i64 (tlA T L), .bool S, .bool (tqA T L S Q)], .int .i64 (tvA T C B L), .bool (toldA T)]
  else .tuple #[.agg #[.int .i64 0, .int .i64 0, .int .i64 0, .int .i64 0, .int .i64 0, .bool false, .bool false], .int .i64 0, .bool false]
theorem toApu (w : World) (T P C B L : Int) (S Q : Bool) : Calls Try.prog 70 #[.agg #[.int .i64 T, .int .i64 P, .int .i64 C, .int .i64 B, .int .i64 L, .bool S, .bool Q]] w
    fun e w' => e = .returned (.agg #[.int .i64 T, .int .i64 P, .int .i64 C, .int .i64 B, .int .i64 L, .bool S, .bool Q]) ∧ Below w.heap.size w w' := by
  go_enter Try.func70, Try.ntmps70
  go_wp2
  refine bodyPost_ret (v := .agg #[.int .i64 T, .int .i64 P, .int .i64 C, .int .i64 B, .int .i64 L, .bool S, .bool Q]) (by simp [results, Try.results70, go_sem]) rfl ?_
  exact ⟨rfl, (((Below.refl _ _).alloc (Nat.le_refl _) _).alloc (by simp) _).alloc (by simp; omega) _⟩
theorem eqApu_same (w : World) (T P C B L : Int) (S Q : Bool) : Calls Try.prog 74 #[.agg #[.int .i64 T, .int .i64 P, .int .i64 C, .int .i64 B, .int .i64 L, .bool S, .bool Q], .agg #[.int .i64 T, .int .i64 P, .int .i64 C, .int .i64 B, .int .i64 L, .bool S, .bool Q]] w
    fun e w' => e = .returned (.bool true) ∧ Below w.heap.size w w' := by
  go_enter Try.func74, Try.ntmps74
  go_wp2
  go_ret
  exact ⟨rfl, ((Below.refl _ _).alloc (Nat.le_refl _) _).alloc (by simp) _⟩
end Go.Proofs.Ytmccplbfggcogaa
