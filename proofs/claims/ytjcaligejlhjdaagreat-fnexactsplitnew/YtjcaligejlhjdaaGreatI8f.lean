/-
  The program's picture unit (chapter 8), by its contracts: PpuNew, PpuWrite, PpuRead.
-/
import Derived.Test.YtjcaligejlhjdaaGreatI8b
import Derived.Test.YtjcaligejlhjdaaGreatI8c
import Derived.Test.YtjcaligejlhjdaaGreatMath
import Derived.Test.YtjcaligejlhjdaaGreatF8
import Derived.Test.YtjcaligejlhjdaaGreatS2
import Derived.Test.YtjcaligejlhjdaaGreatJ2
import Derived.Deep.RegionHeld3
import Derived.RangeFuncNested
import Derived.RangeFuncBound
import Derived.RangeFuncCalls
import Derived.RangeFuncLeaves
import Derived.Shelf.Abstract
import Derived.WalkKit
import Derived.OwnWalkIn
import Derived.TacticsInMore
import Derived.LoopNIn
import Derived.LoopIn
namespace Go.Proofs.YtjcaligejlhjdaaGreat
set_option linter.unusedVariables false
set_option linter.unusedSimpArgs false
open Go.ChangeShapes Go.WideShapes Go.ChangeAt Go.RowKit
theorem implPpuNew (w : World) : Calls Tryz.prog 34 #[] w fun e w' => ∃ p, e = .returned (.agg #[.int .i64 0, .int .i64 0, .int .i64 0, .int .i64 0, .int .i64 0, .bool false, .slice (some ⟨p, 0, none⟩) 16 16, .slice none 0 0]) ∧ Row w' w.heap.size p 16 16 (fun _ => 0) ∧ Below w.heap.size w w' := by
  obtain ⟨ob, hmk, hrow⟩ : ∃ ob : Obj, (∀ W : World, (Instr.makeSlice 25 (.int .i64 16) (.int .i64 16)).run Tryz.prog W = .ok (.slice (some ⟨W.heap.size, 0, none⟩) 16 16) (W.alloc ob)) ∧ Hid (∀ W : World, (W.alloc ob).rowIs W.heap.size 3 16 (fun _ => .int .i64 0)) :=
    ⟨_, run_make_row' (P := Tryz.prog) 25 3 (.int .i64 0) 8 Tryz.underlying25 info3 rfl .i64 .i64 16 (by omega) (by omega), fun W => World.rowIs_made W _ _ _⟩
  have hr := hide (hrow.out (w.alloc (.cells #[.int .i64 0, .int .i64 0, .int .i64 0, .int .i64 0, .int .i64 0, .bool false, .slice (some ⟨w.heap.size + 1, 0, none⟩) 16 16, .slice none 0 0] 35)))
  have L0 : Below w.heap.size w ((w.alloc (.cells #[.int .i64 0, .int .i64 0, .int .i64 0, .int .i64 0, .int .i64 0, .bool false, .slice (some ⟨w.heap.size + 1, 0, none⟩) 16 16, .slice none 0 0] 35)).alloc ob) := ((Below.refl _ _).alloc (Nat.le_refl _) _).alloc (by simp) _
  go_enter Tryz.func34, Tryz.ntmps34
  go_wp2
  have hr' := unhide hr
  simp only [World.size_alloc] at hr'
  refine bodyPost_ret (v := .agg #[.int .i64 0, .int .i64 0, .int .i64 0, .int .i64 0, .int .i64 0, .bool false, .slice (some ⟨w.heap.size + 1, 0, none⟩) 16 16, .slice none 0 0]) (by simp [results, Tryz.results34, go_sem]) rfl ?_
  exact ⟨_, rfl, Row.fresh hr' (by omega) (by omega), L0⟩
end Go.Proofs.YtjcaligejlhjdaaGreat
namespace Go.Proofs.YtjcaligejlhjdaaGreat
set_option linter.unusedVariables false
set_option linter.unusedSimpArgs false
open Go.RowKit Go.Shelf
attribute [local go_sem] Oper.semAt_some
theorem implFrameOf (w : World) (t : Int) (h : t ≤ 9223372036854775807) : Calls Tryz.prog 171 #[.int .i64 t] w fun e w' => e = .returned (.int .i64 (max t 0 / 64)) ∧ w' = w := by
  by_cases ht : 0 ≤ t
  · have d64 : t.tdiv 64 = t / 64 := Int.tdiv_eq_ediv_of_nonneg ht
    go_enter Tryz.func171, Tryz.ntmps171
    go_wp2
    all_goals (go_ret; exact ⟨ret_int (by omega), rfl⟩)
  · go_enter Tryz.func171, Tryz.ntmps171
    go_wp2
    all_goals (go_ret; exact ⟨ret_int (by omega), rfl⟩)
end Go.Proofs.YtjcaligejlhjdaaGreat
namespace Go.Proofs.YtjcaligejlhjdaaGreat
set_option linter.unusedVariables false
set_option linter.unusedSimpArgs false
open Go.ChangeShapes Go.WideShapes Go.ChangeAt Go.RowKit
def okApu (T P C B L : Int) : Bool := inB T 0 20000 && inB P 0 255 && inB C 0 255 && inB B 0 1 && inB L 0 31
structure IsApu (T P C B L : Int) : Prop where
  t0 : 0 ≤ T
  t1 : T ≤ 20000
  p0 : 0 ≤ P
  p1 : P ≤ 255
  c0 : 0 ≤ C
  c1 : C ≤ 255
  b0 : 0 ≤ B
  b1 : B ≤ 1
  l0 : 0 ≤ L
  l1 : L ≤ 31
theorem okApu_iff (T P C B L : Int) : okApu T P C B L = true ↔ IsApu T P C B L := by
  unfold okApu inB
  simp only [Bool.and_eq_true, decide_eq_true_eq]
  constructor
  · rintro ⟨⟨⟨⟨h1, h2⟩, h3⟩, h4⟩, h5⟩
    exact ⟨by omega, by omega, by omega, by omega, by omega, by omega, by omega, by omega, by omega, by omega⟩
  · intro h
    have := h.t0; have := h.t1; have := h.p0; have := h.p1; have := h.c0; have := h.c1; have := h.b0; have := h.b1; have := h.l0; have := h.l1
    omega
/- What a cycle makes of it, behind T = 20000. -/
/- The whole tick: of what is none, at the end, and else. -/
theorem eqApu_same (w : World) (T P C B L : Int) (S Q : Bool) : Calls Tryz.prog 73 #[.agg #[.int .i64 T, .int .i64 P, .int .i64 C, .int .i64 B, .int .i64 L, .bool S, .bool Q], .agg #[.int .i64 T, .int .i64 P, .int .i64 C, .int .i64 B, .int .i64 L, .bool S, .bool Q]] w
    fun e w' => e = .returned (.bool true) ∧ Below w.heap.size w w' := by
  go_enter Tryz.func73, Tryz.ntmps73
  go_wp2
  go_ret
  exact ⟨rfl, ((Below.refl _ _).alloc (Nat.le_refl _) _).alloc (by simp) _⟩
theorem specApuOk (w : World) (T P C B L : Int) (S Q : Bool) : Calls Tryz.prog 122 #[.agg #[.int .i64 T, .int .i64 P, .int .i64 C, .int .i64 B, .int .i64 L, .bool S, .bool Q]] w
    fun e w' => e = .returned (.bool (okApu T P C B L)) ∧ Below w.heap.size w w' := by
  unfold okApu
  go_enter Tryz.func122, Tryz.ntmps122
  generalize hT : inB T 0 20000 = bT
  generalize hP : inB P 0 255 = bP
  generalize hC : inB C 0 255 = bC
  generalize hB : inB B 0 1 = bB
  generalize hL : inB L 0 31 = bL
  have L0 : ∀ o, Below w.heap.size w (w.alloc o) := fun o => (Below.refl _ _).alloc (Nat.le_refl _) _
  cases bT <;> cases bP <;> cases bC <;> cases bB <;> cases bL <;>
    (go_wp2_with (first | (go_at_call 86; refine (l5Byte _ _).mono ?_; rintro e w' ⟨rfl, rfl⟩; first | rw [hP] | rw [hC]) | (go_at_call 87; refine (l1In _ _ _ _).mono ?_; rintro e w' ⟨rfl, rfl⟩; first | rw [hT] | rw [hB] | rw [hL]))
     go_ret
     exact ⟨rfl, L0 _⟩)
end Go.Proofs.YtjcaligejlhjdaaGreat
namespace Go.Proofs.YtjcaligejlhjdaaGreat
set_option linter.unusedVariables false
set_option linter.unusedSimpArgs false
open Go.ChangeShapes Go.WideShapes Go.ChangeAt Go.RowKit
theorem okApu_of {T P C B L : Int} (h : okApu T P C B L = true) : IsApu T P C B L := (okApu_iff _ _ _ _ _).1 h
/- Whatever a cycle makes of it: seven fields, a number, a truth. -/
end Go.Proofs.YtjcaligejlhjdaaGreat
