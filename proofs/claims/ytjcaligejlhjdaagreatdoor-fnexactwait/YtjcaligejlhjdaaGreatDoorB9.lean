/-
  Chapter 9 of the specification by its contracts: when it is blank.
-/
import Derived.Test.YtjcaligejlhjdaaGreatDoorS2
import Derived.Test.YtjcaligejlhjdaaGreatDoorC5
import Derived.RangeFuncNested
import Derived.RangeFuncBound
import Derived.RangeFuncCalls
import Derived.RangeFuncLeaves
import Derived.Shelf.Abstract
import Derived.WalkKit
import Derived.OwnWalkIn
import Derived.TacticsInMore
import Derived.LoopNIn
import Derived.LoopIn
namespace Go.Proofs.YtjcaligejlhjdaaGreatDoor
set_option linter.unusedVariables false
set_option linter.unusedSimpArgs false
open Go.ChangeShapes Go.WideShapes Go.ChangeAt Go.RowKit
def in9 (a b rest by' : Int) : Bool := decide (max a 0 + (rest - max a 0) % by' < min b 20000)
theorem max9 (w : World) (a b : Int) : Calls Tryz.prog 117 #[.int .i64 a, .int .i64 b] w fun e w' => e = .returned (.int .i64 (max a b)) ∧ w' = w := by
  by_cases h : b < a
  · have HE : Hid (max a b = a) := by show _ = _; omega
    go_enter Tryz.func117, Tryz.ntmps117
    go_wp2
    go_ret
    exact ⟨ret_int HE.out.symm, rfl⟩
  · have HE : Hid (max a b = b) := by show _ = _; omega
    go_enter Tryz.func117, Tryz.ntmps117
    go_wp2
    go_ret
    exact ⟨ret_int HE.out.symm, rfl⟩
theorem min9 (w : World) (a b : Int) : Calls Tryz.prog 118 #[.int .i64 a, .int .i64 b] w fun e w' => e = .returned (.int .i64 (min a b)) ∧ w' = w := by
  by_cases h : a < b
  · have HE : Hid (min a b = a) := by show _ = _; omega
    go_enter Tryz.func118, Tryz.ntmps118
    go_wp2
    go_ret
    exact ⟨ret_int HE.out.symm, rfl⟩
  · have HE : Hid (min a b = b) := by show _ = _; omega
    go_enter Tryz.func118, Tryz.ntmps118
    go_wp2
    go_ret
    exact ⟨ret_int HE.out.symm, rfl⟩
end Go.Proofs.YtjcaligejlhjdaaGreatDoor
namespace Go.Proofs.YtjcaligejlhjdaaGreatDoor
set_option linter.unusedVariables false
set_option linter.unusedSimpArgs false
open Go.RowKit Go.Shelf
attribute [local go_sem] Oper.semAt_some
theorem implInTime (w : World) (t : Int) : Calls Tryz.prog 130 #[.int .i64 t] w fun e w' => e = .returned (.int .i64 (min (max t 0) 20000)) ∧ w' = w := by
  go_enter Tryz.func130, Tryz.ntmps130
  go_wp2
  all_goals (go_ret; exact ⟨ret_int (by omega), rfl⟩)
theorem implFrameOf (w : World) (t : Int) (h : t ≤ 9223372036854775807) : Calls Tryz.prog 145 #[.int .i64 t] w fun e w' => e = .returned (.int .i64 (max t 0 / 64)) ∧ w' = w := by
  by_cases ht : 0 ≤ t
  · have d64 : t.tdiv 64 = t / 64 := Int.tdiv_eq_ediv_of_nonneg ht
    go_enter Tryz.func145, Tryz.ntmps145
    go_wp2
    all_goals (go_ret; exact ⟨ret_int (by omega), rfl⟩)
  · go_enter Tryz.func145, Tryz.ntmps145
    go_wp2
    all_goals (go_ret; exact ⟨ret_int (by omega), rfl⟩)
end Go.Proofs.YtjcaligejlhjdaaGreatDoor
namespace Go.Proofs.YtjcaligejlhjdaaGreatDoor
set_option linter.unusedVariables false
set_option linter.unusedSimpArgs false
open Go.ChangeShapes Go.WideShapes Go.ChangeAt Go.RowKit
def okApu (T P C B L : Int) : Bool := inB T 0 20000 && inB P 0 255 && inB C 0 255 && inB B 0 1 && inB L 0 31
structure IsApu (T P C B L : Int) : Prop where
  t0 : 0 ≤ T
  t1 : T ≤ 20000
  p0 : 0 ≤ P
  p1 : P ≤ 255
  c0 : 0 ≤ C
  c1 : C ≤ 255
  b0 : 0 ≤ B
  b1 : B ≤ 1
  l0 : 0 ≤ L
  l1 : L ≤ 31
theorem okApu_iff (T P C B L : Int) : okApu T P C B L = true ↔ IsApu T P C B L := by
  unfold okApu inB
  simp only [Bool.and_eq_true, decide_eq_true_eq]
  constructor
  · rintro ⟨⟨⟨⟨h1, h2⟩, h3⟩, h4⟩, h5⟩
    exact ⟨by omega, by omega, by omega, by omega, by omega, by omega, by omega, by omega, by omega, by omega⟩
  · intro h
    have := h.t0; have := h.t1; have := h.p0; have := h.p1; have := h.c0; have := h.c1; have := h.b0; have := h.b1; have := h.l0; have := h.l1
    omega
/- What a cycle makes of it, behind T = 20000. -/
/- The whole tick: of what is none, at the end, and else. -/
theorem toApu (w : World) (T P C B L : Int) (S Q : Bool) : Calls Tryz.prog 56 #[.agg #[.int .i64 T, .int .i64 P, .int .i64 C, .int .i64 B, .int .i64 L, .bool S, .bool Q]] w
    fun e w' => e = .returned (.agg #[.int .i64 T, .int .i64 P, .int .i64 C, .int .i64 B, .int .i64 L, .bool S, .bool Q]) ∧ Below w.heap.size w w' := by
  go_enter Tryz.func56, Tryz.ntmps56
  go_wp2
  refine bodyPost_ret (v := .agg #[.int .i64 T, .int .i64 P, .int .i64 C, .int .i64 B, .int .i64 L, .bool S, .bool Q]) (by simp [results, Tryz.results56, go_sem]) rfl ?_
  exact ⟨rfl, (((Below.refl _ _).alloc (Nat.le_refl _) _).alloc (by simp) _).alloc (by simp; omega) _⟩
theorem eqApu_same (w : World) (T P C B L : Int) (S Q : Bool) : Calls Tryz.prog 73 #[.agg #[.int .i64 T, .int .i64 P, .int .i64 C, .int .i64 B, .int .i64 L, .bool S, .bool Q], .agg #[.int .i64 T, .int .i64 P, .int .i64 C, .int .i64 B, .int .i64 L, .bool S, .bool Q]] w
    fun e w' => e = .returned (.bool true) ∧ Below w.heap.size w w' := by
  go_enter Tryz.func73, Tryz.ntmps73
  go_wp2
  go_ret
  exact ⟨rfl, ((Below.refl _ _).alloc (Nat.le_refl _) _).alloc (by simp) _⟩
theorem specApuOk (w : World) (T P C B L : Int) (S Q : Bool) : Calls Tryz.prog 79 #[.agg #[.int .i64 T, .int .i64 P, .int .i64 C, .int .i64 B, .int .i64 L, .bool S, .bool Q]] w
    fun e w' => e = .returned (.bool (okApu T P C B L)) ∧ Below w.heap.size w w' := by
  unfold okApu
  go_enter Tryz.func79, Tryz.ntmps79
  generalize hT : inB T 0 20000 = bT
  generalize hP : inB P 0 255 = bP
  generalize hC : inB C 0 255 = bC
  generalize hB : inB B 0 1 = bB
  generalize hL : inB L 0 31 = bL
  have L0 : ∀ o, Below w.heap.size w (w.alloc o) := fun o => (Below.refl _ _).alloc (Nat.le_refl _) _
  cases bT <;> cases bP <;> cases bC <;> cases bB <;> cases bL <;>
    (go_wp2_with (first | (go_at_call 41; refine (l5Byte _ _).mono ?_; rintro e w' ⟨rfl, rfl⟩; first | rw [hP] | rw [hC]) | (go_at_call 42; refine (l1In _ _ _ _).mono ?_; rintro e w' ⟨rfl, rfl⟩; first | rw [hT] | rw [hB] | rw [hL]))
     go_ret
     exact ⟨rfl, L0 _⟩)
theorem l9In0 (w : World) (a b : Int) : Calls Tryz.prog 80 #[.int .i64 a, .int .i64 b, .int .i64 0, .int .i64 32] w fun e w' => e = .returned (.bool (in9 a b 0 32)) ∧ w' = w := by
  obtain ⟨f, hf⟩ : ∃ f, Hid (f = max a 0) := ⟨_, rfl⟩
  obtain ⟨t, ht⟩ : ∃ t, Hid (t = min b 20000) := ⟨_, rfl⟩
  have HD : Hid (in9 a b 0 32 = decide (f + (0 - f) % 32 < t)) := by show _ = _; rw [hf.out, ht.out]; rfl
  have f0 : 0 ≤ f := by rw [hf.out]; omega
  have t1 : t ≤ 20000 := by rw [ht.out]; omega
  have M := hide (max9 w a 0)
  rw [← hf.out] at M
  have N := hide (min9 w b 20000)
  rw [← ht.out] at N
  have m1 : f.tmod 32 = f % 32 := Int.tmod_eq_emod_of_nonneg f0
  have m2 : (-(f % 32) + 32).tmod 32 = (-(f % 32) + 32) % 32 := Int.tmod_eq_emod_of_nonneg (by omega)
  have m4 : (0 - f % 32 + 32).tmod 32 = (0 - f % 32 + 32) % 32 := Int.tmod_eq_emod_of_nonneg (by omega)
  have m3 : 0 ≤ f % 32 ∧ f % 32 < 32 := by omega
  by_cases h : t ≤ f
  · have HE : Hid (in9 a b 0 32 = false) := by show _ = _; rw [HD.out]; exact decide_eq_false (by omega)
    go_enter Tryz.func80, Tryz.ntmps80
    go_wp2_with fail
    refine (unhide M).mono ?_
    rintro e w1 ⟨rfl, rfl⟩
    go_wp2_with fail
    refine (unhide N).mono ?_
    rintro e w1 ⟨rfl, rfl⟩
    go_wp2
    go_ret
    exact ⟨ret_bool HE.out.symm, rfl⟩
  · go_enter Tryz.func80, Tryz.ntmps80
    go_wp2_with fail
    refine (unhide M).mono ?_
    rintro e w1 ⟨rfl, rfl⟩
    go_wp2_with fail
    refine (unhide N).mono ?_
    rintro e w1 ⟨rfl, rfl⟩
    go_wp2
    go_ret
    exact ⟨ret_bool (by rw [HD.out]; apply decide_eq_decide.2; omega), rfl⟩
theorem specBeatIn (w : World) (a b : Int) : Calls Tryz.prog 45 #[.int .i64 a, .int .i64 b] w fun e w' => e = .returned (.bool (in9 a b 0 32)) ∧ w' = w := by
  go_enter Tryz.func45, Tryz.ntmps45
  go_wp2_with fail
  refine (l9In0 _ _ _).mono ?_
  rintro e w1 ⟨rfl, rfl⟩
  go_wp2
  go_ret
  exact ⟨rfl, rfl⟩
end Go.Proofs.YtjcaligejlhjdaaGreatDoor
namespace Go.Proofs.YtjcaligejlhjdaaGreatDoor
set_option linter.unusedVariables false
set_option linter.unusedSimpArgs false
open Go.ChangeShapes Go.WideShapes Go.ChangeAt Go.RowKit
theorem box_set7 {W : World} {b : Nat} {cs : Array Value} {t : TypeId} {fr : Nat × Nat} (h : W.heap[b]? = some (.cells cs t fr)) (o : Nat) (x : Value) : (W.setCell ⟨b, o, none⟩ x).heap[b]? = some (.cells (cs.setIfInBounds o x) t fr) := by
  simp [World.setCell, Array.getElem?_modify, h]
theorem okApu_of {T P C B L : Int} (h : okApu T P C B L = true) : IsApu T P C B L := (okApu_iff _ _ _ _ _).1 h
/- Whatever a cycle makes of it: seven fields, a number, a truth. -/
end Go.Proofs.YtjcaligejlhjdaaGreatDoor
