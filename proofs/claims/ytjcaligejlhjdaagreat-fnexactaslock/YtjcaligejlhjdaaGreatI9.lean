/-
  The program's chapter 9 by its contracts: when it is blank (a loop over an iterator of its own).
-/
import Derived.Test.YtjcaligejlhjdaaGreatS2
import Derived.Test.YtjcaligejlhjdaaGreatJ2
import Derived.Test.YtjcaligejlhjdaaGreatB2
import Derived.RangeFuncNested
import Derived.RangeFuncBound
import Derived.RangeFuncCalls
import Derived.RangeFuncLeaves
import Derived.Shelf.Abstract
import Derived.WalkKit
import Derived.OwnWalkIn
import Derived.TacticsInMore
import Derived.LoopNIn
import Derived.LoopIn
import Derived.Lib.QuietBelow
import Derived.BigQuiet
import Derived.Deep.DeepCutAuto
namespace Go.Proofs.YtjcaligejlhjdaaGreat
set_option linter.unusedVariables false
set_option linter.unusedSimpArgs false
open Go.RowKit Go.Shelf
attribute [local go_sem] Oper.semAt_some
theorem implFrameOf (w : World) (t : Int) (h : t ≤ 9223372036854775807) : Calls Tryz.prog 171 #[.int .i64 t] w fun e w' => e = .returned (.int .i64 (max t 0 / 64)) ∧ w' = w := by
  by_cases ht : 0 ≤ t
  · have d64 : t.tdiv 64 = t / 64 := Int.tdiv_eq_ediv_of_nonneg ht
    go_enter Tryz.func171, Tryz.ntmps171
    go_wp2
    all_goals (go_ret; exact ⟨ret_int (by omega), rfl⟩)
  · go_enter Tryz.func171, Tryz.ntmps171
    go_wp2
    all_goals (go_ret; exact ⟨ret_int (by omega), rfl⟩)
end Go.Proofs.YtjcaligejlhjdaaGreat
namespace Go.Proofs.YtjcaligejlhjdaaGreat
set_option linter.unusedVariables false
set_option linter.unusedSimpArgs false
open Go.ChangeShapes Go.WideShapes Go.ChangeAt Go.RowKit
def okApu (T P C B L : Int) : Bool := inB T 0 20000 && inB P 0 255 && inB C 0 255 && inB B 0 1 && inB L 0 31
structure IsApu (T P C B L : Int) : Prop where
  t0 : 0 ≤ T
  t1 : T ≤ 20000
  p0 : 0 ≤ P
  p1 : P ≤ 255
  c0 : 0 ≤ C
  c1 : C ≤ 255
  b0 : 0 ≤ B
  b1 : B ≤ 1
  l0 : 0 ≤ L
  l1 : L ≤ 31
theorem okApu_iff (T P C B L : Int) : okApu T P C B L = true ↔ IsApu T P C B L := by
  unfold okApu inB
  simp only [Bool.and_eq_true, decide_eq_true_eq]
  constructor
  · rintro ⟨⟨⟨⟨h1, h2⟩, h3⟩, h4⟩, h5⟩
    exact ⟨by omega, by omega, by omega, by omega, by omega, by omega, by omega, by omega, by omega, by omega⟩
  · intro h
    have := h.t0; have := h.t1; have := h.p0; have := h.p1; have := h.c0; have := h.c1; have := h.b0; have := h.b1; have := h.l0; have := h.l1
    omega
/- What a cycle makes of it, behind T = 20000. -/
/- The whole tick: of what is none, at the end, and else. -/
theorem toApu (w : World) (T P C B L : Int) (S Q : Bool) : Calls Tryz.prog 110 #[.agg #[.int .i64 T, .int .i64 P, .int .i64 C, .int .i64 B, .int .i64 L, .bool S, .bool Q]] w
    fun e w' => e = .returned (.agg #[.int .i64 T, .int .i64 P, .int .i64 C, .int .i64 B, .int .i64 L, .bool S, .bool Q]) ∧ Below w.heap.size w w' := by
  go_enter Tryz.func110, Tryz.ntmps110
  go_wp2
  refine bodyPost_ret (v := .agg #[.int .i64 T, .int .i64 P, .int .i64 C, .int .i64 B, .int .i64 L, .bool S, .bool Q]) (by simp [results, Tryz.results110, go_sem]) rfl ?_
  exact ⟨rfl, (((Below.refl _ _).alloc (Nat.le_refl _) _).alloc (by simp) _).alloc (by simp; omega) _⟩
theorem eqApu_same (w : World) (T P C B L : Int) (S Q : Bool) : Calls Tryz.prog 73 #[.agg #[.int .i64 T, .int .i64 P, .int .i64 C, .int .i64 B, .int .i64 L, .bool S, .bool Q], .agg #[.int .i64 T, .int .i64 P, .int .i64 C, .int .i64 B, .int .i64 L, .bool S, .bool Q]] w
    fun e w' => e = .returned (.bool true) ∧ Below w.heap.size w w' := by
  go_enter Tryz.func73, Tryz.ntmps73
  go_wp2
  go_ret
  exact ⟨rfl, ((Below.refl _ _).alloc (Nat.le_refl _) _).alloc (by simp) _⟩
theorem specApuOk (w : World) (T P C B L : Int) (S Q : Bool) : Calls Tryz.prog 122 #[.agg #[.int .i64 T, .int .i64 P, .int .i64 C, .int .i64 B, .int .i64 L, .bool S, .bool Q]] w
    fun e w' => e = .returned (.bool (okApu T P C B L)) ∧ Below w.heap.size w w' := by
  unfold okApu
  go_enter Tryz.func122, Tryz.ntmps122
  generalize hT : inB T 0 20000 = bT
  generalize hP : inB P 0 255 = bP
  generalize hC : inB C 0 255 = bC
  generalize hB : inB B 0 1 = bB
  generalize hL : inB L 0 31 = bL
  have L0 : ∀ o, Below w.heap.size w (w.alloc o) := fun o => (Below.refl _ _).alloc (Nat.le_refl _) _
  cases bT <;> cases bP <;> cases bC <;> cases bB <;> cases bL <;>
    (go_wp2_with (first | (go_at_call 86; refine (l5Byte _ _).mono ?_; rintro e w' ⟨rfl, rfl⟩; first | rw [hP] | rw [hC]) | (go_at_call 87; refine (l1In _ _ _ _).mono ?_; rintro e w' ⟨rfl, rfl⟩; first | rw [hT] | rw [hB] | rw [hL]))
     go_ret
     exact ⟨rfl, L0 _⟩)
end Go.Proofs.YtjcaligejlhjdaaGreat
namespace Go.Proofs.YtjcaligejlhjdaaGreat
set_option linter.unusedVariables false
set_option linter.unusedSimpArgs false
open Go.ChangeShapes Go.WideShapes Go.ChangeAt Go.RowKit
theorem box_set7 {W : World} {b : Nat} {cs : Array Value} {t : TypeId} {fr : Nat × Nat} (h : W.heap[b]? = some (.cells cs t fr)) (o : Nat) (x : Value) : (W.setCell ⟨b, o, none⟩ x).heap[b]? = some (.cells (cs.setIfInBounds o x) t fr) := by
  simp [World.setCell, Array.getElem?_modify, h]
theorem okApu_of {T P C B L : Int} (h : okApu T P C B L = true) : IsApu T P C B L := (okApu_iff _ _ _ _ _).1 h
/- Whatever a cycle makes of it: seven fields, a number, a truth. -/
end Go.Proofs.YtjcaligejlhjdaaGreat
namespace Go.Proofs.YtjcaligejlhjdaaGreat
set_option linter.unusedVariables false
set_option linter.unusedSimpArgs false
open Go.ChangeShapes Go.WideShapes Go.ChangeAt Go.RowKit Go.Sort
theorem tmod_parts10 (x m : Int) (hm : 0 < m) : (x.tmod m < 0 → x.tmod m + m = x % m) ∧ (¬ x.tmod m < 0 → x.tmod m = x % m) ∧ -m < x.tmod m ∧ x.tmod m < m := by
  have h1 := Int.emod_nonneg x (show m ≠ 0 by omega)
  have h2 := Int.emod_lt_of_pos x hm
  rcases Int.le_total 0 x with h | h
  · have e := Int.tmod_eq_emod_of_nonneg (b := m) h
    rw [e]
    exact ⟨fun _ => by omega, fun _ => rfl, by omega, by omega⟩
  · have e : x.tmod m = -((-x) % m) := by
      have := Int.neg_tmod (-x) m
      rw [Int.neg_neg] at this
      rw [this, Int.tmod_eq_emod_of_nonneg (by omega)]
    have k1 := Int.emod_nonneg (-x) (show m ≠ 0 by omega)
    have k2 := Int.emod_lt_of_pos (-x) hm
    have d1 := Int.emod_add_mul_ediv x m
    have d2 := Int.emod_add_mul_ediv (-x) m
    rw [e]
    have key : (-x) % m = 0 ∧ x % m = 0 ∨ (-x) % m = m - x % m := by
      by_cases z : x % m = 0
      · left
        refine ⟨?_, z⟩
        have : m ∣ x := Int.dvd_of_emod_eq_zero z
        exact Int.emod_eq_zero_of_dvd (Int.dvd_neg.2 this)
      · right
        rw [Int.neg_emod]
        have hn : ¬ m ∣ x := fun hd => z (Int.emod_eq_zero_of_dvd hd)
        rw [if_neg hn]
        omega
    rcases key with ⟨k, z⟩ | k
    · exact ⟨fun h => by omega, fun _ => by omega, by omega, by omega⟩
    · by_cases z : (-x) % m = 0
      · exact ⟨fun h => by omega, fun _ => by omega, by omega, by omega⟩
      · exact ⟨fun h => by omega, fun h => by omega, by omega, by omega⟩
theorem mod_in32 (x : Int) : (x == x % 32) = inB x 0 31 := by
  by_cases h : 0 ≤ x ∧ x ≤ 31
  · rw [inB_yes h]; exact beq_iff_eq.2 (by omega)
  · rw [inB_no h]; exact beq_eq_false_iff_ne.2 (by omega)
theorem boxQ {W : World} {b : Nat} {cs : Array Value} {T : TypeId} (h : W.heap[b]? = some (.cells cs T (0, 0))) (d : Nat) (os : Array Obj) (j : Nat) : (grow (redrawn W d) os).cell? ⟨b, j, none⟩ = cs[j]? := boxC (((below_regrown W d os).block _ (boxLt h)).trans h) j
theorem left32 (x : Int) (w : World) : Calls Tryz.prog 155 #[.int .i64 x, .int .i64 32] w fun e w' => e = .returned (.int .i64 (x % 32)) ∧ w' = w := by
  obtain ⟨h1, h2, h3, h4⟩ := tmod_parts10 x 32 (by omega)
  have HQ := hide (And.intro h1 h2)
  clear h1 h2
  by_cases hn : x.tmod 32 < 0
  · go_enter Tryz.func155, Tryz.ntmps155
    go_wp2
    go_ret
    exact ⟨ret_int ((unhide HQ).1 hn), rfl⟩
  · go_enter Tryz.func155, Tryz.ntmps155
    go_wp2
    go_ret
    exact ⟨ret_int ((unhide HQ).2 (by omega)), rfl⟩
set_option maxHeartbeats 4000000 in
theorem implApuOk (w : World) (T P C B L : Int) (S Q : Bool) : Calls Tryz.prog 134 #[.agg #[.int .i64 T, .int .i64 P, .int .i64 C, .int .i64 B, .int .i64 L, .bool S, .bool Q]] w
    fun e w' => e = .returned (.bool (okApu T P C B L)) ∧ Below w.heap.size w w' := by
  have L0 : Below w.heap.size w (w.alloc (.cells #[.int .i64 T, .int .i64 P, .int .i64 C, .int .i64 B, .int .i64 L, .bool S, .bool Q] 42)) := (Below.refl _ _).alloc (Nat.le_refl _) _
  have k0 := boxQ (box_new w #[.int .i64 T, .int .i64 P, .int .i64 C, .int .i64 B, .int .i64 L, .bool S, .bool Q] 42)
  obtain ⟨b0, h0⟩ : ∃ b, b = decide (0 ≤ T) := ⟨_, rfl⟩
  obtain ⟨b1, h1⟩ : ∃ b, b = decide (T ≤ 20000) := ⟨_, rfl⟩
  obtain ⟨b2, h2⟩ : ∃ b, b = inB P 0 255 := ⟨_, rfl⟩
  have C2 : ∀ W : World, Calls Tryz.prog 96 #[.int .i64 P] W fun e w' => e = .returned (.bool b2) ∧ Below W.heap.size W w' := fun W => (isByte P W).mono (fun e w' ⟨he, hw⟩ => ⟨by rw [he, h2], by rw [hw]; exact Below.refl _ _⟩)
  obtain ⟨b3, h3⟩ : ∃ b, b = inB C 0 255 := ⟨_, rfl⟩
  have C3 : ∀ W : World, Calls Tryz.prog 96 #[.int .i64 C] W fun e w' => e = .returned (.bool b3) ∧ Below W.heap.size W w' := fun W => (isByte C W).mono (fun e w' ⟨he, hw⟩ => ⟨by rw [he, h3], by rw [hw]; exact Below.refl _ _⟩)
  obtain ⟨b4, h4⟩ : ∃ b, b = (B == 0) := ⟨_, rfl⟩
  obtain ⟨b5, h5⟩ : ∃ b, b = (B == 1) := ⟨_, rfl⟩
  obtain ⟨b6, h6⟩ : ∃ b, b = inB L 0 31 := ⟨_, rfl⟩
  have C4 : ∀ W : World, Calls Tryz.prog 155 #[.int .i64 L, .int .i64 32] W fun e w' => e = .returned (.int .i64 (L % 32)) ∧ Below W.heap.size W w' := fun W => (left32 L W).mono (fun e w' ⟨he, hw⟩ => ⟨he, by rw [hw]; exact Below.refl _ _⟩)
  have q6 : (L == L % 32) = b6 := by rw [h6, mod_in32]
  generalize L % 32 = l32 at *
  obtain ⟨W0, hW0⟩ : ∃ W0, W0 = w.alloc (.cells #[.int .i64 T, .int .i64 P, .int .i64 C, .int .i64 B, .int .i64 L, .bool S, .bool Q] 42) := ⟨_, rfl⟩
  rw [← hW0] at L0 k0
  have OK : okApu T P C B L = (b0 && (b1 && (b2 && (b3 && ((b4 || b5) && b6))))) := by
    unfold okApu
    have e1 : inB T 0 20000 = (decide (0 ≤ T) && decide (T ≤ 20000)) := by
      by_cases h : 0 ≤ T ∧ T ≤ 20000
      · rw [inB_yes h, decide_eq_true h.1, decide_eq_true h.2]; rfl
      · rw [inB_no h]
        by_cases h' : 0 ≤ T
        · rw [decide_eq_true h', decide_eq_false (fun x => h ⟨h', x⟩)]; rfl
        · rw [decide_eq_false h']; rfl
    have e2 : inB B 0 1 = ((B == 0) || (B == 1)) := by
      by_cases h : B = 0
      · rw [h]; rfl
      · by_cases h' : B = 1
        · rw [h']; rfl
        · rw [inB_no (by omega), beq_eq_false_iff_ne.2 h, beq_eq_false_iff_ne.2 h']; rfl
    rw [e1, e2, h0, h1, h2, h3, h4, h5, h6]
    cases decide (0 ≤ T) <;> cases decide (T ≤ 20000) <;> cases inB P 0 255 <;> cases inB C 0 255 <;> cases (B == 0) <;> cases (B == 1) <;> cases inB L 0 31 <;> rfl
  have HOK := hide OK
  have g0 : decide (0 ≤ T) = b0 := h0.symm
  have g1 : decide (T ≤ 20000) = b1 := h1.symm
  have g4 : (B == 0) = b4 := h4.symm
  have g5 : (B == 1) = b5 := h5.symm
  clear h0 h1 h2 h3 h4 h5 h6 OK
  cases b0
  · skip
    have HE : Hid (okApu T P C B L = false) := by rw [HOK.out]; rfl
    go_enter Tryz.func134, Tryz.ntmps134
    go_upto_region 1 with (fail)
    rw [← hW0]
    clear hW0
    refine wp_region_quiet_below (by kernel_rfl) (by kernel_rfl) ?_
    repeat (go_big_quiet_step (first | (go_at_call 96; first | with_reducible exact Calls.regrown_of (C2 _) | with_reducible exact Calls.regrown_of (C3 _)) | (go_at_call 155; exact Calls.regrown_of (C4 _))))
    refine wpQuiet_nil ?_
    intro _ hw'
    obtain ⟨⟨dq, osq⟩, hw''⟩ := hw'
    subst hw''
    have LQ := L0.trans ((below_regrown W0 dq osq).mono L0.size)
    generalize Go.Sort.grow (redrawn W0 dq) osq = w4 at *
    go_wp2
    go_ret
    exact ⟨ret_bool HE.out.symm, LQ⟩
  cases b1
  · skip
    have HE : Hid (okApu T P C B L = false) := by rw [HOK.out]; rfl
    go_enter Tryz.func134, Tryz.ntmps134
    go_upto_region 1 with (fail)
    rw [← hW0]
    clear hW0
    refine wp_region_quiet_below (by kernel_rfl) (by kernel_rfl) ?_
    repeat (go_big_quiet_step (first | (go_at_call 96; first | with_reducible exact Calls.regrown_of (C2 _) | with_reducible exact Calls.regrown_of (C3 _)) | (go_at_call 155; exact Calls.regrown_of (C4 _))))
    refine wpQuiet_nil ?_
    intro _ hw'
    obtain ⟨⟨dq, osq⟩, hw''⟩ := hw'
    subst hw''
    have LQ := L0.trans ((below_regrown W0 dq osq).mono L0.size)
    generalize Go.Sort.grow (redrawn W0 dq) osq = w4 at *
    go_wp2
    go_ret
    exact ⟨ret_bool HE.out.symm, LQ⟩
  cases b2
  · skip
    have HE : Hid (okApu T P C B L = false) := by rw [HOK.out]; rfl
    go_enter Tryz.func134, Tryz.ntmps134
    go_upto_region 1 with (fail)
    rw [← hW0]
    clear hW0
    refine wp_region_quiet_below (by kernel_rfl) (by kernel_rfl) ?_
    repeat (go_big_quiet_step (first | (go_at_call 96; first | with_reducible exact Calls.regrown_of (C2 _) | with_reducible exact Calls.regrown_of (C3 _)) | (go_at_call 155; exact Calls.regrown_of (C4 _))))
    refine wpQuiet_nil ?_
    intro _ hw'
    obtain ⟨⟨dq, osq⟩, hw''⟩ := hw'
    subst hw''
    have LQ := L0.trans ((below_regrown W0 dq osq).mono L0.size)
    generalize Go.Sort.grow (redrawn W0 dq) osq = w4 at *
    go_wp2
    go_ret
    exact ⟨ret_bool HE.out.symm, LQ⟩
  cases b3
  · skip
    have HE : Hid (okApu T P C B L = false) := by rw [HOK.out]; rfl
    go_enter Tryz.func134, Tryz.ntmps134
    go_upto_region 1 with (fail)
    rw [← hW0]
    clear hW0
    refine wp_region_quiet_below (by kernel_rfl) (by kernel_rfl) ?_
    repeat (go_big_quiet_step (first | (go_at_call 96; first | with_reducible exact Calls.regrown_of (C2 _) | with_reducible exact Calls.regrown_of (C3 _)) | (go_at_call 155; exact Calls.regrown_of (C4 _))))
    refine wpQuiet_nil ?_
    intro _ hw'
    obtain ⟨⟨dq, osq⟩, hw''⟩ := hw'
    subst hw''
    have LQ := L0.trans ((below_regrown W0 dq osq).mono L0.size)
    generalize Go.Sort.grow (redrawn W0 dq) osq = w4 at *
    go_wp2
    go_ret
    exact ⟨ret_bool HE.out.symm, LQ⟩
  cases b6
  · cases b4
    · cases b5
      · skip
        have HE : Hid (okApu T P C B L = false) := by rw [HOK.out]; rfl
        go_enter Tryz.func134, Tryz.ntmps134
        go_upto_region 1 with (fail)
        rw [← hW0]
        clear hW0
        refine wp_region_quiet_below (by kernel_rfl) (by kernel_rfl) ?_
        repeat (go_big_quiet_step (first | (go_at_call 96; first | with_reducible exact Calls.regrown_of (C2 _) | with_reducible exact Calls.regrown_of (C3 _)) | (go_at_call 155; exact Calls.regrown_of (C4 _))))
        refine wpQuiet_nil ?_
        intro _ hw'
        obtain ⟨⟨dq, osq⟩, hw''⟩ := hw'
        subst hw''
        have LQ := L0.trans ((below_regrown W0 dq osq).mono L0.size)
        generalize Go.Sort.grow (redrawn W0 dq) osq = w4 at *
        go_wp2
        go_ret
        exact ⟨ret_bool HE.out.symm, LQ⟩
      · skip
        have HE : Hid (okApu T P C B L = false) := by rw [HOK.out]; rfl
        go_enter Tryz.func134, Tryz.ntmps134
        go_upto_region 1 with (fail)
        rw [← hW0]
        clear hW0
        refine wp_region_quiet_below (by kernel_rfl) (by kernel_rfl) ?_
        repeat (go_big_quiet_step (first | (go_at_call 96; first | with_reducible exact Calls.regrown_of (C2 _) | with_reducible exact Calls.regrown_of (C3 _)) | (go_at_call 155; exact Calls.regrown_of (C4 _))))
        refine wpQuiet_nil ?_
        intro _ hw'
        obtain ⟨⟨dq, osq⟩, hw''⟩ := hw'
        subst hw''
        have LQ := L0.trans ((below_regrown W0 dq osq).mono L0.size)
        generalize Go.Sort.grow (redrawn W0 dq) osq = w4 at *
        go_wp2
        go_ret
        exact ⟨ret_bool HE.out.symm, LQ⟩
    · skip
      have HE : Hid (okApu T P C B L = false) := by rw [HOK.out]; rfl
      go_enter Tryz.func134, Tryz.ntmps134
      go_upto_region 1 with (fail)
      rw [← hW0]
      clear hW0
      refine wp_region_quiet_below (by kernel_rfl) (by kernel_rfl) ?_
      repeat (go_big_quiet_step (first | (go_at_call 96; first | with_reducible exact Calls.regrown_of (C2 _) | with_reducible exact Calls.regrown_of (C3 _)) | (go_at_call 155; exact Calls.regrown_of (C4 _))))
      refine wpQuiet_nil ?_
      intro _ hw'
      obtain ⟨⟨dq, osq⟩, hw''⟩ := hw'
      subst hw''
      have LQ := L0.trans ((below_regrown W0 dq osq).mono L0.size)
      generalize Go.Sort.grow (redrawn W0 dq) osq = w4 at *
      go_wp2
      go_ret
      exact ⟨ret_bool HE.out.symm, LQ⟩
  · cases b4
    · cases b5
      · skip
        have HE : Hid (okApu T P C B L = false) := by rw [HOK.out]; rfl
        go_enter Tryz.func134, Tryz.ntmps134
        go_upto_region 1 with (fail)
        rw [← hW0]
        clear hW0
        refine wp_region_quiet_below (by kernel_rfl) (by kernel_rfl) ?_
        repeat (go_big_quiet_step (first | (go_at_call 96; first | with_reducible exact Calls.regrown_of (C2 _) | with_reducible exact Calls.regrown_of (C3 _)) | (go_at_call 155; exact Calls.regrown_of (C4 _))))
        refine wpQuiet_nil ?_
        intro _ hw'
        obtain ⟨⟨dq, osq⟩, hw''⟩ := hw'
        subst hw''
        have LQ := L0.trans ((below_regrown W0 dq osq).mono L0.size)
        generalize Go.Sort.grow (redrawn W0 dq) osq = w4 at *
        go_wp2
        go_ret
        exact ⟨ret_bool HE.out.symm, LQ⟩
      · skip
        have HE : Hid (okApu T P C B L = true) := by rw [HOK.out]; rfl
        go_enter Tryz.func134, Tryz.ntmps134
        go_upto_region 1 with (fail)
        rw [← hW0]
        clear hW0
        refine wp_region_quiet_below (by kernel_rfl) (by kernel_rfl) ?_
        repeat (go_big_quiet_step (first | (go_at_call 96; first | with_reducible exact Calls.regrown_of (C2 _) | with_reducible exact Calls.regrown_of (C3 _)) | (go_at_call 155; exact Calls.regrown_of (C4 _))))
        refine wpQuiet_nil ?_
        intro _ hw'
        obtain ⟨⟨dq, osq⟩, hw''⟩ := hw'
        subst hw''
        have LQ := L0.trans ((below_regrown W0 dq osq).mono L0.size)
        generalize Go.Sort.grow (redrawn W0 dq) osq = w4 at *
        go_wp2
        go_ret
        exact ⟨ret_bool HE.out.symm, LQ⟩
    · skip
      have HE : Hid (okApu T P C B L = true) := by rw [HOK.out]; rfl
      go_enter Tryz.func134, Tryz.ntmps134
      go_upto_region 1 with (fail)
      rw [← hW0]
      clear hW0
      refine wp_region_quiet_below (by kernel_rfl) (by kernel_rfl) ?_
      repeat (go_big_quiet_step (first | (go_at_call 96; first | with_reducible exact Calls.regrown_of (C2 _) | with_reducible exact Calls.regrown_of (C3 _)) | (go_at_call 155; exact Calls.regrown_of (C4 _))))
      refine wpQuiet_nil ?_
      intro _ hw'
      obtain ⟨⟨dq, osq⟩, hw''⟩ := hw'
      subst hw''
      have LQ := L0.trans ((below_regrown W0 dq osq).mono L0.size)
      generalize Go.Sort.grow (redrawn W0 dq) osq = w4 at *
      go_wp2
      go_ret
      exact ⟨ret_bool HE.out.symm, LQ⟩
end Go.Proofs.YtjcaligejlhjdaaGreat
