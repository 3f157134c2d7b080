/-
  The program's chapter 10 by its contracts: what a cycle turns, through a pointer.
-/
import Derived.Test.YtpaedkefmebjjapAIa
namespace Go.Proofs.Ytpaedkefmebjjap
set_option linter.unusedVariables false
set_option linter.unusedSimpArgs false
open Go.ChangeShapes Go.WideShapes Go.ChangeAt Go.RowKit Go.Sort
theorem apuSounds (w : World) (z : Nat) (T P C B L : Int) (S Q : Bool) (hb : w.heap[z]? = some (.cells #[.int .i64 T, .int .i64 P, .int .i64 C, .int .i64 B, .int .i64 L, .bool S, .bool Q] 28 (0, 0))) (b : Bool) (h : decide (0 < L) = b) : Calls Try.prog 36 #[.pointer (some ⟨z, 0, none⟩)] w fun e w' => e = .returned (.bool b) ∧ w' = w := by
  have hc := boxC hb
  have HH := hide h
  clear h hb
  go_enter Try.func36, Try.ntmps36
  go_wp2
  go_ret
  exact ⟨ret_bool HH.out, rfl⟩
set_option maxHeartbeats 1000000 in
theorem apuTurn (w : World) (z : Nat) (T P C B L : Int) (S Q : Bool) (hb : w.heap[z]? = some (.cells #[.int .i64 T, .int .i64 P, .int .i64 C, .int .i64 B, .int .i64 L, .bool S, .bool Q] 28 (0, 0))) (c0 : 0 ≤ C) (c1 : C ≤ 255) (b0 : 0 ≤ B) (b1 : B ≤ 1) : Calls Try.prog 33 #[.pointer (some ⟨z, 0, none⟩)] w fun e w' => e = .returned (.tuple #[]) ∧ w'.heap[z]? = some (.cells #[.int .i64 T, .int .i64 P, .int .i64 (tcA P C), .int .i64 (tbA C B L), .int .i64 L, .bool S, .bool Q] 28 (0, 0)) ∧ Wrote (fun b _ => b = z) w w' := by
  have hc := boxC hb
  have hf := boxF hb
  by_cases hC : C = 0
  · subst hC
    have hb1 := box_set7 hb 2 (.int .i64 P)
    simp only [List.setIfInBounds_toArray, List.set_cons_succ, List.set_cons_zero] at hb1
    have W1 : Wrote (fun b _ => b = z) w (w.setCell ⟨z, 2, none⟩ (.int .i64 P)) := Wrote.setCell (R := fun b _ => b = z) (Wrote.refl _ w) (fun _ => rfl) _
    clear hb
    by_cases hL : 0 < L
    · have HE : Hid (tcA P 0 = P ∧ tbA 0 B L = 1 - B) := ⟨if_pos rfl, if_pos ⟨rfl, hL⟩⟩
      rw [HE.out.1, HE.out.2]
      clear HE
      go_enter Try.func33, Try.ntmps33
      go_wp2_with fail
      clear hc hf
      generalize w.setCell ⟨z, 2, none⟩ (.int .i64 P) = w1 at *
      refine (apuSounds _ z T P P B L S Q hb1 true (decide_eq_true hL)).mono ?_
      rintro e w2 ⟨rfl, rfl⟩
      have hb2 := box_set7 hb1 3 (.int .i64 (1 - B))
      simp only [List.setIfInBounds_toArray, List.set_cons_succ, List.set_cons_zero] at hb2
      have HX := hide (And.intro hb2 (Wrote.setCell (b := z) (o := 3) W1 (fun _ => rfl) (.int .i64 (1 - B))))
      have hc := boxC hb1
      have hf := boxF hb1
      clear hb1 hb2 W1
      go_wp2
      ((try simp only [Exit.inBlock, Exit.then]); first | (refine bodyPost_ret (results_none rfl _ _ _) rfl ?_) | (refine bodyPost_end (results_none rfl _ _ _) rfl ?_))
      exact ⟨rfl, HX.out.1, HX.out.2⟩
    · have HE : Hid (tcA P 0 = P ∧ tbA 0 B L = B) := ⟨if_pos rfl, if_neg (by simp [hL])⟩
      rw [HE.out.1, HE.out.2]
      clear HE
      go_enter Try.func33, Try.ntmps33
      go_wp2_with fail
      clear hc hf
      generalize w.setCell ⟨z, 2, none⟩ (.int .i64 P) = w1 at *
      refine (apuSounds _ z T P P B L S Q hb1 false (decide_eq_false (by omega))).mono ?_
      rintro e w2 ⟨rfl, rfl⟩
      have HX := hide (And.intro hb1 W1)
      clear hb1 W1
      go_wp2
      ((try simp only [Exit.inBlock, Exit.then]); first | (refine bodyPost_ret (results_none rfl _ _ _) rfl ?_) | (refine bodyPost_end (results_none rfl _ _ _) rfl ?_))
      exact ⟨rfl, HX.out.1, HX.out.2⟩
  · have HE : Hid (tcA P C = C - 1 ∧ tbA C B L = B) := ⟨if_neg hC, if_neg (by simp [hC])⟩
    rw [HE.out.1, HE.out.2]
    have hC1 : 0 < C := by omega
    have hb2 := box_set7 hb 2 (.int .i64 (C - 1))
    simp only [List.setIfInBounds_toArray, List.set_cons_succ, List.set_cons_zero] at hb2
    have HX := hide (And.intro hb2 (Wrote.setCell (R := fun b _ => b = z) (b := z) (o := 2) (Wrote.refl _ w) (fun _ => rfl) (.int .i64 (C - 1))))
    clear hb2 hb HE
    go_enter Try.func33, Try.ntmps33
    go_wp2
    ((try simp only [Exit.inBlock, Exit.then]); first | (refine bodyPost_ret (results_none rfl _ _ _) rfl ?_) | (refine bodyPost_end (results_none rfl _ _ _) rfl ?_))
    exact ⟨rfl, HX.out.1, HX.out.2⟩
def beatL (L : Int) : Int := if 0 < L then L - 1 else L
def beatQ (L : Int) (S Q : Bool) : Bool := if 0 < L then Q || (decide (L - 1 = 0) && S) else Q
set_option maxHeartbeats 1000000 in
theorem apuBeat (w : World) (z : Nat) (T P C B L : Int) (S Q : Bool) (hb : w.heap[z]? = some (.cells #[.int .i64 T, .int .i64 P, .int .i64 C, .int .i64 B, .int .i64 L, .bool S, .bool Q] 28 (0, 0))) (l1 : L ≤ 31) : Calls Try.prog 34 #[.pointer (some ⟨z, 0, none⟩)] w fun e w' => e = .returned (.tuple #[]) ∧ w'.heap[z]? = some (.cells #[.int .i64 T, .int .i64 P, .int .i64 C, .int .i64 B, .int .i64 (beatL L), .bool S, .bool (beatQ L S Q)] 28 (0, 0)) ∧ Wrote (fun b _ => b = z) w w' := by
  have hc := boxC hb
  have hf := boxF hb
  by_cases hL : 0 < L
  · have HE : Hid (beatL L = L - 1 ∧ beatQ L S Q = (Q || (decide (L - 1 = 0) && S))) := ⟨if_pos hL, if_pos hL⟩
    rw [HE.out.1, HE.out.2]
    have hb1 := box_set7 hb 4 (.int .i64 (L - 1))
    simp only [List.setIfInBounds_toArray, List.set_cons_succ, List.set_cons_zero] at hb1
    have W1 : Wrote (fun b _ => b = z) w (w.setCell ⟨z, 4, none⟩ (.int .i64 (L - 1))) := Wrote.setCell (R := fun b _ => b = z) (Wrote.refl _ w) (fun _ => rfl) _
    go_enter Try.func34, Try.ntmps34
    go_wp2_with fail
    refine (apuSounds _ z T P C B L S Q hb true (decide_eq_true hL)).mono ?_
    rintro e w2 ⟨rfl, rfl⟩
    clear hb HE
    cases S
    · have HX := hide (And.intro hb1 W1)
      clear hb1 W1
      go_wp2
      ((try simp only [Exit.inBlock, Exit.then]); first | (refine bodyPost_ret (results_none rfl _ _ _) rfl ?_) | (refine bodyPost_end (results_none rfl _ _ _) rfl ?_))
      rw [Bool.and_false, Bool.or_false]
      exact ⟨rfl, HX.out.1, HX.out.2⟩
    · go_wp2_with fail
      clear hc hf
      generalize w2.setCell ⟨z, 4, none⟩ (.int .i64 (L - 1)) = w1 at *
      by_cases h1 : L - 1 = 0
      · refine (apuSounds _ z T P C B (L - 1) true Q hb1 false (decide_eq_false (by omega))).mono ?_
        rintro e w3 ⟨rfl, rfl⟩
        have hb2 := box_set7 hb1 6 (.bool true)
        simp only [List.setIfInBounds_toArray, List.set_cons_succ, List.set_cons_zero] at hb2
        have HX := hide (And.intro hb2 (Wrote.setCell (b := z) (o := 6) W1 (fun _ => rfl) (.bool true)))
        have hc := boxC hb1
        have hf := boxF hb1
        have HT : Hid ((Q || (decide (L - 1 = 0) && true)) = true) := by show _ = _; rw [decide_eq_true h1]; simp
        clear hb1 hb2 W1 h1
        go_wp2
        ((try simp only [Exit.inBlock, Exit.then]); first | (refine bodyPost_ret (results_none rfl _ _ _) rfl ?_) | (refine bodyPost_end (results_none rfl _ _ _) rfl ?_))
        rw [HT.out]
        exact ⟨rfl, HX.out.1, HX.out.2⟩
      · refine (apuSounds _ z T P C B (L - 1) true Q hb1 true (decide_eq_true (by omega))).mono ?_
        rintro e w3 ⟨rfl, rfl⟩
        have HX := hide (And.intro hb1 W1)
        have HT : Hid ((Q || (decide (L - 1 = 0) && true)) = Q) := by show _ = _; rw [decide_eq_false h1]; simp
        clear hb1 W1 h1
        go_wp2
        ((try simp only [Exit.inBlock, Exit.then]); first | (refine bodyPost_ret (results_none rfl _ _ _) rfl ?_) | (refine bodyPost_end (results_none rfl _ _ _) rfl ?_))
        rw [HT.out]
        exact ⟨rfl, HX.out.1, HX.out.2⟩
  · have HE : Hid (beatL L = L ∧ beatQ L S Q = Q) := ⟨if_neg hL, if_neg hL⟩
    rw [HE.out.1, HE.out.2]
    go_enter Try.func34, Try.ntmps34
    go_wp2_with fail
    refine (apuSounds _ z T P C B L S Q hb false (decide_eq_false (by omega))).mono ?_
    rintro e w2 ⟨rfl, rfl⟩
    have HX := hide hb
    clear hb HE hc hf
    go_wp2
    ((try simp only [Exit.inBlock, Exit.then]); first | (refine bodyPost_ret (results_none rfl _ _ _) rfl ?_) | (refine bodyPost_end (results_none rfl _ _ _) rfl ?_))
    exact ⟨rfl, HX.out, Wrote.refl _ _⟩
theorem apuSample (w : World) (z : Nat) (T P C B L : Int) (S Q : Bool) (hb : w.heap[z]? = some (.cells #[.int .i64 T, .int .i64 P, .int .i64 C, .int .i64 B, .int .i64 L, .bool S, .bool Q] 28 (0, 0))) (b0 : 0 ≤ B) (b1 : B ≤ 1) : Calls Try.prog 35 #[.pointer (some ⟨z, 0, none⟩)] w fun e w' => e = .returned (.int .i64 (if 0 < L then 8 * B else 0)) ∧ w' = w := by
  have hc := boxC hb
  by_cases hL : 0 < L
  · rw [if_pos hL]
    go_enter Try.func35, Try.ntmps35
    go_wp2_with fail
    refine (apuSounds _ z T P C B L S Q hb true (decide_eq_true hL)).mono ?_
    rintro e w2 ⟨rfl, rfl⟩
    clear hb
    go_wp2
    go_ret
    exact ⟨rfl, rfl⟩
  · rw [if_neg hL]
    go_enter Try.func35, Try.ntmps35
    go_wp2_with fail
    refine (apuSounds _ z T P C B L S Q hb false (decide_eq_false (by omega))).mono ?_
    rintro e w2 ⟨rfl, rfl⟩
    clear hb
    go_wp2
    go_ret
    exact ⟨rfl, rfl⟩
end Go.Proofs.Ytpaedkefmebjjap
