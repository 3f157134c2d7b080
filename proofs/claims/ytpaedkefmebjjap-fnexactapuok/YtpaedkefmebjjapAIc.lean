/-
  The program's chapter 10 by its contracts: a cycle.
-/
import Derived.Test.YtpaedkefmebjjapAIb
namespace Go.Proofs.Ytpaedkefmebjjap
set_option linter.unusedVariables false
set_option linter.unusedSimpArgs false
open Go.ChangeShapes Go.WideShapes Go.ChangeAt Go.RowKit Go.Sort
theorem tick_facts (T C L : Int) (B : Int) (S Q : Bool) : tlA T L = (if T % 32 = 0 then beatL L else L) ∧ tqA T L S Q = (if T % 32 = 0 then beatQ L S Q else Q) := by
  unfold tlA tqA beatL beatQ
  by_cases h : T % 32 = 0 <;> by_cases hL : 0 < L <;> simp [h, hL]
set_option maxHeartbeats 2000000 in
theorem apuTickP (w : World) (z : Nat) (T P C B L : Int) (S Q : Bool) (hb : w.heap[z]? = some (.cells #[.int .i64 T, .int .i64 P, .int .i64 C, .int .i64 B, .int .i64 L, .bool S, .bool Q] 28 (0, 0))) (h : IsApu T P C B L) (hT : T ≠ 20000) : Calls Try.prog 30 #[.pointer (some ⟨z, 0, none⟩)] w fun e w' => e = .returned (.tuple #[.int .i64 (tvA T C B L), .bool (toldA T)]) ∧ w'.heap[z]? = some (.cells #[.int .i64 (T + 1), .int .i64 P, .int .i64 (tcA P C), .int .i64 (tbA C B L), .int .i64 (tlA T L), .bool S, .bool (tqA T L S Q)] 28 (0, 0)) ∧ Wrote (fun b _ => b = z) w w' := by
  have t0 := h.t0
  have t1 := h.t1
  have m32 : T.tmod 32 = T % 32 := Int.tmod_eq_emod_of_nonneg t0
  have m16 : T.tmod 16 = T % 16 := Int.tmod_eq_emod_of_nonneg t0
  obtain ⟨b', hb'⟩ : ∃ b', Hid (b' = tbA C B L) := ⟨_, rfl⟩
  have B0 : 0 ≤ b' := by rw [hb'.out]; have := h.b0; have := h.b1; unfold tbA; split <;> omega
  have B1 : b' ≤ 1 := by rw [hb'.out]; have := h.b0; have := h.b1; unfold tbA; split <;> omega
  obtain ⟨l', hl'⟩ : ∃ l', Hid (l' = tlA T L) := ⟨_, rfl⟩
  obtain ⟨q', hq'⟩ : ∃ q', Hid (q' = tqA T L S Q) := ⟨_, rfl⟩
  have HV : Hid (tvA T C B L = if T % 16 = 15 then (if 0 < l' then 8 * b' else 0) else 0) := by
    show _ = _
    rw [hl'.out, hb'.out]
    unfold tvA
    by_cases h1 : T % 16 = 15 <;> by_cases h2 : 0 < tlA T L <;> simp [h1, h2]
  obtain ⟨sv, hsv⟩ : ∃ sv, Hid (sv = if T % 16 = 15 then (if 0 < l' then 8 * b' else 0) else 0) := ⟨_, rfl⟩
  obtain ⟨dT, hdT⟩ : ∃ d, Hid (d = toldA T) := ⟨_, rfl⟩
  rw [HV.out, ← hb'.out, ← hl'.out, ← hq'.out, ← hsv.out, ← hdT.out]
  have TF := tick_facts T C L B S Q
  rw [← hl'.out, ← hq'.out] at TF
  obtain ⟨TL, TQ⟩ := TF
  have l1 := h.l1
  obtain ⟨cc, hcc⟩ : ∃ cc, Hid (cc = tcA P C) := ⟨_, rfl⟩
  have HT := hide (apuTurn w z T P C B L S Q hb h.c0 h.c1 h.b0 h.b1)
  rw [← hb'.out, ← hcc.out] at HT
  rw [← hcc.out]
  clear hb h hb' hl' hq' hcc HV
  go_enter Try.func30, Try.ntmps30
  go_wp2_with fail
  refine HT.out.mono ?_
  rintro e w1 ⟨rfl, hb1, W1⟩
  clear HT
  have END : ∀ w3 : World, w3.heap[z]? = some (.cells #[.int .i64 T, .int .i64 P, .int .i64 cc, .int .i64 b', .int .i64 l', .bool S, .bool q'] 28 (0, 0)) → Wrote (fun b _ => b = z) w w3 → (w3.setCell ⟨z, 0, none⟩ (.int .i64 (T + 1))).heap[z]? = some (.cells #[.int .i64 (T + 1), .int .i64 P, .int .i64 cc, .int .i64 b', .int .i64 l', .bool S, .bool q'] 28 (0, 0)) ∧ Wrote (fun b _ => b = z) w (w3.setCell ⟨z, 0, none⟩ (.int .i64 (T + 1))) := fun w3 h3 W3 => ⟨by
    have := box_set7 h3 0 (.int .i64 (T + 1))
    simpa only [List.setIfInBounds_toArray, List.set_cons_succ, List.set_cons_zero] using this, Wrote.setCell W3 (fun _ => rfl) _⟩
  have HEND := hide END
  clear END
  have c1 := boxC hb1
  by_cases h32 : T % 32 = 0
  · rw [if_pos h32] at TL TQ
    go_wp2_with fail
    clear c1
    refine (apuBeat _ z T P cc b' L S Q hb1 l1).mono ?_
    rintro e w2 ⟨rfl, hb2, W2⟩
    rw [← TL, ← TQ] at hb2
    replace W2 := W1.trans W2
    have c2 := boxC hb2
    have f2 := boxF hb2
    by_cases h16 : T % 16 = 15
    · exfalso; omega
    · have HD : Hid (dT = false ∧ sv = 0) := ⟨hdT.out.trans (decide_eq_false h16), hsv.out.trans (if_neg h16)⟩
      have HX := hide (HEND.out w2 hb2 W2)
      clear hb1 hb2 W1 W2 HEND TL TQ hdT hsv
      go_wp2
      go_ret2
      exact ⟨by first | (rw [HD.out.1, HD.out.2]; done) | (rw [HD.out.1, HD.out.2]; rfl) | (rw [HD.out.1]; rfl), HX.out.1, HX.out.2⟩
  · rw [if_neg h32] at TL TQ
    rw [← TL, ← TQ] at hb1
    by_cases h16 : T % 16 = 15
    · have HD : Hid (dT = true ∧ sv = if 0 < l' then 8 * b' else 0) := ⟨hdT.out.trans (decide_eq_true h16), hsv.out.trans (if_pos h16)⟩
      clear hdT hsv TL TQ
      have HX := hide (HEND.out w1 hb1 W1)
      clear W1 HEND
      go_wp2_with fail
      have f1 := boxF hb1
      refine (apuSample _ z T P cc b' l' S q' hb1 B0 B1).mono ?_
      rintro e w2 ⟨rfl, rfl⟩
      clear hb1
      rw [← HD.out.2]
      go_wp2
      go_ret2
      exact ⟨by first | (rw [HD.out.1, HD.out.2]; done) | (rw [HD.out.1, HD.out.2]; rfl) | (rw [HD.out.1]; rfl), HX.out.1, HX.out.2⟩
    · have HD : Hid (dT = false ∧ sv = 0) := ⟨hdT.out.trans (decide_eq_false h16), hsv.out.trans (if_neg h16)⟩
      have HX := hide (HEND.out w1 hb1 W1)
      have f1 := boxF hb1
      clear hb1 W1 HEND TL TQ hdT hsv
      go_wp2
      go_ret2
      exact ⟨by first | (rw [HD.out.1, HD.out.2]; done) | (rw [HD.out.1, HD.out.2]; rfl) | (rw [HD.out.1]; rfl), HX.out.1, HX.out.2⟩
end Go.Proofs.Ytpaedkefmebjjap
