/-
  How many pictures there are, and of which length (chapter 12 of the specification).
-/
import Derived.Test.YtjcaligejlhjdaaGreatPD
import Derived.Test.YtjcaligejlhjdaaGreatI9
import Derived.Lib.QuietBelow
import Derived.Deep.DeepCutAuto
import Derived.BigQuiet
namespace Go.Proofs.YtjcaligejlhjdaaGreat
set_option linter.unusedVariables false
set_option linter.unusedSimpArgs false
open Go.ChangeShapes Go.WideShapes Go.ChangeAt Go.RowKit Go.Sort
def frT (t : Int) : Int := (t + 15) / 64
def okFrT (m : Nat) (ln : Nat → Nat) (t : Int) : Bool := decide ((∀ i, i < m → ln i = 48) ∧ (m : Int) = frT t)
theorem okFrT_no {m : Nat} {ln : Nat → Nat} {t : Int} {i : Nat} (hi : i < m) (h : ¬ ln i = 48) : okFrT m ln t = false := decide_eq_false (fun x => h (x.1 i hi))
theorem okFrT_end {m : Nat} {ln : Nat → Nat} {t : Int} (h : ∀ i, i < m → ln i = 48) : okFrT m ln t = ((m : Int) == frT t) := by
  by_cases e : (m : Int) = frT t
  · rw [okFrT, decide_eq_true ⟨h, e⟩]; exact (beq_iff_eq.2 e).symm
  · rw [okFrT, decide_eq_false (fun x => e x.2)]; exact (beq_eq_false_iff_ne.2 e).symm
theorem okPpu_rangeT {t c s ad pl : Int} {n : Nat} {f : Nat → Int} {m : Nat} {g : Nat → Int} (h : okPpu t c s ad pl n f m g = true) : 0 ≤ t ∧ t ≤ 20000 := by
  unfold okPpu at h
  rw [Bool.and_eq_true] at h
  exact (inB_iff _ _ _).1 h.1
theorem l12FramesT (w : World) (t : Int) (h0 : 0 ≤ t) (h1 : t ≤ 20000) : Calls Tryz.prog 150 #[.int .i64 t] w fun e w' => e = .returned (.int .i64 (frT t)) ∧ w' = w := by
  have d1 : (t + 15).tdiv 64 = (t + 15) / 64 := Int.tdiv_eq_ediv_of_nonneg (by omega)
  have d2 : (t + 64 - 48 - 1).tdiv 64 = (t + 64 - 48 - 1) / 64 := Int.tdiv_eq_ediv_of_nonneg (by omega)
  go_enter Tryz.func150, Tryz.ntmps150
  go_wp2
  go_ret
  exact ⟨ret_int (by unfold frT; omega), rfl⟩
theorem l12FramesOkT (w : World) (F : Nat → Nat → Prop) (u : Value) (m : Nat) (ln : Nat → Nat) (f : Nat → Nat → Int) (t : Int) (H : IntSS .i64 w F u m ln f) (h0 : 0 ≤ t) (h1 : t ≤ 20000) : Calls Tryz.prog 121 #[u, .int .i64 t] w fun e w' => e = .returned (.bool (okFrT m ln t)) ∧ Below w.heap.size w w' := by
  obtain ⟨a, cap, rfl, hn, -, hc⟩ := H
  obtain ⟨r, hr⟩ : ∃ r, Hid (r = okFrT m ln t) := ⟨_, rfl⟩
  rw [← hr.out]
  go_enter Tryz.func121, Tryz.ntmps121
  go_wp2
  go_loop [5] (fun i => ∃ q : Nat, q ≤ m ∧ i = .int .i64 q ∧ ∀ i, i < q → ln i = 48) (fun i => m - (intOf i).toNat)
  case atStart => exact ⟨0, Nat.zero_le _, rfl, fun i hi => absurd hi (Nat.not_lt_zero _)⟩
  case round =>
    obtain ⟨q, hq, rfl, hok⟩ := hrel
    have HO := hide hok
    clear hok
    by_cases hlt : q < m
    · obtain ⟨b, off, u, rfl, hcell, a', cap', rfl, hn', hrow, -⟩ := hc q hlt
      have hlt' : (q : Int) < (m : Int) := by omega
      by_cases hl : ln q = 48
      · have hl' : ((ln q : Int) != 48) = false := by simp; omega
        have HL := hide hl
        clear hl
        go_wp2
        go_round
        case rel =>
          refine ⟨q + 1, by omega, by go_num, fun i hi => ?_⟩
          by_cases e : i = q
          · rw [e]; exact unhide HL
          · exact unhide HO i (by omega)
        case measure => simp [intOf]; omega
      · have hl' : ((ln q : Int) != 48) = true := by simp; omega
        have HI := hide (hr.out.trans (okFrT_no hlt hl))
        clear hl
        go_wp2
        go_ret
        exact ⟨ret_bool (unhide HI).symm, Below.refl _ _⟩
    · have hlt' : ¬ (q : Int) < (m : Int) := by omega
      have e : q = m := by omega
      subst e
      have HI := hide (hr.out.trans (okFrT_end (unhide HO)))
      go_wp2_with fail
      refine (l12FramesT _ t h0 h1).mono ?_
      rintro e w1 ⟨rfl, rfl⟩
      go_wp2
      go_ret
      exact ⟨ret_bool (unhide HI).symm, Below.refl _ _⟩
end Go.Proofs.YtjcaligejlhjdaaGreat
namespace Go.Proofs.YtjcaligejlhjdaaGreat
set_option linter.unusedVariables false
set_option linter.unusedSimpArgs false
open Go.ChangeShapes Go.WideShapes Go.ChangeAt Go.RowKit Go.Sort
theorem framesByT (w : World) (t : Int) (h0 : 0 ≤ t) (h1 : t ≤ 20000) : Calls Tryz.prog 158 #[.int .i64 t] w fun e w' => e = .returned (.int .i64 (frT t)) ∧ w' = w := by
  have HE : Hid (max (t + 64 - 1 - 48) 0 / 64 = frT t) := by show _ = _; unfold frT; rw [Int.max_eq_left (by omega), show t + 64 - 1 - 48 = t + 15 by omega]
  have HF := hide (implFrameOf w (t + 64 - 1 - 48) (by omega))
  rw [HE.out] at HF
  go_enter Tryz.func158, Tryz.ntmps158
  go_wp2_with fail
  refine HF.out.mono ?_
  rintro e w1 ⟨rfl, rfl⟩
  go_wp2
  go_ret
  exact ⟨rfl, rfl⟩
theorem samplesByT (w : World) (t : Int) (h0 : 0 ≤ t) (h1 : t ≤ 20000) : Calls Tryz.prog 159 #[.int .i64 t] w fun e w' => e = .returned (.int .i64 (t / 16)) ∧ w' = w := by
  have d1 : t.tdiv 16 = t / 16 := Int.tdiv_eq_ediv_of_nonneg h0
  go_enter Tryz.func159, Tryz.ntmps159
  go_wp2
  go_ret
  exact ⟨rfl, rfl⟩
theorem areSamplesT (w : World) (a : Option Addr) (n c : Nat) (hn : n ≤ 1048576) (t : Int) (h0 : 0 ≤ t) (h1 : t ≤ 20000) : Calls Tryz.prog 135 #[.slice a n c, .int .i64 t] w fun e w' => e = .returned (.bool ((n : Int) == t / 16)) ∧ w' = w := by
  obtain ⟨r, hr⟩ : ∃ r, Hid (r = ((n : Int) == t / 16)) := ⟨_, rfl⟩
  rw [← hr.out]
  go_enter Tryz.func135, Tryz.ntmps135
  go_wp2_with fail
  refine (samplesByT _ t h0 h1).mono ?_
  rintro e w1 ⟨rfl, rfl⟩
  go_wp2
  go_ret
  exact ⟨ret_bool hr.out.symm, rfl⟩
theorem areFramesT (w : World) (F : Nat → Nat → Prop) (u : Value) (m : Nat) (ln : Nat → Nat) (f : Nat → Nat → Int) (t : Int) (H : IntSS .i64 w F u m ln f) (h0 : 0 ≤ t) (h1 : t ≤ 20000) : Calls Tryz.prog 133 #[u, .int .i64 t] w fun e w' => e = .returned (.bool (okFrT m ln t)) ∧ Below w.heap.size w w' := by
  obtain ⟨a, cap, rfl, hn, -, hc⟩ := H
  obtain ⟨r, hr⟩ : ∃ r, Hid (r = okFrT m ln t) := ⟨_, rfl⟩
  rw [← hr.out]
  go_enter Tryz.func133, Tryz.ntmps133
  go_wp2
  go_loop [9] (fun i => ∃ q : Nat, q ≤ m ∧ i = .int .i64 q ∧ ∀ i, i < q → ln i = 48) (fun i => m - (intOf i).toNat)
  case atStart => exact ⟨0, Nat.zero_le _, rfl, fun i hi => absurd hi (Nat.not_lt_zero _)⟩
  case round =>
    obtain ⟨q, hq, rfl, hok⟩ := hrel
    have HO := hide hok
    clear hok
    by_cases hlt : q < m
    · obtain ⟨b, off, u, rfl, hcell, a', cap', rfl, hn', hrow, -⟩ := hc q hlt
      have hlt' : (q : Int) < (m : Int) := by omega
      by_cases hl : ln q = 48
      · have hl' : ((ln q : Int) != 48) = false := by simp; omega
        have HL := hide hl
        clear hl
        go_wp2
        go_round
        case rel =>
          refine ⟨q + 1, by omega, by go_num, fun i hi => ?_⟩
          by_cases e : i = q
          · rw [e]; exact unhide HL
          · exact unhide HO i (by omega)
        case measure => simp [intOf]; omega
      · have hl' : ((ln q : Int) != 48) = true := by simp; omega
        have HI := hide (hr.out.trans (okFrT_no hlt hl))
        clear hl
        go_wp2
        go_ret
        exact ⟨ret_bool (unhide HI).symm, Below.refl _ _⟩
    · have hlt' : ¬ (q : Int) < (m : Int) := by omega
      have e : q = m := by omega
      subst e
      have HI := hide (hr.out.trans (okFrT_end (unhide HO)))
      go_wp2_with fail
      refine (framesByT _ t h0 h1).mono ?_
      rintro e w1 ⟨rfl, rfl⟩
      go_wp2
      go_ret
      exact ⟨ret_bool (unhide HI).symm, Below.refl _ _⟩
end Go.Proofs.YtjcaligejlhjdaaGreat
