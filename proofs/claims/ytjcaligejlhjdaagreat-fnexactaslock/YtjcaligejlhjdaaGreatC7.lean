/-
  The specification's memory (chapter 6) by its contracts: MemOk, Peek.
-/
import Derived.Test.YtjcaligejlhjdaaGreatV0
import Derived.Deep.RegionLaw
import Derived.Deep.RegionLawGrows
namespace Go.Proofs.YtjcaligejlhjdaaGreat
set_option linter.unusedVariables false
open Go.ChangeShapes Go.WideShapes Go.ChangeAt Go.RowKit
def okRam (n : Nat) (g : Nat → Int) : Bool := decide (∀ i, i < n → inB (g i) 0 255 = true)
def okMem (m : Nat) (ln : Nat → Nat) (f : Nat → Nat → Int) (n : Nat) (g : Nat → Int) (bank : Int) : Bool := okImg m ln f && (decide (n = 512) && (inB bank 0 ((m : Int) - 1) && okRam n g))
theorem okMem_img {m : Nat} {ln : Nat → Nat} {f : Nat → Nat → Int} {n : Nat} {g : Nat → Int} {bank : Int} (h : okImg m ln f = false) : okMem m ln f n g bank = false := by unfold okMem; rw [h]; rfl
theorem okMem_len {m : Nat} {ln : Nat → Nat} {f : Nat → Nat → Int} {n : Nat} {g : Nat → Int} {bank : Int} (h : ¬ n = 512) : okMem m ln f n g bank = false := by unfold okMem; rw [decide_eq_false h]; simp
theorem okMem_bank {m : Nat} {ln : Nat → Nat} {f : Nat → Nat → Int} {n : Nat} {g : Nat → Int} {bank : Int} (h : inB bank 0 ((m : Int) - 1) = false) : okMem m ln f n g bank = false := by unfold okMem; rw [h]; simp
theorem okMem_ram {m : Nat} {ln : Nat → Nat} {f : Nat → Nat → Int} {n : Nat} {g : Nat → Int} {bank : Int} {j : Nat} (hj : j < n) (h : ¬ (0 ≤ g j ∧ g j ≤ 255)) : okMem m ln f n g bank = false := by
  have : okRam n g = false := decide_eq_false (fun x => h ((inB_iff _ _ _).1 (x j hj)))
  unfold okMem
  rw [this]
  simp
theorem okMem_yes {m : Nat} {ln : Nat → Nat} {f : Nat → Nat → Int} {n : Nat} {g : Nat → Int} {bank : Int} (h1 : okImg m ln f = true) (h2 : n = 512) (h3 : inB bank 0 ((m : Int) - 1) = true) (h4 : ∀ j, j < 512 → 0 ≤ g j ∧ g j ≤ 255) : okMem m ln f n g bank = true := by
  have : okRam n g = true := decide_eq_true (fun i hi => inB_yes (h4 i (by omega)))
  unfold okMem
  rw [h1, decide_eq_true h2, h3, this]
  rfl
set_option maxHeartbeats 1000000 in
theorem specMemOk (w : World) (F G : Nat → Nat → Prop) (v u : Value) (m : Nat) (ln : Nat → Nat) (f : Nat → Nat → Int) (n : Nat) (g : Nat → Int) (bank : Int) (H : IntSS .i64 w F v m ln f) (K : Ints .i64 w G u n g) :
    Calls Tryz.prog 82 #[.agg #[v], .agg #[u, .int .i64 bank]] w fun e w' => e = .returned (.bool (okMem m ln f n g bank)) ∧ Below w.heap.size w w' := by
  have L0 : Below w.heap.size w ((w.alloc (.cells #[v] 27)).alloc (.cells #[u, .int .i64 bank] 29)) := ((Below.refl _ _).alloc (Nat.le_refl _) _).alloc (by simp) _
  have H0 := H.keep (wrote_below L0 Nowhere) (fun _ _ _ x => x)
  have K0 := K.keep (wrote_below L0 Nowhere) (fun _ _ _ x => x)
  obtain ⟨ia, icap, rfl, im, -, -⟩ := H
  obtain ⟨ua, ucap, rfl, un, -, -⟩ := K
  go_enter Tryz.func82, Tryz.ntmps82
  go_wp2_with fail
  refine (specImageOk _ F _ m ln f H0).mono ?_
  rintro e w1 ⟨rfl, L1⟩
  have c1 : w1.cell? ⟨w.heap.size, 0, none⟩ = some (.slice ia m icap) := (L1.cell (by simp; omega)).trans (by go_simp)
  have c2 : w1.cell? ⟨w.heap.size + 1, 0, none⟩ = some (.slice ua n ucap) := (L1.cell (by simp)).trans (by go_simp)
  have c3 : w1.cell? ⟨w.heap.size + 1, 1, none⟩ = some (.int .i64 bank) := (L1.cell (by simp)).trans (by go_simp)
  have C1 := L0.trans (L1.mono L0.size)
  have K1 := K0.keep (wrote_below L1 Nowhere) (fun _ _ _ x => x)
  clear L1 L0 H0 K0
  cases hI : okImg m ln f
  · have HE := hide (okMem_img (n := n) (g := g) (bank := bank) hI)
    clear hI
    go_wp2
    go_ret
    exact ⟨ret_bool HE.out.symm, C1⟩
  · have HI := hide hI
    clear hI
    by_cases hn : n = 512
    · have hn' : ((n : Int) != 512) = false := by simp; omega
      have HN := hide hn
      have hn5 : 512 ≤ n := by omega
      clear hn
      cases hB : inB bank 0 ((m : Int) - 1)
      · have HE := hide (okMem_bank (ln := ln) (f := f) (n := n) (g := g) hB)
        go_wp2_with fail
        refine (l1In _ _ _ _).mono ?_
        rintro e wx ⟨rfl, rfl⟩
        rw [hB]
        go_wp2
        go_ret
        exact ⟨ret_bool HE.out.symm, C1⟩
      · have HB := hide hB
        go_wp2_with fail
        refine (l1In _ _ _ _).mono ?_
        rintro e wx ⟨rfl, rfl⟩
        rw [hB]
        clear hB
        obtain ⟨a', cap', e', hn', hrow, -⟩ := K1
        simp only [Value.slice.injEq] at e'
        obtain ⟨rfl, -, rfl⟩ := e'
        go_wp2
        go_loop [5] (fun j => ∃ r : Nat, r ≤ 512 ∧ j = .int .i64 r ∧ ∀ i, i < r → 0 ≤ g i ∧ g i ≤ 255) (fun i => 512 - (intOf i).toNat)
        case atStart => exact ⟨0, Nat.zero_le _, rfl, fun i hi => absurd hi (Nat.not_lt_zero _)⟩
        case round =>
          obtain ⟨r, hr, rfl, hby⟩ := hrel
          have HY := hide hby
          clear hby
          by_cases hrt : r < 512
          · obtain ⟨b', off', rfl, hcell'⟩ := hrow r (by omega)
            have hrt' : (r : Int) < 512 := by omega
            have hrl : (r : Int) < (n : Int) := by omega
            by_cases hin : 0 ≤ g r ∧ g r ≤ 255
            · have hin' := inB_yes hin
              have HX := hide hin
              clear hin
              go_wp2_with fail
              refine (l5Byte _ _).mono ?_
              rintro e w1 ⟨rfl, rfl⟩
              go_wp2
              go_round
              case rel =>
                refine ⟨r + 1, by omega, by go_num, fun i hi => ?_⟩
                by_cases e : i = r
                · rw [e]; exact unhide HX
                · exact unhide HY i (by omega)
              case measure => simp [intOf]; omega
            · have hin' := inB_no hin
              have HE := hide (okMem_ram (m := m) (ln := ln) (f := f) (n := n) (bank := bank) (show r < n by omega) hin)
              clear hin
              go_wp2_with fail
              refine (l5Byte _ _).mono ?_
              rintro e w1 ⟨rfl, rfl⟩
              go_wp2
              go_ret
              exact ⟨ret_bool HE.out.symm, C1⟩
          · have hrt' : ¬ (r : Int) < 512 := by omega
            have HE := hide (okMem_yes (unhide HI) (unhide HN) (unhide HB) (fun j hj => unhide HY j (by omega)))
            go_wp2
            go_ret
            exact ⟨ret_bool HE.out.symm, C1⟩
    · have hn' : ((n : Int) != 512) = true := by simp; omega
      have HE := hide (okMem_len (m := m) (ln := ln) (f := f) (g := g) (bank := bank) hn)
      clear hn
      go_wp2
      go_ret
      exact ⟨ret_bool HE.out.symm, C1⟩
end Go.Proofs.YtjcaligejlhjdaaGreat
namespace Go.Proofs.YtjcaligejlhjdaaGreat
set_option linter.unusedVariables false
open Go.ChangeShapes Go.WideShapes Go.ChangeAt Go.RowKit
theorem OwnInts.setLow {w : World} {lo : Nat} {v : Value} {n : Nat} {f : Nat → Int} (h : OwnInts w lo v n f) {d o : Nat} (hd : d < lo) (x : Value) : OwnInts (w.setCell ⟨d, o, none⟩ x) lo v n f := by
  obtain ⟨a, cap, hv, hn, hR, hF, hL⟩ := h
  have W1 : Wrote (fun b _ => b = d) w (w.setCell ⟨d, o, none⟩ x) := Wrote.setCell (R := fun b _ => b = d) (Wrote.refl _ w) (fun _ => rfl) x
  exact ⟨a, cap, hv, hn, hR.keep W1 (fun b o h e => by have := hL b o h; omega), hF.keep W1, hL⟩
theorem OwnInts.mono {w : World} {lo lo' : Nat} {v : Value} {n : Nat} {f : Nat → Int} (h : OwnInts w lo v n f) (hl : lo' ≤ lo) : OwnInts w lo' v n f := by
  obtain ⟨a, cap, hv, hn, hR, hF, hL⟩ := h
  exact ⟨a, cap, hv, hn, hR, hF, fun b o h => Nat.le_trans hl (hL b o h)⟩
set_option maxHeartbeats 1000000 in
theorem l6Copy (w : World) (G : Nat → Nat → Prop) (u : Value) (n : Nat) (g : Nat → Int) (bank : Int) (K : Ints .i64 w G u n g) :
    Calls Tryz.prog 58 #[.agg #[u, .int .i64 bank]] w fun e w' => ∃ v, e = .returned (.agg #[v, .int .i64 bank]) ∧ OwnInts w' w.heap.size v n g ∧ Below w.heap.size w w' := by
  have L0 : Below w.heap.size w ((w.alloc (.cells #[u, .int .i64 bank] 29)).alloc (.cells #[.slice none 0 0, .int .i64 0] 29)) := ((Below.refl _ _).alloc (Nat.le_refl _) _).alloc (by simp) _
  have K0 := K.keep (wrote_below L0 Nowhere) (fun _ _ _ x => x)
  obtain ⟨ua, ucap, rfl, un, hrow, -⟩ := K0
  have b1 : ((w.alloc (.cells #[.slice ua n ucap, .int .i64 bank] 29)).alloc (.cells #[.slice none 0 0, .int .i64 0] 29)).heap[w.heap.size]? = some (.cells #[.slice ua n ucap, .int .i64 bank] 29 (0, 0)) := boxA (box_new w _ _) _
  have r1 : ((w.alloc (.cells #[.slice ua n ucap, .int .i64 bank] 29)).alloc (.cells #[.slice none 0 0, .int .i64 0] 29)).heap[w.heap.size + 1]? = some (.cells #[.slice none 0 0, .int .i64 0] 29 (0, 0)) := by simpa using box_new (w.alloc (.cells #[.slice ua n ucap, .int .i64 bank] 29)) #[.slice none 0 0, .int .i64 0] 29
  go_enter Tryz.func58, Tryz.ntmps58
  go_wp2_with fail
  generalize ((w.alloc (.cells #[.slice ua n ucap, .int .i64 bank] 29)).alloc (.cells #[.slice none 0 0, .int .i64 0] 29)) = w1 at *
  have cb := boxC b1
  have cr := boxC r1
  have fr := boxF r1
  obtain ⟨i0, hi, hz0, hz1, hz2⟩ := info_parts info3
  by_cases h0 : n = 0
  · subst h0
    have hl0 : ∀ (W : World) (ad : Addr), (loadCells ad 0).run Tryz.prog W = .ok #[] W := fun W ad => by
      simpa using run_loadCells_list (P := Tryz.prog) W ad [] (fun j v h => by simp at h)
    have cb' := boxC (boxA b1 (.cells #[] 3))
    have cr' := boxC (boxA r1 (.cells #[] 3))
    have fr' := boxF (boxA r1 (.cells #[] 3))
    cases ua with
    | none =>
      go_region
      all_goals
        go_wp2
        refine bodyPost_ret (v := .agg #[.slice (some ⟨w1.heap.size, 0, none⟩) 0 0, .int .i64 bank]) (by simp [results, Tryz.results58, go_sem, cr']) rfl ?_
        exact ⟨_, rfl, ⟨_, _, rfl, by omega, fun i hi => absurd hi (Nat.not_lt_zero _), fun b o hF => absurd hF (foot_none _ _ _), fun b o hF => absurd hF (foot_none _ _ _)⟩, (((L0.alloc L0.size _).drew.setCell (by simp) _).setCell (by simp) _)⟩
    | some ad =>
      go_region
      all_goals
        go_wp2
        refine bodyPost_ret (v := .agg #[.slice (some ⟨w1.heap.size, 0, none⟩) 0 0, .int .i64 bank]) (by simp [results, Tryz.results58, go_sem, cr']) rfl ?_
        exact ⟨_, rfl, ⟨_, _, rfl, by omega, fun i hi => absurd hi (Nat.not_lt_zero _), fun b o hF => absurd hF (foot_none _ _ _), fun b o hF => absurd hF (foot_none _ _ _)⟩, (((L0.alloc L0.size _).drew.setCell (by simp) _).setCell (by simp) _)⟩
  · obtain ⟨rb, ro, rfl, -⟩ := hrow 0 (by omega)
    have HR := hide hrow
    have hgb : ∀ {w' : World}, ((w1.alloc (.cells #[] 3)).drew).grownBy w' none → Below w1.heap.size w1 w' := fun h => ((Below.refl _ w1).alloc (Nat.le_refl _) _).drew.grown h (by simp) (fun _ e => by cases e)
    have HRr : Hid (RowOf .i64 (w1.alloc (.cells #[] 3)).drew (some ⟨rb, ro, none⟩) n g) := hrow.keep (wrote_below (((Below.refl _ w1).alloc (Nat.le_refl _) _).drew) Nowhere) (fun _ _ _ x => x)
    have cb' := boxC (boxA b1 (.cells #[] 3))
    have cr' := boxC (boxA r1 (.cells #[] 3))
    have fr' := boxF (boxA r1 (.cells #[] 3))
    clear hrow
    go_region_law (first | (refine step_append_grows rfl (.tmp 3) (.tmp 5) 25 rfl 3 i0 (.int .i64 0) 1 8 Tryz.underlying25 hi hz0 hz1 hz2 rfl (by decide) (some ⟨w1.heap.size, 0, none⟩) 0 0 [] (by simp [Act.eval]) (fun _ => ⟨rfl, rfl⟩) rfl (fun _ _ j u h => by simp at h) ⟨rb, ro, none⟩ n ucap (rowVals n g) (by simp [Act.eval]) (by rw [rowVals_len, Nat.mul_one]) (rowVals_cells HRr.out) (rowVals_one _ _) (by omega) (by unfold maxLen; omega) (by omega) ?_
                            intro v' w2 hown hgrow
                            have LL := hgb hgrow
                            have hon : w2.ownsRow (w1.alloc (.cells #[] 3)).drew.heap.size 3 1 v' n (rowVals n g) := by simpa using hown
                            obtain ⟨g', cap2, rfl, hg, hlt⟩ := hon.form (by omega)
                            have cb2 := boxC (box_keep b1 LL (boxLt b1))
                            have cr2 := boxC (box_keep r1 LL (boxLt r1))
                            have fr2 := boxF (box_keep r1 LL (boxLt r1))))
    all_goals
      go_wp2
      have hg2 : w1.heap.size + 1 ≤ g' := by simpa using hg
      have hr1 := boxLt r1
      have O2 : OwnInts w2 (w.heap.size + 2) (.slice (some ⟨g', 0, none⟩) n cap2) n g := own_row hon (by omega) hlt un
      refine bodyPost_ret (v := .agg #[.slice (some ⟨g', 0, none⟩) n cap2, .int .i64 bank]) (by simp [results, Tryz.results58, go_sem, cr2]) rfl ?_
      exact ⟨_, rfl, ((O2.setLow (by omega) _).setLow (by omega) _).mono (by omega), ((L0.trans (LL.mono L0.size)).setCell (by simp) _).setCell (by simp) _⟩
end Go.Proofs.YtjcaligejlhjdaaGreat
