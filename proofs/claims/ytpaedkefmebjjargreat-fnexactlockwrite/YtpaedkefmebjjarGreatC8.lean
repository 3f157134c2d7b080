/-
  The specification's memory (chapter 6) by its contracts: copies, Poke, Push, Pull.
-/
import Derived.Test.YtpaedkefmebjjarGreatC7
import Derived.Deep.RegionLaw
import Derived.Deep.RegionLawGrows
namespace Go.Proofs.YtpaedkefmebjjarGreat
set_option linter.unusedVariables false
open Go.ChangeShapes Go.WideShapes Go.ChangeAt Go.RowKit
theorem OwnInts.setLow {w : World} {lo : Nat} {v : Value} {n : Nat} {f : Nat → Int} (h : OwnInts w lo v n f) {d o : Nat} (hd : d < lo) (x : Value) : OwnInts (w.setCell ⟨d, o, none⟩ x) lo v n f := by
  obtain ⟨a, cap, hv, hn, hR, hF, hL⟩ := h
  have W1 : Wrote (fun b _ => b = d) w (w.setCell ⟨d, o, none⟩ x) := Wrote.setCell (R := fun b _ => b = d) (Wrote.refl _ w) (fun _ => rfl) x
  exact ⟨a, cap, hv, hn, hR.keep W1 (fun b o h e => by have := hL b o h; omega), hF.keep W1, hL⟩
theorem OwnInts.mono {w : World} {lo lo' : Nat} {v : Value} {n : Nat} {f : Nat → Int} (h : OwnInts w lo v n f) (hl : lo' ≤ lo) : OwnInts w lo' v n f := by
  obtain ⟨a, cap, hv, hn, hR, hF, hL⟩ := h
  exact ⟨a, cap, hv, hn, hR, hF, fun b o h => Nat.le_trans hl (hL b o h)⟩
set_option maxHeartbeats 1000000 in
theorem l6Copy (w : World) (G : Nat → Nat → Prop) (u : Value) (n : Nat) (g : Nat → Int) (bank : Int) (K : Ints .i64 w G u n g) :
    Calls Tryz.prog 55 #[.agg #[u, .int .i64 bank]] w fun e w' => ∃ v, e = .returned (.agg #[v, .int .i64 bank]) ∧ OwnInts w' w.heap.size v n g ∧ Below w.heap.size w w' := by
  have L0 : Below w.heap.size w ((w.alloc (.cells #[u, .int .i64 bank] 42)).alloc (.cells #[.slice none 0 0, .int .i64 0] 42)) := ((Below.refl _ _).alloc (Nat.le_refl _) _).alloc (by simp) _
  have K0 := K.keep (wrote_below L0 Nowhere) (fun _ _ _ x => x)
  obtain ⟨ua, ucap, rfl, un, hrow, -⟩ := K0
  have b1 : ((w.alloc (.cells #[.slice ua n ucap, .int .i64 bank] 42)).alloc (.cells #[.slice none 0 0, .int .i64 0] 42)).heap[w.heap.size]? = some (.cells #[.slice ua n ucap, .int .i64 bank] 42 (0, 0)) := boxA (box_new w _ _) _
  have r1 : ((w.alloc (.cells #[.slice ua n ucap, .int .i64 bank] 42)).alloc (.cells #[.slice none 0 0, .int .i64 0] 42)).heap[w.heap.size + 1]? = some (.cells #[.slice none 0 0, .int .i64 0] 42 (0, 0)) := by simpa using box_new (w.alloc (.cells #[.slice ua n ucap, .int .i64 bank] 42)) #[.slice none 0 0, .int .i64 0] 42
  go_enter Tryz.func55, Tryz.ntmps55
  go_wp2_with fail
  generalize ((w.alloc (.cells #[.slice ua n ucap, .int .i64 bank] 42)).alloc (.cells #[.slice none 0 0, .int .i64 0] 42)) = w1 at *
  have cb := boxC b1
  have cr := boxC r1
  have fr := boxF r1
  obtain ⟨i0, hi, hz0, hz1, hz2⟩ := info_parts info3
  by_cases h0 : n = 0
  · subst h0
    have hl0 : ∀ (W : World) (ad : Addr), (loadCells ad 0).run Tryz.prog W = .ok #[] W := fun W ad => by
      simpa using run_loadCells_list (P := Tryz.prog) W ad [] (fun j v h => by simp at h)
    have cb' := boxC (boxA b1 (.cells #[] 3))
    have cr' := boxC (boxA r1 (.cells #[] 3))
    have fr' := boxF (boxA r1 (.cells #[] 3))
    cases ua with
    | none =>
      go_region
      all_goals
        go_wp2
        refine bodyPost_ret (v := .agg #[.slice (some ⟨w1.heap.size, 0, none⟩) 0 0, .int .i64 bank]) (by simp [results, Tryz.results55, go_sem, cr']) rfl ?_
        exact ⟨_, rfl, ⟨_, _, rfl, by omega, fun i hi => absurd hi (Nat.not_lt_zero _), fun b o hF => absurd hF (foot_none _ _ _), fun b o hF => absurd hF (foot_none _ _ _)⟩, (((L0.alloc L0.size _).drew.setCell (by simp) _).setCell (by simp) _)⟩
    | some ad =>
      go_region
      all_goals
        go_wp2
        refine bodyPost_ret (v := .agg #[.slice (some ⟨w1.heap.size, 0, none⟩) 0 0, .int .i64 bank]) (by simp [results, Tryz.results55, go_sem, cr']) rfl ?_
        exact ⟨_, rfl, ⟨_, _, rfl, by omega, fun i hi => absurd hi (Nat.not_lt_zero _), fun b o hF => absurd hF (foot_none _ _ _), fun b o hF => absurd hF (foot_none _ _ _)⟩, (((L0.alloc L0.size _).drew.setCell (by simp) _).setCell (by simp) _)⟩
  · obtain ⟨rb, ro, rfl, -⟩ := hrow 0 (by omega)
    have HR := hide hrow
    have hgb : ∀ {w' : World}, ((w1.alloc (.cells #[] 3)).drew).grownBy w' none → Below w1.heap.size w1 w' := fun h => ((Below.refl _ w1).alloc (Nat.le_refl _) _).drew.grown h (by simp) (fun _ e => by cases e)
    have HRr : Hid (RowOf .i64 (w1.alloc (.cells #[] 3)).drew (some ⟨rb, ro, none⟩) n g) := hrow.keep (wrote_below (((Below.refl _ w1).alloc (Nat.le_refl _) _).drew) Nowhere) (fun _ _ _ x => x)
    have cb' := boxC (boxA b1 (.cells #[] 3))
    have cr' := boxC (boxA r1 (.cells #[] 3))
    have fr' := boxF (boxA r1 (.cells #[] 3))
    clear hrow
    go_region_law (first | (refine step_append_grows rfl (.tmp 3) (.tmp 5) 25 rfl 3 i0 (.int .i64 0) 1 8 Tryz.underlying25 hi hz0 hz1 hz2 rfl (by decide) (some ⟨w1.heap.size, 0, none⟩) 0 0 [] (by simp [Act.eval]) (fun _ => ⟨rfl, rfl⟩) rfl (fun _ _ j u h => by simp at h) ⟨rb, ro, none⟩ n ucap (rowVals n g) (by simp [Act.eval]) (by rw [rowVals_len, Nat.mul_one]) (rowVals_cells HRr.out) (rowVals_one _ _) (by omega) (by unfold maxLen; omega) (by omega) ?_
                            intro v' w2 hown hgrow
                            have LL := hgb hgrow
                            have hon : w2.ownsRow (w1.alloc (.cells #[] 3)).drew.heap.size 3 1 v' n (rowVals n g) := by simpa using hown
                            obtain ⟨g', cap2, rfl, hg, hlt⟩ := hon.form (by omega)
                            have cb2 := boxC (box_keep b1 LL (boxLt b1))
                            have cr2 := boxC (box_keep r1 LL (boxLt r1))
                            have fr2 := boxF (box_keep r1 LL (boxLt r1))))
    all_goals
      go_wp2
      have hg2 : w1.heap.size + 1 ≤ g' := by simpa using hg
      have hr1 := boxLt r1
      have O2 : OwnInts w2 (w.heap.size + 2) (.slice (some ⟨g', 0, none⟩) n cap2) n g := own_row hon (by omega) hlt un
      refine bodyPost_ret (v := .agg #[.slice (some ⟨g', 0, none⟩) n cap2, .int .i64 bank]) (by simp [results, Tryz.results55, go_sem, cr2]) rfl ?_
      exact ⟨_, rfl, ((O2.setLow (by omega) _).setLow (by omega) _).mono (by omega), ((L0.trans (LL.mono L0.size)).setCell (by simp) _).setCell (by simp) _⟩
theorem wrap_byte (x : Int) : wrap64 x % 256 = x % 256 := by
  unfold wrap64
  omega
theorem step_go {P : Program} {ops : Array Oper} {o : Oper} {a : Act} {w : World} {K : Act → World → Prop} {Q : Exit → Act → World → Prop} {E : Prop} (hg : o.guard = none) (f : FuncId) (vs : Array Value)
    (hE : (execOp a.eval o).run P w = .ok (.enter f vs) w)
    (h : Calls P f vs w fun e w' => ∃ v, e = .returned v ∧ K (a.put o.dst v) w') : if Region.wanted o (yielded ops a.tmps) = true then Oper.wp P o a w K Q else E := by
  have hw : Region.wanted o (yielded ops a.tmps) = true := by simp [Region.wanted, hg]
  rw [if_pos hw]
  unfold Oper.wp
  rw [hE, Oper.upon_enter]
  exact h.mono (by rintro e w' ⟨v, rfl, hk⟩; exact hk)
theorem only8' (w : World) (d : Nat) (v0 v1 v2 v3 v4 v5 v6 v7 : Value) : Below d w ((((((((w.setCell ⟨d, 0, none⟩ v0).setCell ⟨d, 1, none⟩ v1).setCell ⟨d, 2, none⟩ v2).setCell ⟨d, 3, none⟩ v3).setCell ⟨d, 4, none⟩ v4).setCell ⟨d, 5, none⟩ v5).setCell ⟨d, 6, none⟩ v6).setCell ⟨d, 7, none⟩ v7) :=
  ((((((((Below.refl d w).setCell (Nat.le_refl _) _).setCell (Nat.le_refl _) _).setCell (Nat.le_refl _) _).setCell (Nat.le_refl _) _).setCell (Nat.le_refl _) _).setCell (Nat.le_refl _) _).setCell (Nat.le_refl _) _).setCell (Nat.le_refl _) _
end Go.Proofs.YtpaedkefmebjjarGreat
