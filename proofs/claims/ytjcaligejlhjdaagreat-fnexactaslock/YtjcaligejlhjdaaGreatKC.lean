/-
  Chapter 12 of the specification by its contracts: lists of lists copied.
-/
import Derived.Test.YtjcaligejlhjdaaGreatKB
import Derived.Test.YtjcaligejlhjdaaGreatG0
import Derived.Deep.DeepCutAuto
namespace Go.Proofs.YtjcaligejlhjdaaGreat
set_option linter.unusedVariables false
set_option linter.unusedSimpArgs false
open Go.ChangeShapes Go.WideShapes Go.ChangeAt Go.RowKit
theorem psum_leK12 {ln : Nat → Nat} {K : Nat} : ∀ {m : Nat}, (∀ i, i < m → ln i ≤ K) → psum ln m ≤ m * K
  | 0, _ => by simp [psum]
  | m + 1, h => by
    have h1 := psum_leK12 (m := m) (fun i hi => h i (by omega))
    have h2 := h m (by omega)
    simp only [psum]
    rw [Nat.succ_mul]
    omega
theorem psum_big {ln : Nat → Nat} {m : Nat} (hm : m ≤ 1048576) (h : ∀ i, i < m → ln i ≤ 1048576) : psum ln m ≤ 1099511627776 := by
  have h1 := psum_leK12 h
  have h2 := Nat.mul_le_mul_right 1048576 hm
  omega
set_option maxRecDepth 40000 in
set_option maxHeartbeats 4000000 in
theorem l12Image (w : World) (F : Nat → Nat → Prop) (u : Value) (m : Nat) (ln : Nat → Nat) (f : Nat → Nat → Int) (H : IntSS .i64 w F u m ln f) : Calls Tryz.prog 25 #[.agg #[u]] w fun e w' => ∃ v, e = .returned (.agg #[v]) ∧ SsOn w' (fun b => w.heap.size ≤ b ∧ b < w'.heap.size) v m ln f ∧ Below w.heap.size w w' := by
  obtain ⟨a, cap, rfl, hn, -, hc⟩ := H
  have hps : psum ln m ≤ 1099511627776 := psum_big hn (fun i hi => by obtain ⟨b, off, u, -, -, a', c', -, h, -⟩ := hc i hi; exact h)
  have L0 : Below w.heap.size w (((w.alloc (.cells #[.slice a m cap] 27)).alloc (.cells #[.slice none 0 0] 27)).alloc (.cells #[.slice none 0 0] 27)) := (((Below.refl _ _).alloc (Nat.le_refl _) _).alloc (by simp) _).alloc (by simp; omega) _
  have B0 : (((w.alloc (.cells #[.slice a m cap] 27)).alloc (.cells #[.slice none 0 0] 27)).alloc (.cells #[.slice none 0 0] 27)).heap[w.heap.size]? = some (.cells #[.slice a m cap] 27 (0, 0)) := boxA (boxA (box_new w _ _) _) _
  have B1 : (((w.alloc (.cells #[.slice a m cap] 27)).alloc (.cells #[.slice none 0 0] 27)).alloc (.cells #[.slice none 0 0] 27)).heap[w.heap.size + 1]? = some (.cells #[.slice none 0 0] 27 (0, 0)) := boxA (by simpa using box_new (w.alloc (.cells #[.slice a m cap] 27)) #[.slice none 0 0] 27) _
  have B2 : (((w.alloc (.cells #[.slice a m cap] 27)).alloc (.cells #[.slice none 0 0] 27)).alloc (.cells #[.slice none 0 0] 27)).heap[w.heap.size + 1 + 1]? = some (.cells #[.slice none 0 0] 27 (0, 0)) := by simpa using box_new ((w.alloc (.cells #[.slice a m cap] 27)).alloc (.cells #[.slice none 0 0] 27)) #[.slice none 0 0] 27
  have HL := hide hc
  clear hc
  go_enter Tryz.func25, Tryz.ntmps25
  go_wp2
  generalize ((w.alloc (.cells #[.slice a m cap] 27)).alloc (.cells #[.slice none 0 0] 27)).alloc (.cells #[.slice none 0 0] 27) = W0 at *
  go_loopw [4] (fun i wr => ∃ (q : Nat) (gb cp : Nat → Nat) (ov : Value), q ≤ m ∧ i = .int .i64 q ∧ SG wr (w.heap.size + 3) ov q gb cp ln f ∧ wr.heap[w.heap.size]? = some (.cells #[.slice a m cap] 27 (0, 0)) ∧ wr.heap[w.heap.size + 1]? = some (.cells #[.slice none 0 0] 27 (0, 0)) ∧ wr.heap[w.heap.size + 1 + 1]? = some (.cells #[ov] 27 (0, 0)) ∧ Below w.heap.size w wr) (fun i _ => m - (intOf i).toNat)
  case atStart => exact ⟨0, fun _ => 0, fun _ => 0, .slice none 0 0, Nat.zero_le _, rfl, SG.nil _ _ _ _ _ _, B0, B1, B2, L0⟩
  case round =>
    obtain ⟨q, gb, cp, ov, hq, rfl, hG, b0, b1, b2, hL⟩ := hrel
    clear B0 B1 B2 L0
    have hz := boxLt b2
    by_cases hqm : q < m
    · have hqm' : (q : Int) < (m : Int) := by omega
      obtain ⟨b, off, u', rfl, hcell, hI⟩ := HL.out q hqm
      have hbl := block_lt_of_cell hcell
      have hcell' : wr.cell? ⟨b, off + q, none⟩ = some u' := (hL.cell hbl).trans hcell
      have hI' := hI.keep (wrote_below hL Nowhere) (fun _ _ _ x => x)
      have wq : IntKind.i64.wrap (q : Int) = q := by rw [IntKind.wrap_i64]; omega
      have hqi : (0 : Int) ≤ (q : Int) := by omega
      have hob : ∀ g, ov.ownBlock = some g → w.heap.size + 3 ≤ g ∧ g < wr.heap.size := fun g hg => own_at hG.own hg
      obtain ⟨S, hS⟩ : ∃ S, Hid (S = wr.heap.size) := ⟨_, rfl⟩
      obtain ⟨ua, ux, rfl, un, ur, uF⟩ := id hI'
      have c0 := boxC b0
      go_upto_region 5 with (fail)
      clear c0
      refine wp_region_eff [some 13, some 14, some 15, some 16, some 17, some 18, some 19, some 20, some 21, some 22, some 23, some 24, none] (by kernel_rfl) (by kernel_rfl) (by kernel_rfl) (by kernel_rfl) (by simp [slotsOf])
        (fun j b' _ => (j = 10 ∧ ov.ownBlock = some b') ∨ (j = 12 ∧ b' = w.heap.size + 1 + 1))
        (fun i v W => match i with
          | 0 => v = .pointer (some ⟨w.heap.size + 1 + 1, 0, none⟩)
          | 1 => v = ov
          | 2 => ∃ gE, v = .slice (some ⟨gE, 0, none⟩) 0 0 ∧ W.heap[gE]? = some (.cells #[] 3 (0, 0)) ∧ S ≤ gE
          | 3 => v = .pointer (some ⟨w.heap.size, 0, none⟩)
          | 4 => v = .slice (some ⟨b, off, none⟩) m cap
          | 5 => v = .int .i64 (q : Int)
          | 6 => v = .pointer (some ⟨b, off + q, none⟩)
          | 7 => v = .slice ua (ln q) ux
          | 8 => ∃ gN cN, v = .slice (some ⟨gN, 0, none⟩) (ln q) cN ∧ Row W (w.heap.size + 3) gN (ln q) cN (f q) ∧ S ≤ gN
          | 9 => ∃ gB gN cN, v = .slice (some ⟨gB, 0, none⟩) 1 1 ∧ W.heap[gB]? = some (.cells #[.slice (some ⟨gN, 0, none⟩) (ln q) cN] 25 (0, 0)) ∧ Row W (w.heap.size + 3) gN (ln q) cN (f q) ∧ S ≤ gN ∧ S ≤ gB
          | 10 => ∃ g' c' gb' cp', v = .slice (some ⟨g', 0, none⟩) (q + 1) c' ∧ SG W (w.heap.size + 3) v (q + 1) gb' cp' ln f
          | 11 => v = .pointer (some ⟨w.heap.size + 1 + 1, 0, none⟩)
          | _ => ∃ g' c' gb' cp', W.heap[w.heap.size + 1 + 1]? = some (.cells #[.slice (some ⟨g', 0, none⟩) (q + 1) c'] 27 (0, 0)) ∧ SG W (w.heap.size + 3) (.slice (some ⟨g', 0, none⟩) (q + 1) c') (q + 1) gb' cp' ln f) ?_ ?_ ?_
      · intro i j o v W W' hij ho hnw hW h
        have far : ∀ (g k : Nat), S ≤ g → ¬ ((j = 10 ∧ ov.ownBlock = some g) ∨ (j = 12 ∧ g = w.heap.size + 1 + 1)) := fun g k hg hR => by
          have := hS.out
          rcases hR with ⟨-, h⟩ | ⟨-, h⟩
          · have := hob _ h; omega
          · omega
        match i, ho, hnw, hij, h with
        | 0, _, _, _, h => exact h
        | 1, _, _, _, h => exact h
        | 2, _, _, _, ⟨gE, h1, h2, h3⟩ => exact ⟨gE, h1, box_wrote h2 hW (fun o => far gE o h3), h3⟩
        | 3, _, _, _, h => exact h
        | 4, _, _, _, h => exact h
        | 5, _, _, _, h => exact h
        | 6, _, _, _, h => exact h
        | 7, _, _, _, h => exact h
        | 8, _, _, _, ⟨gN, cN, h1, h2, h3⟩ => exact ⟨gN, cN, h1, h2.keep hW (fun o => far gN o h3), h3⟩
        | 9, _, _, _, ⟨gB, gN, cN, h1, h2, h3, h4, h5⟩ => exact ⟨gB, gN, cN, h1, box_wrote h2 hW (fun o => far gB o h5), h3.keep hW (fun o => far gN o h4), h4, h5⟩
        | 10, _, _, hij, ⟨g', c', gb', cp', h1, h2⟩ =>
          refine ⟨g', c', gb', cp', h1, h2.keep hW (fun g o hg hR => ?_) (fun i o hi hR => ?_)⟩
          · rcases hR with ⟨e, -⟩ | ⟨-, e⟩
            · exact hij e.symm
            · have := own_at h2.own hg; omega
          · rcases hR with ⟨e, -⟩ | ⟨-, e⟩
            · exact hij e.symm
            · have := (h2.rows i hi).parts.1; omega
        | 11, _, _, _, h => exact h
        | 12, ho, hnw, hij, ⟨g', c', gb', cp', h1, h2⟩ =>
          simp only [List.getElem?_toArray, List.getElem?_cons_zero, List.getElem?_cons_succ, Option.some.injEq] at ho
          subst ho
          by_cases e10 : j = 10
          · subst e10
            cases hnw.symm.trans (show waitsB _ 10 = true by kernel_rfl)
          · have no : ∀ (b' k : Nat), ¬ ((j = 10 ∧ ov.ownBlock = some b') ∨ (j = 12 ∧ b' = w.heap.size + 1 + 1)) := fun b' k hR => by rcases hR with ⟨e, -⟩ | ⟨e, -⟩ <;> omega
            exact ⟨g', c', gb', cp', box_wrote h1 hW (fun o => no _ o), h2.keep hW (fun g o _ => no g o) (fun i o _ => no _ o)⟩
        | n + 13, ho, _, _, _ => simp at ho
      · intro i o a' W K ho F L hw hK
        have hS' := hS.out
        have t1 := F.get (t := 1) (v := .pointer (some ⟨w.heap.size, 0, none⟩)) (by decide) rfl
        have t3 := F.get (t := 3) (v := .pointer (some ⟨w.heap.size + 1 + 1, 0, none⟩)) (by decide) rfl
        have t4 := F.get (t := 4) (v := .int .i64 (q : Int)) (by decide) rfl
        have low : ∀ (g j : Nat), g < w.heap.size + 1 + 1 → ¬ ((j = 10 ∧ ov.ownBlock = some g) ∨ (j = 12 ∧ g = w.heap.size + 1 + 1)) := fun g j hg hR => by
          rcases hR with ⟨-, h⟩ | ⟨-, h⟩
          · have := hob _ h; omega
          · omega
        have LW : Below w.heap.size w W := hL.trans (L.below hL.size (fun g k hg ⟨j, _, _, _, _, hR⟩ => low g j (by omega) hR))
        have r0 := boxC (box_wrote b0 L (fun k ⟨j, _, _, _, _, hR⟩ => low _ j (by omega) hR))
        have rc : W.cell? ⟨b, off + q, none⟩ = some (.slice ua (ln q) ux) := (LW.cell hbl).trans hcell
        have WS : S ≤ W.heap.size := by have := L.size; omega
        match i with
        | 0 =>
          simp only [List.getElem?_toArray, List.getElem?_cons_zero, List.getElem?_cons_succ, Option.some.injEq] at ho
          subst ho
          go_simp
          exact hK _ _ (Wrote.refl _ _) rfl
        | 1 =>
          simp only [List.getElem?_toArray, List.getElem?_cons_zero, List.getElem?_cons_succ, Option.some.injEq] at ho
          subst ho
          have q0 : a'.tmps[13]?.getD undef = .pointer (some ⟨w.heap.size + 1 + 1, 0, none⟩) := hw 0 (by kernel_rfl)
          have r2 := boxC (box_wrote b2 L (fun k ⟨j, oj, hj, hoj, hwj, hR⟩ => by
            rcases hR with ⟨-, h⟩ | ⟨rfl, -⟩
            · have := hob _ h; omega
            · simp only [List.getElem?_toArray, List.getElem?_cons_zero, List.getElem?_cons_succ, Option.some.injEq] at hoj
              subst hoj
              cases hwj.symm.trans (show waitsB _ 1 = true by kernel_rfl)))
          go_simp
          exact hK _ _ (Wrote.refl _ _) rfl
        | 2 =>
          simp only [List.getElem?_toArray, List.getElem?_cons_zero, List.getElem?_cons_succ, Option.some.injEq] at ho
          subst ho
          go_simp
          exact hK _ _ ((Wrote.refl _ W).alloc _) ⟨_, rfl, box_new W #[] 3, WS⟩
        | 3 =>
          simp only [List.getElem?_toArray, List.getElem?_cons_zero, List.getElem?_cons_succ, Option.some.injEq] at ho
          subst ho
          go_simp
          exact hK _ _ (Wrote.refl _ _) rfl
        | 4 =>
          simp only [List.getElem?_toArray, List.getElem?_cons_zero, List.getElem?_cons_succ, Option.some.injEq] at ho
          subst ho
          have q0 : a'.tmps[16]?.getD undef = .pointer (some ⟨w.heap.size, 0, none⟩) := hw 3 (by kernel_rfl)
          go_simp
          exact hK _ _ (Wrote.refl _ _) rfl
        | 5 =>
          simp only [List.getElem?_toArray, List.getElem?_cons_zero, List.getElem?_cons_succ, Option.some.injEq] at ho
          subst ho
          go_simp
          exact hK _ _ (Wrote.refl _ _) rfl
        | 6 =>
          simp only [List.getElem?_toArray, List.getElem?_cons_zero, List.getElem?_cons_succ, Option.some.injEq] at ho
          subst ho
          have q0 : a'.tmps[17]?.getD undef = .slice (some ⟨b, off, none⟩) m cap := hw 4 (by kernel_rfl)
          have q1 : a'.tmps[18]?.getD undef = .int .i64 (q : Int) := hw 5 (by kernel_rfl)
          go_simp
          exact hK _ _ (Wrote.refl _ _) rfl
        | 7 =>
          simp only [List.getElem?_toArray, List.getElem?_cons_zero, List.getElem?_cons_succ, Option.some.injEq] at ho
          subst ho
          have q0 : a'.tmps[19]?.getD undef = .pointer (some ⟨b, off + q, none⟩) := hw 6 (by kernel_rfl)
          go_simp
          exact hK _ _ (Wrote.refl _ _) rfl
        | 8 =>
          simp only [List.getElem?_toArray, List.getElem?_cons_zero, List.getElem?_cons_succ, Option.some.injEq] at ho
          subst ho
          obtain ⟨gE, q0, q1, q2⟩ : ∃ gE, a'.tmps[15]?.getD undef = .slice (some ⟨gE, 0, none⟩) 0 0 ∧ W.heap[gE]? = some (.cells #[] 3 (0, 0)) ∧ S ≤ gE := hw 2 (by kernel_rfl)
          have q3 : a'.tmps[20]?.getD undef = .slice ua (ln q) ux := hw 7 (by kernel_rfl)
          refine wp_copy W (.tmp 15) (.tmp 20) rfl gE (by simpa [Act.eval] using q0) q1 (w.heap.size + 3) (by omega) _ _ (ln q) (f q) (by simpa [Act.eval] using q3) (hI.keep (wrote_below LW Nowhere) (fun _ _ _ x => x)) ?_
          intro gN cN W' hR hB hat
          exact hK _ _ (wrote_below hB _) ⟨gN, cN, rfl, hR, by rcases hat with h | h <;> omega⟩
        | 9 =>
          simp only [List.getElem?_toArray, List.getElem?_cons_zero, List.getElem?_cons_succ, Option.some.injEq] at ho
          subst ho
          obtain ⟨gN, cN, q0, q1, q2⟩ : ∃ gN cN, a'.tmps[21]?.getD undef = .slice (some ⟨gN, 0, none⟩) (ln q) cN ∧ Row W (w.heap.size + 3) gN (ln q) cN (f q) ∧ S ≤ gN := hw 8 (by kernel_rfl)
          go_simp
          exact hK _ _ ((Wrote.refl _ W).alloc _) ⟨_, gN, cN, rfl, box_new W #[.slice (some ⟨gN, 0, none⟩) (ln q) cN] 25, q1.below ((Below.refl _ _).alloc (Nat.le_refl _) _), q2, WS⟩
        | 10 =>
          simp only [List.getElem?_toArray, List.getElem?_cons_zero, List.getElem?_cons_succ, Option.some.injEq] at ho
          subst ho
          have q0 : a'.tmps[14]?.getD undef = ov := hw 1 (by kernel_rfl)
          obtain ⟨gB, gN, cN, q1, q2, q3, q4, q5⟩ : ∃ gB gN cN, a'.tmps[22]?.getD undef = .slice (some ⟨gB, 0, none⟩) 1 1 ∧ W.heap[gB]? = some (.cells #[.slice (some ⟨gN, 0, none⟩) (ln q) cN] 25 (0, 0)) ∧ Row W (w.heap.size + 3) gN (ln q) cN (f q) ∧ S ≤ gN ∧ S ≤ gB := hw 9 (by kernel_rfl)
          have hG' := hG.keep L (fun g k hg ⟨j, oj, hj, hoj, hwj, hR⟩ => by
            rcases hR with ⟨e, -⟩ | ⟨rfl, -⟩
            · exact hj e
            · simp only [List.getElem?_toArray, List.getElem?_cons_zero, List.getElem?_cons_succ, Option.some.injEq] at hoj
              subst hoj
              cases hwj.symm.trans (show waitsB _ 10 = true by kernel_rfl)) (fun i k hi ⟨j, oj, hj, hoj, hwj, hR⟩ => by
            rcases hR with ⟨e, -⟩ | ⟨rfl, -⟩
            · exact hj e
            · simp only [List.getElem?_toArray, List.getElem?_cons_zero, List.getElem?_cons_succ, Option.some.injEq] at hoj
              subst hoj
              cases hwj.symm.trans (show waitsB _ 10 = true by kernel_rfl))
          refine wp_pushS W (.tmp 14) (.tmp 22) rfl (w.heap.size + 3) ov q _ (by simpa [Act.eval] using q0) hG'.own (by omega) (by omega) gB (.slice (some ⟨gN, 0, none⟩) (ln q) cN) rfl (by simpa [Act.eval] using q1) (boxC q2 0) ?_
          intro g' c' W' own' hB hat
          exact hK _ _ (hB.mono (fun b' k _ h => Or.inl ⟨rfl, h⟩)) ⟨g', c', _, _, rfl, hG'.push hB own' hat q3 (fun e => by have := hob _ e; omega) (fun i hi e => by have := (hG.rows i hi).parts.2.1; omega) (by omega)⟩
        | 11 =>
          simp only [List.getElem?_toArray, List.getElem?_cons_zero, List.getElem?_cons_succ, Option.some.injEq] at ho
          subst ho
          go_simp
          exact hK _ _ (Wrote.refl _ _) rfl
        | 12 =>
          simp only [List.getElem?_toArray, List.getElem?_cons_zero, List.getElem?_cons_succ, Option.some.injEq] at ho
          subst ho
          have q0 : a'.tmps[24]?.getD undef = .pointer (some ⟨w.heap.size + 1 + 1, 0, none⟩) := hw 11 (by kernel_rfl)
          obtain ⟨g', c', gb', cp', q1, q2⟩ : ∃ g' c' gb' cp', a'.tmps[23]?.getD undef = .slice (some ⟨g', 0, none⟩) (q + 1) c' ∧ SG W (w.heap.size + 3) (a'.tmps[23]?.getD undef) (q + 1) gb' cp' ln f := hw 10 (by kernel_rfl)
          rw [q1] at q2
          have r2 := box_wrote b2 L (fun k ⟨j, oj, hj, hoj, hwj, hR⟩ => by
            rcases hR with ⟨-, h⟩ | ⟨e, -⟩
            · have := hob _ h; omega
            · exact hj e)
          have c2 := boxC r2
          have f2 := boxF r2
          have HQ := hide q2
          have HB := hide (box_set (o := 0) r2 (.slice (some ⟨g', 0, none⟩) (q + 1) c'))
          clear q2 r2
          go_simp
          refine hK undef _ (Wrote.setCell (Wrote.refl _ W) (fun _ => Or.inr ⟨rfl, rfl⟩) _) ⟨g', c', gb', cp', HB.out, HQ.out.keep (Wrote.setCell (R := fun b' _ => b' = w.heap.size + 1 + 1) (Wrote.refl _ W) (fun _ => rfl) _) (fun g o hg (e : g = _) => by have := own_at HQ.out.own hg; omega) (fun i o hi (e : _ = _) => by have := (HQ.out.rows i hi).parts.1; omega)⟩
        | n + 13 => simp at ho
      · intro a' W F L hφ
        obtain ⟨g', c', gb', cp', p1, p2⟩ : ∃ g' c' gb' cp', W.heap[w.heap.size + 1 + 1]? = some (.cells #[.slice (some ⟨g', 0, none⟩) (q + 1) c'] 27 (0, 0)) ∧ SG W (w.heap.size + 3) (.slice (some ⟨g', 0, none⟩) (q + 1) c') (q + 1) gb' cp' ln f := hφ 12 (by decide)
        have low : ∀ (g k : Nat), g < w.heap.size + 1 + 1 → ¬ (∃ j : Nat, (j = 10 ∧ ov.ownBlock = some g) ∨ (j = 12 ∧ g = w.heap.size + 1 + 1)) := fun g k hg ⟨j, hR⟩ => by
          rcases hR with ⟨-, h⟩ | ⟨-, h⟩
          · have := hob _ h; omega
          · omega
        have LW : Below w.heap.size w W := hL.trans (L.below hL.size (fun g k hg => low g k (by omega)))
        have r0 := box_wrote b0 L (fun k => low _ k (by omega))
        have r1 := box_wrote b1 L (fun k => low _ k (by omega))
        rw [F.same, show slotsOf [some 13, some 14, some 15, some 16, some 17, some 18, some 19, some 20, some 21, some 22, some 23, some 24, none] = [13, 14, 15, 16, 17, 18, 19, 20, 21, 22, 23, 24] from rfl]
        simp only [List.foldl_cons, List.foldl_nil]
        generalize a'.tmps[13]?.getD undef = s13
        generalize a'.tmps[14]?.getD undef = s14
        generalize a'.tmps[15]?.getD undef = s15
        generalize a'.tmps[16]?.getD undef = s16
        generalize a'.tmps[17]?.getD undef = s17
        generalize a'.tmps[18]?.getD undef = s18
        generalize a'.tmps[19]?.getD undef = s19
        generalize a'.tmps[20]?.getD undef = s20
        generalize a'.tmps[21]?.getD undef = s21
        generalize a'.tmps[22]?.getD undef = s22
        generalize a'.tmps[23]?.getD undef = s23
        generalize a'.tmps[24]?.getD undef = s24
        have HP := hide (And.intro p1 (And.intro p2 (And.intro r0 (And.intro r1 LW))))
        clear hφ L F p1 p2 r0 r1 LW hG b0 b1 b2 hL hcell hcell' hI hI' ur uF HL
        rename_i KK hKK
        refine hKK _ _ ?_
        go_simp
        go_wp2
        go_roundw
        case rel => exact ⟨q + 1, gb', cp', _, by omega, by go_num, HP.out.2.1, HP.out.2.2.1, HP.out.2.2.2.1, HP.out.1, HP.out.2.2.2.2⟩
        case measure => simp [intOf]; omega
    · have hqm' : ¬ (q : Int) < (m : Int) := by omega
      obtain rfl : q = m := by omega
      obtain ⟨oa, oc, hof⟩ : ∃ oa oc, ov = .slice oa q oc := by
        rcases hG.own.2 with ⟨e, e0⟩ | ⟨g, c, cur, hv, -⟩
        · have : q = 0 := by simpa using e0
          exact ⟨none, 0, by rw [e, this]⟩
        · exact ⟨_, _, hv⟩
      subst hof
      have c0 := boxC b0
      have c1 := boxC b1
      have c2 := boxC b2
      have f1 := boxF b1
      have HP := hide (And.intro hG hL)
      clear hG b0 b1 b2 hL HL
      go_wp2
      refine bodyPost_ret (v := .agg #[.slice oa q oc]) (by simp [results, Tryz.results25, go_sem, c1]) rfl ?_
      have WW := Wrote.setCell (b := w.heap.size + 1) (o := 0) (R := fun b _ => b = w.heap.size + 1) (Wrote.refl _ wr) (fun _ => rfl) (.slice oa q oc)
      refine ⟨_, rfl, (HP.out.1.keep WW (fun g o hg (e : g = _) => by have := own_at HP.out.1.own hg; omega) (fun i o hi (e : _ = _) => by have := (HP.out.1.rows i hi).parts.1; omega)).on (fun b h1 h2 => ⟨by omega, h2⟩) hps, HP.out.2.trans (WW.below HP.out.2.size (fun b o hb (e : b = _) => by omega))⟩
set_option maxRecDepth 40000 in
set_option maxHeartbeats 2000000 in
theorem l12List (w : World) (F : Nat → Nat → Prop) (u : Value) (m : Nat) (ln : Nat → Nat) (f : Nat → Nat → Int) (H : IntSS .i64 w F u m ln f) : Calls Tryz.prog 107 #[u] w fun e w' => ∃ ov gb cp, e = .returned ov ∧ SG w' w.heap.size ov m gb cp ln f ∧ Below w.heap.size w w' := by
  obtain ⟨a, cap, rfl, hn, -, hc⟩ := H
  have L0 : Below w.heap.size w (w.alloc (.cells #[] 25)) := (Below.refl _ _).alloc (Nat.le_refl _) _
  have B0 := box_new w #[] 25
  have HL := hide hc
  clear hc
  go_enter Tryz.func107, Tryz.ntmps107
  go_wp2
  generalize w.alloc (.cells #[] 25) = W0 at *
  go_loopw [3, 4] (fun ov i wr => ∃ (q : Nat) (gb cp : Nat → Nat), q ≤ m ∧ i = .int .i64 q ∧ SG wr w.heap.size ov q gb cp ln f ∧ Below w.heap.size w wr) (fun _ i _ => m - (intOf i).toNat)
  case atStart => exact ⟨0, fun _ => 0, fun _ => 0, Nat.zero_le _, rfl, SG.start B0 (Nat.le_refl _) _ _ _ _, L0⟩
  case round =>
    obtain ⟨q, gb, cp, hq, rfl, hG, hL⟩ := hrel
    clear B0 L0
    by_cases hqm : q < m
    · have hqm' : (q : Int) < (m : Int) := by omega
      obtain ⟨b, off, u', rfl, hcell, hI⟩ := HL.out q hqm
      have hbl := block_lt_of_cell hcell
      obtain ⟨ua, ux, rfl, un, ur, uF⟩ := id hI
      have LA : Below w.heap.size w (wr.alloc (.cells #[] 3)) := hL.alloc hL.size _
      have ca : (wr.alloc (.cells #[] 3)).cell? ⟨b, off + q, none⟩ = some (.slice ua (ln q) ux) := (LA.cell hbl).trans hcell
      have hE := box_new wr #[] 3
      have GA := hide (hG.below ((Below.refl _ wr).alloc (Nat.le_refl _) (.cells #[] 3)))
      have hob : ∀ g, u3.ownBlock = some g → w.heap.size ≤ g ∧ g < wr.heap.size := fun g hg => own_at hG.own hg
      have hgb : ∀ i, i < q → gb i < wr.heap.size := fun i hi => (hG.rows i hi).parts.2.1
      have hLs := hL.size
      have wq : IntKind.i64.wrap (q : Int) = q := by rw [IntKind.wrap_i64]; omega
      have hsz : (wr.alloc (.cells #[] 3)).heap.size = wr.heap.size + 1 := by simp
      have HSZ := hide hsz
      clear hG hcell hsz
      go_wp2_with (at_builtin; refine wpList_copy _ rfl _ _ rfl wr.heap.size rfl hE w.heap.size hLs F (.slice ua (ln q) ux) (ln q) (f q) rfl (hI.keep (wrote_below LA Nowhere) (fun _ _ _ x => x)) ?_)
      intro gN cN W2 RN L2 hat
      have hgN : wr.heap.size ≤ gN := by have := HSZ.out; rcases hat with h | h <;> omega
      replace L2 : Below (wr.alloc (.cells #[] 3)).heap.size (wr.alloc (.cells #[] 3)) W2 := by rw [HSZ.out]; exact L2
      have G2 := GA.out.below L2
      have LB := below_snoc LA L2
      clear GA LA L2 hat HSZ ca hE
      have LX : Below W2.heap.size W2 (W2.alloc (.cells #[.slice (some ⟨gN, 0, none⟩) (ln q) cN] 25)) := (Below.refl _ _).alloc (Nat.le_refl _) _
      have hB := boxC (box_new W2 #[.slice (some ⟨gN, 0, none⟩) (ln q) cN] 25) 0
      have G3 := hide (G2.below LX)
      have R3 := hide (RN.below LX)
      have LC := hide (below_snoc LB LX)
      clear G2 RN LB LX
      go_wp2_with (at_builtin; refine wpList_pushS _ rfl _ _ rfl w.heap.size u3 q _ rfl G3.out.own (by omega) LC.out.size W2.heap.size (.slice (some ⟨gN, 0, none⟩) (ln q) cN) rfl rfl hB ?_)
      intro g' c' W4 own' hW hat'
      have GN := hide (G3.out.push hW own' (by simpa using hat') R3.out (fun e => by have := hob _ e; omega) (fun i hi e => by have := hgb i hi; omega) (by omega))
      have LD := LC.out.trans (hW.below LC.out.size (fun b o hb (e : u3.ownBlock = some b) => by have := hob _ e; omega))
      clear G3 R3 LC own' hW hat' hB
      go_wp2
      go_roundw
      case rel => exact ⟨q + 1, _, _, by omega, by go_num, GN.out, LD⟩
      case measure => simp [intOf]; omega
    · have hqm' : ¬ (q : Int) < (m : Int) := by omega
      obtain rfl : q = m := by omega
      have HP := hide (And.intro hG hL)
      clear hG hL HL
      go_wp2
      go_ret
      first | exact ⟨_, gb, cp, rfl, HP.out.1, HP.out.2⟩ | exact ⟨_, rfl, ⟨gb, cp, HP.out.1⟩, HP.out.2⟩
end Go.Proofs.YtjcaligejlhjdaaGreat
