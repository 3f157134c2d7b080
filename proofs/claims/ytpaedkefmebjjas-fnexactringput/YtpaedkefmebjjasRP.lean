/-
  FnExactRingPut.
-/
import Derived.Test.YtpaedkefmebjjasRK
import Derived.Test.YtpaedkefmebjjasGJ
namespace Go.Proofs.Ytpaedkefmebjjas
set_option linter.unusedVariables false
set_option linter.unusedSimpArgs false
open Go.ChangeShapes Go.WideShapes Go.ChangeAt Go.RowKit
set_option maxRecDepth 40000 in
set_option maxHeartbeats 8000000 in
theorem lawRingPut (w : World) (cap : Int) (a : Option Addr) (n c : Nat) (f : Nat → Int) (t r x : Int) (hn : n ≤ 9223372036854775807) (hnc : n ≤ c) (hr : RowOf .i64 w a (n * 3) f) : Calls Try.prog 5 #[.agg #[.int .i64 cap, .slice a n c], .agg #[.int .i64 t, .int .i64 r, .int .i64 x]] w fun e w' => e = .returned (.bool true) ∧ Below w.heap.size w w' := by
  have C0 : Below w.heap.size w ((w.alloc (.cells #[.int .i64 cap, .slice a n c] 24)).alloc (.cells #[.int .i64 t, .int .i64 r, .int .i64 x] 38)) := ((Below.refl _ _).alloc (Nat.le_refl _) _).alloc (by simp) _
  have k0 : ((w.alloc (.cells #[.int .i64 cap, .slice a n c] 24)).alloc (.cells #[.int .i64 t, .int .i64 r, .int .i64 x] 38)).heap[w.heap.size]? = some (.cells #[.int .i64 cap, .slice a n c] 24 (0, 0)) := boxA (box_new w _ _) _
  have kr : ((w.alloc (.cells #[.int .i64 cap, .slice a n c] 24)).alloc (.cells #[.int .i64 t, .int .i64 r, .int .i64 x] 38)).heap[w.heap.size + 1]? = some (.cells #[.int .i64 t, .int .i64 r, .int .i64 x] 38 (0, 0)) := by simpa using box_new (w.alloc (.cells #[.int .i64 cap, .slice a n c] 24)) #[.int .i64 t, .int .i64 r, .int .i64 x] 38
  have HZ := hide (fun W => szRing W cap a n c hn 1048576 (by omega) (by omega))
  obtain ⟨lf, hlf⟩ : ∃ x, Hid (x = szOut 1048576 n) := ⟨_, rfl⟩
  rw [← hlf.out] at HZ
  go_enter Try.func5, Try.ntmps5
  go_wp2_with fail
  generalize (w.alloc (.cells #[.int .i64 cap, .slice a n c] 24)).alloc (.cells #[.int .i64 t, .int .i64 r, .int .i64 x] 38) = W0 at *
  refine (HZ.out _).mono ?_
  rintro e W1 ⟨rfl, L⟩
  have C1 := below_snoc C0 L
  replace k0 := box_keep k0 L (boxLt k0)
  replace kr := box_keep kr L (boxLt kr)
  have hk00 := boxLt kr
  clear L C0 HZ
  by_cases hbig : (1048576 : Int) < (n : Int)
  · obtain rfl : lf = -1 := by rw [hlf.out]; exact szOut_no hbig
    go_wp2
    go_ret
    exact ⟨rfl, C1⟩
  have hn1 : n ≤ 1048576 := by omega
  have hnn : ¬ (lf < 0) := by rw [hlf.out, szOut_ok (by omega)]; omega
  clear hlf hbig
  have HI := hide (fun W D v h => implRingPut W D v cap n f t r x h)
  have HS := hide (fun W D v h => specRingPut W D v cap n f t r x h)
  have HN : Hid (putN (okRing cap n f) (okRing cap n f && okRing cap (n + 1) (put3 f n t r x)) n ≤ 1048577) := by show _ ≤ _; unfold putN; split; omega; split <;> omega
  obtain ⟨cP, hcP⟩ : ∃ x', Hid (x' = putC (okRing cap n f) cap) := ⟨_, rfl⟩
  obtain ⟨nP, hnP⟩ : ∃ x', Hid (x' = putN (okRing cap n f) (okRing cap n f && okRing cap (n + 1) (put3 f n t r x)) n) := ⟨_, rfl⟩
  obtain ⟨fP, hfP⟩ : ∃ x', Hid (x' = putF (okRing cap n f) (okRing cap n f && okRing cap (n + 1) (put3 f n t r x)) f n t r x) := ⟨_, rfl⟩
  rw [← hcP.out, ← hnP.out, ← hfP.out] at HI HS
  rw [← hnP.out] at HN
  clear hcP hnP hfP
  obtain ⟨rb, hrb⟩ : ∃ x', Hid (x' = (okRing cap n f && okRing cap (n + 1) (put3 f n t r x))) := ⟨_, rfl⟩
  rw [← hrb.out] at HI HS
  clear hrb
  go_upto_region 5 with (fail)
  rename_i K5 hK5
  refine wp_region_effJ [some 22, some 23, some 24, some 25, some 26, some 21, some 27, some 28, some 6, none, some 7] (by kernel_rfl) (by kernel_rfl) (by kernel_rfl) (by kernel_rfl) (by simp [slotsOf])
    (fun _ _ _ => False)
    (fun j V b => j = 9 ∧ V 8 = .pointer (some ⟨b, 0, none⟩))
    (fun j V W W' => Below W.heap.size W W' ∨ (j = 9 ∧ ∃ b u0 u1, V 8 = .pointer (some ⟨b, 0, none⟩) ∧ W1.heap.size ≤ b ∧ W' = (W.setCell ⟨b, 0, none⟩ u0).setCell ⟨b, 1, none⟩ u1))
    (fun i V lo hi W => match i with
      | 0 => V 0 = .agg #[.int .i64 cap, .slice a n c]
      | 1 => ∃ va vc, V 1 = .agg #[.int .i64 cap, .slice va n vc] ∧ RgOn W (fun b => lo ≤ b ∧ b < hi) (.agg #[.int .i64 cap, .slice va n vc]) cap n f
      | 2 => V 2 = .agg #[.int .i64 t, .int .i64 r, .int .i64 x]
      | 3 => V 3 = .agg #[.int .i64 t, .int .i64 r, .int .i64 x]
      | 4 => ∃ wa wc, V 4 = .tuple #[.agg #[.int .i64 cP, .slice wa nP wc], .bool rb] ∧ RgOn W (fun b => lo ≤ b ∧ b < hi) (.agg #[.int .i64 cP, .slice wa nP wc]) cP nP fP
      | 5 => ∃ wa wc, V 4 = .tuple #[.agg #[.int .i64 cP, .slice wa nP wc], .bool rb] ∧ V 5 = .tuple #[.agg #[.int .i64 cP, .slice wa nP wc], .bool rb]
      | 6 => ∃ wa wc, V 5 = .tuple #[.agg #[.int .i64 cP, .slice wa nP wc], .bool rb] ∧ V 6 = .agg #[.int .i64 cP, .slice wa nP wc]
      | 7 => V 7 = .bool rb
      | 8 => ∃ b u0 u1, V 8 = .pointer (some ⟨b, 0, none⟩) ∧ lo ≤ b ∧ b < hi ∧ W.heap[b]? = some (.cells #[u0, u1] 29 (0, 0))
      | 9 => ∃ b wa wc, V 8 = .pointer (some ⟨b, 0, none⟩) ∧ V 4 = .tuple #[.agg #[.int .i64 cP, .slice wa nP wc], .bool rb] ∧ W.heap[b]? = some (.cells #[.int .i64 cP, .slice wa nP wc] 29 (0, 0))
      | _ => V 10 = .bool rb) ?_ ?_ ?_ ?_
  · intro j V W W' h
    rcases h with h | ⟨rfl, b, u0, u1, h1, h2, rfl⟩
    · exact wrote_below h _
    · exact Wrote.setCell (Wrote.setCell (Wrote.refl _ W) (fun _ => Or.inr ⟨h2, rfl, h1⟩) _) (fun _ => Or.inr ⟨h2, rfl, h1⟩) _
  · intro i j o oj V x' lo hi W W' hij ho hoj hnw hlo hhi hk hE h
    have nw : ∀ k, waitsB o k = true → k ≠ j := fun k hk e => by rw [e, hnw] at hk; cases hk
    have keepG : i ≠ 8 → ∀ v cap n f, RgOn W (fun b => lo i ≤ b ∧ b < hi i) v cap n f → RgOn W' (fun b => lo i ≤ b ∧ b < hi i) v cap n f := by
      intro hiA v cap n f H
      rcases hE with hB | ⟨rfl, b, u0, u1, hb, -, rfl⟩
      · exact H.below hB
      · simp only [List.getElem?_toArray, List.getElem?_cons_zero, List.getElem?_cons_succ, Option.some.injEq] at hoj
        subst hoj
        obtain ⟨⟨b', _, _, e, l1, l2, _⟩, hap⟩ := hk 8 (by kernel_rfl)
        have hap := hap (Ne.symm hiA)
        rw [hb] at e
        simp only [Value.pointer.injEq, Option.some.injEq, Addr.mk.injEq, and_true] at e
        subst e
        exact H.keep (Wrote.setCell (Wrote.setCell (Wrote.refl (fun q _ => q = b) W) (fun _ => rfl) _) (fun _ => rfl) _) (fun q o hq _ e => by obtain ⟨h1, h2⟩ := hq; omega)
    match i, ho, hij, nw, keepG, hk, h with
    | 0, _, hij, _, _, _, h => exact (updV_ne V x' hij).trans h
    | 1, _, hij, _, keepG, _, ⟨va, vc, h1, h2⟩ => exact ⟨va, vc, (updV_ne V x' hij).trans h1, keepG (by decide) _ _ _ _ h2⟩
    | 2, _, hij, _, _, _, h => exact (updV_ne V x' hij).trans h
    | 3, _, hij, _, _, _, h => exact (updV_ne V x' hij).trans h
    | 4, _, hij, _, keepG, _, ⟨va, vc, h1, h2⟩ => exact ⟨va, vc, (updV_ne V x' hij).trans h1, keepG (by decide) _ _ _ _ h2⟩
    | 5, ho, hij, nw, _, _, ⟨va, vc, h1, h2⟩ =>
      simp only [List.getElem?_toArray, List.getElem?_cons_zero, List.getElem?_cons_succ, Option.some.injEq] at ho
      subst ho
      exact ⟨va, vc, (updV_ne V x' (nw 4 (by kernel_rfl))).trans h1, (updV_ne V x' hij).trans h2⟩
    | 6, ho, hij, nw, _, _, ⟨va, vc, h1, h2⟩ =>
      simp only [List.getElem?_toArray, List.getElem?_cons_zero, List.getElem?_cons_succ, Option.some.injEq] at ho
      subst ho
      exact ⟨va, vc, (updV_ne V x' (nw 5 (by kernel_rfl))).trans h1, (updV_ne V x' hij).trans h2⟩
    | 7, _, hij, _, _, _, h => exact (updV_ne V x' hij).trans h
    | 8, ho, hij, nw, _, hk, ⟨b, u0, u1, h1, h2, h3, h4⟩ =>
      rcases hE with hB | ⟨rfl, b2, y0, y1, hb, -, rfl⟩
      · exact ⟨b, u0, u1, (updV_ne V x' hij).trans h1, h2, h3, box_keep h4 hB (boxLt h4)⟩
      · rw [h1] at hb
        simp only [Value.pointer.injEq, Option.some.injEq, Addr.mk.injEq, and_true] at hb
        subst hb
        have HB := boxSetR (o := 1) (boxSetR (o := 0) h4 y0) y1
        simp only [List.setIfInBounds_toArray, List.set_cons_succ, List.set_cons_zero] at HB
        exact ⟨b, y0, y1, (updV_ne V x' hij).trans h1, h2, h3, HB⟩
    | 9, ho, hij, nw, _, _, ⟨b, wa, wc, h1, h2, h3⟩ =>
      simp only [List.getElem?_toArray, List.getElem?_cons_zero, List.getElem?_cons_succ, Option.some.injEq] at ho
      subst ho
      rcases hE with hB | ⟨e, _⟩
      · exact ⟨b, wa, wc, (updV_ne V x' (nw 8 (by kernel_rfl))).trans h1, (updV_ne V x' (nw 4 (by kernel_rfl))).trans h2, box_keep h3 hB (boxLt h3)⟩
      · exact absurd e.symm hij
    | 10, _, hij, _, _, _, h => exact (updV_ne V x' hij).trans h
    | n' + 11, ho, _, _, _, _, _ => simp at ho
  · intro i o a' W K ho F L hw hK
    have LB : Below W1.heap.size W1 W := L.below (Nat.le_refl _) (fun b o _ ⟨j, _, _, _, _, h⟩ => h)
    have tR := F.get (t := 2) (v := .pointer (some ⟨w.heap.size, 0, none⟩)) (by decide) rfl
    have tC := F.get (t := 3) (v := .pointer (some ⟨w.heap.size + 1, 0, none⟩)) (by decide) rfl
    match i with
    | 0 =>
      simp only [List.getElem?_toArray, List.getElem?_cons_zero, List.getElem?_cons_succ, Option.some.injEq] at ho
      subst ho
      have rb' := boxC (box_keep k0 LB (boxLt k0))
      clear hw
      go_simp
      exact hK _ _ (Or.inl (Below.refl _ _)) (updV_same _ _ _)
    | 1 =>
      simp only [List.getElem?_toArray, List.getElem?_cons_zero, List.getElem?_cons_succ, Option.some.injEq] at ho
      subst ho
      have q1 : a'.tmps[22]?.getD undef = .agg #[.int .i64 cap, .slice a n c] := by obtain ⟨_, _, _, _, q⟩ := hw 0 (by kernel_rfl); exact q
      go_simp
      refine (onToRing W a n c cap f hn1 (hr.keep (wrote_below (below_snoc C1 LB) Nowhere) (fun _ _ _ x => x))).mono ?_
      rintro e W' ⟨vX, rfl, oX, LX⟩
      obtain ⟨va, vc, rfl⟩ := oX.two
      exact hK _ _ (Or.inl LX) ⟨va, vc, updV_same _ _ _, oX⟩
    | 2 =>
      simp only [List.getElem?_toArray, List.getElem?_cons_zero, List.getElem?_cons_succ, Option.some.injEq] at ho
      subst ho
      have rb' := boxC (box_keep kr LB (boxLt kr))
      clear hw
      go_simp
      exact hK _ _ (Or.inl (Below.refl _ _)) (updV_same _ _ _)
    | 3 =>
      simp only [List.getElem?_toArray, List.getElem?_cons_zero, List.getElem?_cons_succ, Option.some.injEq] at ho
      subst ho
      have q1 : a'.tmps[24]?.getD undef = .agg #[.int .i64 t, .int .i64 r, .int .i64 x] := by obtain ⟨_, _, _, _, q⟩ := hw 2 (by kernel_rfl); exact q
      go_simp
      refine (toRec W t r x).mono ?_
      rintro e W' ⟨rfl, LX⟩
      exact hK _ _ (Or.inl LX) (updV_same _ _ _)
    | 4 =>
      simp only [List.getElem?_toArray, List.getElem?_cons_zero, List.getElem?_cons_succ, Option.some.injEq] at ho
      subst ho
      obtain ⟨_, _, _, _, va, vc, q1, oX⟩ := hw 1 (by kernel_rfl)
      replace q1 : a'.tmps[23]?.getD undef = .agg #[.int .i64 cap, .slice va n vc] := q1
      have q2 : a'.tmps[25]?.getD undef = .agg #[.int .i64 t, .int .i64 r, .int .i64 x] := by obtain ⟨_, _, _, _, q⟩ := hw 3 (by kernel_rfl); exact q
      go_simp
      refine (HS.out W _ _ oX).mono ?_
      rintro e W' ⟨vW, rfl, ⟨oW'⟩, LX⟩
      obtain ⟨wa', wc', rfl⟩ := oW'.two
      exact hK _ _ (Or.inl LX) ⟨wa', wc', updV_same _ _ _, oW'⟩
    | 5 =>
      simp only [List.getElem?_toArray, List.getElem?_cons_zero, List.getElem?_cons_succ, Option.some.injEq] at ho
      subst ho
      obtain ⟨_, _, _, _, wa', wc', v4, _⟩ := hw 4 (by kernel_rfl)
      have q4 : a'.tmps[26]?.getD undef = .tuple #[.agg #[.int .i64 cP, .slice wa' nP wc'], .bool rb] := v4
      go_simp
      exact hK _ _ (Or.inl (Below.refl _ _)) ⟨wa', wc', (updV_ne _ _ (by decide)).trans v4, updV_same _ _ _⟩
    | 6 =>
      simp only [List.getElem?_toArray, List.getElem?_cons_zero, List.getElem?_cons_succ, Option.some.injEq] at ho
      subst ho
      obtain ⟨_, _, _, _, wa', wc', v4, v5⟩ := hw 5 (by kernel_rfl)
      have q5 : a'.tmps[21]?.getD undef = .tuple #[.agg #[.int .i64 cP, .slice wa' nP wc'], .bool rb] := v5
      go_simp
      exact hK _ _ (Or.inl (Below.refl _ _)) ⟨wa', wc', (updV_ne _ _ (by decide)).trans v5, updV_same _ _ _⟩
    | 7 =>
      simp only [List.getElem?_toArray, List.getElem?_cons_zero, List.getElem?_cons_succ, Option.some.injEq] at ho
      subst ho
      obtain ⟨_, _, _, _, wa', wc', v4, v5⟩ := hw 5 (by kernel_rfl)
      have q5 : a'.tmps[21]?.getD undef = .tuple #[.agg #[.int .i64 cP, .slice wa' nP wc'], .bool rb] := v5
      go_simp
      exact hK _ _ (Or.inl (Below.refl _ _)) (updV_same _ _ _)
    | 8 =>
      simp only [List.getElem?_toArray, List.getElem?_cons_zero, List.getElem?_cons_succ, Option.some.injEq] at ho
      subst ho
      have hbn := box_new W #[.int .i64 0, .slice none 0 0] 29
      go_simp
      exact hK _ _ (Or.inl ((Below.refl _ _).alloc (Nat.le_refl _) _)) ⟨W.heap.size, _, _, updV_same _ _ _, Nat.le_refl _, by simp, hbn⟩
    | 9 =>
      simp only [List.getElem?_toArray, List.getElem?_cons_zero, List.getElem?_cons_succ, Option.some.injEq] at ho
      subst ho
      obtain ⟨loA, _, g1, _, zb, u0, u1, v8, g2, g3, rB⟩ := hw 8 (by kernel_rfl)
      replace v8 : a'.tmps[6]?.getD undef = .pointer (some ⟨zb, 0, none⟩) := v8
      obtain ⟨_, _, _, _, wa', wc', v5, v6⟩ := hw 6 (by kernel_rfl)
      obtain ⟨_, _, _, _, wa2, wc2, v4, v5'⟩ := hw 5 (by kernel_rfl)
      rw [v5] at v5'
      simp only [Value.tuple.injEq, Value.agg.injEq, Array.mk.injEq, List.cons.injEq, Value.slice.injEq, and_true, true_and] at v5'
      obtain ⟨rfl, rfl⟩ := v5'
      clear v5
      have q6 : a'.tmps[27]?.getD undef = .agg #[.int .i64 cP, .slice wa' nP wc'] := v6
      have c1 := boxC rB
      have f1 := boxF rB
      have HB := boxSetR (o := 1) (boxSetR (o := 0) rB (.int .i64 cP)) (.slice wa' nP wc')
      simp only [List.setIfInBounds_toArray, List.set_cons_succ, List.set_cons_zero] at HB
      have HBB := hide HB
      have gg : Hid (W1.heap.size ≤ zb) := Nat.le_trans g1 g2
      clear HB rB
      go_simp
      exact hK undef _ (Or.inr ⟨rfl, zb, _, _, v8, gg.out, rfl⟩) ⟨zb, wa', wc', (updV_ne _ _ (by decide)).trans v8, (updV_ne _ _ (by decide)).trans v4, HBB.out⟩
    | 10 =>
      simp only [List.getElem?_toArray, List.getElem?_cons_zero, List.getElem?_cons_succ, Option.some.injEq] at ho
      subst ho
      have q7 : a'.tmps[28]?.getD undef = .bool rb := by obtain ⟨_, _, _, _, q⟩ := hw 7 (by kernel_rfl); exact q
      go_simp
      exact hK _ _ (Or.inl (Below.refl _ _)) (updV_same _ _ _)
    | n' + 11 => simp at ho
  · intro a' W F L lo hi hφ hdj
    have LB : Below W1.heap.size W1 W := L.below (Nat.le_refl _) (fun b o _ ⟨j, h⟩ => h)
    obtain ⟨p1, p2, p3, wbxW, cbxW, v4, obxW⟩ := hφ 4 (by decide)
    obtain ⟨-, -, a3, zbxW, _, _, v8, a4, a5, -⟩ := hφ 8 (by decide)
    obtain ⟨a1, a2, -, z2, w2, c2, v8', v4', bxW⟩ := hφ 9 (by decide)
    have vG : a'.tmps[7]?.getD undef = .bool rb := (hφ 10 (by decide)).2.2.2
    have hap := hdj 4 8 (by decide) (by decide) (by decide)
    have aA := (hφ 8 (by decide)).1
    rw [v4] at v4'
    rw [v8] at v8'
    simp only [Value.tuple.injEq, Value.agg.injEq, Array.mk.injEq, List.cons.injEq, Value.slice.injEq, Value.pointer.injEq, Option.some.injEq, Addr.mk.injEq, and_true, true_and] at v4' v8'
    obtain ⟨rfl, rfl⟩ := v4'
    subst v8'
    replace v8 : a'.tmps[6]?.getD undef = .pointer (some ⟨zbxW, 0, none⟩) := v8
    have gzbxW : W1.heap.size ≤ zbxW := Nat.le_trans aA a4
    have azbxW : zbxW < lo 4 ∨ hi 4 ≤ zbxW := by omega
    have lzbxW := boxLt bxW
    generalize lo 4 = lbxW at *
    generalize hi 4 = hbxW at *
    have glbxW := p1
    have gmbxW := p2
    have ghbxW := p3
    rw [F.same, show slotsOf [some 22, some 23, some 24, some 25, some 26, some 21, some 27, some 28, some 6, none, some 7] = [22, 23, 24, 25, 26, 21, 27, 28, 6, 7] from rfl]
    simp only [List.foldl_cons, List.foldl_nil]
    rw [v8, vG]
    clear hφ hdj L F v8 vG v4 p1 p2 p3 a1 a2 a3 a4 a5 aA hap
    generalize a'.tmps[22]?.getD undef = s22_bxW
    generalize a'.tmps[23]?.getD undef = s23_bxW
    generalize a'.tmps[24]?.getD undef = s24_bxW
    generalize a'.tmps[25]?.getD undef = s25_bxW
    generalize a'.tmps[26]?.getD undef = s26_bxW
    generalize a'.tmps[21]?.getD undef = s21_bxW
    generalize a'.tmps[27]?.getD undef = s27_bxW
    generalize a'.tmps[28]?.getD undef = s28_bxW
    refine hK5 _ _ ?_
    go_simp
    obtain ⟨W2, hWW⟩ : ∃ x, x = W := ⟨_, rfl⟩
    subst hWW
    have C2 := below_snoc C1 LB
    replace k0 := box_keep k0 LB (boxLt k0)
    replace kr := box_keep kr LB (boxLt kr)
    have sz2 := LB.size
    clear LB C1
    have c_k0 := boxC k0
    go_wp2_with fail
    clear c_k0
    refine (onToRing _ a n c cap f hn1 (hr.keep (wrote_below C2 Nowhere) (fun _ _ _ x => x))).mono ?_
    rintro e W3 ⟨v0, rfl, o0, L⟩
    have C3 := below_snoc C2 L
    replace k0 := box_keep k0 L (boxLt k0)
    replace kr := box_keep kr L (boxLt kr)
    replace bxW := box_keep bxW L (boxLt bxW)
    replace obxW := obxW.below L
    have sz3 := L.size
    clear L C2
    obtain ⟨xa, xc, rfl⟩ := o0.two
    have bx0 := box_new W3 #[.int .i64 cap, .slice xa n xc] 29
    have LA : Below W3.heap.size W3 (W3.alloc (.cells #[.int .i64 cap, .slice xa n xc] 29)) := (Below.refl _ _).alloc (Nat.le_refl _) _
    go_upto_region 7 with (fail)
    have C4 := below_snoc C3 LA
    replace k0 := box_keep k0 LA (boxLt k0)
    replace kr := box_keep kr LA (boxLt kr)
    replace bxW := box_keep bxW LA (boxLt bxW)
    replace obxW := obxW.below LA
    replace o0 := o0.below LA
    have sz4 := LA.size
    clear LA C3
    obtain ⟨zbx0, hzbx0⟩ : ∃ z, Hid (z = W3.heap.size) := ⟨_, rfl⟩
    rw [← hzbx0.out] at bx0 ⊢
    generalize W3.alloc (.cells #[.int .i64 cap, .slice xa n xc] 29) = W4 at *
    have gzbx0 : W3.heap.size ≤ zbx0 := by rw [hzbx0.out]; exact Nat.le_refl _
    have lzbx0 := boxLt bx0
    clear hzbx0
    rename_i K7 hK7
    refine wp_region_effJ [some 32, some 33, some 34, some 35, some 31, some 36, some 37, some 9, none, some 10] (by kernel_rfl) (by kernel_rfl) (by kernel_rfl) (by kernel_rfl) (by simp [slotsOf])
      (fun _ _ _ => False)
      (fun j V b => j = 8 ∧ V 7 = .pointer (some ⟨b, 0, none⟩))
      (fun j V W W' => Below W.heap.size W W' ∨ (j = 8 ∧ ∃ b u0 u1, V 7 = .pointer (some ⟨b, 0, none⟩) ∧ W4.heap.size ≤ b ∧ W' = (W.setCell ⟨b, 0, none⟩ u0).setCell ⟨b, 1, none⟩ u1))
      (fun i V lo hi W => match i with
        | 0 => V 0 = .agg #[.int .i64 cap, .slice xa n xc]
        | 1 => V 1 = .agg #[.int .i64 t, .int .i64 r, .int .i64 x]
        | 2 => V 2 = .agg #[.int .i64 t, .int .i64 r, .int .i64 x]
        | 3 => ∃ wa wc, V 3 = .tuple #[.agg #[.int .i64 cP, .slice wa nP wc], .bool rb] ∧ RgOn W (fun b => lo ≤ b ∧ b < hi) (.agg #[.int .i64 cP, .slice wa nP wc]) cP nP fP
        | 4 => ∃ wa wc, V 3 = .tuple #[.agg #[.int .i64 cP, .slice wa nP wc], .bool rb] ∧ V 4 = .tuple #[.agg #[.int .i64 cP, .slice wa nP wc], .bool rb]
        | 5 => ∃ wa wc, V 4 = .tuple #[.agg #[.int .i64 cP, .slice wa nP wc], .bool rb] ∧ V 5 = .agg #[.int .i64 cP, .slice wa nP wc]
        | 6 => V 6 = .bool rb
        | 7 => ∃ b u0 u1, V 7 = .pointer (some ⟨b, 0, none⟩) ∧ lo ≤ b ∧ b < hi ∧ W.heap[b]? = some (.cells #[u0, u1] 29 (0, 0))
        | 8 => ∃ b wa wc, V 7 = .pointer (some ⟨b, 0, none⟩) ∧ V 3 = .tuple #[.agg #[.int .i64 cP, .slice wa nP wc], .bool rb] ∧ W.heap[b]? = some (.cells #[.int .i64 cP, .slice wa nP wc] 29 (0, 0))
        | _ => V 9 = .bool rb) ?_ ?_ ?_ ?_
    · intro j V W W' h
      rcases h with h | ⟨rfl, b, u0, u1, h1, h2, rfl⟩
      · exact wrote_below h _
      · exact Wrote.setCell (Wrote.setCell (Wrote.refl _ W) (fun _ => Or.inr ⟨h2, rfl, h1⟩) _) (fun _ => Or.inr ⟨h2, rfl, h1⟩) _
    · intro i j o oj V x' lo hi W W' hij ho hoj hnw hlo hhi hk hE h
      have nw : ∀ k, waitsB o k = true → k ≠ j := fun k hk e => by rw [e, hnw] at hk; cases hk
      have keepG : i ≠ 7 → ∀ v cap n f, RgOn W (fun b => lo i ≤ b ∧ b < hi i) v cap n f → RgOn W' (fun b => lo i ≤ b ∧ b < hi i) v cap n f := by
        intro hiA v cap n f H
        rcases hE with hB | ⟨rfl, b, u0, u1, hb, -, rfl⟩
        · exact H.below hB
        · simp only [List.getElem?_toArray, List.getElem?_cons_zero, List.getElem?_cons_succ, Option.some.injEq] at hoj
          subst hoj
          obtain ⟨⟨b', _, _, e, l1, l2, _⟩, hap⟩ := hk 7 (by kernel_rfl)
          have hap := hap (Ne.symm hiA)
          rw [hb] at e
          simp only [Value.pointer.injEq, Option.some.injEq, Addr.mk.injEq, and_true] at e
          subst e
          exact H.keep (Wrote.setCell (Wrote.setCell (Wrote.refl (fun q _ => q = b) W) (fun _ => rfl) _) (fun _ => rfl) _) (fun q o hq _ e => by obtain ⟨h1, h2⟩ := hq; omega)
      match i, ho, hij, nw, keepG, hk, h with
      | 0, _, hij, _, _, _, h => exact (updV_ne V x' hij).trans h
      | 1, _, hij, _, _, _, h => exact (updV_ne V x' hij).trans h
      | 2, _, hij, _, _, _, h => exact (updV_ne V x' hij).trans h
      | 3, _, hij, _, keepG, _, ⟨va, vc, h1, h2⟩ => exact ⟨va, vc, (updV_ne V x' hij).trans h1, keepG (by decide) _ _ _ _ h2⟩
      | 4, ho, hij, nw, _, _, ⟨va, vc, h1, h2⟩ =>
        simp only [List.getElem?_toArray, List.getElem?_cons_zero, List.getElem?_cons_succ, Option.some.injEq] at ho
        subst ho
        exact ⟨va, vc, (updV_ne V x' (nw 3 (by kernel_rfl))).trans h1, (updV_ne V x' hij).trans h2⟩
      | 5, ho, hij, nw, _, _, ⟨va, vc, h1, h2⟩ =>
        simp only [List.getElem?_toArray, List.getElem?_cons_zero, List.getElem?_cons_succ, Option.some.injEq] at ho
        subst ho
        exact ⟨va, vc, (updV_ne V x' (nw 4 (by kernel_rfl))).trans h1, (updV_ne V x' hij).trans h2⟩
      | 6, _, hij, _, _, _, h => exact (updV_ne V x' hij).trans h
      | 7, ho, hij, nw, _, hk, ⟨b, u0, u1, h1, h2, h3, h4⟩ =>
        rcases hE with hB | ⟨rfl, b2, y0, y1, hb, -, rfl⟩
        · exact ⟨b, u0, u1, (updV_ne V x' hij).trans h1, h2, h3, box_keep h4 hB (boxLt h4)⟩
        · rw [h1] at hb
          simp only [Value.pointer.injEq, Option.some.injEq, Addr.mk.injEq, and_true] at hb
          subst hb
          have HB := boxSetR (o := 1) (boxSetR (o := 0) h4 y0) y1
          simp only [List.setIfInBounds_toArray, List.set_cons_succ, List.set_cons_zero] at HB
          exact ⟨b, y0, y1, (updV_ne V x' hij).trans h1, h2, h3, HB⟩
      | 8, ho, hij, nw, _, _, ⟨b, wa, wc, h1, h2, h3⟩ =>
        simp only [List.getElem?_toArray, List.getElem?_cons_zero, List.getElem?_cons_succ, Option.some.injEq] at ho
        subst ho
        rcases hE with hB | ⟨e, _⟩
        · exact ⟨b, wa, wc, (updV_ne V x' (nw 7 (by kernel_rfl))).trans h1, (updV_ne V x' (nw 3 (by kernel_rfl))).trans h2, box_keep h3 hB (boxLt h3)⟩
        · exact absurd e.symm hij
      | 9, _, hij, _, _, _, h => exact (updV_ne V x' hij).trans h
      | n' + 10, ho, _, _, _, _, _ => simp at ho
    · intro i o a' W K ho F L hw hK
      have LB : Below W4.heap.size W4 W := L.below (Nat.le_refl _) (fun b o _ ⟨j, _, _, _, _, h⟩ => h)
      have tR := F.get (t := 8) (v := .pointer (some ⟨zbx0, 0, none⟩)) (by decide) rfl
      have tC := F.get (t := 3) (v := .pointer (some ⟨w.heap.size + 1, 0, none⟩)) (by decide) rfl
      match i with
      | 0 =>
        simp only [List.getElem?_toArray, List.getElem?_cons_zero, List.getElem?_cons_succ, Option.some.injEq] at ho
        subst ho
        have rb' := boxC (box_keep bx0 LB (boxLt bx0))
        clear hw
        go_simp
        exact hK _ _ (Or.inl (Below.refl _ _)) (updV_same _ _ _)
      | 1 =>
        simp only [List.getElem?_toArray, List.getElem?_cons_zero, List.getElem?_cons_succ, Option.some.injEq] at ho
        subst ho
        have rb' := boxC (box_keep kr LB (boxLt kr))
        clear hw
        go_simp
        exact hK _ _ (Or.inl (Below.refl _ _)) (updV_same _ _ _)
      | 2 =>
        simp only [List.getElem?_toArray, List.getElem?_cons_zero, List.getElem?_cons_succ, Option.some.injEq] at ho
        subst ho
        have q1 : a'.tmps[33]?.getD undef = .agg #[.int .i64 t, .int .i64 r, .int .i64 x] := by obtain ⟨_, _, _, _, q⟩ := hw 1 (by kernel_rfl); exact q
        go_simp
        refine (toRec W t r x).mono ?_
        rintro e W' ⟨rfl, LX⟩
        exact hK _ _ (Or.inl LX) (updV_same _ _ _)
      | 3 =>
        simp only [List.getElem?_toArray, List.getElem?_cons_zero, List.getElem?_cons_succ, Option.some.injEq] at ho
        subst ho
        have q1 : a'.tmps[32]?.getD undef = .agg #[.int .i64 cap, .slice xa n xc] := by obtain ⟨_, _, _, _, q⟩ := hw 0 (by kernel_rfl); exact q
        have oX := o0.below LB
        have q2 : a'.tmps[34]?.getD undef = .agg #[.int .i64 t, .int .i64 r, .int .i64 x] := by obtain ⟨_, _, _, _, q⟩ := hw 2 (by kernel_rfl); exact q
        go_simp
        refine (HI.out W _ _ oX).mono ?_
        rintro e W' ⟨vW, rfl, ⟨oW'⟩, LX⟩
        obtain ⟨wa', wc', rfl⟩ := oW'.two
        exact hK _ _ (Or.inl LX) ⟨wa', wc', updV_same _ _ _, oW'⟩
      | 4 =>
        simp only [List.getElem?_toArray, List.getElem?_cons_zero, List.getElem?_cons_succ, Option.some.injEq] at ho
        subst ho
        obtain ⟨_, _, _, _, wa', wc', v4, _⟩ := hw 3 (by kernel_rfl)
        have q4 : a'.tmps[35]?.getD undef = .tuple #[.agg #[.int .i64 cP, .slice wa' nP wc'], .bool rb] := v4
        go_simp
        exact hK _ _ (Or.inl (Below.refl _ _)) ⟨wa', wc', (updV_ne _ _ (by decide)).trans v4, updV_same _ _ _⟩
      | 5 =>
        simp only [List.getElem?_toArray, List.getElem?_cons_zero, List.getElem?_cons_succ, Option.some.injEq] at ho
        subst ho
        obtain ⟨_, _, _, _, wa', wc', v4, v5⟩ := hw 4 (by kernel_rfl)
        have q5 : a'.tmps[31]?.getD undef = .tuple #[.agg #[.int .i64 cP, .slice wa' nP wc'], .bool rb] := v5
        go_simp
        exact hK _ _ (Or.inl (Below.refl _ _)) ⟨wa', wc', (updV_ne _ _ (by decide)).trans v5, updV_same _ _ _⟩
      | 6 =>
        simp only [List.getElem?_toArray, List.getElem?_cons_zero, List.getElem?_cons_succ, Option.some.injEq] at ho
        subst ho
        obtain ⟨_, _, _, _, wa', wc', v4, v5⟩ := hw 4 (by kernel_rfl)
        have q5 : a'.tmps[31]?.getD undef = .tuple #[.agg #[.int .i64 cP, .slice wa' nP wc'], .bool rb] := v5
        go_simp
        exact hK _ _ (Or.inl (Below.refl _ _)) (updV_same _ _ _)
      | 7 =>
        simp only [List.getElem?_toArray, List.getElem?_cons_zero, List.getElem?_cons_succ, Option.some.injEq] at ho
        subst ho
        have hbn := box_new W #[.int .i64 0, .slice none 0 0] 29
        go_simp
        exact hK _ _ (Or.inl ((Below.refl _ _).alloc (Nat.le_refl _) _)) ⟨W.heap.size, _, _, updV_same _ _ _, Nat.le_refl _, by simp, hbn⟩
      | 8 =>
        simp only [List.getElem?_toArray, List.getElem?_cons_zero, List.getElem?_cons_succ, Option.some.injEq] at ho
        subst ho
        obtain ⟨loA, _, g1, _, zb, u0, u1, v8, g2, g3, rB⟩ := hw 7 (by kernel_rfl)
        replace v8 : a'.tmps[9]?.getD undef = .pointer (some ⟨zb, 0, none⟩) := v8
        obtain ⟨_, _, _, _, wa', wc', v5, v6⟩ := hw 5 (by kernel_rfl)
        obtain ⟨_, _, _, _, wa2, wc2, v4, v5'⟩ := hw 4 (by kernel_rfl)
        rw [v5] at v5'
        simp only [Value.tuple.injEq, Value.agg.injEq, Array.mk.injEq, List.cons.injEq, Value.slice.injEq, and_true, true_and] at v5'
        obtain ⟨rfl, rfl⟩ := v5'
        clear v5
        have q6 : a'.tmps[36]?.getD undef = .agg #[.int .i64 cP, .slice wa' nP wc'] := v6
        have c1 := boxC rB
        have f1 := boxF rB
        have HB := boxSetR (o := 1) (boxSetR (o := 0) rB (.int .i64 cP)) (.slice wa' nP wc')
        simp only [List.setIfInBounds_toArray, List.set_cons_succ, List.set_cons_zero] at HB
        have HBB := hide HB
        have gg : Hid (W4.heap.size ≤ zb) := Nat.le_trans g1 g2
        clear HB rB
        go_simp
        exact hK undef _ (Or.inr ⟨rfl, zb, _, _, v8, gg.out, rfl⟩) ⟨zb, wa', wc', (updV_ne _ _ (by decide)).trans v8, (updV_ne _ _ (by decide)).trans v4, HBB.out⟩
      | 9 =>
        simp only [List.getElem?_toArray, List.getElem?_cons_zero, List.getElem?_cons_succ, Option.some.injEq] at ho
        subst ho
        have q7 : a'.tmps[37]?.getD undef = .bool rb := by obtain ⟨_, _, _, _, q⟩ := hw 6 (by kernel_rfl); exact q
        go_simp
        exact hK _ _ (Or.inl (Below.refl _ _)) (updV_same _ _ _)
      | n' + 10 => simp at ho
    · intro a' W F L lo hi hφ hdj
      have LB : Below W4.heap.size W4 W := L.below (Nat.le_refl _) (fun b o _ ⟨j, h⟩ => h)
      obtain ⟨p1, p2, p3, wbxG, cbxG, v4, obxG⟩ := hφ 3 (by decide)
      obtain ⟨-, -, a3, zbxG, _, _, v8, a4, a5, -⟩ := hφ 7 (by decide)
      obtain ⟨a1, a2, -, z2, w2, c2, v8', v4', bxG⟩ := hφ 8 (by decide)
      have vG : a'.tmps[10]?.getD undef = .bool rb := (hφ 9 (by decide)).2.2.2
      have hap := hdj 3 7 (by decide) (by decide) (by decide)
      have aA := (hφ 7 (by decide)).1
      rw [v4] at v4'
      rw [v8] at v8'
      simp only [Value.tuple.injEq, Value.agg.injEq, Array.mk.injEq, List.cons.injEq, Value.slice.injEq, Value.pointer.injEq, Option.some.injEq, Addr.mk.injEq, and_true, true_and] at v4' v8'
      obtain ⟨rfl, rfl⟩ := v4'
      subst v8'
      replace v8 : a'.tmps[9]?.getD undef = .pointer (some ⟨zbxG, 0, none⟩) := v8
      have gzbxG : W4.heap.size ≤ zbxG := Nat.le_trans aA a4
      have azbxG : zbxG < lo 3 ∨ hi 3 ≤ zbxG := by omega
      have lzbxG := boxLt bxG
      generalize lo 3 = lbxG at *
      generalize hi 3 = hbxG at *
      have glbxG := p1
      have gmbxG := p2
      have ghbxG := p3
      rw [F.same, show slotsOf [some 32, some 33, some 34, some 35, some 31, some 36, some 37, some 9, none, some 10] = [32, 33, 34, 35, 31, 36, 37, 9, 10] from rfl]
      simp only [List.foldl_cons, List.foldl_nil]
      rw [v8, vG]
      clear hφ hdj L F v8 vG v4 p1 p2 p3 a1 a2 a3 a4 a5 aA hap
      generalize a'.tmps[32]?.getD undef = s32_bxG
      generalize a'.tmps[33]?.getD undef = s33_bxG
      generalize a'.tmps[34]?.getD undef = s34_bxG
      generalize a'.tmps[35]?.getD undef = s35_bxG
      generalize a'.tmps[31]?.getD undef = s31_bxG
      generalize a'.tmps[36]?.getD undef = s36_bxG
      generalize a'.tmps[37]?.getD undef = s37_bxG
      refine hK7 _ _ ?_
      go_simp
      obtain ⟨W5, hWW⟩ : ∃ x, x = W := ⟨_, rfl⟩
      subst hWW
      have C5 := below_snoc C4 LB
      replace k0 := box_keep k0 LB (boxLt k0)
      replace kr := box_keep kr LB (boxLt kr)
      replace bxW := box_keep bxW LB (boxLt bxW)
      replace bx0 := box_keep bx0 LB (boxLt bx0)
      replace obxW := obxW.below LB
      replace o0 := o0.below LB
      have sz5 := LB.size
      clear LB C4
      have c_bxG := boxC bxG
      have c_bxW := boxC bxW
      go_wp2_with fail
      clear c_bxG c_bxW
      refine (onEqRing _ _ _ _ _ cP nP fP obxG obxW).mono ?_
      rintro e W6 ⟨rfl, L⟩
      have C6 := below_snoc C5 L
      replace k0 := box_keep k0 L (boxLt k0)
      replace kr := box_keep kr L (boxLt kr)
      replace bxW := box_keep bxW L (boxLt bxW)
      replace bx0 := box_keep bx0 L (boxLt bx0)
      replace bxG := box_keep bxG L (boxLt bxG)
      replace obxW := obxW.below L
      replace o0 := o0.below L
      replace obxG := obxG.below L
      have sz6 := L.size
      clear L C5
      have hrr : (rb != rb) = false := by simp
      go_upto_region 10 with (fail)
      rename_i K2 hK2 K3' hK3'
      refine wp_region_eff [some 47, some 48, some 49, some 50, some 51] (by kernel_rfl) (by kernel_rfl) (by kernel_rfl) (by kernel_rfl) (by simp [slotsOf])
        (fun _ _ _ => False)
        (fun i v W => match i with
          | 0 => v = .agg #[.int .i64 cap, .slice xa n xc]
          | 1 => v = .agg #[.int .i64 cap, .slice a n c]
          | 2 => ∃ vX DX, v = vX ∧ RgOn W DX vX cap n f
          | 3 => v = .bool true
          | _ => v = .bool false) ?_ ?_ ?_
      · intro i j o v W W' hij _ _ hW h
        match i, h with
        | 0, h => exact h
        | 1, h => exact h
        | 2, ⟨vX, DX, h1, h2⟩ => exact ⟨vX, DX, h1, h2.keep hW (fun _ _ _ _ x => x)⟩
        | 3, h => exact h
        | _ + 4, h => exact h
      · intro i o a' W K ho F L hw hK
        have t1 := F.get (t := 2) (v := .pointer (some ⟨w.heap.size, 0, none⟩)) (by decide) rfl
        have t5 := F.get (t := 8) (v := .pointer (some ⟨zbx0, 0, none⟩)) (by decide) rfl
        have LB : Below W6.heap.size W6 W := L.below (Nat.le_refl _) (fun b o _ ⟨j, _, _, _, _, h⟩ => h)
        match i with
        | 0 =>
            simp only [List.getElem?_toArray, List.getElem?_cons_zero, List.getElem?_cons_succ, Option.some.injEq] at ho
            subst ho
            have rb' := boxC (box_keep bx0 LB (boxLt bx0))
            go_simp
            exact hK _ _ (Wrote.refl _ _) rfl
        | 1 =>
            simp only [List.getElem?_toArray, List.getElem?_cons_zero, List.getElem?_cons_succ, Option.some.injEq] at ho
            subst ho
            have rb' := boxC (box_keep k0 LB (boxLt k0))
            go_simp
            exact hK _ _ (Wrote.refl _ _) rfl
        | 2 =>
            simp only [List.getElem?_toArray, List.getElem?_cons_zero, List.getElem?_cons_succ, Option.some.injEq] at ho
            subst ho
            have q1 : a'.tmps[48]?.getD undef = .agg #[.int .i64 cap, .slice a n c] := hw 1 (by kernel_rfl)
            go_simp
            refine (onToRing W a n c cap f hn1 (hr.keep (wrote_below (below_snoc C6 LB) Nowhere) (fun _ _ _ x => x))).mono ?_
            rintro e W' ⟨vX, rfl, oX, LX⟩
            exact hK _ _ (wrote_below LX _) ⟨vX, _, rfl, oX⟩
        | 3 =>
            simp only [List.getElem?_toArray, List.getElem?_cons_zero, List.getElem?_cons_succ, Option.some.injEq] at ho
            subst ho
            have q0 : a'.tmps[47]?.getD undef = .agg #[.int .i64 cap, .slice xa n xc] := hw 0 (by kernel_rfl)
            obtain ⟨vX, DX, q2, oX⟩ : ∃ vX DX, a'.tmps[49]?.getD undef = vX ∧ RgOn W DX vX cap n f := hw 2 (by kernel_rfl)
            go_simp
            refine (onEqRing W _ _ _ _ cap n f (o0.below LB) oX).mono ?_
            rintro e W' ⟨rfl, LX⟩
            exact hK _ _ (wrote_below LX _) rfl
        | 4 =>
            simp only [List.getElem?_toArray, List.getElem?_cons_zero, List.getElem?_cons_succ, Option.some.injEq] at ho
            subst ho
            have q3 : a'.tmps[50]?.getD undef = .bool true := hw 3 (by kernel_rfl)
            go_simp
            exact hK _ _ (Wrote.refl _ _) rfl
        | _ + 5 => simp at ho
      · intro a' W F L hφ
        have LB : Below W6.heap.size W6 W := L.below (Nat.le_refl _) (fun b o _ ⟨j, h⟩ => h)
        have v4 : a'.tmps[51]?.getD undef = .bool false := hφ 4 (by decide)
        rw [F.same, show slotsOf [some 47, some 48, some 49, some 50, some 51] = [47, 48, 49, 50, 51] from rfl]
        simp only [List.foldl_cons, List.foldl_nil]
        rw [v4]
        generalize a'.tmps[47]?.getD undef = s0
        generalize a'.tmps[48]?.getD undef = s1'
        generalize a'.tmps[49]?.getD undef = s2
        generalize a'.tmps[50]?.getD undef = s3
        clear hφ L F v4
        refine hK3' _ _ ?_
        go_simp
        obtain ⟨W7, hWW⟩ : ∃ x, x = W := ⟨_, rfl⟩
        subst hWW
        have C7 := below_snoc C6 LB
        replace k0 := box_keep k0 LB (boxLt k0)
        replace kr := box_keep kr LB (boxLt kr)
        replace bxW := box_keep bxW LB (boxLt bxW)
        replace bx0 := box_keep bx0 LB (boxLt bx0)
        replace bxG := box_keep bxG LB (boxLt bxG)
        replace obxW := obxW.below LB
        replace o0 := o0.below LB
        replace obxG := obxG.below LB
        have sz7 := LB.size
        clear LB C6
        have c_bx0 := boxC bx0
        go_wp2_with fail
        clear c_bx0
        refine (onMarkRing _ _ _ cap n f 1 o0 (by omega) (by omega)).mono ?_
        rintro e W8 ⟨rfl, -, T⟩
        have C8 := C7.trans (T.below C7.size (fun b o hb h => by obtain ⟨h1, h2⟩ := h; omega))
        replace k0 := box_wrote' k0 T (fun o h => by obtain ⟨h1, h2⟩ := h; omega)
        replace kr := box_wrote' kr T (fun o h => by obtain ⟨h1, h2⟩ := h; omega)
        replace bxW := box_wrote' bxW T (fun o h => by obtain ⟨h1, h2⟩ := h; omega)
        replace bx0 := box_wrote' bx0 T (fun o h => by obtain ⟨h1, h2⟩ := h; omega)
        replace bxG := box_wrote' bxG T (fun o h => by obtain ⟨h1, h2⟩ := h; omega)
        replace obxW := obxW.keep T (fun b o hb _ h => by obtain ⟨h1, h2⟩ := h; obtain ⟨h3, h4⟩ := hb; omega)
        replace obxG := obxG.keep T (fun b o hb _ h => by obtain ⟨h1, h2⟩ := h; obtain ⟨h3, h4⟩ := hb; omega)
        have sz8 := T.size
        clear T C7
        clear o0
        obtain ⟨kd, hkd⟩ : ∃ k : Int, Hid (k = 1 + 3 * (n : Int)) := ⟨_, rfl⟩
        rw [← hkd.out]
        have hk0 : ¬ (kd < 0) := by rw [hkd.out]; omega
        have hk0' : decide (kd < 0) = false := decide_eq_false hk0
        clear hkd
        have c_bxG := boxC bxG
        have c_bxW := boxC bxW
        go_wp2_with fail
        clear c_bxG c_bxW
        refine (onEqRing _ _ _ _ _ cP nP fP obxG obxW).mono ?_
        rintro e W9 ⟨rfl, L⟩
        have C9 := below_snoc C8 L
        replace k0 := box_keep k0 L (boxLt k0)
        replace kr := box_keep kr L (boxLt kr)
        replace bxW := box_keep bxW L (boxLt bxW)
        replace bx0 := box_keep bx0 L (boxLt bx0)
        replace bxG := box_keep bxG L (boxLt bxG)
        replace obxW := obxW.below L
        replace obxG := obxG.below L
        have sz9 := L.size
        clear L C8
        have c_bxG := boxC bxG
        go_wp2_with fail
        clear c_bxG
        refine (onMarkRing _ _ _ cP nP fP 1 obxG (by omega) (by omega)).mono ?_
        rintro e W10 ⟨rfl, oK, T⟩
        have C10 := C9.trans (T.below C9.size (fun b o hb h => by obtain ⟨h1, h2⟩ := h; omega))
        replace k0 := box_wrote' k0 T (fun o h => by obtain ⟨h1, h2⟩ := h; omega)
        replace kr := box_wrote' kr T (fun o h => by obtain ⟨h1, h2⟩ := h; omega)
        replace bxW := box_wrote' bxW T (fun o h => by obtain ⟨h1, h2⟩ := h; omega)
        replace bx0 := box_wrote' bx0 T (fun o h => by obtain ⟨h1, h2⟩ := h; omega)
        replace bxG := box_wrote' bxG T (fun o h => by obtain ⟨h1, h2⟩ := h; omega)
        replace obxW := obxW.keep T (fun b o hb _ h => by obtain ⟨h1, h2⟩ := h; obtain ⟨h3, h4⟩ := hb; omega)
        have sz10 := T.size
        clear T C9
        clear obxG
        have HHD := hide (fun W D h => onHeldRing W D (.agg #[.int .i64 cP, .slice wbxG nP cbxG]) cP nP 1 h (by omega) (by omega))
        obtain ⟨km, hkm⟩ : ∃ k : Int, Hid (k = 1 + 3 * (nP : Int)) := ⟨_, rfl⟩
        rw [← hkm.out] at HHD ⊢
        have hm0 : ¬ (km < 0) := by rw [hkm.out]; omega
        have hmm : (km != km) = false := by simp
        clear hkm
        have c_bxG := boxC bxG
        go_wp2_with fail
        clear c_bxG
        refine (HHD.out _ _ oK).mono ?_
        rintro e W11 ⟨rfl, L⟩
        have C11 := below_snoc C10 L
        replace k0 := box_keep k0 L (boxLt k0)
        replace kr := box_keep kr L (boxLt kr)
        replace bxW := box_keep bxW L (boxLt bxW)
        replace bx0 := box_keep bx0 L (boxLt bx0)
        replace bxG := box_keep bxG L (boxLt bxG)
        replace obxW := obxW.below L
        replace oK := oK.below L
        have sz11 := L.size
        clear L C10
        go_upto_region 24 with (fail)
        rename_i K24 hK24
        refine wp_region_effJ [some 80, some 81, some 82, some 83, some 84, some 79, some 85, some 86, some 14, none, some 15] (by kernel_rfl) (by kernel_rfl) (by kernel_rfl) (by kernel_rfl) (by simp [slotsOf])
          (fun _ _ _ => False)
          (fun j V b => j = 9 ∧ V 8 = .pointer (some ⟨b, 0, none⟩))
          (fun j V W W' => Below W.heap.size W W' ∨ (j = 9 ∧ ∃ b u0 u1, V 8 = .pointer (some ⟨b, 0, none⟩) ∧ W11.heap.size ≤ b ∧ W' = (W.setCell ⟨b, 0, none⟩ u0).setCell ⟨b, 1, none⟩ u1))
          (fun i V lo hi W => match i with
            | 0 => V 0 = .agg #[.int .i64 cap, .slice a n c]
            | 1 => ∃ va vc, V 1 = .agg #[.int .i64 cap, .slice va n vc] ∧ RgOn W (fun b => lo ≤ b ∧ b < hi) (.agg #[.int .i64 cap, .slice va n vc]) cap n f
            | 2 => V 2 = .agg #[.int .i64 t, .int .i64 r, .int .i64 x]
            | 3 => V 3 = .agg #[.int .i64 t, .int .i64 r, .int .i64 x]
            | 4 => ∃ wa wc, V 4 = .tuple #[.agg #[.int .i64 cP, .slice wa nP wc], .bool rb] ∧ RgOn W (fun b => lo ≤ b ∧ b < hi) (.agg #[.int .i64 cP, .slice wa nP wc]) cP nP fP
            | 5 => ∃ wa wc, V 4 = .tuple #[.agg #[.int .i64 cP, .slice wa nP wc], .bool rb] ∧ V 5 = .tuple #[.agg #[.int .i64 cP, .slice wa nP wc], .bool rb]
            | 6 => ∃ wa wc, V 5 = .tuple #[.agg #[.int .i64 cP, .slice wa nP wc], .bool rb] ∧ V 6 = .agg #[.int .i64 cP, .slice wa nP wc]
            | 7 => V 7 = .bool rb
            | 8 => ∃ b u0 u1, V 8 = .pointer (some ⟨b, 0, none⟩) ∧ lo ≤ b ∧ b < hi ∧ W.heap[b]? = some (.cells #[u0, u1] 29 (0, 0))
            | 9 => ∃ b wa wc, V 8 = .pointer (some ⟨b, 0, none⟩) ∧ V 4 = .tuple #[.agg #[.int .i64 cP, .slice wa nP wc], .bool rb] ∧ W.heap[b]? = some (.cells #[.int .i64 cP, .slice wa nP wc] 29 (0, 0))
            | _ => V 10 = .bool rb) ?_ ?_ ?_ ?_
        · intro j V W W' h
          rcases h with h | ⟨rfl, b, u0, u1, h1, h2, rfl⟩
          · exact wrote_below h _
          · exact Wrote.setCell (Wrote.setCell (Wrote.refl _ W) (fun _ => Or.inr ⟨h2, rfl, h1⟩) _) (fun _ => Or.inr ⟨h2, rfl, h1⟩) _
        · intro i j o oj V x' lo hi W W' hij ho hoj hnw hlo hhi hk hE h
          have nw : ∀ k, waitsB o k = true → k ≠ j := fun k hk e => by rw [e, hnw] at hk; cases hk
          have keepG : i ≠ 8 → ∀ v cap n f, RgOn W (fun b => lo i ≤ b ∧ b < hi i) v cap n f → RgOn W' (fun b => lo i ≤ b ∧ b < hi i) v cap n f := by
            intro hiA v cap n f H
            rcases hE with hB | ⟨rfl, b, u0, u1, hb, -, rfl⟩
            · exact H.below hB
            · simp only [List.getElem?_toArray, List.getElem?_cons_zero, List.getElem?_cons_succ, Option.some.injEq] at hoj
              subst hoj
              obtain ⟨⟨b', _, _, e, l1, l2, _⟩, hap⟩ := hk 8 (by kernel_rfl)
              have hap := hap (Ne.symm hiA)
              rw [hb] at e
              simp only [Value.pointer.injEq, Option.some.injEq, Addr.mk.injEq, and_true] at e
              subst e
              exact H.keep (Wrote.setCell (Wrote.setCell (Wrote.refl (fun q _ => q = b) W) (fun _ => rfl) _) (fun _ => rfl) _) (fun q o hq _ e => by obtain ⟨h1, h2⟩ := hq; omega)
          match i, ho, hij, nw, keepG, hk, h with
          | 0, _, hij, _, _, _, h => exact (updV_ne V x' hij).trans h
          | 1, _, hij, _, keepG, _, ⟨va, vc, h1, h2⟩ => exact ⟨va, vc, (updV_ne V x' hij).trans h1, keepG (by decide) _ _ _ _ h2⟩
          | 2, _, hij, _, _, _, h => exact (updV_ne V x' hij).trans h
          | 3, _, hij, _, _, _, h => exact (updV_ne V x' hij).trans h
          | 4, _, hij, _, keepG, _, ⟨va, vc, h1, h2⟩ => exact ⟨va, vc, (updV_ne V x' hij).trans h1, keepG (by decide) _ _ _ _ h2⟩
          | 5, ho, hij, nw, _, _, ⟨va, vc, h1, h2⟩ =>
            simp only [List.getElem?_toArray, List.getElem?_cons_zero, List.getElem?_cons_succ, Option.some.injEq] at ho
            subst ho
            exact ⟨va, vc, (updV_ne V x' (nw 4 (by kernel_rfl))).trans h1, (updV_ne V x' hij).trans h2⟩
          | 6, ho, hij, nw, _, _, ⟨va, vc, h1, h2⟩ =>
            simp only [List.getElem?_toArray, List.getElem?_cons_zero, List.getElem?_cons_succ, Option.some.injEq] at ho
            subst ho
            exact ⟨va, vc, (updV_ne V x' (nw 5 (by kernel_rfl))).trans h1, (updV_ne V x' hij).trans h2⟩
          | 7, _, hij, _, _, _, h => exact (updV_ne V x' hij).trans h
          | 8, ho, hij, nw, _, hk, ⟨b, u0, u1, h1, h2, h3, h4⟩ =>
            rcases hE with hB | ⟨rfl, b2, y0, y1, hb, -, rfl⟩
            · exact ⟨b, u0, u1, (updV_ne V x' hij).trans h1, h2, h3, box_keep h4 hB (boxLt h4)⟩
            · rw [h1] at hb
              simp only [Value.pointer.injEq, Option.some.injEq, Addr.mk.injEq, and_true] at hb
              subst hb
              have HB := boxSetR (o := 1) (boxSetR (o := 0) h4 y0) y1
              simp only [List.setIfInBounds_toArray, List.set_cons_succ, List.set_cons_zero] at HB
              exact ⟨b, y0, y1, (updV_ne V x' hij).trans h1, h2, h3, HB⟩
          | 9, ho, hij, nw, _, _, ⟨b, wa, wc, h1, h2, h3⟩ =>
            simp only [List.getElem?_toArray, List.getElem?_cons_zero, List.getElem?_cons_succ, Option.some.injEq] at ho
            subst ho
            rcases hE with hB | ⟨e, _⟩
            · exact ⟨b, wa, wc, (updV_ne V x' (nw 8 (by kernel_rfl))).trans h1, (updV_ne V x' (nw 4 (by kernel_rfl))).trans h2, box_keep h3 hB (boxLt h3)⟩
            · exact absurd e.symm hij
          | 10, _, hij, _, _, _, h => exact (updV_ne V x' hij).trans h
          | n' + 11, ho, _, _, _, _, _ => simp at ho
        · intro i o a' W K ho F L hw hK
          have LB : Below W11.heap.size W11 W := L.below (Nat.le_refl _) (fun b o _ ⟨j, _, _, _, _, h⟩ => h)
          have tR := F.get (t := 2) (v := .pointer (some ⟨w.heap.size, 0, none⟩)) (by decide) rfl
          have tC := F.get (t := 3) (v := .pointer (some ⟨w.heap.size + 1, 0, none⟩)) (by decide) rfl
          match i with
          | 0 =>
            simp only [List.getElem?_toArray, List.getElem?_cons_zero, List.getElem?_cons_succ, Option.some.injEq] at ho
            subst ho
            have rb' := boxC (box_keep k0 LB (boxLt k0))
            clear hw
            go_simp
            exact hK _ _ (Or.inl (Below.refl _ _)) (updV_same _ _ _)
          | 1 =>
            simp only [List.getElem?_toArray, List.getElem?_cons_zero, List.getElem?_cons_succ, Option.some.injEq] at ho
            subst ho
            have q1 : a'.tmps[80]?.getD undef = .agg #[.int .i64 cap, .slice a n c] := by obtain ⟨_, _, _, _, q⟩ := hw 0 (by kernel_rfl); exact q
            go_simp
            refine (onToRing W a n c cap f hn1 (hr.keep (wrote_below (below_snoc C11 LB) Nowhere) (fun _ _ _ x => x))).mono ?_
            rintro e W' ⟨vX, rfl, oX, LX⟩
            obtain ⟨va, vc, rfl⟩ := oX.two
            exact hK _ _ (Or.inl LX) ⟨va, vc, updV_same _ _ _, oX⟩
          | 2 =>
            simp only [List.getElem?_toArray, List.getElem?_cons_zero, List.getElem?_cons_succ, Option.some.injEq] at ho
            subst ho
            have rb' := boxC (box_keep kr LB (boxLt kr))
            clear hw
            go_simp
            exact hK _ _ (Or.inl (Below.refl _ _)) (updV_same _ _ _)
          | 3 =>
            simp only [List.getElem?_toArray, List.getElem?_cons_zero, List.getElem?_cons_succ, Option.some.injEq] at ho
            subst ho
            have q1 : a'.tmps[82]?.getD undef = .agg #[.int .i64 t, .int .i64 r, .int .i64 x] := by obtain ⟨_, _, _, _, q⟩ := hw 2 (by kernel_rfl); exact q
            go_simp
            refine (toRec W t r x).mono ?_
            rintro e W' ⟨rfl, LX⟩
            exact hK _ _ (Or.inl LX) (updV_same _ _ _)
          | 4 =>
            simp only [List.getElem?_toArray, List.getElem?_cons_zero, List.getElem?_cons_succ, Option.some.injEq] at ho
            subst ho
            obtain ⟨_, _, _, _, va, vc, q1, oX⟩ := hw 1 (by kernel_rfl)
            replace q1 : a'.tmps[81]?.getD undef = .agg #[.int .i64 cap, .slice va n vc] := q1
            have q2 : a'.tmps[83]?.getD undef = .agg #[.int .i64 t, .int .i64 r, .int .i64 x] := by obtain ⟨_, _, _, _, q⟩ := hw 3 (by kernel_rfl); exact q
            go_simp
            refine (HI.out W _ _ oX).mono ?_
            rintro e W' ⟨vW, rfl, ⟨oW'⟩, LX⟩
            obtain ⟨wa', wc', rfl⟩ := oW'.two
            exact hK _ _ (Or.inl LX) ⟨wa', wc', updV_same _ _ _, oW'⟩
          | 5 =>
            simp only [List.getElem?_toArray, List.getElem?_cons_zero, List.getElem?_cons_succ, Option.some.injEq] at ho
            subst ho
            obtain ⟨_, _, _, _, wa', wc', v4, _⟩ := hw 4 (by kernel_rfl)
            have q4 : a'.tmps[84]?.getD undef = .tuple #[.agg #[.int .i64 cP, .slice wa' nP wc'], .bool rb] := v4
            go_simp
            exact hK _ _ (Or.inl (Below.refl _ _)) ⟨wa', wc', (updV_ne _ _ (by decide)).trans v4, updV_same _ _ _⟩
          | 6 =>
            simp only [List.getElem?_toArray, List.getElem?_cons_zero, List.getElem?_cons_succ, Option.some.injEq] at ho
            subst ho
            obtain ⟨_, _, _, _, wa', wc', v4, v5⟩ := hw 5 (by kernel_rfl)
            have q5 : a'.tmps[79]?.getD undef = .tuple #[.agg #[.int .i64 cP, .slice wa' nP wc'], .bool rb] := v5
            go_simp
            exact hK _ _ (Or.inl (Below.refl _ _)) ⟨wa', wc', (updV_ne _ _ (by decide)).trans v5, updV_same _ _ _⟩
          | 7 =>
            simp only [List.getElem?_toArray, List.getElem?_cons_zero, List.getElem?_cons_succ, Option.some.injEq] at ho
            subst ho
            obtain ⟨_, _, _, _, wa', wc', v4, v5⟩ := hw 5 (by kernel_rfl)
            have q5 : a'.tmps[79]?.getD undef = .tuple #[.agg #[.int .i64 cP, .slice wa' nP wc'], .bool rb] := v5
            go_simp
            exact hK _ _ (Or.inl (Below.refl _ _)) (updV_same _ _ _)
          | 8 =>
            simp only [List.getElem?_toArray, List.getElem?_cons_zero, List.getElem?_cons_succ, Option.some.injEq] at ho
            subst ho
            have hbn := box_new W #[.int .i64 0, .slice none 0 0] 29
            go_simp
            exact hK _ _ (Or.inl ((Below.refl _ _).alloc (Nat.le_refl _) _)) ⟨W.heap.size, _, _, updV_same _ _ _, Nat.le_refl _, by simp, hbn⟩
          | 9 =>
            simp only [List.getElem?_toArray, List.getElem?_cons_zero, List.getElem?_cons_succ, Option.some.injEq] at ho
            subst ho
            obtain ⟨loA, _, g1, _, zb, u0, u1, v8, g2, g3, rB⟩ := hw 8 (by kernel_rfl)
            replace v8 : a'.tmps[14]?.getD undef = .pointer (some ⟨zb, 0, none⟩) := v8
            obtain ⟨_, _, _, _, wa', wc', v5, v6⟩ := hw 6 (by kernel_rfl)
            obtain ⟨_, _, _, _, wa2, wc2, v4, v5'⟩ := hw 5 (by kernel_rfl)
            rw [v5] at v5'
            simp only [Value.tuple.injEq, Value.agg.injEq, Array.mk.injEq, List.cons.injEq, Value.slice.injEq, and_true, true_and] at v5'
            obtain ⟨rfl, rfl⟩ := v5'
            clear v5
            have q6 : a'.tmps[85]?.getD undef = .agg #[.int .i64 cP, .slice wa' nP wc'] := v6
            have c1 := boxC rB
            have f1 := boxF rB
            have HB := boxSetR (o := 1) (boxSetR (o := 0) rB (.int .i64 cP)) (.slice wa' nP wc')
            simp only [List.setIfInBounds_toArray, List.set_cons_succ, List.set_cons_zero] at HB
            have HBB := hide HB
            have gg : Hid (W11.heap.size ≤ zb) := Nat.le_trans g1 g2
            clear HB rB
            go_simp
            exact hK undef _ (Or.inr ⟨rfl, zb, _, _, v8, gg.out, rfl⟩) ⟨zb, wa', wc', (updV_ne _ _ (by decide)).trans v8, (updV_ne _ _ (by decide)).trans v4, HBB.out⟩
          | 10 =>
            simp only [List.getElem?_toArray, List.getElem?_cons_zero, List.getElem?_cons_succ, Option.some.injEq] at ho
            subst ho
            have q7 : a'.tmps[86]?.getD undef = .bool rb := by obtain ⟨_, _, _, _, q⟩ := hw 7 (by kernel_rfl); exact q
            go_simp
            exact hK _ _ (Or.inl (Below.refl _ _)) (updV_same _ _ _)
          | n' + 11 => simp at ho
        · intro a' W F L lo hi hφ hdj
          have LB : Below W11.heap.size W11 W := L.below (Nat.le_refl _) (fun b o _ ⟨j, h⟩ => h)
          obtain ⟨p1, p2, p3, wbxY, cbxY, v4, obxY⟩ := hφ 4 (by decide)
          obtain ⟨-, -, a3, zbxY, _, _, v8, a4, a5, -⟩ := hφ 8 (by decide)
          obtain ⟨a1, a2, -, z2, w2, c2, v8', v4', bxY⟩ := hφ 9 (by decide)
          have vG : a'.tmps[15]?.getD undef = .bool rb := (hφ 10 (by decide)).2.2.2
          have hap := hdj 4 8 (by decide) (by decide) (by decide)
          have aA := (hφ 8 (by decide)).1
          rw [v4] at v4'
          rw [v8] at v8'
          simp only [Value.tuple.injEq, Value.agg.injEq, Array.mk.injEq, List.cons.injEq, Value.slice.injEq, Value.pointer.injEq, Option.some.injEq, Addr.mk.injEq, and_true, true_and] at v4' v8'
          obtain ⟨rfl, rfl⟩ := v4'
          subst v8'
          replace v8 : a'.tmps[14]?.getD undef = .pointer (some ⟨zbxY, 0, none⟩) := v8
          have gzbxY : W11.heap.size ≤ zbxY := Nat.le_trans aA a4
          have azbxY : zbxY < lo 4 ∨ hi 4 ≤ zbxY := by omega
          have lzbxY := boxLt bxY
          generalize lo 4 = lbxY at *
          generalize hi 4 = hbxY at *
          have glbxY := p1
          have gmbxY := p2
          have ghbxY := p3
          rw [F.same, show slotsOf [some 80, some 81, some 82, some 83, some 84, some 79, some 85, some 86, some 14, none, some 15] = [80, 81, 82, 83, 84, 79, 85, 86, 14, 15] from rfl]
          simp only [List.foldl_cons, List.foldl_nil]
          rw [v8, vG]
          clear hφ hdj L F v8 vG v4 p1 p2 p3 a1 a2 a3 a4 a5 aA hap
          generalize a'.tmps[80]?.getD undef = s80_bxY
          generalize a'.tmps[81]?.getD undef = s81_bxY
          generalize a'.tmps[82]?.getD undef = s82_bxY
          generalize a'.tmps[83]?.getD undef = s83_bxY
          generalize a'.tmps[84]?.getD undef = s84_bxY
          generalize a'.tmps[79]?.getD undef = s79_bxY
          generalize a'.tmps[85]?.getD undef = s85_bxY
          generalize a'.tmps[86]?.getD undef = s86_bxY
          refine hK24 _ _ ?_
          go_simp
          obtain ⟨W12, hWW⟩ : ∃ x, x = W := ⟨_, rfl⟩
          subst hWW
          have C12 := below_snoc C11 LB
          replace k0 := box_keep k0 LB (boxLt k0)
          replace kr := box_keep kr LB (boxLt kr)
          replace bxW := box_keep bxW LB (boxLt bxW)
          replace bx0 := box_keep bx0 LB (boxLt bx0)
          replace bxG := box_keep bxG LB (boxLt bxG)
          replace obxW := obxW.below LB
          replace oK := oK.below LB
          have sz12 := LB.size
          clear LB C11
          have c_bxY := boxC bxY
          have c_bxW := boxC bxW
          go_wp2_with fail
          clear c_bxY c_bxW
          refine (onEqRing _ _ _ _ _ cP nP fP obxY obxW).mono ?_
          rintro e W13 ⟨rfl, L⟩
          have C13 := below_snoc C12 L
          replace k0 := box_keep k0 L (boxLt k0)
          replace kr := box_keep kr L (boxLt kr)
          replace bxW := box_keep bxW L (boxLt bxW)
          replace bx0 := box_keep bx0 L (boxLt bx0)
          replace bxG := box_keep bxG L (boxLt bxG)
          replace bxY := box_keep bxY L (boxLt bxY)
          replace obxW := obxW.below L
          replace oK := oK.below L
          replace obxY := obxY.below L
          have sz13 := L.size
          clear L C12
          have c_bxG := boxC bxG
          go_wp2_with fail
          clear c_bxG
          refine (HHD.out _ _ oK).mono ?_
          rintro e W14 ⟨rfl, L⟩
          have C14 := below_snoc C13 L
          replace k0 := box_keep k0 L (boxLt k0)
          replace kr := box_keep kr L (boxLt kr)
          replace bxW := box_keep bxW L (boxLt bxW)
          replace bx0 := box_keep bx0 L (boxLt bx0)
          replace bxG := box_keep bxG L (boxLt bxG)
          replace bxY := box_keep bxY L (boxLt bxY)
          replace obxW := obxW.below L
          replace oK := oK.below L
          replace obxY := obxY.below L
          have sz14 := L.size
          clear L C13
          go_wp2
          go_ret
          exact ⟨rfl, C14⟩
end Go.Proofs.Ytpaedkefmebjjas
