/-
  Chapter 13's draws of a ring and a record, and of a number.
-/
import Derived.Test.YtpaedkefmebjjacRT
namespace Go.Proofs.Ytpaedkefmebjjac
set_option linter.unusedVariables false
set_option linter.unusedSimpArgs false
open Go.ChangeShapes Go.WideShapes Go.ChangeAt Go.RowKit Go.Sort
def pickT (j : Nat) : Int := [0, 5, 20, 99, 20000, 20001].getD j 0
theorem cur_wrote {W W' : World} {B c z : Nat} {a : Option Addr} {len cap : Nat} (H : Cur W B c a len cap) (hT : Wrote (fun b _ => b = z) W W') (hz : z ≠ c) (hB : B ≤ z) : Cur W' B c a len cap := by
  obtain ⟨up, code, sl, ⟨i, hi, ix⟩, ⟨h, hx⟩, f1, f2⟩ := H
  have hc : c < W.heap.size := block_lt_of_cell sl
  have e : ∀ o, W'.cell? ⟨c, o, none⟩ = W.cell? ⟨c, o, none⟩ := fun o => hT.cell c o hc (fun e => hz e.symm)
  have f : ∀ o, W'.frozen? ⟨c, o, none⟩ = W.frozen? ⟨c, o, none⟩ := fun o => hT.frozen c o hc
  exact ⟨up, code.keep (hT.below (by omega) (fun b o hb (e : b = z) => by omega)), (e 0).trans sl, ⟨i, hi, (e 1).trans ix⟩, ⟨h, (e 2).trans hx⟩, (f 1).trans f1, (f 2).trans f2⟩
set_option maxRecDepth 20000 in
set_option maxHeartbeats 4000000 in
theorem drawRingPut (w : World) (B : Nat) (a : Option Addr) (len cap : Nat) (hB : B ≤ w.heap.size) (H : Code w B a len) :
    Calls Try.prog 6 #[.slice a len cap] w fun e w' => ∃ (cR : Int) (n : Nat) (f : Nat → Int) (v : Value) (t r x : Int), e = .returned (.tuple #[v, .agg #[.int .i64 t, .int .i64 r, .int .i64 x]]) ∧ RgOn w' (fun b => w.heap.size ≤ b) v cR n f ∧ Below w.heap.size w w' := by
  have LA : Below w.heap.size w ((w.alloc (.cells #[.int .i64 0, .slice none 0 0] 26)).alloc (.cells #[.int .i64 0, .int .i64 0, .int .i64 0] 28)) := ((Below.refl _ _).alloc (Nat.le_refl _) _).alloc (by simp) _
  have kQ : ((w.alloc (.cells #[.int .i64 0, .slice none 0 0] 26)).alloc (.cells #[.int .i64 0, .int .i64 0, .int .i64 0] 28)).heap[w.heap.size]? = some (.cells #[.int .i64 0, .slice none 0 0] 26 (0, 0)) := boxA (box_new w _ _) _
  have kE : ((w.alloc (.cells #[.int .i64 0, .slice none 0 0] 26)).alloc (.cells #[.int .i64 0, .int .i64 0, .int .i64 0] 28)).heap[w.heap.size + 1]? = some (.cells #[.int .i64 0, .int .i64 0, .int .i64 0] 28 (0, 0)) := by simpa using box_new (w.alloc (.cells #[.int .i64 0, .slice none 0 0] 26)) #[.int .i64 0, .int .i64 0, .int .i64 0] 28
  have H0 := H.keep (LA.mono hB)
  go_enter Try.func6, Try.ntmps6
  go_wp2_with fail
  obtain ⟨W0, hW0⟩ : ∃ W, W = (w.alloc (.cells #[.int .i64 0, .slice none 0 0] 26)).alloc (.cells #[.int .i64 0, .int .i64 0, .int .i64 0] 28) := ⟨_, rfl⟩
  have hz0 : W0.heap.size = w.heap.size + 2 := by rw [hW0]; simp
  rw [← hW0] at H0 LA kQ kE ⊢
  clear hW0
  refine (l1New W0 B a len cap (by omega) H0).mono ?_
  rintro e W1 ⟨rfl, H1, L1, z1⟩
  have C1 := below_snoc LA L1
  replace kQ := box_keep kQ L1 (boxLt kQ)
  replace kE := box_keep kE L1 (boxLt kE)
  obtain ⟨c, hc0⟩ : ∃ x, Hid (x = W0.heap.size) := ⟨_, rfl⟩
  rw [← hc0.out] at H1 z1 ⊢
  have e0 : w.heap.size + 1 < c := by rw [hc0.out]; omega
  have e1 : c < W1.heap.size := by omega
  clear LA L1 H0 hc0 hz0 z1
  go_wp2_with fail
  refine (l13Draw W1 B c a len cap H1 e1).mono ?_
  rintro e W2 ⟨cR, n, f, v, rfl, hR, HC, S2⟩
  have C2 : Below w.heap.size w W2 := C1.trans (S2.below (by omega) (by omega))
  replace kQ := (S2.block _ (boxLt kQ) (by omega)).trans kQ
  replace kE := (S2.block _ (boxLt kE) (by omega)).trans kE
  have hs2 := S2.size
  clear S2 C1 H1
  obtain ⟨ra, rc, rfl⟩ := hR.two
  have LA : Below W2.heap.size W2 (W2.alloc (.cells #[.int .i64 cR, .slice ra n rc] 26)) := (Below.refl _ _).alloc (Nat.le_refl _) _
  have kR := box_new W2 #[.int .i64 cR, .slice ra n rc] 26
  have C3 := below_snoc C2 LA
  replace kQ := box_keep kQ LA (boxLt kQ)
  replace kE := box_keep kE LA (boxLt kE)
  replace hR := hR.below LA
  replace HC := HC.below LA (by omega)
  clear LA C2
  go_upto_region 3 with (fail)
  obtain ⟨zr, hzr⟩ : ∃ z, Hid (z = W2.heap.size) := ⟨_, rfl⟩
  have lzr : W1.heap.size ≤ zr := by rw [hzr.out]; exact hs2
  rw [← hzr.out] at kR ⊢
  clear hzr hs2
  generalize W2.alloc (.cells #[.int .i64 cR, .slice ra n rc] 26) = Wn at *
  have hzn := boxLt kR
  have hcn : c < Wn.heap.size := HC.lt
  refine wp_region_effK [some 10, some 11, some 12, some 13, some 14, some 15, some 16, some 17, some 18, none, none] (by kernel_rfl) (by kernel_rfl) (by kernel_rfl) (by kernel_rfl) (by simp [slotsOf])
    (fun j b _ => ((j = 3 ∨ j = 5 ∨ j = 7) ∧ b = c) ∨ (j = 9 ∧ b = w.heap.size) ∨ (j = 10 ∧ b = w.heap.size + 1))
    (fun _ _ _ => False)
    (fun j V W W' => Below W.heap.size W W' ∨ ((j = 3 ∨ j = 5 ∨ j = 7) ∧ OnlyW c W W' ∧ Cur W' B c a len cap) ∨ (j = 9 ∧ Wrote (fun b _ => b = w.heap.size) W W') ∨ (j = 10 ∧ Wrote (fun b _ => b = w.heap.size + 1) W W'))
    (fun i V lo hi W => match i with
      | 0 => V 0 = .agg #[.int .i64 cR, .slice ra n rc]
      | 1 => V 1 = .pointer (some ⟨c, 0, none⟩)
      | 2 => ∃ b : Nat, V 2 = .slice (some ⟨b, 0, none⟩) 6 6 ∧ lo ≤ b ∧ W.heap[b]? = some (.cells #[.int .i64 0, .int .i64 5, .int .i64 20, .int .i64 99, .int .i64 20000, .int .i64 20001] 3 (0, 0))
      | 3 => ∃ x : Int, V 3 = .int .i64 x
      | 4 => V 4 = .pointer (some ⟨c, 0, none⟩)
      | 5 => ∃ x : Int, V 5 = .int .i64 x
      | 6 => V 6 = .pointer (some ⟨c, 0, none⟩)
      | 7 => ∃ x : Int, V 7 = .int .i64 x
      | 8 => ∃ x y z : Int, V 8 = .agg #[.int .i64 x, .int .i64 y, .int .i64 z]
      | 9 => W.heap[w.heap.size]? = some (.cells #[.int .i64 cR, .slice ra n rc] 26 (0, 0))
      | _ => ∃ x y z : Int, V 8 = .agg #[.int .i64 x, .int .i64 y, .int .i64 z] ∧ W.heap[w.heap.size + 1]? = some (.cells #[.int .i64 x, .int .i64 y, .int .i64 z] 28 (0, 0))) (fun W => Cur W B c a len cap) (HC.below (Below.refl _ _).drew hcn) ?_ ?_ ?_ ?_ ?_
  · intro j V W W' hE H
    rcases hE with hB | ⟨-, -, H'⟩ | ⟨-, hT⟩ | ⟨-, hT⟩
    · exact H.below hB H.lt
    · exact H'
    · exact cur_wrote H hT (by omega) (by omega)
    · exact cur_wrote H hT (by omega) (by omega)
  · intro j V W W' h
    rcases h with h | ⟨h1, h2, -⟩ | ⟨rfl, h2⟩ | ⟨rfl, h2⟩
    · exact wrote_below h _
    · exact h2.wrote.mono (fun b o _ e => Or.inl (Or.inl ⟨h1, e⟩))
    · exact h2.mono (fun b o _ e => Or.inl (Or.inr (Or.inl ⟨rfl, e⟩)))
    · exact h2.mono (fun b o _ e => Or.inl (Or.inr (Or.inr ⟨rfl, e⟩)))
  · intro i j o oj V x' lo hi W W' hij ho hoj hnw hlo hhi hk hE h
    have nw : ∀ k, waitsB o k = true → k ≠ j := fun k hk e => by rw [e, hnw] at hk; cases hk
    have keepB : ∀ b o, W.heap[b]? = some o → b ≠ c → (j = 9 → b ≠ w.heap.size) → (j = 10 → b ≠ w.heap.size + 1) → W'.heap[b]? = some o := by
      intro b o h h1 h2 h3
      rcases hE with hB | ⟨-, hO, -⟩ | ⟨e9, hT⟩ | ⟨e9, hT⟩
      · exact box_keep h hB (boxLt h)
      · exact boxWroteR h hO.wrote (fun o e => h1 e)
      · exact boxWroteR h hT (fun o e => h2 e9 e)
      · exact boxWroteR h hT (fun o e => h3 e9 e)
    match i, ho, hij, nw, h with
    | 0, _, hij, _, h => exact (updV_ne V x' hij).trans h
    | 1, _, hij, _, h => exact (updV_ne V x' hij).trans h
    | 4, _, hij, _, h => exact (updV_ne V x' hij).trans h
    | 6, _, hij, _, h => exact (updV_ne V x' hij).trans h
    | 3, _, hij, _, ⟨x, h⟩ => exact ⟨x, (updV_ne V x' hij).trans h⟩
    | 5, _, hij, _, ⟨x, h⟩ => exact ⟨x, (updV_ne V x' hij).trans h⟩
    | 7, _, hij, _, ⟨x, h⟩ => exact ⟨x, (updV_ne V x' hij).trans h⟩
    | 2, _, hij, _, ⟨b, h1, h2, h3⟩ => exact ⟨b, (updV_ne V x' hij).trans h1, h2, keepB _ _ h3 (by omega) (fun _ => by omega) (fun _ => by omega)⟩
    | 8, _, hij, _, ⟨x, y, z, h⟩ => exact ⟨x, y, z, (updV_ne V x' hij).trans h⟩
    | 9, _, hij, _, h => exact keepB _ _ h (by omega) (fun e => absurd e.symm hij) (fun _ => by omega)
    | 10, ho, hij, nw, ⟨x, y, z, h1, h2⟩ =>
      simp only [List.getElem?_toArray, List.getElem?_cons_zero, List.getElem?_cons_succ, Option.some.injEq] at ho
      subst ho
      exact ⟨x, y, z, (updV_ne V x' (nw 8 (by kernel_rfl))).trans h1, keepB _ _ h2 (by omega) (fun _ => by omega) (fun e => absurd e.symm hij)⟩
    | n' + 11, ho, _, _, _ => simp at ho
  · intro i o a' W K H3 ho F L hw hK
    have t2 := F.get (t := 2) (v := .pointer (some ⟨w.heap.size, 0, none⟩)) (by decide) rfl
    have t3 := F.get (t := 3) (v := .pointer (some ⟨w.heap.size + 1, 0, none⟩)) (by decide) rfl
    have t4 := F.get (t := 4) (v := .pointer (some ⟨c, 0, none⟩)) (by decide) rfl
    have t5 := F.get (t := 5) (v := .pointer (some ⟨zr, 0, none⟩)) (by decide) rfl
    match i with
    | 0 =>
      simp only [List.getElem?_toArray, List.getElem?_cons_zero, List.getElem?_cons_succ, Option.some.injEq] at ho
      subst ho
      have rR := boxC (boxWroteR kR L (fun o ⟨j, oj, hj, hoj, hwj, e⟩ => by omega))
      clear hw
      go_simp
      exact hK _ _ (Or.inl (Below.refl _ _)) (updV_same _ _ _)
    | 1 =>
      simp only [List.getElem?_toArray, List.getElem?_cons_zero, List.getElem?_cons_succ, Option.some.injEq] at ho
      subst ho
      clear hw
      go_simp
      exact hK _ _ (Or.inl (Below.refl _ _)) (updV_same _ _ _)
    | 4 =>
      simp only [List.getElem?_toArray, List.getElem?_cons_zero, List.getElem?_cons_succ, Option.some.injEq] at ho
      subst ho
      clear hw
      go_simp
      exact hK _ _ (Or.inl (Below.refl _ _)) (updV_same _ _ _)
    | 6 =>
      simp only [List.getElem?_toArray, List.getElem?_cons_zero, List.getElem?_cons_succ, Option.some.injEq] at ho
      subst ho
      clear hw
      go_simp
      exact hK _ _ (Or.inl (Below.refl _ _)) (updV_same _ _ _)
    | 2 =>
      simp only [List.getElem?_toArray, List.getElem?_cons_zero, List.getElem?_cons_succ, Option.some.injEq] at ho
      subst ho
      have hbn := box_new W #[.int .i64 0, .int .i64 5, .int .i64 20, .int .i64 99, .int .i64 20000, .int .i64 20001] 3
      clear hw
      go_simp
      exact hK _ _ (Or.inl ((Below.refl _ _).alloc (Nat.le_refl _) _)) ⟨W.heap.size, updV_same _ _ _, Nat.le_refl _, hbn⟩
    | 3 =>
      simp only [List.getElem?_toArray, List.getElem?_cons_zero, List.getElem?_cons_succ, Option.some.injEq] at ho
      subst ho
      obtain ⟨_, _, _, _, v1⟩ := hw 1 (by kernel_rfl)
      obtain ⟨_, _, l2, _, b2, v2, g2, k2⟩ := hw 2 (by kernel_rfl)
      have q1 : a'.tmps[11]?.getD undef = .pointer (some ⟨c, 0, none⟩) := v1
      have q2 : a'.tmps[12]?.getD undef = .slice (some ⟨b2, 0, none⟩) 6 6 := v2
      have hb2 : b2 ≠ c := by omega
      clear hw
      go_simp
      refine (l1PickIntW _ B c a len cap H3 b2 6 (by omega) (by omega) hb2 pickT ?_).mono ?_
      · intro j hj
        rw [boxC k2]
        rcases j with _ | _ | _ | _ | _ | _ | j <;> first | rfl | omega
      rintro e W' ⟨j9, rfl, -, H4, O4⟩
      exact hK _ _ (Or.inr (Or.inl ⟨Or.inl rfl, O4, H4⟩)) ⟨_, updV_same _ _ _⟩
    | 5 =>
      simp only [List.getElem?_toArray, List.getElem?_cons_zero, List.getElem?_cons_succ, Option.some.injEq] at ho
      subst ho
      obtain ⟨_, _, _, _, v2⟩ := hw 4 (by kernel_rfl)
      have q2 : a'.tmps[14]?.getD undef = .pointer (some ⟨c, 0, none⟩) := v2
      clear hw
      go_simp
      refine (l1BelowW _ B c a len cap H3 9).mono ?_
      rintro e W' ⟨x, rfl, -, -, H4, O4⟩
      exact hK _ _ (Or.inr (Or.inl ⟨Or.inr (Or.inl rfl), O4, H4⟩)) ⟨x, updV_same _ _ _⟩
    | 7 =>
      simp only [List.getElem?_toArray, List.getElem?_cons_zero, List.getElem?_cons_succ, Option.some.injEq] at ho
      subst ho
      obtain ⟨_, _, _, _, v2⟩ := hw 6 (by kernel_rfl)
      have q2 : a'.tmps[16]?.getD undef = .pointer (some ⟨c, 0, none⟩) := v2
      clear hw
      go_simp
      refine (l1BelowW _ B c a len cap H3 257).mono ?_
      rintro e W' ⟨x, rfl, -, -, H4, O4⟩
      exact hK _ _ (Or.inr (Or.inl ⟨Or.inr (Or.inr rfl), O4, H4⟩)) ⟨x, updV_same _ _ _⟩
    | 8 =>
      simp only [List.getElem?_toArray, List.getElem?_cons_zero, List.getElem?_cons_succ, Option.some.injEq] at ho
      subst ho
      obtain ⟨_, _, _, _, x, v3⟩ := hw 3 (by kernel_rfl)
      obtain ⟨_, _, _, _, y, v5⟩ := hw 5 (by kernel_rfl)
      obtain ⟨_, _, _, _, z, v7⟩ := hw 7 (by kernel_rfl)
      have q3 : a'.tmps[13]?.getD undef = .int .i64 x := v3
      have q5 : a'.tmps[15]?.getD undef = .int .i64 y := v5
      have q7 : a'.tmps[17]?.getD undef = .int .i64 z := v7
      clear hw
      go_simp
      exact hK _ _ (Or.inl (Below.refl _ _)) ⟨x, y, z, updV_same _ _ _⟩
    | 9 =>
      simp only [List.getElem?_toArray, List.getElem?_cons_zero, List.getElem?_cons_succ, Option.some.injEq] at ho
      subst ho
      have q0 : a'.tmps[10]?.getD undef = .agg #[.int .i64 cR, .slice ra n rc] := by obtain ⟨_, _, _, _, q⟩ := hw 0 (by kernel_rfl); exact q
      have rQ := boxWroteR kQ L (fun o ⟨j, oj, hj, hoj, hwj, e⟩ => by omega)
      have c1 := boxC rQ
      have f1 := boxF rQ
      have HB := boxSetR (o := 1) (boxSetR (o := 0) rQ (.int .i64 cR)) (.slice ra n rc)
      simp only [List.setIfInBounds_toArray, List.set_cons_succ, List.set_cons_zero] at HB
      have HBB := hide HB
      clear HB rQ hw
      go_simp
      exact hK undef _ (Or.inr (Or.inr (Or.inl ⟨rfl, Wrote.setCell (Wrote.setCell (Wrote.refl (fun b _ => b = w.heap.size) W) (fun _ => rfl) _) (fun _ => rfl) _⟩))) HBB.out
    | 10 =>
      simp only [List.getElem?_toArray, List.getElem?_cons_zero, List.getElem?_cons_succ, Option.some.injEq] at ho
      subst ho
      obtain ⟨_, _, _, _, x, y, z, v8⟩ := hw 8 (by kernel_rfl)
      have q8 : a'.tmps[18]?.getD undef = .agg #[.int .i64 x, .int .i64 y, .int .i64 z] := v8
      have rE := boxWroteR kE L (fun o ⟨j, oj, hj, hoj, hwj, e⟩ => by omega)
      have c1 := boxC rE
      have f1 := boxF rE
      have HB := boxSetR (o := 2) (boxSetR (o := 1) (boxSetR (o := 0) rE (.int .i64 x)) (.int .i64 y)) (.int .i64 z)
      simp only [List.setIfInBounds_toArray, List.set_cons_succ, List.set_cons_zero] at HB
      have HBB := hide HB
      clear HB rE hw
      go_simp
      exact hK undef _ (Or.inr (Or.inr (Or.inr ⟨rfl, Wrote.setCell (Wrote.setCell (Wrote.setCell (Wrote.refl (fun b _ => b = w.heap.size + 1) W) (fun _ => rfl) _) (fun _ => rfl) _) (fun _ => rfl) _⟩))) ⟨x, y, z, (updV_ne _ _ (by decide)).trans v8, HBB.out⟩
    | n' + 11 => simp at ho
  · intro a' W H9 F L lo hi hφ hdj
    obtain ⟨-, -, -, kQ9⟩ := hφ 9 (by decide)
    obtain ⟨-, -, -, x, y, z, -, kE9⟩ := hφ 10 (by decide)
    have C5 : Below w.heap.size w W := C3.trans (L.below C3.size (fun b o hb ⟨j, e⟩ => by omega))
    have R5 := (hR.keep L (fun b o (h1 : W1.heap.size ≤ b) _ ⟨j, e⟩ => by omega)).mono (E := fun b => w.heap.size ≤ b) (fun b _ (h : W1.heap.size ≤ b) => by omega)
    rw [F.same, show slotsOf [some 10, some 11, some 12, some 13, some 14, some 15, some 16, some 17, some 18, none, none] = [10, 11, 12, 13, 14, 15, 16, 17, 18] from rfl]
    simp only [List.foldl_cons, List.foldl_nil]
    generalize a'.tmps[10]?.getD undef = g10
    generalize a'.tmps[11]?.getD undef = g11
    generalize a'.tmps[12]?.getD undef = g12
    generalize a'.tmps[13]?.getD undef = g13
    generalize a'.tmps[14]?.getD undef = g14
    generalize a'.tmps[15]?.getD undef = g15
    generalize a'.tmps[16]?.getD undef = g16
    generalize a'.tmps[17]?.getD undef = g17
    generalize a'.tmps[18]?.getD undef = g18
    clear hφ hdj L F H9 hR C3 kR kQ kE
    have cq := boxC kQ9
    have ce := boxC kE9
    have HR := hide R5
    clear R5
    go_simp
    go_wp2
    refine bodyPost_ret (v := .tuple #[.agg #[.int .i64 cR, .slice ra n rc], .agg #[.int .i64 x, .int .i64 y, .int .i64 z]]) (by simp [results, Try.results6, go_sem, cq, ce]) rfl ?_
    first | exact ⟨cR, n, f, _, ⟨x, y, z, rfl⟩, HR.out, C5⟩ | exact ⟨cR, n, f, _, x, y, z, rfl, HR.out, C5⟩
theorem drawRingNew (w : World) (B : Nat) (a : Option Addr) (len cap : Nat) (hB : B ≤ w.heap.size) (H : Code w B a len) :
    Calls Try.prog 11 #[.slice a len cap] w fun e w' => ∃ x : Int, e = .returned (.int .i64 x) ∧ Below w.heap.size w w' := by
  go_enter Try.func11, Try.ntmps11
  go_wp2_with fail
  refine (l1New _ B a len cap hB H).mono ?_
  rintro e w1 ⟨rfl, H1, L1, s1⟩
  clear s1
  go_wp2_with fail
  refine (l1Below _ B _ a len cap H1 19).mono ?_
  rintro e w2 ⟨x, rfl, x0, x1, H2, O2⟩
  have C2 := L1.trans (O2.below (Nat.le_refl _))
  go_wp2
  go_ret
  exact ⟨_, rfl, C2⟩
end Go.Proofs.Ytpaedkefmebjjac
