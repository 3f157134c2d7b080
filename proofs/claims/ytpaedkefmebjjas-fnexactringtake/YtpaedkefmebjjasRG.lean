/-
  Chapter 13 of the specification by its contracts: RingTake.
-/
import Derived.Test.YtpaedkefmebjjasRF
import Derived.Test.YtpaedkefmebjjasG1
import Derived.Deep.RegionHeld3
import Derived.Deep.DeepCutAuto
namespace Go.Proofs.Ytpaedkefmebjjas
set_option linter.unusedVariables false
set_option linter.unusedSimpArgs false
open Go.ChangeShapes Go.WideShapes Go.ChangeAt Go.RowKit Go.Sort
theorem RowOf.tail3 {W : World} {b off n : Nat} {f : Nat → Int} (h : RowOf .i64 W (some ⟨b, off, none⟩) (n * 3) f) (hn : 0 < n) : RowOf .i64 W (some ⟨b, off + 3, none⟩) ((n - 1) * 3) (fun i => f (i + 3)) := fun i hi => by
  obtain ⟨b', off', e, hc⟩ := h (i + 3) (by omega)
  simp only [Option.some.injEq, Addr.mk.injEq, and_true] at e
  obtain ⟨rfl, rfl⟩ := e
  exact ⟨b, off + 3, rfl, by rw [show off + 3 + i = off + (i + 3) by omega]; exact hc⟩
def takeN (ok : Bool) (n : Nat) : Nat := if ok then n - 1 else 0
def takeF (ok : Bool) (f : Nat → Int) : Nat → Int := if ok then (fun i => f (i + 3)) else fun _ => 0
set_option maxHeartbeats 4000000 in
theorem specRingTake (w : World) (D : Nat → Prop) (v : Value) (cap : Int) (n : Nat) (f : Nat → Int) (H : RgOn w D v cap n f) : Calls Try.prog 24 #[v] w fun e w' => ∃ v', e = .returned (.tuple #[v', .agg #[.int .i64 (headV (okRing cap n f) n f 0), .int .i64 (headV (okRing cap n f) n f 1), .int .i64 (headV (okRing cap n f) n f 2)], .bool (okRing cap n f && decide (0 < n))]) ∧ RgNw w w' v' (putC (okRing cap n f) cap) (takeN (okRing cap n f) n) (takeF (okRing cap n f) f) ∧ Below w.heap.size w w' := by
  have HO := hide (fun W (L : Below w.heap.size w W) => specRingOk W D v cap n f (H.keep (wrote_below L Nowhere) (fun _ _ _ _ x => x)))
  have HC := hide (fun W (L : Below w.heap.size w W) => l13Copy W D v cap n f (H.keep (wrote_below L Nowhere) (fun _ _ _ _ x => x)))
  have HS := hide (@okRing_small cap n f)
  obtain ⟨ok, hok⟩ : ∃ b, Hid (b = okRing cap n f) := ⟨_, rfl⟩
  rw [← hok.out] at HO HS ⊢
  clear hok
  obtain ⟨x0, hx0⟩ : ∃ x, Hid (x = headV ok n f 0) := ⟨_, rfl⟩
  obtain ⟨x1, hx1⟩ : ∃ x, Hid (x = headV ok n f 1) := ⟨_, rfl⟩
  obtain ⟨x2, hx2⟩ : ∃ x, Hid (x = headV ok n f 2) := ⟨_, rfl⟩
  obtain ⟨bb, hbb⟩ : ∃ x, Hid (x = (ok && decide (0 < n))) := ⟨_, rfl⟩
  obtain ⟨cP, hcP⟩ : ∃ z, Hid (z = putC ok cap) := ⟨_, rfl⟩
  obtain ⟨nP, hnP⟩ : ∃ z, Hid (z = takeN ok n) := ⟨_, rfl⟩
  obtain ⟨fP, hfP⟩ : ∃ z, Hid (z = takeF ok f) := ⟨_, rfl⟩
  rw [← hx0.out, ← hx1.out, ← hx2.out, ← hbb.out, ← hcP.out, ← hnP.out, ← hfP.out]
  obtain ⟨u, rfl, a, c, rfl, hn, hr, -, -⟩ := H
  have C0 : Below w.heap.size w (((w.alloc (.cells #[.int .i64 cap, .slice a n c] 29)).alloc (.cells #[.int .i64 0, .slice none 0 0] 29)).alloc (.cells #[.int .i64 0, .int .i64 0, .int .i64 0] 40)) := (((Below.refl _ _).alloc (Nat.le_refl _) _).alloc (by simp) _).alloc (by simp; omega) _
  have k0 : (((w.alloc (.cells #[.int .i64 cap, .slice a n c] 29)).alloc (.cells #[.int .i64 0, .slice none 0 0] 29)).alloc (.cells #[.int .i64 0, .int .i64 0, .int .i64 0] 40)).heap[w.heap.size]? = some (.cells #[.int .i64 cap, .slice a n c] 29 (0, 0)) := boxA (boxA (box_new w _ _) _) _
  have k1 : (((w.alloc (.cells #[.int .i64 cap, .slice a n c] 29)).alloc (.cells #[.int .i64 0, .slice none 0 0] 29)).alloc (.cells #[.int .i64 0, .int .i64 0, .int .i64 0] 40)).heap[w.heap.size + 1]? = some (.cells #[.int .i64 0, .slice none 0 0] 29 (0, 0)) := boxA (by simpa using box_new (w.alloc (.cells #[.int .i64 cap, .slice a n c] 29)) #[.int .i64 0, .slice none 0 0] 29) _
  have k2 : (((w.alloc (.cells #[.int .i64 cap, .slice a n c] 29)).alloc (.cells #[.int .i64 0, .slice none 0 0] 29)).alloc (.cells #[.int .i64 0, .int .i64 0, .int .i64 0] 40)).heap[w.heap.size + 1 + 1]? = some (.cells #[.int .i64 0, .int .i64 0, .int .i64 0] 40 (0, 0)) := by simpa using box_new ((w.alloc (.cells #[.int .i64 cap, .slice a n c] 29)).alloc (.cells #[.int .i64 0, .slice none 0 0] 29)) #[.int .i64 0, .int .i64 0, .int .i64 0] 40
  go_enter Try.func24, Try.ntmps24
  go_wp2_with fail
  generalize ((w.alloc (.cells #[.int .i64 cap, .slice a n c] 29)).alloc (.cells #[.int .i64 0, .slice none 0 0] 29)).alloc (.cells #[.int .i64 0, .int .i64 0, .int .i64 0] 40) = W0 at *
  refine (HO.out _ C0).mono ?_
  rintro e W1 ⟨rfl, L⟩
  have C1 := below_snoc C0 L
  replace k0 := box_keep k0 L (boxLt k0)
  replace k1 := box_keep k1 L (boxLt k1)
  replace k2 := box_keep k2 L (boxLt k2)
  have hb2 := boxLt k2
  clear L C0 HO
  cases ok
  · have hv : ∀ j, headV false n f j = 0 := fun j => if_neg (fun h => by cases h.1)
    have HF : Hid ((x0 = 0 ∧ x1 = 0 ∧ x2 = 0 ∧ bb = false) ∧ cP = 0 ∧ nP = 0) := ⟨⟨by rw [hx0.out, hv], by rw [hx1.out, hv], by rw [hx2.out, hv], by rw [hbb.out]; rfl⟩, hcP.out, hnP.out⟩
    have c1 := boxC k1
    have f1 := boxF k1
    have c2 := boxC k2
    have f2 := boxF k2
    have fin : ∀ W5, Wrote (fun b _ => b = w.heap.size + 1 ∨ b = w.heap.size + 1 + 1) W1 W5 → ∃ v', Ending.returned (.tuple #[.agg #[.int .i64 0, .slice none 0 0], .agg #[.int .i64 0, .int .i64 0, .int .i64 0], .bool false]) = .returned (.tuple #[v', .agg #[.int .i64 x0, .int .i64 x1, .int .i64 x2], .bool bb]) ∧ RgNw w W5 v' cP nP fP ∧ Below w.heap.size w W5 := fun W5 h => ⟨_, by rw [HF.out.1.1, HF.out.1.2.1, HF.out.1.2.2.1, HF.out.1.2.2.2], ⟨by rw [HF.out.2.1, HF.out.2.2]; exact RgOn.none0 0 _⟩, C1.trans (h.below C1.size (fun b o hb e => by omega))⟩
    have HN := hide fin
    clear fin
    go_wp2
    refine bodyPost_ret (v := .tuple #[.agg #[.int .i64 0, .slice none 0 0], .agg #[.int .i64 0, .int .i64 0, .int .i64 0], .bool false]) (by simp [results, Try.results24, go_sem, c1, c2]) rfl ?_
    refine HN.out _ ?_
    repeat (first | with_reducible exact Wrote.refl _ _ | with_reducible refine Wrote.drew ?_ | with_reducible refine Wrote.setCell ?_ (fun _ => by omega) _)
  · have hn16 := HS.out rfl
    have c0 := boxC k0
    go_wp2_with fail
    clear c0
    refine (HC.out _ C1).mono ?_
    rintro e W2 ⟨g, c', rfl, R2, L⟩
    have C2 := below_snoc C1 L
    replace k0 := box_keep k0 L (boxLt k0)
    replace k1 := box_keep k1 L (boxLt k1)
    replace k2 := box_keep k2 L (boxLt k2)
    have l12 := L.size
    clear L
    have LA : Below W2.heap.size W2 (W2.alloc (.cells #[.int .i64 cap, .slice (some ⟨g, 0, none⟩) n c'] 29)) := (Below.refl _ _).alloc (Nat.le_refl _) _
    have x3 := box_new W2 #[.int .i64 cap, .slice (some ⟨g, 0, none⟩) n c'] 29
    have C3 := below_snoc C2 LA
    replace k0 := box_keep k0 LA (boxLt k0)
    replace k1 := box_keep k1 LA (boxLt k1)
    replace k2 := box_keep k2 LA (boxLt k2)
    have hg2 := R2.parts.2.1
    have hg1 := R2.parts.1
    have R3 := R2.below LA
    clear LA C2 R2 HC
    go_upto_region 4 with (fail)
    obtain ⟨z, hz⟩ : ∃ z, Hid (z = W2.heap.size) := ⟨_, rfl⟩
    rw [← hz.out] at x3 hg2 ⊢
    have lz : W1.heap.size ≤ z := by rw [hz.out]; exact l12
    clear hz
    generalize W2.alloc (.cells #[.int .i64 cap, .slice (some ⟨g, 0, none⟩) n c'] 29) = W3 at *
    have hx3 := boxLt x3
    have hw1 := C1.size
    have cc0 := boxC k0
    by_cases h0 : n = 0
    · subst h0
      have hv : ∀ j, headV true 0 f j = 0 := fun j => if_neg (fun h => by omega)
      have HF : Hid ((x0 = 0 ∧ x1 = 0 ∧ x2 = 0 ∧ bb = false) ∧ cP = cap ∧ nP = 0) := ⟨⟨by rw [hx0.out, hv], by rw [hx1.out, hv], by rw [hx2.out, hv], by rw [hbb.out]; rfl⟩, hcP.out, by rw [hnP.out]; rfl⟩
      have c1 := boxC k1
      have f1 := boxF k1
      have c2 := boxC k2
      have f2 := boxF k2
      have c3 := boxC x3
      have fin : ∀ W5, Wrote (fun b _ => b = w.heap.size + 1 ∨ b = w.heap.size + 1 + 1) W3 W5 → ∃ v', Ending.returned (.tuple #[.agg #[.int .i64 cap, .slice (some ⟨g, 0, none⟩) 0 c'], .agg #[.int .i64 0, .int .i64 0, .int .i64 0], .bool false]) = .returned (.tuple #[v', .agg #[.int .i64 x0, .int .i64 x1, .int .i64 x2], .bool bb]) ∧ RgNw w W5 v' cP nP fP ∧ Below w.heap.size w W5 := fun W5 h => ⟨_, by rw [HF.out.1.1, HF.out.1.2.1, HF.out.1.2.2.1, HF.out.1.2.2.2], ⟨by
        have R5 := (R3.keep h (fun o e => by omega)).on (D := fun b => w.heap.size ≤ b ∧ b < W5.heap.size) ⟨by omega, by have := h.size; omega⟩
        rw [HF.out.2.1, HF.out.2.2]
        obtain ⟨a5, c5, e5, n5, r5, q5, d5⟩ := R5
        exact ⟨_, rfl, a5, c5, e5, n5, fun i hi => absurd hi (Nat.not_lt_zero _), q5, d5⟩⟩, C3.trans (h.below C3.size (fun b o hb e => by omega))⟩
      have HN := hide fin
      clear fin R3
      go_wp2
      refine bodyPost_ret (v := .tuple #[.agg #[.int .i64 cap, .slice (some ⟨g, 0, none⟩) 0 c'], .agg #[.int .i64 0, .int .i64 0, .int .i64 0], .bool false]) (by simp [results, Try.results24, go_sem, c1, c2]) rfl ?_
      refine HN.out _ ?_
      repeat (first | with_reducible exact Wrote.refl _ _ | with_reducible refine Wrote.drew ?_ | with_reducible refine Wrote.setCell ?_ (fun _ => by omega) _)
    · have hv : ∀ j, headV true n f j = f j := fun j => if_pos ⟨rfl, by omega⟩
      have HF : Hid ((x0 = f 0 ∧ x1 = f 1 ∧ x2 = f 2 ∧ bb = true) ∧ cP = cap ∧ nP = n - 1 ∧ fP = fun i => f (i + 3)) := ⟨⟨by rw [hx0.out, hv], by rw [hx1.out, hv], by rw [hx2.out, hv], by rw [hbb.out]; simp; omega⟩, hcP.out, hnP.out, hfP.out⟩
      have hne : ((n : Int) == 0) = false := by simp; omega
      have hpos : (1 : Int) ≤ (n : Int) := by omega
      obtain ⟨b, off, rfl, q0, q1, q2⟩ := hr.rec3 (show 0 < n by omega)
      have hb : b < w.heap.size := block_lt_of_cell q0
      by_cases hc1 : c = 1
      · subst hc1
        obtain rfl : n = 1 := by omega
        have LE : Below W3.heap.size W3 (W3.alloc (.cells #[] 40)) := (Below.refl _ _).alloc (Nat.le_refl _) _
        have x4 := box_new W3 #[] 40
        have cc0' := boxC (box_keep k0 LE (boxLt k0))
        have C4 := below_snoc C3 LE
        have r4 := hide ((hr.keep (wrote_below C4 Nowhere) (fun _ _ _ x => x)).tail3 (by omega))
        have X4 := hide x4
        clear x4 hr R3
        have b3q := boxC (box_keep x3 LE (boxLt x3))
        have f3q := boxF (box_keep x3 LE (boxLt x3))
        have b3r := boxC x3
        have f3r := boxF x3
        go_upto_region 7 with (fail)
        clear b3q f3q b3r f3r
        have TT := Wrote.setCell (b := z) (o := 1) (R := fun b _ => b = z) (Wrote.refl _ W3) (fun _ => rfl) (.slice (some ⟨W3.heap.size, 0, none⟩) 0 0)
        have X5 := boxSetR (o := 1) x3 (.slice (some ⟨W3.heap.size, 0, none⟩) 0 0)
        simp only [List.setIfInBounds_toArray, List.set_cons_succ, List.set_cons_zero] at X5
        have hs5 : (W3.setCell ⟨z, 1, none⟩ (.slice (some ⟨W3.heap.size, 0, none⟩) 0 0)).heap.size = W3.heap.size := by simp
        have K05 := box_keepW k0 TT (by omega)
        have K15 := box_keepW k1 TT (by omega)
        have K25 := box_keepW k2 TT (by omega)
        have C5 := C3.trans (TT.below C3.size (fun b o hb (e : b = _) => by omega))
        obtain ⟨g5, hG⟩ : ∃ g, Hid (g = W3.heap.size) := ⟨_, rfl⟩
        rw [← hG.out] at X5 hs5 K05 K15 K25 C5 ⊢
        have hg5 : W3.heap.size ≤ g5 := by rw [hG.out]; exact Nat.le_refl _
        clear TT hG LE C4 r4 X4 cc0 cc0' x3 k0 k1 k2 C3
        generalize W3.setCell ⟨z, 1, none⟩ (.slice (some ⟨g5, 0, none⟩) 0 0) = W5 at *
        have L6 : Below W5.heap.size W5 (W5.alloc (.cells #[] 40)) := (Below.refl _ _).alloc (Nat.le_refl _) _
        have R6 : RcRow (W5.alloc (.cells #[] 40)) g5 g5 0 0 (fun i => f (i + 3)) := ⟨⟨rfl, Or.inr ⟨g5, 0, #[], rfl, Nat.le_refl _, by rw [← hs5]; exact box_new W5 #[] 40, Nat.le_refl _, by unfold maxLen; omega, rfl, rfl⟩⟩, by omega⟩
        have X6 := box_keep X5 L6 (boxLt X5)
        have K06 := box_keep K05 L6 (boxLt K05)
        have K16 := box_keep K15 L6 (boxLt K15)
        have K26 := box_keep K25 L6 (boxLt K25)
        have C6 := below_snoc C5 L6
        have s6 := L6.size
        clear L6 X5 K05 K15 K25 C5
        generalize W5.alloc (.cells #[] 40) = W6 at *
        have p6 := R6.parts.2.1
        have d0 : W6.cell? ⟨b, off, none⟩ = some (.int .i64 (f 0)) := (C6.cell (p := ⟨b, off + 0 * 3, none⟩) hb).trans q0
        have d1 : W6.cell? ⟨b, off + 1, none⟩ = some (.int .i64 (f 1)) := (C6.cell (p := ⟨b, off + 0 * 3 + 1, none⟩) hb).trans q1
        have d2 : W6.cell? ⟨b, off + 2, none⟩ = some (.int .i64 (f 2)) := (C6.cell (p := ⟨b, off + 0 * 3 + 2, none⟩) hb).trans q2
        have hl1 := boxLt K16
        have hpos' : (0 : Int) < ((1 : Nat) : Int) := by omega
        clear q0 q1 q2
        rename_i KK hKK
        refine wp_region_effI [some 25, some 26, some 27, some 28, some 29, none, none, some 4] (by kernel_rfl) (by kernel_rfl) (by kernel_rfl) (by kernel_rfl) (by first | (simp [slotsOf]; done) | (simp [slotsOf, Act.put]; done))
          (fun j b _ => (j = 5 ∧ b = w.heap.size + 1) ∨ (j = 6 ∧ b = w.heap.size + 1 + 1))
          (fun i V lo hi W => match i with
            | 0 => V 0 = .agg #[.int .i64 cap, .slice (some ⟨g5, 0, none⟩) 0 0]
            | 1 => V 1 = .pointer (some ⟨w.heap.size, 1, none⟩)
            | 2 => V 2 = .slice (some ⟨b, off, none⟩) 1 1
            | 3 => V 3 = .pointer (some ⟨b, off, none⟩)
            | 4 => V 4 = .agg #[.int .i64 (f 0), .int .i64 (f 1), .int .i64 (f 2)]
            | 5 => W.heap[w.heap.size + 1]? = some (.cells #[.int .i64 cap, .slice (some ⟨g5, 0, none⟩) 0 0] 29 (0, 0))
            | 6 => W.heap[w.heap.size + 1 + 1]? = some (.cells #[.int .i64 (f 0), .int .i64 (f 1), .int .i64 (f 2)] 40 (0, 0))
            | _ => V 7 = .bool true) ?_ ?_ ?_
        · intro i j o V x lo hi W W' hij ho hnw hlo hhi hW h
          match i, ho, hij, h with
          | 0, _, hij, h => exact (updV_ne V x hij).trans h
          | 1, _, hij, h => exact (updV_ne V x hij).trans h
          | 2, _, hij, h => exact (updV_ne V x hij).trans h
          | 3, _, hij, h => exact (updV_ne V x hij).trans h
          | 4, _, hij, h => exact (updV_ne V x hij).trans h
          | 5, _, hij, h => exact boxWroteR h hW (fun o e => by omega)
          | 6, _, hij, h => exact boxWroteR h hW (fun o e => by omega)
          | 7, _, hij, h => exact (updV_ne V x hij).trans h
          | n + 8, ho, _, _ => simp at ho
        · intro i o a' W K ho F L hw hK
          have t1 := F.get (t := 1) (v := .pointer (some ⟨w.heap.size, 0, none⟩)) (by decide) rfl
          have t2 := F.get (t := 2) (v := .pointer (some ⟨w.heap.size + 1, 0, none⟩)) (by decide) rfl
          have t3 := F.get (t := 3) (v := .pointer (some ⟨w.heap.size + 1 + 1, 0, none⟩)) (by decide) rfl
          have t5 := F.get (t := 5) (v := .pointer (some ⟨z, 0, none⟩)) (by decide) rfl
          have LC : Below (w.heap.size + 1) W6 W := L.below (by omega) (fun b o hb ⟨j, _, _, _, _, e⟩ => by omega)
          have rz := boxC (boxWroteR X6 L (fun o ⟨j, _, _, _, _, e⟩ => by omega))
          have r0 := boxC (boxWroteR K06 L (fun o ⟨j, _, _, _, _, e⟩ => by omega))
          have e0 := (LC.cell (p := ⟨b, off, none⟩) (by show b < _; omega)).trans d0
          have e1 := (LC.cell (p := ⟨b, off + 1, none⟩) (by show b < _; omega)).trans d1
          have e2 := (LC.cell (p := ⟨b, off + 2, none⟩) (by show b < _; omega)).trans d2
          clear d0 d1 d2
          match i with
          | 0 =>
            simp only [List.getElem?_toArray, List.getElem?_cons_zero, List.getElem?_cons_succ, Option.some.injEq] at ho
            subst ho
            go_simp
            exact hK _ _ (Wrote.refl _ _) (updV_same _ _ _)
          | 1 =>
            simp only [List.getElem?_toArray, List.getElem?_cons_zero, List.getElem?_cons_succ, Option.some.injEq] at ho
            subst ho
            go_simp
            exact hK _ _ (Wrote.refl _ _) (updV_same _ _ _)
          | 2 =>
            simp only [List.getElem?_toArray, List.getElem?_cons_zero, List.getElem?_cons_succ, Option.some.injEq] at ho
            subst ho
            have q1 : a'.tmps[26]?.getD undef = .pointer (some ⟨w.heap.size, 1, none⟩) := by obtain ⟨_, _, _, _, q⟩ := hw 1 (by kernel_rfl); exact q
            go_simp
            exact hK _ _ (Wrote.refl _ _) (updV_same _ _ _)
          | 3 =>
            simp only [List.getElem?_toArray, List.getElem?_cons_zero, List.getElem?_cons_succ, Option.some.injEq] at ho
            subst ho
            have hpn : 0 < 1 := by omega
            have q2 : a'.tmps[27]?.getD undef = .slice (some ⟨b, off, none⟩) 1 1 := by obtain ⟨_, _, _, _, q⟩ := hw 2 (by kernel_rfl); exact q
            go_simp
            exact hK _ _ (Wrote.refl _ _) (updV_same _ _ _)
          | 4 =>
            simp only [List.getElem?_toArray, List.getElem?_cons_zero, List.getElem?_cons_succ, Option.some.injEq] at ho
            subst ho
            have q3 : a'.tmps[28]?.getD undef = .pointer (some ⟨b, off, none⟩) := by obtain ⟨_, _, _, _, q⟩ := hw 3 (by kernel_rfl); exact q
            go_simp
            exact hK _ _ (Wrote.refl _ _) (updV_same _ _ _)
          | 5 =>
            simp only [List.getElem?_toArray, List.getElem?_cons_zero, List.getElem?_cons_succ, Option.some.injEq] at ho
            subst ho
            have q0 : a'.tmps[25]?.getD undef = .agg #[.int .i64 cap, .slice (some ⟨g5, 0, none⟩) 0 0] := by obtain ⟨_, _, _, _, q⟩ := hw 0 (by kernel_rfl); exact q
            have rB := boxWroteR K16 L (fun o ⟨j, _, hj, _, _, e⟩ => by omega)
            have c1 := boxC rB
            have f1 := boxF rB
            have HB := boxSetR (o := 1) (boxSetR (o := 0) rB (.int .i64 cap)) (.slice (some ⟨g5, 0, none⟩) 0 0)
            simp only [List.setIfInBounds_toArray, List.set_cons_succ, List.set_cons_zero] at HB
            have HBB := hide HB
            clear HB rB
            go_simp
            exact hK undef _ (Wrote.setCell (Wrote.setCell (Wrote.refl _ W) (fun _ => Or.inl ⟨rfl, rfl⟩) _) (fun _ => Or.inl ⟨rfl, rfl⟩) _) HBB.out
          | 6 =>
            simp only [List.getElem?_toArray, List.getElem?_cons_zero, List.getElem?_cons_succ, Option.some.injEq] at ho
            subst ho
            have q4 : a'.tmps[29]?.getD undef = .agg #[.int .i64 (f 0), .int .i64 (f 1), .int .i64 (f 2)] := by obtain ⟨_, _, _, _, q⟩ := hw 4 (by kernel_rfl); exact q
            have rB := boxWroteR K26 L (fun o ⟨j, _, hj, _, _, e⟩ => by omega)
            have c1 := boxC rB
            have f1 := boxF rB
            have HB := boxSetR (o := 2) (boxSetR (o := 1) (boxSetR (o := 0) rB (.int .i64 (f 0))) (.int .i64 (f 1))) (.int .i64 (f 2))
            simp only [List.setIfInBounds_toArray, List.set_cons_succ, List.set_cons_zero] at HB
            have HBB := hide HB
            clear HB rB
            go_simp
            exact hK undef _ (Wrote.setCell (Wrote.setCell (Wrote.setCell (Wrote.refl _ W) (fun _ => Or.inr ⟨rfl, rfl⟩) _) (fun _ => Or.inr ⟨rfl, rfl⟩) _) (fun _ => Or.inr ⟨rfl, rfl⟩) _) HBB.out
          | 7 =>
            simp only [List.getElem?_toArray, List.getElem?_cons_zero, List.getElem?_cons_succ, Option.some.injEq] at ho
            subst ho
            go_simp
            exact hK _ _ (Wrote.refl _ _) (updV_same _ _ _)
          | n + 8 => simp at ho
        · intro a' W F L lo hi hφ hdj
          obtain ⟨-, -, -, B1⟩ := hφ 5 (by decide)
          obtain ⟨-, -, -, B2⟩ := hφ 6 (by decide)
          obtain ⟨-, -, -, v7⟩ := hφ 7 (by decide)
          have p4 : a'.tmps[4]?.getD undef = .bool true := v7
          have R7 := R6.keep L (fun o ⟨j, e⟩ => by omega)
          have C7 := C6.trans (L.below C6.size (fun b o hb ⟨j, e⟩ => by omega))
          have s7 := L.size
          have HN : Hid (RgNw w W (.agg #[.int .i64 cap, .slice (some ⟨g5, 0, none⟩) 0 0]) cap 0 (fun i => f (i + 3))) := ⟨⟨_, rfl, R7.on ⟨by omega, by omega⟩⟩⟩
          rw [F.same, show slotsOf [some 25, some 26, some 27, some 28, some 29, none, none, some 4] = [25, 26, 27, 28, 29, 4] from rfl]
          simp only [List.foldl_cons, List.foldl_nil]
          rw [p4]
          clear hφ hdj F L p4 v7 R7 R6 C6 K06 K16 K26 X6 d0 d1 d2
          generalize a'.tmps[25]?.getD undef = s25
          generalize a'.tmps[26]?.getD undef = s26
          generalize a'.tmps[27]?.getD undef = s27
          generalize a'.tmps[28]?.getD undef = s28
          generalize a'.tmps[29]?.getD undef = s29
          refine hKK _ _ ?_
          clear hKK
          go_simp
          have c1 := boxC B1
          have c2 := boxC B2
          go_wp2
          refine bodyPost_ret (v := .tuple #[.agg #[.int .i64 cap, .slice (some ⟨g5, 0, none⟩) 0 0], .agg #[.int .i64 (f 0), .int .i64 (f 1), .int .i64 (f 2)], .bool true]) (by simp [results, Try.results24, go_sem, c1, c2]) rfl ?_
          exact ⟨_, by rw [HF.out.1.1, HF.out.1.2.1, HF.out.1.2.2.1, HF.out.1.2.2.2], by rw [HF.out.2.1, HF.out.2.2.1, HF.out.2.2.2]; exact HN.out, C7⟩
      · skip
        have LE : Below W3.heap.size W3 (W3.alloc (.cells #[] 40)) := (Below.refl _ _).alloc (Nat.le_refl _) _
        have x4 := box_new W3 #[] 40
        have cc0' := boxC (box_keep k0 LE (boxLt k0))
        have C4 := below_snoc C3 LE
        have r4 := hide ((hr.keep (wrote_below C4 Nowhere) (fun _ _ _ x => x)).tail3 (by omega))
        have X4 := hide x4
        clear x4 hr R3
        have r5 : Hid (RowOf .i64 (W3.alloc (.cells #[] 40)) (some ⟨b, off + 3, none⟩) ((n - 1) * 3) (fun i => f (i + 3))) := r4.out
        go_wp2_with (at_builtin; refine wpList_copyR _ rfl _ _ rfl W3.heap.size rfl X4.out W3.heap.size (Nat.le_refl _) _ (n - 1) _ (fun i => f (i + 3)) (by omega) rfl r5.out ?_)
        intro g5 c5 W5 R5 L5 hat
        replace L5 : Below W3.heap.size W3 W5 := by
          have h1 := LE
          exact h1.trans (L5.mono (by simp))
        have hg5 : W3.heap.size ≤ g5 := R5.parts.1
        have C5 := below_snoc C3 L5
        replace k0 := box_keep k0 L5 (boxLt k0)
        replace k1 := box_keep k1 L5 (boxLt k1)
        replace k2 := box_keep k2 L5 (boxLt k2)
        replace x3 := box_keep x3 L5 (boxLt x3)
        clear LE C4 r4 r5 X4 cc0 cc0' L5 C3
        have b3 := boxC x3
        have f3 := boxF x3
        have b0 := boxC k0
        go_upto_region 7 with (fail)
        have TT := Wrote.setCell (b := z) (o := 1) (R := fun b _ => b = z) (Wrote.refl _ W5) (fun _ => rfl) (.slice (some ⟨g5, 0, none⟩) (n - 1) c5)
        have R6 := R5.keep TT (fun o (e : g5 = _) => by omega)
        have X6 := boxSetR (o := 1) x3 (.slice (some ⟨g5, 0, none⟩) (n - 1) c5)
        simp only [List.setIfInBounds_toArray, List.set_cons_succ, List.set_cons_zero] at X6
        have K06 := box_keepW k0 TT (by omega)
        have K16 := box_keepW k1 TT (by omega)
        have K26 := box_keepW k2 TT (by omega)
        have C6 := C5.trans (TT.below C5.size (fun b o hb (e : b = _) => by omega))
        have s6 := TT.size
        clear TT R5 x3 k0 k1 k2 C5 b3 f3 b0
        generalize W5.setCell ⟨z, 1, none⟩ (.slice (some ⟨g5, 0, none⟩) (n - 1) c5) = W6 at *
        have p6 := R6.parts.2.1
        have d0 : W6.cell? ⟨b, off, none⟩ = some (.int .i64 (f 0)) := (C6.cell (p := ⟨b, off + 0 * 3, none⟩) hb).trans q0
        have d1 : W6.cell? ⟨b, off + 1, none⟩ = some (.int .i64 (f 1)) := (C6.cell (p := ⟨b, off + 0 * 3 + 1, none⟩) hb).trans q1
        have d2 : W6.cell? ⟨b, off + 2, none⟩ = some (.int .i64 (f 2)) := (C6.cell (p := ⟨b, off + 0 * 3 + 2, none⟩) hb).trans q2
        have hl1 := boxLt K16
        have hpos' : (0 : Int) < (n : Int) := by omega
        clear q0 q1 q2
        rename_i KK hKK
        refine wp_region_effI [some 25, some 26, some 27, some 28, some 29, none, none, some 4] (by kernel_rfl) (by kernel_rfl) (by kernel_rfl) (by kernel_rfl) (by first | (simp [slotsOf]; done) | (simp [slotsOf, Act.put]; done))
          (fun j b _ => (j = 5 ∧ b = w.heap.size + 1) ∨ (j = 6 ∧ b = w.heap.size + 1 + 1))
          (fun i V lo hi W => match i with
            | 0 => V 0 = .agg #[.int .i64 cap, .slice (some ⟨g5, 0, none⟩) (n - 1) c5]
            | 1 => V 1 = .pointer (some ⟨w.heap.size, 1, none⟩)
            | 2 => V 2 = .slice (some ⟨b, off, none⟩) n c
            | 3 => V 3 = .pointer (some ⟨b, off, none⟩)
            | 4 => V 4 = .agg #[.int .i64 (f 0), .int .i64 (f 1), .int .i64 (f 2)]
            | 5 => W.heap[w.heap.size + 1]? = some (.cells #[.int .i64 cap, .slice (some ⟨g5, 0, none⟩) (n - 1) c5] 29 (0, 0))
            | 6 => W.heap[w.heap.size + 1 + 1]? = some (.cells #[.int .i64 (f 0), .int .i64 (f 1), .int .i64 (f 2)] 40 (0, 0))
            | _ => V 7 = .bool true) ?_ ?_ ?_
        · intro i j o V x lo hi W W' hij ho hnw hlo hhi hW h
          match i, ho, hij, h with
          | 0, _, hij, h => exact (updV_ne V x hij).trans h
          | 1, _, hij, h => exact (updV_ne V x hij).trans h
          | 2, _, hij, h => exact (updV_ne V x hij).trans h
          | 3, _, hij, h => exact (updV_ne V x hij).trans h
          | 4, _, hij, h => exact (updV_ne V x hij).trans h
          | 5, _, hij, h => exact boxWroteR h hW (fun o e => by omega)
          | 6, _, hij, h => exact boxWroteR h hW (fun o e => by omega)
          | 7, _, hij, h => exact (updV_ne V x hij).trans h
          | n + 8, ho, _, _ => simp at ho
        · intro i o a' W K ho F L hw hK
          have t1 := F.get (t := 1) (v := .pointer (some ⟨w.heap.size, 0, none⟩)) (by decide) rfl
          have t2 := F.get (t := 2) (v := .pointer (some ⟨w.heap.size + 1, 0, none⟩)) (by decide) rfl
          have t3 := F.get (t := 3) (v := .pointer (some ⟨w.heap.size + 1 + 1, 0, none⟩)) (by decide) rfl
          have t5 := F.get (t := 5) (v := .pointer (some ⟨z, 0, none⟩)) (by decide) rfl
          have LC : Below (w.heap.size + 1) W6 W := L.below (by omega) (fun b o hb ⟨j, _, _, _, _, e⟩ => by omega)
          have rz := boxC (boxWroteR X6 L (fun o ⟨j, _, _, _, _, e⟩ => by omega))
          have r0 := boxC (boxWroteR K06 L (fun o ⟨j, _, _, _, _, e⟩ => by omega))
          have e0 := (LC.cell (p := ⟨b, off, none⟩) (by show b < _; omega)).trans d0
          have e1 := (LC.cell (p := ⟨b, off + 1, none⟩) (by show b < _; omega)).trans d1
          have e2 := (LC.cell (p := ⟨b, off + 2, none⟩) (by show b < _; omega)).trans d2
          clear d0 d1 d2
          match i with
          | 0 =>
            simp only [List.getElem?_toArray, List.getElem?_cons_zero, List.getElem?_cons_succ, Option.some.injEq] at ho
            subst ho
            go_simp
            exact hK _ _ (Wrote.refl _ _) (updV_same _ _ _)
          | 1 =>
            simp only [List.getElem?_toArray, List.getElem?_cons_zero, List.getElem?_cons_succ, Option.some.injEq] at ho
            subst ho
            go_simp
            exact hK _ _ (Wrote.refl _ _) (updV_same _ _ _)
          | 2 =>
            simp only [List.getElem?_toArray, List.getElem?_cons_zero, List.getElem?_cons_succ, Option.some.injEq] at ho
            subst ho
            have q1 : a'.tmps[26]?.getD undef = .pointer (some ⟨w.heap.size, 1, none⟩) := by obtain ⟨_, _, _, _, q⟩ := hw 1 (by kernel_rfl); exact q
            go_simp
            exact hK _ _ (Wrote.refl _ _) (updV_same _ _ _)
          | 3 =>
            simp only [List.getElem?_toArray, List.getElem?_cons_zero, List.getElem?_cons_succ, Option.some.injEq] at ho
            subst ho
            have hpn : 0 < n := by omega
            have q2 : a'.tmps[27]?.getD undef = .slice (some ⟨b, off, none⟩) n c := by obtain ⟨_, _, _, _, q⟩ := hw 2 (by kernel_rfl); exact q
            go_simp
            exact hK _ _ (Wrote.refl _ _) (updV_same _ _ _)
          | 4 =>
            simp only [List.getElem?_toArray, List.getElem?_cons_zero, List.getElem?_cons_succ, Option.some.injEq] at ho
            subst ho
            have q3 : a'.tmps[28]?.getD undef = .pointer (some ⟨b, off, none⟩) := by obtain ⟨_, _, _, _, q⟩ := hw 3 (by kernel_rfl); exact q
            go_simp
            exact hK _ _ (Wrote.refl _ _) (updV_same _ _ _)
          | 5 =>
            simp only [List.getElem?_toArray, List.getElem?_cons_zero, List.getElem?_cons_succ, Option.some.injEq] at ho
            subst ho
            have q0 : a'.tmps[25]?.getD undef = .agg #[.int .i64 cap, .slice (some ⟨g5, 0, none⟩) (n - 1) c5] := by obtain ⟨_, _, _, _, q⟩ := hw 0 (by kernel_rfl); exact q
            have rB := boxWroteR K16 L (fun o ⟨j, _, hj, _, _, e⟩ => by omega)
            have c1 := boxC rB
            have f1 := boxF rB
            have HB := boxSetR (o := 1) (boxSetR (o := 0) rB (.int .i64 cap)) (.slice (some ⟨g5, 0, none⟩) (n - 1) c5)
            simp only [List.setIfInBounds_toArray, List.set_cons_succ, List.set_cons_zero] at HB
            have HBB := hide HB
            clear HB rB
            go_simp
            exact hK undef _ (Wrote.setCell (Wrote.setCell (Wrote.refl _ W) (fun _ => Or.inl ⟨rfl, rfl⟩) _) (fun _ => Or.inl ⟨rfl, rfl⟩) _) HBB.out
          | 6 =>
            simp only [List.getElem?_toArray, List.getElem?_cons_zero, List.getElem?_cons_succ, Option.some.injEq] at ho
            subst ho
            have q4 : a'.tmps[29]?.getD undef = .agg #[.int .i64 (f 0), .int .i64 (f 1), .int .i64 (f 2)] := by obtain ⟨_, _, _, _, q⟩ := hw 4 (by kernel_rfl); exact q
            have rB := boxWroteR K26 L (fun o ⟨j, _, hj, _, _, e⟩ => by omega)
            have c1 := boxC rB
            have f1 := boxF rB
            have HB := boxSetR (o := 2) (boxSetR (o := 1) (boxSetR (o := 0) rB (.int .i64 (f 0))) (.int .i64 (f 1))) (.int .i64 (f 2))
            simp only [List.setIfInBounds_toArray, List.set_cons_succ, List.set_cons_zero] at HB
            have HBB := hide HB
            clear HB rB
            go_simp
            exact hK undef _ (Wrote.setCell (Wrote.setCell (Wrote.setCell (Wrote.refl _ W) (fun _ => Or.inr ⟨rfl, rfl⟩) _) (fun _ => Or.inr ⟨rfl, rfl⟩) _) (fun _ => Or.inr ⟨rfl, rfl⟩) _) HBB.out
          | 7 =>
            simp only [List.getElem?_toArray, List.getElem?_cons_zero, List.getElem?_cons_succ, Option.some.injEq] at ho
            subst ho
            go_simp
            exact hK _ _ (Wrote.refl _ _) (updV_same _ _ _)
          | n + 8 => simp at ho
        · intro a' W F L lo hi hφ hdj
          obtain ⟨-, -, -, B1⟩ := hφ 5 (by decide)
          obtain ⟨-, -, -, B2⟩ := hφ 6 (by decide)
          obtain ⟨-, -, -, v7⟩ := hφ 7 (by decide)
          have p4 : a'.tmps[4]?.getD undef = .bool true := v7
          have R7 := R6.keep L (fun o ⟨j, e⟩ => by omega)
          have C7 := C6.trans (L.below C6.size (fun b o hb ⟨j, e⟩ => by omega))
          have s7 := L.size
          have HN : Hid (RgNw w W (.agg #[.int .i64 cap, .slice (some ⟨g5, 0, none⟩) (n - 1) c5]) cap (n - 1) (fun i => f (i + 3))) := ⟨⟨_, rfl, R7.on ⟨by omega, by omega⟩⟩⟩
          rw [F.same, show slotsOf [some 25, some 26, some 27, some 28, some 29, none, none, some 4] = [25, 26, 27, 28, 29, 4] from rfl]
          simp only [List.foldl_cons, List.foldl_nil]
          rw [p4]
          clear hφ hdj F L p4 v7 R7 R6 C6 K06 K16 K26 X6 d0 d1 d2
          generalize a'.tmps[25]?.getD undef = s25
          generalize a'.tmps[26]?.getD undef = s26
          generalize a'.tmps[27]?.getD undef = s27
          generalize a'.tmps[28]?.getD undef = s28
          generalize a'.tmps[29]?.getD undef = s29
          refine hKK _ _ ?_
          clear hKK
          go_simp
          have c1 := boxC B1
          have c2 := boxC B2
          go_wp2
          refine bodyPost_ret (v := .tuple #[.agg #[.int .i64 cap, .slice (some ⟨g5, 0, none⟩) (n - 1) c5], .agg #[.int .i64 (f 0), .int .i64 (f 1), .int .i64 (f 2)], .bool true]) (by simp [results, Try.results24, go_sem, c1, c2]) rfl ?_
          exact ⟨_, by rw [HF.out.1.1, HF.out.1.2.1, HF.out.1.2.2.1, HF.out.1.2.2.2], by rw [HF.out.2.1, HF.out.2.2.1, HF.out.2.2.2]; exact HN.out, C7⟩
end Go.Proofs.Ytpaedkefmebjjas
