/-
  The program's chapter 13 by its contracts: RingHead, RingTake, RingPut.
-/
import Derived.Test.YtpaedkefmebjjasRIb
import Derived.Test.YtpaedkefmebjjasG0
import Derived.Deep.RegionHeld3
import Derived.Deep.DeepCutAuto
namespace Go.Proofs.Ytpaedkefmebjjas
set_option linter.unusedVariables false
set_option linter.unusedSimpArgs false
open Go.ChangeShapes Go.WideShapes Go.ChangeAt Go.RowKit Go.Sort
theorem RsOn.congr {W : World} {D : Nat → Prop} {u : Value} {n : Nat} {f g : Nat → Int} (H : RsOn W D u n f) (h : ∀ i, i < n * 3 → f i = g i) : RsOn W D u n g := by
  obtain ⟨a, c, e, hn, hr, h1, h2⟩ := H
  exact ⟨a, c, e, hn, fun i hi => by rw [← h i hi]; exact hr i hi, h1, h2⟩
theorem headV_pad {n : Nat} {f : Nat → Int} (j : Nat) (hj : j < 3) : headV true n (pad3 n f) j = headV true n f j := by
  unfold headV pad3
  by_cases h : 0 < n
  · simp [h, show j < n * 3 by omega]
  · simp [h]
set_option maxRecDepth 8000 in
set_option maxHeartbeats 4000000 in
theorem implRingHead (w : World) (D : Nat → Prop) (v : Value) (cap : Int) (n : Nat) (f : Nat → Int) (H : RgOn w D v cap n f) : Calls Try.prog 22 #[v] w fun e w' => e = .returned (.tuple #[.agg #[.int .i64 (headV (okRing cap n f) n f 0), .int .i64 (headV (okRing cap n f) n f 1), .int .i64 (headV (okRing cap n f) n f 2)], .bool (okRing cap n f && decide (0 < n))]) ∧ Below w.heap.size w w' := by
  have HO := hide (fun W (L : Below w.heap.size w W) => implRingOk W D v cap n f (H.keep (wrote_below L Nowhere) (fun _ _ _ _ x => x)))
  have HS := hide (@okRing_small cap n f)
  obtain ⟨ok, hok⟩ : ∃ b, Hid (b = okRing cap n f) := ⟨_, rfl⟩
  rw [← hok.out] at HO HS ⊢
  clear hok
  obtain ⟨x0, hx0⟩ : ∃ x, Hid (x = headV ok n f 0) := ⟨_, rfl⟩
  obtain ⟨x1, hx1⟩ : ∃ x, Hid (x = headV ok n f 1) := ⟨_, rfl⟩
  obtain ⟨x2, hx2⟩ : ∃ x, Hid (x = headV ok n f 2) := ⟨_, rfl⟩
  obtain ⟨bb, hbb⟩ : ∃ x, Hid (x = (ok && decide (0 < n))) := ⟨_, rfl⟩
  rw [← hx0.out, ← hx1.out, ← hx2.out, ← hbb.out]
  obtain ⟨u, rfl, a, c, rfl, hn, hr, -, -⟩ := H
  have C0 : Below w.heap.size w ((w.alloc (.cells #[.int .i64 cap, .slice a n c] 29)).alloc (.cells #[.int .i64 0, .int .i64 0, .int .i64 0] 40)) := ((Below.refl _ _).alloc (Nat.le_refl _) _).alloc (by simp) _
  have kR : ((w.alloc (.cells #[.int .i64 cap, .slice a n c] 29)).alloc (.cells #[.int .i64 0, .int .i64 0, .int .i64 0] 40)).heap[w.heap.size]? = some (.cells #[.int .i64 cap, .slice a n c] 29 (0, 0)) := by simpa using boxA (box_new w #[.int .i64 cap, .slice a n c] 29) _
  have kE : ((w.alloc (.cells #[.int .i64 cap, .slice a n c] 29)).alloc (.cells #[.int .i64 0, .int .i64 0, .int .i64 0] 40)).heap[w.heap.size + 1]? = some (.cells #[.int .i64 0, .int .i64 0, .int .i64 0] 40 (0, 0)) := by simpa using box_new (w.alloc (.cells #[.int .i64 cap, .slice a n c] 29)) #[.int .i64 0, .int .i64 0, .int .i64 0] 40
  go_enter Try.func22, Try.ntmps22
  go_wp2_with fail
  generalize (w.alloc (.cells #[.int .i64 cap, .slice a n c] 29)).alloc (.cells #[.int .i64 0, .int .i64 0, .int .i64 0] 40) = W0 at *
  refine (HO.out _ C0).mono ?_
  rintro e W1 ⟨rfl, L⟩
  have C1 := below_snoc C0 L
  replace kR := box_keep kR L (boxLt kR)
  replace kE := box_keep kE L (boxLt kE)
  have hlast := boxLt kE
  have hw1 := C1.size
  clear L C0 HO
  cases ok
  · have hv : ∀ j, headV false n f j = 0 := fun j => if_neg (fun h => by cases h.1)
    have HF : Hid (x0 = 0 ∧ x1 = 0 ∧ x2 = 0 ∧ bb = false) := ⟨by rw [hx0.out, hv], by rw [hx1.out, hv], by rw [hx2.out, hv], by rw [hbb.out]; rfl⟩
    have c1 := boxC kE
    have f1 := boxF kE
    have fin : ∀ W5, Wrote (fun b _ => b = w.heap.size + 1) W1 W5 → Below w.heap.size w W5 := fun W5 h => C1.trans (h.below C1.size (fun b o hb (e : b = _) => by omega))
    go_wp2
    refine bodyPost_ret (v := .tuple #[.agg #[.int .i64 0, .int .i64 0, .int .i64 0], .bool false]) (by simp [results, Try.results22, go_sem, c1]) rfl ?_
    refine ⟨by rw [HF.out.1, HF.out.2.1, HF.out.2.2.1, HF.out.2.2.2], fin _ ?_⟩
    repeat (first | with_reducible exact Wrote.refl _ _ | with_reducible refine Wrote.drew ?_ | with_reducible refine Wrote.setCell ?_ (fun _ => by omega) _)
  · have hn16 := HS.out rfl
    go_upto_region 3 with (fail)
    rename_i Kc hKc
    have cR := boxC kR
    refine wp_region_lit ?_
    iterate 4 (refine wpList_plain rfl (fun K9 hK9 => ?_); go_simp; refine hK9 _ _ ?_; clear hK9)
    clear cR
    refine wpList_plain rfl (fun K9 hK9 => ?_)
    go_simp
    refine (rowOf _ cap a n c f hn16 (hr.keep (wrote_below C1 Nowhere) (fun _ _ _ x => x))).mono ?_
    rintro e W2 ⟨rfl, L⟩
    have C2 := below_snoc C1 L
    replace kR := box_keep kR L (boxLt kR)
    replace kE := box_keep kE L (boxLt kE)
    have l2 := L.size
    clear L C1 hr
    refine hK9 _ _ ?_
    clear hK9
    (refine wpList_plain rfl (fun K9 hK9 => ?_); go_simp; refine hK9 _ _ ?_; clear hK9)
    rw [← rowV_lit 0 0]
    refine wpList_store_row rfl _ _ _ rfl (W2.heap.size) (rowV (pad3 n f) cap 0 n) rfl rfl _ _ (box_new W2 (rowV (fun _ => 0) 0 0 0) 71) infoRowAt (by rw [rowV_size, rowV_size]) rowV_one ?_
    rw [World.setRow_alloc_new]
    have LA : Below W2.heap.size W2 (W2.alloc (.cells (rowV (pad3 n f) cap 0 n) 71)) := (Below.refl _ _).alloc (Nat.le_refl _) _
    replace C2 := below_snoc C2 LA
    replace kR := box_keep kR LA (boxLt kR)
    replace kE := box_keep kE LA (boxLt kE)
    have kZ := box_new W2 (rowV (pad3 n f) cap 0 n) 71
    obtain ⟨z, hz⟩ : ∃ z, Hid (z = W2.heap.size) := ⟨_, rfl⟩
    have lz : W1.heap.size ≤ z := by rw [hz.out]; exact l2
    rw [← hz.out] at kZ ⊢
    clear hz LA l2
    generalize W2.alloc (.cells (rowV (pad3 n f) cap 0 n) 71) = W3 at *
    have hbz := boxLt kZ
    refine hKc _ _ ?_
    clear hKc
    go_simp
    have HF : Hid (headV true n (pad3 n f) 0 = x0 ∧ headV true n (pad3 n f) 1 = x1 ∧ headV true n (pad3 n f) 2 = x2 ∧ decide (0 < n) = bb) := ⟨by rw [hx0.out, headV_pad 0 (by omega)], by rw [hx1.out, headV_pad 1 (by omega)], by rw [hx2.out, headV_pad 2 (by omega)], by rw [hbb.out]; rfl⟩
    clear hx0 hx1 hx2 hbb
    go_wp2_with fail
    refine (rowFirst _ z _ cap n hn16 kZ).mono ?_
    rw [HF.out.1, HF.out.2.1, HF.out.2.2.1, HF.out.2.2.2]
    rintro e W4 ⟨rfl, L⟩
    have C4 := below_snoc C2 L
    replace kE := box_keep kE L (boxLt kE)
    clear L C2 kZ kR HF
    have c1 := boxC kE
    have f1 := boxF kE
    have fin : ∀ W5, Wrote (fun b _ => b = w.heap.size + 1) W4 W5 → Below w.heap.size w W5 := fun W5 h => C4.trans (h.below C4.size (fun b o hb (e : b = _) => by omega))
    go_wp2
    refine bodyPost_ret (v := .tuple #[.agg #[.int .i64 x0, .int .i64 x1, .int .i64 x2], .bool bb]) (by simp [results, Try.results22, go_sem, c1]) rfl ?_
    refine ⟨rfl, fin _ ?_⟩
    repeat (first | with_reducible exact Wrote.refl _ _ | with_reducible refine Wrote.drew ?_ | with_reducible refine Wrote.setCell ?_ (fun _ => by omega) _)
set_option maxRecDepth 8000 in
set_option maxHeartbeats 4000000 in
theorem implRingTake (w : World) (D : Nat → Prop) (v : Value) (cap : Int) (n : Nat) (f : Nat → Int) (H : RgOn w D v cap n f) : Calls Try.prog 25 #[v] w fun e w' => ∃ v', e = .returned (.tuple #[v', .agg #[.int .i64 (headV (okRing cap n f) n f 0), .int .i64 (headV (okRing cap n f) n f 1), .int .i64 (headV (okRing cap n f) n f 2)], .bool (okRing cap n f && decide (0 < n))]) ∧ RgNw w w' v' (putC (okRing cap n f) cap) (takeN (okRing cap n f) n) (takeF (okRing cap n f) f) ∧ Below w.heap.size w w' := by
  have HO := hide (fun W (L : Below w.heap.size w W) => implRingOk W D v cap n f (H.keep (wrote_below L Nowhere) (fun _ _ _ _ x => x)))
  have HS := hide (@okRing_small cap n f)
  obtain ⟨ok, hok⟩ : ∃ b, Hid (b = okRing cap n f) := ⟨_, rfl⟩
  rw [← hok.out] at HO HS ⊢
  clear hok
  obtain ⟨x0, hx0⟩ : ∃ x, Hid (x = headV ok n f 0) := ⟨_, rfl⟩
  obtain ⟨x1, hx1⟩ : ∃ x, Hid (x = headV ok n f 1) := ⟨_, rfl⟩
  obtain ⟨x2, hx2⟩ : ∃ x, Hid (x = headV ok n f 2) := ⟨_, rfl⟩
  obtain ⟨bb, hbb⟩ : ∃ x, Hid (x = (ok && decide (0 < n))) := ⟨_, rfl⟩
  rw [← hx0.out, ← hx1.out, ← hx2.out, ← hbb.out]
  obtain ⟨cP, hcP⟩ : ∃ z, Hid (z = putC ok cap) := ⟨_, rfl⟩
  obtain ⟨nP, hnP⟩ : ∃ z, Hid (z = takeN ok n) := ⟨_, rfl⟩
  obtain ⟨fP, hfP⟩ : ∃ z, Hid (z = takeF ok f) := ⟨_, rfl⟩
  rw [← hcP.out, ← hnP.out, ← hfP.out]
  obtain ⟨u, rfl, a, c, rfl, hn, hr, -, -⟩ := H
  have C0 : Below w.heap.size w (((w.alloc (.cells #[.int .i64 cap, .slice a n c] 29)).alloc (.cells #[.int .i64 0, .slice none 0 0] 29)).alloc (.cells #[.int .i64 0, .int .i64 0, .int .i64 0] 40)) := (((Below.refl _ _).alloc (Nat.le_refl _) _).alloc (by simp) _).alloc (by simp; omega) _
  have kR : (((w.alloc (.cells #[.int .i64 cap, .slice a n c] 29)).alloc (.cells #[.int .i64 0, .slice none 0 0] 29)).alloc (.cells #[.int .i64 0, .int .i64 0, .int .i64 0] 40)).heap[w.heap.size]? = some (.cells #[.int .i64 cap, .slice a n c] 29 (0, 0)) := by simpa using boxA (boxA (box_new w #[.int .i64 cap, .slice a n c] 29) _) _
  have kQ : (((w.alloc (.cells #[.int .i64 cap, .slice a n c] 29)).alloc (.cells #[.int .i64 0, .slice none 0 0] 29)).alloc (.cells #[.int .i64 0, .int .i64 0, .int .i64 0] 40)).heap[w.heap.size + 1]? = some (.cells #[.int .i64 0, .slice none 0 0] 29 (0, 0)) := by simpa using boxA (box_new (w.alloc (.cells #[.int .i64 cap, .slice a n c] 29)) #[.int .i64 0, .slice none 0 0] 29) _
  have kE : (((w.alloc (.cells #[.int .i64 cap, .slice a n c] 29)).alloc (.cells #[.int .i64 0, .slice none 0 0] 29)).alloc (.cells #[.int .i64 0, .int .i64 0, .int .i64 0] 40)).heap[w.heap.size + 1 + 1]? = some (.cells #[.int .i64 0, .int .i64 0, .int .i64 0] 40 (0, 0)) := by simpa using box_new ((w.alloc (.cells #[.int .i64 cap, .slice a n c] 29)).alloc (.cells #[.int .i64 0, .slice none 0 0] 29)) #[.int .i64 0, .int .i64 0, .int .i64 0] 40
  go_enter Try.func25, Try.ntmps25
  go_wp2_with fail
  generalize ((w.alloc (.cells #[.int .i64 cap, .slice a n c] 29)).alloc (.cells #[.int .i64 0, .slice none 0 0] 29)).alloc (.cells #[.int .i64 0, .int .i64 0, .int .i64 0] 40) = W0 at *
  refine (HO.out _ C0).mono ?_
  rintro e W1 ⟨rfl, L⟩
  have C1 := below_snoc C0 L
  replace kR := box_keep kR L (boxLt kR)
  replace kQ := box_keep kQ L (boxLt kQ)
  replace kE := box_keep kE L (boxLt kE)
  have hlast := boxLt kE
  have hw1 := C1.size
  clear L C0 HO
  cases ok
  · have hv : ∀ j, headV false n f j = 0 := fun j => if_neg (fun h => by cases h.1)
    have HF : Hid ((x0 = 0 ∧ x1 = 0 ∧ x2 = 0 ∧ bb = false) ∧ cP = 0 ∧ nP = 0) := ⟨⟨by rw [hx0.out, hv], by rw [hx1.out, hv], by rw [hx2.out, hv], by rw [hbb.out]; rfl⟩, hcP.out, hnP.out⟩
    have c1 := boxC kQ
    have f1 := boxF kQ
    have c2 := boxC kE
    have f2 := boxF kE
    have fin : ∀ W5, Wrote (fun b _ => b = w.heap.size + 1 ∨ b = w.heap.size + 1 + 1) W1 W5 → ∃ v', Ending.returned (.tuple #[.agg #[.int .i64 0, .slice none 0 0], .agg #[.int .i64 0, .int .i64 0, .int .i64 0], .bool false]) = .returned (.tuple #[v', .agg #[.int .i64 x0, .int .i64 x1, .int .i64 x2], .bool bb]) ∧ RgNw w W5 v' cP nP fP ∧ Below w.heap.size w W5 := fun W5 h => ⟨_, by rw [HF.out.1.1, HF.out.1.2.1, HF.out.1.2.2.1, HF.out.1.2.2.2], ⟨by rw [HF.out.2.1, HF.out.2.2]; exact RgOn.none0 0 _⟩, C1.trans (h.below C1.size (fun b o hb e => by omega))⟩
    have HN := hide fin
    clear fin
    go_wp2
    refine bodyPost_ret (v := .tuple #[.agg #[.int .i64 0, .slice none 0 0], .agg #[.int .i64 0, .int .i64 0, .int .i64 0], .bool false]) (by simp [results, Try.results25, go_sem, c1, c2]) rfl ?_
    refine HN.out _ ?_
    repeat (first | with_reducible exact Wrote.refl _ _ | with_reducible refine Wrote.drew ?_ | with_reducible refine Wrote.setCell ?_ (fun _ => by omega) _)
  · have hn16 := HS.out rfl
    go_upto_region 3 with (fail)
    rename_i Kc hKc
    have cR := boxC kR
    refine wp_region_lit ?_
    iterate 4 (refine wpList_plain rfl (fun K9 hK9 => ?_); go_simp; refine hK9 _ _ ?_; clear hK9)
    clear cR
    refine wpList_plain rfl (fun K9 hK9 => ?_)
    go_simp
    refine (rowOf _ cap a n c f hn16 (hr.keep (wrote_below C1 Nowhere) (fun _ _ _ x => x))).mono ?_
    rintro e W2 ⟨rfl, L⟩
    have C2 := below_snoc C1 L
    replace kR := box_keep kR L (boxLt kR)
    replace kQ := box_keep kQ L (boxLt kQ)
    replace kE := box_keep kE L (boxLt kE)
    have l2 := L.size
    clear L C1 hr
    refine hK9 _ _ ?_
    clear hK9
    (refine wpList_plain rfl (fun K9 hK9 => ?_); go_simp; refine hK9 _ _ ?_; clear hK9)
    rw [← rowV_lit 0 0]
    refine wpList_store_row rfl _ _ _ rfl (W2.heap.size) (rowV (pad3 n f) cap 0 n) rfl rfl _ _ (box_new W2 (rowV (fun _ => 0) 0 0 0) 71) infoRowAt (by rw [rowV_size, rowV_size]) rowV_one ?_
    rw [World.setRow_alloc_new]
    have LA : Below W2.heap.size W2 (W2.alloc (.cells (rowV (pad3 n f) cap 0 n) 71)) := (Below.refl _ _).alloc (Nat.le_refl _) _
    replace C2 := below_snoc C2 LA
    replace kR := box_keep kR LA (boxLt kR)
    replace kQ := box_keep kQ LA (boxLt kQ)
    replace kE := box_keep kE LA (boxLt kE)
    have kZ := box_new W2 (rowV (pad3 n f) cap 0 n) 71
    obtain ⟨z, hz⟩ : ∃ z, Hid (z = W2.heap.size) := ⟨_, rfl⟩
    have lz : W1.heap.size ≤ z := by rw [hz.out]; exact l2
    rw [← hz.out] at kZ ⊢
    clear hz LA l2
    generalize W2.alloc (.cells (rowV (pad3 n f) cap 0 n) 71) = W3 at *
    have hbz := boxLt kZ
    refine hKc _ _ ?_
    clear hKc
    go_simp
    have HF : Hid (headV true n (pad3 n f) 0 = x0 ∧ headV true n (pad3 n f) 1 = x1 ∧ headV true n (pad3 n f) 2 = x2 ∧ decide (0 < n) = bb) := ⟨by rw [hx0.out, headV_pad 0 (by omega)], by rw [hx1.out, headV_pad 1 (by omega)], by rw [hx2.out, headV_pad 2 (by omega)], by rw [hbb.out]; rfl⟩
    have HG : Hid (cP = cap) := by show _ = _; rw [hcP.out]; rfl
    obtain ⟨hh, hhh⟩ : ∃ h : Nat, Hid (h = if 0 < n then 1 else 0) := ⟨_, rfl⟩
    have HH : Hid (hh ≤ n ∧ nP = n - hh ∧ ∀ i, i < nP * 3 → pad3 n f (i + hh * 3) = fP i) := by
      show _ ∧ _ ∧ _
      rw [hnP.out, hfP.out, hhh.out]
      unfold takeN takeF pad3
      by_cases h : 0 < n
      · simp only [if_pos h, if_true]
        exact ⟨by omega, by first | trivial | rfl | omega, fun i hi => by rw [if_pos (by omega)]⟩
      · simp only [if_neg h, if_true]
        exact ⟨by omega, by omega, fun i hi => by omega⟩
    clear hx0 hx1 hx2 hbb hcP hnP hfP
    go_wp2_with fail
    refine (rowTake _ z _ cap n hn16 kZ).mono ?_
    rw [HF.out.1, HF.out.2.1, HF.out.2.2.1, HF.out.2.2.2]
    rintro e W4 ⟨rfl, kZ4, T4⟩
    have e4 : (if 0 < n then (1 : Int) else 0) = ((hh : Nat) : Int) := by rw [hhh.out]; by_cases h : 0 < n <;> simp [h]
    rw [e4] at kZ4
    clear e4 hhh kZ
    have kZ := kZ4
    clear kZ4
    replace C2 := C2.trans (T4.below C2.size (fun b o hb (e : b = z) => by omega))
    replace kR := boxWroteR kR T4 (fun o (e : _ = z) => by omega)
    replace kQ := boxWroteR kQ T4 (fun o (e : _ = z) => by omega)
    replace kE := boxWroteR kE T4 (fun o (e : _ = z) => by omega)
    have l4 := T4.size
    clear T4 HF
    have LA : Below W4.heap.size W4 (W4.alloc (.cells #[.int .i64 x0, .int .i64 x1, .int .i64 x2] 40)) := (Below.refl _ _).alloc (Nat.le_refl _) _
    have kY := box_new W4 #[.int .i64 x0, .int .i64 x1, .int .i64 x2] 40
    have C4 := below_snoc C2 LA
    replace kR := box_keep kR LA (boxLt kR)
    replace kQ := box_keep kQ LA (boxLt kQ)
    replace kE := box_keep kE LA (boxLt kE)
    replace kZ := box_keep kZ LA (boxLt kZ)
    clear LA C2
    go_upto_region 5 with (fail)
    obtain ⟨y, hy⟩ : ∃ y, Hid (y = W4.heap.size) := ⟨_, rfl⟩
    have ly : W3.heap.size ≤ y := by rw [hy.out]; exact l4
    rw [← hy.out] at kY ⊢
    clear hy l4
    generalize W4.alloc (.cells #[.int .i64 x0, .int .i64 x1, .int .i64 x2] 40) = W5 at *
    have hY := boxLt kY
    obtain ⟨N3, hN3⟩ : ∃ N, N = W5.heap.size := ⟨_, rfl⟩
    have HL : Hid (∀ W : World, W.heap[z]? = some (.cells (rowV (pad3 n f) cap hh n) 71 (0, 0)) → Calls Try.prog 44 #[.pointer (some ⟨z, 0, none⟩)] W fun e w' => ∃ u, e = .returned u ∧ RsOn w' (fun b => W.heap.size ≤ b) u nP fP ∧ Below W.heap.size W w') := fun W hW => (rowList W z (pad3 n f) cap hh n HH.out.1 hn16 hW).mono (fun e w' ⟨u, h1, h2, h3⟩ => ⟨u, h1, by rw [← HH.out.2.1] at h2; exact h2.congr HH.out.2.2, h3⟩)
    clear HH
    refine wp_region_eff [some 22, some 23, some 24, some 25, some 26, some 27, none, none, some 4] (by kernel_rfl) (by kernel_rfl) (by kernel_rfl) (by kernel_rfl) (by first | (simp [slotsOf]; done) | (simp [slotsOf, Act.put]; done))
      (fun j b _ => (j = 6 ∧ b = w.heap.size + 1) ∨ (j = 7 ∧ b = w.heap.size + 1 + 1))
      (fun i v W => match i with
        | 0 => v = .pointer (some ⟨w.heap.size, 0, none⟩)
        | 1 => v = .int .i64 cap
        | 2 => ∃ p q, v = .slice p nP q ∧ RsOn W (fun b => N3 ≤ b) v nP fP
        | 3 => ∃ p q, v = .agg #[.int .i64 cap, .slice p nP q] ∧ RsOn W (fun b => N3 ≤ b) (.slice p nP q) nP fP
        | 4 => v = .agg #[.int .i64 x0, .int .i64 x1, .int .i64 x2]
        | 5 => v = .bool bb
        | 6 => ∃ p q, W.heap[w.heap.size + 1]? = some (.cells #[.int .i64 cap, .slice p nP q] 29 (0, 0)) ∧ RsOn W (fun b => N3 ≤ b) (.slice p nP q) nP fP
        | 7 => W.heap[w.heap.size + 1 + 1]? = some (.cells #[.int .i64 x0, .int .i64 x1, .int .i64 x2] 40 (0, 0))
        | _ => v = .bool bb) ?_ ?_ ?_
    · intro i j o v W W' hij ho _ hW h
      match i, hij, ho, h with
      | 0, hij, _, h => exact h
      | 1, hij, _, h => exact h
      | 2, hij, _, h => exact (by obtain ⟨p, q, e, h⟩ := h; exact ⟨p, q, e, h.keep hW (fun b o hb _ e => by omega)⟩)
      | 3, hij, _, h => exact (by obtain ⟨p, q, e, h⟩ := h; exact ⟨p, q, e, h.keep hW (fun b o hb _ e => by omega)⟩)
      | 4, hij, _, h => exact h
      | 5, hij, _, h => exact h
      | 6, hij, _, h => exact (by obtain ⟨p, q, e, h⟩ := h; exact ⟨p, q, boxWroteR e hW (fun o e => by omega), h.keep hW (fun b o hb _ e => by omega)⟩)
      | 7, hij, _, h => exact boxWroteR h hW (fun o e => by omega)
      | 8, hij, _, h => exact h
      | _ + 9, _, ho, _ => simp at ho
    · intro i o a' W K8 ho F L hw hK
      match i with
      | 0 =>
        simp only [List.getElem?_toArray, List.getElem?_cons_zero, List.getElem?_cons_succ, Option.some.injEq] at ho
        subst ho
        have t1 := F.get (t := 1) (v := .pointer (some ⟨w.heap.size, 0, none⟩)) (by decide) rfl
        go_simp
        exact hK _ _ (Wrote.refl _ _) rfl
      | 1 =>
        simp only [List.getElem?_toArray, List.getElem?_cons_zero, List.getElem?_cons_succ, Option.some.injEq] at ho
        subst ho
        have q0 : a'.tmps[22]?.getD undef = .pointer (some ⟨w.heap.size, 0, none⟩) := hw 0 (by kernel_rfl)
        have rR := boxC (boxWroteR kR L (fun o ⟨j, oj, hj, hoj, hwj, e⟩ => by omega))
        go_simp
        exact hK _ _ (Wrote.refl _ _) rfl
      | 2 =>
        simp only [List.getElem?_toArray, List.getElem?_cons_zero, List.getElem?_cons_succ, Option.some.injEq] at ho
        subst ho
        have t5 := F.get (t := 5) (v := .pointer (some ⟨z, 0, none⟩)) (by decide) rfl
        have rZ := boxWroteR kZ L (fun o ⟨j, oj, hj, hoj, hwj, e⟩ => by omega)
        have lN := L.size
        go_simp
        refine (HL.out W rZ).mono ?_
        rintro e W' ⟨u, rfl, hR, LX⟩
        obtain ⟨p, q, rfl⟩ := hR.two
        exact hK _ _ (wrote_below LX _) ⟨p, q, rfl, hR.mono (fun b _ hb => by omega)⟩
      | 3 =>
        simp only [List.getElem?_toArray, List.getElem?_cons_zero, List.getElem?_cons_succ, Option.some.injEq] at ho
        subst ho
        have q1 : a'.tmps[23]?.getD undef = .int .i64 cap := hw 1 (by kernel_rfl)
        have q2 := hw 2 (by kernel_rfl)
        obtain ⟨p, q, e2, hR⟩ := q2
        have e3 : a'.tmps[24]?.getD undef = .slice p nP q := e2
        rw [show valAt _ a' 2 = a'.tmps[24]?.getD undef from rfl, e3] at hR
        go_simp
        exact hK _ _ (Wrote.refl _ _) ⟨p, q, rfl, hR⟩
      | 4 =>
        simp only [List.getElem?_toArray, List.getElem?_cons_zero, List.getElem?_cons_succ, Option.some.injEq] at ho
        subst ho
        have t6 := F.get (t := 6) (v := .pointer (some ⟨y, 0, none⟩)) (by decide) rfl
        have rY := boxC (boxWroteR kY L (fun o ⟨j, oj, hj, hoj, hwj, e⟩ => by omega))
        go_simp
        exact hK _ _ (Wrote.refl _ _) rfl
      | 5 =>
        simp only [List.getElem?_toArray, List.getElem?_cons_zero, List.getElem?_cons_succ, Option.some.injEq] at ho
        subst ho
        have t7 := F.get (t := 7) (v := .bool bb) (by decide) rfl
        go_simp
        exact hK _ _ (Wrote.refl _ _) rfl
      | 6 =>
        simp only [List.getElem?_toArray, List.getElem?_cons_zero, List.getElem?_cons_succ, Option.some.injEq] at ho
        subst ho
        have t2 := F.get (t := 2) (v := .pointer (some ⟨w.heap.size + 1, 0, none⟩)) (by decide) rfl
        have q3 := hw 3 (by kernel_rfl)
        obtain ⟨p, q, e2, hR⟩ := q3
        have e3 : a'.tmps[25]?.getD undef = .agg #[.int .i64 cap, .slice p nP q] := e2
        have rQ := boxWroteR kQ L (fun o ⟨j, oj, hj, hoj, hwj, e⟩ => by omega)
        have rq := boxC rQ
        have fq := boxF rQ
        have HB := boxSetR (o := 1) (boxSetR (o := 0) rQ (.int .i64 cap)) (.slice p nP q)
        simp only [List.setIfInBounds_toArray, List.set_cons_succ, List.set_cons_zero] at HB
        have HBB := hide HB
        have TT : Wrote (fun b _ => 6 = 6 ∧ b = w.heap.size + 1 ∨ 6 = 7 ∧ b = w.heap.size + 1 + 1) W ((W.setCell ⟨w.heap.size + 1, 0, none⟩ (.int .i64 cap)).setCell ⟨w.heap.size + 1, 1, none⟩ (.slice p nP q)) := Wrote.setCell (Wrote.setCell (Wrote.refl _ W) (fun _ => Or.inl ⟨rfl, rfl⟩) _) (fun _ => Or.inl ⟨rfl, rfl⟩) _
        have HR := hide (hR.keep TT (fun b o hb _ e => by omega))
        clear HB rQ hR
        go_simp
        exact hK undef _ TT ⟨p, q, HBB.out, HR.out⟩
      | 7 =>
        simp only [List.getElem?_toArray, List.getElem?_cons_zero, List.getElem?_cons_succ, Option.some.injEq] at ho
        subst ho
        have t3 := F.get (t := 3) (v := .pointer (some ⟨w.heap.size + 1 + 1, 0, none⟩)) (by decide) rfl
        have q4 : a'.tmps[26]?.getD undef = .agg #[.int .i64 x0, .int .i64 x1, .int .i64 x2] := hw 4 (by kernel_rfl)
        have rE := boxWroteR kE L (fun o ⟨j, oj, hj, hoj, hwj, e⟩ => by omega)
        have re := boxC rE
        have fe := boxF rE
        have HB := boxSetR (o := 2) (boxSetR (o := 1) (boxSetR (o := 0) rE (.int .i64 x0)) (.int .i64 x1)) (.int .i64 x2)
        simp only [List.setIfInBounds_toArray, List.set_cons_succ, List.set_cons_zero] at HB
        have HBB := hide HB
        clear HB rE
        go_simp
        exact hK undef _ (Wrote.setCell (Wrote.setCell (Wrote.setCell (Wrote.refl _ W) (fun _ => Or.inr ⟨rfl, rfl⟩) _) (fun _ => Or.inr ⟨rfl, rfl⟩) _) (fun _ => Or.inr ⟨rfl, rfl⟩) _) HBB.out
      | 8 =>
        simp only [List.getElem?_toArray, List.getElem?_cons_zero, List.getElem?_cons_succ, Option.some.injEq] at ho
        subst ho
        have q5 : a'.tmps[27]?.getD undef = .bool bb := hw 5 (by kernel_rfl)
        go_simp
        exact hK _ _ (Wrote.refl _ _) rfl
      | _ + 9 => simp at ho
    · intro a' W F L hφ
      have p22 : a'.tmps[22]?.getD undef = .pointer (some ⟨w.heap.size, 0, none⟩) := hφ 0 (by decide)
      have p23 : a'.tmps[23]?.getD undef = .int .i64 cap := hφ 1 (by decide)
      have e2 := hφ 2 (by decide)
      have e3 := hφ 3 (by decide)
      have p26 : a'.tmps[26]?.getD undef = .agg #[.int .i64 x0, .int .i64 x1, .int .i64 x2] := hφ 4 (by decide)
      have p27 : a'.tmps[27]?.getD undef = .bool bb := hφ 5 (by decide)
      have e6 := hφ 6 (by decide)
      have e7 := hφ 7 (by decide)
      have p4 : a'.tmps[4]?.getD undef = .bool bb := hφ 8 (by decide)
      rw [F.same, show slotsOf [some 22, some 23, some 24, some 25, some 26, some 27, none, none, some 4] = [22, 23, 24, 25, 26, 27, 4] from rfl]
      simp only [List.foldl_cons, List.foldl_nil]
      obtain ⟨p24, q24, f24, -⟩ := e2
      obtain ⟨p25, q25, f25, -⟩ := e3
      obtain ⟨pp, qq, hQ, hR⟩ := e6
      have g24 : a'.tmps[24]?.getD undef = .slice p24 nP q24 := f24
      have g25 : a'.tmps[25]?.getD undef = .agg #[.int .i64 cap, .slice p25 nP q25] := f25
      rw [p22, p23, g24, g25, p26, p27, p4]
      have C5 : Below w.heap.size w W := C4.trans (L.below C4.size (fun b o hb ⟨j, e⟩ => by omega))
      clear hφ L F p22 p23 g24 g25 p26 p27 p4 f24 f25 C4 kZ kR kQ kE kY HL
      have c1 := boxC hQ
      have c2 := boxC e7
      have HR := hide hR
      clear hR
      go_simp
      go_wp2
      refine bodyPost_ret (v := .tuple #[.agg #[.int .i64 cap, .slice pp nP qq], .agg #[.int .i64 x0, .int .i64 x1, .int .i64 x2], .bool bb]) (by simp [results, Try.results25, go_sem, c1, c2]) rfl ?_
      exact ⟨_, rfl, ⟨by rw [HG.out]; exact ⟨_, rfl, HR.out.mono (fun b h1 (h2 : N3 ≤ b) => ⟨by omega, h1⟩)⟩⟩, C5⟩
theorem okRing_cap {cap : Int} {n : Nat} {f : Nat → Int} (h : okRing cap n f = true) : cap ≤ 16 := by
  unfold okRing inB at h
  simp at h
  omega
theorem okUpto.congr {f g : Nat → Int} {n : Nat} (h : okUpto f n) (e : ∀ i, i < n * 3 → f i = g i) : okUpto g n := fun i hi => by
  obtain ⟨h1, h2⟩ := h i hi
  unfold okRec at h1 ⊢
  rw [← e _ (by omega), ← e _ (by omega), ← e _ (by omega)]
  exact ⟨h1, fun h0 => by rw [← e _ (by omega)]; exact h2 h0⟩
theorem ok_put {cap : Int} {n : Nat} {f : Nat → Int} {t r x : Int} (h : okRing cap n f = true) : okRing cap (n + 1) (put3 f n t r x) = (fol (lastT f n) t r x && decide ((n : Int) < cap)) := by
  have hu : okUpto f n := by unfold okRing at h; simp only [Bool.and_eq_true, decide_eq_true_eq] at h; exact h.1
  have hc : inB cap 1 16 = true := by unfold okRing at h; simp only [Bool.and_eq_true, decide_eq_true_eq] at h; exact h.2.1
  have hp : ∀ i, i < n * 3 → f i = put3 f n t r x i := fun i hi => by unfold put3; rw [if_neg (by omega), if_neg (by omega), if_neg (by omega)]
  have hl : lastT (put3 f n t r x) n = lastT f n := by
    unfold lastT
    by_cases h0 : n = 0
    · rw [if_pos h0, if_pos h0]
    · rw [if_neg h0, if_neg h0, ← hp _ (by omega)]
  have key := fol_step (hu.congr hp)
  rw [hl, show put3 f n t r x (n * 3) = t from by unfold put3; rw [if_pos rfl], show put3 f n t r x (n * 3 + 1) = r from by unfold put3; rw [if_neg (by omega), if_pos rfl], show put3 f n t r x (n * 3 + 2) = x from by unfold put3; rw [if_neg (by omega), if_neg (by omega), if_pos rfl]] at key
  unfold okRing
  rw [hc, Bool.true_and]
  congr 1
  · cases hf : fol (lastT f n) t r x
    · exact decide_eq_false (fun e => by have := key.2 e; rw [hf] at this; cases this)
    · exact decide_eq_true (key.1 hf)
set_option maxRecDepth 8000 in
set_option maxHeartbeats 4000000 in
theorem implRingPut (w : World) (D : Nat → Prop) (v : Value) (cap : Int) (n : Nat) (f : Nat → Int) (t r x : Int) (H : RgOn w D v cap n f) : Calls Try.prog 20 #[v, .agg #[.int .i64 t, .int .i64 r, .int .i64 x]] w fun e w' => ∃ v', e = .returned (.tuple #[v', .bool (okRing cap n f && okRing cap (n + 1) (put3 f n t r x))]) ∧ RgNw w w' v' (putC (okRing cap n f) cap) (putN (okRing cap n f) (okRing cap n f && okRing cap (n + 1) (put3 f n t r x)) n) (putF (okRing cap n f) (okRing cap n f && okRing cap (n + 1) (put3 f n t r x)) f n t r x) ∧ Below w.heap.size w w' := by
  have HO := hide (fun W (L : Below w.heap.size w W) => implRingOk W D v cap n f (H.keep (wrote_below L Nowhere) (fun _ _ _ _ x => x)))
  have HS := hide (@okRing_small cap n f)
  have HP := hide (@ok_put cap n f t r x)
  have HC := hide (@okRing_cap cap n f)
  obtain ⟨ok, hok⟩ : ∃ b, Hid (b = okRing cap n f) := ⟨_, rfl⟩
  rw [← hok.out] at HO HS HP HC ⊢
  obtain ⟨o2, ho2⟩ : ∃ b, Hid (b = okRing cap (n + 1) (put3 f n t r x)) := ⟨_, rfl⟩
  rw [← ho2.out] at HP ⊢
  clear hok ho2
  obtain ⟨bb, hbb⟩ : ∃ b, Hid (b = (ok && o2)) := ⟨_, rfl⟩
  rw [← hbb.out]
  obtain ⟨cP, hcP⟩ : ∃ z, Hid (z = putC ok cap) := ⟨_, rfl⟩
  obtain ⟨nP, hnP⟩ : ∃ z, Hid (z = putN ok bb n) := ⟨_, rfl⟩
  obtain ⟨fP, hfP⟩ : ∃ z, Hid (z = putF ok bb f n t r x) := ⟨_, rfl⟩
  rw [← hcP.out, ← hnP.out, ← hfP.out]
  obtain ⟨u, rfl, a, c, rfl, hn, hr, -, -⟩ := H
  have C0 : Below w.heap.size w (((w.alloc (.cells #[.int .i64 cap, .slice a n c] 29)).alloc (.cells #[.int .i64 t, .int .i64 r, .int .i64 x] 40)).alloc (.cells #[.int .i64 0, .slice none 0 0] 29)) := (((Below.refl _ _).alloc (Nat.le_refl _) _).alloc (by simp) _).alloc (by simp; omega) _
  have kR : (((w.alloc (.cells #[.int .i64 cap, .slice a n c] 29)).alloc (.cells #[.int .i64 t, .int .i64 r, .int .i64 x] 40)).alloc (.cells #[.int .i64 0, .slice none 0 0] 29)).heap[w.heap.size]? = some (.cells #[.int .i64 cap, .slice a n c] 29 (0, 0)) := by simpa using boxA (boxA (box_new w #[.int .i64 cap, .slice a n c] 29) _) _
  have kX : (((w.alloc (.cells #[.int .i64 cap, .slice a n c] 29)).alloc (.cells #[.int .i64 t, .int .i64 r, .int .i64 x] 40)).alloc (.cells #[.int .i64 0, .slice none 0 0] 29)).heap[w.heap.size + 1]? = some (.cells #[.int .i64 t, .int .i64 r, .int .i64 x] 40 (0, 0)) := by simpa using boxA (box_new (w.alloc (.cells #[.int .i64 cap, .slice a n c] 29)) #[.int .i64 t, .int .i64 r, .int .i64 x] 40) _
  have kQ : (((w.alloc (.cells #[.int .i64 cap, .slice a n c] 29)).alloc (.cells #[.int .i64 t, .int .i64 r, .int .i64 x] 40)).alloc (.cells #[.int .i64 0, .slice none 0 0] 29)).heap[w.heap.size + 1 + 1]? = some (.cells #[.int .i64 0, .slice none 0 0] 29 (0, 0)) := by simpa using box_new ((w.alloc (.cells #[.int .i64 cap, .slice a n c] 29)).alloc (.cells #[.int .i64 t, .int .i64 r, .int .i64 x] 40)) #[.int .i64 0, .slice none 0 0] 29
  go_enter Try.func20, Try.ntmps20
  go_wp2_with fail
  generalize ((w.alloc (.cells #[.int .i64 cap, .slice a n c] 29)).alloc (.cells #[.int .i64 t, .int .i64 r, .int .i64 x] 40)).alloc (.cells #[.int .i64 0, .slice none 0 0] 29) = W0 at *
  refine (HO.out _ C0).mono ?_
  rintro e W1 ⟨rfl, L⟩
  have C1 := below_snoc C0 L
  replace kR := box_keep kR L (boxLt kR)
  replace kX := box_keep kX L (boxLt kX)
  replace kQ := box_keep kQ L (boxLt kQ)
  have hlast := boxLt kQ
  have hw1 := C1.size
  clear L C0 HO
  cases ok
  · have HF : Hid (bb = false ∧ cP = 0 ∧ nP = 0) := ⟨by rw [hbb.out]; rfl, hcP.out, by rw [hnP.out, hbb.out]; rfl⟩
    have c1 := boxC kQ
    have f1 := boxF kQ
    have fin : ∀ W5, Wrote (fun b _ => b = w.heap.size + 1 + 1) W1 W5 → ∃ v', Ending.returned (.tuple #[.agg #[.int .i64 0, .slice none 0 0], .bool false]) = .returned (.tuple #[v', .bool bb]) ∧ RgNw w W5 v' cP nP fP ∧ Below w.heap.size w W5 := fun W5 h => ⟨_, by rw [HF.out.1], ⟨by rw [HF.out.2.1, HF.out.2.2]; exact RgOn.none0 0 _⟩, C1.trans (h.below C1.size (fun b o hb e => by omega))⟩
    have HN := hide fin
    clear fin
    go_wp2
    refine bodyPost_ret (v := .tuple #[.agg #[.int .i64 0, .slice none 0 0], .bool false]) (by simp [results, Try.results20, go_sem, c1]) rfl ?_
    refine HN.out _ ?_
    repeat (first | with_reducible exact Wrote.refl _ _ | with_reducible refine Wrote.drew ?_ | with_reducible refine Wrote.setCell ?_ (fun _ => by omega) _)
  · have hp := HP.out rfl
    have hcap := HC.out rfl
    clear HC HP
    have HR0 := hide (fun W (L : Below w.heap.size w W) => reached W a n c f cap hn.1 (hr.keep (wrote_below L Nowhere) (fun _ _ _ x => x)))
    have hn16 := HS.out rfl
    go_upto_region 3 with (fail)
    rename_i Kc hKc
    have cR := boxC kR
    refine wp_region_lit ?_
    iterate 4 (refine wpList_plain rfl (fun K9 hK9 => ?_); go_simp; refine hK9 _ _ ?_; clear hK9)
    clear cR
    refine wpList_plain rfl (fun K9 hK9 => ?_)
    go_simp
    refine (rowOf _ cap a n c f hn16 (hr.keep (wrote_below C1 Nowhere) (fun _ _ _ x => x))).mono ?_
    rintro e W2 ⟨rfl, L⟩
    have C2 := below_snoc C1 L
    replace kR := box_keep kR L (boxLt kR)
    replace kX := box_keep kX L (boxLt kX)
    replace kQ := box_keep kQ L (boxLt kQ)
    have l2 := L.size
    clear L C1 hr
    refine hK9 _ _ ?_
    clear hK9
    (refine wpList_plain rfl (fun K9 hK9 => ?_); go_simp; refine hK9 _ _ ?_; clear hK9)
    rw [← rowV_lit 0 0]
    refine wpList_store_row rfl _ _ _ rfl (W2.heap.size) (rowV (pad3 n f) cap 0 n) rfl rfl _ _ (box_new W2 (rowV (fun _ => 0) 0 0 0) 71) infoRowAt (by rw [rowV_size, rowV_size]) rowV_one ?_
    rw [World.setRow_alloc_new]
    have LA : Below W2.heap.size W2 (W2.alloc (.cells (rowV (pad3 n f) cap 0 n) 71)) := (Below.refl _ _).alloc (Nat.le_refl _) _
    replace C2 := below_snoc C2 LA
    replace kR := box_keep kR LA (boxLt kR)
    replace kX := box_keep kX LA (boxLt kX)
    replace kQ := box_keep kQ LA (boxLt kQ)
    have kZ := box_new W2 (rowV (pad3 n f) cap 0 n) 71
    obtain ⟨z, hz⟩ : ∃ z, Hid (z = W2.heap.size) := ⟨_, rfl⟩
    have lz : W1.heap.size ≤ z := by rw [hz.out]; exact l2
    rw [← hz.out] at kZ ⊢
    clear hz LA l2
    generalize W2.alloc (.cells (rowV (pad3 n f) cap 0 n) 71) = W3 at *
    have hbz := boxLt kZ
    refine hKc _ _ ?_
    clear hKc
    go_simp
    have HG : Hid (cP = cap) := by show _ = _; rw [hcP.out]; rfl
    obtain ⟨fo, hfo⟩ : ∃ b, Hid (b = fol (lastT f n) t r x) := ⟨_, rfl⟩
    have HFo := hide (fun W => follows W t r x (lastT f n))
    rw [← hfo.out] at HFo hp
    generalize lastT f n = lt at *
    clear hfo
    obtain ⟨gE, hgE⟩ : ∃ g : Nat → Int, Hid (g = if bb then put3 (pad3 n f) n t r x else pad3 n f) := ⟨_, rfl⟩
    have HB0 : Hid (bb = false → gE = pad3 n f ∧ nP = n) := fun e => ⟨by rw [hgE.out, e]; rfl, by rw [hnP.out, e]; rfl⟩
    have HB1 : Hid (bb = true → gE = put3 (pad3 n f) n t r x ∧ nP = n + 1) := fun e => ⟨by rw [hgE.out, e]; rfl, by rw [hnP.out, e]; rfl⟩
    have HBB : Hid (bb = (fo && decide ((n : Int) < cap))) := by show _ = _; rw [hbb.out, hp]; rfl
    have HH : Hid (nP ≤ 16 ∧ ∀ i, i < nP * 3 → gE (i + 0 * 3) = fP i) := by
      show _ ∧ _
      rw [hfP.out]
      cases hb : bb
      · obtain ⟨e1, e2⟩ := HB0.out hb
        rw [e1, e2]
        exact ⟨by omega, fun i hi => by unfold putF pad3; simp only [Nat.zero_mul, Nat.add_zero]; rw [if_pos hi]; rfl⟩
      · obtain ⟨e1, e2⟩ := HB1.out hb
        have hlt : (n : Int) < cap := by
          have := HBB.out
          rw [hb] at this
          cases fo
          · cases this
          · simpa using this.symm
        rw [e1, e2]
        refine ⟨by omega, fun i hi => ?_⟩
        unfold putF put3 pad3
        simp only [Nat.zero_mul, Nat.add_zero, if_true]
        by_cases h : i < n * 3
        · rw [if_pos h]
        · have : i = n * 3 ∨ i = n * 3 + 1 ∨ i = n * 3 + 2 := by omega
          rcases this with h | h | h <;> simp [h]
    clear hgE hnP hfP hp hbb hcP
    go_upto_region 4 with (fail)
    go_cut [7] (fun s W => s = .bool bb ∧ W.heap[z]? = some (.cells (rowV gE cap 0 nP) 71 (0, 0)) ∧ W.heap[w.heap.size]? = some (.cells #[.int .i64 cap, .slice a n c] 29 (0, 0)) ∧ W.heap[w.heap.size + 1 + 1]? = some (.cells #[.int .i64 0, .slice none 0 0] 29 (0, 0)) ∧ Below w.heap.size w W)
    case first =>
      have cR := boxC kR
      have cX := boxC kX
      cases fo
      · have HE : Hid (bb = false) := HBB.out
        go_region_with (first
          | (go_at_call 42; refine (HR0.out _ C2.drew).mono ?_; rintro e W4 ⟨rfl, L4⟩; have C4 := C2.drew.trans (L4.mono C2.size); have kX4 := (L4.block _ (boxLt kX)).trans kX; have kZ4 := (L4.block _ (boxLt kZ)).trans kZ; have kR4 := (L4.block _ (boxLt kR)).trans kR; have kQ4 := (L4.block _ (boxLt kQ)).trans kQ; have cX4 := boxC kX4)
          | (go_at_call 41; refine (HFo.out _).mono ?_; rintro e W5 ⟨rfl, L5⟩; have C5 := below_snoc C4 L5; have kZ5 := box_keep kZ4 L5 (boxLt kZ4); have kR5 := box_keep kR4 L5 (boxLt kR4); have kQ5 := box_keep kQ4 L5 (boxLt kQ4)))
        all_goals (go_wp2_with fail; go_meet; exact ⟨by rw [HE.out], by rw [(HB0.out HE.out).1, (HB0.out HE.out).2]; exact kZ5, kR5, kQ5, C5⟩)
      · have HE : Hid (bb = decide ((n : Int) < cap)) := by show _ = _; rw [HBB.out]; rfl
        go_region_with (first
          | (go_at_call 42; refine (HR0.out _ C2.drew).mono ?_; rintro e W4 ⟨rfl, L4⟩; have C4 := C2.drew.trans (L4.mono C2.size); have kX4 := (L4.block _ (boxLt kX)).trans kX; have kZ4 := (L4.block _ (boxLt kZ)).trans kZ; have kR4 := (L4.block _ (boxLt kR)).trans kR; have kQ4 := (L4.block _ (boxLt kQ)).trans kQ; have cX4 := boxC kX4)
          | (go_at_call 41; refine (HFo.out _).mono ?_; rintro e W5 ⟨rfl, L5⟩; have C5 := below_snoc C4 L5; have kZ5 := box_keep kZ4 L5 (boxLt kZ4); have kR5 := box_keep kR4 L5 (boxLt kR4); have kQ5 := box_keep kQ4 L5 (boxLt kQ4); have kX5 := box_keep kX4 L5 (boxLt kX4); have cX5 := boxC kX5)
          | (go_at_call 43; refine (rowPut _ z _ cap n t r x hn16 hcap kZ5).mono ?_; rintro e W6 ⟨rfl, kZ6, T6⟩; have C6 := C5.trans (T6.below C5.size (fun b o hb (e : b = z) => by omega)); have kR6 := boxWroteR kR5 T6 (fun o (e : _ = z) => by omega); have kQ6 := boxWroteR kQ5 T6 (fun o (e : _ = z) => by omega)))
        all_goals (go_wp2_with fail; go_meet; refine ⟨by rw [HE.out], ?_, kR6, kQ6, C6⟩; rw [kZ6]; by_cases h : (n : Int) < cap; (rw [if_pos h, (HB1.out (by rw [HE.out]; exact decide_eq_true h)).1, (HB1.out (by rw [HE.out]; exact decide_eq_true h)).2]; rfl); (rw [if_neg h, (HB0.out (by rw [HE.out]; exact decide_eq_false h)).1, (HB0.out (by rw [HE.out]; exact decide_eq_false h)).2]))
    case rest =>
      obtain ⟨rfl, kZ, kR, kQ, C4⟩ := hcut
      have hbz := boxLt kZ
      have HL : Hid (∀ W : World, W.heap[z]? = some (.cells (rowV gE cap 0 nP) 71 (0, 0)) → Calls Try.prog 44 #[.pointer (some ⟨z, 0, none⟩)] W fun e w' => ∃ u, e = .returned u ∧ RsOn w' (fun b => W.heap.size ≤ b) u nP fP ∧ Below W.heap.size W w') := fun W hW => (rowList W z gE cap 0 nP (Nat.zero_le _) HH.out.1 hW).mono (fun e w' ⟨u, h1, h2, h3⟩ => ⟨u, h1, h2.congr HH.out.2, h3⟩)
      clear HH HB0 HB1 HBB HFo HR0
      obtain ⟨N3, hN3⟩ : ∃ N, N = wc.heap.size := ⟨_, rfl⟩
      go_upto_region 5 with (fail)
      refine wp_region_eff [some 25, some 26, some 27, some 28, some 29, none, some 5] (by kernel_rfl) (by kernel_rfl) (by kernel_rfl) (by kernel_rfl) (by first | (simp [slotsOf]; done) | (simp [slotsOf, Act.put]; done))
        (fun j b _ => j = 5 ∧ b = w.heap.size + 1 + 1)
        (fun i v W => match i with
          | 0 => v = .pointer (some ⟨w.heap.size, 0, none⟩)
          | 1 => v = .int .i64 cap
          | 2 => ∃ p q, v = .slice p nP q ∧ RsOn W (fun b => N3 ≤ b) v nP fP
          | 3 => ∃ p q, v = .agg #[.int .i64 cap, .slice p nP q] ∧ RsOn W (fun b => N3 ≤ b) (.slice p nP q) nP fP
          | 4 => v = .bool bb
          | 5 => ∃ p q, W.heap[w.heap.size + 1 + 1]? = some (.cells #[.int .i64 cap, .slice p nP q] 29 (0, 0)) ∧ RsOn W (fun b => N3 ≤ b) (.slice p nP q) nP fP
          | _ => v = .bool bb) ?_ ?_ ?_
      · intro i j o v W W' hij ho _ hW h
        match i, hij, ho, h with
        | 0, hij, _, h => exact h
        | 1, hij, _, h => exact h
        | 2, hij, _, h => exact (by obtain ⟨p, q, e, h⟩ := h; exact ⟨p, q, e, h.keep hW (fun b o hb _ e => by omega)⟩)
        | 3, hij, _, h => exact (by obtain ⟨p, q, e, h⟩ := h; exact ⟨p, q, e, h.keep hW (fun b o hb _ e => by omega)⟩)
        | 4, hij, _, h => exact h
        | 5, hij, _, h => exact (by obtain ⟨p, q, e, h⟩ := h; exact ⟨p, q, boxWroteR e hW (fun o e => by omega), h.keep hW (fun b o hb _ e => by omega)⟩)
        | 6, hij, _, h => exact h
        | _ + 7, _, ho, _ => simp at ho
      · intro i o a' W K8 ho F L hw hK
        match i with
        | 0 =>
          simp only [List.getElem?_toArray, List.getElem?_cons_zero, List.getElem?_cons_succ, Option.some.injEq] at ho
          subst ho
          have t2 := F.get (t := 2) (v := .pointer (some ⟨w.heap.size, 0, none⟩)) (by decide) rfl
          go_simp
          exact hK _ _ (Wrote.refl _ _) rfl
        | 1 =>
          simp only [List.getElem?_toArray, List.getElem?_cons_zero, List.getElem?_cons_succ, Option.some.injEq] at ho
          subst ho
          have q0 : a'.tmps[25]?.getD undef = .pointer (some ⟨w.heap.size, 0, none⟩) := hw 0 (by kernel_rfl)
          have rR := boxC (boxWroteR kR L (fun o ⟨j, oj, hj, hoj, hwj, e⟩ => by omega))
          go_simp
          exact hK _ _ (Wrote.refl _ _) rfl
        | 2 =>
          simp only [List.getElem?_toArray, List.getElem?_cons_zero, List.getElem?_cons_succ, Option.some.injEq] at ho
          subst ho
          have t6 := F.get (t := 6) (v := .pointer (some ⟨z, 0, none⟩)) (by decide) rfl
          have rZ := boxWroteR kZ L (fun o ⟨j, oj, hj, hoj, hwj, e⟩ => by omega)
          have lN := L.size
          go_simp
          refine (HL.out W rZ).mono ?_
          rintro e W' ⟨u, rfl, hR, LX⟩
          obtain ⟨p, q, rfl⟩ := hR.two
          exact hK _ _ (wrote_below LX _) ⟨p, q, rfl, hR.mono (fun b _ hb => by omega)⟩
        | 3 =>
          simp only [List.getElem?_toArray, List.getElem?_cons_zero, List.getElem?_cons_succ, Option.some.injEq] at ho
          subst ho
          have q1 : a'.tmps[26]?.getD undef = .int .i64 cap := hw 1 (by kernel_rfl)
          have q2 := hw 2 (by kernel_rfl)
          obtain ⟨p, q, e2, hR⟩ := q2
          have e3 : a'.tmps[27]?.getD undef = .slice p nP q := e2
          rw [show valAt _ a' 2 = a'.tmps[27]?.getD undef from rfl, e3] at hR
          go_simp
          exact hK _ _ (Wrote.refl _ _) ⟨p, q, rfl, hR⟩
        | 4 =>
          simp only [List.getElem?_toArray, List.getElem?_cons_zero, List.getElem?_cons_succ, Option.some.injEq] at ho
          subst ho
          have t7 := F.get (t := 7) (v := .bool bb) (by decide) rfl
          go_simp
          exact hK _ _ (Wrote.refl _ _) rfl
        | 5 =>
          simp only [List.getElem?_toArray, List.getElem?_cons_zero, List.getElem?_cons_succ, Option.some.injEq] at ho
          subst ho
          have t4 := F.get (t := 4) (v := .pointer (some ⟨w.heap.size + 1 + 1, 0, none⟩)) (by decide) rfl
          have q3 := hw 3 (by kernel_rfl)
          obtain ⟨p, q, e2, hR⟩ := q3
          have e3 : a'.tmps[28]?.getD undef = .agg #[.int .i64 cap, .slice p nP q] := e2
          have rQ := boxWroteR kQ L (fun o ⟨j, oj, hj, hoj, hwj, e⟩ => by omega)
          have rq := boxC rQ
          have fq := boxF rQ
          have HB := boxSetR (o := 1) (boxSetR (o := 0) rQ (.int .i64 cap)) (.slice p nP q)
          simp only [List.setIfInBounds_toArray, List.set_cons_succ, List.set_cons_zero] at HB
          have HBB := hide HB
          have TT : Wrote (fun b _ => 5 = 5 ∧ b = w.heap.size + 1 + 1) W ((W.setCell ⟨w.heap.size + 1 + 1, 0, none⟩ (.int .i64 cap)).setCell ⟨w.heap.size + 1 + 1, 1, none⟩ (.slice p nP q)) := Wrote.setCell (Wrote.setCell (Wrote.refl _ W) (fun _ => ⟨rfl, rfl⟩) _) (fun _ => ⟨rfl, rfl⟩) _
          have HR := hide (hR.keep TT (fun b o hb _ e => by omega))
          clear HB rQ hR
          go_simp
          exact hK undef _ TT ⟨p, q, HBB.out, HR.out⟩
        | 6 =>
          simp only [List.getElem?_toArray, List.getElem?_cons_zero, List.getElem?_cons_succ, Option.some.injEq] at ho
          subst ho
          have q4 : a'.tmps[29]?.getD undef = .bool bb := hw 4 (by kernel_rfl)
          go_simp
          exact hK _ _ (Wrote.refl _ _) rfl
        | _ + 7 => simp at ho
      · intro a' W F L hφ
        have p25 : a'.tmps[25]?.getD undef = .pointer (some ⟨w.heap.size, 0, none⟩) := hφ 0 (by decide)
        have p26 : a'.tmps[26]?.getD undef = .int .i64 cap := hφ 1 (by decide)
        have e2 := hφ 2 (by decide)
        have e3 := hφ 3 (by decide)
        have p29 : a'.tmps[29]?.getD undef = .bool bb := hφ 4 (by decide)
        have e5 := hφ 5 (by decide)
        have p5 : a'.tmps[5]?.getD undef = .bool bb := hφ 6 (by decide)
        rw [F.same, show slotsOf [some 25, some 26, some 27, some 28, some 29, none, some 5] = [25, 26, 27, 28, 29, 5] from rfl]
        simp only [List.foldl_cons, List.foldl_nil]
        obtain ⟨p27, q27, f27, -⟩ := e2
        obtain ⟨p28, q28, f28, -⟩ := e3
        obtain ⟨pp, qq, hQ, hR⟩ := e5
        have g27 : a'.tmps[27]?.getD undef = .slice p27 nP q27 := f27
        have g28 : a'.tmps[28]?.getD undef = .agg #[.int .i64 cap, .slice p28 nP q28] := f28
        rw [p25, p26, g27, g28, p29, p5]
        have C5 : Below w.heap.size w W := C4.trans (L.below C4.size (fun b o hb ⟨j, e⟩ => by omega))
        have hwc := C4.size
        clear hφ L F p25 p26 g27 g28 p29 p5 f27 f28 C4 kZ kR kQ HL
        have c1 := boxC hQ
        have HR := hide hR
        clear hR
        go_simp
        go_wp2
        refine bodyPost_ret (v := .tuple #[.agg #[.int .i64 cap, .slice pp nP qq], .bool bb]) (by simp [results, Try.results20, go_sem, c1]) rfl ?_
        exact ⟨_, rfl, ⟨by rw [HG.out]; exact ⟨_, rfl, HR.out.mono (fun b h1 (h2 : N3 ≤ b) => ⟨by omega, h1⟩)⟩⟩, C5⟩
end Go.Proofs.Ytpaedkefmebjjas
