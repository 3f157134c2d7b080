/-
  Chapter 13 of the specification by its contracts: RingNew, RingHead, RingPut, RingTake.
-/
import Derived.Test.YtpaedkefmebjjasRD
import Derived.Deep.DeepCutAuto
namespace Go.Proofs.Ytpaedkefmebjjas
set_option linter.unusedVariables false
set_option linter.unusedSimpArgs false
open Go.ChangeShapes Go.WideShapes Go.ChangeAt Go.RowKit Go.Sort
theorem RgOn.none0 {W : World} {D : Nat → Prop} (cap : Int) (f : Nat → Int) : RgOn W D (.agg #[.int .i64 cap, .slice none 0 0]) cap 0 f := ⟨_, rfl, RsOn.none0 f⟩
theorem specRingNew (w : World) (cap : Int) : Calls Try.prog 14 #[.int .i64 cap] w fun e w' => e = .returned (.tuple #[.agg #[.int .i64 (if okRing cap 0 (fun _ => 0) then cap else 0), .slice none 0 0], .bool (okRing cap 0 (fun _ => 0))]) ∧ Below w.heap.size w w' := by
  have HO := hide (fun W => specRingOk W (fun _ => False) _ cap 0 (fun _ => 0) (RgOn.none0 cap _))
  obtain ⟨ok, hok⟩ : ∃ b, Hid (b = okRing cap 0 (fun _ => 0)) := ⟨_, rfl⟩
  rw [← hok.out] at HO ⊢
  clear hok
  have C0 : Below w.heap.size w ((w.alloc (.cells #[.int .i64 0, .slice none 0 0] 29)).alloc (.cells #[.int .i64 cap, .slice none 0 0] 29)) := ((Below.refl _ _).alloc (Nat.le_refl _) _).alloc (by simp) _
  have k0 : ((w.alloc (.cells #[.int .i64 0, .slice none 0 0] 29)).alloc (.cells #[.int .i64 cap, .slice none 0 0] 29)).heap[w.heap.size]? = some (.cells #[.int .i64 0, .slice none 0 0] 29 (0, 0)) := boxA (box_new w _ _) _
  have k1 : ((w.alloc (.cells #[.int .i64 0, .slice none 0 0] 29)).alloc (.cells #[.int .i64 cap, .slice none 0 0] 29)).heap[w.heap.size + 1]? = some (.cells #[.int .i64 cap, .slice none 0 0] 29 (0, 0)) := by simpa using box_new (w.alloc (.cells #[.int .i64 0, .slice none 0 0] 29)) #[.int .i64 cap, .slice none 0 0] 29
  go_enter Try.func14, Try.ntmps14
  go_wp2_with fail
  generalize (w.alloc (.cells #[.int .i64 0, .slice none 0 0] 29)).alloc (.cells #[.int .i64 cap, .slice none 0 0] 29) = W0 at *
  refine (HO.out _).mono ?_
  rintro e W1 ⟨rfl, L⟩
  have C1 := below_snoc C0 L
  replace k0 := box_keep k0 L (boxLt k0)
  replace k1 := box_keep k1 L (boxLt k1)
  have c0 := boxC k0
  have c1 := boxC k1
  have f0 := boxF k0
  clear L C0 HO
  cases ok
  · go_wp2
    refine bodyPost_ret (v := .tuple #[.agg #[.int .i64 0, .slice none 0 0], .bool false]) (by simp [results, Try.results14, go_sem, c0]) rfl ?_
    exact ⟨rfl, (C1.setCell (Nat.le_refl _) _).setCell (Nat.le_refl _) _⟩
  · go_wp2
    refine bodyPost_ret (v := .tuple #[.agg #[.int .i64 cap, .slice none 0 0], .bool true]) (by simp [results, Try.results14, go_sem, c0]) rfl ?_
    exact ⟨rfl, (C1.setCell (Nat.le_refl _) _).setCell (Nat.le_refl _) _⟩
def headV (ok : Bool) (n : Nat) (f : Nat → Int) (j : Nat) : Int := if ok = true ∧ 0 < n then f j else 0
theorem specRingHead (w : World) (D : Nat → Prop) (v : Value) (cap : Int) (n : Nat) (f : Nat → Int) (H : RgOn w D v cap n f) : Calls Try.prog 21 #[v] w fun e w' => e = .returned (.tuple #[.agg #[.int .i64 (headV (okRing cap n f) n f 0), .int .i64 (headV (okRing cap n f) n f 1), .int .i64 (headV (okRing cap n f) n f 2)], .bool (okRing cap n f && decide (0 < n))]) ∧ Below w.heap.size w w' := by
  have HO := hide (fun W L => specRingOk W D v cap n f (H.below (W' := W) L))
  obtain ⟨ok, hok⟩ : ∃ b, Hid (b = okRing cap n f) := ⟨_, rfl⟩
  rw [← hok.out] at HO ⊢
  clear hok
  obtain ⟨x0, hx0⟩ : ∃ x, Hid (x = headV ok n f 0) := ⟨_, rfl⟩
  obtain ⟨x1, hx1⟩ : ∃ x, Hid (x = headV ok n f 1) := ⟨_, rfl⟩
  obtain ⟨x2, hx2⟩ : ∃ x, Hid (x = headV ok n f 2) := ⟨_, rfl⟩
  obtain ⟨bb, hbb⟩ : ∃ x, Hid (x = (ok && decide (0 < n))) := ⟨_, rfl⟩
  rw [← hx0.out, ← hx1.out, ← hx2.out, ← hbb.out]
  obtain ⟨u, rfl, a, c, rfl, hn, hr, -, -⟩ := H
  have C0 : Below w.heap.size w ((w.alloc (.cells #[.int .i64 cap, .slice a n c] 29)).alloc (.cells #[.int .i64 0, .int .i64 0, .int .i64 0] 40)) := ((Below.refl _ _).alloc (Nat.le_refl _) _).alloc (by simp) _
  have k0 : ((w.alloc (.cells #[.int .i64 cap, .slice a n c] 29)).alloc (.cells #[.int .i64 0, .int .i64 0, .int .i64 0] 40)).heap[w.heap.size]? = some (.cells #[.int .i64 cap, .slice a n c] 29 (0, 0)) := boxA (box_new w _ _) _
  have k1 : ((w.alloc (.cells #[.int .i64 cap, .slice a n c] 29)).alloc (.cells #[.int .i64 0, .int .i64 0, .int .i64 0] 40)).heap[w.heap.size + 1]? = some (.cells #[.int .i64 0, .int .i64 0, .int .i64 0] 40 (0, 0)) := by simpa using box_new (w.alloc (.cells #[.int .i64 cap, .slice a n c] 29)) #[.int .i64 0, .int .i64 0, .int .i64 0] 40
  go_enter Try.func21, Try.ntmps21
  go_wp2_with fail
  generalize (w.alloc (.cells #[.int .i64 cap, .slice a n c] 29)).alloc (.cells #[.int .i64 0, .int .i64 0, .int .i64 0] 40) = W0 at *
  refine (HO.out _ C0).mono ?_
  rintro e W1 ⟨rfl, L⟩
  have C1 := below_snoc C0 L
  replace k0 := box_keep k0 L (boxLt k0)
  replace k1 := box_keep k1 L (boxLt k1)
  have c0 := boxC k0
  have c1 := boxC k1
  have f1 := boxF k1
  clear L C0 HO
  have fin : ∀ W5, Wrote (fun b _ => b = w.heap.size + 1) W1 W5 → Below w.heap.size w W5 := fun W5 h => C1.trans (h.below C1.size (fun b o hb (e : b = _) => by omega))
  cases ok
  · have hv : ∀ j, headV false n f j = 0 := fun j => if_neg (fun h => by cases h.1)
    have HF : Hid (x0 = 0 ∧ x1 = 0 ∧ x2 = 0 ∧ bb = false) := ⟨by rw [hx0.out, hv], by rw [hx1.out, hv], by rw [hx2.out, hv], by rw [hbb.out]; rfl⟩
    go_wp2
    refine bodyPost_ret (v := .tuple #[.agg #[.int .i64 0, .int .i64 0, .int .i64 0], .bool false]) (by simp [results, Try.results21, go_sem, c1]) rfl ?_
    refine ⟨by rw [HF.out.1, HF.out.2.1, HF.out.2.2.1, HF.out.2.2.2], fin _ ?_⟩
    repeat (first | with_reducible exact Wrote.refl _ _ | with_reducible refine Wrote.drew ?_ | with_reducible refine Wrote.setCell ?_ (fun _ => by omega) _)
  · by_cases h0 : n = 0
    · subst h0
      have hv : ∀ j, headV true 0 f j = 0 := fun j => if_neg (fun h => by omega)
      have HF : Hid (x0 = 0 ∧ x1 = 0 ∧ x2 = 0 ∧ bb = false) := ⟨by rw [hx0.out, hv], by rw [hx1.out, hv], by rw [hx2.out, hv], by rw [hbb.out]; rfl⟩
      go_wp2
      refine bodyPost_ret (v := .tuple #[.agg #[.int .i64 0, .int .i64 0, .int .i64 0], .bool false]) (by simp [results, Try.results21, go_sem, c1]) rfl ?_
      refine ⟨by rw [HF.out.1, HF.out.2.1, HF.out.2.2.1, HF.out.2.2.2], fin _ ?_⟩
      repeat (first | with_reducible exact Wrote.refl _ _ | with_reducible refine Wrote.drew ?_ | with_reducible refine Wrote.setCell ?_ (fun _ => by omega) _)
    · have hv : ∀ j, headV true n f j = f j := fun j => if_pos ⟨rfl, by omega⟩
      have HF : Hid (x0 = f 0 ∧ x1 = f 1 ∧ x2 = f 2 ∧ bb = true) := ⟨by rw [hx0.out, hv], by rw [hx1.out, hv], by rw [hx2.out, hv], by rw [hbb.out]; simp; omega⟩
      have hne : ((n : Int) == 0) = false := by simp; omega
      have hpos : (0 : Int) < (n : Int) := by omega
      obtain ⟨b, off, rfl, q0, q1, q2⟩ := hr.rec3 (show 0 < n by omega)
      have hb : b < w.heap.size := block_lt_of_cell q0
      have d0 : W1.cell? ⟨b, off, none⟩ = some (.int .i64 (f 0)) := (C1.cell (p := ⟨b, off + 0 * 3, none⟩) hb).trans q0
      have d1 : W1.cell? ⟨b, off + 1, none⟩ = some (.int .i64 (f 1)) := (C1.cell (p := ⟨b, off + 0 * 3 + 1, none⟩) hb).trans q1
      have d2 : W1.cell? ⟨b, off + 2, none⟩ = some (.int .i64 (f 2)) := (C1.cell (p := ⟨b, off + 0 * 3 + 2, none⟩) hb).trans q2
      clear q0 q1 q2 hr
      go_wp2
      refine bodyPost_ret (v := .tuple #[.agg #[.int .i64 (f 0), .int .i64 (f 1), .int .i64 (f 2)], .bool true]) (by simp [results, Try.results21, go_sem, c1]) rfl ?_
      refine ⟨by rw [HF.out.1, HF.out.2.1, HF.out.2.2.1, HF.out.2.2.2], fin _ ?_⟩
      repeat (first | with_reducible exact Wrote.refl _ _ | with_reducible refine Wrote.drew ?_ | with_reducible refine Wrote.setCell ?_ (fun _ => by omega) _)
end Go.Proofs.Ytpaedkefmebjjas
