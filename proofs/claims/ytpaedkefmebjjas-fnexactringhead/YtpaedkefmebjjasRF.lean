/-
  Chapter 13 of the specification by its contracts: RingPut, RingTake.
-/
import Derived.Test.YtpaedkefmebjjasRE
import Derived.Deep.DeepCutAuto
namespace Go.Proofs.Ytpaedkefmebjjas
set_option linter.unusedVariables false
set_option linter.unusedSimpArgs false
open Go.ChangeShapes Go.WideShapes Go.ChangeAt Go.RowKit Go.Sort
theorem okRing_small {cap : Int} {n : Nat} {f : Nat → Int} (h : okRing cap n f = true) : n ≤ 16 := by
  unfold okRing at h
  simp only [Bool.and_eq_true, decide_eq_true_eq] at h
  have := ((inB_iff _ _ _).1 h.2.1).2
  omega
def putC (ok : Bool) (cap : Int) : Int := if ok then cap else 0
def putN (ok ok2 : Bool) (n : Nat) : Nat := if ok2 then n + 1 else if ok then n else 0
def putF (ok ok2 : Bool) (f : Nat → Int) (n : Nat) (t r x : Int) : Nat → Int := if ok2 then put3 f n t r x else if ok then f else fun _ => 0
theorem box_keepW {w w' : World} {b g : Nat} {o : Obj} (h : w.heap[b]? = some o) (hw : Wrote (fun b _ => b = g) w w') (hd : b ≠ g) : w'.heap[b]? = some o := boxWroteR h hw (fun _ e => hd e)
/-- A ring in new memory. -/
structure RgNw (w w' : World) (v : Value) (cap : Int) (n : Nat) (f : Nat → Int) : Prop where
  ex : RgOn w' (fun b => w.heap.size ≤ b ∧ b < w'.heap.size) v cap n f
set_option maxHeartbeats 4000000 in
theorem specRingPut (w : World) (D : Nat → Prop) (v : Value) (cap : Int) (n : Nat) (f : Nat → Int) (t r x : Int) (H : RgOn w D v cap n f) : Calls Try.prog 18 #[v, .agg #[.int .i64 t, .int .i64 r, .int .i64 x]] w fun e w' => ∃ v', e = .returned (.tuple #[v', .bool (okRing cap n f && okRing cap (n + 1) (put3 f n t r x))]) ∧ RgNw w w' v' (putC (okRing cap n f) cap) (putN (okRing cap n f) (okRing cap n f && okRing cap (n + 1) (put3 f n t r x)) n) (putF (okRing cap n f) (okRing cap n f && okRing cap (n + 1) (put3 f n t r x)) f n t r x) ∧ Below w.heap.size w w' := by
  have HO := hide (fun W (L : Below w.heap.size w W) => specRingOk W D v cap n f (H.keep (wrote_below L Nowhere) (fun _ _ _ _ x => x)))
  have HC := hide (fun W (L : Below w.heap.size w W) => l13Copy W D v cap n f (H.keep (wrote_below L Nowhere) (fun _ _ _ _ x => x)))
  have HP := hide (fun W D' v' h => specRingOk W D' v' cap (n + 1) (put3 f n t r x) h)
  have HS := hide (@okRing_small cap n f)
  obtain ⟨ok, hok⟩ : ∃ b, Hid (b = okRing cap n f) := ⟨_, rfl⟩
  obtain ⟨ok3, hok3⟩ : ∃ b, Hid (b = okRing cap (n + 1) (put3 f n t r x)) := ⟨_, rfl⟩
  rw [← hok.out] at HO HS ⊢
  rw [← hok3.out] at HP ⊢
  clear hok hok3
  obtain ⟨ok2, hok2⟩ : ∃ b, Hid (b = (ok && ok3)) := ⟨_, rfl⟩
  rw [← hok2.out]
  obtain ⟨cP, hcP⟩ : ∃ z, Hid (z = putC ok cap) := ⟨_, rfl⟩
  obtain ⟨nP, hnP⟩ : ∃ z, Hid (z = putN ok ok2 n) := ⟨_, rfl⟩
  obtain ⟨fP, hfP⟩ : ∃ z, Hid (z = putF ok ok2 f n t r x) := ⟨_, rfl⟩
  rw [← hcP.out, ← hnP.out, ← hfP.out]
  obtain ⟨a, c, rfl⟩ := H.two
  clear H
  have C0 : Below w.heap.size w (((w.alloc (.cells #[.int .i64 cap, .slice a n c] 29)).alloc (.cells #[.int .i64 t, .int .i64 r, .int .i64 x] 40)).alloc (.cells #[.int .i64 0, .slice none 0 0] 29)) := (((Below.refl _ _).alloc (Nat.le_refl _) _).alloc (by simp) _).alloc (by simp; omega) _
  have k0 : (((w.alloc (.cells #[.int .i64 cap, .slice a n c] 29)).alloc (.cells #[.int .i64 t, .int .i64 r, .int .i64 x] 40)).alloc (.cells #[.int .i64 0, .slice none 0 0] 29)).heap[w.heap.size]? = some (.cells #[.int .i64 cap, .slice a n c] 29 (0, 0)) := boxA (boxA (box_new w _ _) _) _
  have k1 : (((w.alloc (.cells #[.int .i64 cap, .slice a n c] 29)).alloc (.cells #[.int .i64 t, .int .i64 r, .int .i64 x] 40)).alloc (.cells #[.int .i64 0, .slice none 0 0] 29)).heap[w.heap.size + 1]? = some (.cells #[.int .i64 t, .int .i64 r, .int .i64 x] 40 (0, 0)) := boxA (by simpa using box_new (w.alloc (.cells #[.int .i64 cap, .slice a n c] 29)) #[.int .i64 t, .int .i64 r, .int .i64 x] 40) _
  have k2 : (((w.alloc (.cells #[.int .i64 cap, .slice a n c] 29)).alloc (.cells #[.int .i64 t, .int .i64 r, .int .i64 x] 40)).alloc (.cells #[.int .i64 0, .slice none 0 0] 29)).heap[w.heap.size + 1 + 1]? = some (.cells #[.int .i64 0, .slice none 0 0] 29 (0, 0)) := by simpa using box_new ((w.alloc (.cells #[.int .i64 cap, .slice a n c] 29)).alloc (.cells #[.int .i64 t, .int .i64 r, .int .i64 x] 40)) #[.int .i64 0, .slice none 0 0] 29
  go_enter Try.func18, Try.ntmps18
  go_wp2_with fail
  generalize ((w.alloc (.cells #[.int .i64 cap, .slice a n c] 29)).alloc (.cells #[.int .i64 t, .int .i64 r, .int .i64 x] 40)).alloc (.cells #[.int .i64 0, .slice none 0 0] 29) = W0 at *
  refine (HO.out _ C0).mono ?_
  rintro e W1 ⟨rfl, L⟩
  have C1 := below_snoc C0 L
  replace k0 := box_keep k0 L (boxLt k0)
  replace k1 := box_keep k1 L (boxLt k1)
  replace k2 := box_keep k2 L (boxLt k2)
  have hb2 := boxLt k2
  clear L C0 HO
  cases ok
  · have HF : Hid (ok2 = false ∧ cP = 0 ∧ nP = 0) := by
      have e2 : ok2 = false := hok2.out
      exact ⟨e2, hcP.out, by rw [hnP.out, e2]; rfl⟩
    have c2 := boxC k2
    have f2 := boxF k2
    have fin : ∀ W5, Wrote (fun b _ => b = w.heap.size + 1 + 1) W1 W5 → Below w.heap.size w W5 := fun W5 h => C1.trans (h.below C1.size (fun b o hb (e : b = _) => by omega))
    go_wp2
    refine bodyPost_ret (v := .tuple #[.agg #[.int .i64 0, .slice none 0 0], .bool false]) (by simp [results, Try.results18, go_sem, c2]) rfl ?_
    refine ⟨_, by rw [HF.out.1], ⟨by rw [HF.out.2.1, HF.out.2.2]; exact RgOn.none0 0 _⟩, fin _ ?_⟩
    repeat (first | with_reducible exact Wrote.refl _ _ | with_reducible refine Wrote.drew ?_ | with_reducible refine Wrote.setCell ?_ (fun _ => by omega) _)
  · have hn16 := HS.out rfl
    have c0 := boxC k0
    go_wp2_with fail
    clear c0
    refine (HC.out _ C1).mono ?_
    rintro e W2 ⟨g, c', rfl, R2, L⟩
    have C2 := below_snoc C1 L
    replace k0 := box_keep k0 L (boxLt k0)
    replace k1 := box_keep k1 L (boxLt k1)
    replace k2 := box_keep k2 L (boxLt k2)
    have l12 := L.size
    clear L C1
    have LA : Below W2.heap.size W2 (W2.alloc (.cells #[.int .i64 cap, .slice (some ⟨g, 0, none⟩) n c'] 29)) := (Below.refl _ _).alloc (Nat.le_refl _) _
    have x3 := box_new W2 #[.int .i64 cap, .slice (some ⟨g, 0, none⟩) n c'] 29
    have C3 := below_snoc C2 LA
    replace k0 := box_keep k0 LA (boxLt k0)
    replace k1 := box_keep k1 LA (boxLt k1)
    replace k2 := box_keep k2 LA (boxLt k2)
    have hg2 := R2.parts.2.1
    have hg1 := R2.parts.1
    have R3 := R2.below LA
    clear LA C2 R2
    go_upto_region 4 with (fail)
    obtain ⟨z, hz⟩ : ∃ z, Hid (z = W2.heap.size) := ⟨_, rfl⟩
    rw [← hz.out] at x3 hg2 ⊢
    have lz : W1.heap.size ≤ z := by rw [hz.out]; exact l12
    clear hz
    generalize W2.alloc (.cells #[.int .i64 cap, .slice (some ⟨g, 0, none⟩) n c'] 29) = W3 at *
    have LB : Below W3.heap.size W3 (W3.alloc (.cells #[.int .i64 t, .int .i64 r, .int .i64 x] 40)) := (Below.refl _ _).alloc (Nat.le_refl _) _
    have x4 := box_new W3 #[.int .i64 t, .int .i64 r, .int .i64 x] 40
    have R4 := hide (R3.below LB)
    have C4 := hide (below_snoc C3 LB)
    have K0 := hide (box_keep k0 LB (boxLt k0))
    have K2 := hide (box_keep k2 LB (boxLt k2))
    have X3 := hide (box_keep x3 LB (boxLt x3))
    have X4 := hide x4
    have hx3 := boxLt x3
    have b1 := boxC k1
    have b3 := boxC x3
    have b3' := boxC (box_keep x3 LB (boxLt x3))
    have f3' := boxF (box_keep x3 LB (boxLt x3))
    have lW1 := hg1
    clear R3 C3 LB x4 k0 k1 k2 x3
    go_wp2_with (at_builtin; refine wpList_pushRc _ rfl _ _ rfl W1.heap.size g n c' f rfl R4.out (by omega) (by simp; omega) W3.heap.size t r x rfl X4.out ?_)
    intro g5 c5 W5 R5 hW hat
    have hz5 : z ≠ g := by omega
    have K05 := box_keepW K0.out hW (by omega)
    have K25 := box_keepW K2.out hW (by omega)
    have X35 := box_keepW X3.out hW (by omega)
    have C5 : Below w.heap.size w W5 := C4.out.trans (hW.below C4.out.size (fun b o hb (e : b = _) => by omega))
    have hs5 := hW.size
    have hg5 : W1.heap.size ≤ g5 ∧ g5 ≠ z := by
      rcases hat with e | h
      · omega
      · have : W3.heap.size + 1 ≤ g5 := by simpa using h
        omega
    clear b3 b3' f3' b1 K0 K2 X3 X4 R4 C4 hW hat
    have b3 := boxC X35
    have f3 := boxF X35
    go_upto_region 5 with (fail)
    have TT := Wrote.setCell (b := z) (o := 1) (R := fun b _ => b = z) (Wrote.refl _ W5) (fun _ => rfl) (.slice (some ⟨g5, 0, none⟩) (n + 1) c5)
    have R6 := R5.keep TT (fun o (e : g5 = _) => hg5.2 e)
    have X6 := boxSetR (o := 1) X35 (.slice (some ⟨g5, 0, none⟩) (n + 1) c5)
    simp only [List.setIfInBounds_toArray, List.set_cons_succ, List.set_cons_zero] at X6
    have K06 := box_keepW K05 TT (by omega)
    have K26 := box_keepW K25 TT (by omega)
    have C6 := C5.trans (TT.below C5.size (fun b o hb (e : b = _) => by omega))
    have s6 := TT.size
    clear TT R5 X35 K05 K25 C5 b3 f3
    generalize W5.setCell ⟨z, 1, none⟩ (.slice (some ⟨g5, 0, none⟩) (n + 1) c5) = W6 at *
    have b6 := boxC X6
    go_wp2_with fail
    clear b6
    refine (HP.out _ (fun _ => True) _ ⟨_, rfl, R6.on trivial⟩).mono ?_
    rintro e W7 ⟨rfl, L⟩
    have C7 := below_snoc C6 L
    have K07 := box_keep K06 L (boxLt K06)
    have K27 := box_keep K26 L (boxLt K26)
    have X7 := box_keep X6 L (boxLt X6)
    have R7 := R6.below L
    have hb7 := boxLt K27
    have hk7 := R7.parts.2.1
    clear L C6 K06 K26 X6 R6 HP
    cases ok3
    · have HF : Hid (ok2 = false ∧ cP = cap ∧ nP = n ∧ fP = f) := by
        have e2 : ok2 = false := hok2.out
        exact ⟨e2, hcP.out, by rw [hnP.out, e2]; rfl, by rw [hfP.out, e2]; rfl⟩
      have b0 := boxC K07
      go_wp2_with fail
      clear b0
      refine (HC.out _ C7).mono ?_
      rintro e W8 ⟨g8, c8, rfl, R8, L⟩
      have C8 := below_snoc C7 L
      have K28 := box_keep K27 L (boxLt K27)
      have c2 := boxC K28
      have f2 := boxF K28
      have p8 := R8.parts
      have fin : ∀ W9, Wrote (fun b _ => b = w.heap.size + 1 + 1) W8 W9 → RgNw w W9 (.agg #[.int .i64 cap, .slice (some ⟨g8, 0, none⟩) n c8]) cap n f ∧ Below w.heap.size w W9 := fun W9 h => ⟨⟨⟨_, rfl, (R8.keep h (fun o (e : g8 = _) => by omega)).on ⟨by have := C7.size; omega, by have := h.size; omega⟩⟩⟩, C8.trans (h.below C8.size (fun b o hb (e : b = _) => by omega))⟩
      have HN := hide fin
      clear L C7 K27 R7 fin R8 C8 X7 K07
      go_wp2
      refine bodyPost_ret (v := .tuple #[.agg #[.int .i64 cap, .slice (some ⟨g8, 0, none⟩) n c8], .bool false]) (by simp [results, Try.results18, go_sem, c2]) rfl ?_
      have HW : ∀ W9, Wrote (fun b _ => b = w.heap.size + 1 + 1) W8 W9 → ∃ v', Ending.returned (.tuple #[.agg #[.int .i64 cap, .slice (some ⟨g8, 0, none⟩) n c8], .bool false]) = .returned (.tuple #[v', .bool ok2]) ∧ RgNw w W9 v' cP nP fP ∧ Below w.heap.size w W9 := fun W9 h => ⟨_, by rw [HF.out.1], by rw [HF.out.2.1, HF.out.2.2.1, HF.out.2.2.2]; exact (HN.out W9 h).1, (HN.out W9 h).2⟩
      refine HW _ ?_
      repeat (first | with_reducible exact Wrote.refl _ _ | with_reducible refine Wrote.drew ?_ | with_reducible refine Wrote.setCell ?_ (fun _ => by omega) _)
    · have HF : Hid (ok2 = true ∧ cP = cap ∧ nP = n + 1 ∧ fP = put3 f n t r x) := by
        have e2 : ok2 = true := hok2.out
        exact ⟨e2, hcP.out, by rw [hnP.out, e2]; rfl, by rw [hfP.out, e2]; rfl⟩
      have b6 := boxC X7
      have c2 := boxC K27
      have f2 := boxF K27
      have fin : ∀ W9, Wrote (fun b _ => b = w.heap.size + 1 + 1) W7 W9 → RgNw w W9 (.agg #[.int .i64 cap, .slice (some ⟨g5, 0, none⟩) (n + 1) c5]) cap (n + 1) (put3 f n t r x) ∧ Below w.heap.size w W9 := fun W9 h => ⟨⟨⟨_, rfl, (R7.keep h (fun o (e : g5 = _) => by omega)).on ⟨by omega, by have := h.size; omega⟩⟩⟩, C7.trans (h.below C7.size (fun b o hb (e : b = _) => by omega))⟩
      have HN := hide fin
      clear C7 K27 R7 fin X7 K07 HC
      go_wp2
      refine bodyPost_ret (v := .tuple #[.agg #[.int .i64 cap, .slice (some ⟨g5, 0, none⟩) (n + 1) c5], .bool true]) (by simp [results, Try.results18, go_sem, c2]) rfl ?_
      have HW : ∀ W9, Wrote (fun b _ => b = w.heap.size + 1 + 1) W7 W9 → ∃ v', Ending.returned (.tuple #[.agg #[.int .i64 cap, .slice (some ⟨g5, 0, none⟩) (n + 1) c5], .bool true]) = .returned (.tuple #[v', .bool ok2]) ∧ RgNw w W9 v' cP nP fP ∧ Below w.heap.size w W9 := fun W9 h => ⟨_, by rw [HF.out.1], by rw [HF.out.2.1, HF.out.2.2.1, HF.out.2.2.2]; exact (HN.out W9 h).1, (HN.out W9 h).2⟩
      refine HW _ ?_
      repeat (first | with_reducible exact Wrote.refl _ _ | with_reducible refine Wrote.drew ?_ | with_reducible refine Wrote.setCell ?_ (fun _ => by omega) _)
end Go.Proofs.Ytpaedkefmebjjas
