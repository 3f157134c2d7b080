/-
  The program's picture unit (chapter 8), by its contracts: PpuNew, PpuWrite, PpuRead.
-/
import Derived.Test.YtpaedkefmebjjarGreatI8b
import Derived.Test.YtpaedkefmebjjarGreatI8e
import Derived.Test.YtpaedkefmebjjarGreatW8
namespace Go.Proofs.YtpaedkefmebjjarGreat
set_option linter.unusedVariables false
set_option linter.unusedSimpArgs false
open Go.ChangeShapes Go.WideShapes Go.ChangeAt Go.RowKit
set_option maxHeartbeats 2000000 in
theorem implPpuWrite (w : World) (F G : Nat → Nat → Prop) (t c s ad pl : Int) (bl : Bool) (u u' : Value) (n : Nat) (f : Nat → Int) (m : Nat) (g : Nat → Int) (reg v : Int) (H : Ints .i64 w F u n f) (K : Ints .i64 w G u' m g) :
    Calls Tryz.prog 97 #[.agg #[.int .i64 t, .int .i64 c, .int .i64 s, .int .i64 ad, .int .i64 pl, .bool bl, u, u'], .int .i64 reg, .int .i64 v] w fun e w' => ∃ v', e = .returned v' ∧ PpuOn w' (fun b => w.heap.size ≤ b) v' t (wrC (okPpu t c s ad pl n f m g) reg v c) (wrS (okPpu t c s ad pl n f m g) reg v s) (wrA (okPpu t c s ad pl n f m g) reg v ad) (wrP (okPpu t c s ad pl n f m g) reg v pl) bl n (wrT (okPpu t c s ad pl n f m g) reg v ad f) m g ∧ Below w.heap.size w w' := by
  obtain ⟨ua, ux, rfl, un, hr, hF⟩ := H
  obtain ⟨va, vx, rfl, vn, hr', hF'⟩ := K
  have H : Ints .i64 w F (.slice ua n ux) n f := ⟨_, _, rfl, un, hr, hF⟩
  have K : Ints .i64 w G (.slice va m vx) m g := ⟨_, _, rfl, vn, hr', hF'⟩
  clear hr hF hr' hF'
  have L0 : Below w.heap.size w ((w.alloc (.cells #[.int .i64 t, .int .i64 c, .int .i64 s, .int .i64 ad, .int .i64 pl, .bool bl, .slice ua n ux, .slice va m vx] 44)).alloc (.cells #[.int .i64 0, .int .i64 0, .int .i64 0, .int .i64 0, .int .i64 0, .bool false, .slice none 0 0, .slice none 0 0] 44)) := ((Below.refl _ _).alloc (Nat.le_refl _) _).alloc (by simp) _
  have k0 : ((w.alloc (.cells #[.int .i64 t, .int .i64 c, .int .i64 s, .int .i64 ad, .int .i64 pl, .bool bl, .slice ua n ux, .slice va m vx] 44)).alloc (.cells #[.int .i64 0, .int .i64 0, .int .i64 0, .int .i64 0, .int .i64 0, .bool false, .slice none 0 0, .slice none 0 0] 44)).heap[w.heap.size]? = some (.cells #[.int .i64 t, .int .i64 c, .int .i64 s, .int .i64 ad, .int .i64 pl, .bool bl, .slice ua n ux, .slice va m vx] 44 (0, 0)) := boxA (box_new w _ _) _
  have k1 : ((w.alloc (.cells #[.int .i64 t, .int .i64 c, .int .i64 s, .int .i64 ad, .int .i64 pl, .bool bl, .slice ua n ux, .slice va m vx] 44)).alloc (.cells #[.int .i64 0, .int .i64 0, .int .i64 0, .int .i64 0, .int .i64 0, .bool false, .slice none 0 0, .slice none 0 0] 44)).heap[w.heap.size + 1]? = some (.cells #[.int .i64 0, .int .i64 0, .int .i64 0, .int .i64 0, .int .i64 0, .bool false, .slice none 0 0, .slice none 0 0] 44 (0, 0)) := by simpa using box_new (w.alloc (.cells #[.int .i64 t, .int .i64 c, .int .i64 s, .int .i64 ad, .int .i64 pl, .bool bl, .slice ua n ux, .slice va m vx] 44)) #[.int .i64 0, .int .i64 0, .int .i64 0, .int .i64 0, .int .i64 0, .bool false, .slice none 0 0, .slice none 0 0] 44
  go_enter Tryz.func97, Tryz.ntmps97
  go_wp2_with fail
  generalize ((w.alloc (.cells #[.int .i64 t, .int .i64 c, .int .i64 s, .int .i64 ad, .int .i64 pl, .bool bl, .slice ua n ux, .slice va m vx] 44)).alloc (.cells #[.int .i64 0, .int .i64 0, .int .i64 0, .int .i64 0, .int .i64 0, .bool false, .slice none 0 0, .slice none 0 0] 44)) = W0 at *
  refine (copyPpu _ F G t c s ad pl bl _ _ n f m g (H.keep (wrote_below L0 Nowhere) (fun _ _ _ x => x)) (K.keep (wrote_below L0 Nowhere) (fun _ _ _ x => x))).mono ?_
  rintro e W1 ⟨v1, v2, o1, o2, rfl, R1, R2, h12, L1⟩
  have hz0 := boxLt k1
  have sz := L1.size
  have C1 := below_snoc L0 L1
  obtain ⟨pa, px, rfl⟩ := R1.form
  obtain ⟨qa, qx, rfl⟩ := R2.form
  have x0 := boxA (box_keep k0 L1 (boxLt k0)) (.cells #[.int .i64 t, .int .i64 c, .int .i64 s, .int .i64 ad, .int .i64 pl, .bool bl, .slice pa n px, .slice qa m qx] 44)
  have x1 := boxA (box_keep k1 L1 (boxLt k1)) (.cells #[.int .i64 t, .int .i64 c, .int .i64 s, .int .i64 ad, .int .i64 pl, .bool bl, .slice pa n px, .slice qa m qx] 44)
  have x2 := box_new W1 #[.int .i64 t, .int .i64 c, .int .i64 s, .int .i64 ad, .int .i64 pl, .bool bl, .slice pa n px, .slice qa m qx] 44
  have LA : Below W1.heap.size W1 (W1.alloc (.cells #[.int .i64 t, .int .i64 c, .int .i64 s, .int .i64 ad, .int .i64 pl, .bool bl, .slice pa n px, .slice qa m qx] 44)) := (Below.refl _ _).alloc (Nat.le_refl _) _
  have C2 := below_snoc C1 LA
  have HS1 := hide (R1.below LA)
  have HS2 := hide (R2.below LA)
  have HP : Hid ((∀ q, o1 = some q → W0.heap.size ≤ q ∧ q < W1.heap.size) ∧ (∀ q, o2 = some q → W0.heap.size ≤ q ∧ q < W1.heap.size)) := ⟨fun q e => by subst e; exact R1.lt, fun q e => by subst e; exact R2.lt⟩
  have c0 := boxC x0
  go_wp2_with fail
  clear c0 k0 k1 L0 L1 C1 R1 R2 LA
  obtain ⟨z, hz⟩ : ∃ z, Hid (z = W1.heap.size) := ⟨_, rfl⟩
  generalize W1.alloc (.cells #[.int .i64 t, .int .i64 c, .int .i64 s, .int .i64 ad, .int .i64 pl, .bool bl, .slice pa n px, .slice qa m qx] 44) = W2 at *
  rw [← hz.out] at x2 HP ⊢
  have hzw : w.heap.size + 1 < z := by rw [hz.out]; omega
  have z0w : w.heap.size + 1 < W0.heap.size := hz0
  clear hz sz hz0
  refine (implPpuOk _ F G t c s ad pl bl _ _ n f m g (H.keep (wrote_below C2 Nowhere) (fun _ _ _ x => x)) (K.keep (wrote_below C2 Nowhere) (fun _ _ _ x => x))).mono ?_
  rintro e W3 ⟨rfl, L⟩
  replace x0 := box_keep x0 L (boxLt x0)
  replace x1 := box_keep x1 L (boxLt x1)
  replace x2 := box_keep x2 L (boxLt x2)
  have S1 := HS1.out.below L
  have S2 := HS2.out.below L
  have C3 := below_snoc C2 L
  clear L C2 HS1 HS2 H K
  have c1 := boxC x1
  have c2 := boxC x2
  have f1 := boxF x1
  cases hok : okPpu t c s ad pl n f m g
  · have HE : Hid (wrC false reg v c = c ∧ wrS false reg v s = s ∧ wrA false reg v ad = ad ∧ wrP false reg v pl = pl ∧ wrT false reg v ad f = f) := ⟨if_neg (by simp), if_neg (by simp), (if_neg (by simp)).trans (if_neg (by simp)), if_neg (by simp), if_neg (by simp)⟩
    have KEY : Hid (∀ W5, Wrote (fun b _ => b = w.heap.size + 1) W3 W5 → PpuOn W5 (fun b => w.heap.size ≤ b) (.agg #[.int .i64 t, .int .i64 c, .int .i64 s, .int .i64 ad, .int .i64 pl, .bool bl, .slice pa n px, .slice qa m qx]) t c s ad pl bl n f m g ∧ Below w.heap.size w W5) := fun W5 WW => by
      have T1 := S1.keep WW (fun q e _ _ _ h => by have := HP.out.1 q e; omega)
      have T2 := S2.keep WW (fun q e _ _ _ h => by have := HP.out.2 q e; omega)
      exact ⟨(ppuOn_at T1 T2 h12).mono (fun b _ h => by have := at_lo T1 T2 b h; omega), C3.trans (WW.below C3.size (fun b o hb h => by omega))⟩
    have HO := hide hok
    clear hok S1 S2 C3 x0 x1 x2
    go_wp2
    refine bodyPost_ret (v := .agg #[.int .i64 t, .int .i64 c, .int .i64 s, .int .i64 ad, .int .i64 pl, .bool bl, .slice pa n px, .slice qa m qx]) (by simp [results, Tryz.results97, go_sem, c1]) rfl ?_
    rw [HO.out, HE.out.1, HE.out.2.1, HE.out.2.2.1, HE.out.2.2.2.1, HE.out.2.2.2.2]
    refine ⟨_, rfl, KEY.out _ ?_⟩
    iterate 8 (refine Wrote.setCell ?_ (fun _ => by omega) _)
    exact Wrote.refl _ _
  · have IP := okPpu_of hok
    have a0 := IP.a0
    have a1 := IP.a1
    have h16 := IP.n16
    obtain ⟨p, rfl⟩ : ∃ p, o1 = some p := by
      cases o1 with
      | none => obtain ⟨-, e⟩ := S1; omega
      | some p => exact ⟨p, rfl⟩
    obtain ⟨y, e, R⟩ := S1
    cases e
    have hp := HP.out.1 p rfl
    have HO := hide hok
    clear hok IP
    go_wp2_with fail
    refine (implByte _ _).mono ?_
    rintro e W' ⟨rfl, rfl⟩
    go_wp2_with fail
    refine (ppuWrite _ z p n px _ t c s ad pl bl (.slice qa m qx) f reg v x2 R (by omega) h16 a0 a1).mono ?_
    rintro e W4 ⟨rfl, y2, R4, WR⟩
    have y1 := box_wrote x1 WR (fun o h => by omega)
    have S4 := S2.keep WR (fun q e _ _ _ h => by have := HP.out.2 q e; rcases h with h | h; omega; subst h; exact h12 q rfl e)
    have C4 := C3.trans (WR.below C3.size (fun b o hb h => by omega))
    have d1 := boxC y1
    have d2 := boxC y2
    have g1 := boxF y1
    have HE : Hid (∀ W5, Wrote (fun b _ => b = w.heap.size + 1) W4 W5 → PpuOn W5 (fun b => w.heap.size ≤ b) (.agg #[.int .i64 t, .int .i64 (wrC true reg v c), .int .i64 (wrS true reg v s), .int .i64 (wrA true reg v ad), .int .i64 (wrP true reg v pl), .bool bl, .slice (some ⟨p, 0, none⟩) n px, .slice qa m qx]) t (wrC true reg v c) (wrS true reg v s) (wrA true reg v ad) (wrP true reg v pl) bl n (wrT true reg v ad f) m g ∧ Below w.heap.size w W5) := fun W5 WW => by
      have T1 : RowAt W5 W0.heap.size (some p) (.slice (some ⟨p, 0, none⟩) n px) n (wrT true reg v ad f) := ⟨_, rfl, R4.keep WW (fun _ h => by omega)⟩
      have T2 := S4.keep WW (fun q e _ _ _ h => by have := HP.out.2 q e; omega)
      exact ⟨(ppuOn_at T1 T2 h12).mono (fun b _ h => by have := at_lo T1 T2 b h; omega), C4.trans (WW.below C4.size (fun b o hb h => by omega))⟩
    clear c1 c2 f1 R R4 S2 S4 C3 C4 x0 x1 x2 y1 y2 WR
    clear h16
    go_wp2
    refine bodyPost_ret (v := .agg #[.int .i64 t, .int .i64 (wrC true reg v c), .int .i64 (wrS true reg v s), .int .i64 (wrA true reg v ad), .int .i64 (wrP true reg v pl), .bool bl, .slice (some ⟨p, 0, none⟩) n px, .slice qa m qx]) (by simp [results, Tryz.results97, go_sem, d1]) rfl ?_
    rw [HO.out]
    refine ⟨_, rfl, HE.out _ ?_⟩
    iterate 8 (refine Wrote.setCell ?_ (fun _ => by omega) _)
    exact Wrote.refl _ _
set_option maxHeartbeats 2000000 in
theorem implPpuRead (w : World) (F G : Nat → Nat → Prop) (t c s ad pl : Int) (bl : Bool) (u u' : Value) (n : Nat) (f : Nat → Int) (m : Nat) (g : Nat → Int) (reg : Int) (H : Ints .i64 w F u n f) (K : Ints .i64 w G u' m g) :
    Calls Tryz.prog 86 #[.agg #[.int .i64 t, .int .i64 c, .int .i64 s, .int .i64 ad, .int .i64 pl, .bool bl, u, u'], .int .i64 reg] w fun e w' => ∃ v', e = .returned (.tuple #[v', .int .i64 (rdV (okPpu t c s ad pl n f m g) reg bl ad f)]) ∧ PpuOn w' (fun b => w.heap.size ≤ b) v' t c s (rdA (okPpu t c s ad pl n f m g) reg ad) pl (rdB (okPpu t c s ad pl n f m g) reg bl) n f m g ∧ Below w.heap.size w w' := by
  obtain ⟨ua, ux, rfl, un, hr, hF⟩ := H
  obtain ⟨va, vx, rfl, vn, hr', hF'⟩ := K
  have H : Ints .i64 w F (.slice ua n ux) n f := ⟨_, _, rfl, un, hr, hF⟩
  have K : Ints .i64 w G (.slice va m vx) m g := ⟨_, _, rfl, vn, hr', hF'⟩
  clear hr hF hr' hF'
  have L0 : Below w.heap.size w ((w.alloc (.cells #[.int .i64 t, .int .i64 c, .int .i64 s, .int .i64 ad, .int .i64 pl, .bool bl, .slice ua n ux, .slice va m vx] 44)).alloc (.cells #[.int .i64 0, .int .i64 0, .int .i64 0, .int .i64 0, .int .i64 0, .bool false, .slice none 0 0, .slice none 0 0] 44)) := ((Below.refl _ _).alloc (Nat.le_refl _) _).alloc (by simp) _
  have k0 : ((w.alloc (.cells #[.int .i64 t, .int .i64 c, .int .i64 s, .int .i64 ad, .int .i64 pl, .bool bl, .slice ua n ux, .slice va m vx] 44)).alloc (.cells #[.int .i64 0, .int .i64 0, .int .i64 0, .int .i64 0, .int .i64 0, .bool false, .slice none 0 0, .slice none 0 0] 44)).heap[w.heap.size]? = some (.cells #[.int .i64 t, .int .i64 c, .int .i64 s, .int .i64 ad, .int .i64 pl, .bool bl, .slice ua n ux, .slice va m vx] 44 (0, 0)) := boxA (box_new w _ _) _
  have k1 : ((w.alloc (.cells #[.int .i64 t, .int .i64 c, .int .i64 s, .int .i64 ad, .int .i64 pl, .bool bl, .slice ua n ux, .slice va m vx] 44)).alloc (.cells #[.int .i64 0, .int .i64 0, .int .i64 0, .int .i64 0, .int .i64 0, .bool false, .slice none 0 0, .slice none 0 0] 44)).heap[w.heap.size + 1]? = some (.cells #[.int .i64 0, .int .i64 0, .int .i64 0, .int .i64 0, .int .i64 0, .bool false, .slice none 0 0, .slice none 0 0] 44 (0, 0)) := by simpa using box_new (w.alloc (.cells #[.int .i64 t, .int .i64 c, .int .i64 s, .int .i64 ad, .int .i64 pl, .bool bl, .slice ua n ux, .slice va m vx] 44)) #[.int .i64 0, .int .i64 0, .int .i64 0, .int .i64 0, .int .i64 0, .bool false, .slice none 0 0, .slice none 0 0] 44
  go_enter Tryz.func86, Tryz.ntmps86
  go_wp2_with fail
  generalize ((w.alloc (.cells #[.int .i64 t, .int .i64 c, .int .i64 s, .int .i64 ad, .int .i64 pl, .bool bl, .slice ua n ux, .slice va m vx] 44)).alloc (.cells #[.int .i64 0, .int .i64 0, .int .i64 0, .int .i64 0, .int .i64 0, .bool false, .slice none 0 0, .slice none 0 0] 44)) = W0 at *
  refine (copyPpu _ F G t c s ad pl bl _ _ n f m g (H.keep (wrote_below L0 Nowhere) (fun _ _ _ x => x)) (K.keep (wrote_below L0 Nowhere) (fun _ _ _ x => x))).mono ?_
  rintro e W1 ⟨v1, v2, o1, o2, rfl, R1, R2, h12, L1⟩
  have hz0 := boxLt k1
  have sz := L1.size
  have C1 := below_snoc L0 L1
  obtain ⟨pa, px, rfl⟩ := R1.form
  obtain ⟨qa, qx, rfl⟩ := R2.form
  have x0 := boxA (box_keep k0 L1 (boxLt k0)) (.cells #[.int .i64 t, .int .i64 c, .int .i64 s, .int .i64 ad, .int .i64 pl, .bool bl, .slice pa n px, .slice qa m qx] 44)
  have x1 := boxA (box_keep k1 L1 (boxLt k1)) (.cells #[.int .i64 t, .int .i64 c, .int .i64 s, .int .i64 ad, .int .i64 pl, .bool bl, .slice pa n px, .slice qa m qx] 44)
  have x2 := box_new W1 #[.int .i64 t, .int .i64 c, .int .i64 s, .int .i64 ad, .int .i64 pl, .bool bl, .slice pa n px, .slice qa m qx] 44
  have LA : Below W1.heap.size W1 (W1.alloc (.cells #[.int .i64 t, .int .i64 c, .int .i64 s, .int .i64 ad, .int .i64 pl, .bool bl, .slice pa n px, .slice qa m qx] 44)) := (Below.refl _ _).alloc (Nat.le_refl _) _
  have C2 := below_snoc C1 LA
  have HS1 := hide (R1.below LA)
  have HS2 := hide (R2.below LA)
  have HP : Hid ((∀ q, o1 = some q → W0.heap.size ≤ q ∧ q < W1.heap.size) ∧ (∀ q, o2 = some q → W0.heap.size ≤ q ∧ q < W1.heap.size)) := ⟨fun q e => by subst e; exact R1.lt, fun q e => by subst e; exact R2.lt⟩
  have c0 := boxC x0
  go_wp2_with fail
  clear c0 k0 k1 L0 L1 C1 R1 R2 LA
  obtain ⟨z, hz⟩ : ∃ z, Hid (z = W1.heap.size) := ⟨_, rfl⟩
  generalize W1.alloc (.cells #[.int .i64 t, .int .i64 c, .int .i64 s, .int .i64 ad, .int .i64 pl, .bool bl, .slice pa n px, .slice qa m qx] 44) = W2 at *
  rw [← hz.out] at x2 HP ⊢
  have hzw : w.heap.size + 1 < z := by rw [hz.out]; omega
  have z0w : w.heap.size + 1 < W0.heap.size := hz0
  clear hz sz hz0
  refine (implPpuOk _ F G t c s ad pl bl _ _ n f m g (H.keep (wrote_below C2 Nowhere) (fun _ _ _ x => x)) (K.keep (wrote_below C2 Nowhere) (fun _ _ _ x => x))).mono ?_
  rintro e W3 ⟨rfl, L⟩
  replace x0 := box_keep x0 L (boxLt x0)
  replace x1 := box_keep x1 L (boxLt x1)
  replace x2 := box_keep x2 L (boxLt x2)
  have S1 := HS1.out.below L
  have S2 := HS2.out.below L
  have C3 := below_snoc C2 L
  clear L C2 HS1 HS2 H K
  have c1 := boxC x1
  have c2 := boxC x2
  have f1 := boxF x1
  cases hok : okPpu t c s ad pl n f m g
  · have HE : Hid (rdA false reg ad = ad ∧ rdB false reg bl = bl ∧ rdV false reg bl ad f = 0) := ⟨if_neg (by simp), if_neg (by simp), (if_neg (by simp)).trans (if_neg (by simp))⟩
    have KEY : Hid (∀ W5, Wrote (fun b _ => b = w.heap.size + 1) W3 W5 → PpuOn W5 (fun b => w.heap.size ≤ b) (.agg #[.int .i64 t, .int .i64 c, .int .i64 s, .int .i64 ad, .int .i64 pl, .bool bl, .slice pa n px, .slice qa m qx]) t c s ad pl bl n f m g ∧ Below w.heap.size w W5) := fun W5 WW => by
      have T1 := S1.keep WW (fun q e _ _ _ h => by have := HP.out.1 q e; omega)
      have T2 := S2.keep WW (fun q e _ _ _ h => by have := HP.out.2 q e; omega)
      exact ⟨(ppuOn_at T1 T2 h12).mono (fun b _ h => by have := at_lo T1 T2 b h; omega), C3.trans (WW.below C3.size (fun b o hb h => by omega))⟩
    have HO := hide hok
    clear hok S1 S2 C3 x0 x1 x2
    go_wp2
    refine bodyPost_ret (v := .tuple #[.agg #[.int .i64 t, .int .i64 c, .int .i64 s, .int .i64 ad, .int .i64 pl, .bool bl, .slice pa n px, .slice qa m qx], .int .i64 0]) (by simp [results, Tryz.results86, go_sem, c1]) rfl ?_
    rw [HO.out, HE.out.1, HE.out.2.1, HE.out.2.2]
    refine ⟨_, rfl, KEY.out _ ?_⟩
    iterate 8 (refine Wrote.setCell ?_ (fun _ => by omega) _)
    exact Wrote.refl _ _
  · have IP := okPpu_of hok
    have a0 := IP.a0
    have a1 := IP.a1
    have h16 := IP.n16
    obtain ⟨p, rfl⟩ : ∃ p, o1 = some p := by
      cases o1 with
      | none => obtain ⟨-, e⟩ := S1; omega
      | some p => exact ⟨p, rfl⟩
    obtain ⟨y, e, R⟩ := S1
    cases e
    have hp := HP.out.1 p rfl
    have HO := hide hok
    clear hok IP
    go_wp2_with fail
    refine (ppuRead _ z p n px _ t c s ad pl bl (.slice qa m qx) f reg x2 R h16 a0 a1).mono ?_
    rintro e W4 ⟨rfl, y2, WR⟩
    have y1 := box_wrote x1 WR (fun o h => by omega)
    have R4 := R.keep WR (fun _ h => by omega)
    have S4 := S2.keep WR (fun q e _ _ _ h => by have := HP.out.2 q e; omega)
    have C4 := C3.trans (WR.below C3.size (fun b o hb h => by omega))
    have d1 := boxC y1
    have d2 := boxC y2
    have g1 := boxF y1
    have HE : Hid (∀ W5, Wrote (fun b _ => b = w.heap.size + 1) W4 W5 → PpuOn W5 (fun b => w.heap.size ≤ b) (.agg #[.int .i64 t, .int .i64 c, .int .i64 s, .int .i64 (rdA true reg ad), .int .i64 pl, .bool (rdB true reg bl), .slice (some ⟨p, 0, none⟩) n px, .slice qa m qx]) t c s (rdA true reg ad) pl (rdB true reg bl) n f m g ∧ Below w.heap.size w W5) := fun W5 WW => by
      have T1 : RowAt W5 W0.heap.size (some p) (.slice (some ⟨p, 0, none⟩) n px) n f := ⟨_, rfl, R4.keep WW (fun _ h => by omega)⟩
      have T2 := S4.keep WW (fun q e _ _ _ h => by have := HP.out.2 q e; omega)
      exact ⟨(ppuOn_at T1 T2 h12).mono (fun b _ h => by have := at_lo T1 T2 b h; omega), C4.trans (WW.below C4.size (fun b o hb h => by omega))⟩
    clear c1 c2 f1 R R4 S2 S4 C3 C4 x0 x1 x2 y1 y2 WR
    clear h16
    go_wp2
    refine bodyPost_ret (v := .tuple #[.agg #[.int .i64 t, .int .i64 c, .int .i64 s, .int .i64 (rdA true reg ad), .int .i64 pl, .bool (rdB true reg bl), .slice (some ⟨p, 0, none⟩) n px, .slice qa m qx], .int .i64 (rdV true reg bl ad f)]) (by simp [results, Tryz.results86, go_sem, d1]) rfl ?_
    rw [HO.out]
    refine ⟨_, rfl, HE.out _ ?_⟩
    iterate 8 (refine Wrote.setCell ?_ (fun _ => by omega) _)
    exact Wrote.refl _ _
end Go.Proofs.YtpaedkefmebjjarGreat
