/-
  Chapter 8 of the specification by its contracts: registers.
-/
import Derived.Test.YtpaedkefmebjjarGreatE8
namespace Go.Proofs.YtpaedkefmebjjarGreat
set_option linter.unusedVariables false
open Go.ChangeShapes Go.WideShapes Go.ChangeAt Go.RowKit
def wrC (ok : Bool) (reg v c : Int) : Int := if ok = true ∧ reg = 0 then v % 256 else c
def wrS (ok : Bool) (reg v s : Int) : Int := if ok = true ∧ reg = 1 then v % 256 else s
def wrA (ok : Bool) (reg v ad : Int) : Int := if ok = true ∧ reg = 3 then v % 256 % 16 else if ok = true ∧ reg = 4 then (ad + 1) % 16 else ad
def wrP (ok : Bool) (reg v pl : Int) : Int := if ok = true ∧ reg = 5 then v % 256 % 64 else pl
def wrT (ok : Bool) (reg v ad : Int) (f : Nat → Int) : Nat → Int := if ok = true ∧ reg = 4 then (fun i => if i = ad.toNat then v % 256 % 64 else f i) else f
set_option maxHeartbeats 2000000 in
theorem specPpuWrite (w : World) (F G : Nat → Nat → Prop) (t c s ad pl : Int) (bl : Bool) (u u' : Value) (n : Nat) (f : Nat → Int) (m : Nat) (g : Nat → Int) (reg v : Int) (H : Ints .i64 w F u n f) (K : Ints .i64 w G u' m g) :
    Calls Tryz.prog 93 #[.agg #[.int .i64 t, .int .i64 c, .int .i64 s, .int .i64 ad, .int .i64 pl, .bool bl, u, u'], .int .i64 reg, .int .i64 v] w fun e w' => ∃ p x q y, e = .returned (.agg #[.int .i64 t, .int .i64 (wrC (okPpu t c s ad pl n f m g) reg v c), .int .i64 (wrS (okPpu t c s ad pl n f m g) reg v s), .int .i64 (wrA (okPpu t c s ad pl n f m g) reg v ad), .int .i64 (wrP (okPpu t c s ad pl n f m g) reg v pl), .bool bl, .slice (some ⟨p, 0, none⟩) n x, .slice (some ⟨q, 0, none⟩) m y]) ∧ Row w' w.heap.size p n x (wrT (okPpu t c s ad pl n f m g) reg v ad f) ∧ Row w' w.heap.size q m y g ∧ p ≠ q ∧ Below w.heap.size w w' := by
  obtain ⟨ua, ux, rfl, un, hr, hF⟩ := H
  obtain ⟨va, vx, rfl, vn, hr', hF'⟩ := K
  have H : Ints .i64 w F (.slice ua n ux) n f := ⟨_, _, rfl, un, hr, hF⟩
  have K : Ints .i64 w G (.slice va m vx) m g := ⟨_, _, rfl, vn, hr', hF'⟩
  clear hr hF hr' hF'
  have L0 : Below w.heap.size w ((w.alloc (.cells #[.int .i64 t, .int .i64 c, .int .i64 s, .int .i64 ad, .int .i64 pl, .bool bl, .slice ua n ux, .slice va m vx] 44)).alloc (.cells #[.int .i64 0, .int .i64 0, .int .i64 0, .int .i64 0, .int .i64 0, .bool false, .slice none 0 0, .slice none 0 0] 44)) := ((Below.refl _ _).alloc (Nat.le_refl _) _).alloc (by simp) _
  have k0 : ((w.alloc (.cells #[.int .i64 t, .int .i64 c, .int .i64 s, .int .i64 ad, .int .i64 pl, .bool bl, .slice ua n ux, .slice va m vx] 44)).alloc (.cells #[.int .i64 0, .int .i64 0, .int .i64 0, .int .i64 0, .int .i64 0, .bool false, .slice none 0 0, .slice none 0 0] 44)).heap[w.heap.size]? = some (.cells #[.int .i64 t, .int .i64 c, .int .i64 s, .int .i64 ad, .int .i64 pl, .bool bl, .slice ua n ux, .slice va m vx] 44 (0, 0)) := boxA (box_new w _ _) _
  have k1 : ((w.alloc (.cells #[.int .i64 t, .int .i64 c, .int .i64 s, .int .i64 ad, .int .i64 pl, .bool bl, .slice ua n ux, .slice va m vx] 44)).alloc (.cells #[.int .i64 0, .int .i64 0, .int .i64 0, .int .i64 0, .int .i64 0, .bool false, .slice none 0 0, .slice none 0 0] 44)).heap[w.heap.size + 1]? = some (.cells #[.int .i64 0, .int .i64 0, .int .i64 0, .int .i64 0, .int .i64 0, .bool false, .slice none 0 0, .slice none 0 0] 44 (0, 0)) := by simpa using box_new (w.alloc (.cells #[.int .i64 t, .int .i64 c, .int .i64 s, .int .i64 ad, .int .i64 pl, .bool bl, .slice ua n ux, .slice va m vx] 44)) #[.int .i64 0, .int .i64 0, .int .i64 0, .int .i64 0, .int .i64 0, .bool false, .slice none 0 0, .slice none 0 0] 44
  go_enter Tryz.func93, Tryz.ntmps93
  go_wp2_with fail
  generalize ((w.alloc (.cells #[.int .i64 t, .int .i64 c, .int .i64 s, .int .i64 ad, .int .i64 pl, .bool bl, .slice ua n ux, .slice va m vx] 44)).alloc (.cells #[.int .i64 0, .int .i64 0, .int .i64 0, .int .i64 0, .int .i64 0, .bool false, .slice none 0 0, .slice none 0 0] 44)) = W0 at *
  refine (l8Copy _ F G t c s ad pl bl _ _ n f m g (H.keep (wrote_below L0 Nowhere) (fun _ _ _ x => x)) (K.keep (wrote_below L0 Nowhere) (fun _ _ _ x => x))).mono ?_
  rintro e W1 ⟨p, x, q, y, rfl, R1, R2, hpq, L1⟩
  have hp := R1.parts
  have hq := R2.parts
  have sz := L1.size
  have hz0 := boxLt k1
  have C1 := below_snoc L0 L1
  have x0 := boxA (box_keep k0 L1 (boxLt k0)) (.cells #[.int .i64 t, .int .i64 c, .int .i64 s, .int .i64 ad, .int .i64 pl, .bool bl, .slice (some ⟨p, 0, none⟩) n x, .slice (some ⟨q, 0, none⟩) m y] 44)
  have x1 := boxA (box_keep k1 L1 (boxLt k1)) (.cells #[.int .i64 t, .int .i64 c, .int .i64 s, .int .i64 ad, .int .i64 pl, .bool bl, .slice (some ⟨p, 0, none⟩) n x, .slice (some ⟨q, 0, none⟩) m y] 44)
  have x2 := box_new W1 #[.int .i64 t, .int .i64 c, .int .i64 s, .int .i64 ad, .int .i64 pl, .bool bl, .slice (some ⟨p, 0, none⟩) n x, .slice (some ⟨q, 0, none⟩) m y] 44
  have LA : Below W1.heap.size W1 (W1.alloc (.cells #[.int .i64 t, .int .i64 c, .int .i64 s, .int .i64 ad, .int .i64 pl, .bool bl, .slice (some ⟨p, 0, none⟩) n x, .slice (some ⟨q, 0, none⟩) m y] 44)) := (Below.refl _ _).alloc (Nat.le_refl _) _
  have C2 := below_snoc C1 LA
  have S1 := (R1.below LA).mono (lo' := w.heap.size) L0.size
  have S2 := (R2.below LA).mono (lo' := w.heap.size) L0.size
  have c0 := boxC x0
  go_wp2_with fail
  clear c0 k0 k1 L0 L1 C1 R1 R2 LA
  obtain ⟨z, hz⟩ : ∃ z, Hid (z = W1.heap.size) := ⟨_, rfl⟩
  generalize W1.alloc (.cells #[.int .i64 t, .int .i64 c, .int .i64 s, .int .i64 ad, .int .i64 pl, .bool bl, .slice (some ⟨p, 0, none⟩) n x, .slice (some ⟨q, 0, none⟩) m y] 44) = W2 at *
  rw [← hz.out] at x2 ⊢
  have hzp : p < z ∧ q < z ∧ w.heap.size + 1 < p ∧ w.heap.size + 1 < q := by rw [hz.out]; exact ⟨hp.2.1, hq.2.1, by omega, by omega⟩
  clear hz hp hq sz hz0
  refine (specPpuOk _ F G t c s ad pl bl _ _ n f m g (H.keep (wrote_below C2 Nowhere) (fun _ _ _ x => x)) (K.keep (wrote_below C2 Nowhere) (fun _ _ _ x => x))).mono ?_
  rintro e W3 ⟨rfl, L⟩
  replace x0 := box_keep x0 L (boxLt x0)
  replace x1 := box_keep x1 L (boxLt x1)
  replace x2 := box_keep x2 L (boxLt x2)
  replace S1 := S1.below L
  replace S2 := S2.below L
  have C3 := below_snoc C2 L
  clear L C2
  have c0 := boxC x0
  have c1 := boxC x1
  have c2 := boxC x2
  have f1 := boxF x1
  have f2 := boxF x2
  have key : ∀ W5, Wrote (fun b _ => b = w.heap.size + 1 ∨ b = z) W3 W5 → Row W5 w.heap.size p n x f ∧ Row W5 w.heap.size q m y g ∧ p ≠ q ∧ Below w.heap.size w W5 := fun W5 WW =>
    ⟨S1.keep WW (fun _ h => by omega), S2.keep WW (fun _ h => by omega), hpq, C3.trans (WW.below C3.size (fun b o hb h => by omega))⟩
  have KEY := hide key
  have HP : Hid (okPpu t c s ad pl n f m g = true → IsPpu t c s ad pl n f m g) := okPpu_of
  clear key x0 x1 x2
  cases hok : okPpu t c s ad pl n f m g
  · have HE : Hid (wrC false reg v c = c ∧ wrS false reg v s = s ∧ wrA false reg v ad = ad ∧ wrP false reg v pl = pl ∧ wrT false reg v ad f = f) := ⟨if_neg (by simp), if_neg (by simp), (if_neg (by simp)).trans (if_neg (by simp)), if_neg (by simp), if_neg (by simp)⟩
    have HO := hide hok
    clear hok
    go_wp2
    refine bodyPost_ret (v := .agg #[.int .i64 t, .int .i64 (c), .int .i64 (s), .int .i64 (ad), .int .i64 (pl), .bool bl, .slice (some ⟨p, 0, none⟩) n x, .slice (some ⟨q, 0, none⟩) m y]) (by simp [results, Tryz.results93, go_sem, c1]) rfl ?_
    rw [HO.out, HE.out.1, HE.out.2.1, HE.out.2.2.1, HE.out.2.2.2.1, HE.out.2.2.2.2]
    refine ⟨p, x, q, y, rfl, KEY.out _ ?_⟩
    iterate 8 (refine Wrote.setCell ?_ (fun _ => by omega) _)
    exact Wrote.refl _ _
  · have HO := hide hok
    have IP := HP.out hok
    clear hok HP
    have a0 := IP.a0
    have a1 := IP.a1
    have N16 := hide IP.n16
    clear IP
    go_wp2_with fail
    refine (specByte _ _).mono ?_
    rintro e W' ⟨rfl, rfl⟩
    obtain ⟨vb, hvb⟩ : ∃ vb, Hid (vb = v % 256) := ⟨_, rfl⟩
    have vb0 : 0 ≤ vb := by rw [hvb.out]; omega
    have vb1 : vb < 256 := by rw [hvb.out]; omega
    rw [← hvb.out]
    by_cases e0 : reg = 0
    · subst e0
      have HE : Hid (wrC true 0 v c = vb ∧ wrS true 0 v s = s ∧ wrA true 0 v ad = ad ∧ wrP true 0 v pl = pl ∧ wrT true 0 v ad f = f) := by rw [hvb.out]; exact ⟨rfl, rfl, rfl, rfl, rfl⟩
      go_wp2
      refine bodyPost_ret (v := .agg #[.int .i64 t, .int .i64 (vb), .int .i64 (s), .int .i64 (ad), .int .i64 (pl), .bool bl, .slice (some ⟨p, 0, none⟩) n x, .slice (some ⟨q, 0, none⟩) m y]) (by simp [results, Tryz.results93, go_sem, c1]) rfl ?_
      rw [HO.out, HE.out.1, HE.out.2.1, HE.out.2.2.1, HE.out.2.2.2.1, HE.out.2.2.2.2]
      refine ⟨p, x, q, y, rfl, KEY.out _ ?_⟩
      iterate 9 (refine Wrote.setCell ?_ (fun _ => by omega) _)
      exact Wrote.refl _ _
    by_cases e1 : reg = 1
    · subst e1
      have HE : Hid (wrC true 1 v c = c ∧ wrS true 1 v s = vb ∧ wrA true 1 v ad = ad ∧ wrP true 1 v pl = pl ∧ wrT true 1 v ad f = f) := by rw [hvb.out]; exact ⟨rfl, rfl, rfl, rfl, rfl⟩
      go_wp2
      refine bodyPost_ret (v := .agg #[.int .i64 t, .int .i64 (c), .int .i64 (vb), .int .i64 (ad), .int .i64 (pl), .bool bl, .slice (some ⟨p, 0, none⟩) n x, .slice (some ⟨q, 0, none⟩) m y]) (by simp [results, Tryz.results93, go_sem, c1]) rfl ?_
      rw [HO.out, HE.out.1, HE.out.2.1, HE.out.2.2.1, HE.out.2.2.2.1, HE.out.2.2.2.2]
      refine ⟨p, x, q, y, rfl, KEY.out _ ?_⟩
      iterate 9 (refine Wrote.setCell ?_ (fun _ => by omega) _)
      exact Wrote.refl _ _
    by_cases e3 : reg = 3
    · subst e3
      have HE : Hid (wrC true 3 v c = c ∧ wrS true 3 v s = s ∧ wrA true 3 v ad = vb % 16 ∧ wrP true 3 v pl = pl ∧ wrT true 3 v ad f = f) := by rw [hvb.out]; exact ⟨rfl, rfl, rfl, rfl, rfl⟩
      have t16 : vb.tmod 16 = vb % 16 := Int.tmod_eq_emod_of_nonneg vb0
      go_wp2
      refine bodyPost_ret (v := .agg #[.int .i64 t, .int .i64 (c), .int .i64 (s), .int .i64 (vb % 16), .int .i64 (pl), .bool bl, .slice (some ⟨p, 0, none⟩) n x, .slice (some ⟨q, 0, none⟩) m y]) (by simp [results, Tryz.results93, go_sem, c1]) rfl ?_
      rw [HO.out, HE.out.1, HE.out.2.1, HE.out.2.2.1, HE.out.2.2.2.1, HE.out.2.2.2.2]
      refine ⟨p, x, q, y, rfl, KEY.out _ ?_⟩
      iterate 9 (refine Wrote.setCell ?_ (fun _ => by omega) _)
      exact Wrote.refl _ _
    by_cases e5 : reg = 5
    · subst e5
      have HE : Hid (wrC true 5 v c = c ∧ wrS true 5 v s = s ∧ wrA true 5 v ad = ad ∧ wrP true 5 v pl = vb % 64 ∧ wrT true 5 v ad f = f) := by rw [hvb.out]; exact ⟨rfl, rfl, rfl, rfl, rfl⟩
      have t64 : vb.tmod 64 = vb % 64 := Int.tmod_eq_emod_of_nonneg vb0
      go_wp2
      refine bodyPost_ret (v := .agg #[.int .i64 t, .int .i64 (c), .int .i64 (s), .int .i64 (ad), .int .i64 (vb % 64), .bool bl, .slice (some ⟨p, 0, none⟩) n x, .slice (some ⟨q, 0, none⟩) m y]) (by simp [results, Tryz.results93, go_sem, c1]) rfl ?_
      rw [HO.out, HE.out.1, HE.out.2.1, HE.out.2.2.1, HE.out.2.2.2.1, HE.out.2.2.2.2]
      refine ⟨p, x, q, y, rfl, KEY.out _ ?_⟩
      iterate 9 (refine Wrote.setCell ?_ (fun _ => by omega) _)
      exact Wrote.refl _ _
    by_cases e4 : reg = 4
    · subst e4
      obtain ⟨k, rfl⟩ : ∃ k : Nat, ad = k := ⟨ad.toNat, by omega⟩
      have hk : k < n := by have := N16.out; omega
      have hki : (k : Int) < (n : Int) := by omega
      have HE : Hid (wrC true 4 v c = c ∧ wrS true 4 v s = s ∧ wrA true 4 v k = ((k : Int) + 1) % 16 ∧ wrP true 4 v pl = pl ∧ wrT true 4 v k f = fun i => if i = k then vb % 64 else f i) := by rw [hvb.out]; exact ⟨rfl, rfl, rfl, rfl, rfl⟩
      have t64 : vb.tmod 64 = vb % 64 := Int.tmod_eq_emod_of_nonneg vb0
      have t16 : ((k : Int) + 1).tmod 16 = ((k : Int) + 1) % 16 := Int.tmod_eq_emod_of_nonneg (by omega)
      obtain ⟨bb, oo, ee, hcell⟩ := S1.sl.row k hk
      simp only [Option.some.injEq, Addr.mk.injEq, and_true] at ee
      obtain ⟨rfl, rfl⟩ := ee
      rw [Nat.zero_add] at hcell
      have hfro : W'.frozen? ⟨p, k, none⟩ = false := S1.own.frozenAt k
      have key : ∀ W5, Wrote (fun b _ => b = w.heap.size + 1 ∨ b = z) (W'.setCell ⟨p, k, none⟩ (.int .i64 (vb % 64))) W5 → Row W5 w.heap.size p n x (fun i => if i = k then vb % 64 else f i) ∧ Row W5 w.heap.size q m y g ∧ p ≠ q ∧ Below w.heap.size w W5 := fun W5 WW =>
        have Cp := C3.setCell (p := ⟨p, k, none⟩) (by show w.heap.size ≤ p; omega) (.int .i64 (vb % 64))
        ⟨(S1.put k hk (vb % 64)).keep WW (fun _ h => by omega), (S2.keep (Wrote.setCell (R := fun b _ => b = p) (Wrote.refl _ W') (fun _ => rfl) _) (fun _ h => hpq h.symm)).keep WW (fun _ h => by omega), hpq, Cp.trans (WW.below Cp.size (fun b o hb h => by omega))⟩
      have KEY4 := hide key
      clear key
      have hzp1 : ¬ z = p := by omega
      have hzp2 : ¬ w.heap.size + 1 = p := by omega
      go_wp2
      refine bodyPost_ret (v := .agg #[.int .i64 t, .int .i64 (c), .int .i64 (s), .int .i64 (((k : Int) + 1) % 16), .int .i64 (pl), .bool bl, .slice (some ⟨p, 0, none⟩) n x, .slice (some ⟨q, 0, none⟩) m y]) (by simp [results, Tryz.results93, go_sem, c1]) rfl ?_
      rw [HO.out, HE.out.1, HE.out.2.1, HE.out.2.2.1, HE.out.2.2.2.1, HE.out.2.2.2.2]
      refine ⟨p, x, q, y, rfl, KEY4.out _ ?_⟩
      iterate 9 (refine Wrote.setCell ?_ (fun _ => by omega) _)
      exact Wrote.refl _ _
    · have HE : Hid (wrC true reg v c = c ∧ wrS true reg v s = s ∧ wrA true reg v ad = ad ∧ wrP true reg v pl = pl ∧ wrT true reg v ad f = f) := ⟨if_neg (by simp [e0]), if_neg (by simp [e1]), (if_neg (by simp [e3])).trans (if_neg (by simp [e4])), if_neg (by simp [e5]), if_neg (by simp [e4])⟩
      have e0' : (reg == 0) = false := by simpa using e0
      have e1' : (reg == 1) = false := by simpa using e1
      have e3' : (reg == 3) = false := by simpa using e3
      have e4' : (reg == 4) = false := by simpa using e4
      have e5' : (reg == 5) = false := by simpa using e5
      clear e0 e1 e3 e4 e5
      go_wp2
      refine bodyPost_ret (v := .agg #[.int .i64 t, .int .i64 (c), .int .i64 (s), .int .i64 (ad), .int .i64 (pl), .bool bl, .slice (some ⟨p, 0, none⟩) n x, .slice (some ⟨q, 0, none⟩) m y]) (by simp [results, Tryz.results93, go_sem, c1]) rfl ?_
      rw [HO.out, HE.out.1, HE.out.2.1, HE.out.2.2.1, HE.out.2.2.2.1, HE.out.2.2.2.2]
      refine ⟨p, x, q, y, rfl, KEY.out _ ?_⟩
      iterate 8 (refine Wrote.setCell ?_ (fun _ => by omega) _)
      exact Wrote.refl _ _
end Go.Proofs.YtpaedkefmebjjarGreat
