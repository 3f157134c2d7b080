/-
  Chapter 8 of the specification by its contracts: what is read, and a tick.
-/
import Derived.Test.YtpaedkefmebjjarGreatF8
namespace Go.Proofs.YtpaedkefmebjjarGreat
set_option linter.unusedVariables false
set_option linter.unusedSimpArgs false
open Go.ChangeShapes Go.WideShapes Go.ChangeAt Go.RowKit
theorem put8_ne' (w : World) (d : Nat) (v0 v1 v2 v3 v4 v5 v6 v7 : Value) {b o : Nat} (h : b ≠ d) : ((((((((w.setCell ⟨d, 0, none⟩ (v0)).setCell ⟨d, 1, none⟩ (v1)).setCell ⟨d, 2, none⟩ (v2)).setCell ⟨d, 3, none⟩ (v3)).setCell ⟨d, 4, none⟩ (v4)).setCell ⟨d, 5, none⟩ (v5)).setCell ⟨d, 6, none⟩ (v6)).setCell ⟨d, 7, none⟩ (v7)).cell? ⟨b, o, none⟩ = w.cell? ⟨b, o, none⟩ := by
  have e : ∀ (W : World) (k : Nat) (v : Value), (W.setCell ⟨d, k, none⟩ v).cell? ⟨b, o, none⟩ = W.cell? ⟨b, o, none⟩ := fun W k v => World.cell?_setCell_other _ _ _ _ (fun e => h (congrArg Addr.block e).symm)
  rw [e, e, e, e, e, e, e, e]
theorem put8_wrote (W : World) (d : Nat) (v0 v1 v2 v3 v4 v5 v6 v7 : Value) : Wrote (fun b _ => b = d) W ((((((((W.setCell ⟨d, 0, none⟩ v0).setCell ⟨d, 1, none⟩ v1).setCell ⟨d, 2, none⟩ v2).setCell ⟨d, 3, none⟩ v3).setCell ⟨d, 4, none⟩ v4).setCell ⟨d, 5, none⟩ v5).setCell ⟨d, 6, none⟩ v6).setCell ⟨d, 7, none⟩ v7) :=
  Wrote.setCell (Wrote.setCell (Wrote.setCell (Wrote.setCell (Wrote.setCell (Wrote.setCell (Wrote.setCell (Wrote.setCell (Wrote.refl (fun b _ => b = d) W) (fun _ => rfl) _) (fun _ => rfl) _) (fun _ => rfl) _) (fun _ => rfl) _) (fun _ => rfl) _) (fun _ => rfl) _) (fun _ => rfl) _) (fun _ => rfl) _
theorem put8_box {W : World} {d : Nat} {T : TypeId} {u0 u1 u2 u3 u4 u5 u6 u7 : Value} (h : W.heap[d]? = some (.cells #[u0, u1, u2, u3, u4, u5, u6, u7] T (0, 0))) (v0 v1 v2 v3 v4 v5 v6 v7 : Value) : ((((((((W.setCell ⟨d, 0, none⟩ v0).setCell ⟨d, 1, none⟩ v1).setCell ⟨d, 2, none⟩ v2).setCell ⟨d, 3, none⟩ v3).setCell ⟨d, 4, none⟩ v4).setCell ⟨d, 5, none⟩ v5).setCell ⟨d, 6, none⟩ v6).setCell ⟨d, 7, none⟩ v7).heap[d]? = some (.cells #[v0, v1, v2, v3, v4, v5, v6, v7] T (0, 0)) := by
  have h0 := box_set (o := 0) h v0
  simp only [List.setIfInBounds_toArray, List.set_cons_zero, List.set_cons_succ] at h0
  have h1 := box_set (o := 1) h0 v1
  simp only [List.setIfInBounds_toArray, List.set_cons_zero, List.set_cons_succ] at h1
  have h2 := box_set (o := 2) h1 v2
  simp only [List.setIfInBounds_toArray, List.set_cons_zero, List.set_cons_succ] at h2
  have h3 := box_set (o := 3) h2 v3
  simp only [List.setIfInBounds_toArray, List.set_cons_zero, List.set_cons_succ] at h3
  have h4 := box_set (o := 4) h3 v4
  simp only [List.setIfInBounds_toArray, List.set_cons_zero, List.set_cons_succ] at h4
  have h5 := box_set (o := 5) h4 v5
  simp only [List.setIfInBounds_toArray, List.set_cons_zero, List.set_cons_succ] at h5
  have h6 := box_set (o := 6) h5 v6
  simp only [List.setIfInBounds_toArray, List.set_cons_zero, List.set_cons_succ] at h6
  have h7 := box_set (o := 7) h6 v7
  simp only [List.setIfInBounds_toArray, List.set_cons_zero, List.set_cons_succ] at h7
  exact h7
def rdA (ok : Bool) (reg ad : Int) : Int := if ok = true ∧ reg = 4 then (ad + 1) % 16 else ad
def rdB (ok : Bool) (reg : Int) (bl : Bool) : Bool := if ok = true ∧ reg = 2 then false else bl
def rdV (ok : Bool) (reg : Int) (bl : Bool) (ad : Int) (f : Nat → Int) : Int := if ok = true ∧ reg = 2 then 128 * bitOf bl else if ok = true ∧ reg = 4 then f ad.toNat else 0
set_option maxHeartbeats 8000000 in
theorem specPpuRead (w : World) (F G : Nat → Nat → Prop) (t c s ad pl : Int) (bl : Bool) (u u' : Value) (n : Nat) (f : Nat → Int) (m : Nat) (g : Nat → Int) (reg : Int) (H : Ints .i64 w F u n f) (K : Ints .i64 w G u' m g) :
    Calls Tryz.prog 67 #[.agg #[.int .i64 t, .int .i64 c, .int .i64 s, .int .i64 ad, .int .i64 pl, .bool bl, u, u'], .int .i64 reg] w fun e w' => ∃ p x q y, e = .returned (.tuple #[.agg #[.int .i64 t, .int .i64 c, .int .i64 s, .int .i64 (rdA (okPpu t c s ad pl n f m g) reg ad), .int .i64 pl, .bool (rdB (okPpu t c s ad pl n f m g) reg bl), .slice (some ⟨p, 0, none⟩) n x, .slice (some ⟨q, 0, none⟩) m y], .int .i64 (rdV (okPpu t c s ad pl n f m g) reg bl ad f)]) ∧ Row w' w.heap.size p n x f ∧ Row w' w.heap.size q m y g ∧ p ≠ q ∧ Below w.heap.size w w' := by
  obtain ⟨ua, ux, rfl, un, hr, hF⟩ := H
  obtain ⟨va, vx, rfl, vn, hr', hF'⟩ := K
  have H : Ints .i64 w F (.slice ua n ux) n f := ⟨_, _, rfl, un, hr, hF⟩
  have K : Ints .i64 w G (.slice va m vx) m g := ⟨_, _, rfl, vn, hr', hF'⟩
  clear hr hF hr' hF'
  have L0 : Below w.heap.size w ((w.alloc (.cells #[.int .i64 t, .int .i64 c, .int .i64 s, .int .i64 ad, .int .i64 pl, .bool bl, .slice ua n ux, .slice va m vx] 44)).alloc (.cells #[.int .i64 0, .int .i64 0, .int .i64 0, .int .i64 0, .int .i64 0, .bool false, .slice none 0 0, .slice none 0 0] 44)) := ((Below.refl _ _).alloc (Nat.le_refl _) _).alloc (by simp) _
  have k0 : ((w.alloc (.cells #[.int .i64 t, .int .i64 c, .int .i64 s, .int .i64 ad, .int .i64 pl, .bool bl, .slice ua n ux, .slice va m vx] 44)).alloc (.cells #[.int .i64 0, .int .i64 0, .int .i64 0, .int .i64 0, .int .i64 0, .bool false, .slice none 0 0, .slice none 0 0] 44)).heap[w.heap.size]? = some (.cells #[.int .i64 t, .int .i64 c, .int .i64 s, .int .i64 ad, .int .i64 pl, .bool bl, .slice ua n ux, .slice va m vx] 44 (0, 0)) := boxA (box_new w _ _) _
  have k1 : ((w.alloc (.cells #[.int .i64 t, .int .i64 c, .int .i64 s, .int .i64 ad, .int .i64 pl, .bool bl, .slice ua n ux, .slice va m vx] 44)).alloc (.cells #[.int .i64 0, .int .i64 0, .int .i64 0, .int .i64 0, .int .i64 0, .bool false, .slice none 0 0, .slice none 0 0] 44)).heap[w.heap.size + 1]? = some (.cells #[.int .i64 0, .int .i64 0, .int .i64 0, .int .i64 0, .int .i64 0, .bool false, .slice none 0 0, .slice none 0 0] 44 (0, 0)) := by simpa using box_new (w.alloc (.cells #[.int .i64 t, .int .i64 c, .int .i64 s, .int .i64 ad, .int .i64 pl, .bool bl, .slice ua n ux, .slice va m vx] 44)) #[.int .i64 0, .int .i64 0, .int .i64 0, .int .i64 0, .int .i64 0, .bool false, .slice none 0 0, .slice none 0 0] 44
  go_enter Tryz.func67, Tryz.ntmps67
  go_wp2_with fail
  generalize ((w.alloc (.cells #[.int .i64 t, .int .i64 c, .int .i64 s, .int .i64 ad, .int .i64 pl, .bool bl, .slice ua n ux, .slice va m vx] 44)).alloc (.cells #[.int .i64 0, .int .i64 0, .int .i64 0, .int .i64 0, .int .i64 0, .bool false, .slice none 0 0, .slice none 0 0] 44)) = W0 at *
  refine (l8Copy _ F G t c s ad pl bl _ _ n f m g (H.keep (wrote_below L0 Nowhere) (fun _ _ _ x => x)) (K.keep (wrote_below L0 Nowhere) (fun _ _ _ x => x))).mono ?_
  rintro e W1 ⟨p, x, q, y, rfl, R1, R2, hpq, L1⟩
  have hp := R1.parts
  have hq := R2.parts
  have sz := L1.size
  have hz0 := boxLt k1
  have C1 := below_snoc L0 L1
  have x0 := boxA (box_keep k0 L1 (boxLt k0)) (.cells #[.int .i64 t, .int .i64 c, .int .i64 s, .int .i64 ad, .int .i64 pl, .bool bl, .slice (some ⟨p, 0, none⟩) n x, .slice (some ⟨q, 0, none⟩) m y] 44)
  have x1 := boxA (box_keep k1 L1 (boxLt k1)) (.cells #[.int .i64 t, .int .i64 c, .int .i64 s, .int .i64 ad, .int .i64 pl, .bool bl, .slice (some ⟨p, 0, none⟩) n x, .slice (some ⟨q, 0, none⟩) m y] 44)
  have x2 := box_new W1 #[.int .i64 t, .int .i64 c, .int .i64 s, .int .i64 ad, .int .i64 pl, .bool bl, .slice (some ⟨p, 0, none⟩) n x, .slice (some ⟨q, 0, none⟩) m y] 44
  have LA : Below W1.heap.size W1 (W1.alloc (.cells #[.int .i64 t, .int .i64 c, .int .i64 s, .int .i64 ad, .int .i64 pl, .bool bl, .slice (some ⟨p, 0, none⟩) n x, .slice (some ⟨q, 0, none⟩) m y] 44)) := (Below.refl _ _).alloc (Nat.le_refl _) _
  have C2 := below_snoc C1 LA
  have S1 := (R1.below LA).mono (lo' := w.heap.size) L0.size
  have S2 := (R2.below LA).mono (lo' := w.heap.size) L0.size
  have c0 := boxC x0
  go_wp2_with fail
  clear c0 k0 k1 L0 L1 C1 R1 R2 LA
  obtain ⟨z, hz⟩ : ∃ z, Hid (z = W1.heap.size) := ⟨_, rfl⟩
  generalize W1.alloc (.cells #[.int .i64 t, .int .i64 c, .int .i64 s, .int .i64 ad, .int .i64 pl, .bool bl, .slice (some ⟨p, 0, none⟩) n x, .slice (some ⟨q, 0, none⟩) m y] 44) = W2 at *
  rw [← hz.out] at x2 ⊢
  have hzp : p < z ∧ q < z ∧ w.heap.size + 1 < p ∧ w.heap.size + 1 < q := by rw [hz.out]; exact ⟨hp.2.1, hq.2.1, by omega, by omega⟩
  clear hz hp hq sz hz0
  refine (specPpuOk _ F G t c s ad pl bl _ _ n f m g (H.keep (wrote_below C2 Nowhere) (fun _ _ _ x => x)) (K.keep (wrote_below C2 Nowhere) (fun _ _ _ x => x))).mono ?_
  rintro e W3 ⟨rfl, L⟩
  replace x0 := box_keep x0 L (boxLt x0)
  replace x1 := box_keep x1 L (boxLt x1)
  replace x2 := box_keep x2 L (boxLt x2)
  replace S1 := S1.below L
  replace S2 := S2.below L
  have C3 := below_snoc C2 L
  clear L C2
  have c0 := boxC x0
  have c1 := boxC x1
  have c2 := boxC x2
  have f1 := boxF x1
  have f2 := boxF x2
  have key : ∀ W5, Wrote (fun b _ => b = w.heap.size + 1 ∨ b = z) W3 W5 → Row W5 w.heap.size p n x f ∧ Row W5 w.heap.size q m y g ∧ p ≠ q ∧ Below w.heap.size w W5 := fun W5 WW =>
    ⟨S1.keep WW (fun _ h => by omega), S2.keep WW (fun _ h => by omega), hpq, C3.trans (WW.below C3.size (fun b o hb h => by omega))⟩
  have KEY := hide key
  have HX := hide (And.intro x0 (And.intro x1 x2))
  have HP : Hid (okPpu t c s ad pl n f m g = true → IsPpu t c s ad pl n f m g) := okPpu_of
  clear key x0 x1 x2
  cases hok : okPpu t c s ad pl n f m g
  · have HE : Hid (rdA false reg ad = ad ∧ rdB false reg bl = bl ∧ rdV false reg bl ad f = 0) := ⟨if_neg (by simp), if_neg (by simp), (if_neg (by simp)).trans (if_neg (by simp))⟩
    have HO := hide hok
    clear hok
    go_wp2
    refine bodyPost_ret (v := .tuple #[.agg #[.int .i64 t, .int .i64 c, .int .i64 s, .int .i64 (ad), .int .i64 pl, .bool bl, .slice (some ⟨p, 0, none⟩) n x, .slice (some ⟨q, 0, none⟩) m y], .int .i64 (0)]) (by simp [results, Tryz.results67, go_sem, c1]) rfl ?_
    rw [HO.out, HE.out.1, HE.out.2.1, HE.out.2.2]
    refine ⟨p, x, q, y, rfl, KEY.out _ ?_⟩
    iterate 8 (refine Wrote.setCell ?_ (fun _ => by omega) _)
    exact Wrote.refl _ _
  · have HO := hide hok
    have IP := HP.out hok
    clear hok HP
    have a0 := IP.a0
    have a1 := IP.a1
    have N16 := hide IP.n16
    clear IP
    by_cases e2 : reg = 2
    · subst e2
      have HE : Hid (rdA true 2 ad = ad ∧ rdB true 2 bl = false ∧ rdV true 2 bl ad f = 128 * bitOf bl) := ⟨rfl, rfl, rfl⟩
      have hb : 0 ≤ bitOf bl ∧ bitOf bl ≤ 1 := by cases bl <;> decide
      have wb : IntKind.i64.wrap (128 * bitOf bl) = 128 * bitOf bl := by rw [IntKind.wrap_i64]; omega
      go_upto_region 7 with (fail)
      go_region_with (go_at_call 105; refine (l1Bit _ _).mono ?_; rintro e W' ⟨rfl, rfl⟩)
      all_goals
        go_wp2
        refine bodyPost_ret (v := .tuple #[.agg #[.int .i64 t, .int .i64 c, .int .i64 s, .int .i64 (ad), .int .i64 pl, .bool false, .slice (some ⟨p, 0, none⟩) n x, .slice (some ⟨q, 0, none⟩) m y], .int .i64 (128 * bitOf bl)]) (by simp [results, Tryz.results67, go_sem, c1]) rfl ?_
        rw [HO.out, HE.out.1, HE.out.2.1, HE.out.2.2]
        refine ⟨p, x, q, y, rfl, KEY.out _ ?_⟩
        repeat (first | with_reducible exact Wrote.refl _ _ | with_reducible refine Wrote.drew ?_ | with_reducible refine Wrote.setCell ?_ (fun _ => by omega) _)
    · by_cases e4 : reg = 4
      · subst e4
        obtain ⟨k, rfl⟩ : ∃ k : Nat, ad = k := ⟨ad.toNat, by omega⟩
        have hk : k < n := by have := N16.out; omega
        have hki : (k : Int) < (n : Int) := by omega
        have HE : Hid (rdA true 4 (k : Int) = ((k : Int) + 1) % 16 ∧ rdB true 4 bl = bl ∧ rdV true 4 bl (k : Int) f = f k) := ⟨rfl, rfl, rfl⟩
        have t16 : ((k : Int) + 1).tmod 16 = ((k : Int) + 1) % 16 := Int.tmod_eq_emod_of_nonneg (by omega)
        obtain ⟨hb, ho, hu, -, hr, -⟩ := H.keep (wrote_below C3 Nowhere) (fun _ _ _ x => x)
        simp only [Value.slice.injEq, true_and] at hu
        obtain ⟨rfl, rfl⟩ := hu
        obtain ⟨b, off, rfl, hcell⟩ := hr k hk
        clear hr
        have wk : IntKind.i64.wrap (k : Int) = k := by rw [IntKind.wrap_i64]; omega
        have wk1 : IntKind.i64.wrap ((k : Int) + 1) = (k : Int) + 1 := by rw [IntKind.wrap_i64]; omega
        have LB := C3.size
        have hbw : b < w.heap.size := by obtain ⟨a', c', e', -, hr', -⟩ := id H; simp only [Value.slice.injEq, true_and] at e'; obtain ⟨rfl, rfl⟩ := e'; exact hr'.lt (foot_at hk)
        have hbz : b ≠ z := by omega
        have hbr : b ≠ w.heap.size + 1 := by omega
        go_upto_region 10 with (fail)
        rename_i K1 g1 K2 g2
        clear c0 c1 c2 f1 f2
        have y0 : (W3.setCell ⟨z, 3, none⟩ (.int .i64 (((k : Int) + 1) % 16))).heap[w.heap.size]? = some (.cells #[.int .i64 t, .int .i64 c, .int .i64 s, .int .i64 (k : Int), .int .i64 pl, .bool bl, .slice (some ⟨b, off, none⟩) n ux, .slice va m vx] 44 (0, 0)) := box_set_ne8 HX.out.1 (by omega)
        have y1 : (W3.setCell ⟨z, 3, none⟩ (.int .i64 (((k : Int) + 1) % 16))).heap[w.heap.size + 1]? = some (.cells #[.int .i64 0, .int .i64 0, .int .i64 0, .int .i64 0, .int .i64 0, .bool false, .slice none 0 0, .slice none 0 0] 44 (0, 0)) := box_set_ne8 HX.out.2.1 (by omega)
        have y2 : (W3.setCell ⟨z, 3, none⟩ (.int .i64 (((k : Int) + 1) % 16))).heap[z]? = some (.cells #[.int .i64 t, .int .i64 c, .int .i64 s, .int .i64 (((k : Int) + 1) % 16), .int .i64 pl, .bool bl, .slice (some ⟨p, 0, none⟩) n x, .slice (some ⟨q, 0, none⟩) m y] 44 (0, 0)) := box_set HX.out.2.2 _
        have y3 : (W3.setCell ⟨z, 3, none⟩ (.int .i64 (((k : Int) + 1) % 16))).cell? ⟨b, off + k, none⟩ = some (.int .i64 (f k)) := (World.cell?_setCell_other _ _ _ _ (fun e => hbz (congrArg Addr.block e).symm)).trans hcell
        have KE4 : Hid (∀ W5, Wrote (fun b _ => b = w.heap.size + 1 ∨ b = z) (W3.setCell ⟨z, 3, none⟩ (.int .i64 (((k : Int) + 1) % 16))) W5 → Row W5 w.heap.size p n x f ∧ Row W5 w.heap.size q m y g ∧ p ≠ q ∧ Below w.heap.size w W5) := fun W5 WW => KEY.out W5 ((Wrote.setCell (R := fun b _ => b = w.heap.size + 1 ∨ b = z) (Wrote.refl _ W3) (fun _ => Or.inr rfl) _).trans WW)
        clear hcell
        generalize (W3.setCell ⟨z, 3, none⟩ (.int .i64 (((k : Int) + 1) % 16))) = W4 at *
        refine wp_region_eff [some 29, some 30, some 31, some 32, some 33, some 34, some 35, none, some 5] (by kernel_rfl) (by kernel_rfl) (by kernel_rfl) (by kernel_rfl) (by simp [slotsOf])
          (fun j b _ => j = 7 ∧ b = w.heap.size + 1)
          (fun i v W => match i with
            | 0 => v = .agg #[.int .i64 t, .int .i64 c, .int .i64 s, .int .i64 (((k : Int) + 1) % 16), .int .i64 pl, .bool bl, .slice (some ⟨p, 0, none⟩) n x, .slice (some ⟨q, 0, none⟩) m y]
            | 1 => v = .pointer (some ⟨w.heap.size, 6, none⟩)
            | 2 => v = .slice (some ⟨b, off, none⟩) n ux
            | 3 => v = .pointer (some ⟨w.heap.size, 3, none⟩)
            | 4 => v = .int .i64 (k : Int)
            | 5 => v = .pointer (some ⟨b, off + k, none⟩)
            | 6 => v = .int .i64 (f k)
            | 7 => W.heap[w.heap.size + 1]? = some (.cells #[.int .i64 t, .int .i64 c, .int .i64 s, .int .i64 (((k : Int) + 1) % 16), .int .i64 pl, .bool bl, .slice (some ⟨p, 0, none⟩) n x, .slice (some ⟨q, 0, none⟩) m y] 44 (0, 0))
            | _ => v = .int .i64 (f k)) ?_ ?_ ?_
        · intro i j o v W W' hij _ _ hW h
          match i, hij, h with
          | 7, hij, h => exact box_wrote h hW (fun o e => hij e.1.symm)
          | 0, _, h => exact h
          | 1, _, h => exact h
          | 2, _, h => exact h
          | 3, _, h => exact h
          | 4, _, h => exact h
          | 5, _, h => exact h
          | 6, _, h => exact h
          | _ + 8, _, h => exact h
        · intro i o a' W K ho F L hw hK
          have r0 := boxC (box_wrote y0 L (fun o ⟨j, _, _, _, _, _, e⟩ => by omega))
          have r2 := boxC (box_wrote y2 L (fun o ⟨j, _, _, _, _, _, e⟩ => by omega))
          have r3 : W.cell? ⟨b, off + k, none⟩ = some (.int .i64 (f k)) := (L.cell b (off + k) (block_lt_of_cell y3) (fun ⟨j, _, _, _, _, _, e⟩ => hbr e)).trans y3
          have t2 := F.get (t := 2) (v := .pointer (some ⟨w.heap.size, 0, none⟩)) (by decide) rfl
          have t4 := F.get (t := 4) (v := .pointer (some ⟨w.heap.size + 1, 0, none⟩)) (by decide) rfl
          have t6 := F.get (t := 6) (v := .pointer (some ⟨z, 0, none⟩)) (by decide) rfl
          match i with
          | 0 =>
            simp only [List.getElem?_toArray, List.getElem?_cons_zero, List.getElem?_cons_succ, Option.some.injEq] at ho
            subst ho
            go_simp
            exact hK _ _ (Wrote.refl _ _) rfl
          | 1 =>
            simp only [List.getElem?_toArray, List.getElem?_cons_zero, List.getElem?_cons_succ, Option.some.injEq] at ho
            subst ho
            go_simp
            exact hK _ _ (Wrote.refl _ _) rfl
          | 2 =>
            simp only [List.getElem?_toArray, List.getElem?_cons_zero, List.getElem?_cons_succ, Option.some.injEq] at ho
            subst ho
            have q1 : a'.tmps[30]?.getD undef = .pointer (some ⟨w.heap.size, 6, none⟩) := hw 1 (by kernel_rfl)
            go_simp
            exact hK _ _ (Wrote.refl _ _) rfl
          | 3 =>
            simp only [List.getElem?_toArray, List.getElem?_cons_zero, List.getElem?_cons_succ, Option.some.injEq] at ho
            subst ho
            go_simp
            exact hK _ _ (Wrote.refl _ _) rfl
          | 4 =>
            simp only [List.getElem?_toArray, List.getElem?_cons_zero, List.getElem?_cons_succ, Option.some.injEq] at ho
            subst ho
            have q1 : a'.tmps[32]?.getD undef = .pointer (some ⟨w.heap.size, 3, none⟩) := hw 3 (by kernel_rfl)
            go_simp
            exact hK _ _ (Wrote.refl _ _) rfl
          | 5 =>
            simp only [List.getElem?_toArray, List.getElem?_cons_zero, List.getElem?_cons_succ, Option.some.injEq] at ho
            subst ho
            have q1 : a'.tmps[31]?.getD undef = .slice (some ⟨b, off, none⟩) n ux := hw 2 (by kernel_rfl)
            have q2 : a'.tmps[33]?.getD undef = .int .i64 (k : Int) := hw 4 (by kernel_rfl)
            go_simp
            exact hK _ _ (Wrote.refl _ _) rfl
          | 6 =>
            simp only [List.getElem?_toArray, List.getElem?_cons_zero, List.getElem?_cons_succ, Option.some.injEq] at ho
            subst ho
            have q1 : a'.tmps[34]?.getD undef = .pointer (some ⟨b, off + k, none⟩) := hw 5 (by kernel_rfl)
            go_simp
            exact hK _ _ (Wrote.refl _ _) rfl
          | 7 =>
            simp only [List.getElem?_toArray, List.getElem?_cons_zero, List.getElem?_cons_succ, Option.some.injEq] at ho
            subst ho
            have q1 : a'.tmps[29]?.getD undef = .agg #[.int .i64 t, .int .i64 c, .int .i64 s, .int .i64 (((k : Int) + 1) % 16), .int .i64 pl, .bool bl, .slice (some ⟨p, 0, none⟩) n x, .slice (some ⟨q, 0, none⟩) m y] := hw 0 (by kernel_rfl)
            have r1 := box_wrote y1 L (fun o ⟨j, _, h1, _, _, h2, e⟩ => h1 h2)
            have rc := boxC r1
            have rf := boxF r1
            go_simp
            exact hK undef _ ((put8_wrote _ _ _ _ _ _ _ _ _ _).mono (fun b o _ e => ⟨rfl, e⟩)) (put8_box r1 _ _ _ _ _ _ _ _)
          | 8 =>
            simp only [List.getElem?_toArray, List.getElem?_cons_zero, List.getElem?_cons_succ, Option.some.injEq] at ho
            subst ho
            have q1 : a'.tmps[35]?.getD undef = .int .i64 (f k) := hw 6 (by kernel_rfl)
            go_simp
            exact hK _ _ (Wrote.refl _ _) rfl
          | _ + 9 => simp at ho
        · intro a' W F L hφ
          have e5 : a'.tmps[5]?.getD undef = .int .i64 (f k) := hφ 8 (by decide)
          have eb := boxC (show W.heap[w.heap.size + 1]? = some (.cells #[.int .i64 t, .int .i64 c, .int .i64 s, .int .i64 (((k : Int) + 1) % 16), .int .i64 pl, .bool bl, .slice (some ⟨p, 0, none⟩) n x, .slice (some ⟨q, 0, none⟩) m y] 44 (0, 0)) from hφ 7 (by decide))
          have LW := KE4.out W (L.mono (fun b o _ ⟨j, _, e⟩ => Or.inl e))
          clear hφ L
          refine g2 _ _ ?_
          rw [F.same, show slotsOf [some 29, some 30, some 31, some 32, some 33, some 34, some 35, none, some 5] = [29, 30, 31, 32, 33, 34, 35, 5] from rfl]
          simp only [List.foldl_cons, List.foldl_nil]
          rw [e5]
          generalize a'.tmps[29]?.getD undef = s29
          generalize a'.tmps[30]?.getD undef = s30
          generalize a'.tmps[31]?.getD undef = s31
          generalize a'.tmps[32]?.getD undef = s32
          generalize a'.tmps[33]?.getD undef = s33
          generalize a'.tmps[34]?.getD undef = s34
          generalize a'.tmps[35]?.getD undef = s35
          go_simp
          go_wp2
          refine bodyPost_ret (v := .tuple #[.agg #[.int .i64 t, .int .i64 c, .int .i64 s, .int .i64 (((k : Int) + 1) % 16), .int .i64 pl, .bool bl, .slice (some ⟨p, 0, none⟩) n x, .slice (some ⟨q, 0, none⟩) m y], .int .i64 (f k)]) (by simp [results, Tryz.results67, go_sem, eb]) rfl ?_
          rw [HO.out, HE.out.1, HE.out.2.1, HE.out.2.2]
          exact ⟨p, x, q, y, rfl, LW⟩
      · have HE : Hid (rdA true reg ad = ad ∧ rdB true reg bl = bl ∧ rdV true reg bl ad f = 0) := ⟨if_neg (by simp [e4]), if_neg (by simp [e2]), (if_neg (by simp [e2])).trans (if_neg (by simp [e4]))⟩
        have e2' : (reg == 2) = false := by simpa using e2
        have e4' : (reg == 4) = false := by simpa using e4
        clear e2 e4
        go_wp2
        all_goals
          refine bodyPost_ret (v := .tuple #[.agg #[.int .i64 t, .int .i64 c, .int .i64 s, .int .i64 (ad), .int .i64 pl, .bool bl, .slice (some ⟨p, 0, none⟩) n x, .slice (some ⟨q, 0, none⟩) m y], .int .i64 (0)]) (by simp [results, Tryz.results67, go_sem, c1]) rfl ?_
          rw [HO.out, HE.out.1, HE.out.2.1, HE.out.2.2]
          refine ⟨p, x, q, y, rfl, KEY.out _ ?_⟩
          repeat (first | with_reducible exact Wrote.refl _ _ | with_reducible refine Wrote.drew ?_ | with_reducible refine Wrote.setCell ?_ (fun _ => by omega) _)
end Go.Proofs.YtpaedkefmebjjarGreat
