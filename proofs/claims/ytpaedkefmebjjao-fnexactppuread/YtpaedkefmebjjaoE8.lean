/-
  Chapter 8 of the specification by its contracts: copies, dots, ticks, registers.
-/
import Derived.Test.YtpaedkefmebjjaoS8
import Derived.Test.YtpaedkefmebjjaoA8
import Derived.Lib.QuietBelow
namespace Go.Proofs.Ytpaedkefmebjjao
set_option linter.unusedVariables false
open Go.ChangeShapes Go.WideShapes Go.ChangeAt Go.RowKit
set_option maxHeartbeats 1000000 in
theorem l8Copy (w : World) (F G : Nat → Nat → Prop) (t c s ad pl : Int) (bl : Bool) (u u' : Value) (n : Nat) (f : Nat → Int) (m : Nat) (g : Nat → Int) (H : Ints .i64 w F u n f) (K : Ints .i64 w G u' m g) :
    Calls Try.prog 43 #[.agg #[.int .i64 t, .int .i64 c, .int .i64 s, .int .i64 ad, .int .i64 pl, .bool bl, u, u']] w fun e w' => ∃ p x q y, e = .returned (.agg #[.int .i64 t, .int .i64 c, .int .i64 s, .int .i64 ad, .int .i64 pl, .bool bl, .slice (some ⟨p, 0, none⟩) n x, .slice (some ⟨q, 0, none⟩) m y]) ∧ Row w' w.heap.size p n x f ∧ Row w' w.heap.size q m y g ∧ p ≠ q ∧ Below w.heap.size w w' := by
  obtain ⟨ua, ux, rfl, un, hr, hF⟩ := H
  obtain ⟨va, vx, rfl, vn, hr', hF'⟩ := K
  have H : Ints .i64 w F (.slice ua n ux) n f := ⟨_, _, rfl, un, hr, hF⟩
  have K : Ints .i64 w G (.slice va m vx) m g := ⟨_, _, rfl, vn, hr', hF'⟩
  clear hr hF hr' hF'
  have L1 : Below w.heap.size w (((w.alloc (.cells #[.int .i64 t, .int .i64 c, .int .i64 s, .int .i64 ad, .int .i64 pl, .bool bl, .slice ua n ux, .slice va m vx] 27)).alloc (.cells #[.int .i64 0, .int .i64 0, .int .i64 0, .int .i64 0, .int .i64 0, .bool false, .slice none 0 0, .slice none 0 0] 27)).alloc (.cells #[] 3)) := (((Below.refl _ _).alloc (Nat.le_refl _) _).alloc (by simp) _).alloc (by simp; omega) _
  have k0 : (((w.alloc (.cells #[.int .i64 t, .int .i64 c, .int .i64 s, .int .i64 ad, .int .i64 pl, .bool bl, .slice ua n ux, .slice va m vx] 27)).alloc (.cells #[.int .i64 0, .int .i64 0, .int .i64 0, .int .i64 0, .int .i64 0, .bool false, .slice none 0 0, .slice none 0 0] 27)).alloc (.cells #[] 3)).heap[w.heap.size]? = some (.cells #[.int .i64 t, .int .i64 c, .int .i64 s, .int .i64 ad, .int .i64 pl, .bool bl, .slice ua n ux, .slice va m vx] 27 (0, 0)) := boxA (boxA (box_new w _ _) _) _
  have k1 : (((w.alloc (.cells #[.int .i64 t, .int .i64 c, .int .i64 s, .int .i64 ad, .int .i64 pl, .bool bl, .slice ua n ux, .slice va m vx] 27)).alloc (.cells #[.int .i64 0, .int .i64 0, .int .i64 0, .int .i64 0, .int .i64 0, .bool false, .slice none 0 0, .slice none 0 0] 27)).alloc (.cells #[] 3)).heap[w.heap.size + 1]? = some (.cells #[.int .i64 0, .int .i64 0, .int .i64 0, .int .i64 0, .int .i64 0, .bool false, .slice none 0 0, .slice none 0 0] 27 (0, 0)) := by simpa using boxA (box_new (w.alloc (.cells #[.int .i64 t, .int .i64 c, .int .i64 s, .int .i64 ad, .int .i64 pl, .bool bl, .slice ua n ux, .slice va m vx] 27)) _ _) (.cells #[] 3)
  have k2 : (((w.alloc (.cells #[.int .i64 t, .int .i64 c, .int .i64 s, .int .i64 ad, .int .i64 pl, .bool bl, .slice ua n ux, .slice va m vx] 27)).alloc (.cells #[.int .i64 0, .int .i64 0, .int .i64 0, .int .i64 0, .int .i64 0, .bool false, .slice none 0 0, .slice none 0 0] 27)).alloc (.cells #[] 3)).heap[w.heap.size + 1 + 1]? = some (.cells #[] 3 (0, 0)) := by simpa using box_new ((w.alloc (.cells #[.int .i64 t, .int .i64 c, .int .i64 s, .int .i64 ad, .int .i64 pl, .bool bl, .slice ua n ux, .slice va m vx] 27)).alloc (.cells #[.int .i64 0, .int .i64 0, .int .i64 0, .int .i64 0, .int .i64 0, .bool false, .slice none 0 0, .slice none 0 0] 27)) #[] 3
  have HZ : Hid ((((w.alloc (.cells #[.int .i64 t, .int .i64 c, .int .i64 s, .int .i64 ad, .int .i64 pl, .bool bl, .slice ua n ux, .slice va m vx] 27)).alloc (.cells #[.int .i64 0, .int .i64 0, .int .i64 0, .int .i64 0, .int .i64 0, .bool false, .slice none 0 0, .slice none 0 0] 27)).alloc (.cells #[] 3)).heap.size = w.heap.size + 1 + 1 + 1) := by show _ = _; simp
  go_enter Try.func43, Try.ntmps43
  go_wp2_with (at_builtin; refine wpList_copy _ rfl _ _ rfl (w.heap.size + 1 + 1) rfl k2 (w.heap.size + 1 + 1) (Nat.le_refl _) F (.slice ua n ux) n f rfl (H.keep (wrote_below L1 Nowhere) (fun _ _ _ x => x)) ?_)
  generalize (((w.alloc (.cells #[.int .i64 t, .int .i64 c, .int .i64 s, .int .i64 ad, .int .i64 pl, .bool bl, .slice ua n ux, .slice va m vx] 27)).alloc (.cells #[.int .i64 0, .int .i64 0, .int .i64 0, .int .i64 0, .int .i64 0, .bool false, .slice none 0 0, .slice none 0 0] 27)).alloc (.cells #[] 3)) = W1 at *
  rintro p x W2 R2 L2 hp
  have z1 : W1.heap.size = w.heap.size + 1 + 1 + 1 := unhide HZ
  have j0 := box_keep k0 L2 (by omega)
  have j1 := box_keep k1 L2 (by omega)
  have hps := R2.parts
  have L3 := L1.trans (L2.mono (by omega))
  have c0 := boxC j0
  have f0 := boxF j0
  have hzz : w.heap.size + 1 + 1 + 1 ≤ W2.heap.size := by have := L2.size; omega
  have m0 : ((W2.setCell ⟨w.heap.size, 6, none⟩ (.slice (some ⟨p, 0, none⟩) n x)).alloc (.cells #[] 3)).heap[w.heap.size]? = some (.cells #[.int .i64 t, .int .i64 c, .int .i64 s, .int .i64 ad, .int .i64 pl, .bool bl, .slice (some ⟨p, 0, none⟩) n x, .slice va m vx] 27 (0, 0)) := boxA (box_set j0 _) _
  have m1 : ((W2.setCell ⟨w.heap.size, 6, none⟩ (.slice (some ⟨p, 0, none⟩) n x)).alloc (.cells #[] 3)).heap[w.heap.size + 1]? = some (.cells #[.int .i64 0, .int .i64 0, .int .i64 0, .int .i64 0, .int .i64 0, .bool false, .slice none 0 0, .slice none 0 0] 27 (0, 0)) := boxA (box_set_ne8 j1 (by omega)) _
  have m2 : ((W2.setCell ⟨w.heap.size, 6, none⟩ (.slice (some ⟨p, 0, none⟩) n x)).alloc (.cells #[] 3)).heap[W2.heap.size]? = some (.cells #[] 3 (0, 0)) := by simpa using box_new (W2.setCell ⟨w.heap.size, 6, none⟩ (.slice (some ⟨p, 0, none⟩) n x)) #[] 3
  have LV : Below w.heap.size w ((W2.setCell ⟨w.heap.size, 6, none⟩ (.slice (some ⟨p, 0, none⟩) n x)).alloc (.cells #[] 3)) := (L3.setCell (Nat.le_refl _) _).alloc (by simp; have := L3.size; omega) _
  have WV : Wrote (fun b _ => b = w.heap.size) W2 ((W2.setCell ⟨w.heap.size, 6, none⟩ (.slice (some ⟨p, 0, none⟩) n x)).alloc (.cells #[] 3)) := (Wrote.setCell (R := fun b _ => b = w.heap.size) (Wrote.refl _ W2) (fun _ => rfl) _).alloc _
  have RV := R2.keep WV (fun _ h => by omega)
  have zV : ((W2.setCell ⟨w.heap.size, 6, none⟩ (.slice (some ⟨p, 0, none⟩) n x)).alloc (.cells #[] 3)).heap.size = W2.heap.size + 1 := by simp
  have HX := hide (And.intro m0 (And.intro m1 (And.intro m2 (And.intro LV (And.intro RV zV)))))
  have cm := boxC m0
  clear k0 k1 k2 L1 L2 L3 j0 j1 R2 z1 m0 m1 LV WV RV
  go_wp2_with (at_builtin; refine wpList_copy _ rfl _ _ rfl W2.heap.size rfl m2 W2.heap.size (Nat.le_refl _) G (.slice va m vx) m g rfl (K.keep (wrote_below HX.out.2.2.2.1 Nowhere) (fun _ _ _ x => x)) ?_)
  clear m2 c0 f0 cm
  generalize ((W2.setCell ⟨w.heap.size, 6, none⟩ (.slice (some ⟨p, 0, none⟩) n x)).alloc (.cells #[] 3)) = W3 at *
  rintro q y W4 R4 L4 hq
  obtain ⟨m0, m1, -, LV, RV, zV⟩ := HX.out
  replace L4 : Below W3.heap.size W3 W4 := by rw [zV]; exact L4
  have hqs := R4.parts
  have RP := RV.below L4
  have j0 := box_keep m0 L4 (boxLt m0)
  have j1 := box_keep m1 L4 (boxLt m1)
  have L5 := below_snoc LV L4
  have c0 := boxC j0
  have f0 := boxF j0
  have c1 := boxC j1
  have f1 := boxF j1
  have HY := hide (And.intro RP (And.intro R4 L5))
  clear HX HZ m0 m1 LV RV L4 R4 RP j0 j1 L5 zV
  go_wp2
  refine bodyPost_ret (v := .agg #[.int .i64 t, .int .i64 c, .int .i64 s, .int .i64 ad, .int .i64 pl, .bool bl, .slice (some ⟨p, 0, none⟩) n x, .slice (some ⟨q, 0, none⟩) m y]) (by simp [results, Try.results43, go_sem, c1]) rfl ?_
  have hw := hqs.2.1
  have key : ∀ W5, Wrote (fun b _ => b = w.heap.size ∨ b = w.heap.size + 1) W4 W5 → Row W5 w.heap.size p n x f ∧ Row W5 w.heap.size q m y g ∧ p ≠ q ∧ Below w.heap.size w W5 := fun W5 WW =>
    ⟨(HY.out.1.keep WW (fun _ h => by omega)).mono (by omega), (HY.out.2.1.keep WW (fun _ h => by omega)).mono (by omega), by omega, HY.out.2.2.trans (WW.below HY.out.2.2.size (fun b o hb h => by omega))⟩
  refine ⟨_, _, _, _, rfl, key _ ?_⟩
  iterate 9 (refine Wrote.setCell ?_ (fun _ => by omega) _)
  exact Wrote.refl _ _
def dotV (f : Nat → Int) (s pl a : Int) : Int := bits .xor .i64 (f ((a % 8 + s + a / 8) % 16).toNat) pl
theorem l8Dot (w : World) (F : Nat → Nat → Prop) (t c s ad pl : Int) (bl : Bool) (u u' : Value) (f : Nat → Int) (a : Int) (H : Ints .i64 w F u 16 f) (s0 : 0 ≤ s) (s1 : s ≤ 255) (a0 : 0 ≤ a) (a1 : a < 48) :
    Calls Try.prog 38 #[.agg #[.int .i64 t, .int .i64 c, .int .i64 s, .int .i64 ad, .int .i64 pl, .bool bl, u, u'], .int .i64 a] w fun e w' => e = .returned (.int .i64 (dotV f s pl a)) ∧ Below w.heap.size w w' := by
  obtain ⟨ua, ux, rfl, un, hr, -⟩ := H
  have L0 : Below w.heap.size w (w.alloc (.cells #[.int .i64 t, .int .i64 c, .int .i64 s, .int .i64 ad, .int .i64 pl, .bool bl, .slice ua 16 ux, u'] 27)) := (Below.refl _ _).alloc (Nat.le_refl _) _
  obtain ⟨k, hk, hk16⟩ : ∃ k : Nat, (a % 8 + s + a / 8) % 16 = (k : Int) ∧ k < 16 := ⟨((a % 8 + s + a / 8) % 16).toNat, by omega, by omega⟩
  have HE : Hid (dotV f s pl a = bits .xor .i64 (f k) pl) := by show _ = _; unfold dotV; rw [hk, Int.toNat_natCast]
  have m8 : a.tmod 8 = a % 8 := Int.tmod_eq_emod_of_nonneg a0
  have d8 : a.tdiv 8 = a / 8 := Int.tdiv_eq_ediv_of_nonneg a0
  have m16 : (a % 8 + s + a / 8).tmod 16 = (k : Int) := by rw [Int.tmod_eq_emod_of_nonneg (by omega)]; exact hk
  obtain ⟨b, off, rfl, hc⟩ := (hr.keep (wrote_below L0 Nowhere) (fun _ _ _ x => x)) k hk16
  go_enter Try.func38, Try.ntmps38
  go_upto_region 1 with (fail)
  have w1 : IntKind.i64.wrap (a % 8 + s) = a % 8 + s := by rw [IntKind.wrap_i64]; omega
  have w2 : IntKind.i64.wrap (a % 8 + s + a / 8) = a % 8 + s + a / 8 := by rw [IntKind.wrap_i64]; omega
  have w3 : IntKind.i64.wrap (a % 8) = a % 8 := by rw [IntKind.wrap_i64]; omega
  have w4 : IntKind.i64.wrap (a / 8) = a / 8 := by rw [IntKind.wrap_i64]; omega
  have w5 : IntKind.i64.wrap (k : Int) = k := by rw [IntKind.wrap_i64]; omega
  go_quiet (fail)
  go_wp2
  go_ret
  exact ⟨ret_int HE.out.symm, below_drewN L0 _⟩
def dotOf (ok : Bool) (f : Nat → Int) (s pl a : Int) : Int := if ok = true ∧ 0 ≤ a ∧ a ≤ 47 then dotV f s pl a else 0
set_option maxHeartbeats 1000000 in
theorem specDot (w : World) (F G : Nat → Nat → Prop) (t c s ad pl : Int) (bl : Bool) (u u' : Value) (n : Nat) (f : Nat → Int) (m : Nat) (g : Nat → Int) (a : Int) (H : Ints .i64 w F u n f) (K : Ints .i64 w G u' m g) :
    Calls Try.prog 18 #[.agg #[.int .i64 t, .int .i64 c, .int .i64 s, .int .i64 ad, .int .i64 pl, .bool bl, u, u'], .int .i64 a] w fun e w' => e = .returned (.int .i64 (dotOf (okPpu t c s ad pl n f m g) f s pl a)) ∧ Below w.heap.size w w' := by
  obtain ⟨ua, ux, rfl, un, hr, hF⟩ := H
  obtain ⟨va, vx, rfl, vn, hr', hF'⟩ := K
  have H : Ints .i64 w F (.slice ua n ux) n f := ⟨_, _, rfl, un, hr, hF⟩
  have K : Ints .i64 w G (.slice va m vx) m g := ⟨_, _, rfl, vn, hr', hF'⟩
  clear hr hF hr' hF'
  have L0 : Below w.heap.size w (w.alloc (.cells #[.int .i64 t, .int .i64 c, .int .i64 s, .int .i64 ad, .int .i64 pl, .bool bl, .slice ua n ux, .slice va m vx] 27)) := (Below.refl _ _).alloc (Nat.le_refl _) _
  have k0 := box_new w #[.int .i64 t, .int .i64 c, .int .i64 s, .int .i64 ad, .int .i64 pl, .bool bl, .slice ua n ux, .slice va m vx] 27
  obtain ⟨b1, h1⟩ : ∃ b, b = okPpu t c s ad pl n f m g := ⟨_, rfl⟩
  obtain ⟨b2, h2⟩ : ∃ b, b = inB a 0 47 := ⟨_, rfl⟩
  have C1 : ∀ W : World, Below w.heap.size w W → Calls Try.prog 10 #[.agg #[.int .i64 t, .int .i64 c, .int .i64 s, .int .i64 ad, .int .i64 pl, .bool bl, .slice ua n ux, .slice va m vx]] W fun e w' => e = .returned (.bool b1) ∧ Below W.heap.size W w' := fun W L => h1 ▸ specPpuOk W F G t c s ad pl bl _ _ n f m g (H.keep (wrote_below L Nowhere) (fun _ _ _ x => x)) (K.keep (wrote_below L Nowhere) (fun _ _ _ x => x))
  have C2 : ∀ W : World, Calls Try.prog 30 #[.int .i64 a, .int .i64 0, .int .i64 47] W fun e w' => e = .returned (.bool b2) ∧ w' = W := fun W => h2 ▸ l1In _ _ _ W
  have HE : Hid ((b1 = true → b2 = true → dotOf (okPpu t c s ad pl n f m g) f s pl a = dotV f s pl a) ∧ (b1 = false → dotOf (okPpu t c s ad pl n f m g) f s pl a = 0) ∧ (b2 = false → dotOf (okPpu t c s ad pl n f m g) f s pl a = 0)) := by
    show _ ∧ _ ∧ _
    unfold dotOf
    refine ⟨fun e1 e2 => if_pos ⟨h1 ▸ e1, (inB_iff _ _ _).1 (h2 ▸ e2)⟩, fun e1 => if_neg (fun x => by rw [← h1, e1] at x; exact absurd x.1 (by simp)), fun e2 => if_neg (fun x => by have := inB_yes x.2; rw [← h2, e2] at this; cases this)⟩
  have HA : Hid (b1 = true → b2 = true → n = 16 ∧ 0 ≤ s ∧ s ≤ 255 ∧ 0 ≤ a ∧ a < 48) := fun e1 e2 => by
    have hp := okPpu_of (h1 ▸ e1)
    have ha := (inB_iff _ _ _).1 (h2 ▸ e2)
    exact ⟨hp.n16, hp.s0, hp.s1, ha.1, by omega⟩
  clear h1 h2
  go_enter Try.func18, Try.ntmps18
  go_wp2_with fail
  generalize w.alloc (.cells #[.int .i64 t, .int .i64 c, .int .i64 s, .int .i64 ad, .int .i64 pl, .bool bl, .slice ua n ux, .slice va m vx] 27) = W0 at *
  refine (C1 _ L0).mono ?_
  rintro e W1 ⟨rfl, L1⟩
  have c0 := boxC (box_keep k0 L1 (boxLt k0))
  have LQ := below_snoc L0 L1
  clear L0 L1 k0 C1
  cases b1
  · have HF := hide (HE.out.2.1 rfl)
    go_wp2
    go_ret
    exact ⟨ret_int HF.out.symm, LQ⟩
  · replace HA := hide (HA.out rfl)
    replace HE := hide (And.intro (HE.out.1 rfl) HE.out.2.2)
    go_wp2_with fail
    refine (C2 _).mono ?_
    rintro e W' ⟨rfl, rfl⟩
    clear C2
    cases b2
    · have HF := hide (HE.out.2 rfl)
      go_wp2
      go_ret
      exact ⟨ret_int HF.out.symm, LQ⟩
    · obtain ⟨rfl, s0, s1, a0, a1⟩ := HA.out rfl
      have HF := hide (HE.out.1 rfl)
      go_wp2_with fail
      refine (l8Dot _ F t c s ad pl bl _ _ f a (H.keep (wrote_below LQ Nowhere) (fun _ _ _ x => x)) s0 s1 a0 a1).mono ?_
      rintro e W2 ⟨rfl, L2⟩
      go_wp2
      go_ret
      exact ⟨ret_int HF.out.symm, below_snoc LQ L2⟩
end Go.Proofs.Ytpaedkefmebjjao
