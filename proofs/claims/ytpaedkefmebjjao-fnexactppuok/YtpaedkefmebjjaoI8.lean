/-
  The program's picture unit (chapter 8), by its contracts: PpuTick; all of it over picture units that lie on blocks of a kind.
-/
import Derived.Test.YtpaedkefmebjjaoI8g
namespace Go.Proofs.Ytpaedkefmebjjao
set_option linter.unusedVariables false
set_option linter.unusedSimpArgs false
open Go.ChangeShapes Go.WideShapes Go.ChangeAt Go.RowKit
theorem ticked_at {w W : World} {lo : Nat} {o1 o2 o3 : Option Nat} {u1 u2 tv : Value} {t c s ad pl : Int} {bl : Bool} {n : Nat} {f : Nat → Int} {m : Nat} {g : Nat → Int} {k : Nat} {h : Nat → Int} (r1 : RowAt W lo o1 u1 n f) (r2 : RowAt W lo o2 u2 m g) (r3 : RowAt W lo o3 tv k h) (h12 : Two o1 o2) (h13 : Two o1 o3) (h23 : Two o2 o3) (hlo : w.heap.size ≤ lo) (L : Below w.heap.size w W) :
    Ticked w W (.agg #[.int .i64 t, .int .i64 c, .int .i64 s, .int .i64 ad, .int .i64 pl, .bool bl, u1, u2]) tv t c s ad pl bl n f m g k h := by
  obtain ⟨a, x, rfl, r4⟩ := r3.sl
  refine ⟨_, _, ppuOn_at r1 r2 h12, ⟨_, _, rfl, r4⟩, fun b h e => ?_, fun b h => ?_, L⟩
  · rcases h with h | h
    · exact h13 b h e
    · exact h23 b h e
  · rcases h with h | h
    · exact Nat.le_trans hlo (at_lo r1 r2 b h)
    · exact Nat.le_trans hlo (by have e : o3 = some b := h; subst e; exact r3.lt.1)
set_option maxHeartbeats 1000000 in
theorem implPpuTick (w : World) (F G : Nat → Nat → Prop) (t c s ad pl : Int) (bl : Bool) (u u' : Value) (n : Nat) (f : Nat → Int) (m : Nat) (g : Nat → Int) (H : Ints .i64 w F u n f) (K : Ints .i64 w G u' m g) :
    Calls Try.prog 21 #[.agg #[.int .i64 t, .int .i64 c, .int .i64 s, .int .i64 ad, .int .i64 pl, .bool bl, u, u']] w fun e w' => ∃ v z, e = .returned (.tuple #[v, z, .bool (tlNk (okPpu t c s ad pl n f m g) t c)]) ∧ TickedAs (okPpu t c s ad pl n f m g) w w' v z t c s ad pl bl n f m g := by
  obtain ⟨ua, ux, rfl, un, hr, hF⟩ := H
  obtain ⟨va, vx, rfl, vn, hr', hF'⟩ := K
  have H : Ints .i64 w F (.slice ua n ux) n f := ⟨_, _, rfl, un, hr, hF⟩
  have K : Ints .i64 w G (.slice va m vx) m g := ⟨_, _, rfl, vn, hr', hF'⟩
  clear hr hF hr' hF'
  have L0 : Below w.heap.size w ((w.alloc (.cells #[.int .i64 t, .int .i64 c, .int .i64 s, .int .i64 ad, .int .i64 pl, .bool bl, .slice ua n ux, .slice va m vx] 27)).alloc (.cells #[.int .i64 0, .int .i64 0, .int .i64 0, .int .i64 0, .int .i64 0, .bool false, .slice none 0 0, .slice none 0 0] 27)) := ((Below.refl _ _).alloc (Nat.le_refl _) _).alloc (by simp) _
  have k0 : ((w.alloc (.cells #[.int .i64 t, .int .i64 c, .int .i64 s, .int .i64 ad, .int .i64 pl, .bool bl, .slice ua n ux, .slice va m vx] 27)).alloc (.cells #[.int .i64 0, .int .i64 0, .int .i64 0, .int .i64 0, .int .i64 0, .bool false, .slice none 0 0, .slice none 0 0] 27)).heap[w.heap.size]? = some (.cells #[.int .i64 t, .int .i64 c, .int .i64 s, .int .i64 ad, .int .i64 pl, .bool bl, .slice ua n ux, .slice va m vx] 27 (0, 0)) := boxA (box_new w _ _) _
  have k1 : ((w.alloc (.cells #[.int .i64 t, .int .i64 c, .int .i64 s, .int .i64 ad, .int .i64 pl, .bool bl, .slice ua n ux, .slice va m vx] 27)).alloc (.cells #[.int .i64 0, .int .i64 0, .int .i64 0, .int .i64 0, .int .i64 0, .bool false, .slice none 0 0, .slice none 0 0] 27)).heap[w.heap.size + 1]? = some (.cells #[.int .i64 0, .int .i64 0, .int .i64 0, .int .i64 0, .int .i64 0, .bool false, .slice none 0 0, .slice none 0 0] 27 (0, 0)) := by simpa using box_new (w.alloc (.cells #[.int .i64 t, .int .i64 c, .int .i64 s, .int .i64 ad, .int .i64 pl, .bool bl, .slice ua n ux, .slice va m vx] 27)) #[.int .i64 0, .int .i64 0, .int .i64 0, .int .i64 0, .int .i64 0, .bool false, .slice none 0 0, .slice none 0 0] 27
  go_enter Try.func21, Try.ntmps21
  go_wp2_with fail
  generalize ((w.alloc (.cells #[.int .i64 t, .int .i64 c, .int .i64 s, .int .i64 ad, .int .i64 pl, .bool bl, .slice ua n ux, .slice va m vx] 27)).alloc (.cells #[.int .i64 0, .int .i64 0, .int .i64 0, .int .i64 0, .int .i64 0, .bool false, .slice none 0 0, .slice none 0 0] 27)) = W0 at *
  refine (implPpuOk _ F G t c s ad pl bl _ _ n f m g (H.keep (wrote_below L0 Nowhere) (fun _ _ _ x => x)) (K.keep (wrote_below L0 Nowhere) (fun _ _ _ x => x))).mono ?_
  rintro e W1 ⟨rfl, L⟩
  replace k0 := box_keep k0 L (boxLt k0)
  replace k1 := box_keep k1 L (boxLt k1)
  have C1 := below_snoc L0 L
  clear L L0
  have c0 := boxC k0
  have c1 := boxC k1
  have f1 := boxF k1
  cases hok : okPpu t c s ad pl n f m g
  · have HO := hide hok
    clear hok
    have k1' := boxA k1 (.cells #[] 3)
    have q1 := boxC k1'
    have q2 := boxF k1'
    have rr : ∀ j, (((((((((W1.setCell ⟨w.heap.size + 1, 0, none⟩ (.int .i64 0)).setCell ⟨w.heap.size + 1, 1, none⟩ (.int .i64 0)).setCell ⟨w.heap.size + 1, 2, none⟩ (.int .i64 0)).setCell ⟨w.heap.size + 1, 3, none⟩ (.int .i64 0)).setCell ⟨w.heap.size + 1, 4, none⟩ (.int .i64 0)).setCell ⟨w.heap.size + 1, 5, none⟩ (.bool false)).setCell ⟨w.heap.size + 1, 6, none⟩ (.slice none 0 0)).setCell ⟨w.heap.size + 1, 7, none⟩ (.slice none 0 0)).alloc (.cells #[] 3)).cell? ⟨w.heap.size + 1, j, none⟩ = #[.int .i64 0, .int .i64 0, .int .i64 0, .int .i64 0, .int .i64 0, .bool false, .slice none 0 0, .slice none 0 0][j]? := boxC (boxA (put8_box k1 _ _ _ _ _ _ _ _) _)
    have hs := C1.size
    have hl := boxLt k1
    go_wp2
    refine bodyPost_ret (v := .tuple #[.agg #[.int .i64 0, .int .i64 0, .int .i64 0, .int .i64 0, .int .i64 0, .bool false, .slice none 0 0, .slice none 0 0], .slice (some ⟨W1.heap.size, 0, none⟩) 0 0, .bool false]) (by simp [results, Try.results21, go_sem, rr]) rfl ?_
    have fin : ∀ W5, Wrote (fun b _ => b = w.heap.size + 1) W1 W5 → ∃ v z', Ending.returned (.tuple #[.agg #[.int .i64 0, .int .i64 0, .int .i64 0, .int .i64 0, .int .i64 0, .bool false, .slice none 0 0, .slice none 0 0], .slice (some ⟨W1.heap.size, 0, none⟩) 0 0, .bool false]) = .returned (.tuple #[v, z', .bool (tlNk (okPpu t c s ad pl n f m g) t c)]) ∧ TickedAs (okPpu t c s ad pl n f m g) w W5 v z' t c s ad pl bl n f m g := fun W5 WX => by
      rw [HO.out]
      exact ⟨_, _, rfl, fun _ => False, fun _ => False, ⟨_, _, _, _, rfl, SlOn.nil _, SlOn.nil _, fun b o h => absurd h (foot_none _ _ _)⟩, ⟨_, _, rfl, SlOn.zero _ _⟩, fun b h => absurd h id, fun b h => by rcases h with h | h <;> exact absurd h id, C1.trans (WX.below C1.size (fun b o hb h => by omega))⟩
    refine fin _ ?_
    refine Wrote.alloc ?_ _
    repeat (first | with_reducible exact Wrote.refl _ _ | with_reducible refine Wrote.drew ?_ | with_reducible refine Wrote.setCell ?_ (fun _ => by omega) _)
  · have HO := hide hok
    have t0 := (okPpu_of hok).t0
    have t1 := (okPpu_of hok).t1
    go_wp2_with fail
    clear c0 c1 f1
    refine (copyPpu _ F G t c s ad pl bl _ _ n f m g (H.keep (wrote_below C1 Nowhere) (fun _ _ _ x => x)) (K.keep (wrote_below C1 Nowhere) (fun _ _ _ x => x))).mono ?_
    rintro e W2 ⟨v1, v2, o1, o2, rfl, R1, R2, h12, L2⟩
    have hz0 := boxLt k1
    have sz := L2.size
    have C2 := below_snoc C1 L2
    obtain ⟨pa, px, rfl⟩ := R1.form
    obtain ⟨qa, qx, rfl⟩ := R2.form
    have x0 := boxA (box_keep k0 L2 (boxLt k0)) (.cells #[.int .i64 t, .int .i64 c, .int .i64 s, .int .i64 ad, .int .i64 pl, .bool bl, .slice pa n px, .slice qa m qx] 27)
    have x1 := boxA (box_keep k1 L2 (boxLt k1)) (.cells #[.int .i64 t, .int .i64 c, .int .i64 s, .int .i64 ad, .int .i64 pl, .bool bl, .slice pa n px, .slice qa m qx] 27)
    have x2 := box_new W2 #[.int .i64 t, .int .i64 c, .int .i64 s, .int .i64 ad, .int .i64 pl, .bool bl, .slice pa n px, .slice qa m qx] 27
    have LA : Below W2.heap.size W2 (W2.alloc (.cells #[.int .i64 t, .int .i64 c, .int .i64 s, .int .i64 ad, .int .i64 pl, .bool bl, .slice pa n px, .slice qa m qx] 27)) := (Below.refl _ _).alloc (Nat.le_refl _) _
    have C3 := below_snoc C2 LA
    have S1 := R1.below LA
    have S2 := R2.below LA
    have HP : Hid ((∀ q, o1 = some q → W1.heap.size ≤ q ∧ q < W2.heap.size) ∧ (∀ q, o2 = some q → W1.heap.size ≤ q ∧ q < W2.heap.size)) := ⟨fun q e => by subst e; exact R1.lt, fun q e => by subst e; exact R2.lt⟩
    have zs : (W2.alloc (.cells #[.int .i64 t, .int .i64 c, .int .i64 s, .int .i64 ad, .int .i64 pl, .bool bl, .slice pa n px, .slice qa m qx] 27)).heap.size = W2.heap.size + 1 := by simp
    clear k0 k1 L2 C1 C2 R1 R2 LA H K
    go_upto_region 4 with (fail)
    obtain ⟨z, hz⟩ : ∃ z, Hid (z = W2.heap.size) := ⟨_, rfl⟩
    generalize W2.alloc (.cells #[.int .i64 t, .int .i64 c, .int .i64 s, .int .i64 ad, .int .i64 pl, .bool bl, .slice pa n px, .slice qa m qx] 27) = W3 at *
    rw [← hz.out] at x2 HP zs ⊢
    have hzw : w.heap.size + 1 < z := by rw [hz.out]; omega
    have z0w : w.heap.size + 1 < W1.heap.size := hz0
    have z1w : W1.heap.size ≤ z := by rw [hz.out]; exact sz
    clear hz sz hz0
    have c0 := boxC x0
    by_cases ht : t = 20000
    · have HE : Hid (tkT t = t ∧ tkB t bl = bl ∧ tkM t m = m ∧ tkG t f s pl m g = g ∧ tlM t m = 0 ∧ tlN t c = false) := ⟨if_pos ht, if_pos ht, if_pos ht, if_pos ht, if_pos ht, if_pos ht⟩
      have ht' : (t == 20000) = true := by simpa using ht
      have y1 := boxA x1 (.cells #[] 3)
      have y3 := box_new W3 #[] 3
      have LB : Below W3.heap.size W3 (W3.alloc (.cells #[] 3)) := (Below.refl _ _).alloc (Nat.le_refl _) _
      have c1 := boxC x1
      have f1 := boxF x1
      have c2 := boxC x2
      have e1 := boxC y1
      have g1 := boxF y1
      have HF : Hid (∀ W5, Wrote (fun b _ => b = w.heap.size + 1) (W3.alloc (.cells #[] 3)) W5 → Ticked w W5 (.agg #[.int .i64 t, .int .i64 c, .int .i64 s, .int .i64 ad, .int .i64 pl, .bool bl, .slice pa n px, .slice qa m qx]) (.slice (some ⟨W3.heap.size, 0, none⟩) 0 0) t c s ad pl bl n f m g 0 g) := fun W5 WX => by
        have T1 := (S1.below LB).keep WX (fun q e _ _ _ e' => by have := HP.out.1 q e; omega)
        have T2 := (S2.below LB).keep WX (fun q e _ _ _ e' => by have := HP.out.2 q e; omega)
        have C4 := below_snoc C3 LB
        refine ticked_at (lo := W1.heap.size) (o3 := some W3.heap.size) T1 T2 ⟨0, rfl, Row.empty g (box_wrote y3 WX (fun o e => by omega)) (by omega)⟩ h12 (fun q e1 e2 => ?_) (fun q e1 e2 => ?_) (by omega) (C4.trans (WX.below C4.size (fun b o hb h => by omega)))
        · have := HP.out.1 q e1
          have := Option.some.inj e2
          omega
        · have := HP.out.2 q e1
          have := Option.some.inj e2
          omega
      clear ht t0 t1 hok S1 S2 C3 LB y1 y3 x0 x1 x2 zs
      go_wp2
      refine bodyPost_ret (v := .tuple #[.agg #[.int .i64 t, .int .i64 c, .int .i64 s, .int .i64 ad, .int .i64 pl, .bool bl, .slice pa n px, .slice qa m qx], .slice (some ⟨W3.heap.size, 0, none⟩) 0 0, .bool false]) (by simp [results, Try.results21, go_sem, e1]) rfl ?_
      have fin : ∀ W5, Wrote (fun b _ => b = w.heap.size + 1) (W3.alloc (.cells #[] 3)) W5 → ∃ v z', Ending.returned (.tuple #[.agg #[.int .i64 t, .int .i64 c, .int .i64 s, .int .i64 ad, .int .i64 pl, .bool bl, .slice pa n px, .slice qa m qx], .slice (some ⟨W3.heap.size, 0, none⟩) 0 0, .bool false]) = .returned (.tuple #[v, z', .bool (tlNk (okPpu t c s ad pl n f m g) t c)]) ∧ TickedAs (okPpu t c s ad pl n f m g) w W5 v z' t c s ad pl bl n f m g := fun W5 WX => by
        obtain ⟨i1, i2, i3, i4, i5, i6⟩ := HE.out
        rw [HO.out]
        have hl : tlNk true t c = false := (if_pos rfl).trans i6
        rw [hl]
        refine ⟨_, _, rfl, ?_⟩
        unfold TickedAs
        rw [if_pos rfl, i1, i2, i3, i4, i5]
        exact HF.out W5 WX
      refine fin _ ?_
      repeat (first | with_reducible exact Wrote.refl _ _ | with_reducible refine Wrote.drew ?_ | with_reducible refine Wrote.setCell ?_ (fun _ => by omega) _)
    · have ht' : (t == 20000) = false := by simpa using ht
      go_wp2_with fail
      refine (ppuTick _ W1.heap.size z o1 o2 _ _ t c s ad pl bl n f m g x2 S1 S2 h12 (fun q e => by rcases e with e | e; have := HP.out.1 q e; omega; have := HP.out.2 q e; omega) (by omega) hok ht).mono ?_
      rintro e W4 ⟨tv, rfl, TBX⟩
      obtain ⟨o2', u2', o3, hb, r1, r2, r3, t12, t13, t23, tz, WR⟩ := id TBX
      obtain ⟨ta, tx, rfl⟩ := r3.form
      obtain ⟨ra, rx, rfl⟩ := r2.form
      have y1 := box_wrote x1 WR (fun o h => by rcases h with h | h; omega; have := HP.out.2 _ h; omega)
      have C4 := C3.trans (WR.below C3.size (fun b o hb h => by rcases h with h | h; omega; have := HP.out.2 _ h; omega))
      have c1 := boxC y1
      have f1 := boxF y1
      have c2 := boxC hb
      have HF : Hid (∀ W5, Wrote (fun b _ => b = w.heap.size + 1) W4 W5 → Ticked w W5 (.agg #[.int .i64 (tkT t), .int .i64 c, .int .i64 s, .int .i64 ad, .int .i64 pl, .bool (tkB t bl), .slice pa n px, .slice ra (tkM t m) rx]) (.slice ta (tlM t m) tx) (tkT t) c s ad pl (tkB t bl) n f (tkM t m) (tkG t f s pl m g) (tlM t m) g) := fun W5 WX =>
        ticked_at (lo := W1.heap.size) (r1.keep WX (fun q _ h1 _ _ e => by omega)) (r2.keep WX (fun q _ h1 _ _ e => by omega)) (r3.keep WX (fun q _ h1 _ _ e => by omega)) t12 t13 t23 (by omega) (C4.trans (WX.below C4.size (fun b o hb h => by omega)))
      clear ht t0 t1 hok S1 S2 C3 C4 x0 x1 x2 zs y1 hb r1 r2 r3 WR TBX tz c0
      go_wp2
      refine bodyPost_ret (v := .tuple #[.agg #[.int .i64 (tkT t), .int .i64 c, .int .i64 s, .int .i64 ad, .int .i64 pl, .bool (tkB t bl), .slice pa n px, .slice ra (tkM t m) rx], .slice ta (tlM t m) tx, .bool (tlN t c)]) (by simp [results, Try.results21, go_sem, c1]) rfl ?_
      have fin : ∀ W5, Wrote (fun b _ => b = w.heap.size + 1) W4 W5 → ∃ v z', Ending.returned (.tuple #[.agg #[.int .i64 (tkT t), .int .i64 c, .int .i64 s, .int .i64 ad, .int .i64 pl, .bool (tkB t bl), .slice pa n px, .slice ra (tkM t m) rx], .slice ta (tlM t m) tx, .bool (tlN t c)]) = .returned (.tuple #[v, z', .bool (tlNk (okPpu t c s ad pl n f m g) t c)]) ∧ TickedAs (okPpu t c s ad pl n f m g) w W5 v z' t c s ad pl bl n f m g := fun W5 WX => by
        rw [HO.out]
        exact ⟨_, _, rfl, HF.out W5 WX⟩
      refine fin _ ?_
      repeat (first | with_reducible exact Wrote.refl _ _ | with_reducible refine Wrote.drew ?_ | with_reducible refine Wrote.setCell ?_ (fun _ => by omega) _)
theorem onImplPpuOk (w : World) (D : Nat → Prop) (v : Value) (t c s ad pl : Int) (bl : Bool) (n : Nat) (f : Nat → Int) (m : Nat) (g : Nat → Int) (H : PpuOn w D v t c s ad pl bl n f m g) : Calls Try.prog 12 #[v] w fun e w' => e = .returned (.bool (okPpu t c s ad pl n f m g)) ∧ Below w.heap.size w w' := by
  obtain ⟨u, u', rfl, h1, h2⟩ := H.ints
  exact implPpuOk w _ _ t c s ad pl bl u u' n f m g h1 h2
theorem onImplDot (w : World) (D : Nat → Prop) (v : Value) (t c s ad pl : Int) (bl : Bool) (n : Nat) (f : Nat → Int) (m : Nat) (g : Nat → Int) (H : PpuOn w D v t c s ad pl bl n f m g) (a : Int) : Calls Try.prog 19 #[v, .int .i64 a] w fun e w' => e = .returned (.int .i64 (dotOf (okPpu t c s ad pl n f m g) f s pl a)) ∧ Below w.heap.size w w' := by
  obtain ⟨u, u', rfl, h1, h2⟩ := H.ints
  exact implDot w _ _ t c s ad pl bl u u' n f m g a h1 h2
theorem onImplPpuWrite (w : World) (D : Nat → Prop) (v : Value) (t c s ad pl : Int) (bl : Bool) (n : Nat) (f : Nat → Int) (m : Nat) (g : Nat → Int) (H : PpuOn w D v t c s ad pl bl n f m g) (reg x : Int) : Calls Try.prog 26 #[v, .int .i64 reg, .int .i64 x] w fun e w' => ∃ v', e = .returned v' ∧ PpuOn w' (fun b => w.heap.size ≤ b) v' t (wrC (okPpu t c s ad pl n f m g) reg x c) (wrS (okPpu t c s ad pl n f m g) reg x s) (wrA (okPpu t c s ad pl n f m g) reg x ad) (wrP (okPpu t c s ad pl n f m g) reg x pl) bl n (wrT (okPpu t c s ad pl n f m g) reg x ad f) m g ∧ Below w.heap.size w w' := by
  obtain ⟨u, u', rfl, h1, h2⟩ := H.ints
  exact implPpuWrite w _ _ t c s ad pl bl u u' n f m g reg x h1 h2
theorem onImplPpuRead (w : World) (D : Nat → Prop) (v : Value) (t c s ad pl : Int) (bl : Bool) (n : Nat) (f : Nat → Int) (m : Nat) (g : Nat → Int) (H : PpuOn w D v t c s ad pl bl n f m g) (reg : Int) : Calls Try.prog 28 #[v, .int .i64 reg] w fun e w' => ∃ v', e = .returned (.tuple #[v', .int .i64 (rdV (okPpu t c s ad pl n f m g) reg bl ad f)]) ∧ PpuOn w' (fun b => w.heap.size ≤ b) v' t c s (rdA (okPpu t c s ad pl n f m g) reg ad) pl (rdB (okPpu t c s ad pl n f m g) reg bl) n f m g ∧ Below w.heap.size w w' := by
  obtain ⟨u, u', rfl, h1, h2⟩ := H.ints
  exact implPpuRead w _ _ t c s ad pl bl u u' n f m g reg h1 h2
theorem onImplPpuTick (w : World) (D : Nat → Prop) (v : Value) (t c s ad pl : Int) (bl : Bool) (n : Nat) (f : Nat → Int) (m : Nat) (g : Nat → Int) (H : PpuOn w D v t c s ad pl bl n f m g) : Calls Try.prog 21 #[v] w fun e w' => ∃ v' z, e = .returned (.tuple #[v', z, .bool (tlNk (okPpu t c s ad pl n f m g) t c)]) ∧ TickedAs (okPpu t c s ad pl n f m g) w w' v' z t c s ad pl bl n f m g := by
  obtain ⟨u, u', rfl, h1, h2⟩ := H.ints
  exact implPpuTick w _ _ t c s ad pl bl u u' n f m g h1 h2
theorem onImplPpuTickT (w : World) (D : Nat → Prop) (v : Value) (t c s ad pl : Int) (bl : Bool) (n : Nat) (f : Nat → Int) (m : Nat) (g : Nat → Int) (H : PpuOn w D v t c s ad pl bl n f m g) (ok : okPpu t c s ad pl n f m g = true) : Calls Try.prog 21 #[v] w fun e w' => ∃ v' z, e = .returned (.tuple #[v', z, .bool (tlN t c)]) ∧ Ticked w w' v' z (tkT t) c s ad pl (tkB t bl) n f (tkM t m) (tkG t f s pl m g) (tlM t m) g := by
  refine (onImplPpuTick w D v t c s ad pl bl n f m g H).mono ?_
  rintro e w' ⟨v', z, rfl, h⟩
  rw [ok] at h ⊢
  exact ⟨v', z, rfl, h⟩
theorem onImplPpuTickF (w : World) (D : Nat → Prop) (v : Value) (t c s ad pl : Int) (bl : Bool) (n : Nat) (f : Nat → Int) (m : Nat) (g : Nat → Int) (H : PpuOn w D v t c s ad pl bl n f m g) (ok : okPpu t c s ad pl n f m g = false) : Calls Try.prog 21 #[v] w fun e w' => ∃ v' z, e = .returned (.tuple #[v', z, .bool false]) ∧ Ticked w w' v' z 0 0 0 0 0 false 0 f 0 g 0 g := by
  refine (onImplPpuTick w D v t c s ad pl bl n f m g H).mono ?_
  rintro e w' ⟨v', z, rfl, h⟩
  rw [ok] at h ⊢
  exact ⟨v', z, rfl, h⟩
end Go.Proofs.Ytpaedkefmebjjao
