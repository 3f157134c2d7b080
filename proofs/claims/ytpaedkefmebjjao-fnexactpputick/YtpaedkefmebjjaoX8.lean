/-
  Chapter 8 of the specification by its contracts: PpuTick.
-/
import Derived.Test.YtpaedkefmebjjaoT8
namespace Go.Proofs.Ytpaedkefmebjjao
set_option linter.unusedVariables false
set_option linter.unusedSimpArgs false
open Go.ChangeShapes Go.WideShapes Go.ChangeAt Go.RowKit
/-- What PpuTick answers of any picture unit. -/
def TickedAs (ok : Bool) (w W : World) (v u : Value) (t c s ad pl : Int) (bl : Bool) (n : Nat) (f : Nat → Int) (m : Nat) (g : Nat → Int) : Prop :=
  if ok = true then Ticked w W v u (tkT t) c s ad pl (tkB t bl) n f (tkM t m) (tkG t f s pl m g) (tlM t m) g else Ticked w W v u 0 0 0 0 0 false 0 f 0 g 0 g
def TickedAsR (ok : Bool) (w W : World) (v u : Value) (t c s ad pl : Int) (bl : Bool) (n : Nat) (f : Nat → Int) (m : Nat) (g : Nat → Int) : Prop :=
  if ok = true then TickedR w W v u (tkT t) c s ad pl (tkB t bl) n f (tkM t m) (tkG t f s pl m g) (tlM t m) g else Ticked w W v u 0 0 0 0 0 false 0 f 0 g 0 g
theorem TickedAsR.as {ok : Bool} {w W : World} {v u : Value} {t c s ad pl : Int} {bl : Bool} {n : Nat} {f : Nat → Int} {m : Nat} {g : Nat → Int} (h : TickedAsR ok w W v u t c s ad pl bl n f m g) : TickedAs ok w W v u t c s ad pl bl n f m g := by
  cases ok
  · exact h
  · exact TickedR.tk h
theorem DotsOf.keep {R : Nat → Nat → Prop} {W W' : World} {lo lo' p : Nat} {dd : Value} {m : Nat} {g : Nat → Int} (h : DotsOf W lo p dd m g) (hw : Wrote R W W') (hd : ∀ b o, lo ≤ b → ¬ R b o) (hl : lo' ≤ lo) : DotsOf W' lo' p dd m g := by
  rcases h with h | ⟨q, y, e, r, hne⟩
  · exact Or.inl h
  · exact Or.inr ⟨q, y, e, (r.keep hw (fun o => hd q o r.parts.1)).mono hl, hne⟩
def tlNk (ok : Bool) (t c : Int) : Bool := if ok = true then tlN t c else false
set_option maxHeartbeats 2000000 in
theorem specPpuTickR (w : World) (F G : Nat → Nat → Prop) (t c s ad pl : Int) (bl : Bool) (u u' : Value) (n : Nat) (f : Nat → Int) (m : Nat) (g : Nat → Int) (H : Ints .i64 w F u n f) (K : Ints .i64 w G u' m g) :
    Calls Try.prog 20 #[.agg #[.int .i64 t, .int .i64 c, .int .i64 s, .int .i64 ad, .int .i64 pl, .bool bl, u, u']] w fun e w' => ∃ v z, e = .returned (.tuple #[v, z, .bool (tlNk (okPpu t c s ad pl n f m g) t c)]) ∧ TickedAsR (okPpu t c s ad pl n f m g) w w' v z t c s ad pl bl n f m g := by
  obtain ⟨ua, ux, rfl, un, hr, hF⟩ := H
  obtain ⟨va, vx, rfl, vn, hr', hF'⟩ := K
  have H : Ints .i64 w F (.slice ua n ux) n f := ⟨_, _, rfl, un, hr, hF⟩
  have K : Ints .i64 w G (.slice va m vx) m g := ⟨_, _, rfl, vn, hr', hF'⟩
  clear hr hF hr' hF'
  have L0 : Below w.heap.size w ((w.alloc (.cells #[.int .i64 t, .int .i64 c, .int .i64 s, .int .i64 ad, .int .i64 pl, .bool bl, .slice ua n ux, .slice va m vx] 27)).alloc (.cells #[.int .i64 0, .int .i64 0, .int .i64 0, .int .i64 0, .int .i64 0, .bool false, .slice none 0 0, .slice none 0 0] 27)) := ((Below.refl _ _).alloc (Nat.le_refl _) _).alloc (by simp) _
  have k0 : ((w.alloc (.cells #[.int .i64 t, .int .i64 c, .int .i64 s, .int .i64 ad, .int .i64 pl, .bool bl, .slice ua n ux, .slice va m vx] 27)).alloc (.cells #[.int .i64 0, .int .i64 0, .int .i64 0, .int .i64 0, .int .i64 0, .bool false, .slice none 0 0, .slice none 0 0] 27)).heap[w.heap.size]? = some (.cells #[.int .i64 t, .int .i64 c, .int .i64 s, .int .i64 ad, .int .i64 pl, .bool bl, .slice ua n ux, .slice va m vx] 27 (0, 0)) := boxA (box_new w _ _) _
  have k1 : ((w.alloc (.cells #[.int .i64 t, .int .i64 c, .int .i64 s, .int .i64 ad, .int .i64 pl, .bool bl, .slice ua n ux, .slice va m vx] 27)).alloc (.cells #[.int .i64 0, .int .i64 0, .int .i64 0, .int .i64 0, .int .i64 0, .bool false, .slice none 0 0, .slice none 0 0] 27)).heap[w.heap.size + 1]? = some (.cells #[.int .i64 0, .int .i64 0, .int .i64 0, .int .i64 0, .int .i64 0, .bool false, .slice none 0 0, .slice none 0 0] 27 (0, 0)) := by simpa using box_new (w.alloc (.cells #[.int .i64 t, .int .i64 c, .int .i64 s, .int .i64 ad, .int .i64 pl, .bool bl, .slice ua n ux, .slice va m vx] 27)) #[.int .i64 0, .int .i64 0, .int .i64 0, .int .i64 0, .int .i64 0, .bool false, .slice none 0 0, .slice none 0 0] 27
  go_enter Try.func20, Try.ntmps20
  go_wp2_with fail
  generalize ((w.alloc (.cells #[.int .i64 t, .int .i64 c, .int .i64 s, .int .i64 ad, .int .i64 pl, .bool bl, .slice ua n ux, .slice va m vx] 27)).alloc (.cells #[.int .i64 0, .int .i64 0, .int .i64 0, .int .i64 0, .int .i64 0, .bool false, .slice none 0 0, .slice none 0 0] 27)) = W0 at *
  refine (specPpuOk _ F G t c s ad pl bl _ _ n f m g (H.keep (wrote_below L0 Nowhere) (fun _ _ _ x => x)) (K.keep (wrote_below L0 Nowhere) (fun _ _ _ x => x))).mono ?_
  rintro e W1 ⟨rfl, L⟩
  replace k0 := box_keep k0 L (boxLt k0)
  replace k1 := box_keep k1 L (boxLt k1)
  have C1 := below_snoc L0 L
  clear L L0
  have c0 := boxC k0
  have c1 := boxC k1
  have f1 := boxF k1
  cases hok : okPpu t c s ad pl n f m g
  · have HO := hide hok
    clear hok
    have k1' := boxA k1 (.cells #[] 3)
    have q1 := boxC k1'
    have q2 := boxF k1'
    have rr : ∀ j, (((((((((W1.setCell ⟨w.heap.size + 1, 0, none⟩ (.int .i64 0)).setCell ⟨w.heap.size + 1, 1, none⟩ (.int .i64 0)).setCell ⟨w.heap.size + 1, 2, none⟩ (.int .i64 0)).setCell ⟨w.heap.size + 1, 3, none⟩ (.int .i64 0)).setCell ⟨w.heap.size + 1, 4, none⟩ (.int .i64 0)).setCell ⟨w.heap.size + 1, 5, none⟩ (.bool false)).setCell ⟨w.heap.size + 1, 6, none⟩ (.slice none 0 0)).setCell ⟨w.heap.size + 1, 7, none⟩ (.slice none 0 0)).alloc (.cells #[] 3)).cell? ⟨w.heap.size + 1, j, none⟩ = #[.int .i64 0, .int .i64 0, .int .i64 0, .int .i64 0, .int .i64 0, .bool false, .slice none 0 0, .slice none 0 0][j]? := boxC (boxA (put8_box k1 _ _ _ _ _ _ _ _) _)
    have hs := C1.size
    have hl := boxLt k1
    go_wp2
    refine bodyPost_ret (v := .tuple #[.agg #[.int .i64 0, .int .i64 0, .int .i64 0, .int .i64 0, .int .i64 0, .bool false, .slice none 0 0, .slice none 0 0], .slice (some ⟨W1.heap.size, 0, none⟩) 0 0, .bool false]) (by simp [results, Try.results20, go_sem, rr]) rfl ?_
    have fin : ∀ W5, Wrote (fun b _ => b = w.heap.size + 1) W1 W5 → ∃ v z', Ending.returned (.tuple #[.agg #[.int .i64 0, .int .i64 0, .int .i64 0, .int .i64 0, .int .i64 0, .bool false, .slice none 0 0, .slice none 0 0], .slice (some ⟨W1.heap.size, 0, none⟩) 0 0, .bool false]) = .returned (.tuple #[v, z', .bool (tlNk (okPpu t c s ad pl n f m g) t c)]) ∧ TickedAsR (okPpu t c s ad pl n f m g) w W5 v z' t c s ad pl bl n f m g := fun W5 WX => by
      rw [HO.out]
      exact ⟨_, _, rfl, fun _ => False, fun _ => False, ⟨_, _, _, _, rfl, SlOn.nil _, SlOn.nil _, fun b o h => absurd h (foot_none _ _ _)⟩, ⟨_, _, rfl, SlOn.zero _ _⟩, fun b h => absurd h id, fun b h => by rcases h with h | h <;> exact absurd h id, C1.trans (WX.below C1.size (fun b o hb h => by omega))⟩
    refine fin _ ?_
    refine Wrote.alloc ?_ _
    repeat (first | with_reducible exact Wrote.refl _ _ | with_reducible refine Wrote.drew ?_ | with_reducible refine Wrote.setCell ?_ (fun _ => by omega) _)
  · have HO := hide hok
    go_wp2_with fail
    refine (l8Tick _ F G t c s ad pl bl _ _ n f m g (H.keep (wrote_below C1 Nowhere) (fun _ _ _ x => x)) (K.keep (wrote_below C1 Nowhere) (fun _ _ _ x => x)) hok).mono ?_
    rintro e W2 ⟨v, z, rfl, ⟨D, E, h1, h2, h3, h4, L2⟩, pr, px, pd, hpv, hpr, hpd⟩
    clear hok c0 c1 f1
    obtain ⟨a1, x1, a2, x2, rfl⟩ := h1.two
    simp only [Value.agg.injEq, List.toArray_eq_toArray_eq, Array.mk.injEq, List.cons.injEq, and_true, true_and] at hpv
    obtain ⟨hv1, rfl⟩ := hpv
    obtain ⟨a3, x3, rfl, h2'⟩ := id h2.ex
    have k1' := box_keep k1 L2 (boxLt k1)
    have q1 := boxC k1'
    have q2 := boxF k1'
    have hs := C1.size
    have hl := boxLt k1
    have C2 := below_snoc C1 L2
    have fin : ∀ W5, Wrote (fun b _ => b = w.heap.size + 1) W2 W5 → ∃ v z', Ending.returned (.tuple #[.agg #[.int .i64 (tkT t), .int .i64 c, .int .i64 s, .int .i64 ad, .int .i64 pl, .bool (tkB t bl), .slice a1 n x1, .slice a2 (tkM t m) x2], .slice a3 (tlM t m) x3, .bool (tlN t c)]) = .returned (.tuple #[v, z', .bool (tlNk (okPpu t c s ad pl n f m g) t c)]) ∧ TickedAsR (okPpu t c s ad pl n f m g) w W5 v z' t c s ad pl bl n f m g := fun W5 WX => by
      rw [HO.out]
      exact ⟨_, _, rfl, ⟨D, E, h1.keep WX (fun b o hb _ e => by have := h4 b (Or.inl hb); omega), ⟨_, _, rfl, h2'.keep WX (fun b o _ hb _ e => by have := h4 b (Or.inr hb); omega)⟩, h3, fun b h => Nat.le_trans hs (h4 b h), C2.trans (WX.below C2.size (fun b o hb h => by omega))⟩, pr, px, _, by rw [hv1], (hpr.keep WX (fun o e => by have := hpr.parts; omega)).mono hs, hpd.keep WX (fun b o hb e => by omega) hs⟩
    have FIN := hide fin
    clear fin h1 h2 h2' h3 h4 k1 k1' L2 C2 C1 hv1 hpr hpd
    go_wp2
    refine bodyPost_ret (v := .tuple #[.agg #[.int .i64 (tkT t), .int .i64 c, .int .i64 s, .int .i64 ad, .int .i64 pl, .bool (tkB t bl), .slice a1 n x1, .slice a2 (tkM t m) x2], .slice a3 (tlM t m) x3, .bool (tlN t c)]) (by simp [results, Try.results20, go_sem, q1]) rfl ?_
    refine FIN.out _ ?_
    repeat (first | with_reducible exact Wrote.refl _ _ | with_reducible refine Wrote.drew ?_ | with_reducible refine Wrote.setCell ?_ (fun _ => by omega) _)
theorem specPpuTick (w : World) (F G : Nat → Nat → Prop) (t c s ad pl : Int) (bl : Bool) (u u' : Value) (n : Nat) (f : Nat → Int) (m : Nat) (g : Nat → Int) (H : Ints .i64 w F u n f) (K : Ints .i64 w G u' m g) :
    Calls Try.prog 20 #[.agg #[.int .i64 t, .int .i64 c, .int .i64 s, .int .i64 ad, .int .i64 pl, .bool bl, u, u']] w fun e w' => ∃ v z, e = .returned (.tuple #[v, z, .bool (tlNk (okPpu t c s ad pl n f m g) t c)]) ∧ TickedAs (okPpu t c s ad pl n f m g) w w' v z t c s ad pl bl n f m g := by
  refine (specPpuTickR w F G t c s ad pl bl u u' n f m g H K).mono ?_
  rintro e w' ⟨v, z, rfl, h⟩
  exact ⟨v, z, rfl, h.as⟩
end Go.Proofs.Ytpaedkefmebjjao
