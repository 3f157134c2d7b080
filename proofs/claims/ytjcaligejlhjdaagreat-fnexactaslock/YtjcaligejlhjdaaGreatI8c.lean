/-
  The program's picture unit (chapter 8), by its contracts: a copy, a new one.
-/
import Derived.Test.YtjcaligejlhjdaaGreatE8
namespace Go.Proofs.YtjcaligejlhjdaaGreat
set_option linter.unusedVariables false
set_option linter.unusedSimpArgs false
open Go.ChangeShapes Go.WideShapes Go.ChangeAt Go.RowKit
/-- A list that is none (no block), or one that begins a block of its own. -/
def RowAt (W : World) (lo : Nat) : Option Nat → Value → Nat → (Nat → Int) → Prop
  | none, v, n, _ => v = .slice none 0 0 ∧ n = 0
  | some q, v, n, f => ∃ y, v = .slice (some ⟨q, 0, none⟩) n y ∧ Row W lo q n y f
theorem RowAt.keep {R : Nat → Nat → Prop} {W W' : World} {lo : Nat} {o : Option Nat} {v : Value} {n : Nat} {f : Nat → Int} (h : RowAt W lo o v n f) (hw : Wrote R W W') (hd : ∀ q, o = some q → lo ≤ q → q < W.heap.size → ∀ k, ¬ R q k) : RowAt W' lo o v n f := by
  cases o with
  | none => exact h
  | some q =>
    obtain ⟨y, e, r⟩ := h
    exact ⟨y, e, r.keep hw (hd q rfl r.parts.1 r.parts.2.1)⟩
theorem RowAt.below {W W' : World} {lo : Nat} {o : Option Nat} {v : Value} {n : Nat} {f : Nat → Int} (h : RowAt W lo o v n f) (L : Below W.heap.size W W') : RowAt W' lo o v n f := h.keep (wrote_below L Nowhere) (fun _ _ _ _ _ x => x)
theorem RowAt.mono {W : World} {lo lo' : Nat} {o : Option Nat} {v : Value} {n : Nat} {f : Nat → Int} (h : RowAt W lo o v n f) (hl : lo' ≤ lo) : RowAt W lo' o v n f := by
  cases o with
  | none => exact h
  | some q =>
    obtain ⟨y, e, r⟩ := h
    exact ⟨y, e, r.mono hl⟩
theorem RowAt.lt {W : World} {lo q : Nat} {v : Value} {n : Nat} {f : Nat → Int} (h : RowAt W lo (some q) v n f) : lo ≤ q ∧ q < W.heap.size := by
  obtain ⟨y, e, r⟩ := h
  exact ⟨r.parts.1, r.parts.2.1⟩
theorem RowAt.sl {W : World} {lo : Nat} {o : Option Nat} {v : Value} {n : Nat} {f : Nat → Int} (h : RowAt W lo o v n f) : ∃ a x, v = .slice a n x ∧ SlOn W (fun b => o = some b) a n f := by
  cases o with
  | none =>
    obtain ⟨rfl, rfl⟩ := h
    exact ⟨_, _, rfl, SlOn.nil _⟩
  | some q =>
    obtain ⟨y, rfl, r⟩ := h
    exact ⟨_, _, rfl, r.onD rfl⟩
theorem RowAt.form {W : World} {lo : Nat} {o : Option Nat} {v : Value} {n : Nat} {f : Nat → Int} (h : RowAt W lo o v n f) : ∃ a x, v = .slice a n x := by
  obtain ⟨a, x, e, -⟩ := h.sl
  exact ⟨a, x, e⟩
theorem RowAt.ints {W : World} {lo : Nat} {o : Option Nat} {v : Value} {n : Nat} {f : Nat → Int} (h : RowAt W lo o v n f) : Ints .i64 W (On (fun b => o = some b)) v n f := by
  obtain ⟨a, x, rfl, r⟩ := h.sl
  exact r.ints x
/-- Two lists of blocks of their own. -/
def Two (o o' : Option Nat) : Prop := ∀ q, o = some q → ¬ o' = some q
theorem ppuOn_at {W : World} {lo : Nat} {o o' : Option Nat} {v v' : Value} {n m : Nat} {f g : Nat → Int} {t c s ad pl : Int} {bl : Bool} (h1 : RowAt W lo o v n f) (h2 : RowAt W lo o' v' m g) (h3 : Two o o') :
    PpuOn W (fun b => o = some b ∨ o' = some b) (.agg #[.int .i64 t, .int .i64 c, .int .i64 s, .int .i64 ad, .int .i64 pl, .bool bl, v, v']) t c s ad pl bl n f m g := by
  obtain ⟨a, x, rfl, r1⟩ := h1.sl
  obtain ⟨b, y, rfl, r2⟩ := h2.sl
  exact ⟨_, _, _, _, rfl, r1.mono (fun b _ h => Or.inl h), r2.mono (fun b _ h => Or.inr h), apart_on r1 r2 (fun b h => h3 b h)⟩
theorem at_lo {W : World} {lo : Nat} {o o' : Option Nat} {v v' : Value} {n m : Nat} {f g : Nat → Int} (h1 : RowAt W lo o v n f) (h2 : RowAt W lo o' v' m g) : ∀ b, (o = some b ∨ o' = some b) → lo ≤ b := fun b h => by
  rcases h with rfl | rfl
  · exact h1.lt.1
  · exact h2.lt.1
theorem cloneRow (w : World) (G : Nat → Nat → Prop) (u : Value) (n : Nat) (g : Nat → Int) (K : Ints .i64 w G u n g) :
    Calls Tryz.prog 98 #[u] w fun e w' => ∃ v o, e = .returned v ∧ RowAt w' w.heap.size o v n g ∧ Below w.heap.size w w' := by
  obtain ⟨ua, ucap, rfl, un, hrow, hG⟩ := K
  have hq : ∀ W : World, (binOp .eql 25 (.slice ua n ucap) (.slice none 0 0)).run Tryz.prog W = .ok (.bool ua.isNone) W := fun W => Lib.run_eql_slice_nil W 25 3 ua n ucap 0 0 Tryz.underlying25
  cases ua with
  | none =>
    have hq' : ∀ W : World, (binOp .eql 25 (.slice none n ucap) (.slice none 0 0)).run Tryz.prog W = .ok (.bool true) W := hq
    clear hq
    have hn : n = 0 := by
      rcases Nat.eq_zero_or_pos n with h | h
      · exact h
      · obtain ⟨b, off, e, -⟩ := hrow 0 h
        cases e
    subst hn
    clear hrow
    go_enter Tryz.func98, Tryz.ntmps98
    go_wp2
    go_ret
    exact ⟨_, none, rfl, ⟨rfl, rfl⟩, Below.refl _ _⟩
  | some ua =>
    have hq' : ∀ W : World, (binOp .eql 25 (.slice (some ua) n ucap) (.slice none 0 0)).run Tryz.prog W = .ok (.bool false) W := hq
    clear hq
    have K : Ints .i64 w G (.slice (some ua) n ucap) n g := ⟨_, _, rfl, un, hrow, hG⟩
    clear hrow hG
    have L0 : Below w.heap.size w (w.alloc (.cells #[] 3)) := (Below.refl _ _).alloc (Nat.le_refl _) _
    have k0 := box_new w #[] 3
    go_enter Tryz.func98, Tryz.ntmps98
    go_wp2_with (at_builtin; refine wpList_copy _ rfl _ _ rfl w.heap.size rfl k0 w.heap.size (Nat.le_refl _) G (.slice (some ua) n ucap) n g rfl (K.keep (wrote_below L0 Nowhere) (fun _ _ _ x => x)) ?_)
    rintro p x W2 R2 L2 hp
    have L3 := L0.trans (L2.mono (by omega))
    have HR := hide R2
    clear L0 L2 R2
    go_wp2
    go_ret
    exact ⟨_, some p, rfl, ⟨_, rfl, HR.out⟩, L3⟩
set_option maxHeartbeats 1000000 in
theorem copyPpu (w : World) (F G : Nat → Nat → Prop) (t c s ad pl : Int) (bl : Bool) (u u' : Value) (n : Nat) (f : Nat → Int) (m : Nat) (g : Nat → Int) (H : Ints .i64 w F u n f) (K : Ints .i64 w G u' m g) :
    Calls Tryz.prog 70 #[.agg #[.int .i64 t, .int .i64 c, .int .i64 s, .int .i64 ad, .int .i64 pl, .bool bl, u, u']] w fun e w' => ∃ v v' o o', e = .returned (.agg #[.int .i64 t, .int .i64 c, .int .i64 s, .int .i64 ad, .int .i64 pl, .bool bl, v, v']) ∧ RowAt w' w.heap.size o v n f ∧ RowAt w' w.heap.size o' v' m g ∧ Two o o' ∧ Below w.heap.size w w' := by
  obtain ⟨ua, ux, rfl, un, hr, hF⟩ := H
  obtain ⟨va, vx, rfl, vn, hr', hF'⟩ := K
  have H : Ints .i64 w F (.slice ua n ux) n f := ⟨_, _, rfl, un, hr, hF⟩
  have K : Ints .i64 w G (.slice va m vx) m g := ⟨_, _, rfl, vn, hr', hF'⟩
  clear hr hF hr' hF'
  have L0 : Below w.heap.size w ((w.alloc (.cells #[.int .i64 t, .int .i64 c, .int .i64 s, .int .i64 ad, .int .i64 pl, .bool bl, .slice ua n ux, .slice va m vx] 35)).alloc (.cells #[.int .i64 0, .int .i64 0, .int .i64 0, .int .i64 0, .int .i64 0, .bool false, .slice none 0 0, .slice none 0 0] 35)) := ((Below.refl _ _).alloc (Nat.le_refl _) _).alloc (by simp) _
  have k0 : ((w.alloc (.cells #[.int .i64 t, .int .i64 c, .int .i64 s, .int .i64 ad, .int .i64 pl, .bool bl, .slice ua n ux, .slice va m vx] 35)).alloc (.cells #[.int .i64 0, .int .i64 0, .int .i64 0, .int .i64 0, .int .i64 0, .bool false, .slice none 0 0, .slice none 0 0] 35)).heap[w.heap.size]? = some (.cells #[.int .i64 t, .int .i64 c, .int .i64 s, .int .i64 ad, .int .i64 pl, .bool bl, .slice ua n ux, .slice va m vx] 35 (0, 0)) := boxA (box_new w _ _) _
  have k1 : ((w.alloc (.cells #[.int .i64 t, .int .i64 c, .int .i64 s, .int .i64 ad, .int .i64 pl, .bool bl, .slice ua n ux, .slice va m vx] 35)).alloc (.cells #[.int .i64 0, .int .i64 0, .int .i64 0, .int .i64 0, .int .i64 0, .bool false, .slice none 0 0, .slice none 0 0] 35)).heap[w.heap.size + 1]? = some (.cells #[.int .i64 0, .int .i64 0, .int .i64 0, .int .i64 0, .int .i64 0, .bool false, .slice none 0 0, .slice none 0 0] 35 (0, 0)) := by simpa using box_new (w.alloc (.cells #[.int .i64 t, .int .i64 c, .int .i64 s, .int .i64 ad, .int .i64 pl, .bool bl, .slice ua n ux, .slice va m vx] 35)) #[.int .i64 0, .int .i64 0, .int .i64 0, .int .i64 0, .int .i64 0, .bool false, .slice none 0 0, .slice none 0 0] 35
  go_enter Tryz.func70, Tryz.ntmps70
  go_wp2_with fail
  generalize ((w.alloc (.cells #[.int .i64 t, .int .i64 c, .int .i64 s, .int .i64 ad, .int .i64 pl, .bool bl, .slice ua n ux, .slice va m vx] 35)).alloc (.cells #[.int .i64 0, .int .i64 0, .int .i64 0, .int .i64 0, .int .i64 0, .bool false, .slice none 0 0, .slice none 0 0] 35)) = W0 at *
  refine (cloneRow _ F _ n f (H.keep (wrote_below L0 Nowhere) (fun _ _ _ x => x))).mono ?_
  rintro e W1 ⟨v, o, rfl, R1, L1⟩
  have z0 := boxLt k1
  have z1 := L1.size
  have C1 := below_snoc L0 L1
  replace k0 := box_keep k0 L1 (boxLt k0)
  replace k1 := box_keep k1 L1 (boxLt k1)
  have c0 := boxC k0
  have f0 := boxF k0
  obtain ⟨ra, rx, hv⟩ := R1.form
  subst hv
  clear L1
  go_wp2_with fail
  have WS : Wrote (fun b _ => b = w.heap.size) W1 (W1.setCell ⟨w.heap.size, 6, none⟩ (.slice ra n rx)) := Wrote.setCell (R := fun b _ => b = w.heap.size) (Wrote.refl _ W1) (fun _ => rfl) _
  have j0 := box_set (o := 6) k0 (.slice ra n rx)
  simp only [List.setIfInBounds_toArray, List.set_cons_succ, List.set_cons_zero] at j0
  have j1 := box_set_ne8 (o := 6) (x := .slice ra n rx) k1 (show w.heap.size + 1 ≠ w.heap.size by omega)
  have C2 := C1.setCell (p := ⟨w.heap.size, 6, none⟩) (Nat.le_refl _) (.slice ra n rx)
  have S1 := R1.keep WS (fun q _ h1 _ _ h2 => by omega)
  have zz : (W1.setCell ⟨w.heap.size, 6, none⟩ (.slice ra n rx)).heap.size = W1.heap.size := by simp
  clear c0 f0 k0 k1 C1 R1 WS L0
  generalize W1.setCell ⟨w.heap.size, 6, none⟩ (.slice ra n rx) = W2 at *
  refine (cloneRow _ G _ m g (K.keep (wrote_below C2 Nowhere) (fun _ _ _ x => x))).mono ?_
  rintro e W3 ⟨v', o', rfl, R3, L3⟩
  have S3 := S1.below L3
  have C3 := below_snoc C2 L3
  have HT : Hid (Two o o') := fun q e1 e2 => by
    subst e1 e2
    have h1 := S1.lt
    have h2 := R3.lt
    omega
  obtain ⟨ta, tx, hv⟩ := R3.form
  subst hv
  replace j0 := box_keep j0 L3 (boxLt j0)
  replace j1 := box_keep j1 L3 (boxLt j1)
  have c0 := boxC j0
  have c1 := boxC j1
  have f0 := boxF j0
  have f1 := boxF j1
  have key : ∀ W5, Wrote (fun b _ => b = w.heap.size ∨ b = w.heap.size + 1) W3 W5 → RowAt W5 w.heap.size o (.slice ra n rx) n f ∧ RowAt W5 w.heap.size o' (.slice ta m tx) m g ∧ Two o o' ∧ Below w.heap.size w W5 := fun W5 WW =>
    ⟨(S3.keep WW (fun q _ h1 _ _ h2 => by omega)).mono (by omega), (R3.keep WW (fun q _ h1 _ _ h2 => by omega)).mono (by omega), HT.out, C3.trans (WW.below C3.size (fun b o hb h => by omega))⟩
  have KEY := hide key
  clear key S1 S3 R3 C2 C3 L3 j0 j1 H K
  go_wp2
  refine bodyPost_ret (v := .agg #[.int .i64 t, .int .i64 c, .int .i64 s, .int .i64 ad, .int .i64 pl, .bool bl, .slice ra n rx, .slice ta m tx]) (by simp [results, Tryz.results70, go_sem, c1]) rfl ?_
  refine ⟨_, _, _, _, rfl, KEY.out _ ?_⟩
  iterate 9 (refine Wrote.setCell ?_ (fun _ => by omega) _)
  exact Wrote.refl _ _
end Go.Proofs.YtjcaligejlhjdaaGreat
