/-
  Chapter 8's mirror of a picture unit: sizes, copies, comparisons, marks; a picture unit as a thing that lies on blocks of a kind.
-/
import Derived.Test.YtjcaligejlhjdaaGreatU0
namespace Go.Proofs.YtjcaligejlhjdaaGreat
set_option linter.unusedVariables false
open Go.ChangeShapes Go.WideShapes Go.ChangeAt Go.RowKit
/-- A list of numbers on blocks of a kind. -/
structure SlOn (W : World) (D : Nat → Prop) (a : Option Addr) (n : Nat) (f : Nat → Int) : Prop where
  small : n ≤ 1048576
  row : RowOf .i64 W a n f
  free : Free W (Foot a n)
  on : ∀ b o, Foot a n b o → D b
theorem SlOn.keep {R : Nat → Nat → Prop} {W W' : World} {D : Nat → Prop} {a : Option Addr} {n : Nat} {f : Nat → Int} (h : SlOn W D a n f) (hw : Wrote R W W') (hd : ∀ b o, Foot a n b o → D b → b < W.heap.size → ¬ R b o) : SlOn W' D a n f :=
  ⟨h.small, h.row.keep hw (fun b o hf => hd b o hf (h.on b o hf) (h.free b o hf).1), h.free.keep hw, h.on⟩
theorem SlOn.wr {R : Nat → Nat → Prop} {W W' : World} {D : Nat → Prop} {p i n : Nat} {f : Nat → Int} (h : SlOn W D (some ⟨p, i, none⟩) n f) (hw : Wrote R W W') (hd : ∀ o, ¬ R p o) : SlOn W' D (some ⟨p, i, none⟩) n f :=
  h.keep hw (fun b o ⟨off, e, _, _⟩ _ _ => by
    simp only [Option.some.injEq, Addr.mk.injEq] at e
    obtain ⟨rfl, -, -⟩ := e
    exact hd o)
theorem SlOn.mono {W : World} {D E : Nat → Prop} {a : Option Addr} {n : Nat} {f : Nat → Int} (h : SlOn W D a n f) (hd : ∀ b, b < W.heap.size → D b → E b) : SlOn W E a n f :=
  ⟨h.small, h.row, h.free, fun b o hf => hd b (h.free b o hf).1 (h.on b o hf)⟩
theorem SlOn.ints {W : World} {D : Nat → Prop} {a : Option Addr} {n : Nat} {f : Nat → Int} (h : SlOn W D a n f) (c : Nat) : Ints .i64 W (On D) (.slice a n c) n f := ⟨a, c, rfl, h.small, h.row, h.on⟩
theorem SlOn.congr {W : World} {D : Nat → Prop} {a : Option Addr} {n : Nat} {f g : Nat → Int} (h : SlOn W D a n f) (e : ∀ i, i < n → f i = g i) : SlOn W D a n g := ⟨h.small, h.row.congr e, h.free, h.on⟩
theorem SlOn.own {W : World} {lo : Nat} {a : Option Addr} {n c : Nat} {f : Nat → Int} (h : OwnInts W lo (.slice a n c) n f) : SlOn W (fun b => lo ≤ b) a n f := by
  obtain ⟨a', c', e, hn, hr, hF, hD⟩ := h
  simp only [Value.slice.injEq, true_and] at e
  obtain ⟨rfl, rfl⟩ := e
  exact ⟨hn, hr, hF, hD⟩
theorem SlOn.fresh {W : World} {p n lo : Nat} {f : Nat → Int} (hr : W.rowIs p 3 n (fun i => .int .i64 (f i))) (hn : n ≤ 1048576) (hp : lo ≤ p) : SlOn W (fun b => lo ≤ b) (some ⟨p, 0, none⟩) n f :=
  ⟨hn, rowOf_row hr, fun b o ⟨off, e, _, _⟩ => by
    simp only [Option.some.injEq, Addr.mk.injEq] at e
    obtain ⟨rfl, -, -⟩ := e
    exact ⟨hr.lt, hr.frozen _⟩, fun b o ⟨off, e, _, _⟩ => by
    simp only [Option.some.injEq, Addr.mk.injEq] at e
    obtain ⟨rfl, -, -⟩ := e
    exact hp⟩
/-- Two lists that share no cell. -/
def Apart (a : Option Addr) (n : Nat) (a' : Option Addr) (n' : Nat) : Prop := ∀ b o, Foot a n b o → ¬ Foot a' n' b o
theorem Apart.symm {a a' : Option Addr} {n n' : Nat} (h : Apart a n a' n') : Apart a' n' a n := fun b o x y => h b o y x
theorem apart_blocks {p q n m : Nat} {i j : Nat} (h : p ≠ q) : Apart (some ⟨p, i, none⟩) n (some ⟨q, j, none⟩) m := by
  rintro b o ⟨off, e, _, _⟩ ⟨off', e', _, _⟩
  simp only [Option.some.injEq, Addr.mk.injEq] at e e'
  exact h (e.1.trans e'.1.symm)
theorem apart_on {W W' : World} {D E : Nat → Prop} {a a' : Option Addr} {n n' : Nat} {f g : Nat → Int} (h : SlOn W D a n f) (k : SlOn W' E a' n' g) (hd : ∀ b, D b → ¬ E b) : Apart a n a' n' := fun b o x y => hd b (h.on b o x) (k.on b o y)
/-- A picture unit on blocks of a kind. -/
structure PpuOn (W : World) (D : Nat → Prop) (v : Value) (t c s ad pl : Int) (bl : Bool) (n : Nat) (f : Nat → Int) (m : Nat) (g : Nat → Int) : Prop where
  ex : ∃ a x b y, v = .agg #[.int .i64 t, .int .i64 c, .int .i64 s, .int .i64 ad, .int .i64 pl, .bool bl, .slice a n x, .slice b m y] ∧ SlOn W D a n f ∧ SlOn W D b m g ∧ Apart a n b m
section
variable {R : Nat → Nat → Prop} {W W' : World} {D E : Nat → Prop} {v : Value} {t c s ad pl : Int} {bl : Bool} {n m : Nat} {f g : Nat → Int}
theorem PpuOn.keep (h : PpuOn W D v t c s ad pl bl n f m g) (hw : Wrote R W W') (hd : ∀ b o, D b → b < W.heap.size → ¬ R b o) : PpuOn W' D v t c s ad pl bl n f m g := by
  obtain ⟨a, x, b, y, e, h1, h2, h3⟩ := h
  exact ⟨a, x, b, y, e, h1.keep hw (fun b o _ => hd b o), h2.keep hw (fun b o _ => hd b o), h3⟩
theorem PpuOn.below (h : PpuOn W D v t c s ad pl bl n f m g) (L : Below W.heap.size W W') : PpuOn W' D v t c s ad pl bl n f m g := h.keep (wrote_below L Nowhere) (fun _ _ _ _ x => x)
theorem PpuOn.mono (h : PpuOn W D v t c s ad pl bl n f m g) (hd : ∀ b, b < W.heap.size → D b → E b) : PpuOn W E v t c s ad pl bl n f m g := by
  obtain ⟨a, x, b, y, e, h1, h2, h3⟩ := h
  exact ⟨a, x, b, y, e, h1.mono hd, h2.mono hd, h3⟩
theorem PpuOn.two (h : PpuOn W D v t c s ad pl bl n f m g) : ∃ a x b y, v = .agg #[.int .i64 t, .int .i64 c, .int .i64 s, .int .i64 ad, .int .i64 pl, .bool bl, .slice a n x, .slice b m y] := by
  obtain ⟨a, x, b, y, e, -⟩ := h
  exact ⟨a, x, b, y, e⟩
theorem PpuOn.ints (h : PpuOn W D v t c s ad pl bl n f m g) : ∃ u u', v = .agg #[.int .i64 t, .int .i64 c, .int .i64 s, .int .i64 ad, .int .i64 pl, .bool bl, u, u'] ∧ Ints .i64 W (On D) u n f ∧ Ints .i64 W (On D) u' m g := by
  obtain ⟨a, x, b, y, e, h1, h2, h3⟩ := h
  exact ⟨_, _, e, h1.ints x, h2.ints y⟩
end
theorem below_drewN {n : Nat} {w W : World} (L : Below n w W) (d : Nat) : Below n w (W.drewN d) := L.trans ⟨rfl, rfl, rfl, Nat.le_refl _, fun _ _ => rfl⟩
theorem box_set_ne8 {w : World} {b d o : Nat} {ob : Obj} {x : Value} (h : w.heap[b]? = some ob) (hd : b ≠ d) : (w.setCell ⟨d, o, none⟩ x).heap[b]? = some ob :=
  ((Wrote.setCell (R := fun b' _ => b' = d) (Wrote.refl _ w) (fun _ => rfl) x).block b (boxLt h) (fun _ e => hd e)).trans h
theorem szOut_two {left : Int} {n m : Nat} (h : (n : Int) ≤ left) : szOut (left - n) m = szOut left (n + m) := by
  unfold szOut
  by_cases e : left - n < m
  · rw [if_pos e, if_pos (by omega)]
  · rw [if_neg e, if_neg (by omega)]; omega
theorem szOut_one {left : Int} {n m : Nat} (h : left < n) : szOut left (n + m) = -1 := szOut_no (by omega)
theorem szPpu (w : World) (t c s ad pl : Int) (bl : Bool) (a : Option Addr) (n x : Nat) (b : Option Addr) (m y : Nat) (left : Int) (h1 : n ≤ 9223372036854775807) (h1' : m ≤ 9223372036854775807) (h0 : 0 ≤ left) (h2 : left ≤ 1048576) :
    Calls Tryz.prog 105 #[.agg #[.int .i64 t, .int .i64 c, .int .i64 s, .int .i64 ad, .int .i64 pl, .bool bl, .slice a n x, .slice b m y], .int .i64 left] w fun e w' => e = .returned (.int .i64 (szOut left (n + m))) ∧ Below w.heap.size w w' := by
  have L0 : ∀ o, Below w.heap.size w (w.alloc o) := fun o => (Below.refl _ _).alloc (Nat.le_refl _) _
  by_cases h : left < n
  · have HS := hide (szOut_no h)
    have HT := hide (szOut_one (m := m) h)
    go_enter Tryz.func105, Tryz.ntmps105
    go_wp2_with fail
    refine (szIntS _ _ _ _ _ (by omega) h0 h2).mono ?_
    rintro e w1 ⟨rfl, rfl⟩
    rw [HS.out]
    go_wp2
    go_ret
    exact ⟨ret_int HT.out.symm, L0 _⟩
  · have HS := hide (szOut_ok (show (n : Int) ≤ left by omega))
    have HT := hide (szOut_two (m := m) (show (n : Int) ≤ left by omega))
    have hn : ¬ (left - (n : Int) < 0) := by omega
    have hr : szOut left (n + m) < 0 → szOut left (n + m) = -1 := fun hh => by
      unfold szOut at *
      split
      · rfl
      · rename_i q; rw [if_neg q] at hh; omega
    have HR := hide hr
    clear hr
    go_enter Tryz.func105, Tryz.ntmps105
    go_wp2_with fail
    refine (szIntS _ _ _ _ _ (by omega) h0 h2).mono ?_
    rintro e w1 ⟨rfl, rfl⟩
    rw [HS.out]
    go_wp2_with fail
    refine (szIntS _ _ _ _ _ (by omega) (by omega) (by omega)).mono ?_
    rintro e w1 ⟨rfl, rfl⟩
    rw [HT.out]
    by_cases hq : szOut left (n + m) < 0
    · have HQ := hide (HR.out hq)
      go_wp2
      go_ret
      exact ⟨ret_int HQ.out.symm, L0 _⟩
    · go_wp2
      go_ret
      exact ⟨rfl, L0 _⟩
set_option maxHeartbeats 1000000 in
theorem toPpu (w : World) (F G : Nat → Nat → Prop) (t c s ad pl : Int) (bl : Bool) (u u' : Value) (n : Nat) (f : Nat → Int) (m : Nat) (g : Nat → Int) (H : Ints .i64 w F u n f) (K : Ints .i64 w G u' m g) :
    Calls Tryz.prog 108 #[.agg #[.int .i64 t, .int .i64 c, .int .i64 s, .int .i64 ad, .int .i64 pl, .bool bl, u, u']] w fun e w' => ∃ v, e = .returned v ∧ PpuOn w' (fun b => w.heap.size ≤ b) v t c s ad pl bl n f m g ∧ Below w.heap.size w w' := by
  obtain ⟨ua, ux, rfl, un, -, -⟩ := id H
  obtain ⟨va, vx, rfl, vn, -, -⟩ := id K
  have L0 : Below w.heap.size w (((w.alloc (.cells #[.int .i64 t, .int .i64 c, .int .i64 s, .int .i64 ad, .int .i64 pl, .bool bl, .slice ua n ux, .slice va m vx] 61)).alloc (.cells #[.int .i64 0, .int .i64 0, .int .i64 0, .int .i64 0, .int .i64 0, .bool false, .slice none 0 0, .slice none 0 0] 35)).alloc (.cells #[.int .i64 t, .int .i64 c, .int .i64 s, .int .i64 ad, .int .i64 pl, .bool bl, .slice none 0 0, .slice none 0 0] 35)) := (((Below.refl _ _).alloc (Nat.le_refl _) _).alloc (by simp) _).alloc (by simp; omega) _
  have k0 : (((w.alloc (.cells #[.int .i64 t, .int .i64 c, .int .i64 s, .int .i64 ad, .int .i64 pl, .bool bl, .slice ua n ux, .slice va m vx] 61)).alloc (.cells #[.int .i64 0, .int .i64 0, .int .i64 0, .int .i64 0, .int .i64 0, .bool false, .slice none 0 0, .slice none 0 0] 35)).alloc (.cells #[.int .i64 t, .int .i64 c, .int .i64 s, .int .i64 ad, .int .i64 pl, .bool bl, .slice none 0 0, .slice none 0 0] 35)).heap[w.heap.size]? = some (.cells #[.int .i64 t, .int .i64 c, .int .i64 s, .int .i64 ad, .int .i64 pl, .bool bl, .slice ua n ux, .slice va m vx] 61 (0, 0)) := boxA (boxA (box_new w _ _) _) _
  have k1 : (((w.alloc (.cells #[.int .i64 t, .int .i64 c, .int .i64 s, .int .i64 ad, .int .i64 pl, .bool bl, .slice ua n ux, .slice va m vx] 61)).alloc (.cells #[.int .i64 0, .int .i64 0, .int .i64 0, .int .i64 0, .int .i64 0, .bool false, .slice none 0 0, .slice none 0 0] 35)).alloc (.cells #[.int .i64 t, .int .i64 c, .int .i64 s, .int .i64 ad, .int .i64 pl, .bool bl, .slice none 0 0, .slice none 0 0] 35)).heap[w.heap.size + 1]? = some (.cells #[.int .i64 0, .int .i64 0, .int .i64 0, .int .i64 0, .int .i64 0, .bool false, .slice none 0 0, .slice none 0 0] 35 (0, 0)) := by simpa using boxA (box_new (w.alloc (.cells #[.int .i64 t, .int .i64 c, .int .i64 s, .int .i64 ad, .int .i64 pl, .bool bl, .slice ua n ux, .slice va m vx] 61)) #[.int .i64 0, .int .i64 0, .int .i64 0, .int .i64 0, .int .i64 0, .bool false, .slice none 0 0, .slice none 0 0] 35) (.cells #[.int .i64 t, .int .i64 c, .int .i64 s, .int .i64 ad, .int .i64 pl, .bool bl, .slice none 0 0, .slice none 0 0] 35)
  have k2 : (((w.alloc (.cells #[.int .i64 t, .int .i64 c, .int .i64 s, .int .i64 ad, .int .i64 pl, .bool bl, .slice ua n ux, .slice va m vx] 61)).alloc (.cells #[.int .i64 0, .int .i64 0, .int .i64 0, .int .i64 0, .int .i64 0, .bool false, .slice none 0 0, .slice none 0 0] 35)).alloc (.cells #[.int .i64 t, .int .i64 c, .int .i64 s, .int .i64 ad, .int .i64 pl, .bool bl, .slice none 0 0, .slice none 0 0] 35)).heap[w.heap.size + 1 + 1]? = some (.cells #[.int .i64 t, .int .i64 c, .int .i64 s, .int .i64 ad, .int .i64 pl, .bool bl, .slice none 0 0, .slice none 0 0] 35 (0, 0)) := by simpa using box_new ((w.alloc (.cells #[.int .i64 t, .int .i64 c, .int .i64 s, .int .i64 ad, .int .i64 pl, .bool bl, .slice ua n ux, .slice va m vx] 61)).alloc (.cells #[.int .i64 0, .int .i64 0, .int .i64 0, .int .i64 0, .int .i64 0, .bool false, .slice none 0 0, .slice none 0 0] 35)) #[.int .i64 t, .int .i64 c, .int .i64 s, .int .i64 ad, .int .i64 pl, .bool bl, .slice none 0 0, .slice none 0 0] 35
  go_enter Tryz.func108, Tryz.ntmps108
  go_wp2_with fail
  generalize (((w.alloc (.cells #[.int .i64 t, .int .i64 c, .int .i64 s, .int .i64 ad, .int .i64 pl, .bool bl, .slice ua n ux, .slice va m vx] 61)).alloc (.cells #[.int .i64 0, .int .i64 0, .int .i64 0, .int .i64 0, .int .i64 0, .bool false, .slice none 0 0, .slice none 0 0] 35)).alloc (.cells #[.int .i64 t, .int .i64 c, .int .i64 s, .int .i64 ad, .int .i64 pl, .bool bl, .slice none 0 0, .slice none 0 0] 35)) = W0 at *
  refine (toIntS _ F _ n f (H.keep (wrote_below L0 Nowhere) (fun _ _ _ x => x))).mono ?_
  rintro e W1 ⟨rfl, hr, hs, L⟩
  have z0 := boxLt k2
  obtain ⟨p, hp⟩ : ∃ p, Hid (p = W0.heap.size) := ⟨_, rfl⟩
  rw [← hp.out] at hr hs ⊢
  have L1 := below_snoc L0 L
  replace k0 := box_keep k0 L (boxLt k0)
  replace k1 := box_keep k1 L (boxLt k1)
  replace k2 := box_keep k2 L (boxLt k2)
  have pz : w.heap.size + 1 + 1 < p := by rw [hp.out]; exact z0
  clear L L0 z0 hp
  have j0 := box_set_ne8 (o := 6) (x := .slice (some ⟨p, 0, none⟩) n n) k0 (show w.heap.size ≠ w.heap.size + 1 + 1 by omega)
  have j1 := box_set_ne8 (o := 6) (x := .slice (some ⟨p, 0, none⟩) n n) k1 (show w.heap.size + 1 ≠ w.heap.size + 1 + 1 by omega)
  have j2 := box_set (o := 6) k2 (.slice (some ⟨p, 0, none⟩) n n)
  have M1 := L1.setCell (p := ⟨w.heap.size + 1 + 1, 6, none⟩) (by show w.heap.size ≤ w.heap.size + 1 + 1; omega) (.slice (some ⟨p, 0, none⟩) n n)
  have r1 := (SlOn.fresh hr un (show w.heap.size ≤ p by omega)).wr (Wrote.setCell (b := w.heap.size + 1 + 1) (o := 6) (R := fun b _ => b = w.heap.size + 1 + 1) (Wrote.refl _ W1) (fun _ => rfl) (.slice (some ⟨p, 0, none⟩) n n)) (fun o => show ¬ p = w.heap.size + 1 + 1 by omega)
  have s1 : (W1.setCell ⟨w.heap.size + 1 + 1, 6, none⟩ (.slice (some ⟨p, 0, none⟩) n n)).heap.size = p + 1 := by simpa using hs
  have c0 := boxC k0
  have c2 := boxC k2
  have f2 := boxF k2
  go_wp2_with fail
  clear c0 c2 f2 k0 k1 k2 L1 hr hs
  generalize W1.setCell ⟨w.heap.size + 1 + 1, 6, none⟩ (.slice (some ⟨p, 0, none⟩) n n) = W2 at *
  refine (toIntS _ G _ m g (K.keep (wrote_below M1 Nowhere) (fun _ _ _ x => x))).mono ?_
  rintro e W3 ⟨rfl, hr, hs, L⟩
  rw [s1] at hr hs ⊢
  have L3 := below_snoc M1 L
  replace j0 := box_keep j0 L (boxLt j0)
  replace j1 := box_keep j1 L (boxLt j1)
  replace j2 := box_keep j2 L (boxLt j2)
  replace r1 := r1.wr (wrote_below L Nowhere) (fun _ x => x)
  have r2 := SlOn.fresh hr vn (show w.heap.size ≤ p + 1 by omega)
  clear L M1 s1
  simp only [List.setIfInBounds_toArray, List.set_cons_succ, List.set_cons_zero] at j2
  have c0 := boxC j0
  have c1 := boxC j1
  have c2 := boxC j2
  have f1 := boxF j1
  have f2 := boxF j2
  have HR := hide (And.intro r1 r2)
  clear r1 r2 hr hs j0 j1 j2
  go_wp2
  refine bodyPost_ret (v := .agg #[.int .i64 t, .int .i64 c, .int .i64 s, .int .i64 ad, .int .i64 pl, .bool bl, .slice (some ⟨p, 0, none⟩) n n, .slice (some ⟨p + 1, 0, none⟩) m m]) (by simp [results, Tryz.results108, go_sem, c1]) rfl ?_
  have key : ∀ W4, Wrote (fun b _ => b = w.heap.size + 1 ∨ b = w.heap.size + 1 + 1) W3 W4 → PpuOn W4 (fun b => w.heap.size ≤ b) (.agg #[.int .i64 t, .int .i64 c, .int .i64 s, .int .i64 ad, .int .i64 pl, .bool bl, .slice (some ⟨p, 0, none⟩) n n, .slice (some ⟨p + 1, 0, none⟩) m m]) t c s ad pl bl n f m g ∧ Below w.heap.size w W4 := fun W4 WW =>
    ⟨⟨_, _, _, _, rfl, HR.out.1.wr WW (fun _ h => by omega), HR.out.2.wr WW (fun _ h => by omega), apart_blocks (by omega)⟩, L3.trans (WW.below L3.size (fun b o hb h => by omega))⟩
  refine ⟨_, rfl, key _ ?_⟩
  iterate 9 (refine Wrote.setCell ?_ (fun _ => by omega) _)
  exact Wrote.refl _ _
theorem eqPpu_same (w : World) (F G F' G' : Nat → Nat → Prop) (t c s ad pl : Int) (bl : Bool) (u u' z z' : Value) (n : Nat) (f : Nat → Int) (m : Nat) (g : Nat → Int) (H : Ints .i64 w F u n f) (K : Ints .i64 w G u' m g) (H' : Ints .i64 w F' z n f) (K' : Ints .i64 w G' z' m g) :
    Calls Tryz.prog 72 #[.agg #[.int .i64 t, .int .i64 c, .int .i64 s, .int .i64 ad, .int .i64 pl, .bool bl, u, u'], .agg #[.int .i64 t, .int .i64 c, .int .i64 s, .int .i64 ad, .int .i64 pl, .bool bl, z, z']] w fun e w' => e = .returned (.bool true) ∧ Below w.heap.size w w' := by
  have L0 : Below w.heap.size w ((w.alloc (.cells #[.int .i64 t, .int .i64 c, .int .i64 s, .int .i64 ad, .int .i64 pl, .bool bl, u, u'] 35)).alloc (.cells #[.int .i64 t, .int .i64 c, .int .i64 s, .int .i64 ad, .int .i64 pl, .bool bl, z, z'] 35)) := ((Below.refl _ _).alloc (Nat.le_refl _) _).alloc (by simp) _
  have HL := hide L0
  go_enter Tryz.func72, Tryz.ntmps72
  go_wp2_with fail
  refine (eqIntS _ F F' _ _ n n f f (H.keep (wrote_below L0 Nowhere) (fun _ _ _ x => x)) (H'.keep (wrote_below L0 Nowhere) (fun _ _ _ x => x))).mono ?_
  rintro e w1 ⟨rfl, d, rfl⟩
  rw [eqInts_refl]
  have L1 := below_drewN L0 d
  go_wp2_with fail
  refine (eqIntS _ G G' _ _ m m g g (K.keep (wrote_below L1 Nowhere) (fun _ _ _ x => x)) (K'.keep (wrote_below L1 Nowhere) (fun _ _ _ x => x))).mono ?_
  rintro e w1 ⟨rfl, d', rfl⟩
  rw [eqInts_refl]
  go_wp2
  go_ret
  exact ⟨rfl, below_drewN L0 _⟩
theorem onEqPpu (w : World) (D E : Nat → Prop) (v u : Value) (t c s ad pl : Int) (bl : Bool) (n : Nat) (f : Nat → Int) (m : Nat) (g : Nat → Int) (H : PpuOn w D v t c s ad pl bl n f m g) (K : PpuOn w E u t c s ad pl bl n f m g) :
    Calls Tryz.prog 72 #[v, u] w fun e w' => e = .returned (.bool true) ∧ Below w.heap.size w w' := by
  obtain ⟨a, a', rfl, h1, h2⟩ := H.ints
  obtain ⟨b, b', rfl, k1, k2⟩ := K.ints
  exact eqPpu_same w _ _ _ _ t c s ad pl bl a a' b b' n f m g h1 h2 k1 k2
theorem onMarkPpu (w : World) (D : Nat → Prop) (v : Value) (t c s ad pl : Int) (bl : Bool) (n : Nat) (f : Nat → Int) (m : Nat) (g : Nat → Int) (k : Int) (H : PpuOn w D v t c s ad pl bl n f m g) (k0 : 0 ≤ k) (k1 : k ≤ 1099511627776) :
    Calls Tryz.prog 75 #[v, .int .i64 k] w fun e w' => e = .returned (.int .i64 (k + n + m)) ∧ PpuOn w' D v t c s ad pl bl n (fun i => k + i) m (fun i => k + n + i) ∧ Wrote (On D) w w' := by
  obtain ⟨a, x, b, y, rfl, h1, h2, h3⟩ := H
  have hn := h1.small
  have hm := h2.small
  have L0 : Below w.heap.size w (w.alloc (.cells #[.int .i64 t, .int .i64 c, .int .i64 s, .int .i64 ad, .int .i64 pl, .bool bl, .slice a n x, .slice b m y] 35)) := (Below.refl _ _).alloc (Nat.le_refl _) _
  have B0 := box_new w #[.int .i64 t, .int .i64 c, .int .i64 s, .int .i64 ad, .int .i64 pl, .bool bl, .slice a n x, .slice b m y] 35
  have WL := wrote_below L0 (On D)
  have e1 := h1.keep (wrote_below L0 Nowhere) (fun _ _ _ _ _ x => x)
  have e2 := h2.keep (wrote_below L0 Nowhere) (fun _ _ _ _ _ x => x)
  have q1 : ∀ b' o, Foot a n b' o → b' < w.heap.size := fun b' o h => (h1.free b' o h).1
  have q2 : ∀ b' o, Foot b m b' o → b' < w.heap.size := fun b' o h => (h2.free b' o h).1
  have HD := hide (And.intro h1.on h2.on)
  clear h1 h2 L0
  go_enter Tryz.func75, Tryz.ntmps75
  go_wp2_with fail
  generalize w.alloc (.cells #[.int .i64 t, .int .i64 c, .int .i64 s, .int .i64 ad, .int .i64 pl, .bool bl, .slice a n x, .slice b m y] 35) = W0 at *
  refine (markIntS _ a n x f k e1.row e1.free k0 (by omega)).mono ?_
  rintro e W1 ⟨rfl, R1, T1, s1⟩
  have B1 := box_wrote B0 T1 (fun o h => by have := q1 _ _ h; omega)
  have f2 := e2.keep T1 (fun b' o hf _ _ h => h3 b' o h hf)
  have F1 := e1.free.keep T1
  have HS := hide (WL.trans (T1.mono (fun b o _ h => HD.out.1 b o h)))
  clear e1 e2 T1 s1 WL B0
  have c1 := boxC B1
  go_wp2_with fail
  clear c1
  refine (markIntS _ b m y g (k + n) f2.row f2.free (by omega) (by omega)).mono ?_
  rintro e W2 ⟨rfl, R2, T2, s2⟩
  have g1 := R1.keep T2 (fun b' o hf h => h3 b' o hf h)
  have HE := hide (And.intro g1 (And.intro R2 (And.intro (F1.keep T2) (And.intro (f2.free.keep T2) (HS.out.trans (T2.mono (fun b o _ h => HD.out.2 b o h)))))))
  clear R1 R2 T2 s2 g1 F1 f2 B1
  go_wp2
  go_ret
  exact ⟨rfl, ⟨_, _, _, _, rfl, ⟨hn, HE.out.1, HE.out.2.2.1, HD.out.1⟩, ⟨hm, HE.out.2.1, HE.out.2.2.2.1, HD.out.2⟩, h3⟩, HE.out.2.2.2.2⟩
theorem onHeldPpu (w : World) (D : Nat → Prop) (v : Value) (t c s ad pl : Int) (bl : Bool) (n : Nat) (m : Nat) (k : Int) (H : PpuOn w D v t c s ad pl bl n (fun i => k + i) m (fun i => k + n + i)) (k0 : 0 ≤ k) (k1 : k ≤ 1099511627776) :
    Calls Tryz.prog 77 #[v, .int .i64 k] w fun e w' => e = .returned (.int .i64 (k + n + m)) ∧ Below w.heap.size w w' := by
  obtain ⟨a, x, b, y, rfl, h1, h2, h3⟩ := H
  have hn := h1.small
  have hm := h2.small
  have L0 : Below w.heap.size w (w.alloc (.cells #[.int .i64 t, .int .i64 c, .int .i64 s, .int .i64 ad, .int .i64 pl, .bool bl, .slice a n x, .slice b m y] 35)) := (Below.refl _ _).alloc (Nat.le_refl _) _
  have e1 := (h1.keep (wrote_below L0 Nowhere) (fun _ _ _ _ _ x => x)).row
  have e2 := (h2.keep (wrote_below L0 Nowhere) (fun _ _ _ _ _ x => x)).row
  have hk : ¬ (k + (n : Int) < 0) := by omega
  have hk2 : ¬ (k + (n : Int) + (m : Int) < 0) := by omega
  clear h1 h2 h3
  go_enter Tryz.func77, Tryz.ntmps77
  go_wp2_with fail
  refine (heldIntS _ a n x k e1 k0 (by omega)).mono ?_
  rintro e w1 ⟨rfl, rfl⟩
  go_wp2_with fail
  refine (heldIntS _ b m y (k + n) e2 (by omega) (by omega)).mono ?_
  rintro e w1 ⟨rfl, rfl⟩
  go_wp2
  go_ret
  exact ⟨rfl, L0⟩
end Go.Proofs.YtjcaligejlhjdaaGreat
