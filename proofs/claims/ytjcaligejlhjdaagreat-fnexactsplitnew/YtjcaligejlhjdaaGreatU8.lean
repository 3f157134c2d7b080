/-
  Chapter 8's mirror of a picture unit: sizes, copies, comparisons, marks; a picture unit as a thing that lies on blocks of a kind.
-/
import Derived.Test.YtjcaligejlhjdaaGreatC8
namespace Go.Proofs.YtjcaligejlhjdaaGreat
set_option linter.unusedVariables false
open Go.ChangeShapes Go.WideShapes Go.ChangeAt Go.RowKit
/-- A list of numbers on blocks of a kind. -/
structure SlOn (W : World) (D : Nat → Prop) (a : Option Addr) (n : Nat) (f : Nat → Int) : Prop where
  small : n ≤ 1048576
  row : RowOf .i64 W a n f
  free : Free W (Foot a n)
  on : ∀ b o, Foot a n b o → D b
theorem SlOn.keep {R : Nat → Nat → Prop} {W W' : World} {D : Nat → Prop} {a : Option Addr} {n : Nat} {f : Nat → Int} (h : SlOn W D a n f) (hw : Wrote R W W') (hd : ∀ b o, Foot a n b o → D b → b < W.heap.size → ¬ R b o) : SlOn W' D a n f :=
  ⟨h.small, h.row.keep hw (fun b o hf => hd b o hf (h.on b o hf) (h.free b o hf).1), h.free.keep hw, h.on⟩
theorem SlOn.wr {R : Nat → Nat → Prop} {W W' : World} {D : Nat → Prop} {p i n : Nat} {f : Nat → Int} (h : SlOn W D (some ⟨p, i, none⟩) n f) (hw : Wrote R W W') (hd : ∀ o, ¬ R p o) : SlOn W' D (some ⟨p, i, none⟩) n f :=
  h.keep hw (fun b o ⟨off, e, _, _⟩ _ _ => by
    simp only [Option.some.injEq, Addr.mk.injEq] at e
    obtain ⟨rfl, -, -⟩ := e
    exact hd o)
theorem SlOn.mono {W : World} {D E : Nat → Prop} {a : Option Addr} {n : Nat} {f : Nat → Int} (h : SlOn W D a n f) (hd : ∀ b, b < W.heap.size → D b → E b) : SlOn W E a n f :=
  ⟨h.small, h.row, h.free, fun b o hf => hd b (h.free b o hf).1 (h.on b o hf)⟩
theorem SlOn.ints {W : World} {D : Nat → Prop} {a : Option Addr} {n : Nat} {f : Nat → Int} (h : SlOn W D a n f) (c : Nat) : Ints .i64 W (On D) (.slice a n c) n f := ⟨a, c, rfl, h.small, h.row, h.on⟩
theorem SlOn.congr {W : World} {D : Nat → Prop} {a : Option Addr} {n : Nat} {f g : Nat → Int} (h : SlOn W D a n f) (e : ∀ i, i < n → f i = g i) : SlOn W D a n g := ⟨h.small, h.row.congr e, h.free, h.on⟩
theorem SlOn.own {W : World} {lo : Nat} {a : Option Addr} {n c : Nat} {f : Nat → Int} (h : OwnInts W lo (.slice a n c) n f) : SlOn W (fun b => lo ≤ b) a n f := by
  obtain ⟨a', c', e, hn, hr, hF, hD⟩ := h
  simp only [Value.slice.injEq, true_and] at e
  obtain ⟨rfl, rfl⟩ := e
  exact ⟨hn, hr, hF, hD⟩
theorem SlOn.fresh {W : World} {p n lo : Nat} {f : Nat → Int} (hr : W.rowIs p 3 n (fun i => .int .i64 (f i))) (hn : n ≤ 1048576) (hp : lo ≤ p) : SlOn W (fun b => lo ≤ b) (some ⟨p, 0, none⟩) n f :=
  ⟨hn, rowOf_row hr, fun b o ⟨off, e, _, _⟩ => by
    simp only [Option.some.injEq, Addr.mk.injEq] at e
    obtain ⟨rfl, -, -⟩ := e
    exact ⟨hr.lt, hr.frozen _⟩, fun b o ⟨off, e, _, _⟩ => by
    simp only [Option.some.injEq, Addr.mk.injEq] at e
    obtain ⟨rfl, -, -⟩ := e
    exact hp⟩
/-- Two lists that share no cell. -/
def Apart (a : Option Addr) (n : Nat) (a' : Option Addr) (n' : Nat) : Prop := ∀ b o, Foot a n b o → ¬ Foot a' n' b o
theorem Apart.symm {a a' : Option Addr} {n n' : Nat} (h : Apart a n a' n') : Apart a' n' a n := fun b o x y => h b o y x
theorem apart_on {W W' : World} {D E : Nat → Prop} {a a' : Option Addr} {n n' : Nat} {f g : Nat → Int} (h : SlOn W D a n f) (k : SlOn W' E a' n' g) (hd : ∀ b, D b → ¬ E b) : Apart a n a' n' := fun b o x y => hd b (h.on b o x) (k.on b o y)
/-- A picture unit on blocks of a kind. -/
structure PpuOn (W : World) (D : Nat → Prop) (v : Value) (t c s ad pl : Int) (bl : Bool) (n : Nat) (f : Nat → Int) (m : Nat) (g : Nat → Int) : Prop where
  ex : ∃ a x b y, v = .agg #[.int .i64 t, .int .i64 c, .int .i64 s, .int .i64 ad, .int .i64 pl, .bool bl, .slice a n x, .slice b m y] ∧ SlOn W D a n f ∧ SlOn W D b m g ∧ Apart a n b m
section
variable {R : Nat → Nat → Prop} {W W' : World} {D E : Nat → Prop} {v : Value} {t c s ad pl : Int} {bl : Bool} {n m : Nat} {f g : Nat → Int}
theorem PpuOn.keep (h : PpuOn W D v t c s ad pl bl n f m g) (hw : Wrote R W W') (hd : ∀ b o, D b → b < W.heap.size → ¬ R b o) : PpuOn W' D v t c s ad pl bl n f m g := by
  obtain ⟨a, x, b, y, e, h1, h2, h3⟩ := h
  exact ⟨a, x, b, y, e, h1.keep hw (fun b o _ => hd b o), h2.keep hw (fun b o _ => hd b o), h3⟩
theorem PpuOn.below (h : PpuOn W D v t c s ad pl bl n f m g) (L : Below W.heap.size W W') : PpuOn W' D v t c s ad pl bl n f m g := h.keep (wrote_below L Nowhere) (fun _ _ _ _ x => x)
theorem PpuOn.mono (h : PpuOn W D v t c s ad pl bl n f m g) (hd : ∀ b, b < W.heap.size → D b → E b) : PpuOn W E v t c s ad pl bl n f m g := by
  obtain ⟨a, x, b, y, e, h1, h2, h3⟩ := h
  exact ⟨a, x, b, y, e, h1.mono hd, h2.mono hd, h3⟩
theorem PpuOn.two (h : PpuOn W D v t c s ad pl bl n f m g) : ∃ a x b y, v = .agg #[.int .i64 t, .int .i64 c, .int .i64 s, .int .i64 ad, .int .i64 pl, .bool bl, .slice a n x, .slice b m y] := by
  obtain ⟨a, x, b, y, e, -⟩ := h
  exact ⟨a, x, b, y, e⟩
theorem PpuOn.ints (h : PpuOn W D v t c s ad pl bl n f m g) : ∃ u u', v = .agg #[.int .i64 t, .int .i64 c, .int .i64 s, .int .i64 ad, .int .i64 pl, .bool bl, u, u'] ∧ Ints .i64 W (On D) u n f ∧ Ints .i64 W (On D) u' m g := by
  obtain ⟨a, x, b, y, e, h1, h2, h3⟩ := h
  exact ⟨_, _, e, h1.ints x, h2.ints y⟩
end
theorem below_drewN {n : Nat} {w W : World} (L : Below n w W) (d : Nat) : Below n w (W.drewN d) := L.trans ⟨rfl, rfl, rfl, Nat.le_refl _, fun _ _ => rfl⟩
theorem box_set_ne8 {w : World} {b d o : Nat} {ob : Obj} {x : Value} (h : w.heap[b]? = some ob) (hd : b ≠ d) : (w.setCell ⟨d, o, none⟩ x).heap[b]? = some ob :=
  ((Wrote.setCell (R := fun b' _ => b' = d) (Wrote.refl _ w) (fun _ => rfl) x).block b (boxLt h) (fun _ e => hd e)).trans h
theorem eqPpu_same (w : World) (F G F' G' : Nat → Nat → Prop) (t c s ad pl : Int) (bl : Bool) (u u' z z' : Value) (n : Nat) (f : Nat → Int) (m : Nat) (g : Nat → Int) (H : Ints .i64 w F u n f) (K : Ints .i64 w G u' m g) (H' : Ints .i64 w F' z n f) (K' : Ints .i64 w G' z' m g) :
    Calls Tryz.prog 72 #[.agg #[.int .i64 t, .int .i64 c, .int .i64 s, .int .i64 ad, .int .i64 pl, .bool bl, u, u'], .agg #[.int .i64 t, .int .i64 c, .int .i64 s, .int .i64 ad, .int .i64 pl, .bool bl, z, z']] w fun e w' => e = .returned (.bool true) ∧ Below w.heap.size w w' := by
  have L0 : Below w.heap.size w ((w.alloc (.cells #[.int .i64 t, .int .i64 c, .int .i64 s, .int .i64 ad, .int .i64 pl, .bool bl, u, u'] 35)).alloc (.cells #[.int .i64 t, .int .i64 c, .int .i64 s, .int .i64 ad, .int .i64 pl, .bool bl, z, z'] 35)) := ((Below.refl _ _).alloc (Nat.le_refl _) _).alloc (by simp) _
  have HL := hide L0
  go_enter Tryz.func72, Tryz.ntmps72
  go_wp2_with fail
  refine (eqIntS _ F F' _ _ n n f f (H.keep (wrote_below L0 Nowhere) (fun _ _ _ x => x)) (H'.keep (wrote_below L0 Nowhere) (fun _ _ _ x => x))).mono ?_
  rintro e w1 ⟨rfl, d, rfl⟩
  rw [eqInts_refl]
  have L1 := below_drewN L0 d
  go_wp2_with fail
  refine (eqIntS _ G G' _ _ m m g g (K.keep (wrote_below L1 Nowhere) (fun _ _ _ x => x)) (K'.keep (wrote_below L1 Nowhere) (fun _ _ _ x => x))).mono ?_
  rintro e w1 ⟨rfl, d', rfl⟩
  rw [eqInts_refl]
  go_wp2
  go_ret
  exact ⟨rfl, below_drewN L0 _⟩
theorem onEqPpu (w : World) (D E : Nat → Prop) (v u : Value) (t c s ad pl : Int) (bl : Bool) (n : Nat) (f : Nat → Int) (m : Nat) (g : Nat → Int) (H : PpuOn w D v t c s ad pl bl n f m g) (K : PpuOn w E u t c s ad pl bl n f m g) :
    Calls Tryz.prog 72 #[v, u] w fun e w' => e = .returned (.bool true) ∧ Below w.heap.size w w' := by
  obtain ⟨a, a', rfl, h1, h2⟩ := H.ints
  obtain ⟨b, b', rfl, k1, k2⟩ := K.ints
  exact eqPpu_same w _ _ _ _ t c s ad pl bl a a' b b' n f m g h1 h2 k1 k2
theorem onMarkPpu (w : World) (D : Nat → Prop) (v : Value) (t c s ad pl : Int) (bl : Bool) (n : Nat) (f : Nat → Int) (m : Nat) (g : Nat → Int) (k : Int) (H : PpuOn w D v t c s ad pl bl n f m g) (k0 : 0 ≤ k) (k1 : k ≤ 1099511627776) :
    Calls Tryz.prog 75 #[v, .int .i64 k] w fun e w' => e = .returned (.int .i64 (k + n + m)) ∧ PpuOn w' D v t c s ad pl bl n (fun i => k + i) m (fun i => k + n + i) ∧ Wrote (On D) w w' := by
  obtain ⟨a, x, b, y, rfl, h1, h2, h3⟩ := H
  have hn := h1.small
  have hm := h2.small
  have L0 : Below w.heap.size w (w.alloc (.cells #[.int .i64 t, .int .i64 c, .int .i64 s, .int .i64 ad, .int .i64 pl, .bool bl, .slice a n x, .slice b m y] 35)) := (Below.refl _ _).alloc (Nat.le_refl _) _
  have B0 := box_new w #[.int .i64 t, .int .i64 c, .int .i64 s, .int .i64 ad, .int .i64 pl, .bool bl, .slice a n x, .slice b m y] 35
  have WL := wrote_below L0 (On D)
  have e1 := h1.keep (wrote_below L0 Nowhere) (fun _ _ _ _ _ x => x)
  have e2 := h2.keep (wrote_below L0 Nowhere) (fun _ _ _ _ _ x => x)
  have q1 : ∀ b' o, Foot a n b' o → b' < w.heap.size := fun b' o h => (h1.free b' o h).1
  have q2 : ∀ b' o, Foot b m b' o → b' < w.heap.size := fun b' o h => (h2.free b' o h).1
  have HD := hide (And.intro h1.on h2.on)
  clear h1 h2 L0
  go_enter Tryz.func75, Tryz.ntmps75
  go_wp2_with fail
  generalize w.alloc (.cells #[.int .i64 t, .int .i64 c, .int .i64 s, .int .i64 ad, .int .i64 pl, .bool bl, .slice a n x, .slice b m y] 35) = W0 at *
  refine (markIntS _ a n x f k e1.row e1.free k0 (by omega)).mono ?_
  rintro e W1 ⟨rfl, R1, T1, s1⟩
  have B1 := box_wrote B0 T1 (fun o h => by have := q1 _ _ h; omega)
  have f2 := e2.keep T1 (fun b' o hf _ _ h => h3 b' o h hf)
  have F1 := e1.free.keep T1
  have HS := hide (WL.trans (T1.mono (fun b o _ h => HD.out.1 b o h)))
  clear e1 e2 T1 s1 WL B0
  have c1 := boxC B1
  go_wp2_with fail
  clear c1
  refine (markIntS _ b m y g (k + n) f2.row f2.free (by omega) (by omega)).mono ?_
  rintro e W2 ⟨rfl, R2, T2, s2⟩
  have g1 := R1.keep T2 (fun b' o hf h => h3 b' o hf h)
  have HE := hide (And.intro g1 (And.intro R2 (And.intro (F1.keep T2) (And.intro (f2.free.keep T2) (HS.out.trans (T2.mono (fun b o _ h => HD.out.2 b o h)))))))
  clear R1 R2 T2 s2 g1 F1 f2 B1
  go_wp2
  go_ret
  exact ⟨rfl, ⟨_, _, _, _, rfl, ⟨hn, HE.out.1, HE.out.2.2.1, HD.out.1⟩, ⟨hm, HE.out.2.1, HE.out.2.2.2.1, HD.out.2⟩, h3⟩, HE.out.2.2.2.2⟩
theorem onHeldPpu (w : World) (D : Nat → Prop) (v : Value) (t c s ad pl : Int) (bl : Bool) (n : Nat) (m : Nat) (k : Int) (H : PpuOn w D v t c s ad pl bl n (fun i => k + i) m (fun i => k + n + i)) (k0 : 0 ≤ k) (k1 : k ≤ 1099511627776) :
    Calls Tryz.prog 77 #[v, .int .i64 k] w fun e w' => e = .returned (.int .i64 (k + n + m)) ∧ Below w.heap.size w w' := by
  obtain ⟨a, x, b, y, rfl, h1, h2, h3⟩ := H
  have hn := h1.small
  have hm := h2.small
  have L0 : Below w.heap.size w (w.alloc (.cells #[.int .i64 t, .int .i64 c, .int .i64 s, .int .i64 ad, .int .i64 pl, .bool bl, .slice a n x, .slice b m y] 35)) := (Below.refl _ _).alloc (Nat.le_refl _) _
  have e1 := (h1.keep (wrote_below L0 Nowhere) (fun _ _ _ _ _ x => x)).row
  have e2 := (h2.keep (wrote_below L0 Nowhere) (fun _ _ _ _ _ x => x)).row
  have hk : ¬ (k + (n : Int) < 0) := by omega
  have hk2 : ¬ (k + (n : Int) + (m : Int) < 0) := by omega
  clear h1 h2 h3
  go_enter Tryz.func77, Tryz.ntmps77
  go_wp2_with fail
  refine (heldIntS _ a n x k e1 k0 (by omega)).mono ?_
  rintro e w1 ⟨rfl, rfl⟩
  go_wp2_with fail
  refine (heldIntS _ b m y (k + n) e2 (by omega) (by omega)).mono ?_
  rintro e w1 ⟨rfl, rfl⟩
  go_wp2
  go_ret
  exact ⟨rfl, L0⟩
end Go.Proofs.YtjcaligejlhjdaaGreat
