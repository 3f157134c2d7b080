/-
  Chapter 8's mirror of a picture unit: sizes, copies, comparisons, marks; a picture unit as a thing that lies on blocks of a kind.
-/
import Derived.Test.YteefbbnkfclllaaDoorU0
namespace Go.Proofs.YteefbbnkfclllaaDoor
set_option linter.unusedVariables false
open Go.ChangeShapes Go.WideShapes Go.ChangeAt Go.RowKit
/-- A list of numbers on blocks of a kind. -/
structure SlOn (W : World) (D : Nat → Prop) (a : Option Addr) (n : Nat) (f : Nat → Int) : Prop where
  small : n ≤ 1048576
  row : RowOf .i64 W a n f
  free : Free W (Foot a n)
  on : ∀ b o, Foot a n b o → D b
theorem SlOn.keep {R : Nat → Nat → Prop} {W W' : World} {D : Nat → Prop} {a : Option Addr} {n : Nat} {f : Nat → Int} (h : SlOn W D a n f) (hw : Wrote R W W') (hd : ∀ b o, Foot a n b o → D b → b < W.heap.size → ¬ R b o) : SlOn W' D a n f :=
  ⟨h.small, h.row.keep hw (fun b o hf => hd b o hf (h.on b o hf) (h.free b o hf).1), h.free.keep hw, h.on⟩
theorem SlOn.wr {R : Nat → Nat → Prop} {W W' : World} {D : Nat → Prop} {p i n : Nat} {f : Nat → Int} (h : SlOn W D (some ⟨p, i, none⟩) n f) (hw : Wrote R W W') (hd : ∀ o, ¬ R p o) : SlOn W' D (some ⟨p, i, none⟩) n f :=
  h.keep hw (fun b o ⟨off, e, _, _⟩ _ _ => by
    simp only [Option.some.injEq, Addr.mk.injEq] at e
    obtain ⟨rfl, -, -⟩ := e
    exact hd o)
theorem SlOn.mono {W : World} {D E : Nat → Prop} {a : Option Addr} {n : Nat} {f : Nat → Int} (h : SlOn W D a n f) (hd : ∀ b, b < W.heap.size → D b → E b) : SlOn W E a n f :=
  ⟨h.small, h.row, h.free, fun b o hf => hd b (h.free b o hf).1 (h.on b o hf)⟩
theorem SlOn.ints {W : World} {D : Nat → Prop} {a : Option Addr} {n : Nat} {f : Nat → Int} (h : SlOn W D a n f) (c : Nat) : Ints .i64 W (On D) (.slice a n c) n f := ⟨a, c, rfl, h.small, h.row, h.on⟩
theorem SlOn.congr {W : World} {D : Nat → Prop} {a : Option Addr} {n : Nat} {f g : Nat → Int} (h : SlOn W D a n f) (e : ∀ i, i < n → f i = g i) : SlOn W D a n g := ⟨h.small, h.row.congr e, h.free, h.on⟩
theorem SlOn.own {W : World} {lo : Nat} {a : Option Addr} {n c : Nat} {f : Nat → Int} (h : OwnInts W lo (.slice a n c) n f) : SlOn W (fun b => lo ≤ b) a n f := by
  obtain ⟨a', c', e, hn, hr, hF, hD⟩ := h
  simp only [Value.slice.injEq, true_and] at e
  obtain ⟨rfl, rfl⟩ := e
  exact ⟨hn, hr, hF, hD⟩
theorem SlOn.fresh {W : World} {p n lo : Nat} {f : Nat → Int} (hr : W.rowIs p 3 n (fun i => .int .i64 (f i))) (hn : n ≤ 1048576) (hp : lo ≤ p) : SlOn W (fun b => lo ≤ b) (some ⟨p, 0, none⟩) n f :=
  ⟨hn, rowOf_row hr, fun b o ⟨off, e, _, _⟩ => by
    simp only [Option.some.injEq, Addr.mk.injEq] at e
    obtain ⟨rfl, -, -⟩ := e
    exact ⟨hr.lt, hr.frozen _⟩, fun b o ⟨off, e, _, _⟩ => by
    simp only [Option.some.injEq, Addr.mk.injEq] at e
    obtain ⟨rfl, -, -⟩ := e
    exact hp⟩
/-- Two lists that share no cell. -/
def Apart (a : Option Addr) (n : Nat) (a' : Option Addr) (n' : Nat) : Prop := ∀ b o, Foot a n b o → ¬ Foot a' n' b o
theorem Apart.symm {a a' : Option Addr} {n n' : Nat} (h : Apart a n a' n') : Apart a' n' a n := fun b o x y => h b o y x
theorem apart_blocks {p q n m : Nat} {i j : Nat} (h : p ≠ q) : Apart (some ⟨p, i, none⟩) n (some ⟨q, j, none⟩) m := by
  rintro b o ⟨off, e, _, _⟩ ⟨off', e', _, _⟩
  simp only [Option.some.injEq, Addr.mk.injEq] at e e'
  exact h (e.1.trans e'.1.symm)
theorem apart_on {W W' : World} {D E : Nat → Prop} {a a' : Option Addr} {n n' : Nat} {f g : Nat → Int} (h : SlOn W D a n f) (k : SlOn W' E a' n' g) (hd : ∀ b, D b → ¬ E b) : Apart a n a' n' := fun b o x y => hd b (h.on b o x) (k.on b o y)
/-- A picture unit on blocks of a kind. -/
structure PpuOn (W : World) (D : Nat → Prop) (v : Value) (t c s ad pl : Int) (bl : Bool) (n : Nat) (f : Nat → Int) (m : Nat) (g : Nat → Int) : Prop where
  ex : ∃ a x b y, v = .agg #[.int .i64 t, .int .i64 c, .int .i64 s, .int .i64 ad, .int .i64 pl, .bool bl, .slice a n x, .slice b m y] ∧ SlOn W D a n f ∧ SlOn W D b m g ∧ Apart a n b m
section
variable {R : Nat → Nat → Prop} {W W' : World} {D E : Nat → Prop} {v : Value} {t c s ad pl : Int} {bl : Bool} {n m : Nat} {f g : Nat → Int}
theorem PpuOn.keep (h : PpuOn W D v t c s ad pl bl n f m g) (hw : Wrote R W W') (hd : ∀ b o, D b → b < W.heap.size → ¬ R b o) : PpuOn W' D v t c s ad pl bl n f m g := by
  obtain ⟨a, x, b, y, e, h1, h2, h3⟩ := h
  exact ⟨a, x, b, y, e, h1.keep hw (fun b o _ => hd b o), h2.keep hw (fun b o _ => hd b o), h3⟩
theorem PpuOn.below (h : PpuOn W D v t c s ad pl bl n f m g) (L : Below W.heap.size W W') : PpuOn W' D v t c s ad pl bl n f m g := h.keep (wrote_below L Nowhere) (fun _ _ _ _ x => x)
theorem PpuOn.mono (h : PpuOn W D v t c s ad pl bl n f m g) (hd : ∀ b, b < W.heap.size → D b → E b) : PpuOn W E v t c s ad pl bl n f m g := by
  obtain ⟨a, x, b, y, e, h1, h2, h3⟩ := h
  exact ⟨a, x, b, y, e, h1.mono hd, h2.mono hd, h3⟩
theorem PpuOn.two (h : PpuOn W D v t c s ad pl bl n f m g) : ∃ a x b y, v = .agg #[.int .i64 t, .int .i64 c, .int .i64 s, .int .i64 ad, .int .i64 pl, .bool bl, .slice a n x, .slice b m y] := by
  obtain ⟨a, x, b, y, e, -⟩ := h
  exact ⟨a, x, b, y, e⟩
theorem PpuOn.ints (h : PpuOn W D v t c s ad pl bl n f m g) : ∃ u u', v = .agg #[.int .i64 t, .int .i64 c, .int .i64 s, .int .i64 ad, .int .i64 pl, .bool bl, u, u'] ∧ Ints .i64 W (On D) u n f ∧ Ints .i64 W (On D) u' m g := by
  obtain ⟨a, x, b, y, e, h1, h2, h3⟩ := h
  exact ⟨_, _, e, h1.ints x, h2.ints y⟩
end
theorem below_drewN {n : Nat} {w W : World} (L : Below n w W) (d : Nat) : Below n w (W.drewN d) := L.trans ⟨rfl, rfl, rfl, Nat.le_refl _, fun _ _ => rfl⟩
theorem box_set_ne8 {w : World} {b d o : Nat} {ob : Obj} {x : Value} (h : w.heap[b]? = some ob) (hd : b ≠ d) : (w.setCell ⟨d, o, none⟩ x).heap[b]? = some ob :=
  ((Wrote.setCell (R := fun b' _ => b' = d) (Wrote.refl _ w) (fun _ => rfl) x).block b (boxLt h) (fun _ e => hd e)).trans h
end Go.Proofs.YteefbbnkfclllaaDoor
