/-
  Chapter 8 of the specification by its contracts: a tick.
-/
import Derived.Test.YtmccplbfggcogaaH8
namespace Go.Proofs.Ytmccplbfggcogaa
set_option linter.unusedVariables false
set_option linter.unusedSimpArgs false
open Go.ChangeShapes Go.WideShapes Go.ChangeAt Go.RowKit
/-- A list of numbers, as a value, on blocks of a kind. -/
structure ListOn (W : World) (D : Nat → Prop) (u : Value) (k : Nat) (h : Nat → Int) : Prop where
  ex : ∃ d z, u = .slice d k z ∧ SlOn W D d k h
/-- What a tick answers: a picture unit, and a list, apart, in new memory. -/
structure Ticked (w W : World) (v u : Value) (t c s ad pl : Int) (bl : Bool) (n : Nat) (f : Nat → Int) (m : Nat) (g : Nat → Int) (k : Nat) (h : Nat → Int) : Prop where
  ex : ∃ D E : Nat → Prop, PpuOn W D v t c s ad pl bl n f m g ∧ ListOn W E u k h ∧ (∀ b, D b → ¬ E b) ∧ (∀ b, D b ∨ E b → w.heap.size ≤ b) ∧ Below w.heap.size w W
/-- A list that is none, or one of an own block. -/
def DotsOf (W : World) (lo p : Nat) (dd : Value) (m : Nat) (g : Nat → Int) : Prop := (dd = .slice none 0 0 ∧ m = 0) ∨ ∃ q y, dd = .slice (some ⟨q, 0, none⟩) m y ∧ Row W lo q m y g ∧ p ≠ q
/-- The same, with the room behind the lists. -/
structure TickedR (w W : World) (v u : Value) (t c s ad pl : Int) (bl : Bool) (n : Nat) (f : Nat → Int) (m : Nat) (g : Nat → Int) (k : Nat) (h : Nat → Int) : Prop where
  tk : Ticked w W v u t c s ad pl bl n f m g k h
  rows : ∃ p x dd, v = .agg #[.int .i64 t, .int .i64 c, .int .i64 s, .int .i64 ad, .int .i64 pl, .bool bl, .slice (some ⟨p, 0, none⟩) n x, dd] ∧ Row W w.heap.size p n x f ∧ DotsOf W w.heap.size p dd m g
/-- The same, with the list that is told in a block of its own. -/
structure TickedT (w W : World) (v u : Value) (t c s ad pl : Int) (bl : Bool) (n : Nat) (f : Nat → Int) (m : Nat) (g : Nat → Int) (k : Nat) (h : Nat → Int) : Prop where
  r : TickedR w W v u t c s ad pl bl n f m g k h
  told : 0 < k → ∃ q y, u = .slice (some ⟨q, 0, none⟩) k y ∧ Row W w.heap.size q k y h
def tkT (t : Int) : Int := if t = 20000 then t else t + 1
def tkB (t : Int) (bl : Bool) : Bool := if t = 20000 then bl else if t % 64 = 48 then true else if t % 64 = 63 then false else bl
def tkM (t : Int) (m : Nat) : Nat := if t = 20000 then m else if t % 64 < 48 then m + 1 else if t % 64 = 48 then 0 else m
def tkG (t : Int) (f : Nat → Int) (s pl : Int) (m : Nat) (g : Nat → Int) : Nat → Int := if t = 20000 then g else if t % 64 < 48 then snoc g m (dotV f s pl (t % 64)) else g
def tlM (t : Int) (m : Nat) : Nat := if t = 20000 then 0 else if t % 64 = 48 then m else 0
def tlN (t c : Int) : Bool := if t = 20000 then false else if t % 64 = 48 then decide (127 < c) else false
theorem SlOn.zero {W : World} {D : Nat → Prop} (a : Option Addr) (f : Nat → Int) : SlOn W D a 0 f := ⟨by omega, fun i hi => absurd hi (Nat.not_lt_zero _), fun b o hF => absurd hF (foot_none _ _ _), fun b o hF => absurd hF (foot_none _ _ _)⟩
theorem Row.onD {W : World} {lo g n c : Nat} {f : Nat → Int} {D : Nat → Prop} (h : Row W lo g n c f) (hd : D g) : SlOn W D (some ⟨g, 0, none⟩) n f := h.sl.mono (fun b _ e => e ▸ hd)
/-- What a tick answers, where no picture is told: two lists of its own, and an empty one. -/
theorem tick_quiet {W : World} {lo p q n x m y h2 : Nat} {f g : Nat → Int} {t c s ad pl : Int} {bl : Bool} (S1 : Row W lo p n x f) (S2 : Row W lo q m y g) (hpq : p ≠ q) (h2l : lo ≤ h2) (hp : h2 < p) (hq : h2 < q) (g0 : Nat → Int) :
    PpuOn W (fun b => b = p ∨ b = q) (.agg #[.int .i64 t, .int .i64 c, .int .i64 s, .int .i64 ad, .int .i64 pl, .bool bl, .slice (some ⟨p, 0, none⟩) n x, .slice (some ⟨q, 0, none⟩) m y]) t c s ad pl bl n f m g ∧ ListOn W (fun b => b = h2) (.slice (some ⟨h2, 0, none⟩) 0 0) 0 g0 ∧ (∀ b, (b = p ∨ b = q) → ¬ b = h2) ∧ (∀ b, (b = p ∨ b = q) ∨ b = h2 → lo ≤ b) :=
  ⟨⟨_, _, _, _, rfl, S1.onD (Or.inl rfl), S2.onD (Or.inr rfl), apart_blocks hpq⟩, ⟨_, _, rfl, SlOn.zero _ _⟩, fun b h e => by omega, fun b h => by omega⟩
end Go.Proofs.Ytmccplbfggcogaa
