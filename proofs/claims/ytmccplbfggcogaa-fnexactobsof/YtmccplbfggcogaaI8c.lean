/-
  The program's picture unit (chapter 8), by its contracts: a copy, a new one.
-/
import Derived.Test.YtmccplbfggcogaaX8
namespace Go.Proofs.Ytmccplbfggcogaa
set_option linter.unusedVariables false
set_option linter.unusedSimpArgs false
open Go.ChangeShapes Go.WideShapes Go.ChangeAt Go.RowKit
/-- A list that is none (no block), or one that begins a block of its own. -/
def RowAt (W : World) (lo : Nat) : Option Nat → Value → Nat → (Nat → Int) → Prop
  | none, v, n, _ => v = .slice none 0 0 ∧ n = 0
  | some q, v, n, f => ∃ y, v = .slice (some ⟨q, 0, none⟩) n y ∧ Row W lo q n y f
theorem RowAt.keep {R : Nat → Nat → Prop} {W W' : World} {lo : Nat} {o : Option Nat} {v : Value} {n : Nat} {f : Nat → Int} (h : RowAt W lo o v n f) (hw : Wrote R W W') (hd : ∀ q, o = some q → lo ≤ q → q < W.heap.size → ∀ k, ¬ R q k) : RowAt W' lo o v n f := by
  cases o with
  | none => exact h
  | some q =>
    obtain ⟨y, e, r⟩ := h
    exact ⟨y, e, r.keep hw (hd q rfl r.parts.1 r.parts.2.1)⟩
theorem RowAt.below {W W' : World} {lo : Nat} {o : Option Nat} {v : Value} {n : Nat} {f : Nat → Int} (h : RowAt W lo o v n f) (L : Below W.heap.size W W') : RowAt W' lo o v n f := h.keep (wrote_below L Nowhere) (fun _ _ _ _ _ x => x)
theorem RowAt.mono {W : World} {lo lo' : Nat} {o : Option Nat} {v : Value} {n : Nat} {f : Nat → Int} (h : RowAt W lo o v n f) (hl : lo' ≤ lo) : RowAt W lo' o v n f := by
  cases o with
  | none => exact h
  | some q =>
    obtain ⟨y, e, r⟩ := h
    exact ⟨y, e, r.mono hl⟩
theorem RowAt.lt {W : World} {lo q : Nat} {v : Value} {n : Nat} {f : Nat → Int} (h : RowAt W lo (some q) v n f) : lo ≤ q ∧ q < W.heap.size := by
  obtain ⟨y, e, r⟩ := h
  exact ⟨r.parts.1, r.parts.2.1⟩
theorem RowAt.sl {W : World} {lo : Nat} {o : Option Nat} {v : Value} {n : Nat} {f : Nat → Int} (h : RowAt W lo o v n f) : ∃ a x, v = .slice a n x ∧ SlOn W (fun b => o = some b) a n f := by
  cases o with
  | none =>
    obtain ⟨rfl, rfl⟩ := h
    exact ⟨_, _, rfl, SlOn.nil _⟩
  | some q =>
    obtain ⟨y, rfl, r⟩ := h
    exact ⟨_, _, rfl, r.onD rfl⟩
theorem RowAt.form {W : World} {lo : Nat} {o : Option Nat} {v : Value} {n : Nat} {f : Nat → Int} (h : RowAt W lo o v n f) : ∃ a x, v = .slice a n x := by
  obtain ⟨a, x, e, -⟩ := h.sl
  exact ⟨a, x, e⟩
theorem RowAt.ints {W : World} {lo : Nat} {o : Option Nat} {v : Value} {n : Nat} {f : Nat → Int} (h : RowAt W lo o v n f) : Ints .i64 W (On (fun b => o = some b)) v n f := by
  obtain ⟨a, x, rfl, r⟩ := h.sl
  exact r.ints x
/-- Two lists of blocks of their own. -/
def Two (o o' : Option Nat) : Prop := ∀ q, o = some q → ¬ o' = some q
end Go.Proofs.Ytmccplbfggcogaa
