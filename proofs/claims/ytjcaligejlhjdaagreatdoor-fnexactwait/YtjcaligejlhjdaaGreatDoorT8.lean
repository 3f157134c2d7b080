/-
  Chapter 8 of the specification by its contracts: a tick.
-/
import Derived.Test.YtjcaligejlhjdaaGreatDoorS8
import Derived.Test.YtjcaligejlhjdaaGreatDoorA8
import Derived.Lib.QuietBelow
namespace Go.Proofs.YtjcaligejlhjdaaGreatDoor
set_option linter.unusedVariables false
set_option linter.unusedSimpArgs false
open Go.ChangeShapes Go.WideShapes Go.ChangeAt Go.RowKit
/-- A list of numbers, as a value, on blocks of a kind. -/
structure ListOn (W : World) (D : Nat → Prop) (u : Value) (k : Nat) (h : Nat → Int) : Prop where
  ex : ∃ d z, u = .slice d k z ∧ SlOn W D d k h
/-- A list that is none, or one of an own block. -/
def DotsOf (W : World) (lo p : Nat) (dd : Value) (m : Nat) (g : Nat → Int) : Prop := (dd = .slice none 0 0 ∧ m = 0) ∨ ∃ q y, dd = .slice (some ⟨q, 0, none⟩) m y ∧ Row W lo q m y g ∧ p ≠ q
theorem SlOn.zero {W : World} {D : Nat → Prop} (a : Option Addr) (f : Nat → Int) : SlOn W D a 0 f := ⟨by omega, fun i hi => absurd hi (Nat.not_lt_zero _), fun b o hF => absurd hF (foot_none _ _ _), fun b o hF => absurd hF (foot_none _ _ _)⟩
end Go.Proofs.YtjcaligejlhjdaaGreatDoor
namespace Go.Proofs.YtjcaligejlhjdaaGreatDoor
set_option linter.unusedVariables false
set_option linter.unusedSimpArgs false
open Go.ChangeShapes Go.WideShapes Go.ChangeAt Go.RowKit
theorem DotsOf.keep {R : Nat → Nat → Prop} {W W' : World} {lo lo' p : Nat} {dd : Value} {m : Nat} {g : Nat → Int} (h : DotsOf W lo p dd m g) (hw : Wrote R W W') (hd : ∀ b o, lo ≤ b → ¬ R b o) (hl : lo' ≤ lo) : DotsOf W' lo' p dd m g := by
  rcases h with h | ⟨q, y, e, r, hne⟩
  · exact Or.inl h
  · exact Or.inr ⟨q, y, e, (r.keep hw (fun o => hd q o r.parts.1)).mono hl, hne⟩
end Go.Proofs.YtjcaligejlhjdaaGreatDoor
namespace Go.Proofs.YtjcaligejlhjdaaGreatDoor
set_option linter.unusedVariables false
open Go.ChangeShapes Go.WideShapes Go.ChangeAt Go.RowKit
theorem ListOn.small {W : World} {D : Nat → Prop} {u : Value} {k : Nat} {h : Nat → Int} (H : ListOn W D u k h) : k ≤ 1048576 := by
  obtain ⟨d, z, e, hs⟩ := H
  exact hs.small
theorem ListOn.keep {R : Nat → Nat → Prop} {W W' : World} {D : Nat → Prop} {u : Value} {k : Nat} {h : Nat → Int} (H : ListOn W D u k h) (hw : Wrote R W W') (hd : ∀ b o, D b → b < W.heap.size → ¬ R b o) : ListOn W' D u k h := by
  obtain ⟨d, z, e, hs⟩ := H
  exact ⟨d, z, e, hs.keep hw (fun b o _ => hd b o)⟩
theorem ListOn.below {W W' : World} {D : Nat → Prop} {u : Value} {k : Nat} {h : Nat → Int} (H : ListOn W D u k h) (L : Below W.heap.size W W') : ListOn W' D u k h := H.keep (wrote_below L Nowhere) (fun _ _ _ _ x => x)
theorem ListOn.mono {W : World} {D E : Nat → Prop} {u : Value} {k : Nat} {h : Nat → Int} (H : ListOn W D u k h) (hd : ∀ b, b < W.heap.size → D b → E b) : ListOn W E u k h := by
  obtain ⟨d, z, e, hs⟩ := H
  exact ⟨d, z, e, hs.mono hd⟩
theorem ListOn.two {W : World} {D : Nat → Prop} {u : Value} {k : Nat} {h : Nat → Int} (H : ListOn W D u k h) : ∃ d z, u = .slice d k z := by
  obtain ⟨d, z, e, hs⟩ := H
  exact ⟨d, z, e⟩
theorem onEqList (w : World) (D E : Nat → Prop) (u v : Value) (k : Nat) (h : Nat → Int) (H : ListOn w D u k h) (K : ListOn w E v k h) : Calls Tryz.prog 27 #[u, v] w fun e w' => e = .returned (.bool true) ∧ Below w.heap.size w w' := by
  obtain ⟨d, z, rfl, hs⟩ := H
  obtain ⟨d', z', rfl, hs'⟩ := K
  refine (eqIntS w _ _ _ _ k k h h (hs.ints z) (hs'.ints z')).mono ?_
  rintro e w' ⟨rfl, dd, rfl⟩
  exact ⟨by rw [eqInts_refl], below_drewN (Below.refl _ _) dd⟩
end Go.Proofs.YtjcaligejlhjdaaGreatDoor
