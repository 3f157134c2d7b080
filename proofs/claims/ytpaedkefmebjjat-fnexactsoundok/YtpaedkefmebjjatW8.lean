/-
  Chapter 8 of the specification over picture units that lie on blocks of a kind.
-/
import Derived.Test.YtpaedkefmebjjatX8
namespace Go.Proofs.Ytpaedkefmebjjat
set_option linter.unusedVariables false
open Go.ChangeShapes Go.WideShapes Go.ChangeAt Go.RowKit
theorem ListOn.small {W : World} {D : Nat → Prop} {u : Value} {k : Nat} {h : Nat → Int} (H : ListOn W D u k h) : k ≤ 1048576 := by
  obtain ⟨d, z, e, hs⟩ := H
  exact hs.small
theorem ListOn.keep {R : Nat → Nat → Prop} {W W' : World} {D : Nat → Prop} {u : Value} {k : Nat} {h : Nat → Int} (H : ListOn W D u k h) (hw : Wrote R W W') (hd : ∀ b o, D b → b < W.heap.size → ¬ R b o) : ListOn W' D u k h := by
  obtain ⟨d, z, e, hs⟩ := H
  exact ⟨d, z, e, hs.keep hw (fun b o _ => hd b o)⟩
theorem ListOn.below {W W' : World} {D : Nat → Prop} {u : Value} {k : Nat} {h : Nat → Int} (H : ListOn W D u k h) (L : Below W.heap.size W W') : ListOn W' D u k h := H.keep (wrote_below L Nowhere) (fun _ _ _ _ x => x)
theorem ListOn.mono {W : World} {D E : Nat → Prop} {u : Value} {k : Nat} {h : Nat → Int} (H : ListOn W D u k h) (hd : ∀ b, b < W.heap.size → D b → E b) : ListOn W E u k h := by
  obtain ⟨d, z, e, hs⟩ := H
  exact ⟨d, z, e, hs.mono hd⟩
theorem ListOn.two {W : World} {D : Nat → Prop} {u : Value} {k : Nat} {h : Nat → Int} (H : ListOn W D u k h) : ∃ d z, u = .slice d k z := by
  obtain ⟨d, z, e, hs⟩ := H
  exact ⟨d, z, e⟩
theorem onEqList (w : World) (D E : Nat → Prop) (u v : Value) (k : Nat) (h : Nat → Int) (H : ListOn w D u k h) (K : ListOn w E v k h) : Calls Try.prog 28 #[u, v] w fun e w' => e = .returned (.bool true) ∧ Below w.heap.size w w' := by
  obtain ⟨d, z, rfl, hs⟩ := H
  obtain ⟨d', z', rfl, hs'⟩ := K
  refine (eqIntS w _ _ _ _ k k h h (hs.ints z) (hs'.ints z')).mono ?_
  rintro e w' ⟨rfl, dd, rfl⟩
  exact ⟨by rw [eqInts_refl], below_drewN (Below.refl _ _) dd⟩
end Go.Proofs.Ytpaedkefmebjjat
