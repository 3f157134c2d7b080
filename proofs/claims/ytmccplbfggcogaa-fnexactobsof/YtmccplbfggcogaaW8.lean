/-
  Chapter 8 of the specification over picture units that lie on blocks of a kind.
-/
import Derived.Test.YtmccplbfggcogaaX8
namespace Go.Proofs.Ytmccplbfggcogaa
set_option linter.unusedVariables false
open Go.ChangeShapes Go.WideShapes Go.ChangeAt Go.RowKit
theorem ListOn.small {W : World} {D : Nat → Prop} {u : Value} {k : Nat} {h : Nat → Int} (H : ListOn W D u k h) : k ≤ 1048576 := by
  obtain ⟨d, z, e, hs⟩ := H
  exact hs.small
theorem ListOn.keep {R : Nat → Nat → Prop} {W W' : World} {D : Nat → Prop} {u : Value} {k : Nat} {h : Nat → Int} (H : ListOn W D u k h) (hw : Wrote R W W') (hd : ∀ b o, D b → b < W.heap.size → ¬ R b o) : ListOn W' D u k h := by
  obtain ⟨d, z, e, hs⟩ := H
  exact ⟨d, z, e, hs.keep hw (fun b o _ => hd b o)⟩
theorem ListOn.below {W W' : World} {D : Nat → Prop} {u : Value} {k : Nat} {h : Nat → Int} (H : ListOn W D u k h) (L : Below W.heap.size W W') : ListOn W' D u k h := H.keep (wrote_below L Nowhere) (fun _ _ _ _ x => x)
theorem ListOn.mono {W : World} {D E : Nat → Prop} {u : Value} {k : Nat} {h : Nat → Int} (H : ListOn W D u k h) (hd : ∀ b, b < W.heap.size → D b → E b) : ListOn W E u k h := by
  obtain ⟨d, z, e, hs⟩ := H
  exact ⟨d, z, e, hs.mono hd⟩
theorem ListOn.two {W : World} {D : Nat → Prop} {u : Value} {k : Nat} {h : Nat → Int} (H : ListOn W D u k h) : ∃ d z, u = .slice d k z := by
  obtain ⟨d, z, e, hs⟩ := H
  exact ⟨d, z, e⟩
theorem onEqList (w : World) (D E : Nat → Prop) (u v : Value) (k : Nat) (h : Nat → Int) (H : ListOn w D u k h) (K : ListOn w E v k h) : Calls Try.prog 43 #[u, v] w fun e w' => e = .returned (.bool true) ∧ Below w.heap.size w w' := by
  obtain ⟨d, z, rfl, hs⟩ := H
  obtain ⟨d', z', rfl, hs'⟩ := K
  refine (eqIntS w _ _ _ _ k k h h (hs.ints z) (hs'.ints z')).mono ?_
  rintro e w' ⟨rfl, dd, rfl⟩
  exact ⟨by rw [eqInts_refl], below_drewN (Below.refl _ _) dd⟩
theorem onMarkList (w : World) (D : Nat → Prop) (u : Value) (k : Nat) (h : Nat → Int) (j : Int) (H : ListOn w D u k h) (j0 : 0 ≤ j) (j1 : j ≤ 1099511627776) : Calls Try.prog 51 #[u, .int .i64 j] w fun e w' => e = .returned (.int .i64 (j + k)) ∧ ListOn w' D u k (fun i => j + i) ∧ Wrote (On D) w w' := by
  obtain ⟨d, z, rfl, hs⟩ := H
  have hn := hs.small
  refine (markIntS w d k z h j hs.row hs.free j0 (by omega)).mono ?_
  rintro e w' ⟨rfl, R, T, -⟩
  exact ⟨rfl, ⟨_, _, rfl, hn, R, hs.free.keep T, hs.on⟩, T.mono (fun b o _ x => hs.on b o x)⟩
theorem onHeldList (w : World) (D : Nat → Prop) (u : Value) (k : Nat) (j : Int) (H : ListOn w D u k (fun i => j + i)) (j0 : 0 ≤ j) (j1 : j ≤ 1099511627776) : Calls Try.prog 57 #[u, .int .i64 j] w fun e w' => e = .returned (.int .i64 (j + k)) ∧ Below w.heap.size w w' := by
  obtain ⟨d, z, rfl, hs⟩ := H
  have hn := hs.small
  refine (heldIntS w d k z j hs.row j0 (by omega)).mono ?_
  rintro e w' ⟨rfl, rfl⟩
  exact ⟨rfl, Below.refl _ _⟩
end Go.Proofs.Ytmccplbfggcogaa
