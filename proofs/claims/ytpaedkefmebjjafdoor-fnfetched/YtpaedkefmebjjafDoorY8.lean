/-
  Draws of what Peek and Poke are asked.
-/
import Derived.Test.YtpaedkefmebjjafDoorY7
import Derived.Test.YtpaedkefmebjjafDoorD1
namespace Go.Proofs.YtpaedkefmebjjafDoor
set_option linter.unusedVariables false
open Go.ChangeShapes Go.WideShapes Go.ChangeAt Go.RowKit
/-- Where a draw of an image and a memory stands ahead of its last statement: the results' boxes, its own boxes, what lies in new memory. -/
structure DP (w : World) (B c : Nat) (a : Option Addr) (len cap : Nat) (W : World) (p : Nat) (va : Option Addr) (m vc : Nat) (qa : Option Addr) (n qc : Nat) (bank : Int) (ra : Nat → Option Addr) (ln rc : Nat → Nat) (F : Nat → Nat → Int) (g : Nat → Int) : Prop where
  r0 : W.heap[w.heap.size]? = some (.cells #[.slice none 0 0] 26 (0, 0))
  r1 : W.heap[w.heap.size + 1]? = some (.cells #[.slice none 0 0, .int .i64 0] 29 (0, 0))
  b0 : W.heap[p]? = some (.cells #[.slice va m vc] 26 (0, 0))
  b1 : W.heap[p + 1]? = some (.cells #[.slice qa n qc, .int .i64 bank] 29 (0, 0))
  hc : c = w.heap.size + 2
  far : c < p
  ss : OwnSS W (w.heap.size + 3) (.slice va m vc) m ra ln rc F
  own : OwnInts W (w.heap.size + 3) (.slice qa n qc) n g
  le : m ≤ 3
  cur : Cur W B c a len cap
  low : Below w.heap.size w W
section
variable {w : World} {B c : Nat} {a : Option Addr} {len cap : Nat} {W W' : World} {p : Nat} {va : Option Addr} {m vc : Nat} {qa : Option Addr} {n qc : Nat} {bank : Int} {ra : Nat → Option Addr} {ln rc : Nat → Nat} {F : Nat → Nat → Int} {g : Nat → Int}
theorem DP.step (D : DP w B c a len cap W p va m vc qa n qc bank ra ln rc F g) (S : Step c W W') (H : Cur W' B c a len cap) : DP w B c a len cap W' p va m vc qa n qc bank ra ln rc F g := by
  have hc := D.hc
  have hf := D.far
  have hz := boxLt D.r0
  exact ⟨(S.block _ (boxLt D.r0) (by omega)).trans D.r0, (S.block _ (boxLt D.r1) (by omega)).trans D.r1, (S.block _ (boxLt D.b0) (by omega)).trans D.b0, (S.block _ (boxLt D.b1) (by omega)).trans D.b1, D.hc, D.far, D.ss.blocks S.size (fun k hk hk' => S.block k hk' (by omega)), D.own.blocks S.size (fun k hk hk' => S.block k hk' (by omega)), D.le, H, D.low.trans (S.below (by omega) (by omega))⟩
theorem DP.end (D : DP w B c a len cap W p va m vc qa n qc bank ra ln rc F g) (x y z : Value) : OwnSS (((W.setCell ⟨w.heap.size, 0, none⟩ x).setCell ⟨w.heap.size + 1, 0, none⟩ y).setCell ⟨w.heap.size + 1, 1, none⟩ z) w.heap.size (.slice va m vc) m ra ln rc F ∧ OwnInts (((W.setCell ⟨w.heap.size, 0, none⟩ x).setCell ⟨w.heap.size + 1, 0, none⟩ y).setCell ⟨w.heap.size + 1, 1, none⟩ z) w.heap.size (.slice qa n qc) n g ∧ Below w.heap.size w (((W.setCell ⟨w.heap.size, 0, none⟩ x).setCell ⟨w.heap.size + 1, 0, none⟩ y).setCell ⟨w.heap.size + 1, 1, none⟩ z) :=
  ⟨OwnSS.low3 (lo := 0) (D.ss.lower (by omega)), (((D.own.setLow (by omega) _).setLow (by omega) _).setLow (by omega) _).mono (by omega), ((D.low.setCell (Nat.le_refl _) _).setCell (by simp) _).setCell (by simp) _⟩
end
end Go.Proofs.YtpaedkefmebjjafDoor
