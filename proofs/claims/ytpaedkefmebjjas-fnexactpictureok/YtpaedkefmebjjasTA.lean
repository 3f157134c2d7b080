/-
  Chapter 14's mirror of a sound unit that comes after: on blocks of a kind; sizes, copies, comparisons, marks.
-/
import Derived.Test.YtpaedkefmebjjasRB
import Derived.Test.YtpaedkefmebjjasAC
import Derived.Test.YtpaedkefmebjjasKO
namespace Go.Proofs.Ytpaedkefmebjjas
set_option linter.unusedVariables false
set_option linter.unusedSimpArgs false
open Go.ChangeShapes Go.WideShapes Go.ChangeAt Go.RowKit
theorem boxSetT {w : World} {b o : Nat} {cs : Array Value} {t : TypeId} {fr : Nat × Nat} (h : w.heap[b]? = some (.cells cs t fr)) (x : Value) : (w.setCell ⟨b, o, none⟩ x).heap[b]? = some (.cells (cs.setIfInBounds o x) t fr) := box_set7 h o x
theorem boxWroteT {R : Nat → Nat → Prop} {w w' : World} {b : Nat} {o : Obj} (h : w.heap[b]? = some o) (hw : Wrote R w w') (hd : ∀ o, ¬ R b o) : w'.heap[b]? = some o := (hw.block b (boxLt h) hd).trans h
/-- A sound unit that comes after, in numbers. -/
structure SnD where
  T : Int
  P : Int
  C : Int
  B : Int
  L : Int
  S : Bool
  Q : Bool
  cap : Int
  n : Nat
  f : Nat → Int
  ns : Nat
  sm : Nat → Int
structure SnOn (W : World) (D : Nat → Nat → Prop) (v : Value) (d : SnD) : Prop where
  ex : ∃ u1 u2, v = .agg #[.int .i64 d.T, .int .i64 d.P, .int .i64 d.C, .int .i64 d.B, .int .i64 d.L, .bool d.S, .bool d.Q, .int .i64 d.cap, u1, u2] ∧ RsOn W (D 0) u1 d.n d.f ∧ ListOn W (D 1) u2 d.ns d.sm
section
variable {R : Nat → Nat → Prop} {W W' : World} {D E : Nat → Nat → Prop} {v : Value} {d : SnD}
theorem SnOn.keep (H : SnOn W D v d) (hw : Wrote R W W') (hd : ∀ i b o, D i b → b < W.heap.size → ¬ R b o) : SnOn W' D v d := by
  obtain ⟨u1, u2, e, h1, h2⟩ := H
  exact ⟨u1, u2, e, h1.keep hw (hd 0), h2.keep hw (hd 1)⟩
theorem SnOn.below (H : SnOn W D v d) (L : Below W.heap.size W W') : SnOn W' D v d := H.keep (wrote_below L Nowhere) (fun _ _ _ _ _ x => x)
theorem SnOn.mono (H : SnOn W D v d) (hd : ∀ i b, b < W.heap.size → D i b → E i b) : SnOn W E v d := by
  obtain ⟨u1, u2, e, h1, h2⟩ := H
  exact ⟨u1, u2, e, h1.mono (hd 0), h2.mono (hd 1)⟩
theorem SnOn.form (H : SnOn W D v d) : ∃ a c a' c', v = .agg #[.int .i64 d.T, .int .i64 d.P, .int .i64 d.C, .int .i64 d.B, .int .i64 d.L, .bool d.S, .bool d.Q, .int .i64 d.cap, .slice a d.n c, .slice a' d.ns c'] := by
  obtain ⟨u1, u2, e, h1, h2⟩ := H
  obtain ⟨a, c, rfl⟩ := h1.two
  obtain ⟨a', c', rfl⟩ := h2.two
  exact ⟨a, c, a', c', e⟩
end
end Go.Proofs.Ytpaedkefmebjjas
