/-
  Rings (a cap, and a list of records): copies, comparisons, marks.
-/
import Derived.Test.YtpaedkefmebjjacRA
import Derived.Lib.QuietBelow
import Derived.BigQuiet
import Derived.Deep.DeepCutAuto
namespace Go.Proofs.Ytpaedkefmebjjac
set_option linter.unusedVariables false
set_option linter.unusedSimpArgs false
open Go.ChangeShapes Go.WideShapes Go.ChangeAt Go.RowKit Go.Sort
/-- A ring in numbers: a cap, and a list of records on blocks of a kind. -/
structure RgOn (W : World) (D : Nat → Prop) (v : Value) (cap : Int) (n : Nat) (f : Nat → Int) : Prop where
  ex : ∃ u, v = .agg #[.int .i64 cap, u] ∧ RsOn W D u n f
section
variable {R : Nat → Nat → Prop} {W W' : World} {D E : Nat → Prop} {v : Value} {cap : Int} {n : Nat} {f : Nat → Int}
theorem RgOn.keep (H : RgOn W D v cap n f) (hw : Wrote R W W') (hd : ∀ b o, D b → b < W.heap.size → ¬ R b o) : RgOn W' D v cap n f := by
  obtain ⟨u, e, h⟩ := H
  exact ⟨u, e, h.keep hw hd⟩
theorem RgOn.below (H : RgOn W D v cap n f) (L : Below W.heap.size W W') : RgOn W' D v cap n f := H.keep (wrote_below L Nowhere) (fun _ _ _ _ x => x)
theorem RgOn.mono (H : RgOn W D v cap n f) (hd : ∀ b, b < W.heap.size → D b → E b) : RgOn W E v cap n f := by
  obtain ⟨u, e, h⟩ := H
  exact ⟨u, e, h.mono hd⟩
theorem RgOn.two (H : RgOn W D v cap n f) : ∃ a c, v = .agg #[.int .i64 cap, .slice a n c] := by
  obtain ⟨u, e, h⟩ := H
  obtain ⟨a, c, rfl⟩ := h.two
  exact ⟨a, c, e⟩
end
end Go.Proofs.Ytpaedkefmebjjac
