/-
  FnExactFetch's call of the specification, whatever order its parts come in.
-/
import Derived.Test.YtpaedkefmebjjarV0
import Derived.Test.YtpaedkefmebjjarCB
import Derived.Test.YtpaedkefmebjjarU0
namespace Go.Proofs.Ytpaedkefmebjjar
set_option linter.unusedVariables false
open Go.ChangeShapes Go.WideShapes Go.ChangeAt Go.RowKit
theorem onSpecCpuNew (w : World) (D : Nat → Prop) (v : Value) (m : Nat) (ln : Nat → Nat) (f : Nat → Nat → Int) (H : ImgOn w D v m ln f) :
    Calls Try.prog 56 #[v] w fun e w' => e = .returned (.agg #[.int .i64 0, .int .i64 0, .int .i64 255, .int .i64 (newPc m ln f), .bool false, .bool false, .bool false, .bool true]) ∧ Below w.heap.size w w' := by
  obtain ⟨v', F, rfl, hv⟩ := H.ints
  exact specCpuNew w F v' m ln f hv
end Go.Proofs.Ytpaedkefmebjjar
