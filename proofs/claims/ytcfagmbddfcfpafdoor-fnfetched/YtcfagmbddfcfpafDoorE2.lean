/-
  Contracts of the exact laws' helpers over slices of integers: sizes, copies, comparisons.
-/
import Derived.Test.YtcfagmbddfcfpafDoorRows
import Derived.Test.YtcfagmbddfcfpafDoorMath
import Derived.Test.YtcfagmbddfcfpafDoorH
import Derived.Deep.OwnRows
namespace Go.Proofs.YtcfagmbddfcfpafDoor
open Go.ChangeShapes Go.WideShapes Go.ChangeAt Go.RowKit
theorem info3 : (Tryd.prog.info? 3).map (fun i => (i.zero, i.size, i.bytes)) = some (some (.int .i64 0), 1, 8) := by kernel_rfl
theorem infoInts : (Tryd.prog.info? 27).map (fun i => (i.zero, i.size, i.bytes)) = some (some (.slice none 0 0), 1, 24) := by kernel_rfl
structure Rows2 (w : World) (b0 m : Nat) (ln : Nat → Nat) (f : Nat → Nat → Int) : Prop where
  outer : w.rowIs b0 27 m (fun i => .slice (some ⟨b0 + 1 + i, 0, none⟩) (ln i) (ln i))
  inner : ∀ i, i < m → w.rowIs (b0 + 1 + i) 3 (ln i) (fun j => .int .i64 (f i j))
end Go.Proofs.YtcfagmbddfcfpafDoor
