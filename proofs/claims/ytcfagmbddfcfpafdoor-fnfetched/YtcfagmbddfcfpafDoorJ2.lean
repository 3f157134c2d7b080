/-
  The program's BankOf: a new list of the bytes of the bank that n leads to, or nothing.
-/
import Derived.Test.YtcfagmbddfcfpafDoorB2
import Derived.Test.YtcfagmbddfcfpafDoorI2
import Derived.Test.YtcfagmbddfcfpafDoorS2
import Derived.Laws.CopyOwn
import Derived.Lib.LazyBuf
namespace Go.Proofs.YtcfagmbddfcfpafDoor
open Go.ChangeShapes Go.WideShapes Go.ChangeAt Go.RowKit
theorem own_block {w : World} {lo g n : Nat} {f : Nat → Int} (h : w.heap[g]? = some (.cells (rowVals n f).toArray 3 (0, 0))) (hg : lo ≤ g) (hn : n ≤ 1048576) : OwnInts w lo (.slice (some ⟨g, 0, none⟩) n n) n f := by
  have hc := World.news_of_block h
  have hz : g < w.heap.size := (Array.getElem?_eq_some_iff.1 h).1
  refine ⟨_, n, rfl, hn, fun i hi => ⟨g, 0, rfl, ?_⟩, fun b o hF => ?_, fun b o hF => ?_⟩
  · have := hc i (.int .i64 (f i)) (rowVals_get n f i hi)
    rw [add_at] at this
    exact this
  · obtain ⟨off, e, _⟩ := hF
    simp only [Option.some.injEq, Addr.mk.injEq, and_true] at e
    obtain ⟨rfl, rfl⟩ := e
    refine ⟨hz, ?_⟩
    simp [World.frozen?, h]
  · obtain ⟨off, e, _⟩ := hF
    simp only [Option.some.injEq, Addr.mk.injEq, and_true] at e
    omega
end Go.Proofs.YtcfagmbddfcfpafDoor
namespace Go.Proofs.YtcfagmbddfcfpafDoor
open Go.ChangeShapes Go.WideShapes Go.ChangeAt Go.RowKit
def part (m : Nat) (f : Nat → Nat → Int) (k j : Nat) : Int := if j < 6 + k then imgF m f 0 j else 0
end Go.Proofs.YtcfagmbddfcfpafDoor
namespace Go.Proofs.YtcfagmbddfcfpafDoor
open Go.ChangeShapes Go.WideShapes Go.ChangeAt Go.RowKit
structure Bytes (w : World) (a : Option Addr) (n : Nat) (f : Nat → Int) : Prop where
  row : RowOf .u8 w a n f
  len : n ≤ 1048576
  byte : ∀ i, i < n → 0 ≤ f i ∧ f i ≤ 255
end Go.Proofs.YtcfagmbddfcfpafDoor
