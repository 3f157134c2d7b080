/-
  The program's BankOf: a new list of the bytes of the bank that n leads to, or nothing.
-/
import Derived.Test.YtpaedkefmebjjajDoorB2
import Derived.Test.YtpaedkefmebjjajDoorI2
import Derived.Laws.CopyOwn
namespace Go.Proofs.YtpaedkefmebjjajDoor
open Go.ChangeShapes Go.WideShapes Go.ChangeAt Go.RowKit
theorem own_block {w : World} {lo g n : Nat} {f : Nat → Int} (h : w.heap[g]? = some (.cells (rowVals n f).toArray 3 (0, 0))) (hg : lo ≤ g) (hn : n ≤ 1048576) : OwnInts w lo (.slice (some ⟨g, 0, none⟩) n n) n f := by
  have hc := World.news_of_block h
  have hz : g < w.heap.size := (Array.getElem?_eq_some_iff.1 h).1
  refine ⟨_, n, rfl, hn, fun i hi => ⟨g, 0, rfl, ?_⟩, fun b o hF => ?_, fun b o hF => ?_⟩
  · have := hc i (.int .i64 (f i)) (rowVals_get n f i hi)
    rw [add_at] at this
    exact this
  · obtain ⟨off, e, _⟩ := hF
    simp only [Option.some.injEq, Addr.mk.injEq, and_true] at e
    obtain ⟨rfl, rfl⟩ := e
    refine ⟨hz, ?_⟩
    simp [World.frozen?, h]
  · obtain ⟨off, e, _⟩ := hF
    simp only [Option.some.injEq, Addr.mk.injEq, and_true] at e
    omega
end Go.Proofs.YtpaedkefmebjjajDoor
