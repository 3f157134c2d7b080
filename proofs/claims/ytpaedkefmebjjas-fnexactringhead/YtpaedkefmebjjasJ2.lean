/-
  The program's BankOf: a new list of the bytes of the bank that n leads to, or nothing.
-/
import Derived.Test.YtpaedkefmebjjasB2
import Derived.Test.YtpaedkefmebjjasI2
import Derived.Laws.CopyOwn
namespace Go.Proofs.Ytpaedkefmebjjas
open Go.ChangeShapes Go.WideShapes Go.ChangeAt Go.RowKit
theorem leftBy (x : Int) (m : Nat) (w : World) (h1 : 1 ≤ m) (h8 : m ≤ 8) : Calls Try.prog 58 #[.int .i64 x, .int .i64 m] w fun e w' => e = .returned (.int .i64 (bankIx m x)) ∧ w' = w := by
  obtain ⟨t1, t2, he⟩ := bankIx_eq x h1 h8
  have hb := bankIx_lt x h1
  have hq : (x.tmod m < 0 → x.tmod m + m = bankIx m x) ∧ (¬ x.tmod m < 0 → x.tmod m = bankIx m x) := by
    unfold bankIx
    have h1 := Int.emod_nonneg x (show (m : Int) ≠ 0 by omega)
    rw [Int.toNat_of_nonneg h1]
    have hm : m = 1 ∨ m = 2 ∨ m = 3 ∨ m = 4 ∨ m = 5 ∨ m = 6 ∨ m = 7 ∨ m = 8 := by omega
    rcases tmod_cases x m with ⟨h0, e⟩ | ⟨h0, e⟩ <;> rw [e] <;> rcases hm with rfl | rfl | rfl | rfl | rfl | rfl | rfl | rfl <;> refine ⟨fun _ => by omega, fun _ => by omega⟩
  have HQ := hide hq
  clear hq he
  by_cases hn : x.tmod m < 0
  · go_enter Try.func58, Try.ntmps58
    go_wp2
    go_ret
    exact ⟨ret_int ((unhide HQ).1 hn), rfl⟩
  · go_enter Try.func58, Try.ntmps58
    go_wp2
    go_ret
    exact ⟨ret_int ((unhide HQ).2 (by omega)), rfl⟩
theorem own_block {w : World} {lo g n : Nat} {f : Nat → Int} (h : w.heap[g]? = some (.cells (rowVals n f).toArray 3 (0, 0))) (hg : lo ≤ g) (hn : n ≤ 1048576) : OwnInts w lo (.slice (some ⟨g, 0, none⟩) n n) n f := by
  have hc := World.news_of_block h
  have hz : g < w.heap.size := (Array.getElem?_eq_some_iff.1 h).1
  refine ⟨_, n, rfl, hn, fun i hi => ⟨g, 0, rfl, ?_⟩, fun b o hF => ?_, fun b o hF => ?_⟩
  · have := hc i (.int .i64 (f i)) (rowVals_get n f i hi)
    rw [add_at] at this
    exact this
  · obtain ⟨off, e, _⟩ := hF
    simp only [Option.some.injEq, Addr.mk.injEq, and_true] at e
    obtain ⟨rfl, rfl⟩ := e
    refine ⟨hz, ?_⟩
    simp [World.frozen?, h]
  · obtain ⟨off, e, _⟩ := hF
    simp only [Option.some.injEq, Addr.mk.injEq, and_true] at e
    omega
end Go.Proofs.Ytpaedkefmebjjas
