/-
  Contracts of the exact laws' helpers over bytes, and over images' memory: copies, comparisons, marks.
-/
import Derived.Test.YtmccplbfggcogaaS2
namespace Go.Proofs.Ytmccplbfggcogaa
open Go.ChangeShapes Go.WideShapes Go.ChangeAt Go.RowKit
theorem markImage (w : World) (v : Value) (m : Nat) (ra : Nat → Option Addr) (ln rc : Nat → Nat) (f : Nat → Nat → Int) (k : Int) (S : Sep w v m ra ln rc) (hr : ∀ i, i < m → RowOf .i64 w (ra i) (ln i) (f i)) (k0 : 0 ≤ k) (k1 : k ≤ 1099511627776) :
    Calls Try.prog 50 #[.agg #[v], .int .i64 k] w fun e w' => e = .returned (.int .i64 (k + psum ln m)) ∧ (∀ i, i < m → RowOf .i64 w' (ra i) (ln i) (fun j => k + psum ln i + j)) ∧ Wrote (fun b o => ∃ i, i < m ∧ Foot (ra i) (ln i) b o) w w' := by
  have L0 : Below w.heap.size w (w.alloc (.cells #[v] 49)) := (Below.refl _ _).alloc (Nat.le_refl _) _
  have W0 := wrote_below L0 (fun b o => ∃ i, i < m ∧ Foot (ra i) (ln i) b o)
  have hr0 := fun i hi => (hr i hi).keep (wrote_below L0 Nowhere) (fun _ _ _ x => x)
  have S0 := S.keep (wrote_below L0 Nowhere) (fun _ _ x => absurd x id)
  go_enter Try.func50, Try.ntmps50
  go_wp2_with fail
  refine (markIntSS _ v m ra ln rc f k S0 hr0 k0 k1).mono ?_
  rintro e w1 ⟨rfl, R1, W1, s1⟩
  go_wp2
  go_ret
  exact ⟨rfl, R1, W0.trans W1⟩
end Go.Proofs.Ytmccplbfggcogaa
