/-
  Chapter 11 by its contracts: the mirror of a pad, and the specification's functions on it.
-/
import Derived.Test.YtmccplbfggcogaaC5
import Derived.Test.YtmccplbfggcogaaB9
import Derived.Deep.DeepCutAuto
namespace Go.Proofs.Ytmccplbfggcogaa
set_option linter.unusedVariables false
set_option linter.unusedSimpArgs false
open Go.ChangeShapes Go.WideShapes Go.ChangeAt Go.RowKit
def okPads (n : Nat) (f : Nat → Int) : Bool := decide ((∀ i, i < n → 0 ≤ f i ∧ f i ≤ 255) ∧ n ≤ 20)
theorem okPads_no {n : Nat} {f : Nat → Int} {j : Nat} (hj : j < n) (h : ¬ (0 ≤ f j ∧ f j ≤ 255)) : okPads n f = false := decide_eq_false (fun x => h (x.1 j hj))
theorem okPads_all {n : Nat} {f : Nat → Int} (h : ∀ j, j < n → 0 ≤ f j ∧ f j ≤ 255) : okPads n f = decide (n ≤ 20) := decide_eq_decide.2 ⟨fun x => x.2, fun x => ⟨h, x⟩⟩
theorem okPads_of {n : Nat} {f : Nat → Int} (h : okPads n f = true) : (∀ j, j < n → 0 ≤ f j ∧ f j ≤ 255) ∧ n ≤ 20 := of_decide_eq_true h
def padAt (n : Nat) (f : Nat → Int) (t : Int) : Int := if okPads n f = true ∧ 0 < n then f ((max t 0 / 64) % n).toNat else 0
theorem padAt_in (n : Nat) (f : Nat → Int) (t : Int) : 0 ≤ padAt n f t ∧ padAt n f t ≤ 255 := by
  unfold padAt
  split
  · rename_i h
    have h2 := h.2
    have hm : max t 0 / 64 % (n : Int) < n := Int.emod_lt_of_pos _ (by omega)
    have hm0 : 0 ≤ max t 0 / 64 % (n : Int) := Int.emod_nonneg _ (by omega)
    exact (okPads_of h.1).1 _ (by omega)
  · omega
/- What is held behind a write, and the byte that is told from then on. -/
def heldW (v : Int) : Bool := v % 2 == 1
def shiftW (H : Bool) (S : Int) (n : Nat) (f : Nat → Int) (t v : Int) : Int := if (H || heldW v) = true then padAt n f t else S
def shiftR (H : Bool) (S : Int) (n : Nat) (f : Nat → Int) (t : Int) : Int := if H = true then padAt n f t else S / 2
def bitR (H : Bool) (S : Int) (n : Nat) (f : Nat → Int) (t : Int) : Int := if H = true then padAt n f t % 2 else S % 2
theorem i64_and1 (v : Int) : bits .and .i64 v 1 = v % 2 := by
  have h := i64_and_byte v 1 (by omega)
  have e : ((v % 256).toNat &&& 1) = (v % 256).toNat % 2 := Nat.and_one_is_mod _
  rw [show ((1 : Nat) : Int) = (1 : Int) from rfl] at h
  rw [h, e]
  omega
theorem toPad (w : World) (H : Bool) (S : Int) : Calls Try.prog 37 #[.agg #[.bool H, .int .i64 S]] w
    fun e w' => e = .returned (.agg #[.bool H, .int .i64 S]) ∧ Below w.heap.size w w' := by
  go_enter Try.func37, Try.ntmps37
  go_wp2
  refine bodyPost_ret (v := .agg #[.bool H, .int .i64 S]) (by simp [results, Try.results37, go_sem]) rfl ?_
  exact ⟨rfl, (((Below.refl _ _).alloc (Nat.le_refl _) _).alloc (by simp) _).alloc (by simp; omega) _⟩
theorem eqPad_same (w : World) (H : Bool) (S : Int) : Calls Try.prog 47 #[.agg #[.bool H, .int .i64 S], .agg #[.bool H, .int .i64 S]] w
    fun e w' => e = .returned (.bool true) ∧ Below w.heap.size w w' := by
  go_enter Try.func47, Try.ntmps47
  go_wp2
  go_ret
  exact ⟨rfl, ((Below.refl _ _).alloc (Nat.le_refl _) _).alloc (by simp) _⟩
end Go.Proofs.Ytmccplbfggcogaa
