/-
  Chapter 5 by its contracts: the mirror of a processor, and the specification's functions on it.
-/
import Derived.Test.YtmccplbfggcogaaS2
import Derived.Test.YtmccplbfggcogaaRows
import Derived.Test.YtmccplbfggcogaaMath
import Derived.WalkKit
import Derived.ProofKit
import Derived.WalkSpells
import Derived.Outline
import Derived.Deep.QuietTactic
import Derived.BigQuiet
import Derived.Lib.Builder
import Derived.Deep.OwnRows
namespace Go.Proofs.Ytmccplbfggcogaa
set_option linter.unusedVariables false
open Go.ChangeShapes Go.WideShapes Go.ChangeAt Go.RowKit
theorem box_keep {w w' : World} {b n : Nat} {o : Obj} (hb : w.heap[b]? = some o) (L : Below n w w') (h : b < n) : w'.heap[b]? = some o := (L.block b h).trans hb
theorem box_new (w : World) (cs : Array Value) (t : TypeId) : (w.alloc (.cells cs t)).heap[w.heap.size]? = some (.cells cs t (0, 0)) := by show (w.heap.push _)[w.heap.size]? = _; simp
theorem boxC {w : World} {b : Nat} {cs : Array Value} {t : TypeId} {fr : Nat × Nat} (h : w.heap[b]? = some (.cells cs t fr)) : ∀ j, w.cell? ⟨b, j, none⟩ = cs[j]? := fun j => Lib.cell_of_heap h j
theorem boxF {w : World} {b : Nat} {cs : Array Value} {t : TypeId} (h : w.heap[b]? = some (.cells cs t (0, 0))) : ∀ j, w.frozen? ⟨b, j, none⟩ = false := fun j => Lib.frozen_of_heap h j
theorem boxLt {w : World} {b : Nat} {o : Obj} (hb : w.heap[b]? = some o) : b < w.heap.size := by
  rcases Nat.lt_or_ge b w.heap.size with h' | h'
  · exact h'
  · simp [Array.getElem?_eq_none h'] at hb
theorem boxA {w : World} {b : Nat} {o : Obj} (hb : w.heap[b]? = some o) (x : Obj) : (w.alloc x).heap[b]? = some o := box_keep hb ((Below.refl w.heap.size w).alloc (Nat.le_refl _) x) (boxLt hb)
theorem below_snoc {w w' w'' : World} (h : Below w.heap.size w w') (k : Below w'.heap.size w' w'') : Below w.heap.size w w'' := h.trans (k.mono h.size)
theorem rowOf_row {w : World} {g n : Nat} {t : TypeId} {k : IntKind} {f : Nat → Int} (h : w.rowIs g t n (fun j => .int k (f j))) : RowOf k w (some ⟨g, 0, none⟩) n f := fun i hi => ⟨g, 0, rfl, by rw [Nat.zero_add]; exact h.cell hi⟩
theorem toCpu (w : World) (A X S Pc : Int) (Z N C I : Bool) : Calls Try.prog 36 #[.agg #[.int .i64 A, .int .i64 X, .int .i64 S, .int .i64 Pc, .bool Z, .bool N, .bool C, .bool I]] w
    fun e w' => e = .returned (.agg #[.int .i64 A, .int .i64 X, .int .i64 S, .int .i64 Pc, .bool Z, .bool N, .bool C, .bool I]) ∧ Below w.heap.size w w' := by
  go_enter Try.func36, Try.ntmps36
  go_wp2
  refine bodyPost_ret (v := .agg #[.int .i64 A, .int .i64 X, .int .i64 S, .int .i64 Pc, .bool Z, .bool N, .bool C, .bool I]) (by simp [results, Try.results36, go_sem]) rfl ?_
  exact ⟨rfl, (((Below.refl _ _).alloc (Nat.le_refl _) _).alloc (by simp) _).alloc (by simp; omega) _⟩
theorem eqCpu_same (w : World) (A X S Pc : Int) (Z N C I : Bool) : Calls Try.prog 46 #[.agg #[.int .i64 A, .int .i64 X, .int .i64 S, .int .i64 Pc, .bool Z, .bool N, .bool C, .bool I], .agg #[.int .i64 A, .int .i64 X, .int .i64 S, .int .i64 Pc, .bool Z, .bool N, .bool C, .bool I]] w
    fun e w' => e = .returned (.bool true) ∧ Below w.heap.size w w' := by
  go_enter Try.func46, Try.ntmps46
  go_wp2
  go_ret
  exact ⟨rfl, ((Below.refl _ _).alloc (Nat.le_refl _) _).alloc (by simp) _⟩
end Go.Proofs.Ytmccplbfggcogaa
