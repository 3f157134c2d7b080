/-
  Chapter 5 by its contracts: the mirror of a processor, and the specification's functions on it.
-/
import Derived.Test.YtpaedkefmebjjatS2
import Derived.Test.YtpaedkefmebjjatMath
import Derived.Lib.Builder
import Derived.Deep.OwnRows
namespace Go.Proofs.Ytpaedkefmebjjat
set_option linter.unusedVariables false
open Go.ChangeShapes Go.WideShapes Go.ChangeAt Go.RowKit
theorem box_keep {w w' : World} {b n : Nat} {o : Obj} (hb : w.heap[b]? = some o) (L : Below n w w') (h : b < n) : w'.heap[b]? = some o := (L.block b h).trans hb
theorem box_new (w : World) (cs : Array Value) (t : TypeId) : (w.alloc (.cells cs t)).heap[w.heap.size]? = some (.cells cs t (0, 0)) := by show (w.heap.push _)[w.heap.size]? = _; simp
theorem boxC {w : World} {b : Nat} {cs : Array Value} {t : TypeId} {fr : Nat × Nat} (h : w.heap[b]? = some (.cells cs t fr)) : ∀ j, w.cell? ⟨b, j, none⟩ = cs[j]? := fun j => Lib.cell_of_heap h j
theorem boxF {w : World} {b : Nat} {cs : Array Value} {t : TypeId} (h : w.heap[b]? = some (.cells cs t (0, 0))) : ∀ j, w.frozen? ⟨b, j, none⟩ = false := fun j => Lib.frozen_of_heap h j
theorem boxLt {w : World} {b : Nat} {o : Obj} (hb : w.heap[b]? = some o) : b < w.heap.size := by
  rcases Nat.lt_or_ge b w.heap.size with h' | h'
  · exact h'
  · simp [Array.getElem?_eq_none h'] at hb
theorem boxA {w : World} {b : Nat} {o : Obj} (hb : w.heap[b]? = some o) (x : Obj) : (w.alloc x).heap[b]? = some o := box_keep hb ((Below.refl w.heap.size w).alloc (Nat.le_refl _) x) (boxLt hb)
theorem below_snoc {w w' w'' : World} (h : Below w.heap.size w w') (k : Below w'.heap.size w' w'') : Below w.heap.size w w'' := h.trans (k.mono h.size)
theorem rowOf_row {w : World} {g n : Nat} {t : TypeId} {k : IntKind} {f : Nat → Int} (h : w.rowIs g t n (fun j => .int k (f j))) : RowOf k w (some ⟨g, 0, none⟩) n f := fun i hi => ⟨g, 0, rfl, by rw [Nat.zero_add]; exact h.cell hi⟩
def okCpu (A X S Pc : Int) : Bool := inB A 0 255 && inB X 0 255 && inB S 0 255 && inB Pc 0 65535
theorem toCpu (w : World) (A X S Pc : Int) (Z N C I : Bool) : Calls Try.prog 41 #[.agg #[.int .i64 A, .int .i64 X, .int .i64 S, .int .i64 Pc, .bool Z, .bool N, .bool C, .bool I]] w
    fun e w' => e = .returned (.agg #[.int .i64 A, .int .i64 X, .int .i64 S, .int .i64 Pc, .bool Z, .bool N, .bool C, .bool I]) ∧ Below w.heap.size w w' := by
  go_enter Try.func41, Try.ntmps41
  go_wp2
  refine bodyPost_ret (v := .agg #[.int .i64 A, .int .i64 X, .int .i64 S, .int .i64 Pc, .bool Z, .bool N, .bool C, .bool I]) (by simp [results, Try.results41, go_sem]) rfl ?_
  exact ⟨rfl, (((Below.refl _ _).alloc (Nat.le_refl _) _).alloc (by simp) _).alloc (by simp; omega) _⟩
theorem eqCpu_same (w : World) (A X S Pc : Int) (Z N C I : Bool) : Calls Try.prog 52 #[.agg #[.int .i64 A, .int .i64 X, .int .i64 S, .int .i64 Pc, .bool Z, .bool N, .bool C, .bool I], .agg #[.int .i64 A, .int .i64 X, .int .i64 S, .int .i64 Pc, .bool Z, .bool N, .bool C, .bool I]] w
    fun e w' => e = .returned (.bool true) ∧ Below w.heap.size w w' := by
  go_enter Try.func52, Try.ntmps52
  go_wp2
  go_ret
  exact ⟨rfl, ((Below.refl _ _).alloc (Nat.le_refl _) _).alloc (by simp) _⟩
theorem l5Byte (w : World) (x : Int) : Calls Try.prog 36 #[.int .i64 x] w fun e w' => e = .returned (.bool (inB x 0 255)) ∧ w' = w := by
  go_enter Try.func36, Try.ntmps36
  go_wp2_with fail
  refine (l1In _ _ _ _).mono ?_
  rintro e w' ⟨rfl, rfl⟩
  go_wp2
  go_ret
  exact ⟨rfl, rfl⟩
theorem specCpuOk (w : World) (A X S Pc : Int) (Z N C I : Bool) : Calls Try.prog 34 #[.agg #[.int .i64 A, .int .i64 X, .int .i64 S, .int .i64 Pc, .bool Z, .bool N, .bool C, .bool I]] w
    fun e w' => e = .returned (.bool (okCpu A X S Pc)) ∧ Below w.heap.size w w' := by
  unfold okCpu
  go_enter Try.func34, Try.ntmps34
  generalize hA : inB A 0 255 = bA
  generalize hX : inB X 0 255 = bX
  generalize hS : inB S 0 255 = bS
  generalize hP : inB Pc 0 65535 = bP
  have L0 : ∀ o, Below w.heap.size w (w.alloc o) := fun o => (Below.refl _ _).alloc (Nat.le_refl _) _
  cases bA <;> cases bX <;> cases bS <;> cases bP <;>
    (go_wp2_with (first | (go_at_call 36; refine (l5Byte _ _).mono ?_; rintro e w' ⟨rfl, rfl⟩; first | rw [hA] | rw [hX] | rw [hS]) | (go_at_call 37; refine (l1In _ _ _ _).mono ?_; rintro e w' ⟨rfl, rfl⟩; rw [hP]))
     go_ret
     exact ⟨rfl, L0 _⟩)
end Go.Proofs.Ytpaedkefmebjjat
