/-
  Chapter 5 by its contracts: the mirror of a processor, and the specification's functions on it.
-/
import Derived.Test.YteefbbnkfclllaaDoorS2
import Derived.Test.YteefbbnkfclllaaDoorC1
import Derived.Lib.Builder
import Derived.Deep.OwnRows
namespace Go.Proofs.YteefbbnkfclllaaDoor
set_option linter.unusedVariables false
open Go.ChangeShapes Go.WideShapes Go.ChangeAt Go.RowKit
theorem i64_and_byte (n : Int) (m : Nat) (hm : m < 256) : bits .and .i64 n (m : Int) = (((n % 256).toNat &&& m : Nat) : Int) := by
  have h0 : 0 ≤ n % ((2 ^ 64 : Nat) : Int) := Int.emod_nonneg _ (by decide)
  have key : (BitVec.ofInt 64 n &&& BitVec.ofInt 64 (m : Int)).toNat = (n % 256).toNat &&& m := by
    rw [BitVec.toNat_and, BitVec.toNat_ofInt, BitVec.toNat_ofInt]
    have e1 : ((m : Int) % ((2 ^ 64 : Nat) : Int)).toNat = m := by omega
    have e2 : (n % 256).toNat = (n % ((2 ^ 64 : Nat) : Int)).toNat % 2 ^ 8 := by omega
    have e3 : m = (2 ^ 8 - 1) &&& m := by rw [Nat.and_comm, Nat.and_two_pow_sub_one_eq_mod]; omega
    rw [e1, e2]
    generalize (n % ((2 ^ 64 : Nat) : Int)).toNat = x
    rw [← Nat.and_two_pow_sub_one_eq_mod, Nat.and_assoc, ← e3]
  show IntKind.i64.wrap ((BitVec.ofInt 64 n &&& BitVec.ofInt 64 (m : Int)).toNat : Nat) = _
  rw [key, IntKind.wrap_i64]
  have hle : (n % 256).toNat &&& m ≤ m := Nat.and_le_right
  generalize (n % 256).toNat &&& m = y at *
  omega
/-- Whether a number as a byte has a bit of a mask. -/
def hasB (v : Int) (m : Nat) : Bool := ((v % 256).toNat &&& m) != 0
theorem i64_has (v : Int) (m : Nat) (hm : m < 256) : (bits .and .i64 v (m : Int) != 0) = hasB v m := by
  rw [i64_and_byte v m hm]
  unfold hasB
  generalize (v % 256).toNat &&& m = y
  cases y <;> simp <;> omega
theorem u8_has (v : Int) (m : Nat) (hm : m < 256) : (bits .and .u8 (v % 256) (m : Int) != 0) = hasB v m := by
  rw [u8_and (v % 256) (m : Int) (by omega) (by omega) (by omega) (by omega), Int.toNat_natCast]
  unfold hasB
  generalize (v % 256).toNat &&& m = y
  cases y <;> simp <;> omega
theorem box_keep {w w' : World} {b n : Nat} {o : Obj} (hb : w.heap[b]? = some o) (L : Below n w w') (h : b < n) : w'.heap[b]? = some o := (L.block b h).trans hb
theorem box_new (w : World) (cs : Array Value) (t : TypeId) : (w.alloc (.cells cs t)).heap[w.heap.size]? = some (.cells cs t (0, 0)) := by show (w.heap.push _)[w.heap.size]? = _; simp
theorem boxC {w : World} {b : Nat} {cs : Array Value} {t : TypeId} {fr : Nat × Nat} (h : w.heap[b]? = some (.cells cs t fr)) : ∀ j, w.cell? ⟨b, j, none⟩ = cs[j]? := fun j => Lib.cell_of_heap h j
theorem boxF {w : World} {b : Nat} {cs : Array Value} {t : TypeId} (h : w.heap[b]? = some (.cells cs t (0, 0))) : ∀ j, w.frozen? ⟨b, j, none⟩ = false := fun j => Lib.frozen_of_heap h j
theorem boxLt {w : World} {b : Nat} {o : Obj} (hb : w.heap[b]? = some o) : b < w.heap.size := by
  rcases Nat.lt_or_ge b w.heap.size with h' | h'
  · exact h'
  · simp [Array.getElem?_eq_none h'] at hb
theorem boxA {w : World} {b : Nat} {o : Obj} (hb : w.heap[b]? = some o) (x : Obj) : (w.alloc x).heap[b]? = some o := box_keep hb ((Below.refl w.heap.size w).alloc (Nat.le_refl _) x) (boxLt hb)
theorem below_snoc {w w' w'' : World} (h : Below w.heap.size w w') (k : Below w'.heap.size w' w'') : Below w.heap.size w w'' := h.trans (k.mono h.size)
theorem rowOf_row {w : World} {g n : Nat} {t : TypeId} {k : IntKind} {f : Nat → Int} (h : w.rowIs g t n (fun j => .int k (f j))) : RowOf k w (some ⟨g, 0, none⟩) n f := fun i hi => ⟨g, 0, rfl, by rw [Nat.zero_add]; exact h.cell hi⟩
theorem ints_of_row {w : World} {g n : Nat} {t : TypeId} {k : IntKind} {f : Nat → Int} (h : w.rowIs g t n (fun j => .int k (f j))) (hn : n ≤ 1048576) : Ints k w (fun _ _ => True) (.slice (some ⟨g, 0, none⟩) n n) n f := ⟨_, _, rfl, hn, rowOf_row h, fun _ _ _ => trivial⟩
theorem cells8 {w : World} {b : Nat} {t : TypeId} {v0 v1 v2 v3 v4 v5 v6 v7 : Value} (h : w.heap[b]? = some (.cells #[v0, v1, v2, v3, v4, v5, v6, v7] t (0, 0))) :
    w.cell? ⟨b, 0, none⟩ = some v0 ∧ w.cell? ⟨b, 1, none⟩ = some v1 ∧ w.cell? ⟨b, 2, none⟩ = some v2 ∧ w.cell? ⟨b, 3, none⟩ = some v3 ∧ w.cell? ⟨b, 4, none⟩ = some v4 ∧ w.cell? ⟨b, 5, none⟩ = some v5 ∧ w.cell? ⟨b, 6, none⟩ = some v6 ∧ w.cell? ⟨b, 7, none⟩ = some v7 := by
  refine ⟨?_, ?_, ?_, ?_, ?_, ?_, ?_, ?_⟩ <;> simp [World.cell?, h]
def okCpu (A X S Pc : Int) : Bool := inB A 0 255 && inB X 0 255 && inB S 0 255 && inB Pc 0 65535
def flagsOf (Z N C I : Bool) : Int := bitOf C + 2 * bitOf Z + 4 * bitOf I + 128 * bitOf N
theorem same_q {P : Program} {f : FuncId} {args : Array Value} {w : World} {v : Value} (h : Calls P f args w fun e w' => e = .returned v ∧ w' = w) : Calls P f args w fun e w' => e = .returned v ∧ ∃ m, w' = w.drewN m :=
  h.mono fun _ _ ⟨he, hw⟩ => ⟨he, 0, by rw [hw]; simp [World.drewN]⟩
theorem l5Byte (w : World) (x : Int) : Calls Tryd.prog 44 #[.int .i64 x] w fun e w' => e = .returned (.bool (inB x 0 255)) ∧ w' = w := by
  go_enter Tryd.func44, Tryd.ntmps44
  go_wp2_with fail
  refine (l1In _ _ _ _).mono ?_
  rintro e w' ⟨rfl, rfl⟩
  go_wp2
  go_ret
  exact ⟨rfl, rfl⟩
theorem specCpuOk (w : World) (A X S Pc : Int) (Z N C I : Bool) : Calls Tryd.prog 33 #[.agg #[.int .i64 A, .int .i64 X, .int .i64 S, .int .i64 Pc, .bool Z, .bool N, .bool C, .bool I]] w
    fun e w' => e = .returned (.bool (okCpu A X S Pc)) ∧ Below w.heap.size w w' := by
  unfold okCpu
  go_enter Tryd.func33, Tryd.ntmps33
  generalize hA : inB A 0 255 = bA
  generalize hX : inB X 0 255 = bX
  generalize hS : inB S 0 255 = bS
  generalize hP : inB Pc 0 65535 = bP
  have L0 : ∀ o, Below w.heap.size w (w.alloc o) := fun o => (Below.refl _ _).alloc (Nat.le_refl _) _
  cases bA <;> cases bX <;> cases bS <;> cases bP <;>
    (go_wp2_with (first | (go_at_call 44; refine (l5Byte _ _).mono ?_; rintro e w' ⟨rfl, rfl⟩; first | rw [hA] | rw [hX] | rw [hS]) | (go_at_call 24; refine (l1In _ _ _ _).mono ?_; rintro e w' ⟨rfl, rfl⟩; rw [hP]))
     go_ret
     exact ⟨rfl, L0 _⟩)
theorem specWithFlags (w : World) (A X S Pc : Int) (Z N C I : Bool) (v : Int) : Calls Tryd.prog 47 #[.agg #[.int .i64 A, .int .i64 X, .int .i64 S, .int .i64 Pc, .bool Z, .bool N, .bool C, .bool I], .int .i64 v] w
    fun e w' => e = .returned (.agg #[.int .i64 A, .int .i64 X, .int .i64 S, .int .i64 Pc, .bool (hasB v 2), .bool (hasB v 128), .bool (hasB v 1), .bool (hasB v 4)]) ∧ Below w.heap.size w w' := by
  have h1 : (bits .and .i64 v 1 != 0) = hasB v 1 := i64_has v 1 (by omega)
  have h2 : (bits .and .i64 v 2 != 0) = hasB v 2 := i64_has v 2 (by omega)
  have h4 : (bits .and .i64 v 4 != 0) = hasB v 4 := i64_has v 4 (by omega)
  have h8 : (bits .and .i64 v 128 != 0) = hasB v 128 := i64_has v 128 (by omega)
  go_enter Tryd.func47, Tryd.ntmps47
  go_wp2
  refine bodyPost_ret (v := .agg #[.int .i64 A, .int .i64 X, .int .i64 S, .int .i64 Pc, .bool (hasB v 2), .bool (hasB v 128), .bool (hasB v 1), .bool (hasB v 4)]) (by simp [results, Tryd.results47, go_sem]) rfl ?_
  exact ⟨rfl, ((Below.refl _ _).alloc (Nat.le_refl _) _).alloc (by simp) _⟩
end Go.Proofs.YteefbbnkfclllaaDoor
