/-
  The program's BankOf: a new list of the bytes of the bank that n leads to, or nothing.
-/
import Derived.Test.YtjcaligejlhjdaaGreatB2
import Derived.Test.YtjcaligejlhjdaaGreatS2
import Derived.Test.YtjcaligejlhjdaaGreatMath
import Derived.Laws.CopyOwn
import Derived.Lib.Builder
import Derived.Deep.OwnRows
import Derived.Deep.RegionWith
import Derived.Deep.RegionHeld3
import Derived.Laws.StructEq
namespace Go.Proofs.YtjcaligejlhjdaaGreat
open Go.ChangeShapes Go.WideShapes Go.ChangeAt Go.RowKit
theorem leftBy (x : Int) (m : Nat) (w : World) (h1 : 1 ≤ m) (h8 : m ≤ 8) : Calls Tryz.prog 155 #[.int .i64 x, .int .i64 m] w fun e w' => e = .returned (.int .i64 (bankIx m x)) ∧ w' = w := by
  obtain ⟨t1, t2, he⟩ := bankIx_eq x h1 h8
  have hb := bankIx_lt x h1
  have hq : (x.tmod m < 0 → x.tmod m + m = bankIx m x) ∧ (¬ x.tmod m < 0 → x.tmod m = bankIx m x) := by
    unfold bankIx
    have h1 := Int.emod_nonneg x (show (m : Int) ≠ 0 by omega)
    rw [Int.toNat_of_nonneg h1]
    have hm : m = 1 ∨ m = 2 ∨ m = 3 ∨ m = 4 ∨ m = 5 ∨ m = 6 ∨ m = 7 ∨ m = 8 := by omega
    rcases tmod_cases x m with ⟨h0, e⟩ | ⟨h0, e⟩ <;> rw [e] <;> rcases hm with rfl | rfl | rfl | rfl | rfl | rfl | rfl | rfl <;> refine ⟨fun _ => by omega, fun _ => by omega⟩
  have HQ := hide hq
  clear hq he
  by_cases hn : x.tmod m < 0
  · go_enter Tryz.func155, Tryz.ntmps155
    go_wp2
    go_ret
    exact ⟨ret_int ((unhide HQ).1 hn), rfl⟩
  · go_enter Tryz.func155, Tryz.ntmps155
    go_wp2
    go_ret
    exact ⟨ret_int ((unhide HQ).2 (by omega)), rfl⟩
end Go.Proofs.YtjcaligejlhjdaaGreat
namespace Go.Proofs.YtjcaligejlhjdaaGreat
open Go.ChangeShapes Go.WideShapes Go.ChangeAt Go.RowKit
theorem markImage (w : World) (v : Value) (m : Nat) (ra : Nat → Option Addr) (ln rc : Nat → Nat) (f : Nat → Nat → Int) (k : Int) (S : Sep w v m ra ln rc) (hr : ∀ i, i < m → RowOf .i64 w (ra i) (ln i) (f i)) (k0 : 0 ≤ k) (k1 : k ≤ 1099511627776) :
    Calls Tryz.prog 13 #[.agg #[v], .int .i64 k] w fun e w' => e = .returned (.int .i64 (k + psum ln m)) ∧ (∀ i, i < m → RowOf .i64 w' (ra i) (ln i) (fun j => k + psum ln i + j)) ∧ Wrote (fun b o => ∃ i, i < m ∧ Foot (ra i) (ln i) b o) w w' := by
  have L0 : Below w.heap.size w (w.alloc (.cells #[v] 27)) := (Below.refl _ _).alloc (Nat.le_refl _) _
  have W0 := wrote_below L0 (fun b o => ∃ i, i < m ∧ Foot (ra i) (ln i) b o)
  have hr0 := fun i hi => (hr i hi).keep (wrote_below L0 Nowhere) (fun _ _ _ x => x)
  have S0 := S.keep (wrote_below L0 Nowhere) (fun _ _ x => absurd x id)
  go_enter Tryz.func13, Tryz.ntmps13
  go_wp2_with fail
  refine (markIntSS _ v m ra ln rc f k S0 hr0 k0 k1).mono ?_
  rintro e w1 ⟨rfl, R1, W1, s1⟩
  go_wp2
  go_ret
  exact ⟨rfl, R1, W0.trans W1⟩
theorem heldImage (w : World) (v : Value) (m : Nat) (ra : Nat → Option Addr) (ln rc : Nat → Nat) (k : Int) (S : Sep w v m ra ln rc) (hr : ∀ i, i < m → RowOf .i64 w (ra i) (ln i) (fun j => k + psum ln i + j)) (k0 : 0 ≤ k) (k1 : k ≤ 1099511627776) :
    Calls Tryz.prog 47 #[.agg #[v], .int .i64 k] w fun e w' => e = .returned (.int .i64 (k + psum ln m)) ∧ Below w.heap.size w w' := by
  have L0 : Below w.heap.size w (w.alloc (.cells #[v] 27)) := (Below.refl _ _).alloc (Nat.le_refl _) _
  have hr0 := fun i hi => (hr i hi).keep (wrote_below L0 Nowhere) (fun _ _ _ x => x)
  have S0 := S.keep (wrote_below L0 Nowhere) (fun _ _ x => absurd x id)
  have hk : ¬ (k + (psum ln m : Int) < 0) := by omega
  go_enter Tryz.func47, Tryz.ntmps47
  go_wp2_with fail
  refine (heldIntSS _ v m ra ln rc k S0 hr0 k0 k1).mono ?_
  rintro e w1 ⟨rfl, rfl⟩
  go_wp2
  go_ret
  exact ⟨rfl, L0⟩
end Go.Proofs.YtjcaligejlhjdaaGreat
namespace Go.Proofs.YtjcaligejlhjdaaGreat
set_option linter.unusedVariables false
open Go.ChangeShapes Go.WideShapes Go.ChangeAt Go.RowKit
theorem box_keep {w w' : World} {b n : Nat} {o : Obj} (hb : w.heap[b]? = some o) (L : Below n w w') (h : b < n) : w'.heap[b]? = some o := (L.block b h).trans hb
theorem box_new (w : World) (cs : Array Value) (t : TypeId) : (w.alloc (.cells cs t)).heap[w.heap.size]? = some (.cells cs t (0, 0)) := by show (w.heap.push _)[w.heap.size]? = _; simp
theorem boxC {w : World} {b : Nat} {cs : Array Value} {t : TypeId} {fr : Nat × Nat} (h : w.heap[b]? = some (.cells cs t fr)) : ∀ j, w.cell? ⟨b, j, none⟩ = cs[j]? := fun j => Lib.cell_of_heap h j
theorem boxF {w : World} {b : Nat} {cs : Array Value} {t : TypeId} (h : w.heap[b]? = some (.cells cs t (0, 0))) : ∀ j, w.frozen? ⟨b, j, none⟩ = false := fun j => Lib.frozen_of_heap h j
theorem boxLt {w : World} {b : Nat} {o : Obj} (hb : w.heap[b]? = some o) : b < w.heap.size := by
  rcases Nat.lt_or_ge b w.heap.size with h' | h'
  · exact h'
  · simp [Array.getElem?_eq_none h'] at hb
theorem boxA {w : World} {b : Nat} {o : Obj} (hb : w.heap[b]? = some o) (x : Obj) : (w.alloc x).heap[b]? = some o := box_keep hb ((Below.refl w.heap.size w).alloc (Nat.le_refl _) x) (boxLt hb)
theorem below_snoc {w w' w'' : World} (h : Below w.heap.size w w') (k : Below w'.heap.size w' w'') : Below w.heap.size w w'' := h.trans (k.mono h.size)
theorem rowOf_row {w : World} {g n : Nat} {t : TypeId} {k : IntKind} {f : Nat → Int} (h : w.rowIs g t n (fun j => .int k (f j))) : RowOf k w (some ⟨g, 0, none⟩) n f := fun i hi => ⟨g, 0, rfl, by rw [Nat.zero_add]; exact h.cell hi⟩
def okCpu (A X S Pc : Int) : Bool := inB A 0 255 && inB X 0 255 && inB S 0 255 && inB Pc 0 65535
theorem toCpu (w : World) (A X S Pc : Int) (Z N C I : Bool) : Calls Tryz.prog 62 #[.agg #[.int .i64 A, .int .i64 X, .int .i64 S, .int .i64 Pc, .bool Z, .bool N, .bool C, .bool I]] w
    fun e w' => e = .returned (.agg #[.int .i64 A, .int .i64 X, .int .i64 S, .int .i64 Pc, .bool Z, .bool N, .bool C, .bool I]) ∧ Below w.heap.size w w' := by
  go_enter Tryz.func62, Tryz.ntmps62
  go_wp2
  refine bodyPost_ret (v := .agg #[.int .i64 A, .int .i64 X, .int .i64 S, .int .i64 Pc, .bool Z, .bool N, .bool C, .bool I]) (by simp [results, Tryz.results62, go_sem]) rfl ?_
  exact ⟨rfl, (((Below.refl _ _).alloc (Nat.le_refl _) _).alloc (by simp) _).alloc (by simp; omega) _⟩
theorem eqCpu_same (w : World) (A X S Pc : Int) (Z N C I : Bool) : Calls Tryz.prog 38 #[.agg #[.int .i64 A, .int .i64 X, .int .i64 S, .int .i64 Pc, .bool Z, .bool N, .bool C, .bool I], .agg #[.int .i64 A, .int .i64 X, .int .i64 S, .int .i64 Pc, .bool Z, .bool N, .bool C, .bool I]] w
    fun e w' => e = .returned (.bool true) ∧ Below w.heap.size w w' := by
  go_enter Tryz.func38, Tryz.ntmps38
  go_wp2
  go_ret
  exact ⟨rfl, ((Below.refl _ _).alloc (Nat.le_refl _) _).alloc (by simp) _⟩
theorem l5Byte (w : World) (x : Int) : Calls Tryz.prog 86 #[.int .i64 x] w fun e w' => e = .returned (.bool (inB x 0 255)) ∧ w' = w := by
  go_enter Tryz.func86, Tryz.ntmps86
  go_wp2_with fail
  refine (l1In _ _ _ _).mono ?_
  rintro e w' ⟨rfl, rfl⟩
  go_wp2
  go_ret
  exact ⟨rfl, rfl⟩
theorem specCpuOk (w : World) (A X S Pc : Int) (Z N C I : Bool) : Calls Tryz.prog 83 #[.agg #[.int .i64 A, .int .i64 X, .int .i64 S, .int .i64 Pc, .bool Z, .bool N, .bool C, .bool I]] w
    fun e w' => e = .returned (.bool (okCpu A X S Pc)) ∧ Below w.heap.size w w' := by
  unfold okCpu
  go_enter Tryz.func83, Tryz.ntmps83
  generalize hA : inB A 0 255 = bA
  generalize hX : inB X 0 255 = bX
  generalize hS : inB S 0 255 = bS
  generalize hP : inB Pc 0 65535 = bP
  have L0 : ∀ o, Below w.heap.size w (w.alloc o) := fun o => (Below.refl _ _).alloc (Nat.le_refl _) _
  cases bA <;> cases bX <;> cases bS <;> cases bP <;>
    (go_wp2_with (first | (go_at_call 86; refine (l5Byte _ _).mono ?_; rintro e w' ⟨rfl, rfl⟩; first | rw [hA] | rw [hX] | rw [hS]) | (go_at_call 87; refine (l1In _ _ _ _).mono ?_; rintro e w' ⟨rfl, rfl⟩; rw [hP]))
     go_ret
     exact ⟨rfl, L0 _⟩)
end Go.Proofs.YtjcaligejlhjdaaGreat
namespace Go.Proofs.YtjcaligejlhjdaaGreat
set_option linter.unusedVariables false
open Go.ChangeShapes Go.WideShapes Go.ChangeAt Go.RowKit
theorem cpu_eql (W : World) (A X S Pc A' X' S' Pc' : Int) (Z N C I : Bool) : (binOp .eql 31 (.agg #[.int .i64 A', .int .i64 X', .int .i64 S', .int .i64 Pc', .bool Z, .bool N, .bool C, .bool I]) (.agg #[.int .i64 A, .int .i64 X, .int .i64 S, .int .i64 Pc, .bool Z, .bool N, .bool C, .bool I])).run Tryz.prog W = .ok (.bool (A' == A && (X' == X && (S' == S && Pc' == Pc)))) W := by
  obtain ⟨fs, hfs, hf⟩ : ∃ fs, Tryz.prog.underlying 31 = some (.struct fs) ∧ Tryz.prog.fieldsOf 31 = fs := ⟨_, Tryz.underlying31, by unfold Program.fieldsOf; rw [Tryz.underlying31]⟩
  have hu' : Tryz.prog.underlying 31 = some (.struct (Tryz.prog.fieldsOf 31)) := by rw [hf, hfs]
  rw [run_eql_struct, show (10000 : Nat) = 9999 + 1 from rfl, run_equalIn_agg W 9999 31 _ _ hu' (by kernel_rfl), hf]
  obtain rfl := TypeDesc.struct.inj (Option.some.inj (hfs.symm.trans Tryz.underlying31))
  cases hA : A' == A <;> cases hX : X' == X <;> cases hS : S' == S <;> cases hP : Pc' == Pc <;> simp [Op.eqFields, go_sem, Tryz.underlying3, Tryz.underlying4, hA, hX, hS, hP]
theorem cut_ok (A X S Pc : Int) : (A % 256 == A && (X % 256 == X && (S % 256 == S && Pc % 65536 == Pc))) = okCpu A X S Pc := by
  have b : ∀ x : Int, (x % 256 == x) = inB x 0 255 := fun x => by
    by_cases h : 0 ≤ x ∧ x ≤ 255
    · rw [inB_yes h]; exact beq_iff_eq.2 (by omega)
    · rw [inB_no h]; exact beq_eq_false_iff_ne.2 (by omega)
  have p : ∀ x : Int, (x % 65536 == x) = inB x 0 65535 := fun x => by
    by_cases h : 0 ≤ x ∧ x ≤ 65535
    · rw [inB_yes h]; exact beq_iff_eq.2 (by omega)
    · rw [inB_no h]; exact beq_eq_false_iff_ne.2 (by omega)
  unfold okCpu
  rw [b, b, b, p]
  simp only [Bool.and_assoc]
theorem implCpuOk (w : World) (A X S Pc : Int) (Z N C I : Bool) : Calls Tryz.prog 93 #[.agg #[.int .i64 A, .int .i64 X, .int .i64 S, .int .i64 Pc, .bool Z, .bool N, .bool C, .bool I]] w
    fun e w' => e = .returned (.bool (okCpu A X S Pc)) ∧ Below w.heap.size w w' := by
  have hq := fun W => cpu_eql W A X S Pc (A % 256) (X % 256) (S % 256) (Pc % 65536) Z N C I
  have ho := hide (cut_ok A X S Pc)
  go_enter Tryz.func93, Tryz.ntmps93
  go_wp2_with fail
  go_region_held3 (fun w' => w'.cell? ⟨w.heap.size, 0, none⟩ = some (.int .i64 A) ∧ w'.cell? ⟨w.heap.size, 1, none⟩ = some (.int .i64 X) ∧ w'.cell? ⟨w.heap.size, 2, none⟩ = some (.int .i64 S) ∧ w'.cell? ⟨w.heap.size, 3, none⟩ = some (.int .i64 Pc)) (first | assumption | go_keep) (first | (go_at_call 129; refine (implByte _ _).mono ?_; rintro e w' ⟨rfl, rfl⟩) | (go_at_call 130; refine (implAddr _ _).mono ?_; rintro e w' ⟨rfl, rfl⟩))
  all_goals go_wp2
  all_goals go_ret
  all_goals exact ⟨ret_bool (unhide ho), (((Below.refl _ _).alloc (Nat.le_refl _) _).alloc (by simp) _).drew⟩
end Go.Proofs.YtjcaligejlhjdaaGreat
