/-
  Chapter 6 by its contracts: the mirror of a memory: sizes, copies, comparisons, marks.
-/
import Derived.Test.YtmccplbfggcogaaC5
import Derived.Test.YtmccplbfggcogaaB2
import Derived.Lib.Builder
import Derived.Deep.RegionWith
import Derived.Deep.DeepCutAuto
namespace Go.Proofs.Ytmccplbfggcogaa
set_option linter.unusedVariables false
open Go.ChangeShapes Go.WideShapes Go.ChangeAt Go.RowKit
theorem szMem (w : World) (a : Option Addr) (n cap : Nat) (bank left : Int) (h1 : n ≤ 9223372036854775807) (h0 : 0 ≤ left) (h2 : left ≤ 1048576) :
    Calls Try.prog 29 #[.agg #[.slice a n cap, .int .i64 bank], .int .i64 left] w fun e w' => e = .returned (.int .i64 (szOut left n)) ∧ Below w.heap.size w w' := by
  have L0 : ∀ o, Below w.heap.size w (w.alloc o) := fun o => (Below.refl _ _).alloc (Nat.le_refl _) _
  by_cases h : left < n
  · have HS := hide (szOut_no h)
    go_enter Try.func29, Try.ntmps29
    go_wp2_with fail
    refine (szIntS _ _ _ _ _ h1 h0 h2).mono ?_
    rintro e w1 ⟨rfl, rfl⟩
    rw [HS.out]
    go_wp2
    go_ret
    exact ⟨ret_int HS.out.symm, L0 _⟩
  · have HS := hide (szOut_ok (show (n : Int) ≤ left by omega))
    have hn : ¬ (left - (n : Int) < 0) := by omega
    go_enter Try.func29, Try.ntmps29
    go_wp2_with fail
    refine (szIntS _ _ _ _ _ h1 h0 h2).mono ?_
    rintro e w1 ⟨rfl, rfl⟩
    rw [HS.out]
    go_wp2
    go_ret
    exact ⟨ret_int HS.out.symm, L0 _⟩
theorem toMem (w : World) (F : Nat → Nat → Prop) (v : Value) (n : Nat) (f : Nat → Int) (bank : Int) (H : Ints .i64 w F v n f) :
    Calls Try.prog 35 #[.agg #[v, .int .i64 bank]] w fun e w' => ∃ p, w.heap.size ≤ p ∧ e = .returned (.agg #[.slice (some ⟨p, 0, none⟩) n n, .int .i64 bank]) ∧ w'.rowIs p 3 n (fun i => .int .i64 (f i)) ∧ Below w.heap.size w w' := by
  go_enter Try.func35, Try.ntmps35
  have L0 : Below w.heap.size w (((w.alloc (.cells #[v, .int .i64 bank] 27)).alloc (.cells #[.slice none 0 0, .int .i64 0] 50)).alloc (.cells #[.slice none 0 0, .int .i64 0] 50)) := (((Below.refl _ _).alloc (Nat.le_refl _) _).alloc (by simp) _).alloc (by simp; omega) _
  go_wp2_with fail
  refine (toIntS _ F v n f (H.keep (wrote_below L0 Nowhere) (fun _ _ _ x => x))).mono ?_
  rintro e w1 ⟨rfl, hrow, hsz, hbel⟩
  have c0 : w1.cell? ⟨w.heap.size, 1, none⟩ = some (.int .i64 bank) := (hbel.cell (by simp; omega)).trans (by go_simp)
  have c1 : w1.cell? ⟨w.heap.size + 1, 0, none⟩ = some (.slice none 0 0) := (hbel.cell (by simp)).trans (by go_simp)
  have c2 : w1.cell? ⟨w.heap.size + 1 + 1, 0, none⟩ = some (.slice none 0 0) := (hbel.cell (by simp)).trans (by go_simp)
  have c3 : w1.cell? ⟨w.heap.size + 1, 1, none⟩ = some (.int .i64 0) := (hbel.cell (by simp)).trans (by go_simp)
  have c4 : w1.cell? ⟨w.heap.size + 1 + 1, 1, none⟩ = some (.int .i64 0) := (hbel.cell (by simp)).trans (by go_simp)
  have f1 : ∀ j, w1.frozen? ⟨w.heap.size + 1, j, none⟩ = false := fun j => (hbel.frozen (by simp)).trans (by go_simp)
  have f2 : ∀ j, w1.frozen? ⟨w.heap.size + 1 + 1, j, none⟩ = false := fun j => (hbel.frozen (by simp)).trans (by go_simp)
  have hbs : (((w.alloc (.cells #[v, .int .i64 bank] 27)).alloc (.cells #[.slice none 0 0, .int .i64 0] 50)).alloc (.cells #[.slice none 0 0, .int .i64 0] 50)).heap.size = w.heap.size + 3 := by simp
  rw [hbs] at hrow hsz hbel
  rw [hbs]
  have HR := hide hrow
  clear hrow hsz
  go_wp2
  refine bodyPost_ret (v := .agg #[.slice (some ⟨w.heap.size + 3, 0, none⟩) n n, .int .i64 bank]) (by simp [results, Try.results35, go_sem, c1, c3]) rfl ⟨w.heap.size + 3, by omega, rfl, ?_, ?_⟩
  · exact ((((unhide HR).setOther (by simp) _).setOther (by simp) _).setOther (by simp) _).setOther (by simp) _
  · exact ((((L0.trans (hbel.mono (by omega))).setCell (by simp; omega) _).setCell (by simp; omega) _).setCell (by simp) _).setCell (by simp) _
theorem eqMem_same (w : World) (F G : Nat → Nat → Prop) (v u : Value) (n : Nat) (f : Nat → Int) (bank : Int) (H : Ints .i64 w F v n f) (H' : Ints .i64 w G u n f) :
    Calls Try.prog 45 #[.agg #[v, .int .i64 bank], .agg #[u, .int .i64 bank]] w fun e w' => e = .returned (.bool true) ∧ Below w.heap.size w w' := by
  have L0 : Below w.heap.size w ((w.alloc (.cells #[v, .int .i64 bank] 50)).alloc (.cells #[u, .int .i64 bank] 50)) := ((Below.refl _ _).alloc (Nat.le_refl _) _).alloc (by simp) _
  go_enter Try.func45, Try.ntmps45
  go_wp2_with fail
  refine (eqIntS _ F G _ _ n n f f (H.keep (wrote_below L0 Nowhere) (fun _ _ _ x => x)) (H'.keep (wrote_below L0 Nowhere) (fun _ _ _ x => x))).mono ?_
  rintro e w1 ⟨rfl, d, rfl⟩
  rw [eqInts_refl]
  go_wp2
  go_ret
  exact ⟨rfl, L0.trans ⟨rfl, rfl, rfl, Nat.le_refl _, fun _ _ => rfl⟩⟩
theorem markMem (w : World) (a : Option Addr) (n cap : Nat) (f : Nat → Int) (bank k : Int) (H : RowOf .i64 w a n f) (hfr : Free w (Foot a n)) (k0 : 0 ≤ k) (k1 : k + n ≤ 4611686018427387904) :
    Calls Try.prog 52 #[.agg #[.slice a n cap, .int .i64 bank], .int .i64 k] w fun e w' => e = .returned (.int .i64 (k + n)) ∧ RowOf .i64 w' a n (fun i => k + i) ∧ Wrote (Foot a n) w w' := by
  have L0 : Below w.heap.size w (w.alloc (.cells #[.slice a n cap, .int .i64 bank] 50)) := (Below.refl _ _).alloc (Nat.le_refl _) _
  go_enter Try.func52, Try.ntmps52
  go_wp2_with fail
  refine (markIntS _ a n cap f k (H.keep (wrote_below L0 Nowhere) (fun _ _ _ x => x)) (hfr.keep (wrote_below L0 Nowhere)) k0 k1).mono ?_
  rintro e w1 ⟨rfl, R1, W1, s1⟩
  have HW := hide ((wrote_below L0 (Foot a n)).trans W1)
  have HR := hide R1
  clear R1 W1 s1
  go_wp2
  go_ret
  exact ⟨rfl, unhide HR, unhide HW⟩
end Go.Proofs.Ytmccplbfggcogaa
