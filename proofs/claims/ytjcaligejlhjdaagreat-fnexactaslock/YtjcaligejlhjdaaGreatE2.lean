/-
  Contracts of the exact laws' helpers over slices of integers: sizes, copies, comparisons.
-/
import Derived.Test.YtjcaligejlhjdaaGreatRows
import Derived.Test.YtjcaligejlhjdaaGreatMath
import Derived.Deep.OwnRows
namespace Go.Proofs.YtjcaligejlhjdaaGreat
open Go.ChangeShapes Go.WideShapes Go.ChangeAt Go.RowKit
theorem step_if (f : Nat → Int) (k j : Nat) : (if j = k then Value.int .i64 (f k) else .int .i64 (if j < k then f j else 0)) = .int .i64 (if j < k + 1 then f j else 0) := by
  by_cases h : j = k
  · subst h; simp
  · by_cases h2 : j < k
    · rw [if_neg h, if_pos h2, if_pos (by omega)]
    · rw [if_neg h, if_neg h2, if_neg (by omega)]
def eqInts (n m : Nat) (f g : Nat → Int) : Bool := decide (n = m ∧ ∀ i, i < n → f i = g i)
theorem eqInts_ne {n m : Nat} {f g : Nat → Int} (h : ¬ n = m) : eqInts n m f g = false := decide_eq_false (fun x => h x.1)
theorem eqInts_no {n k : Nat} {f g : Nat → Int} (hk : k < n) (h : ¬ f k = g k) : eqInts n n f g = false := decide_eq_false (fun x => h (x.2 k hk))
theorem eqInts_yes {n : Nat} {f g : Nat → Int} (h : ∀ i, i < n → f i = g i) : eqInts n n f g = true := decide_eq_true ⟨rfl, h⟩
theorem eqInts_refl (n : Nat) (f : Nat → Int) : eqInts n n f f = true := eqInts_yes fun _ _ => rfl
theorem eq_snoc {k : Nat} {f g : Nat → Int} (h : ∀ j, j < k → f j = g j) (hk : f k = g k) : ∀ j, j < k + 1 → f j = g j := fun j hj => by
  by_cases e : j = k
  · rw [e]; exact hk
  · exact h j (by omega)
def szOut (left : Int) (n : Nat) : Int := if left < n then -1 else left - n
theorem szOut_no {left : Int} {n : Nat} (h : left < n) : szOut left n = -1 := if_pos h
theorem szOut_ok {left : Int} {n : Nat} (h : (n : Int) ≤ left) : szOut left n = left - n := if_neg (by omega)
theorem info3 : (Tryz.prog.info? 3).map (fun i => (i.zero, i.size, i.bytes)) = some (some (.int .i64 0), 1, 8) := by kernel_rfl
theorem szIntS (a : Option Addr) (n cap : Nat) (left : Int) (w : World) (h1 : n ≤ 9223372036854775807) (h0 : 0 ≤ left) (h2 : left ≤ 1048576) :
    Calls Tryz.prog 52 #[.slice a n cap, .int .i64 left] w fun e w' => e = .returned (.int .i64 (szOut left n)) ∧ w' = w := by
  by_cases h : left < n
  · go_enter Tryz.func52, Tryz.ntmps52
    go_wp2
    go_ret
    exact ⟨ret_int (szOut_no h).symm, rfl⟩
  · go_enter Tryz.func52, Tryz.ntmps52
    go_wp2
    go_ret
    exact ⟨ret_int (szOut_ok (by omega)).symm, rfl⟩
theorem toIntS (w : World) (F : Nat → Nat → Prop) (v : Value) (n : Nat) (f : Nat → Int) (H : Ints .i64 w F v n f) :
    Calls Tryz.prog 8 #[v] w fun e w' => e = .returned (.slice (some ⟨w.heap.size, 0, none⟩) n n) ∧ w'.rowIs w.heap.size 3 n (fun i => .int .i64 (f i)) ∧ w'.heap.size = w.heap.size + 1 ∧ Below w.heap.size w w' := by
  obtain ⟨a, cap, rfl, hn, hc, -⟩ := H
  have hmk := run_make_row' (P := Tryz.prog) 25 3 (.int .i64 0) 8 Tryz.underlying25 info3 rfl .i64 .i64 n (by omega) (by omega)
  go_enter Tryz.func8, Tryz.ntmps8
  go_wp2
  go_loopw [4] (fun i wr => ∃ k : Nat, k ≤ n ∧ i = .int .i64 k ∧ wr.rowIs w.heap.size 3 n (fun j => .int .i64 (if j < k then f j else 0)) ∧ Hid (wr.heap.size = w.heap.size + 1) ∧ Below w.heap.size w wr) (fun i _ => n - (intOf i).toNat)
  case atStart => exact ⟨0, Nat.zero_le _, rfl, (World.rowIs_made w (.int .i64 0) n 3).congr (fun i _ => by simp), by show _ = _; simp, (Below.refl _ _).alloc (Nat.le_refl _) _⟩
  case round =>
    obtain ⟨k, hk, rfl, hrow, hsz, hbel⟩ := hrel
    by_cases hlt : k < n
    · obtain ⟨b, off, rfl, hcell⟩ := hc k hlt
      have hb := block_lt_of_cell hcell
      have hsrc : wr.cell? ⟨b, off + k, none⟩ = some (.int .i64 (f k)) := (hbel.cell (p := ⟨b, off + k, none⟩) hb).trans hcell
      have hdst := hrow.cell hlt
      have hfz := hrow.frozen k
      have hlt' : (k : Int) < (n : Int) := by omega
      have R := (hrow.set k (.int .i64 (f k))).congr (g := fun j => .int .i64 (if j < k + 1 then f j else 0)) (fun j _ => step_if f k j)
      clear hrow
      go_wp2
      go_roundw
      case rel => exact ⟨k + 1, by omega, by go_num, R, by show _ = _; simpa using hsz.out, hbel.setCell (Nat.le_refl _) _⟩
      case measure => simp [intOf]; omega
    · have hlt' : ¬ (k : Int) < (n : Int) := by omega
      go_wp2
      go_ret
      exact ⟨rfl, hrow.congr (fun i hi => by rw [if_pos (by omega)]), hsz, hbel⟩
theorem eqIntS (w : World) (F G : Nat → Nat → Prop) (v u : Value) (n m : Nat) (f g : Nat → Int) (H : Ints .i64 w F v n f) (H' : Ints .i64 w G u m g) :
    Calls Tryz.prog 12 #[v, u] w fun e w' => e = .returned (.bool (eqInts n m f g)) ∧ ∃ d, w' = w.drewN d := by
  obtain ⟨a, cap, rfl, hn, hc, -⟩ := H
  obtain ⟨a', cap', rfl, hn', hc', -⟩ := H'
  by_cases e : n = m
  · subst e
    have hne : ((n : Int) != (n : Int)) = false := by simp
    go_enter Tryz.func12, Tryz.ntmps12
    go_wp2
    go_loopw [5] (fun i wr => ∃ k : Nat, k ≤ n ∧ i = .int .i64 k ∧ (∀ j, j < k → f j = g j) ∧ ∃ d, wr = w.drewN d) (fun i _ => n - (intOf i).toNat)
    case atStart => exact ⟨0, Nat.zero_le _, rfl, fun j hj => absurd hj (Nat.not_lt_zero _), 0, rfl⟩
    case round =>
      obtain ⟨k, hk, rfl, heq, d, rfl⟩ := hrel
      have HQ := hide heq
      clear heq
      by_cases hlt : k < n
      · obtain ⟨b, off, rfl, hcell⟩ := hc k hlt
        obtain ⟨b', off', rfl, hcell'⟩ := hc' k hlt
        have hlt' : (k : Int) < (n : Int) := by omega
        by_cases hq : f k = g k
        · have hq' : (f k != g k) = false := by simpa using hq
          have HK := hide hq
          clear hq
          go_wp2
          go_quiet (fail)
          go_wp2
          go_roundw
          case rel => exact ⟨k + 1, by omega, by go_num, eq_snoc (unhide HQ) (unhide HK), _, rfl⟩
          case measure => simp [intOf]; omega
        · have hq' : (f k != g k) = true := by simpa using hq
          go_wp2
          go_quiet (fail)
          go_wp2
          go_ret
          exact ⟨ret_bool (eqInts_no hlt hq).symm, drew2 _ _ _⟩
      · have hlt' : ¬ (k : Int) < (n : Int) := by omega
        go_wp2
        go_ret
        exact ⟨ret_bool (eqInts_yes (fun i hi => unhide HQ i (by omega))).symm, _, rfl⟩
  · have hne : ((n : Int) != (m : Int)) = true := by simp; omega
    go_enter Tryz.func12, Tryz.ntmps12
    go_wp2
    go_ret
    exact ⟨ret_bool (eqInts_ne e).symm, 0, rfl⟩
theorem infoInts : (Tryz.prog.info? 25).map (fun i => (i.zero, i.size, i.bytes)) = some (some (.slice none 0 0), 1, 24) := by kernel_rfl
structure Rows2 (w : World) (b0 m : Nat) (ln : Nat → Nat) (f : Nat → Nat → Int) : Prop where
  outer : w.rowIs b0 25 m (fun i => .slice (some ⟨b0 + 1 + i, 0, none⟩) (ln i) (ln i))
  inner : ∀ i, i < m → w.rowIs (b0 + 1 + i) 3 (ln i) (fun j => .int .i64 (f i j))
theorem step_if2 (b0 k j : Nat) (ln : Nat → Nat) : (if j = k then Value.slice (some ⟨b0 + 1 + k, 0, none⟩) (ln k) (ln k) else (if j < k then .slice (some ⟨b0 + 1 + j, 0, none⟩) (ln j) (ln j) else .slice none 0 0)) = if j < k + 1 then .slice (some ⟨b0 + 1 + j, 0, none⟩) (ln j) (ln j) else .slice none 0 0 := by
  by_cases h : j = k
  · subst h; simp
  · by_cases h2 : j < k
    · rw [if_neg h, if_pos h2, if_pos (by omega)]
    · rw [if_neg h, if_neg h2, if_neg (by omega)]
theorem toIntSS (w : World) (F : Nat → Nat → Prop) (v : Value) (m : Nat) (ln : Nat → Nat) (f : Nat → Nat → Int) (H : IntSS .i64 w F v m ln f) :
    Calls Tryz.prog 30 #[v] w fun e w' => e = .returned (.slice (some ⟨w.heap.size, 0, none⟩) m m) ∧ Rows2 w' w.heap.size m ln f ∧ w'.heap.size = w.heap.size + 1 + m ∧ Below w.heap.size w w' := by
  obtain ⟨a, cap, rfl, hn, -, hc⟩ := H
  have hmk := run_make_row' (P := Tryz.prog) 22 25 (.slice none 0 0) 24 Tryz.underlying22 infoInts rfl .i64 .i64 m (by omega) (by omega)
  go_enter Tryz.func30, Tryz.ntmps30
  go_wp2
  go_loopw [4] (fun i wr => ∃ k : Nat, k ≤ m ∧ i = .int .i64 k ∧ wr.rowIs w.heap.size 25 m (fun j => if j < k then .slice (some ⟨w.heap.size + 1 + j, 0, none⟩) (ln j) (ln j) else .slice none 0 0) ∧ (∀ i, i < k → wr.rowIs (w.heap.size + 1 + i) 3 (ln i) (fun j => .int .i64 (f i j))) ∧ Hid (wr.heap.size = w.heap.size + 1 + k) ∧ Below w.heap.size w wr) (fun i _ => m - (intOf i).toNat)
  case atStart => exact ⟨0, Nat.zero_le _, rfl, (World.rowIs_made w (.slice none 0 0) m 25).congr (fun i _ => by simp), fun i hi => absurd hi (Nat.not_lt_zero _), by show _ = _; simp, (Below.refl _ _).alloc (Nat.le_refl _) _⟩
  case round =>
    obtain ⟨k, hk, rfl, hrow, hin, hsz, hbel⟩ := hrel
    by_cases hlt : k < m
    · obtain ⟨b, off, u, rfl, hcell, hu⟩ := hc k hlt
      have hb := block_lt_of_cell hcell
      have hsrc : wr.cell? ⟨b, off + k, none⟩ = some u := (hbel.cell (p := ⟨b, off + k, none⟩) hb).trans hcell
      have hlt' : (k : Int) < (m : Int) := by omega
      have HR := hide hrow
      have HI := hide hin
      have hu' : Ints .i64 wr F u (ln k) (f k) := hu.keep (wrote_below hbel Nowhere) (fun _ _ _ h => h)
      clear hrow hin
      go_wp2_with fail
      refine (toIntS _ F u (ln k) (f k) hu').mono ?_
      rintro e w1 ⟨rfl, hnew, hs1, hb1⟩
      have hs0 := hsz.out
      rw [hs0] at hnew hs1 hb1
      rw [hs0]
      have hrow1 := (unhide HR).of_block (hb1.block _ (by omega))
      have hdst := hrow1.cell hlt
      have hfz := hrow1.frozen k
      have R := (hrow1.set k (.slice (some ⟨w.heap.size + 1 + k, 0, none⟩) (ln k) (ln k))).congr (g := fun j => if j < k + 1 then .slice (some ⟨w.heap.size + 1 + j, 0, none⟩) (ln j) (ln j) else .slice none 0 0) (fun j _ => step_if2 _ k j ln)
      have HR1 := hide R
      have HN := hide hnew
      have HS := hide hs1
      clear hrow1 R hnew hs1 hs0
      go_wp2
      go_roundw
      case rel =>
        refine ⟨k + 1, by omega, by go_num, unhide HR1, fun i hi => ?_, by show _ = _; have := unhide HS; simp; omega, (hbel.trans (hb1.mono (by omega))).setCell (Nat.le_refl _) _⟩
        by_cases e : i = k
        · subst e
          exact (unhide HN).setOther (by simp; omega) _
        · exact ((unhide HI i (by omega)).of_block (hb1.block _ (by omega))).setOther (by simp; omega) _
      case measure => simp [intOf]; omega
    · have hlt' : ¬ (k : Int) < (m : Int) := by omega
      have HR := hide hrow
      have HI := hide hin
      clear hrow hin
      go_wp2
      go_ret
      have ek : k = m := by omega
      subst ek
      exact ⟨rfl, ⟨(unhide HR).congr (fun i hi => by rw [if_pos hi]), unhide HI⟩, hsz, hbel⟩
def eqIntss (m n : Nat) (ln lg : Nat → Nat) (f g : Nat → Nat → Int) : Bool := decide (m = n ∧ ∀ i, i < m → eqInts (ln i) (lg i) (f i) (g i) = true)
theorem eqIntss_ne {m n : Nat} {ln lg : Nat → Nat} {f g : Nat → Nat → Int} (h : ¬ m = n) : eqIntss m n ln lg f g = false := decide_eq_false (fun x => h x.1)
theorem eqIntss_no {n k : Nat} {ln lg : Nat → Nat} {f g : Nat → Nat → Int} (hk : k < n) (h : eqInts (ln k) (lg k) (f k) (g k) = false) : eqIntss n n ln lg f g = false :=
  decide_eq_false (fun x => by have := x.2 k hk; rw [h] at this; cases this)
theorem eqIntss_yes {n : Nat} {ln lg : Nat → Nat} {f g : Nat → Nat → Int} (h : ∀ i, i < n → eqInts (ln i) (lg i) (f i) (g i) = true) : eqIntss n n ln lg f g = true := decide_eq_true ⟨rfl, h⟩
theorem eqIntss_refl (n : Nat) (ln : Nat → Nat) (f : Nat → Nat → Int) : eqIntss n n ln ln f f = true := eqIntss_yes fun _ _ => eqInts_refl _ _
theorem eqs_snoc {k : Nat} {ln lg : Nat → Nat} {f g : Nat → Nat → Int} (h : ∀ i, i < k → eqInts (ln i) (lg i) (f i) (g i) = true) (hk : eqInts (ln k) (lg k) (f k) (g k) = true) : ∀ j, j < k + 1 → eqInts (ln j) (lg j) (f j) (g j) = true := fun j hj => by
  by_cases e : j = k
  · rw [e]; exact hk
  · exact h j (by omega)
theorem eqIntSS (w : World) (F G : Nat → Nat → Prop) (v u : Value) (m n : Nat) (ln lg : Nat → Nat) (f g : Nat → Nat → Int) (H : IntSS .i64 w F v m ln f) (H' : IntSS .i64 w G u n lg g) :
    Calls Tryz.prog 42 #[v, u] w fun e w' => e = .returned (.bool (eqIntss m n ln lg f g)) ∧ ∃ d, w' = w.drewN d := by
  obtain ⟨a, cap, rfl, hn, -, hc⟩ := H
  obtain ⟨a', cap', rfl, hn', -, hc'⟩ := H'
  by_cases e : m = n
  · subst e
    have hne : ((m : Int) != (m : Int)) = false := by simp
    go_enter Tryz.func42, Tryz.ntmps42
    go_wp2
    go_loopw [5] (fun i wr => ∃ k : Nat, k ≤ m ∧ i = .int .i64 k ∧ (∀ i, i < k → eqInts (ln i) (lg i) (f i) (g i) = true) ∧ ∃ d, wr = w.drewN d) (fun i _ => m - (intOf i).toNat)
    case atStart => exact ⟨0, Nat.zero_le _, rfl, fun j hj => absurd hj (Nat.not_lt_zero _), 0, rfl⟩
    case round =>
      obtain ⟨k, hk, rfl, heq, d, rfl⟩ := hrel
      have HQ := hide heq
      clear heq
      by_cases hlt : k < m
      · obtain ⟨b, off, u, rfl, hcell, hu⟩ := hc k hlt
        obtain ⟨b', off', u', rfl, hcell', hu'⟩ := hc' k hlt
        have hlt' : (k : Int) < (m : Int) := by omega
        clear hc hc'
        cases hq : eqInts (ln k) (lg k) (f k) (g k)
        · go_wp2
          go_quiet ((go_at_call 12; exact quiet_of2 (eqIntS _ F G u u' (ln k) (lg k) (f k) (g k) hu hu')))
          go_wp2
          go_ret
          exact ⟨ret_bool (eqIntss_no hlt hq).symm, drew2 _ _ _⟩
        · have HK := hide hq
          go_wp2
          go_quiet ((go_at_call 12; exact quiet_of2 (eqIntS _ F G u u' (ln k) (lg k) (f k) (g k) hu hu')))
          go_wp2
          go_roundw
          case rel => exact ⟨k + 1, by omega, by go_num, eqs_snoc (unhide HQ) (unhide HK), _, rfl⟩
          case measure => simp [intOf]; omega
      · have hlt' : ¬ (k : Int) < (m : Int) := by omega
        go_wp2
        go_ret
        exact ⟨ret_bool (eqIntss_yes (fun i hi => unhide HQ i (by omega))).symm, _, rfl⟩
  · have hne : ((m : Int) != (n : Int)) = true := by simp; omega
    go_enter Tryz.func42, Tryz.ntmps42
    go_wp2
    go_ret
    exact ⟨ret_bool (eqIntss_ne e).symm, 0, rfl⟩
end Go.Proofs.YtjcaligejlhjdaaGreat
