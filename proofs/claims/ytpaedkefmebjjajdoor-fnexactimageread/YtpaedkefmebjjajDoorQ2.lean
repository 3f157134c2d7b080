/-
  Contracts of the exact laws' helpers over bytes, and over images' memory: copies, comparisons, marks.
-/
import Derived.Test.YtpaedkefmebjjajDoorS2
namespace Go.Proofs.YtpaedkefmebjjajDoor
open Go.ChangeShapes Go.WideShapes Go.ChangeAt Go.RowKit
theorem infoU8 : (Tryd.prog.info? 5).map (fun i => (i.zero, i.size, i.bytes)) = some (some (.int .u8 0), 1, 1) := by kernel_rfl
theorem step_ifB (f : Nat → Int) (k j : Nat) : (if j = k then Value.int .u8 (f k) else .int .u8 (if j < k then f j else 0)) = .int .u8 (if j < k + 1 then f j else 0) := by
  by_cases h : j = k
  · subst h; simp
  · by_cases h2 : j < k
    · rw [if_neg h, if_pos h2, if_pos (by omega)]
    · rw [if_neg h, if_neg h2, if_neg (by omega)]
theorem eqByteS (w : World) (F G : Nat → Nat → Prop) (v u : Value) (n m : Nat) (f g : Nat → Int) (H : Ints .u8 w F v n f) (H' : Ints .u8 w G u m g) :
    Calls Tryd.prog 9 #[v, u] w fun e w' => e = .returned (.bool (eqInts n m f g)) ∧ ∃ d, w' = w.drewN d := by
  obtain ⟨a, cap, rfl, hn, hc, -⟩ := H
  obtain ⟨a', cap', rfl, hn', hc', -⟩ := H'
  by_cases e : n = m
  · subst e
    have hne : ((n : Int) != (n : Int)) = false := by simp
    go_enter Tryd.func9, Tryd.ntmps9
    go_wp2
    go_loopw [5] (fun i wr => ∃ k : Nat, k ≤ n ∧ i = .int .i64 k ∧ (∀ j, j < k → f j = g j) ∧ ∃ d, wr = w.drewN d) (fun i _ => n - (intOf i).toNat)
    case atStart => exact ⟨0, Nat.zero_le _, rfl, fun j hj => absurd hj (Nat.not_lt_zero _), 0, rfl⟩
    case round =>
      obtain ⟨k, hk, rfl, heq, d, rfl⟩ := hrel
      have HQ := hide heq
      clear heq
      by_cases hlt : k < n
      · obtain ⟨b, off, rfl, hcell⟩ := hc k hlt
        obtain ⟨b', off', rfl, hcell'⟩ := hc' k hlt
        have hlt' : (k : Int) < (n : Int) := by omega
        by_cases hq : f k = g k
        · have hq' : (f k != g k) = false := by simpa using hq
          have HK := hide hq
          clear hq
          go_wp2
          go_quiet (fail)
          go_wp2
          go_roundw
          case rel => exact ⟨k + 1, by omega, by go_num, eq_snoc (unhide HQ) (unhide HK), _, rfl⟩
          case measure => simp [intOf]; omega
        · have hq' : (f k != g k) = true := by simpa using hq
          go_wp2
          go_quiet (fail)
          go_wp2
          go_ret
          exact ⟨ret_bool (eqInts_no hlt hq).symm, drew2 _ _ _⟩
      · have hlt' : ¬ (k : Int) < (n : Int) := by omega
        go_wp2
        go_ret
        exact ⟨ret_bool (eqInts_yes (fun i hi => unhide HQ i (by omega))).symm, _, rfl⟩
  · have hne : ((n : Int) != (m : Int)) = true := by simp; omega
    go_enter Tryd.func9, Tryd.ntmps9
    go_wp2
    go_ret
    exact ⟨ret_bool (eqInts_ne e).symm, 0, rfl⟩
theorem toByteS (w : World) (F : Nat → Nat → Prop) (v : Value) (n : Nat) (f : Nat → Int) (H : Ints .u8 w F v n f) :
    Calls Tryd.prog 6 #[v] w fun e w' => e = .returned (.slice (some ⟨w.heap.size, 0, none⟩) n n) ∧ w'.rowIs w.heap.size 5 n (fun i => .int .u8 (f i)) ∧ w'.heap.size = w.heap.size + 1 ∧ Below w.heap.size w w' := by
  obtain ⟨a, cap, rfl, hn, hc, -⟩ := H
  have hmk := run_make_row' (P := Tryd.prog) 22 5 (.int .u8 0) 1 Tryd.underlying22 infoU8 rfl .i64 .i64 n (by omega) (by omega)
  go_enter Tryd.func6, Tryd.ntmps6
  go_wp2
  go_loopw [4] (fun i wr => ∃ k : Nat, k ≤ n ∧ i = .int .i64 k ∧ wr.rowIs w.heap.size 5 n (fun j => .int .u8 (if j < k then f j else 0)) ∧ Hid (wr.heap.size = w.heap.size + 1) ∧ Below w.heap.size w wr) (fun i _ => n - (intOf i).toNat)
  case atStart => exact ⟨0, Nat.zero_le _, rfl, (World.rowIs_made w (.int .u8 0) n 5).congr (fun i _ => by simp), by show _ = _; simp, (Below.refl _ _).alloc (Nat.le_refl _) _⟩
  case round =>
    obtain ⟨k, hk, rfl, hrow, hsz, hbel⟩ := hrel
    by_cases hlt : k < n
    · obtain ⟨b, off, rfl, hcell⟩ := hc k hlt
      have hb := block_lt_of_cell hcell
      have hsrc : wr.cell? ⟨b, off + k, none⟩ = some (.int .u8 (f k)) := (hbel.cell (p := ⟨b, off + k, none⟩) hb).trans hcell
      have hdst := hrow.cell hlt
      have hfz := hrow.frozen k
      have hlt' : (k : Int) < (n : Int) := by omega
      have R := (hrow.set k (.int .u8 (f k))).congr (g := fun j => .int .u8 (if j < k + 1 then f j else 0)) (fun j _ => step_ifB f k j)
      clear hrow
      go_wp2
      go_roundw
      case rel => exact ⟨k + 1, by omega, by go_num, R, by show _ = _; simpa using hsz.out, hbel.setCell (Nat.le_refl _) _⟩
      case measure => simp [intOf]; omega
    · have hlt' : ¬ (k : Int) < (n : Int) := by omega
      go_wp2
      go_ret
      exact ⟨rfl, hrow.congr (fun i hi => by rw [if_pos (by omega)]), hsz, hbel⟩
theorem markByteS (w : World) (a : Option Addr) (n cap : Nat) (f : Nat → Int) (k : Int) (H : RowOf .u8 w a n f) (hfr : Free w (Foot a n)) (k0 : 0 ≤ k) (k1 : k + n ≤ 4611686018427387904) :
    Calls Tryd.prog 10 #[.slice a n cap, .int .i64 k] w fun e w' => e = .returned (.int .i64 (k + n)) ∧ RowOf .u8 w' a n (fun i => (k + i) % 256) ∧ Wrote (Foot a n) w w' ∧ w'.heap.size = w.heap.size := by
  go_enter Tryd.func10, Tryd.ntmps10
  go_wp2
  go_loopw [1, 5] (fun kk i wr => ∃ j : Nat, j ≤ n ∧ i = .int .i64 j ∧ kk = .int .i64 (k + j) ∧ RowOf .u8 wr a n (fun i => if i < j then (k + i) % 256 else f i) ∧ Wrote (Foot a n) w wr ∧ Hid (wr.heap.size = w.heap.size)) (fun _ i _ => n - (intOf i).toNat)
  case atStart => exact ⟨0, Nat.zero_le _, rfl, by simp, H.congr (fun i _ => by simp), Wrote.refl _ _, rfl⟩
  case round =>
    obtain ⟨j, hj, rfl, rfl, hrow, hwr, hsz⟩ := hrel
    by_cases hlt : j < n
    · obtain ⟨b, off, rfl, hcell⟩ := hrow j hlt
      have hfz := (hfr.keep hwr b (off + j) (foot_at hlt)).2
      have hlt' : (j : Int) < (n : Int) := by omega
      have R := (row_marked (x := (k + j) % 256) hrow hlt).congr (g := fun i => if i < j + 1 then (k + i) % 256 else f i) (fun i _ => by
        by_cases e : i = j
        · subst e; simp
        · by_cases h2 : i < j
          · rw [if_neg e, if_pos h2, if_pos (by omega)]
          · rw [if_neg e, if_neg h2, if_neg (by omega)])
      have HR := hide R
      have HW := hide (hwr.setCell (b := b) (o := off + j) (fun _ => foot_at hlt) (.int .u8 ((k + j) % 256)))
      clear R hrow hwr
      go_wp2
      go_roundw
      case rel => exact ⟨j + 1, by omega, by go_num, by go_num, unhide HR, unhide HW, by show _ = _; simpa using hsz.out⟩
      case measure => simp [intOf]; omega
    · have hlt' : ¬ (j : Int) < (n : Int) := by omega
      have HR := hide hrow
      clear hrow
      go_wp2
      go_ret
      have ej : j = n := by omega
      subst ej
      exact ⟨rfl, (unhide HR).congr (fun i hi => by rw [if_pos hi]), hwr, hsz⟩
theorem markImage (w : World) (v : Value) (m : Nat) (ra : Nat → Option Addr) (ln rc : Nat → Nat) (f : Nat → Nat → Int) (k : Int) (S : Sep w v m ra ln rc) (hr : ∀ i, i < m → RowOf .i64 w (ra i) (ln i) (f i)) (k0 : 0 ≤ k) (k1 : k ≤ 1099511627776) :
    Calls Tryd.prog 11 #[.agg #[v], .int .i64 k] w fun e w' => e = .returned (.int .i64 (k + psum ln m)) ∧ (∀ i, i < m → RowOf .i64 w' (ra i) (ln i) (fun j => k + psum ln i + j)) ∧ Wrote (fun b o => ∃ i, i < m ∧ Foot (ra i) (ln i) b o) w w' := by
  have L0 : Below w.heap.size w (w.alloc (.cells #[v] 25)) := (Below.refl _ _).alloc (Nat.le_refl _) _
  have W0 := wrote_below L0 (fun b o => ∃ i, i < m ∧ Foot (ra i) (ln i) b o)
  have hr0 := fun i hi => (hr i hi).keep (wrote_below L0 Nowhere) (fun _ _ _ x => x)
  have S0 := S.keep (wrote_below L0 Nowhere) (fun _ _ x => absurd x id)
  go_enter Tryd.func11, Tryd.ntmps11
  go_wp2_with fail
  refine (markIntSS _ v m ra ln rc f k S0 hr0 k0 k1).mono ?_
  rintro e w1 ⟨rfl, R1, W1, s1⟩
  go_wp2
  go_ret
  exact ⟨rfl, R1, W0.trans W1⟩
theorem heldImage (w : World) (v : Value) (m : Nat) (ra : Nat → Option Addr) (ln rc : Nat → Nat) (k : Int) (S : Sep w v m ra ln rc) (hr : ∀ i, i < m → RowOf .i64 w (ra i) (ln i) (fun j => k + psum ln i + j)) (k0 : 0 ≤ k) (k1 : k ≤ 1099511627776) :
    Calls Tryd.prog 12 #[.agg #[v], .int .i64 k] w fun e w' => e = .returned (.int .i64 (k + psum ln m)) ∧ Below w.heap.size w w' := by
  have L0 : Below w.heap.size w (w.alloc (.cells #[v] 25)) := (Below.refl _ _).alloc (Nat.le_refl _) _
  have hr0 := fun i hi => (hr i hi).keep (wrote_below L0 Nowhere) (fun _ _ _ x => x)
  have S0 := S.keep (wrote_below L0 Nowhere) (fun _ _ x => absurd x id)
  have hk : ¬ (k + (psum ln m : Int) < 0) := by omega
  go_enter Tryd.func12, Tryd.ntmps12
  go_wp2_with fail
  refine (heldIntSS _ v m ra ln rc k S0 hr0 k0 k1).mono ?_
  rintro e w1 ⟨rfl, rfl⟩
  go_wp2
  go_ret
  exact ⟨rfl, L0⟩
end Go.Proofs.YtpaedkefmebjjajDoor
