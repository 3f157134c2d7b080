/-
  Contracts of the exact laws' helpers over bytes, and over images' memory: copies, comparisons, marks.
-/
import Derived.Test.YtpaedkefmebjjajS2
namespace Go.Proofs.Ytpaedkefmebjjaj
open Go.ChangeShapes Go.WideShapes Go.ChangeAt Go.RowKit
theorem infoU8 : (Try.prog.info? 5).map (fun i => (i.zero, i.size, i.bytes)) = some (some (.int .u8 0), 1, 1) := by kernel_rfl
theorem step_ifB (f : Nat → Int) (k j : Nat) : (if j = k then Value.int .u8 (f k) else .int .u8 (if j < k then f j else 0)) = .int .u8 (if j < k + 1 then f j else 0) := by
  by_cases h : j = k
  · subst h; simp
  · by_cases h2 : j < k
    · rw [if_neg h, if_pos h2, if_pos (by omega)]
    · rw [if_neg h, if_neg h2, if_neg (by omega)]
theorem eqByteS (w : World) (F G : Nat → Nat → Prop) (v u : Value) (n m : Nat) (f g : Nat → Int) (H : Ints .u8 w F v n f) (H' : Ints .u8 w G u m g) :
    Calls Try.prog 16 #[v, u] w fun e w' => e = .returned (.bool (eqInts n m f g)) ∧ ∃ d, w' = w.drewN d := by
  obtain ⟨a, cap, rfl, hn, hc, -⟩ := H
  obtain ⟨a', cap', rfl, hn', hc', -⟩ := H'
  by_cases e : n = m
  · subst e
    have hne : ((n : Int) != (n : Int)) = false := by simp
    go_enter Try.func16, Try.ntmps16
    go_wp2
    go_loopw [5] (fun i wr => ∃ k : Nat, k ≤ n ∧ i = .int .i64 k ∧ (∀ j, j < k → f j = g j) ∧ ∃ d, wr = w.drewN d) (fun i _ => n - (intOf i).toNat)
    case atStart => exact ⟨0, Nat.zero_le _, rfl, fun j hj => absurd hj (Nat.not_lt_zero _), 0, rfl⟩
    case round =>
      obtain ⟨k, hk, rfl, heq, d, rfl⟩ := hrel
      have HQ := hide heq
      clear heq
      by_cases hlt : k < n
      · obtain ⟨b, off, rfl, hcell⟩ := hc k hlt
        obtain ⟨b', off', rfl, hcell'⟩ := hc' k hlt
        have hlt' : (k : Int) < (n : Int) := by omega
        by_cases hq : f k = g k
        · have hq' : (f k != g k) = false := by simpa using hq
          have HK := hide hq
          clear hq
          go_wp2
          go_quiet (fail)
          go_wp2
          go_roundw
          case rel => exact ⟨k + 1, by omega, by go_num, eq_snoc (unhide HQ) (unhide HK), _, rfl⟩
          case measure => simp [intOf]; omega
        · have hq' : (f k != g k) = true := by simpa using hq
          go_wp2
          go_quiet (fail)
          go_wp2
          go_ret
          exact ⟨ret_bool (eqInts_no hlt hq).symm, drew2 _ _ _⟩
      · have hlt' : ¬ (k : Int) < (n : Int) := by omega
        go_wp2
        go_ret
        exact ⟨ret_bool (eqInts_yes (fun i hi => unhide HQ i (by omega))).symm, _, rfl⟩
  · have hne : ((n : Int) != (m : Int)) = true := by simp; omega
    go_enter Try.func16, Try.ntmps16
    go_wp2
    go_ret
    exact ⟨ret_bool (eqInts_ne e).symm, 0, rfl⟩
theorem markByteS (w : World) (a : Option Addr) (n cap : Nat) (f : Nat → Int) (k : Int) (H : RowOf .u8 w a n f) (hfr : Free w (Foot a n)) (k0 : 0 ≤ k) (k1 : k + n ≤ 4611686018427387904) :
    Calls Try.prog 18 #[.slice a n cap, .int .i64 k] w fun e w' => e = .returned (.int .i64 (k + n)) ∧ RowOf .u8 w' a n (fun i => (k + i) % 256) ∧ Wrote (Foot a n) w w' ∧ w'.heap.size = w.heap.size := by
  go_enter Try.func18, Try.ntmps18
  go_wp2
  go_loopw [1, 5] (fun kk i wr => ∃ j : Nat, j ≤ n ∧ i = .int .i64 j ∧ kk = .int .i64 (k + j) ∧ RowOf .u8 wr a n (fun i => if i < j then (k + i) % 256 else f i) ∧ Wrote (Foot a n) w wr ∧ Hid (wr.heap.size = w.heap.size)) (fun _ i _ => n - (intOf i).toNat)
  case atStart => exact ⟨0, Nat.zero_le _, rfl, by simp, H.congr (fun i _ => by simp), Wrote.refl _ _, rfl⟩
  case round =>
    obtain ⟨j, hj, rfl, rfl, hrow, hwr, hsz⟩ := hrel
    by_cases hlt : j < n
    · obtain ⟨b, off, rfl, hcell⟩ := hrow j hlt
      have hfz := (hfr.keep hwr b (off + j) (foot_at hlt)).2
      have hlt' : (j : Int) < (n : Int) := by omega
      have R := (row_marked (x := (k + j) % 256) hrow hlt).congr (g := fun i => if i < j + 1 then (k + i) % 256 else f i) (fun i _ => by
        by_cases e : i = j
        · subst e; simp
        · by_cases h2 : i < j
          · rw [if_neg e, if_pos h2, if_pos (by omega)]
          · rw [if_neg e, if_neg h2, if_neg (by omega)])
      have HR := hide R
      have HW := hide (hwr.setCell (b := b) (o := off + j) (fun _ => foot_at hlt) (.int .u8 ((k + j) % 256)))
      clear R hrow hwr
      go_wp2
      go_roundw
      case rel => exact ⟨j + 1, by omega, by go_num, by go_num, unhide HR, unhide HW, by show _ = _; simpa using hsz.out⟩
      case measure => simp [intOf]; omega
    · have hlt' : ¬ (j : Int) < (n : Int) := by omega
      have HR := hide hrow
      clear hrow
      go_wp2
      go_ret
      have ej : j = n := by omega
      subst ej
      exact ⟨rfl, (unhide HR).congr (fun i hi => by rw [if_pos hi]), hwr, hsz⟩
theorem heldByteS (w : World) (a : Option Addr) (n cap : Nat) (k : Int) (H : RowOf .u8 w a n (fun i => (k + i) % 256)) (k0 : 0 ≤ k) (k1 : k + n ≤ 4611686018427387904) :
    Calls Try.prog 19 #[.slice a n cap, .int .i64 k] w fun e w' => e = .returned (.int .i64 (k + n)) ∧ w' = w := by
  go_enter Try.func19, Try.ntmps19
  go_wp2
  go_loop [1, 5] (fun kk i => ∃ j : Nat, j ≤ n ∧ i = .int .i64 j ∧ kk = .int .i64 (k + j)) (fun _ i => n - (intOf i).toNat)
  case atStart => exact ⟨0, Nat.zero_le _, rfl, by simp⟩
  case round =>
    obtain ⟨j, hj, rfl, rfl⟩ := hrel
    by_cases hlt : j < n
    · obtain ⟨b, off, rfl, hcell⟩ := H j hlt
      have hlt' : (j : Int) < (n : Int) := by omega
      have hne : (((k + (j : Int)) % 256) != ((k + (j : Int)) % 256)) = false := by simp
      go_wp2
      go_round
      case rel => exact ⟨j + 1, by omega, by go_num, by go_num⟩
      case measure => simp [intOf]; omega
    · have hlt' : ¬ (j : Int) < (n : Int) := by omega
      go_wp2
      go_ret
      have ej : j = n := by omega
      subst ej
      exact ⟨rfl, rfl⟩
theorem markImage (w : World) (v : Value) (m : Nat) (ra : Nat → Option Addr) (ln rc : Nat → Nat) (f : Nat → Nat → Int) (k : Int) (S : Sep w v m ra ln rc) (hr : ∀ i, i < m → RowOf .i64 w (ra i) (ln i) (f i)) (k0 : 0 ≤ k) (k1 : k ≤ 1099511627776) :
    Calls Try.prog 17 #[.agg #[v], .int .i64 k] w fun e w' => e = .returned (.int .i64 (k + psum ln m)) ∧ (∀ i, i < m → RowOf .i64 w' (ra i) (ln i) (fun j => k + psum ln i + j)) ∧ Wrote (fun b o => ∃ i, i < m ∧ Foot (ra i) (ln i) b o) w w' := by
  have L0 : Below w.heap.size w (w.alloc (.cells #[v] 29)) := (Below.refl _ _).alloc (Nat.le_refl _) _
  have W0 := wrote_below L0 (fun b o => ∃ i, i < m ∧ Foot (ra i) (ln i) b o)
  have hr0 := fun i hi => (hr i hi).keep (wrote_below L0 Nowhere) (fun _ _ _ x => x)
  have S0 := S.keep (wrote_below L0 Nowhere) (fun _ _ x => absurd x id)
  go_enter Try.func17, Try.ntmps17
  go_wp2_with fail
  refine (markIntSS _ v m ra ln rc f k S0 hr0 k0 k1).mono ?_
  rintro e w1 ⟨rfl, R1, W1, s1⟩
  go_wp2
  go_ret
  exact ⟨rfl, R1, W0.trans W1⟩
end Go.Proofs.Ytpaedkefmebjjaj
