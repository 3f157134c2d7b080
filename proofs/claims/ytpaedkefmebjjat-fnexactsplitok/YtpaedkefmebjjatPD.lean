/-
  Chapter 11 by its contracts: the mirror of a pad, and the specification's functions on it.
-/
import Derived.Test.YtpaedkefmebjjatC5
import Derived.Test.YtpaedkefmebjjatS2
import Derived.Deep.DeepCutAuto
namespace Go.Proofs.Ytpaedkefmebjjat
set_option linter.unusedVariables false
set_option linter.unusedSimpArgs false
open Go.ChangeShapes Go.WideShapes Go.ChangeAt Go.RowKit
def okPads (n : Nat) (f : Nat → Int) : Bool := decide ((∀ i, i < n → 0 ≤ f i ∧ f i ≤ 255) ∧ n ≤ 20)
theorem okPads_no {n : Nat} {f : Nat → Int} {j : Nat} (hj : j < n) (h : ¬ (0 ≤ f j ∧ f j ≤ 255)) : okPads n f = false := decide_eq_false (fun x => h (x.1 j hj))
theorem okPads_all {n : Nat} {f : Nat → Int} (h : ∀ j, j < n → 0 ≤ f j ∧ f j ≤ 255) : okPads n f = decide (n ≤ 20) := decide_eq_decide.2 ⟨fun x => x.2, fun x => ⟨h, x⟩⟩
/- What is held behind a write, and the byte that is told from then on. -/
theorem toPad (w : World) (H : Bool) (S : Int) : Calls Try.prog 42 #[.agg #[.bool H, .int .i64 S]] w
    fun e w' => e = .returned (.agg #[.bool H, .int .i64 S]) ∧ Below w.heap.size w w' := by
  go_enter Try.func42, Try.ntmps42
  go_wp2
  refine bodyPost_ret (v := .agg #[.bool H, .int .i64 S]) (by simp [results, Try.results42, go_sem]) rfl ?_
  exact ⟨rfl, (((Below.refl _ _).alloc (Nat.le_refl _) _).alloc (by simp) _).alloc (by simp; omega) _⟩
theorem eqPad_same (w : World) (H : Bool) (S : Int) : Calls Try.prog 53 #[.agg #[.bool H, .int .i64 S], .agg #[.bool H, .int .i64 S]] w
    fun e w' => e = .returned (.bool true) ∧ Below w.heap.size w w' := by
  go_enter Try.func53, Try.ntmps53
  go_wp2
  go_ret
  exact ⟨rfl, ((Below.refl _ _).alloc (Nat.le_refl _) _).alloc (by simp) _⟩
set_option maxHeartbeats 1000000 in
theorem specPadsOk (w : World) (F : Nat → Nat → Prop) (u : Value) (n : Nat) (f : Nat → Int) (H : Ints .i64 w F u n f) :
    Calls Try.prog 32 #[u] w fun e w' => e = .returned (.bool (okPads n f)) ∧ w' = w := by
  obtain ⟨a, cap, rfl, hn, hr, -⟩ := H
  have HR := hide hr
  clear hr
  go_enter Try.func32, Try.ntmps32
  go_wp2
  go_loopw [3] (fun i wr => wr = w ∧ ∃ k : Nat, k ≤ n ∧ i = .int .i64 k ∧ ∀ j, j < k → 0 ≤ f j ∧ f j ≤ 255) (fun i _ => n - (intOf i).toNat)
  case atStart => exact ⟨rfl, 0, Nat.zero_le _, rfl, fun j hj => absurd hj (Nat.not_lt_zero _)⟩
  case round =>
    obtain ⟨rfl, k, hk, rfl, hall⟩ := hrel
    have HA := hide hall
    clear hall
    by_cases hlt : k < n
    · have hlt' : (k : Int) < (n : Int) := by omega
      obtain ⟨b, o, rfl, hc⟩ := HR.out k hlt
      by_cases hin : 0 ≤ f k ∧ f k ≤ 255
      · have HI := hide (fun W => l5Byte W (f k))
        rw [inB_yes hin] at HI
        go_wp2_with fail
        refine (unhide HI _).mono ?_
        rintro e w1 ⟨rfl, rfl⟩
        go_wp2
        go_round
        case rel => exact ⟨trivial, k + 1, by omega, by go_num, fun j hj => by
          by_cases e : j = k
          · rw [e]; exact hin
          · exact HA.out j (by omega)⟩
        case measure => simp [intOf]; omega
      · have HI := hide (fun W => l5Byte W (f k))
        rw [inB_no hin] at HI
        have HE := hide (okPads_no hlt hin)
        go_wp2_with fail
        refine (unhide HI _).mono ?_
        rintro e w1 ⟨rfl, rfl⟩
        go_wp2
        go_ret
        exact ⟨ret_bool HE.out.symm, rfl⟩
    · have hkn : k = n := by omega
      subst hkn
      have HE := hide (okPads_all HA.out)
      by_cases h20 : k ≤ 20
      · go_wp2
        go_ret
        exact ⟨ret_bool (by rw [HE.out, decide_eq_true h20, decide_eq_true (by omega)]), rfl⟩
      · go_wp2
        go_ret
        exact ⟨ret_bool (by rw [HE.out, decide_eq_false h20, decide_eq_false (by omega)]), rfl⟩
end Go.Proofs.Ytpaedkefmebjjat
