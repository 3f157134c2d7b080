/-
  The laws' own comparisons of rows and of banks.
-/
import Derived.Test.YteefbbnkfclllaaDoorS2
namespace Go.Proofs.YteefbbnkfclllaaDoor
open Go.ChangeShapes Go.WideShapes Go.ChangeAt Go.RowKit
theorem sameInts (w : World) (F G : Nat → Nat → Prop) (v u : Value) (n : Nat) (f g : Nat → Int) (H : Ints .i64 w F v n f) (H' : Ints .i64 w G u n g) (he : ∀ j, j < n → f j = g j) :
    Calls Tryd.prog 9 #[v, u] w fun e w' => e = .returned (.bool true) ∧ ∃ d, w' = w.drewN d := by
  obtain ⟨a, cap, rfl, hn, hc, -⟩ := H
  obtain ⟨a', cap', rfl, hn', hc', -⟩ := H'
  have hne : ((n : Int) != (n : Int)) = false := by simp
  go_enter Tryd.func9, Tryd.ntmps9
  go_wp2
  go_loopw [5] (fun i wr => ∃ k : Nat, k ≤ n ∧ i = .int .i64 k ∧ ∃ d, wr = w.drewN d) (fun i _ => n - (intOf i).toNat)
  case atStart => exact ⟨0, Nat.zero_le _, rfl, 0, rfl⟩
  case round =>
    obtain ⟨k, hk, rfl, d, rfl⟩ := hrel
    by_cases hlt : k < n
    · obtain ⟨b, off, rfl, hcell⟩ := hc k hlt
      obtain ⟨b', off', rfl, hcell'⟩ := hc' k hlt
      have hlt' : (k : Int) < (n : Int) := by omega
      have hq' : (f k != g k) = false := by simpa using he k hlt
      clear he hc hc'
      go_wp2
      go_quiet (fail)
      go_wp2
      go_roundw
      case rel => exact ⟨k + 1, by omega, by go_num, _, rfl⟩
      case measure => simp [intOf]; omega
    · have hlt' : ¬ (k : Int) < (n : Int) := by omega
      go_wp2
      go_ret
      exact ⟨rfl, _, rfl⟩
end Go.Proofs.YteefbbnkfclllaaDoor
