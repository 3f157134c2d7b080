/-
  The laws' own comparisons of rows and of banks.
-/
import Derived.Test.YtpaedkefmebjjadDoorS2
namespace Go.Proofs.YtpaedkefmebjjadDoor
open Go.ChangeShapes Go.WideShapes Go.ChangeAt Go.RowKit
theorem sameInts (w : World) (F G : Nat → Nat → Prop) (v u : Value) (n : Nat) (f g : Nat → Int) (H : Ints .i64 w F v n f) (H' : Ints .i64 w G u n g) (he : ∀ j, j < n → f j = g j) :
    Calls Tryd.prog 15 #[v, u] w fun e w' => e = .returned (.bool true) ∧ ∃ d, w' = w.drewN d := by
  obtain ⟨a, cap, rfl, hn, hc, -⟩ := H
  obtain ⟨a', cap', rfl, hn', hc', -⟩ := H'
  have hne : ((n : Int) != (n : Int)) = false := by simp
  go_enter Tryd.func15, Tryd.ntmps15
  go_wp2
  go_loopw [5] (fun i wr => ∃ k : Nat, k ≤ n ∧ i = .int .i64 k ∧ ∃ d, wr = w.drewN d) (fun i _ => n - (intOf i).toNat)
  case atStart => exact ⟨0, Nat.zero_le _, rfl, 0, rfl⟩
  case round =>
    obtain ⟨k, hk, rfl, d, rfl⟩ := hrel
    by_cases hlt : k < n
    · obtain ⟨b, off, rfl, hcell⟩ := hc k hlt
      obtain ⟨b', off', rfl, hcell'⟩ := hc' k hlt
      have hlt' : (k : Int) < (n : Int) := by omega
      have hq' : (f k != g k) = false := by simpa using he k hlt
      clear he hc hc'
      go_wp2
      go_quiet (fail)
      go_wp2
      go_roundw
      case rel => exact ⟨k + 1, by omega, by go_num, _, rfl⟩
      case measure => simp [intOf]; omega
    · have hlt' : ¬ (k : Int) < (n : Int) := by omega
      go_wp2
      go_ret
      exact ⟨rfl, _, rfl⟩
theorem sameBanks (w : World) (v v' : Value) (F F' : Nat → Nat → Prop) (m : Nat) (ln : Nat → Nat) (f g : Nat → Nat → Int) (H : IntSS .i64 w F v m ln f) (H' : IntSS .i64 w F' v' m ln g) (he : ∀ i j, i < m → j < ln i → f i j = g i j) :
    Calls Tryd.prog 11 #[.agg #[v], .agg #[v']] w fun e w' => e = .returned (.bool true) ∧ Below w.heap.size w w' := by
  have hne : ((m : Int) != (m : Int)) = false := by simp
  obtain ⟨a, cap, rfl, hm, -, hr⟩ := H
  obtain ⟨a', cap', rfl, -, -, hr'⟩ := H'
  have LL : Below w.heap.size w ((w.alloc (.cells #[.slice a m cap] 26)).alloc (.cells #[.slice a' m cap'] 26)) := ((Below.refl _ _).alloc (Nat.le_refl _) _).alloc (by simp) _
  have X1 : ((w.alloc (.cells #[.slice a m cap] 26)).alloc (.cells #[.slice a' m cap'] 26)).cell? ⟨w.heap.size, 0, none⟩ = some (.slice a m cap) := by
    rw [World.cell?_alloc_lt _ _ ⟨w.heap.size, 0, none⟩ (by simp), World.cell?_alloc_at _ _ _ _ rfl]; rfl
  have X2 : ((w.alloc (.cells #[.slice a m cap] 26)).alloc (.cells #[.slice a' m cap'] 26)).cell? ⟨w.heap.size + 1, 0, none⟩ = some (.slice a' m cap') := by
    rw [World.cell?_alloc_at _ _ _ _ (by simp)]; rfl
  go_enter Tryd.func11, Tryd.ntmps11
  go_wp2_with fail
  generalize hw2 : ((w.alloc (.cells #[.slice a m cap] 26)).alloc (.cells #[.slice a' m cap'] 26)) = w2 at *
  clear hw2
  go_loopw [5] (fun i wr => ∃ k : Nat, k ≤ m ∧ i = .int .i64 k ∧ ∃ d, wr = w2.drewN d) (fun i _ => m - (intOf i).toNat)
  case atStart => exact ⟨0, Nat.zero_le _, rfl, 0, rfl⟩
  case round =>
    obtain ⟨k, hk, rfl, d, rfl⟩ := hrel
    by_cases hkn : k < m
    · have hkn' : (k : Int) < (m : Int) := by omega
      obtain ⟨b, off, u, rfl, hc, hu⟩ := hr k hkn
      obtain ⟨b', off', u', rfl, hc', hu'⟩ := hr' k hkn
      have hc2 := (LL.cell (block_lt_of_cell hc)).trans hc
      have hc2' := (LL.cell (block_lt_of_cell hc')).trans hc'
      have ku := hu.keep (wrote_below LL Nowhere) (fun _ _ _ x => x)
      have ku' := hu'.keep (wrote_below LL Nowhere) (fun _ _ _ x => x)
      have hek := he k
      clear he hc hc' hr hr' hu hu'
      go_wp2
      go_quiet ((go_at_call 15; exact quiet_of2 (sameInts _ F F' u u' (ln k) (f k) (g k) ku ku' (fun j hj => hek j hkn hj))))
      go_wp2
      go_roundw
      case rel => exact ⟨k + 1, by omega, by go_num, _, rfl⟩
      case measure => simp [intOf]; omega
    · have hkn' : ¬ (k : Int) < (m : Int) := by omega
      go_wp2
      go_ret
      exact ⟨rfl, ⟨LL.os, LL.tape, LL.output, LL.size, LL.block⟩⟩
end Go.Proofs.YtpaedkefmebjjadDoor
