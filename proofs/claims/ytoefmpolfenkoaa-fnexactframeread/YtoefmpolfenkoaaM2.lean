/-
  Contracts of the exact laws' helpers that mark an answer's memory and look whether the marks are held.
-/
import Derived.Test.YtoefmpolfenkoaaE2
namespace Go.Proofs.Ytoefmpolfenkoaa
open Go.ChangeShapes Go.WideShapes Go.ChangeAt Go.RowKit
theorem row_marked {kd : IntKind} {w : World} {b off n : Nat} {f : Nat → Int} {j : Nat} {x : Int} (H : RowOf kd w (some ⟨b, off, none⟩) n f) (hj : j < n) :
    RowOf kd (w.setCell ⟨b, off + j, none⟩ (.int kd x)) (some ⟨b, off, none⟩) n (fun i => if i = j then x else f i) := fun i hi => by
  obtain ⟨b', off', e, hc⟩ := H i hi
  simp only [Option.some.injEq, Addr.mk.injEq, and_true] at e
  obtain ⟨rfl, rfl⟩ := e
  refine ⟨b, off, rfl, ?_⟩
  by_cases e : i = j
  · subst e
    rw [World.cell?_setCell_same _ _ _ hc]
    simp
  · rw [World.cell?_setCell_other _ _ _ _ (by intro h; simp only [Addr.mk.injEq] at h; omega), hc]
    show _ = some (Value.int kd (if i = j then x else f i))
    rw [if_neg e]
theorem markIntS (w : World) (a : Option Addr) (n cap : Nat) (f : Nat → Int) (k : Int) (H : RowOf .i64 w a n f) (hfr : Free w (Foot a n)) (k0 : 0 ≤ k) (k1 : k + n ≤ 4611686018427387904) :
    Calls Try.prog 12 #[.slice a n cap, .int .i64 k] w fun e w' => e = .returned (.int .i64 (k + n)) ∧ RowOf .i64 w' a n (fun i => k + i) ∧ Wrote (Foot a n) w w' ∧ w'.heap.size = w.heap.size := by
  go_enter Try.func12, Try.ntmps12
  go_wp2
  go_loopw [1, 5] (fun kk i wr => ∃ j : Nat, j ≤ n ∧ i = .int .i64 j ∧ kk = .int .i64 (k + j) ∧ RowOf .i64 wr a n (fun i => if i < j then k + i else f i) ∧ Wrote (Foot a n) w wr ∧ Hid (wr.heap.size = w.heap.size)) (fun _ i _ => n - (intOf i).toNat)
  case atStart => exact ⟨0, Nat.zero_le _, rfl, by simp, H.congr (fun i _ => by simp), Wrote.refl _ _, rfl⟩
  case round =>
    obtain ⟨j, hj, rfl, rfl, hrow, hwr, hsz⟩ := hrel
    by_cases hlt : j < n
    · obtain ⟨b, off, rfl, hcell⟩ := hrow j hlt
      have hfz := (hfr.keep hwr b (off + j) (foot_at hlt)).2
      have hlt' : (j : Int) < (n : Int) := by omega
      have R := (row_marked (x := k + j) hrow hlt).congr (g := fun i => if i < j + 1 then k + i else f i) (fun i _ => by
        by_cases e : i = j
        · subst e; simp
        · by_cases h2 : i < j
          · rw [if_neg e, if_pos h2, if_pos (by omega)]
          · rw [if_neg e, if_neg h2, if_neg (by omega)])
      have HR := hide R
      have HW := hide (hwr.setCell (b := b) (o := off + j) (fun _ => foot_at hlt) (.int .i64 (k + j)))
      clear R hrow hwr
      go_wp2
      go_roundw
      case rel => exact ⟨j + 1, by omega, by go_num, by go_num, unhide HR, unhide HW, by show _ = _; simpa using hsz.out⟩
      case measure => simp [intOf]; omega
    · have hlt' : ¬ (j : Int) < (n : Int) := by omega
      have HR := hide hrow
      clear hrow
      go_wp2
      go_ret
      have ej : j = n := by omega
      subst ej
      exact ⟨rfl, (unhide HR).congr (fun i hi => by rw [if_pos hi]), hwr, hsz⟩
theorem heldIntS (w : World) (a : Option Addr) (n cap : Nat) (k : Int) (H : RowOf .i64 w a n (fun i => k + i)) (k0 : 0 ≤ k) (k1 : k + n ≤ 4611686018427387904) :
    Calls Try.prog 13 #[.slice a n cap, .int .i64 k] w fun e w' => e = .returned (.int .i64 (k + n)) ∧ w' = w := by
  go_enter Try.func13, Try.ntmps13
  go_wp2
  go_loop [1, 5] (fun kk i => ∃ j : Nat, j ≤ n ∧ i = .int .i64 j ∧ kk = .int .i64 (k + j)) (fun _ i => n - (intOf i).toNat)
  case atStart => exact ⟨0, Nat.zero_le _, rfl, by simp⟩
  case round =>
    obtain ⟨j, hj, rfl, rfl⟩ := hrel
    by_cases hlt : j < n
    · obtain ⟨b, off, rfl, hcell⟩ := H j hlt
      have hlt' : (j : Int) < (n : Int) := by omega
      have hne : ((k + (j : Int)) != (k + (j : Int))) = false := by simp
      go_wp2
      go_round
      case rel => exact ⟨j + 1, by omega, by go_num, by go_num⟩
      case measure => simp [intOf]; omega
    · have hlt' : ¬ (j : Int) < (n : Int) := by omega
      go_wp2
      go_ret
      have ej : j = n := by omega
      subst ej
      exact ⟨rfl, rfl⟩
structure Sep (w : World) (v : Value) (m : Nat) (ra : Nat → Option Addr) (ln rc : Nat → Nat) : Prop where
  outer : ∃ a cap, v = .slice a m cap ∧ m ≤ 1048576 ∧ ∀ i, i < m → ∃ b off, a = some ⟨b, off, none⟩ ∧ w.cell? ⟨b, off + i, none⟩ = some (.slice (ra i) (ln i) (rc i)) ∧ ∀ j, j < m → ¬ Foot (ra j) (ln j) b (off + i)
  free : ∀ i, i < m → Free w (Foot (ra i) (ln i))
  disj : ∀ i j, i < m → j < m → i ≠ j → ∀ b o, Foot (ra i) (ln i) b o → ¬ Foot (ra j) (ln j) b o
  small : psum ln m ≤ 1099511627776
theorem Sep.keep {w w' : World} {v : Value} {m : Nat} {ra : Nat → Option Addr} {ln rc : Nat → Nat} {R : Nat → Nat → Prop} (h : Sep w v m ra ln rc) (hw : Wrote R w w') (hd : ∀ b o, R b o → ∃ i, i < m ∧ Foot (ra i) (ln i) b o) : Sep w' v m ra ln rc := by
  obtain ⟨⟨a, cap, hv, hm, ho⟩, hf, hdj, hs⟩ := h
  refine ⟨⟨a, cap, hv, hm, fun i hi => ?_⟩, fun i hi => (hf i hi).keep hw, hdj, hs⟩
  obtain ⟨b, off, ha, hc, hn⟩ := ho i hi
  refine ⟨b, off, ha, ?_, hn⟩
  rw [hw.cell b (off + i) (block_lt_of_cell hc) (fun h => by obtain ⟨j, hj, hF⟩ := hd _ _ h; exact hn j hj hF)]
  exact hc
end Go.Proofs.Ytoefmpolfenkoaa
