/-
  Contracts of the exact laws' helpers that mark an answer's memory and look whether the marks are held.
-/
import Derived.Test.YtjcaligejlhjdaaGreatE2
namespace Go.Proofs.YtjcaligejlhjdaaGreat
open Go.ChangeShapes Go.WideShapes Go.ChangeAt Go.RowKit
theorem row_marked {kd : IntKind} {w : World} {b off n : Nat} {f : Nat → Int} {j : Nat} {x : Int} (H : RowOf kd w (some ⟨b, off, none⟩) n f) (hj : j < n) :
    RowOf kd (w.setCell ⟨b, off + j, none⟩ (.int kd x)) (some ⟨b, off, none⟩) n (fun i => if i = j then x else f i) := fun i hi => by
  obtain ⟨b', off', e, hc⟩ := H i hi
  simp only [Option.some.injEq, Addr.mk.injEq, and_true] at e
  obtain ⟨rfl, rfl⟩ := e
  refine ⟨b, off, rfl, ?_⟩
  by_cases e : i = j
  · subst e
    rw [World.cell?_setCell_same _ _ _ hc]
    simp
  · rw [World.cell?_setCell_other _ _ _ _ (by intro h; simp only [Addr.mk.injEq] at h; omega), hc]
    show _ = some (Value.int kd (if i = j then x else f i))
    rw [if_neg e]
theorem markIntS (w : World) (a : Option Addr) (n cap : Nat) (f : Nat → Int) (k : Int) (H : RowOf .i64 w a n f) (hfr : Free w (Foot a n)) (k0 : 0 ≤ k) (k1 : k + n ≤ 4611686018427387904) :
    Calls Tryz.prog 14 #[.slice a n cap, .int .i64 k] w fun e w' => e = .returned (.int .i64 (k + n)) ∧ RowOf .i64 w' a n (fun i => k + i) ∧ Wrote (Foot a n) w w' ∧ w'.heap.size = w.heap.size := by
  go_enter Tryz.func14, Tryz.ntmps14
  go_wp2
  go_loopw [1, 5] (fun kk i wr => ∃ j : Nat, j ≤ n ∧ i = .int .i64 j ∧ kk = .int .i64 (k + j) ∧ RowOf .i64 wr a n (fun i => if i < j then k + i else f i) ∧ Wrote (Foot a n) w wr ∧ Hid (wr.heap.size = w.heap.size)) (fun _ i _ => n - (intOf i).toNat)
  case atStart => exact ⟨0, Nat.zero_le _, rfl, by simp, H.congr (fun i _ => by simp), Wrote.refl _ _, rfl⟩
  case round =>
    obtain ⟨j, hj, rfl, rfl, hrow, hwr, hsz⟩ := hrel
    by_cases hlt : j < n
    · obtain ⟨b, off, rfl, hcell⟩ := hrow j hlt
      have hfz := (hfr.keep hwr b (off + j) (foot_at hlt)).2
      have hlt' : (j : Int) < (n : Int) := by omega
      have R := (row_marked (x := k + j) hrow hlt).congr (g := fun i => if i < j + 1 then k + i else f i) (fun i _ => by
        by_cases e : i = j
        · subst e; simp
        · by_cases h2 : i < j
          · rw [if_neg e, if_pos h2, if_pos (by omega)]
          · rw [if_neg e, if_neg h2, if_neg (by omega)])
      have HR := hide R
      have HW := hide (hwr.setCell (b := b) (o := off + j) (fun _ => foot_at hlt) (.int .i64 (k + j)))
      clear R hrow hwr
      go_wp2
      go_roundw
      case rel => exact ⟨j + 1, by omega, by go_num, by go_num, unhide HR, unhide HW, by show _ = _; simpa using hsz.out⟩
      case measure => simp [intOf]; omega
    · have hlt' : ¬ (j : Int) < (n : Int) := by omega
      have HR := hide hrow
      clear hrow
      go_wp2
      go_ret
      have ej : j = n := by omega
      subst ej
      exact ⟨rfl, (unhide HR).congr (fun i hi => by rw [if_pos hi]), hwr, hsz⟩
theorem heldIntS (w : World) (a : Option Addr) (n cap : Nat) (k : Int) (H : RowOf .i64 w a n (fun i => k + i)) (k0 : 0 ≤ k) (k1 : k + n ≤ 4611686018427387904) :
    Calls Tryz.prog 48 #[.slice a n cap, .int .i64 k] w fun e w' => e = .returned (.int .i64 (k + n)) ∧ w' = w := by
  go_enter Tryz.func48, Tryz.ntmps48
  go_wp2
  go_loop [1, 5] (fun kk i => ∃ j : Nat, j ≤ n ∧ i = .int .i64 j ∧ kk = .int .i64 (k + j)) (fun _ i => n - (intOf i).toNat)
  case atStart => exact ⟨0, Nat.zero_le _, rfl, by simp⟩
  case round =>
    obtain ⟨j, hj, rfl, rfl⟩ := hrel
    by_cases hlt : j < n
    · obtain ⟨b, off, rfl, hcell⟩ := H j hlt
      have hlt' : (j : Int) < (n : Int) := by omega
      have hne : ((k + (j : Int)) != (k + (j : Int))) = false := by simp
      go_wp2
      go_round
      case rel => exact ⟨j + 1, by omega, by go_num, by go_num⟩
      case measure => simp [intOf]; omega
    · have hlt' : ¬ (j : Int) < (n : Int) := by omega
      go_wp2
      go_ret
      have ej : j = n := by omega
      subst ej
      exact ⟨rfl, rfl⟩
structure Sep (w : World) (v : Value) (m : Nat) (ra : Nat → Option Addr) (ln rc : Nat → Nat) : Prop where
  outer : ∃ a cap, v = .slice a m cap ∧ m ≤ 1048576 ∧ ∀ i, i < m → ∃ b off, a = some ⟨b, off, none⟩ ∧ w.cell? ⟨b, off + i, none⟩ = some (.slice (ra i) (ln i) (rc i)) ∧ ∀ j, j < m → ¬ Foot (ra j) (ln j) b (off + i)
  free : ∀ i, i < m → Free w (Foot (ra i) (ln i))
  disj : ∀ i j, i < m → j < m → i ≠ j → ∀ b o, Foot (ra i) (ln i) b o → ¬ Foot (ra j) (ln j) b o
  small : psum ln m ≤ 1099511627776
theorem Sep.keep {w w' : World} {v : Value} {m : Nat} {ra : Nat → Option Addr} {ln rc : Nat → Nat} {R : Nat → Nat → Prop} (h : Sep w v m ra ln rc) (hw : Wrote R w w') (hd : ∀ b o, R b o → ∃ i, i < m ∧ Foot (ra i) (ln i) b o) : Sep w' v m ra ln rc := by
  obtain ⟨⟨a, cap, hv, hm, ho⟩, hf, hdj, hs⟩ := h
  refine ⟨⟨a, cap, hv, hm, fun i hi => ?_⟩, fun i hi => (hf i hi).keep hw, hdj, hs⟩
  obtain ⟨b, off, ha, hc, hn⟩ := ho i hi
  refine ⟨b, off, ha, ?_, hn⟩
  rw [hw.cell b (off + i) (block_lt_of_cell hc) (fun h => by obtain ⟨j, hj, hF⟩ := hd _ _ h; exact hn j hj hF)]
  exact hc
theorem markIntSS (w : World) (v : Value) (m : Nat) (ra : Nat → Option Addr) (ln rc : Nat → Nat) (f : Nat → Nat → Int) (k : Int) (S : Sep w v m ra ln rc) (hr : ∀ i, i < m → RowOf .i64 w (ra i) (ln i) (f i)) (k0 : 0 ≤ k) (k1 : k ≤ 1099511627776) :
    Calls Tryz.prog 43 #[v, .int .i64 k] w fun e w' => e = .returned (.int .i64 (k + psum ln m)) ∧ (∀ i, i < m → RowOf .i64 w' (ra i) (ln i) (fun j => k + psum ln i + j)) ∧ Wrote (fun b o => ∃ i, i < m ∧ Foot (ra i) (ln i) b o) w w' ∧ w'.heap.size = w.heap.size := by
  obtain ⟨a, cap, hv, hm, ho⟩ := S.outer
  have hsm := S.small
  subst hv
  go_enter Tryz.func43, Tryz.ntmps43
  go_wp2
  go_loopw [1, 5] (fun kk i wr => ∃ q : Nat, q ≤ m ∧ i = .int .i64 q ∧ kk = .int .i64 (k + psum ln q) ∧ (∀ i, i < m → RowOf .i64 wr (ra i) (ln i) (fun j => if i < q then k + psum ln i + j else f i j)) ∧ Wrote (fun b o => ∃ i, i < m ∧ Foot (ra i) (ln i) b o) w wr ∧ Hid (wr.heap.size = w.heap.size)) (fun _ i _ => m - (intOf i).toNat)
  case atStart => exact ⟨0, Nat.zero_le _, rfl, by simp [psum], fun i hi => (hr i hi).congr (fun j _ => by simp), Wrote.refl _ _, rfl⟩
  case round =>
    obtain ⟨q, hq, rfl, rfl, hrow, hwr, hsz⟩ := hrel
    have HR := hide hrow
    clear hrow
    by_cases hlt : q < m
    · obtain ⟨b, off, rfl, hcell, hnot⟩ := ho q hlt
      have hc : wr.cell? ⟨b, off + q, none⟩ = some (.slice (ra q) (ln q) (rc q)) := by
        rw [hwr.cell b (off + q) (block_lt_of_cell hcell) (fun h => by obtain ⟨j, hj, hF⟩ := h; exact hnot j hj hF)]
        exact hcell
      have hlt' : (q : Int) < (m : Int) := by omega
      have hp := psum_mono ln (show q + 1 ≤ m from hlt)
      have hp1 : psum ln (q + 1) = psum ln q + ln q := rfl
      have hb1 : k + psum ln q + ln q ≤ 4611686018427387904 := by omega
      have hp0 := hide hp1
      clear hp1 hp
      go_wp2_with fail
      refine (markIntS _ (ra q) (ln q) (rc q) (f q) _ ((unhide HR q hlt).congr (fun j _ => by rw [if_neg (Nat.lt_irrefl q)])) ((S.free q hlt).keep hwr) (by omega) hb1).mono ?_
      rintro e w1 ⟨rfl, hrow1, hw1, hs1⟩
      have H1 := hide hrow1
      have HS := hide hs1
      have HW := hide (hwr.trans (hw1.mono (S := fun b o => ∃ i, i < m ∧ Foot (ra i) (ln i) b o) (fun b o _ h => ⟨q, hlt, h⟩)))
      have HW1 := hide hw1
      clear hrow1 hs1 hw1 hwr
      go_wp2
      go_roundw
      case rel =>
        refine ⟨q + 1, by omega, by go_num, ?_, fun i hi => ?_, unhide HW, (unhide HS).trans hsz.out⟩
        · rw [unhide hp0]; go_num
        · by_cases e : i = q
          · subst e
            exact (unhide H1).congr (fun j _ => by rw [if_pos (by omega)])
          · refine ((unhide HR i hi).keep (unhide HW1) (S.disj i q hi hlt e)).congr (fun j _ => ?_)
            by_cases h2 : i < q
            · rw [if_pos h2, if_pos (by omega)]
            · rw [if_neg h2, if_neg (by omega)]
      case measure => simp [intOf]; omega
    · have hlt' : ¬ (q : Int) < (m : Int) := by omega
      go_wp2
      go_ret
      have ej : q = m := by omega
      subst ej
      exact ⟨rfl, fun i hi => (unhide HR i hi).congr (fun j _ => by rw [if_pos hi]), hwr, hsz⟩
theorem heldIntSS (w : World) (v : Value) (m : Nat) (ra : Nat → Option Addr) (ln rc : Nat → Nat) (k : Int) (S : Sep w v m ra ln rc) (hr : ∀ i, i < m → RowOf .i64 w (ra i) (ln i) (fun j => k + psum ln i + j)) (k0 : 0 ≤ k) (k1 : k ≤ 1099511627776) :
    Calls Tryz.prog 103 #[v, .int .i64 k] w fun e w' => e = .returned (.int .i64 (k + psum ln m)) ∧ w' = w := by
  obtain ⟨a, cap, hv, hm, ho⟩ := S.outer
  have hsm := S.small
  subst hv
  have HR := hide hr
  clear hr
  go_enter Tryz.func103, Tryz.ntmps103
  go_wp2
  go_loop [1, 5] (fun kk i => ∃ q : Nat, q ≤ m ∧ i = .int .i64 q ∧ kk = .int .i64 (k + psum ln q)) (fun _ i => m - (intOf i).toNat)
  case atStart => exact ⟨0, Nat.zero_le _, rfl, by simp [psum]⟩
  case round =>
    obtain ⟨q, hq, rfl, rfl⟩ := hrel
    by_cases hlt : q < m
    · obtain ⟨b, off, rfl, hcell, hnot⟩ := ho q hlt
      have hlt' : (q : Int) < (m : Int) := by omega
      have hp := psum_mono ln (show q + 1 ≤ m from hlt)
      have hp1 : psum ln (q + 1) = psum ln q + ln q := rfl
      have hb1 : k + psum ln q + ln q ≤ 4611686018427387904 := by omega
      have hp0 := hide hp1
      clear hp1 hp
      have hnn : ¬ (k + psum ln q + ln q < 0) := by omega
      go_wp2_with fail
      refine (heldIntS _ (ra q) (ln q) (rc q) _ (unhide HR q hlt) (by omega) hb1).mono ?_
      rintro e w1 ⟨rfl, rfl⟩
      go_wp2
      go_round
      case rel =>
        refine ⟨q + 1, by omega, by go_num, ?_⟩
        rw [unhide hp0]; go_num
      case measure => simp [intOf]; omega
    · have hlt' : ¬ (q : Int) < (m : Int) := by omega
      go_wp2
      go_ret
      have ej : q = m := by omega
      subst ej
      exact ⟨rfl, rfl⟩
end Go.Proofs.YtjcaligejlhjdaaGreat
