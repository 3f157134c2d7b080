/-
  The cursor's draws once more: what they write, told as Wrote.
-/
import Derived.Test.YtpaedkefmebjjacD
import Derived.Test.YtpaedkefmebjjacH
namespace Go.Proofs.Ytpaedkefmebjjac
set_option linter.unusedVariables false
open Go.ChangeShapes Go.WideShapes Go.ChangeAt Go.RowKit
/-- Nothing but the cursor's block is written, and no block is made. -/
structure OnlyW (c : Nat) (w w' : World) : Prop where
  wrote : Wrote (fun b _ => b = c) w w'
  size : w'.heap.size = w.heap.size
theorem OnlyW.refl (c : Nat) (w : World) : OnlyW c w w := ⟨Wrote.refl _ _, rfl⟩
theorem OnlyW.trans {c : Nat} {u v w : World} (h : OnlyW c u v) (k : OnlyW c v w) : OnlyW c u w := ⟨h.wrote.trans k.wrote, k.size.trans h.size⟩
theorem OnlyW.drewN {c : Nat} {u w : World} (h : OnlyW c u w) (n : Nat) : OnlyW c u (w.drewN n) := ⟨h.wrote.drewN n, h.size⟩
theorem OnlyW.drew {c : Nat} {u w : World} (h : OnlyW c u w) : OnlyW c u w.drew := ⟨h.wrote.drew, h.size⟩
theorem OnlyW.setCell {c : Nat} {u w : World} (h : OnlyW c u w) {o : Nat} (x : Value) : OnlyW c u (w.setCell ⟨c, o, none⟩ x) := ⟨h.wrote.setCell (fun _ => rfl) x, by simpa [World.setCell] using h.size⟩
theorem OnlyW.only {c : Nat} {w w' : World} (h : OnlyW c w w') : OnlyAt c w w' := ⟨h.wrote.os, h.wrote.tape, h.wrote.output, h.size, fun k hk => by
  rcases Nat.lt_or_ge k w.heap.size with l | l
  · exact h.wrote.block k l (fun _ => hk)
  · rw [Array.getElem?_eq_none l, Array.getElem?_eq_none (by rw [h.size]; exact l)]⟩
theorem OnlyW.step {c : Nat} {w w' : World} (h : OnlyW c w w') : Step c w w' := h.only.step
theorem l1ByteW (w : World) (B c : Nat) (a : Option Addr) (len cap : Nat) (H : Cur w B c a len cap) :
    Calls Try.prog 32 #[.pointer (some ⟨c, 0, none⟩)] w fun e w' => ∃ x : Int, e = .returned (.int .i64 x) ∧ 0 ≤ x ∧ x < 256 ∧ Cur w' B c a len cap ∧ OnlyW c w w' := by
  obtain ⟨up, code, sl, ⟨i, hi, ix⟩, ⟨h, hx⟩, f1, f2⟩ := H
  have h255 := i64_and255
  have hle := code.le
  by_cases hlt : i < len
  · obtain ⟨b, off, rfl, hb, n, hn, n0, n1⟩ := code.at_ i hlt
    have hbc : b ≠ c := by omega
    have hlt' : (i : Int) < (len : Int) := by omega
    go_enter Try.func32, Try.ntmps32
    go_wp2
    go_quiet (fail)
    go_wp2
    go_quiet (fail)
    go_wp2
    go_quiet (fail)
    go_wp2
    go_ret
    exact ⟨_, rfl, by omega, by omega, cur_next up code sl ix hx f1 f2 _ _ hlt, (((OnlyW.refl c w).setCell _).drewN _).setCell _⟩
  · have hlt' : decide ((i : Int) < (len : Int)) = false := by simp; omega
    go_enter Try.func32, Try.ntmps32
    go_wp2
    go_quiet (fail)
    go_wp2
    go_quiet (fail)
    go_wp2
    go_ret
    exact ⟨_, rfl, by omega, by omega, ((cur_set up code sl hi ix hx f1 f2 _).drewN _).drewN _, (((OnlyW.refl c w).setCell _).drewN _).drewN _⟩
theorem l1BelowW (w : World) (B c : Nat) (a : Option Addr) (len cap : Nat) (H : Cur w B c a len cap) (n : Int) :
    Calls Try.prog 20 #[.pointer (some ⟨c, 0, none⟩), .int .i64 n] w fun e w' => ∃ x : Int, e = .returned (.int .i64 x) ∧ 0 ≤ x ∧ (x < n ∨ x = 0) ∧ Cur w' B c a len cap ∧ OnlyW c w w' := by
  by_cases h0 : n ≤ 0
  · go_enter Try.func20, Try.ntmps20
    go_wp2
    go_ret
    exact ⟨0, rfl, by omega, Or.inr rfl, H, OnlyW.refl _ _⟩
  · by_cases h1 : n ≤ 256
    · go_enter Try.func20, Try.ntmps20
      go_wp2_with (go_at_call 32; refine (l1ByteW _ B c a len cap H).mono ?_; rintro e w1 ⟨x, rfl, x0, x1, H1, O1⟩)
      go_ret
      exact ⟨_, rfl, Int.emod_nonneg _ (by omega), Or.inl (Int.emod_lt_of_pos _ (by omega)), H1, O1⟩
    · go_enter Try.func20, Try.ntmps20
      go_wp2_with fail
      refine (l1ByteW _ B c a len cap H).mono ?_
      rintro e w1 ⟨x1, rfl, p1, q1, H1, O1⟩
      go_wp2_with fail
      refine (l1ByteW _ B c a len cap H1).mono ?_
      rintro e w2 ⟨x2, rfl, p2, q2, H2, O2⟩
      go_wp2_with fail
      refine (l1ByteW _ B c a len cap H2).mono ?_
      rintro e w3 ⟨x3, rfl, p3, q3, H3, O3⟩
      go_wp2_with fail
      refine (l1ByteW _ B c a len cap H3).mono ?_
      rintro e w4 ⟨x4, rfl, p4, q4, H4, O4⟩
      go_wp2
      go_ret
      exact ⟨_, rfl, Int.emod_nonneg _ (by omega), Or.inl (Int.emod_lt_of_pos _ (by omega)), H4, ((O1.trans O2).trans O3).trans O4⟩
theorem l1PickIntW (w : World) (B c : Nat) (a : Option Addr) (len cap : Nat) (H : Cur w B c a len cap) (m n : Nat) (hn : 0 < n) (hn' : n ≤ 1048576) (hm : m ≠ c) (zs : Nat → Int) (hz : ∀ j, j < n → w.cell? ⟨m, j, none⟩ = some (.int .i64 (zs j))) :
    Calls Try.prog 19 #[.pointer (some ⟨c, 0, none⟩), .slice (some ⟨m, 0, none⟩) n n] w fun e w' => ∃ j : Nat, e = .returned (.int .i64 (zs j)) ∧ j < n ∧ Cur w' B c a len cap ∧ OnlyW c w w' := by
  go_enter Try.func19, Try.ntmps19
  go_wp2_with fail
  refine (l1BelowW _ B c a len cap H n).mono ?_
  rintro e w1 ⟨x, rfl, x0, x1, H1, O1⟩
  obtain ⟨j, rfl⟩ := Int.eq_ofNat_of_zero_le x0
  have hj : j < n := by omega
  have hj' : (j : Int) < (n : Int) := by omega
  have hc := (O1.only.cell (p := ⟨m, j, none⟩) hm).trans (hz j hj)
  go_wp2
  go_ret
  exact ⟨j, rfl, hj, H1, O1⟩
end Go.Proofs.Ytpaedkefmebjjac
