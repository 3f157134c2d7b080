/-
  The program's chapter 11, by its contracts: the pad; its bits are told by a closure over a byte.
-/
import Derived.Test.YtpaedkefmebjjatPD
import Derived.Test.YtpaedkefmebjjatI9
import Derived.Test.YtpaedkefmebjjatI2
namespace Go.Proofs.Ytpaedkefmebjjat
set_option linter.unusedVariables false
set_option linter.unusedSimpArgs false
open Go.ChangeShapes Go.WideShapes Go.ChangeAt Go.RowKit
theorem okPads_allB {n : Nat} {f : Nat → Int} (h : n ≤ 20) : okPads n f = allB n f := by
  unfold okPads allB
  refine decide_eq_decide.2 ⟨fun x j hj => inB_yes (x.1 j hj), fun x => ⟨fun j hj => ?_, h⟩⟩
  by_cases hc : 0 ≤ f j ∧ f j ≤ 255
  · exact hc
  · have := x j hj
    rw [inB_no hc] at this
    cases this
theorem okPads_long {n : Nat} {f : Nat → Int} (h : ¬ n ≤ 20) : okPads n f = false := decide_eq_false (fun x => h x.2)
theorem implPadsOkS (w : World) (F : Nat → Nat → Prop) (u : Value) (n : Nat) (f : Nat → Int) (H : Ints .i64 w F u n f) :
    Calls Try.prog 45 #[u] w fun e w' => e = .returned (.bool (okPads n f)) ∧ w' = w := by
  have HA := hide (allBytes w F u n f H)
  obtain ⟨a, cap, rfl, hn, hr, -⟩ := H
  clear hr
  by_cases h20 : n ≤ 20
  · have HE := hide (okPads_allB (f := f) h20)
    have h20' : (n : Int) ≤ 20 := by omega
    obtain ⟨ok, hok⟩ : ∃ ok, Hid (ok = allB n f) := ⟨_, rfl⟩
    rw [← hok.out] at HA HE
    go_enter Try.func45, Try.ntmps45
    go_wp2_with fail
    refine (unhide HA).mono ?_
    rintro e w1 ⟨rfl, rfl⟩
    go_wp2
    go_ret
    exact ⟨ret_bool HE.out.symm, rfl⟩
  · have HE := hide (okPads_long (f := f) h20)
    have h20' : ¬ (n : Int) ≤ 20 := by omega
    go_enter Try.func45, Try.ntmps45
    go_wp2
    go_ret
    exact ⟨ret_bool HE.out.symm, rfl⟩
end Go.Proofs.Ytpaedkefmebjjat
