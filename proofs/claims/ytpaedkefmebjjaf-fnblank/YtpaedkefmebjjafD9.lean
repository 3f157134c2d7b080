/-
  Chapter 9's draws: times of whatever value; they turn nothing that was there but the cursor.
-/
import Derived.Test.YtpaedkefmebjjafD1
import Derived.Test.YtpaedkefmebjjafS2
namespace Go.Proofs.Ytpaedkefmebjjaf
set_option linter.unusedVariables false
open Go.ChangeShapes Go.WideShapes Go.ChangeAt Go.RowKit
def pick9 (j : Nat) : Int := [-1, 20000, 20005, -9223372036854775807, 9223372036854775807].getD j 0
theorem pick9_in (j : Nat) : -9223372036854775807 ≤ pick9 j ∧ pick9 j ≤ 9223372036854775807 := by
  unfold pick9
  rcases j with _ | _ | _ | _ | _ | j <;> simp
theorem l9DrawTime (w : World) (B c : Nat) (a : Option Addr) (len cap : Nat) (H : Cur w B c a len cap) (hcw : c < w.heap.size) :
    Calls Try.prog 56 #[.pointer (some ⟨c, 0, none⟩)] w fun e w' => ∃ x : Int, e = .returned (.int .i64 x) ∧ -9223372036854775807 ≤ x ∧ x ≤ 9223372036854775807 ∧ Cur w' B c a len cap ∧ Step c w w' := by
  go_enter Try.func56, Try.ntmps56
  go_wp2_with fail
  refine (l1Once _ B c a len cap H 12).mono ?_
  rintro e w1 ⟨x, rfl, H1, O1⟩
  have hs : c < w1.heap.size := by rw [O1.size]; exact hcw
  cases x
  · go_wp2_with fail
    refine (l1Below _ B c a len cap H1 250).mono ?_
    rintro e w2 ⟨y, rfl, y0, y1, H2, O2⟩
    go_wp2
    go_ret
    exact ⟨y, rfl, by omega, by omega, H2, O1.step.trans O2.step⟩
  · go_wp2_with fail
    refine (l1PickInt _ B c a len cap (H1.alloc _ hs) w1.heap.size 5 (by omega) (by omega) (by omega) pick9 ?_).mono ?_
    · intro j hj
      rw [World.cell?_alloc_new]
      rcases j with _ | _ | _ | _ | _ | j <;> first | rfl | omega
    · rintro e w2 ⟨j, rfl, hj, H2, O2⟩
      have hp := pick9_in j
      go_wp2
      go_ret
      exact ⟨pick9 j, rfl, hp.1, hp.2, H2, (O1.step.alloc _).trans O2.step⟩
theorem drawFrameOf (w : World) (B : Nat) (a : Option Addr) (len cap : Nat) (hB : B ≤ w.heap.size) (H : Code w B a len) :
    Calls Try.prog 29 #[.slice a len cap] w fun e w' => ∃ x : Int, e = .returned (.int .i64 x) ∧ x ≤ 9223372036854775807 ∧ Below w.heap.size w w' := by
  go_enter Try.func29, Try.ntmps29
  go_wp2_with fail
  refine (l1New _ B a len cap hB H).mono ?_
  rintro e w1 ⟨rfl, H1, L1, s1⟩
  have hs : w.heap.size < w1.heap.size := by omega
  clear s1
  go_wp2_with fail
  refine (l9DrawTime _ B _ a len cap H1 hs).mono ?_
  rintro e w2 ⟨x, rfl, x0, x1, H2, S2⟩
  go_wp2
  go_ret
  exact ⟨x, rfl, x1, L1.trans (S2.below (Nat.le_refl _) (by omega))⟩
theorem drawBlankIn (w : World) (B : Nat) (a : Option Addr) (len cap : Nat) (hB : B ≤ w.heap.size) (H : Code w B a len) :
    Calls Try.prog 24 #[.slice a len cap] w fun e w' => ∃ x y : Int, e = .returned (.tuple #[.int .i64 x, .int .i64 y]) ∧ Below w.heap.size w w' := by
  go_enter Try.func24, Try.ntmps24
  go_wp2_with fail
  refine (l1New _ B a len cap hB H).mono ?_
  rintro e w1 ⟨rfl, H1, L1, s1⟩
  have hs : w.heap.size < w1.heap.size := by omega
  clear s1
  go_wp2_with fail
  refine (l9DrawTime _ B _ a len cap H1 hs).mono ?_
  rintro e w2 ⟨x, rfl, x0, x1, H2, S2⟩
  have hs2 : w.heap.size < w2.heap.size := Nat.lt_of_lt_of_le hs S2.size
  go_wp2_with fail
  refine (l1Once _ B _ a len cap H2 2).mono ?_
  rintro e w3 ⟨k, rfl, H3, O3⟩
  have hs3 : w.heap.size < w3.heap.size := by rw [O3.size]; exact hs2
  have C3 := S2.trans O3.step
  clear S2 O3 H2
  have HI := hide (fun W => l1In x 0 1000 W)
  obtain ⟨i, hi⟩ : ∃ i, Hid (i = inB x 0 1000) := ⟨_, rfl⟩
  rw [← hi.out] at HI
  cases k
  · go_wp2_with fail
    refine (l9DrawTime _ B _ a len cap H3 hs3).mono ?_
    rintro e w4 ⟨y, rfl, y0, y1, H4, S4⟩
    go_wp2
    go_ret2
    exact ⟨x, y, rfl, L1.trans ((C3.trans S4).below (Nat.le_refl _) (by omega))⟩
  · go_wp2_with fail
    refine (unhide HI _).mono ?_
    rintro e w3' ⟨rfl, rfl⟩
    cases i
    · go_wp2_with fail
      refine (l9DrawTime _ B _ a len cap H3 hs3).mono ?_
      rintro e w4 ⟨y, rfl, y0, y1, H4, S4⟩
      go_wp2
      go_ret2
      exact ⟨x, y, rfl, L1.trans ((C3.trans S4).below (Nat.le_refl _) (by omega))⟩
    · go_wp2_with fail
      refine (l1Below _ B _ a len cap H3 20).mono ?_
      rintro e w4 ⟨y, rfl, y0, y1, H4, O4⟩
      go_wp2
      go_ret2
      exact ⟨x, _, rfl, L1.trans ((C3.trans O4.step).below (Nat.le_refl _) (by omega))⟩
theorem drawBeatIn (w : World) (B : Nat) (a : Option Addr) (len cap : Nat) (hB : B ≤ w.heap.size) (H : Code w B a len) :
    Calls Try.prog 30 #[.slice a len cap] w fun e w' => ∃ x y : Int, e = .returned (.tuple #[.int .i64 x, .int .i64 y]) ∧ Below w.heap.size w w' := by
  go_enter Try.func30, Try.ntmps30
  go_wp2_with fail
  refine (drawBlankIn _ B a len cap hB H).mono ?_
  rintro e w1 ⟨x, y, rfl, L1⟩
  go_wp2
  go_ret2
  exact ⟨x, y, rfl, L1⟩
end Go.Proofs.Ytpaedkefmebjjaf
