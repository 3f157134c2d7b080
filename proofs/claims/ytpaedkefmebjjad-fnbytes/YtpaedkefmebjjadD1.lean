/-
  Contracts of chapter 1's draws: each yields integers of 64 bits, and turns nothing that was there.
-/
import Derived.Test.YtpaedkefmebjjadD
namespace Go.Proofs.Ytpaedkefmebjjad
open Go.ChangeShapes Go.WideShapes Go.ChangeAt Go.RowKit
def picks1 (j : Nat) : Int := [-1, 256, 65535, 65536, 9223372036854775807, -9223372036854775808, 511].getD j 0
theorem picks1_in (j : Nat) : -9223372036854775808 ≤ picks1 j ∧ picks1 j ≤ 9223372036854775807 := by
  unfold picks1
  rcases j with _ | _ | _ | _ | _ | _ | _ | j <;> simp
theorem l1DrawInt (w : World) (B c : Nat) (a : Option Addr) (len cap : Nat) (H : Cur w B c a len cap) (hcw : c < w.heap.size) :
    Calls Try.prog 18 #[.pointer (some ⟨c, 0, none⟩)] w fun e w' => ∃ x : Int, e = .returned (.int .i64 x) ∧ -9223372036854775808 ≤ x ∧ x ≤ 9223372036854775807 ∧ Cur w' B c a len cap ∧ Step c w w' := by
  go_enter Try.func18, Try.ntmps18
  go_wp2_with fail
  refine (l1Once _ B c a len cap H 9).mono ?_
  rintro e w1 ⟨x, rfl, H1, O1⟩
  have hs : c < w1.heap.size := by rw [O1.size]; exact hcw
  cases x
  · go_wp2_with fail
    refine (l1Below _ B c a len cap H1 256).mono ?_
    rintro e w2 ⟨y, rfl, y0, y1, H2, O2⟩
    go_wp2
    go_ret
    exact ⟨y, rfl, by omega, by omega, H2, O1.step.trans O2.step⟩
  · go_wp2_with fail
    refine (l1PickInt _ B c a len cap (H1.alloc _ hs) w1.heap.size 7 (by omega) (by omega) (by omega) picks1 ?_).mono ?_
    · intro j hj
      rw [World.cell?_alloc_new]
      rcases j with _ | _ | _ | _ | _ | _ | _ | j
      · rfl
      · rfl
      · rfl
      · rfl
      · rfl
      · rfl
      · rfl
      · omega
    · rintro e w2 ⟨j, rfl, hj, H2, O2⟩
      have hp := picks1_in j
      go_wp2
      go_ret
      exact ⟨picks1 j, rfl, hp.1, hp.2, H2, (O1.step.alloc _).trans O2.step⟩
theorem drawAdd8 (w : World) (B : Nat) (a : Option Addr) (len cap : Nat) (hB : B ≤ w.heap.size) (H : Code w B a len) :
    Calls Try.prog 5 #[.slice a len cap] w fun e w' => ∃ (x y : Int) (k : Bool), e = .returned (.tuple #[.int .i64 x, .int .i64 y, .bool k]) ∧ Below w.heap.size w w' := by
  go_enter Try.func5, Try.ntmps5
  go_wp2_with fail
  refine (l1New _ B a len cap hB H).mono ?_
  rintro e w1 ⟨rfl, H1, L1, s1⟩
  have hs : w.heap.size < w1.heap.size := by omega
  clear s1
  go_wp2_with fail
  refine (l1DrawInt _ B _ a len cap H1 hs).mono ?_
  rintro e w2 ⟨x, rfl, x0, x1, H2, S2⟩
  have hs2 : w.heap.size < w2.heap.size := Nat.lt_of_lt_of_le hs S2.size
  go_wp2_with fail
  refine (l1DrawInt _ B _ a len cap H2 hs2).mono ?_
  rintro e w3 ⟨y, rfl, y0, y1, H3, S3⟩
  go_wp2_with fail
  refine (l1Once _ B _ a len cap H3 2).mono ?_
  rintro e w4 ⟨k, rfl, H4, O4⟩
  go_wp2
  go_ret3
  exact ⟨x, y, k, rfl, L1.trans (((S2.trans S3).trans O4.step).below (Nat.le_refl _) (by omega))⟩
theorem drawSub8 (w : World) (B : Nat) (a : Option Addr) (len cap : Nat) (hB : B ≤ w.heap.size) (H : Code w B a len) :
    Calls Try.prog 10 #[.slice a len cap] w fun e w' => ∃ (x y : Int) (k : Bool), e = .returned (.tuple #[.int .i64 x, .int .i64 y, .bool k]) ∧ Below w.heap.size w w' := by
  go_enter Try.func10, Try.ntmps10
  go_wp2_with fail
  refine (drawAdd8 _ B a len cap hB H).mono ?_
  rintro e w1 ⟨x, y, k, rfl, L1⟩
  go_wp2
  go_ret3
  exact ⟨x, y, k, rfl, L1⟩
theorem drawSigns (w : World) (B : Nat) (a : Option Addr) (len cap : Nat) (hB : B ≤ w.heap.size) (H : Code w B a len) :
    Calls Try.prog 14 #[.slice a len cap] w fun e w' => ∃ (x : Int), e = .returned (.int .i64 x) ∧ Below w.heap.size w w' := by
  go_enter Try.func14, Try.ntmps14
  go_wp2_with fail
  refine (l1New _ B a len cap hB H).mono ?_
  rintro e w1 ⟨rfl, H1, L1, s1⟩
  have hs : w.heap.size < w1.heap.size := by omega
  clear s1
  go_wp2_with fail
  refine (l1DrawInt _ B _ a len cap H1 hs).mono ?_
  rintro e w2 ⟨x, rfl, x0, x1, H2, S2⟩
  go_wp2
  go_ret
  exact ⟨x, rfl, L1.trans (S2.below (Nat.le_refl _) (by omega))⟩
theorem drawJoin (w : World) (B : Nat) (a : Option Addr) (len cap : Nat) (hB : B ≤ w.heap.size) (H : Code w B a len) :
    Calls Try.prog 12 #[.slice a len cap] w fun e w' => ∃ (x y : Int), e = .returned (.tuple #[.int .i64 x, .int .i64 y]) ∧ Below w.heap.size w w' := by
  go_enter Try.func12, Try.ntmps12
  go_wp2_with fail
  refine (l1New _ B a len cap hB H).mono ?_
  rintro e w1 ⟨rfl, H1, L1, s1⟩
  have hs : w.heap.size < w1.heap.size := by omega
  clear s1
  go_wp2_with fail
  refine (l1DrawInt _ B _ a len cap H1 hs).mono ?_
  rintro e w2 ⟨x, rfl, x0, x1, H2, S2⟩
  have hs2 : w.heap.size < w2.heap.size := Nat.lt_of_lt_of_le hs S2.size
  go_wp2_with fail
  refine (l1DrawInt _ B _ a len cap H2 hs2).mono ?_
  rintro e w3 ⟨y, rfl, y0, y1, H3, S3⟩
  go_wp2
  go_ret2
  exact ⟨x, y, rfl, L1.trans ((S2.trans S3).below (Nat.le_refl _) (by omega))⟩
theorem lawsBig (w : World) (a : Option Addr) (len cap : Nat) :
    Calls Try.prog 4 #[.slice a len cap] w fun e w' => e = .returned (.bool (decide (1048576 < (len : Int)))) ∧ w' = w := by
  go_enter Try.func4, Try.ntmps4
  go_wp2
  go_ret
  exact ⟨rfl, rfl⟩
end Go.Proofs.Ytpaedkefmebjjad
