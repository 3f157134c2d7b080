/-
  Chapter 6 by its contracts: the mirror of a memory: sizes, copies, comparisons, marks.
-/
import Derived.Test.YtpaedkefmebjjafDoorC5
import Derived.Test.YtpaedkefmebjjafDoorB2
import Derived.Lib.Builder
import Derived.Deep.RegionWith
import Derived.Deep.DeepCutAuto
namespace Go.Proofs.YtpaedkefmebjjafDoor
set_option linter.unusedVariables false
open Go.ChangeShapes Go.WideShapes Go.ChangeAt Go.RowKit
def rgN (a : Int) : Int := if a < 8192 then 1 else if a < 16384 then 2 else if a < 16388 then 3 else if a = 16406 then 4 else if a < 32768 then 7 else if a < 49152 then 5 else 6
def rgP (a : Int) : Int := if a < 8192 then a % 512 else if a < 16384 then a % 8 else if a < 16388 then a % 4 else if a = 16406 then 0 else if a < 32768 then 0 else a % 256
theorem specRegion (w : World) (x : Int) : Calls Tryd.prog 62 #[.int .i64 x] w fun e w' => e = .returned (.tuple #[.int .i64 (rgN (x % 65536)), .int .i64 (rgP (x % 65536))]) ∧ w' = w := by
  have h0 : 0 ≤ x % 65536 := by omega
  have h1 : x % 65536 < 65536 := by omega
  have key : ∀ a : Int, 0 ≤ a → a < 65536 → Hid (rgN a = rgN a) := fun a _ _ => rfl
  generalize hx : x % 65536 = a at *
  have HX := hide hx
  clear hx key
  rcases (by omega : a < 8192 ∨ (8192 ≤ a ∧ a < 16384) ∨ (16384 ≤ a ∧ a < 16388) ∨ a = 16406 ∨ (16388 ≤ a ∧ a < 32768 ∧ a ≠ 16406) ∨ (32768 ≤ a ∧ a < 49152) ∨ 49152 ≤ a) with h | h | h | h | h | h | h
  · have HN : Hid (rgN a = 1 ∧ rgP a = a % 512) := ⟨if_pos h, if_pos h⟩
    go_enter Tryd.func62, Tryd.ntmps62
    go_wp2_with fail
    refine (specAddr _ _).mono ?_
    rintro e w1 ⟨rfl, rfl⟩
    rw [HX.out]
    go_wp2
    go_ret2
    exact ⟨by rw [HN.out.1, HN.out.2]; rfl, rfl⟩
  · have HN : Hid (rgN a = 2 ∧ rgP a = a % 8) := by
      show _ ∧ _
      unfold rgN rgP
      rw [if_neg (by omega), if_pos (by omega), if_neg (by omega), if_pos (by omega)]
      exact ⟨rfl, rfl⟩
    have h2 : ¬ a < 8192 := by omega
    have h3 : a < 16384 := h.2
    go_enter Tryd.func62, Tryd.ntmps62
    go_wp2_with fail
    refine (specAddr _ _).mono ?_
    rintro e w1 ⟨rfl, rfl⟩
    rw [HX.out]
    go_wp2
    go_ret2
    exact ⟨by rw [HN.out.1, HN.out.2]; rfl, rfl⟩
  · have HN : Hid (rgN a = 3 ∧ rgP a = a % 4) := by
      show _ ∧ _
      unfold rgN rgP
      rw [if_neg (by omega), if_neg (by omega), if_pos (by omega), if_neg (by omega), if_neg (by omega), if_pos (by omega)]
      exact ⟨rfl, rfl⟩
    have h2 : ¬ a < 8192 := by omega
    have h3 : ¬ a < 16384 := by omega
    have h4 : a < 16388 := h.2
    go_enter Tryd.func62, Tryd.ntmps62
    go_wp2_with fail
    refine (specAddr _ _).mono ?_
    rintro e w1 ⟨rfl, rfl⟩
    rw [HX.out]
    go_wp2
    go_ret2
    exact ⟨by rw [HN.out.1, HN.out.2]; rfl, rfl⟩
  · have HN : Hid (rgN a = 4 ∧ rgP a = 0) := by
      show _ ∧ _
      subst h
      exact ⟨rfl, rfl⟩
    have h2 : ¬ a < 8192 := by omega
    have h3 : ¬ a < 16384 := by omega
    have h4 : ¬ a < 16388 := by omega
    have h5 : (a == 16406) = true := by simpa using h
    clear h
    go_enter Tryd.func62, Tryd.ntmps62
    go_wp2_with fail
    refine (specAddr _ _).mono ?_
    rintro e w1 ⟨rfl, rfl⟩
    rw [HX.out]
    go_wp2
    go_ret2
    exact ⟨by rw [HN.out.1, HN.out.2]; rfl, rfl⟩
  · have HN : Hid (rgN a = 7 ∧ rgP a = 0) := by
      show _ ∧ _
      unfold rgN rgP
      rw [if_neg (by omega), if_neg (by omega), if_neg (by omega), if_neg (by omega), if_pos (by omega), if_neg (by omega), if_neg (by omega), if_neg (by omega), if_neg (by omega), if_pos (by omega)]
      exact ⟨rfl, rfl⟩
    have h2 : ¬ a < 8192 := by omega
    have h3 : ¬ a < 16384 := by omega
    have h4 : ¬ a < 16388 := by omega
    have h5 : (a == 16406) = false := by simp; omega
    have h6 : a < 32768 := h.2.1
    clear h
    go_enter Tryd.func62, Tryd.ntmps62
    go_wp2_with fail
    refine (specAddr _ _).mono ?_
    rintro e w1 ⟨rfl, rfl⟩
    rw [HX.out]
    go_wp2
    go_ret2
    exact ⟨by rw [HN.out.1, HN.out.2]; rfl, rfl⟩
  · have HN : Hid (rgN a = 5 ∧ rgP a = a % 256) := by
      show _ ∧ _
      unfold rgN rgP
      rw [if_neg (by omega), if_neg (by omega), if_neg (by omega), if_neg (by omega), if_neg (by omega), if_pos (by omega), if_neg (by omega), if_neg (by omega), if_neg (by omega), if_neg (by omega), if_neg (by omega)]
      exact ⟨rfl, rfl⟩
    have h2 : ¬ a < 8192 := by omega
    have h3 : ¬ a < 16384 := by omega
    have h4 : ¬ a < 16388 := by omega
    have h5 : (a == 16406) = false := by simp; omega
    have h6 : ¬ a < 32768 := by omega
    have h7 : a < 49152 := h.2
    clear h
    go_enter Tryd.func62, Tryd.ntmps62
    go_wp2_with fail
    refine (specAddr _ _).mono ?_
    rintro e w1 ⟨rfl, rfl⟩
    rw [HX.out]
    go_wp2
    go_ret2
    exact ⟨by rw [HN.out.1, HN.out.2]; rfl, rfl⟩
  · have HN : Hid (rgN a = 6 ∧ rgP a = a % 256) := by
      show _ ∧ _
      unfold rgN rgP
      rw [if_neg (by omega), if_neg (by omega), if_neg (by omega), if_neg (by omega), if_neg (by omega), if_neg (by omega), if_neg (by omega), if_neg (by omega), if_neg (by omega), if_neg (by omega), if_neg (by omega)]
      exact ⟨rfl, rfl⟩
    have h2 : ¬ a < 8192 := by omega
    have h3 : ¬ a < 16384 := by omega
    have h4 : ¬ a < 16388 := by omega
    have h5 : (a == 16406) = false := by simp; omega
    have h6 : ¬ a < 32768 := by omega
    have h7 : ¬ a < 49152 := by omega
    clear h
    go_enter Tryd.func62, Tryd.ntmps62
    go_wp2_with fail
    refine (specAddr _ _).mono ?_
    rintro e w1 ⟨rfl, rfl⟩
    rw [HX.out]
    go_wp2
    go_ret2
    exact ⟨by rw [HN.out.1, HN.out.2]; rfl, rfl⟩
end Go.Proofs.YtpaedkefmebjjafDoor
