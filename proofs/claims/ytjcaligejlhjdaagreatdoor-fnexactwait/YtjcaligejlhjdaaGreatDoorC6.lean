/-
  Chapter 6 by its contracts: the mirror of a memory: sizes, copies, comparisons, marks.
-/
import Derived.Test.YtjcaligejlhjdaaGreatDoorC5
import Derived.Test.YtjcaligejlhjdaaGreatDoorO
import Derived.Lib.Builder
import Derived.Deep.RegionWith
import Derived.Deep.DeepCutAuto
namespace Go.Proofs.YtjcaligejlhjdaaGreatDoor
set_option linter.unusedVariables false
open Go.ChangeShapes Go.WideShapes Go.ChangeAt Go.RowKit
theorem szMem (w : World) (a : Option Addr) (n cap : Nat) (bank left : Int) (h1 : n ≤ 9223372036854775807) (h0 : 0 ≤ left) (h2 : left ≤ 1048576) :
    Calls Tryz.prog 11 #[.agg #[.slice a n cap, .int .i64 bank], .int .i64 left] w fun e w' => e = .returned (.int .i64 (szOut left n)) ∧ Below w.heap.size w w' := by
  have L0 : ∀ o, Below w.heap.size w (w.alloc o) := fun o => (Below.refl _ _).alloc (Nat.le_refl _) _
  by_cases h : left < n
  · have HS := hide (szOut_no h)
    go_enter Tryz.func11, Tryz.ntmps11
    go_wp2_with fail
    refine (szIntS _ _ _ _ _ h1 h0 h2).mono ?_
    rintro e w1 ⟨rfl, rfl⟩
    rw [HS.out]
    go_wp2
    go_ret
    exact ⟨ret_int HS.out.symm, L0 _⟩
  · have HS := hide (szOut_ok (show (n : Int) ≤ left by omega))
    have hn : ¬ (left - (n : Int) < 0) := by omega
    go_enter Tryz.func11, Tryz.ntmps11
    go_wp2_with fail
    refine (szIntS _ _ _ _ _ h1 h0 h2).mono ?_
    rintro e w1 ⟨rfl, rfl⟩
    rw [HS.out]
    go_wp2
    go_ret
    exact ⟨ret_int HS.out.symm, L0 _⟩
theorem toMem (w : World) (F : Nat → Nat → Prop) (v : Value) (n : Nat) (f : Nat → Int) (bank : Int) (H : Ints .i64 w F v n f) :
    Calls Tryz.prog 18 #[.agg #[v, .int .i64 bank]] w fun e w' => ∃ p, w.heap.size ≤ p ∧ e = .returned (.agg #[.slice (some ⟨p, 0, none⟩) n n, .int .i64 bank]) ∧ w'.rowIs p 3 n (fun i => .int .i64 (f i)) ∧ Below w.heap.size w w' := by
  go_enter Tryz.func18, Tryz.ntmps18
  have L0 : Below w.heap.size w (((w.alloc (.cells #[v, .int .i64 bank] 27)).alloc (.cells #[.slice none 0 0, .int .i64 0] 48)).alloc (.cells #[.slice none 0 0, .int .i64 0] 48)) := (((Below.refl _ _).alloc (Nat.le_refl _) _).alloc (by simp) _).alloc (by simp; omega) _
  go_wp2_with fail
  refine (toIntS _ F v n f (H.keep (wrote_below L0 Nowhere) (fun _ _ _ x => x))).mono ?_
  rintro e w1 ⟨rfl, hrow, hsz, hbel⟩
  have c0 : w1.cell? ⟨w.heap.size, 1, none⟩ = some (.int .i64 bank) := (hbel.cell (by simp; omega)).trans (by go_simp)
  have c1 : w1.cell? ⟨w.heap.size + 1, 0, none⟩ = some (.slice none 0 0) := (hbel.cell (by simp)).trans (by go_simp)
  have c2 : w1.cell? ⟨w.heap.size + 1 + 1, 0, none⟩ = some (.slice none 0 0) := (hbel.cell (by simp)).trans (by go_simp)
  have c3 : w1.cell? ⟨w.heap.size + 1, 1, none⟩ = some (.int .i64 0) := (hbel.cell (by simp)).trans (by go_simp)
  have c4 : w1.cell? ⟨w.heap.size + 1 + 1, 1, none⟩ = some (.int .i64 0) := (hbel.cell (by simp)).trans (by go_simp)
  have f1 : ∀ j, w1.frozen? ⟨w.heap.size + 1, j, none⟩ = false := fun j => (hbel.frozen (by simp)).trans (by go_simp)
  have f2 : ∀ j, w1.frozen? ⟨w.heap.size + 1 + 1, j, none⟩ = false := fun j => (hbel.frozen (by simp)).trans (by go_simp)
  have hbs : (((w.alloc (.cells #[v, .int .i64 bank] 27)).alloc (.cells #[.slice none 0 0, .int .i64 0] 48)).alloc (.cells #[.slice none 0 0, .int .i64 0] 48)).heap.size = w.heap.size + 3 := by simp
  rw [hbs] at hrow hsz hbel
  rw [hbs]
  have HR := hide hrow
  clear hrow hsz
  go_wp2
  refine bodyPost_ret (v := .agg #[.slice (some ⟨w.heap.size + 3, 0, none⟩) n n, .int .i64 bank]) (by simp [results, Tryz.results18, go_sem, c1, c3]) rfl ⟨w.heap.size + 3, by omega, rfl, ?_, ?_⟩
  · exact ((((unhide HR).setOther (by simp) _).setOther (by simp) _).setOther (by simp) _).setOther (by simp) _
  · exact ((((L0.trans (hbel.mono (by omega))).setCell (by simp; omega) _).setCell (by simp; omega) _).setCell (by simp) _).setCell (by simp) _
theorem eqMem_same (w : World) (F G : Nat → Nat → Prop) (v u : Value) (n : Nat) (f : Nat → Int) (bank : Int) (H : Ints .i64 w F v n f) (H' : Ints .i64 w G u n f) :
    Calls Tryz.prog 28 #[.agg #[v, .int .i64 bank], .agg #[u, .int .i64 bank]] w fun e w' => e = .returned (.bool true) ∧ Below w.heap.size w w' := by
  have L0 : Below w.heap.size w ((w.alloc (.cells #[v, .int .i64 bank] 48)).alloc (.cells #[u, .int .i64 bank] 48)) := ((Below.refl _ _).alloc (Nat.le_refl _) _).alloc (by simp) _
  go_enter Tryz.func28, Tryz.ntmps28
  go_wp2_with fail
  refine (eqIntS _ F G _ _ n n f f (H.keep (wrote_below L0 Nowhere) (fun _ _ _ x => x)) (H'.keep (wrote_below L0 Nowhere) (fun _ _ _ x => x))).mono ?_
  rintro e w1 ⟨rfl, d, rfl⟩
  rw [eqInts_refl]
  go_wp2
  go_ret
  exact ⟨rfl, L0.trans ⟨rfl, rfl, rfl, Nat.le_refl _, fun _ _ => rfl⟩⟩
def rgN (a : Int) : Int := if a < 8192 then 1 else if a < 16384 then 2 else if a < 16388 then 3 else if a = 16406 then 4 else if a < 32768 then 7 else if a < 49152 then 5 else 6
def rgP (a : Int) : Int := if a < 8192 then a % 512 else if a < 16384 then a % 8 else if a < 16388 then a % 4 else if a = 16406 then 0 else if a < 32768 then 0 else a % 256
theorem specRegion (w : World) (x : Int) : Calls Tryz.prog 50 #[.int .i64 x] w fun e w' => e = .returned (.tuple #[.int .i64 (rgN (x % 65536)), .int .i64 (rgP (x % 65536))]) ∧ w' = w := by
  have h0 : 0 ≤ x % 65536 := by omega
  have h1 : x % 65536 < 65536 := by omega
  have key : ∀ a : Int, 0 ≤ a → a < 65536 → Hid (rgN a = rgN a) := fun a _ _ => rfl
  generalize hx : x % 65536 = a at *
  have HX := hide hx
  clear hx key
  rcases (by omega : a < 8192 ∨ (8192 ≤ a ∧ a < 16384) ∨ (16384 ≤ a ∧ a < 16388) ∨ a = 16406 ∨ (16388 ≤ a ∧ a < 32768 ∧ a ≠ 16406) ∨ (32768 ≤ a ∧ a < 49152) ∨ 49152 ≤ a) with h | h | h | h | h | h | h
  · have HN : Hid (rgN a = 1 ∧ rgP a = a % 512) := ⟨if_pos h, if_pos h⟩
    go_enter Tryz.func50, Tryz.ntmps50
    go_wp2_with fail
    refine (specAddr _ _).mono ?_
    rintro e w1 ⟨rfl, rfl⟩
    rw [HX.out]
    go_wp2
    go_ret2
    exact ⟨by rw [HN.out.1, HN.out.2]; rfl, rfl⟩
  · have HN : Hid (rgN a = 2 ∧ rgP a = a % 8) := by
      show _ ∧ _
      unfold rgN rgP
      rw [if_neg (by omega), if_pos (by omega), if_neg (by omega), if_pos (by omega)]
      exact ⟨rfl, rfl⟩
    have h2 : ¬ a < 8192 := by omega
    have h3 : a < 16384 := h.2
    go_enter Tryz.func50, Tryz.ntmps50
    go_wp2_with fail
    refine (specAddr _ _).mono ?_
    rintro e w1 ⟨rfl, rfl⟩
    rw [HX.out]
    go_wp2
    go_ret2
    exact ⟨by rw [HN.out.1, HN.out.2]; rfl, rfl⟩
  · have HN : Hid (rgN a = 3 ∧ rgP a = a % 4) := by
      show _ ∧ _
      unfold rgN rgP
      rw [if_neg (by omega), if_neg (by omega), if_pos (by omega), if_neg (by omega), if_neg (by omega), if_pos (by omega)]
      exact ⟨rfl, rfl⟩
    have h2 : ¬ a < 8192 := by omega
    have h3 : ¬ a < 16384 := by omega
    have h4 : a < 16388 := h.2
    go_enter Tryz.func50, Tryz.ntmps50
    go_wp2_with fail
    refine (specAddr _ _).mono ?_
    rintro e w1 ⟨rfl, rfl⟩
    rw [HX.out]
    go_wp2
    go_ret2
    exact ⟨by rw [HN.out.1, HN.out.2]; rfl, rfl⟩
  · have HN : Hid (rgN a = 4 ∧ rgP a = 0) := by
      show _ ∧ _
      subst h
      exact ⟨rfl, rfl⟩
    have h2 : ¬ a < 8192 := by omega
    have h3 : ¬ a < 16384 := by omega
    have h4 : ¬ a < 16388 := by omega
    have h5 : (a == 16406) = true := by simpa using h
    clear h
    go_enter Tryz.func50, Tryz.ntmps50
    go_wp2_with fail
    refine (specAddr _ _).mono ?_
    rintro e w1 ⟨rfl, rfl⟩
    rw [HX.out]
    go_wp2
    go_ret2
    exact ⟨by rw [HN.out.1, HN.out.2]; rfl, rfl⟩
  · have HN : Hid (rgN a = 7 ∧ rgP a = 0) := by
      show _ ∧ _
      unfold rgN rgP
      rw [if_neg (by omega), if_neg (by omega), if_neg (by omega), if_neg (by omega), if_pos (by omega), if_neg (by omega), if_neg (by omega), if_neg (by omega), if_neg (by omega), if_pos (by omega)]
      exact ⟨rfl, rfl⟩
    have h2 : ¬ a < 8192 := by omega
    have h3 : ¬ a < 16384 := by omega
    have h4 : ¬ a < 16388 := by omega
    have h5 : (a == 16406) = false := by simp; omega
    have h6 : a < 32768 := h.2.1
    clear h
    go_enter Tryz.func50, Tryz.ntmps50
    go_wp2_with fail
    refine (specAddr _ _).mono ?_
    rintro e w1 ⟨rfl, rfl⟩
    rw [HX.out]
    go_wp2
    go_ret2
    exact ⟨by rw [HN.out.1, HN.out.2]; rfl, rfl⟩
  · have HN : Hid (rgN a = 5 ∧ rgP a = a % 256) := by
      show _ ∧ _
      unfold rgN rgP
      rw [if_neg (by omega), if_neg (by omega), if_neg (by omega), if_neg (by omega), if_neg (by omega), if_pos (by omega), if_neg (by omega), if_neg (by omega), if_neg (by omega), if_neg (by omega), if_neg (by omega)]
      exact ⟨rfl, rfl⟩
    have h2 : ¬ a < 8192 := by omega
    have h3 : ¬ a < 16384 := by omega
    have h4 : ¬ a < 16388 := by omega
    have h5 : (a == 16406) = false := by simp; omega
    have h6 : ¬ a < 32768 := by omega
    have h7 : a < 49152 := h.2
    clear h
    go_enter Tryz.func50, Tryz.ntmps50
    go_wp2_with fail
    refine (specAddr _ _).mono ?_
    rintro e w1 ⟨rfl, rfl⟩
    rw [HX.out]
    go_wp2
    go_ret2
    exact ⟨by rw [HN.out.1, HN.out.2]; rfl, rfl⟩
  · have HN : Hid (rgN a = 6 ∧ rgP a = a % 256) := by
      show _ ∧ _
      unfold rgN rgP
      rw [if_neg (by omega), if_neg (by omega), if_neg (by omega), if_neg (by omega), if_neg (by omega), if_neg (by omega), if_neg (by omega), if_neg (by omega), if_neg (by omega), if_neg (by omega), if_neg (by omega)]
      exact ⟨rfl, rfl⟩
    have h2 : ¬ a < 8192 := by omega
    have h3 : ¬ a < 16384 := by omega
    have h4 : ¬ a < 16388 := by omega
    have h5 : (a == 16406) = false := by simp; omega
    have h6 : ¬ a < 32768 := by omega
    have h7 : ¬ a < 49152 := by omega
    clear h
    go_enter Tryz.func50, Tryz.ntmps50
    go_wp2_with fail
    refine (specAddr _ _).mono ?_
    rintro e w1 ⟨rfl, rfl⟩
    rw [HX.out]
    go_wp2
    go_ret2
    exact ⟨by rw [HN.out.1, HN.out.2]; rfl, rfl⟩
end Go.Proofs.YtjcaligejlhjdaaGreatDoor
