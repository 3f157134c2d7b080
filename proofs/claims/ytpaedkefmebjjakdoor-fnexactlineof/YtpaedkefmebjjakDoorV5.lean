/-
  A line of whatever place, and listings (chapter 4): of the specification and of the program.
-/
import Derived.Test.YtpaedkefmebjjakDoorV4
namespace Go.Proofs.YtpaedkefmebjjakDoor
set_option linter.unusedVariables false
open Go.ChangeShapes Go.WideShapes Go.ChangeAt Go.RowKit
theorem rowOf_of_rowIs {w : World} {g n : Nat} {t : TypeId} {k : IntKind} {f : Nat → Int} (h : w.rowIs g t n (fun j => .int k (f j))) : RowOf k w (some ⟨g, 0, none⟩) n f := fun i hi => ⟨g, 0, rfl, by rw [Nat.zero_add]; exact h.cell hi⟩
def lineNI (n : Nat) (f : Nat → Int) (x : Int) : Int := if 0 ≤ x ∧ x < (n : Int) then lineN n f x.toNat else 0
def lineTI (n : Nat) (f : Nat → Int) (x : Int) : List UInt8 := if 0 ≤ x ∧ x < (n : Int) then lineT n f x.toNat else []
theorem lineN_in (n : Nat) (f : Nat → Int) (k : Nat) : 1 ≤ lineN n f k ∧ lineN n f k ≤ 3 := by
  unfold lineN
  split
  · omega
  · rcases opLens_three (byAt n f k).toNat (by omega) with h | h | h <;> omega
theorem decL_len (n : Nat) (h : n < 100000) : (decL n).length ≤ 5 := by
  unfold decL
  split
  · decide
  · exact dg_len 5 n (by omega)
theorem lineT_len (n : Nat) (f : Nat → Int) (k : Nat) : (lineT n f k).length ≤ 10 := by
  obtain ⟨a0, a1⟩ := byAt_in n f k
  obtain ⟨b0, b1⟩ := byAt_in n f (k + 1)
  obtain ⟨c0, c1⟩ := byAt_in n f (k + 2)
  have h1 := decL_len (byAt n f k).toNat (by omega)
  have h2 := decL_len (byAt n f (k + 1)).toNat (by omega)
  have h3 := decL_len (byAt n f (k + 1) + 256 * byAt n f (k + 2)).toNat (by omega)
  unfold lineT
  split
  · simp; omega
  · rename_i h30
    have h4 : (opText (byAt n f k).toNat).length = 3 := opText_len _ (by omega)
    split
    · omega
    · split <;> simp <;> omega
theorem specLineOfI (w : World) (a : Option Addr) (n cap : Nat) (f : Nat → Int) (x : Int) (H : RowOf .i64 w a n f) (hn : n ≤ 1048576) : Calls Tryd.prog 13 #[.slice a n cap, .int .i64 x] w fun e w' => (∃ s : ByteArray, e = .returned (.tuple #[.string s, .int .i64 (lineNI n f x)]) ∧ s.data.toList = lineTI n f x) ∧ Below w.heap.size w w' := by
  by_cases h : 0 ≤ x ∧ x < (n : Int)
  · obtain ⟨k, rfl⟩ : ∃ k : Nat, x = k := ⟨x.toNat, by omega⟩
    unfold lineNI lineTI
    rw [if_pos h, if_pos h, Int.toNat_natCast]
    exact specLineOf w a n cap f k (by omega) H hn
  · have hin := inB_no (show ¬ ((0 : Int) ≤ x ∧ x ≤ (n : Int) - 1) by omega)
    unfold lineNI lineTI
    rw [if_neg h, if_neg h]
    clear h
    go_enter Tryd.func13, Tryd.ntmps13
    go_wp2_with fail
    refine (l1In _ _ _ _).mono ?_
    rintro e w1 ⟨rfl, rfl⟩
    rw [hin]
    go_wp2
    go_ret2
    exact ⟨⟨_, rfl, rfl⟩, Below.refl _ _⟩
theorem implLineOfI (w : World) (a : Option Addr) (n cap : Nat) (f : Nat → Int) (x : Int) (H : RowOf .i64 w a n f) (hn : n ≤ 1048576) (hT : OpTab w) (hp : Pow w) : Calls Tryd.prog 15 #[.slice a n cap, .int .i64 x] w fun e w' => (∃ s : ByteArray, e = .returned (.tuple #[.string s, .int .i64 (lineNI n f x)]) ∧ s.data.toList = lineTI n f x) ∧ Below w.heap.size w w' := by
  by_cases h : 0 ≤ x ∧ x < (n : Int)
  · obtain ⟨k, rfl⟩ : ∃ k : Nat, x = k := ⟨x.toNat, by omega⟩
    unfold lineNI lineTI
    rw [if_pos h, if_pos h, Int.toNat_natCast]
    exact implLineOf w a n cap f k (by omega) H hn hT hp
  · unfold lineNI lineTI
    rw [if_neg h, if_neg h]
    by_cases h0 : x < 0
    · have h0' : decide (x < 0) = true := decide_eq_true h0
      clear h
      go_enter Tryd.func15, Tryd.ntmps15
      go_wp2
      all_goals first | (exfalso; omega) | skip
      go_ret2
      exact ⟨⟨_, rfl, rfl⟩, Below.refl _ _⟩
    · have h0' : decide (x < 0) = false := decide_eq_false h0
      have h1' : decide ((n : Int) ≤ x) = true := decide_eq_true (by omega)
      clear h
      go_enter Tryd.func15, Tryd.ntmps15
      go_wp2
      all_goals first | (exfalso; omega) | skip
      go_ret2
      exact ⟨⟨_, rfl, rfl⟩, Below.refl _ _⟩
def lst (n : Nat) (f : Nat → Int) : Nat → Int → List UInt8
  | 0, _ => []
  | m + 1, x => if 0 ≤ x ∧ x < (n : Int) then lineT n f x.toNat ++ 10 :: lst n f m (x + lineN n f x.toNat) else []
theorem lst_yes (n : Nat) (f : Nat → Int) (m : Nat) (x : Int) (h : 0 ≤ x ∧ x < (n : Int)) : lst n f (m + 1) x = lineT n f x.toNat ++ 10 :: lst n f m (x + lineN n f x.toNat) := by rw [lst, if_pos h]
theorem lst_no (n : Nat) (f : Nat → Int) (m : Nat) (x : Int) (h : ¬ (0 ≤ x ∧ x < (n : Int))) : lst n f m x = [] := by
  cases m with
  | zero => rfl
  | succ m => rw [lst, if_neg h]
end Go.Proofs.YtpaedkefmebjjakDoor
