/-
  A line of whatever place, and listings (chapter 4): of the specification and of the program.
-/
import Derived.Test.YtpaedkefmebjjalDoorV4
namespace Go.Proofs.YtpaedkefmebjjalDoor
set_option linter.unusedVariables false
open Go.ChangeShapes Go.WideShapes Go.ChangeAt Go.RowKit
theorem rowOf_of_rowIs {w : World} {g n : Nat} {t : TypeId} {k : IntKind} {f : Nat → Int} (h : w.rowIs g t n (fun j => .int k (f j))) : RowOf k w (some ⟨g, 0, none⟩) n f := fun i hi => ⟨g, 0, rfl, by rw [Nat.zero_add]; exact h.cell hi⟩
def lineNI (n : Nat) (f : Nat → Int) (x : Int) : Int := if 0 ≤ x ∧ x < (n : Int) then lineN n f x.toNat else 0
def lineTI (n : Nat) (f : Nat → Int) (x : Int) : List UInt8 := if 0 ≤ x ∧ x < (n : Int) then lineT n f x.toNat else []
theorem lineN_in (n : Nat) (f : Nat → Int) (k : Nat) : 1 ≤ lineN n f k ∧ lineN n f k ≤ 3 := by
  unfold lineN
  split
  · omega
  · rcases opLens_three (byAt n f k).toNat (by omega) with h | h | h <;> omega
theorem decL_len (n : Nat) (h : n < 100000) : (decL n).length ≤ 5 := by
  unfold decL
  split
  · decide
  · exact dg_len 5 n (by omega)
theorem lineT_len (n : Nat) (f : Nat → Int) (k : Nat) : (lineT n f k).length ≤ 10 := by
  obtain ⟨a0, a1⟩ := byAt_in n f k
  obtain ⟨b0, b1⟩ := byAt_in n f (k + 1)
  obtain ⟨c0, c1⟩ := byAt_in n f (k + 2)
  have h1 := decL_len (byAt n f k).toNat (by omega)
  have h2 := decL_len (byAt n f (k + 1)).toNat (by omega)
  have h3 := decL_len (byAt n f (k + 1) + 256 * byAt n f (k + 2)).toNat (by omega)
  unfold lineT
  split
  · simp; omega
  · rename_i h30
    have h4 : (opText (byAt n f k).toNat).length = 3 := opText_len _ (by omega)
    split
    · omega
    · split <;> simp <;> omega
theorem specLineOfI (w : World) (a : Option Addr) (n cap : Nat) (f : Nat → Int) (x : Int) (H : RowOf .i64 w a n f) (hn : n ≤ 1048576) : Calls Tryd.prog 9 #[.slice a n cap, .int .i64 x] w fun e w' => (∃ s : ByteArray, e = .returned (.tuple #[.string s, .int .i64 (lineNI n f x)]) ∧ s.data.toList = lineTI n f x) ∧ Below w.heap.size w w' := by
  by_cases h : 0 ≤ x ∧ x < (n : Int)
  · obtain ⟨k, rfl⟩ : ∃ k : Nat, x = k := ⟨x.toNat, by omega⟩
    unfold lineNI lineTI
    rw [if_pos h, if_pos h, Int.toNat_natCast]
    exact specLineOf w a n cap f k (by omega) H hn
  · have hin := inB_no (show ¬ ((0 : Int) ≤ x ∧ x ≤ (n : Int) - 1) by omega)
    unfold lineNI lineTI
    rw [if_neg h, if_neg h]
    clear h
    go_enter Tryd.func9, Tryd.ntmps9
    go_wp2_with fail
    refine (l1In _ _ _ _).mono ?_
    rintro e w1 ⟨rfl, rfl⟩
    rw [hin]
    go_wp2
    go_ret2
    exact ⟨⟨_, rfl, rfl⟩, Below.refl _ _⟩
theorem implLineOfI (w : World) (a : Option Addr) (n cap : Nat) (f : Nat → Int) (x : Int) (H : RowOf .i64 w a n f) (hn : n ≤ 1048576) (hT : OpTab w) (hp : Pow w) : Calls Tryd.prog 10 #[.slice a n cap, .int .i64 x] w fun e w' => (∃ s : ByteArray, e = .returned (.tuple #[.string s, .int .i64 (lineNI n f x)]) ∧ s.data.toList = lineTI n f x) ∧ Below w.heap.size w w' := by
  by_cases h : 0 ≤ x ∧ x < (n : Int)
  · obtain ⟨k, rfl⟩ : ∃ k : Nat, x = k := ⟨x.toNat, by omega⟩
    unfold lineNI lineTI
    rw [if_pos h, if_pos h, Int.toNat_natCast]
    exact implLineOf w a n cap f k (by omega) H hn hT hp
  · unfold lineNI lineTI
    rw [if_neg h, if_neg h]
    by_cases h0 : x < 0
    · have h0' : decide (x < 0) = true := decide_eq_true h0
      clear h
      go_enter Tryd.func10, Tryd.ntmps10
      go_wp2
      all_goals first | (exfalso; omega) | skip
      go_ret2
      exact ⟨⟨_, rfl, rfl⟩, Below.refl _ _⟩
    · have h0' : decide (x < 0) = false := decide_eq_false h0
      have h1' : decide ((n : Int) ≤ x) = true := decide_eq_true (by omega)
      clear h
      go_enter Tryd.func10, Tryd.ntmps10
      go_wp2
      all_goals first | (exfalso; omega) | skip
      go_ret2
      exact ⟨⟨_, rfl, rfl⟩, Below.refl _ _⟩
def lst (n : Nat) (f : Nat → Int) : Nat → Int → List UInt8
  | 0, _ => []
  | m + 1, x => if 0 ≤ x ∧ x < (n : Int) then lineT n f x.toNat ++ 10 :: lst n f m (x + lineN n f x.toNat) else []
theorem lst_yes (n : Nat) (f : Nat → Int) (m : Nat) (x : Int) (h : 0 ≤ x ∧ x < (n : Int)) : lst n f (m + 1) x = lineT n f x.toNat ++ 10 :: lst n f m (x + lineN n f x.toNat) := by rw [lst, if_pos h]
theorem lst_no (n : Nat) (f : Nat → Int) (m : Nat) (x : Int) (h : ¬ (0 ≤ x ∧ x < (n : Int))) : lst n f m x = [] := by
  cases m with
  | zero => rfl
  | succ m => rw [lst, if_neg h]
set_option maxRecDepth 20000 in
set_option maxHeartbeats 2000000 in
theorem specListing (w : World) (a : Option Addr) (n cap : Nat) (f : Nat → Int) (x many : Int) (H : RowOf .i64 w a n f) (hn : n ≤ 1048576) : Calls Tryd.prog 4 #[.slice a n cap, .int .i64 x, .int .i64 many] w fun e w' => (∃ s : ByteArray, e = .returned (.string s) ∧ s.data.toList = lst n f (min many 256).toNat x) ∧ Below w.heap.size w w' := by
  obtain ⟨M, hM⟩ : ∃ M : Nat, M = (min many 256).toNat := ⟨_, rfl⟩
  have hM256 : M ≤ 256 := by omega
  have HMM : Hid (M = (min many 256).toNat) := hM
  rw [← hM]
  clear hM
  go_enter Tryd.func4, Tryd.ntmps4
  go_wp2_with fail
  go_loopw [1, 7, 8] (fun fx ox ix wr => ∃ (i : Nat) (y : Int) (s : ByteArray), i ≤ M ∧ fx = .int .i64 y ∧ ox = .string s ∧ ix = .int .i64 i ∧ Hid (s.data.toList ++ lst n f (M - i) y = lst n f M x) ∧ Hid (s.size ≤ 11 * i) ∧ Below w.heap.size w wr) (fun _ _ ix _ => M - (intOf ix).toNat)
  case atStart => exact ⟨0, x, _, Nat.zero_le _, rfl, rfl, rfl, by show [] ++ _ = _; simp, by show (0 : Nat) ≤ _; omega, Below.refl _ _⟩
  case round =>
    obtain ⟨i, y, s, hi, rfl, rfl, rfl, HS, HZ, hbel⟩ := hrel
    by_cases hlt : i < M
    · have hlt' : (i : Int) < min many 256 := by have := HMM.out; omega
      have HR := H.keep (wrote_below hbel Nowhere) (fun _ _ _ x => x)
      have hz := HZ.out
      go_wp2_with fail
      refine (l1Min _ _ _).mono ?_
      rintro e w1 ⟨rfl, rfl⟩
      generalize hm : min many 256 = mm at *
      have HMm := hide hm
      clear hm
      go_wp2_with fail
      refine (specLineOfI _ a n cap f y HR hn).mono ?_
      rintro e w2 ⟨⟨l, rfl, hl⟩, L2⟩
      have C2 := hbel.trans (L2.mono hbel.size)
      by_cases hy : 0 ≤ y ∧ y < (n : Int)
      · obtain ⟨k, rfl⟩ : ∃ k : Nat, y = k := ⟨y.toNat, by omega⟩
        have e1 : lineNI n f k = lineN n f k := by unfold lineNI; rw [if_pos hy, Int.toNat_natCast]
        have e2 : lineTI n f k = lineT n f k := by unfold lineTI; rw [if_pos hy, Int.toNat_natCast]
        rw [e1]
        rw [e2] at hl
        obtain ⟨n1, n3⟩ := lineN_in n f k
        have hll : l.size ≤ 10 := by have := lineT_len n f k; rw [← hl] at this; exact this
        have HS2 : Hid ((s ++ l ++ ⟨#[10]⟩).data.toList ++ lst n f (M - (i + 1)) (k + lineN n f k) = lst n f M x) := by
          show _ = _
          rw [← HS.out, show M - i = (M - (i + 1)) + 1 by omega, lst_yes n f _ k hy, Int.toNat_natCast, ← hl]
          simp
        generalize lineN n f k = N at *
        have hN0 : (N == 0) = false := by simp; omega
        clear hl e1 e2
        go_wp2
        go_roundw
        case rel => exact ⟨i + 1, _, _, by omega, rfl, rfl, by go_num, HS2, by show (s ++ l ++ ⟨#[10]⟩ : ByteArray).size ≤ _; have : (⟨#[10]⟩ : ByteArray).size = 1 := rfl; simp only [ByteArray.size_append]; omega, C2⟩
        case measure => simp [intOf]; omega
      · have e1 : lineNI n f y = 0 := by unfold lineNI; rw [if_neg hy]
        rw [e1]
        have HE : Hid (s.data.toList = lst n f M x) := by
          show _ = _
          rw [← HS.out, lst_no n f _ y hy]
          simp
        clear hl hy e1
        go_wp2
        go_ret
        exact ⟨⟨_, rfl, HE.out⟩, C2⟩
    · have hlt' : ¬ (i : Int) < min many 256 := by have := HMM.out; omega
      have e : i = M := by omega
      subst e
      have HE : Hid (s.data.toList = lst n f i x) := by
        show _ = _
        rw [← HS.out, Nat.sub_self]
        simp [lst]
      go_wp2_with fail
      refine (l1Min _ _ _).mono ?_
      rintro e w1 ⟨rfl, rfl⟩
      generalize min many 256 = mm at *
      go_wp2
      go_ret
      exact ⟨⟨_, rfl, HE.out⟩, hbel⟩
end Go.Proofs.YtpaedkefmebjjalDoor
