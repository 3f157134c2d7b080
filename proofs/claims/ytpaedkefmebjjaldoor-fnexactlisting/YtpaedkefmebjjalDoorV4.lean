/-
  The program's lines (chapter 4), by their contracts: numbers in digits by the library, a byte at a place, a line.
-/
import Derived.Test.YtpaedkefmebjjalDoorU4
import Derived.Test.YtpaedkefmebjjalDoorT3
import Derived.Test.YtpaedkefmebjjalDoorShelf
import Derived.Lib.AppendIntMem
namespace Go.Proofs.YtpaedkefmebjjalDoor
set_option linter.unusedVariables false
open Go.ChangeShapes Go.WideShapes Go.ChangeAt Go.RowKit
/-- The library's table of powers of ten stands as its text lays it. -/
def Pow (w : World) : Prop := Lib.TabIs Tryd.prog w "internal/strconv.uint64pow10" .u64 Lib.pow10Tab
theorem Pow.mono {w w' : World} (h : Pow w) (hb : Below w.heap.size w w') : Pow w' := Lib.tabBelow_of_tabIs h w' hb
theorem decDigits_eq (n : Nat) : Lib.decDigits n = decL n := by
  induction n using Nat.strongRecOn with
  | _ n ih =>
    rw [Lib.decDigits]
    by_cases h : n < 10
    · rw [dif_pos h]
      unfold decL
      by_cases h0 : n = 0
      · subst h0; rfl
      · rw [if_neg h0, dg_step (by omega), show n / 10 = 0 by omega, dg_zero]
        show _ = [] ++ [UInt8.ofNat (48 + n % 10)]
        rw [Nat.mod_eq_of_lt h]
        rfl
    · rw [dif_neg h, ih (n / 10) (by omega)]
      unfold decL
      rw [if_neg (show ¬ n = 0 by omega), if_neg (show ¬ n / 10 = 0 by omega), dg_step (show 0 < n by omega)]
      rfl
theorem itoa_eq (n : Nat) : Lib.itoa (n : Int) = decL n := by
  unfold Lib.itoa
  rw [if_neg (by omega), Int.toNat_natCast]
  exact decDigits_eq n
theorem implItoa (w : World) (n : Nat) (hn : n ≤ 65535) (hp : Pow w) : Calls Tryd.prog 23 #[.int .i64 n] w fun e w' => (∃ s : ByteArray, e = .returned (.string s) ∧ s.data.toList = decL n) ∧ Below w.heap.size w w' := by
  refine (Tryd.strconv_Itoa n (by omega) (by omega) w hp).mono ?_
  rintro e w' ⟨rfl, k, os, rfl⟩
  exact ⟨⟨_, rfl, by rw [itoa_eq]⟩, Lib.below_grow _ _ (Nat.le_refl _) _ _⟩
theorem byteAt (w : World) (a : Option Addr) (n cap : Nat) (f : Nat → Int) (k : Nat) (H : RowOf .i64 w a n f) (hn : n ≤ 1048576) : Calls Tryd.prog 20 #[.slice a n cap, .int .i64 k] w fun e w' => e = .returned (.int .i64 (byAt n f k)) ∧ w' = w := by
  by_cases h : k < n
  · obtain ⟨b, off, rfl, hc⟩ := H k h
    have h1 : ¬ (n : Int) ≤ (k : Int) := by omega
    have h2 : (k : Int) < (n : Int) := by omega
    have e : byAt n f k = f k % 256 := if_pos h
    rw [e]
    go_enter Tryd.func20, Tryd.ntmps20
    go_wp2_with (first | (go_at_call 28; refine (implByte _ _).mono ?_; rintro e w' ⟨rfl, rfl⟩))
    go_ret
    exact ⟨rfl, rfl⟩
  · have h1 : (n : Int) ≤ (k : Int) := by omega
    have e : byAt n f k = 0 := if_neg h
    rw [e]
    go_enter Tryd.func20, Tryd.ntmps20
    go_wp2
    go_ret
    exact ⟨rfl, rfl⟩
theorem ba_ne (b : ByteArray) (h : b.size = 3) : (b.toList == []) = false := by
  rw [ByteArray.toList_eq]
  simp only [beq_eq_false_iff_ne, ne_eq, Array.toList_eq_nil_iff]
  intro e
  have : b.data.size = 3 := h
  rw [e] at this
  cases this
theorem dec_size {s : ByteArray} {n : Nat} (h : s.data.toList = decL n) (hn : n < 100000) : s.size ≤ 5 := decL_size (by rw [ByteArray.toList_eq]; exact h) hn
set_option maxRecDepth 20000 in
set_option maxHeartbeats 2000000 in
theorem implLineOf (w : World) (a : Option Addr) (n cap : Nat) (f : Nat → Int) (k : Nat) (hk : k < n) (H : RowOf .i64 w a n f) (hn : n ≤ 1048576) (hT : OpTab w) (hp : Pow w) : Calls Tryd.prog 10 #[.slice a n cap, .int .i64 k] w fun e w' => (∃ s : ByteArray, e = .returned (.tuple #[.string s, .int .i64 (lineN n f k)]) ∧ s.data.toList = lineT n f k) ∧ Below w.heap.size w w' := by
  obtain ⟨o0, o1⟩ := byAt_in n f k
  obtain ⟨op, hop⟩ : ∃ op : Nat, byAt n f k = op := ⟨(byAt n f k).toNat, by omega⟩
  have hopN : (byAt n f k).toNat = op := by omega
  have hk0 : decide ((k : Int) < 0) = false := decide_eq_false (by omega)
  have hkn : decide ((n : Int) ≤ (k : Int)) = false := decide_eq_false (by omega)
  unfold lineN lineT
  rw [hopN]
  have h255 : op ≤ 255 := by omega
  have HOP := hide hop
  clear hop hopN o0 o1
  by_cases h30 : 30 ≤ op
  · have h29 : ¬ (0 ≤ (op : Int) ∧ (op : Int) ≤ 29) := by omega
    have HNm : Hid (nmOf (op : Int) = ⟨#[]⟩) := if_neg h29
    have HLn : Hid (lenOf (op : Int) = 1) := if_neg h29
    rw [if_pos h30, if_pos h30]
    go_enter Tryd.func10, Tryd.ntmps10
    go_wp2_with fail
    refine (byteAt _ a n cap f k H hn).mono ?_
    rintro e w1 ⟨rfl, rfl⟩
    rw [HOP.out]
    go_wp2_with fail
    refine (implOpName _ _ hT).mono ?_
    rintro e w2 ⟨rfl, L2⟩
    rw [HNm.out]
    go_wp2_with fail
    refine (implOpLen _ _ (hT.mono L2)).mono ?_
    rintro e w3 ⟨rfl, L3⟩
    rw [HLn.out]
    have C3 := L2.trans (L3.mono L2.size)
    go_wp2_with fail
    refine (implItoa _ op (by omega) (hp.mono C3)).mono ?_
    rintro e w4 ⟨⟨ds, rfl, hds⟩, L4⟩
    have hsz : ds.size ≤ 5 := dec_size hds (by omega)
    go_wp2
    go_ret2
    exact ⟨⟨_, rfl, by rw [← hds]; rfl⟩, C3.trans (L4.mono C3.size)⟩
  · have h29 : 0 ≤ (op : Int) ∧ (op : Int) ≤ 29 := by omega
    have hlt : op < 30 := by omega
    rw [if_neg h30, if_neg h30]
    have hnm := opText_len op hlt
    have hcs := opLens_three op hlt
    have ht : opText op = (opNm.getD op ByteArray.empty).data.toList := rfl
    rw [ht]
    generalize hL : opLens.getD op 1 = L at *
    generalize hM : opNm.getD op ByteArray.empty = nm at *
    have HNm : Hid (nmOf (op : Int) = nm) := by
      show _ = _
      unfold nmOf
      rw [if_pos h29, Int.toNat_natCast, hM]
    have HLn : Hid (lenOf (op : Int) = L) := by
      show _ = _
      unfold lenOf
      rw [if_pos h29, Int.toNat_natCast, hL]
    have hne := ba_ne nm hnm
    clear hL hM ht
    rcases hcs with rfl | rfl | rfl
    · rw [if_pos rfl]
      go_enter Tryd.func10, Tryd.ntmps10
      go_wp2_with fail
      refine (byteAt _ a n cap f k H hn).mono ?_
      rintro e w1 ⟨rfl, rfl⟩
      rw [HOP.out]
      go_wp2_with fail
      refine (implOpName _ _ hT).mono ?_
      rintro e w2 ⟨rfl, L2⟩
      rw [HNm.out]
      go_wp2_with fail
      refine (implOpLen _ _ (hT.mono L2)).mono ?_
      rintro e w3 ⟨rfl, L3⟩
      rw [HLn.out]
      have C3 := L2.trans (L3.mono L2.size)
      go_wp2
      go_ret2
      exact ⟨⟨_, rfl, rfl⟩, C3⟩
    · rw [if_neg (by decide), if_pos rfl]
      obtain ⟨p0, p1⟩ := byAt_in n f (k + 1)
      obtain ⟨y, hy⟩ : ∃ y : Nat, byAt n f (k + 1) = y := ⟨(byAt n f (k + 1)).toNat, by omega⟩
      have HY := hide hy
      have hyN : (byAt n f (k + 1)).toNat = y := by omega
      rw [hyN]
      have hy5 : y ≤ 255 := by omega
      clear hy hyN
      go_enter Tryd.func10, Tryd.ntmps10
      go_wp2_with fail
      refine (byteAt _ a n cap f k H hn).mono ?_
      rintro e w1 ⟨rfl, rfl⟩
      rw [HOP.out]
      go_wp2_with fail
      refine (implOpName _ _ hT).mono ?_
      rintro e w2 ⟨rfl, L2⟩
      rw [HNm.out]
      go_wp2_with fail
      refine (implOpLen _ _ (hT.mono L2)).mono ?_
      rintro e w3 ⟨rfl, L3⟩
      rw [HLn.out]
      have C3 := L2.trans (L3.mono L2.size)
      go_wp2_with fail
      refine (byteAt _ a n cap f (k + 1) (H.keep (wrote_below C3 Nowhere) (fun _ _ _ x => x)) hn).mono ?_
      rintro e w4 ⟨rfl, hw4⟩
      rw [HY.out, hw4]
      clear hw4 w4
      go_wp2_with fail
      refine (implItoa _ y (by omega) (hp.mono C3)).mono ?_
      rintro e w5 ⟨⟨ds, rfl, hds⟩, L5⟩
      have hsz : ds.size ≤ 5 := dec_size hds (by omega)
      go_wp2
      go_ret2
      exact ⟨⟨_, rfl, by rw [← hds]; simp⟩, C3.trans (L5.mono C3.size)⟩
    · rw [if_neg (by decide), if_neg (by decide)]
      obtain ⟨p0, p1⟩ := byAt_in n f (k + 1)
      obtain ⟨q0, q1⟩ := byAt_in n f (k + 2)
      obtain ⟨y, hy⟩ : ∃ y : Nat, byAt n f (k + 1) + 256 * byAt n f (k + 2) = y := ⟨(byAt n f (k + 1) + 256 * byAt n f (k + 2)).toNat, by omega⟩
      have HY := hide hy
      have hyN : (byAt n f (k + 1) + 256 * byAt n f (k + 2)).toNat = y := by omega
      have HYM : Hid (byAt n f (k + 1) % 256 + 256 * (byAt n f (k + 2) % 256) = y) := by show _ = _; omega
      rw [hyN]
      have hy65 : y ≤ 65535 := by omega
      clear hy hyN
      go_enter Tryd.func10, Tryd.ntmps10
      go_wp2_with fail
      refine (byteAt _ a n cap f k H hn).mono ?_
      rintro e w1 ⟨rfl, rfl⟩
      rw [HOP.out]
      go_wp2_with fail
      refine (implOpName _ _ hT).mono ?_
      rintro e w2 ⟨rfl, L2⟩
      rw [HNm.out]
      go_wp2_with fail
      refine (implOpLen _ _ (hT.mono L2)).mono ?_
      rintro e w3 ⟨rfl, L3⟩
      rw [HLn.out]
      have C3 := L2.trans (L3.mono L2.size)
      have H3 := hide (H.keep (wrote_below C3 Nowhere) (fun _ _ _ x => x))
      go_wp2_with fail
      refine (byteAt _ a n cap f (k + 1) (unhide H3) hn).mono ?_
      rintro e w4 ⟨rfl, hw4⟩
      rw [hw4]
      clear hw4 w4
      go_wp2_with fail
      refine (byteAt _ a n cap f (k + 2) (unhide H3) hn).mono ?_
      rintro e w4 ⟨rfl, hw4⟩
      rw [hw4]
      clear hw4 w4
      go_wp2_with fail
      refine (implJoin _ _ _).mono ?_
      rintro e w4 ⟨rfl, hw4⟩
      rw [hw4, HYM.out]
      clear hw4 w4
      go_wp2_with fail
      refine (implItoa _ y (by omega) (hp.mono C3)).mono ?_
      rintro e w5 ⟨⟨ds, rfl, hds⟩, L5⟩
      have hsz : ds.size ≤ 5 := dec_size hds (by omega)
      go_wp2
      go_ret2
      exact ⟨⟨_, rfl, by rw [← hds]; simp⟩, C3.trans (L5.mono C3.size)⟩
end Go.Proofs.YtpaedkefmebjjalDoor
