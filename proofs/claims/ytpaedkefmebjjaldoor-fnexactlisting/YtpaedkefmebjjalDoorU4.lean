/-
  The specification's lines and listings (chapter 4), by their contracts.
-/
import Derived.Test.YtpaedkefmebjjalDoorC4
namespace Go.Proofs.YtpaedkefmebjjalDoor
set_option linter.unusedVariables false
open Go.ChangeShapes Go.WideShapes Go.ChangeAt Go.RowKit
def byAt (n : Nat) (f : Nat → Int) (k : Nat) : Int := if k < n then f k % 256 else 0
theorem byAt_in (n : Nat) (f : Nat → Int) (k : Nat) : 0 ≤ byAt n f k ∧ byAt n f k ≤ 255 := by unfold byAt; split <;> omega
def opText (k : Nat) : List UInt8 := (opNm.getD k ByteArray.empty).data.toList
def lineN (n : Nat) (f : Nat → Int) (k : Nat) : Int := if 30 ≤ (byAt n f k).toNat then 1 else opLens.getD (byAt n f k).toNat 1
def lineT (n : Nat) (f : Nat → Int) (k : Nat) : List UInt8 :=
  if 30 ≤ (byAt n f k).toNat then [98, 121, 116, 101, 32] ++ decL (byAt n f k).toNat
  else if opLens.getD (byAt n f k).toNat 1 = 1 then opText (byAt n f k).toNat
  else if opLens.getD (byAt n f k).toNat 1 = 2 then opText (byAt n f k).toNat ++ [32] ++ decL (byAt n f (k + 1)).toNat
  else opText (byAt n f k).toNat ++ [32] ++ decL (byAt n f (k + 1) + 256 * byAt n f (k + 2)).toNat
theorem opLens_three (k : Nat) (h : k < 30) : opLens.getD k 1 = 1 ∨ opLens.getD k 1 = 2 ∨ opLens.getD k 1 = 3 := by
  revert k
  decide
theorem opText_len (k : Nat) (h : k < 30) : (opNm.getD k ByteArray.empty).size = 3 := by
  revert k
  decide
theorem decL_size {s : ByteArray} {n : Nat} (h : s.toList = decL n) (hn : n < 100000) : s.size ≤ 5 := by
  have h1 : s.data.toList.length = s.size := rfl
  rw [ByteArray.toList_eq] at h
  rw [← h1, h]
  unfold decL
  split
  · decide
  · exact dg_len 5 n (by omega)
theorem l1Min (w : World) (a b : Int) : Calls Tryd.prog 8 #[.int .i64 a, .int .i64 b] w fun e w' => e = .returned (.int .i64 (min a b)) ∧ w' = w := by
  by_cases h : a < b
  · go_enter Tryd.func8, Tryd.ntmps8
    go_wp2
    go_ret
    exact ⟨congrArg (fun x => Ending.returned (.int .i64 x)) (by omega), rfl⟩
  · go_enter Tryd.func8, Tryd.ntmps8
    go_wp2
    go_ret
    exact ⟨congrArg (fun x => Ending.returned (.int .i64 x)) (by omega), rfl⟩
theorem l4At (w : World) (a : Option Addr) (n cap : Nat) (f : Nat → Int) (k : Nat) (H : RowOf .i64 w a n f) (hn : n ≤ 1048576) : Calls Tryd.prog 15 #[.slice a n cap, .int .i64 k] w fun e w' => e = .returned (.int .i64 (byAt n f k)) ∧ w' = w := by
  by_cases h : k < n
  · obtain ⟨b, off, rfl, hc⟩ := H k h
    have h1 : ¬ (n : Int) ≤ (k : Int) := by omega
    have h2 : (k : Int) < (n : Int) := by omega
    have e : byAt n f k = f k % 256 := if_pos h
    rw [e]
    go_enter Tryd.func15, Tryd.ntmps15
    go_wp2_with (first | (go_at_call 26; refine (specByte _ _).mono ?_; rintro e w' ⟨rfl, rfl⟩))
    go_ret
    exact ⟨rfl, rfl⟩
  · have h1 : (n : Int) ≤ (k : Int) := by omega
    have e : byAt n f k = 0 := if_neg h
    rw [e]
    go_enter Tryd.func15, Tryd.ntmps15
    go_wp2
    go_ret
    exact ⟨rfl, rfl⟩
set_option maxRecDepth 20000 in
set_option maxHeartbeats 2000000 in
theorem specLineOf (w : World) (a : Option Addr) (n cap : Nat) (f : Nat → Int) (k : Nat) (hk : k < n) (H : RowOf .i64 w a n f) (hn : n ≤ 1048576) : Calls Tryd.prog 9 #[.slice a n cap, .int .i64 k] w fun e w' => (∃ s : ByteArray, e = .returned (.tuple #[.string s, .int .i64 (lineN n f k)]) ∧ s.data.toList = lineT n f k) ∧ Below w.heap.size w w' := by
  have hin := inB_yes (show (0 : Int) ≤ (k : Int) ∧ (k : Int) ≤ (n : Int) - 1 by omega)
  obtain ⟨o0, o1⟩ := byAt_in n f k
  obtain ⟨op, hop⟩ : ∃ op : Nat, byAt n f k = op := ⟨(byAt n f k).toNat, by omega⟩
  have hopN : (byAt n f k).toNat = op := by omega
  unfold lineN lineT
  rw [hopN]
  have HOP := hide hop
  clear hop hopN
  by_cases h30 : 30 ≤ op
  · have h30' : (30 : Int) ≤ (op : Int) := by omega
    have h29 : ¬ (0 ≤ (op : Int) ∧ (op : Int) ≤ 29) := by omega
    have h255 : op ≤ 255 := by have := HOP.out; omega
    rw [if_pos h30, if_pos h30]
    go_enter Tryd.func9, Tryd.ntmps9
    go_wp2_with fail
    refine (l1In _ _ _ _).mono ?_
    rintro e w1 ⟨rfl, rfl⟩
    rw [hin]
    go_wp2_with fail
    refine (l4At _ a n cap f k H hn).mono ?_
    rintro e w1 ⟨rfl, rfl⟩
    rw [HOP.out]
    go_wp2_with fail
    refine (specOpLen _ _).mono ?_
    rintro e w2 ⟨rfl, L2⟩
    rw [if_neg h29]
    go_wp2_with fail
    refine (l4Digits _ op (by omega)).mono ?_
    rintro e w3 ⟨⟨ds, rfl, hds⟩, L3⟩
    have hsz : ds.size ≤ 5 := decL_size hds (by omega)
    go_wp2
    go_ret2
    exact ⟨⟨_, rfl, by rw [← hds, ByteArray.toList_eq]; rfl⟩, L2.trans (L3.mono L2.size)⟩
  · have h30' : ¬ (30 : Int) ≤ (op : Int) := by omega
    have h29 : 0 ≤ (op : Int) ∧ (op : Int) ≤ 29 := by omega
    have hlt : op < 30 := by omega
    rw [if_neg h30, if_neg h30]
    have hnm := opText_len op hlt
    have hcs := opLens_three op hlt
    have ht : opText op = (opNm.getD op ByteArray.empty).data.toList := rfl
    rw [ht]
    generalize hL : opLens.getD op 1 = L at *
    generalize hM : opNm.getD op ByteArray.empty = nm at *
    have HL := hide hL
    have HM := hide hM
    clear hL hM ht
    have hnmE : ∀ W : World, Calls Tryd.prog 18 #[.int .i64 op] W fun e w' => e = .returned (.string nm) ∧ Below W.heap.size W w' := fun W => (specOpName W op).mono (by rintro e w' ⟨he, hb⟩; exact ⟨by rw [he, if_pos h29, Int.toNat_natCast, HM.out], hb⟩)
    have HNM := hide hnmE
    clear hnmE
    rcases hcs with rfl | rfl | rfl
    · rw [if_pos rfl]
      go_enter Tryd.func9, Tryd.ntmps9
      go_wp2_with fail
      refine (l1In _ _ _ _).mono ?_
      rintro e w1 ⟨rfl, rfl⟩
      rw [hin]
      go_wp2_with fail
      refine (l4At _ a n cap f k H hn).mono ?_
      rintro e w1 ⟨rfl, rfl⟩
      rw [HOP.out]
      go_wp2_with fail
      refine (specOpLen _ _).mono ?_
      rintro e w2 ⟨he, L2⟩
      rw [if_pos h29, Int.toNat_natCast, HL.out] at he
      subst he
      go_wp2_with fail
      refine (unhide HNM _).mono ?_
      rintro e w3 ⟨rfl, L3⟩
      go_wp2
      go_ret2
      exact ⟨⟨_, rfl, rfl⟩, L2.trans (L3.mono L2.size)⟩
    · rw [if_neg (by decide), if_pos rfl]
      obtain ⟨p0, p1⟩ := byAt_in n f (k + 1)
      obtain ⟨y, hy⟩ : ∃ y : Nat, byAt n f (k + 1) = y := ⟨(byAt n f (k + 1)).toNat, by omega⟩
      have HY := hide hy
      have hyN : (byAt n f (k + 1)).toNat = y := by omega
      rw [hyN]
      clear hy hyN
      go_enter Tryd.func9, Tryd.ntmps9
      go_wp2_with fail
      refine (l1In _ _ _ _).mono ?_
      rintro e w1 ⟨rfl, rfl⟩
      rw [hin]
      go_wp2_with fail
      refine (l4At _ a n cap f k H hn).mono ?_
      rintro e w1 ⟨rfl, rfl⟩
      rw [HOP.out]
      go_wp2_with fail
      refine (specOpLen _ _).mono ?_
      rintro e w2 ⟨he, L2⟩
      rw [if_pos h29, Int.toNat_natCast, HL.out] at he
      subst he
      go_wp2_with fail
      refine (unhide HNM _).mono ?_
      rintro e w3 ⟨rfl, L3⟩
      have C3 : Below w1.heap.size w1 w3 := L2.trans (L3.mono L2.size)
      go_wp2_with fail
      refine (l4At _ a n cap f (k + 1) (H.keep (wrote_below C3 Nowhere) (fun _ _ _ x => x)) hn).mono ?_
      rintro e w4 ⟨rfl, hw4⟩
      rw [HY.out, hw4]
      clear hw4 w4
      go_wp2_with fail
      refine (l4Digits _ y (by have := HY.out; omega)).mono ?_
      rintro e w5 ⟨⟨ds, rfl, hds⟩, L5⟩
      have hsz : ds.size ≤ 5 := decL_size hds (by have := HY.out; omega)
      go_wp2
      go_ret2
      exact ⟨⟨_, rfl, by rw [← hds, ByteArray.toList_eq]; simp⟩, C3.trans (L5.mono C3.size)⟩
    · rw [if_neg (by decide), if_neg (by decide)]
      obtain ⟨p0, p1⟩ := byAt_in n f (k + 1)
      obtain ⟨q0, q1⟩ := byAt_in n f (k + 2)
      obtain ⟨y, hy⟩ : ∃ y : Nat, byAt n f (k + 1) + 256 * byAt n f (k + 2) = y := ⟨(byAt n f (k + 1) + 256 * byAt n f (k + 2)).toNat, by omega⟩
      have HY := hide hy
      have hyN : (byAt n f (k + 1) + 256 * byAt n f (k + 2)).toNat = y := by omega
      have HYM : Hid (byAt n f (k + 1) % 256 + 256 * (byAt n f (k + 2) % 256) = y) := by show _ = _; omega
      rw [hyN]
      have hy65 : y ≤ 65535 := by omega
      clear hy hyN
      go_enter Tryd.func9, Tryd.ntmps9
      go_wp2_with fail
      refine (l1In _ _ _ _).mono ?_
      rintro e w1 ⟨rfl, rfl⟩
      rw [hin]
      go_wp2_with fail
      refine (l4At _ a n cap f k H hn).mono ?_
      rintro e w1 ⟨rfl, rfl⟩
      rw [HOP.out]
      go_wp2_with fail
      refine (specOpLen _ _).mono ?_
      rintro e w2 ⟨he, L2⟩
      rw [if_pos h29, Int.toNat_natCast, HL.out] at he
      subst he
      go_wp2_with fail
      refine (unhide HNM _).mono ?_
      rintro e w3 ⟨rfl, L3⟩
      have C3 : Below w1.heap.size w1 w3 := L2.trans (L3.mono L2.size)
      have H3 := hide (H.keep (wrote_below C3 Nowhere) (fun _ _ _ x => x))
      go_wp2_with fail
      refine (l4At _ a n cap f (k + 1) (unhide H3) hn).mono ?_
      rintro e w4 ⟨rfl, hw4⟩
      rw [hw4]
      clear hw4 w4
      go_wp2_with fail
      refine (l4At _ a n cap f (k + 2) (unhide H3) hn).mono ?_
      rintro e w4 ⟨rfl, hw4⟩
      rw [hw4]
      clear hw4 w4
      go_wp2_with fail
      refine (specJoin _ _ _).mono ?_
      rintro e w4 ⟨rfl, hw4⟩
      rw [hw4, HYM.out]
      clear hw4 w4
      go_wp2_with fail
      refine (l4Digits _ y (by omega)).mono ?_
      rintro e w5 ⟨⟨ds, rfl, hds⟩, L5⟩
      have hsz : ds.size ≤ 5 := decL_size hds (by omega)
      go_wp2
      go_ret2
      exact ⟨⟨_, rfl, by rw [← hds, ByteArray.toList_eq]; simp⟩, C3.trans (L5.mono C3.size)⟩
end Go.Proofs.YtpaedkefmebjjalDoor
