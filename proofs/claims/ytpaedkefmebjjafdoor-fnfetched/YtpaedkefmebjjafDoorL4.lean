/-
  The specification's chapter 4 by its contracts: a line's word and number, its bytes.
-/
import Derived.Test.YtpaedkefmebjjafDoorC4
import Derived.Test.YtpaedkefmebjjafDoorJ2
namespace Go.Proofs.YtpaedkefmebjjafDoor
open Go.ChangeShapes Go.WideShapes Go.ChangeAt Go.RowKit
def lineV (s : ByteArray) (v : Value) : Prop :=
  (∃ (i : Nat) (h : i < s.size), (s[i]'h).toNat = 32 ∧ (∀ j (_ : j < i) (hl : j < s.size), (s[j]'hl).toNat ≠ 32) ∧ v = .tuple #[.string (s.extract 0 i), .int .i64 (numOf (s.extract (i + 1) s.size)), .bool (decide (0 ≤ numOf (s.extract (i + 1) s.size)))]) ∨
  ((∀ j (hl : j < s.size), (s[j]'hl).toNat ≠ 32) ∧ v = .tuple #[.string s, .int .i64 (-1), .bool true])
set_option maxRecDepth 20000 in
theorem l4Line (w : World) (s : ByteArray) (hs : s.size ≤ 1048576) : Calls Tryd.prog 68 #[.string s] w fun e w' => (∃ v, e = .returned v ∧ lineV s v) ∧ Below w.heap.size w w' := by
  go_enter Tryd.func68, Tryd.ntmps68
  go_wp2
  go_loop [5] (fun i => ∃ q : Nat, q ≤ s.size ∧ i = .int .i64 q ∧ ∀ j (_ : j < q) (hl : j < s.size), (s[j]'hl).toNat ≠ 32) (fun i => s.size - (intOf i).toNat)
  case atStart => exact ⟨0, Nat.zero_le _, rfl, fun j hj => absurd hj (Nat.not_lt_zero _)⟩
  case round =>
    obtain ⟨q, hq, rfl, hno⟩ := hrel
    have HN := hide hno
    clear hno
    by_cases hlt : q < s.size
    · have hlt' : (q : Int) < (s.size : Int) := by omega
      by_cases h32 : (s[q]'hlt).toNat = 32
      · have h32' : ((((s[q]'hlt).toNat : Nat) : Int) == 32) = true := by simp [h32]
        have hex : (s.extract (q + 1) s.size).size ≤ 1048576 := by simp; omega
        have H32 := hide h32
        clear h32
        go_wp2_with fail
        refine (l4Num _ _ hex).mono ?_
        rintro e w1 ⟨rfl, L1⟩
        have HV : Hid (lineV s (.tuple #[.string (s.extract 0 q), .int .i64 (numOf (s.extract (q + 1) s.size)), .bool (decide (0 ≤ numOf (s.extract (q + 1) s.size)))])) := Or.inl ⟨q, hlt, unhide H32, unhide HN, rfl⟩
        generalize numOf (s.extract (q + 1) s.size) = z at *
        go_wp2
        refine bodyPost_ret (results_tmp3 rfl _ _ _) rfl ?_
        exact ⟨⟨_, rfl, HV.out⟩, L1⟩
      · have h32' : ((((s[q]'hlt).toNat : Nat) : Int) == 32) = false := by simp; omega
        have hno2 : ∀ j (_ : j < q + 1) (hl : j < s.size), (s[j]'hl).toNat ≠ 32 := fun j hj hl => by
          by_cases e : j = q
          · subst e; exact h32
          · exact unhide HN j (by omega) hl
        have HN2 := hide hno2
        clear h32 hno2
        go_wp2
        go_round
        case rel => exact ⟨q + 1, by omega, by go_num, unhide HN2⟩
        case measure => simp [intOf]; omega
    · have hlt' : ¬ (q : Int) < (s.size : Int) := by omega
      have HV : Hid (lineV s (.tuple #[.string s, .int .i64 (-1), .bool true])) := Or.inr ⟨fun j hl => unhide HN j (by omega) hl, rfl⟩
      go_wp2
      refine bodyPost_ret (results_tmp3 rfl _ _ _) rfl ?_
      exact ⟨⟨_, rfl, HV.out⟩, Below.refl _ _⟩
def atW : List UInt8 := [97, 116]
def byteW : List UInt8 := [98, 121, 116, 101]
theorem numOf_bound (s : ByteArray) : -1 ≤ numOf s ∧ numOf s ≤ 99999 := by
  unfold numOf
  split
  · omega
  · rename_i h
    split
    · omega
    · rename_i h2
      split
      · have hl : s.data.toList.length = s.size := rfl
        have h3 := pv_lt s.data.toList s.data.toList.length (fun j _ hl => by
          have : s.data.toList.all isDig = true := by simpa using h2
          exact List.all_eq_true.1 this _ (List.getElem_mem hl))
        rw [pv_all] at h3
        have h4 : valL s.data.toList < 100000 := Nat.lt_of_lt_of_le h3 (Nat.pow_le_pow_right (by omega) (show s.data.toList.length ≤ 5 by omega))
        omega
      · omega
theorem lineV_form {s : ByteArray} {v : Value} (h : lineV s v) : ∃ wd n k, v = .tuple #[.string wd, .int .i64 n, .bool k] ∧ -1 ≤ n ∧ n ≤ 99999 := by
  rcases h with ⟨i, hi, _, _, rfl⟩ | ⟨_, rfl⟩
  · exact ⟨_, _, _, rfl, (numOf_bound _).1, (numOf_bound _).2⟩
  · exact ⟨_, _, _, rfl, by omega, by omega⟩
def bytesW (wd : ByteArray) (n : Int) (k : Bool) (L : List Int) (to : Int) (ok : Bool) : Prop :=
  (k = false ∧ L = [] ∧ to = -1 ∧ ok = false) ∨
  (k = true ∧ wd.toList = atW ∧ L = [] ∧ ok = inB n 0 255 ∧ to = if inB n 0 255 then n else -1) ∨
  (k = true ∧ wd.toList = byteW ∧ ok = inB n 0 255 ∧ to = -1 ∧ L = if inB n 0 255 then [n] else []) ∨
  (k = true ∧ ¬ wd.toList = atW ∧ ¬ wd.toList = byteW ∧ to = -1 ∧ ∃ r, IsOp wd r ∧ ((r = -1 ∧ L = [] ∧ ok = false) ∨ (0 ≤ r ∧ ((opLens.getD r.toNat 1 = 1 ∧ L = [r] ∧ ok = decide (n < 0)) ∨ (opLens.getD r.toNat 1 = 2 ∧ L = [r, n % 256] ∧ ok = inB n 0 255) ∨ (opLens.getD r.toNat 1 = 3 ∧ L = [r, n % 256, n / 256 % 256] ∧ ok = inB n 0 65535)))))
theorem own_list {w : World} {lo g : Nat} (L : List Int) (hb : w.heap[g]? = some (.cells (L.map (Value.int .i64)).toArray 3 (0, 0))) (hg : lo ≤ g) (hn : L.length ≤ 1048576) : OwnInts w lo (.slice (some ⟨g, 0, none⟩) L.length L.length) L.length (fun i => L.getD i 0) := by
  have e : (L.map (Value.int .i64)).toArray = (rowVals L.length (fun i => L.getD i 0)).toArray := by
    congr 1
    apply List.ext_getElem?
    intro j
    by_cases hj : j < L.length
    · rw [rowVals_get _ _ _ hj]
      simp [hj]
    · rw [List.getElem?_eq_none (by simp; omega), List.getElem?_eq_none (by rw [rowVals_len]; omega)]
  rw [e] at hb
  exact own_block hb hg hn
theorem own_new (W : World) (lo : Nat) (L : List Int) (h : lo ≤ W.heap.size) (hn : L.length ≤ 1048576) : OwnInts (W.alloc (.cells (L.map (Value.int .i64)).toArray 3)) lo (.slice (some ⟨W.heap.size, 0, none⟩) L.length L.length) L.length (fun i => L.getD i 0) :=
  own_list L (by show (W.heap.push _)[W.heap.size]? = _; simp) h hn
theorem opLens_cases (i : Nat) (h : i < 30) : opLens.getD i 1 = 1 ∨ opLens.getD i 1 = 2 ∨ opLens.getD i 1 = 3 := by
  have : ∀ j : Fin 30, opLens.getD j.val 1 = 1 ∨ opLens.getD j.val 1 = 2 ∨ opLens.getD j.val 1 = 3 := by decide
  exact this ⟨i, h⟩
set_option maxRecDepth 20000 in
set_option maxHeartbeats 1000000 in
theorem l4Bytes (w : World) (s : ByteArray) (hs : s.size ≤ 1048576) : Calls Tryd.prog 65 #[.string s] w fun e w' => (∃ v L to ok, e = .returned (.tuple #[v, .int .i64 to, .bool ok]) ∧ OwnInts w' w.heap.size v L.length (fun i => L.getD i 0) ∧ ∃ wd n k, lineV s (.tuple #[.string wd, .int .i64 n, .bool k]) ∧ bytesW wd n k L to ok) ∧ Below w.heap.size w w' := by
  go_enter Tryd.func65, Tryd.ntmps65
  go_wp2_with fail
  refine (l4Line _ _ hs).mono ?_
  rintro e w1 ⟨⟨v, rfl, hv⟩, L1⟩
  obtain ⟨wd, n, k, rfl, hn0, hn1⟩ := lineV_form hv
  have HV := hide hv
  clear hv
  cases k
  · go_wp2
    go_ret3
    exact ⟨⟨_, [], _, _, rfl, own_new _ _ [] (L1.size) (by simp), wd, n, _, unhide HV, Or.inl ⟨rfl, rfl, rfl, rfl⟩⟩, (L1).alloc (L1.size) _⟩
  · by_cases hat : wd.toList = atW
    · have hat' : (wd.toList == [97, 116]) = true := by simpa [atW] using hat
      cases hin : inB n 0 255
      · have HW : Hid (bytesW wd n true [] (-1) false) := Or.inr (Or.inl ⟨rfl, hat, rfl, hin.symm, by rw [hin]; rfl⟩)
        clear hat
        go_wp2_with fail
        refine (l1In _ _ _ _).mono ?_
        rintro e wx ⟨rfl, rfl⟩
        rw [hin]
        go_wp2
        go_ret3
        exact ⟨⟨_, [], _, _, rfl, own_new _ _ [] (L1.size) (by simp), wd, n, _, unhide HV, HW.out⟩, (L1).alloc (L1.size) _⟩
      · have HW : Hid (bytesW wd n true [] n true) := Or.inr (Or.inl ⟨rfl, hat, rfl, hin.symm, by rw [hin]; rfl⟩)
        clear hat
        go_wp2_with fail
        refine (l1In _ _ _ _).mono ?_
        rintro e wx ⟨rfl, rfl⟩
        rw [hin]
        go_wp2
        go_ret3
        exact ⟨⟨_, [], _, _, rfl, own_new _ _ [] (L1.size) (by simp), wd, n, _, unhide HV, HW.out⟩, (L1).alloc (L1.size) _⟩
    · have hat' : (wd.toList == [97, 116]) = false := by simpa [atW] using hat
      by_cases hby : wd.toList = byteW
      · have hby' : (wd.toList == [98, 121, 116, 101]) = true := by simpa [byteW] using hby
        cases hin : inB n 0 255
        · have HW : Hid (bytesW wd n true [] (-1) false) := Or.inr (Or.inr (Or.inl ⟨rfl, hby, hin.symm, rfl, by rw [hin]; rfl⟩))
          clear hat hby
          go_wp2_with fail
          refine (l1In _ _ _ _).mono ?_
          rintro e wx ⟨rfl, rfl⟩
          rw [hin]
          go_wp2
          go_ret3
          exact ⟨⟨_, [], _, _, rfl, own_new _ _ [] (L1.size) (by simp), wd, n, _, unhide HV, HW.out⟩, (L1).alloc (L1.size) _⟩
        · have HW : Hid (bytesW wd n true [n] (-1) true) := Or.inr (Or.inr (Or.inl ⟨rfl, hby, hin.symm, rfl, by rw [hin]; rfl⟩))
          clear hat hby
          go_wp2_with fail
          refine (l1In _ _ _ _).mono ?_
          rintro e wx ⟨rfl, rfl⟩
          rw [hin]
          go_wp2
          go_ret3
          exact ⟨⟨_, [n], _, _, rfl, own_new _ _ [n] (L1.size) (by simp), wd, n, _, unhide HV, HW.out⟩, (L1).alloc (L1.size) _⟩
      · have hby' : (wd.toList == [98, 121, 116, 101]) = false := by simpa [byteW] using hby
        have HA := hide hat
        have HB := hide hby
        clear hat hby
        go_wp2_with fail
        refine (specOpOf _ _).mono ?_
        rintro e w2 ⟨⟨r, rfl, hr⟩, L2'⟩
        have L2 := L1.trans (L2'.mono L1.size)
        clear L2'
        have HR := hide hr
        rcases hr with ⟨i, hi, rfl, -⟩ | ⟨rfl, -⟩
        · have hi0 : ¬ ((i : Int) < 0) := by omega
          have hl0 : (if 0 ≤ (i : Int) ∧ (i : Int) ≤ 29 then opLens.getD (i : Int).toNat 1 else 1) = opLens.getD i 1 := by rw [if_pos (by omega), Int.toNat_natCast]
          have HL := hide hl0
          clear hl0
          go_wp2_with fail
          refine (specOpLen _ _).mono ?_
          rintro e w3 ⟨rfl, L3'⟩
          have L3 := L2.trans (L3'.mono L2.size)
          clear L3'
          rw [unhide HL]
          rcases opLens_cases i hi with h1 | h2 | h3
          · have HW : Hid (bytesW wd n true [(i : Int)] (-1) (decide (n < 0))) := Or.inr (Or.inr (Or.inr ⟨rfl, unhide HA, unhide HB, rfl, _, unhide HR, Or.inr ⟨by omega, Or.inl ⟨by simpa using h1, rfl, rfl⟩⟩⟩))
            rw [h1]
            clear h1
            go_wp2
            go_ret3
            exact ⟨⟨_, [(i : Int)], _, _, rfl, own_new _ _ [(i : Int)] (L3.size) (by simp), wd, n, _, unhide HV, HW.out⟩, (L3).alloc (L3.size) _⟩
          · have HW : Hid (bytesW wd n true [(i : Int), n % 256] (-1) (inB n 0 255)) := Or.inr (Or.inr (Or.inr ⟨rfl, unhide HA, unhide HB, rfl, _, unhide HR, Or.inr ⟨by omega, Or.inr (Or.inl ⟨by simpa using h2, rfl, rfl⟩)⟩⟩))
            rw [h2]
            clear h2
            go_wp2_with (first | (go_at_call 38; refine (specByte _ _).mono ?_; rintro e wx ⟨rfl, rfl⟩) | (go_at_call 48; refine (l1In _ _ _ _).mono ?_; rintro e wx ⟨rfl, rfl⟩))
            go_ret3
            exact ⟨⟨_, [(i : Int), n % 256], _, _, rfl, own_new _ _ [(i : Int), n % 256] (L3.size) (by simp), wd, n, _, unhide HV, HW.out⟩, (L3).alloc (L3.size) _⟩
          · have HW : Hid (bytesW wd n true [(i : Int), n % 256, n / 256 % 256] (-1) (inB n 0 65535)) := Or.inr (Or.inr (Or.inr ⟨rfl, unhide HA, unhide HB, rfl, _, unhide HR, Or.inr ⟨by omega, Or.inr (Or.inr ⟨by simpa using h3, rfl, rfl⟩)⟩⟩))
            rw [h3]
            clear h3
            go_wp2_with (first | (go_at_call 38; refine (specByte _ _).mono ?_; rintro e wx ⟨rfl, rfl⟩) | (go_at_call 48; refine (l1In _ _ _ _).mono ?_; rintro e wx ⟨rfl, rfl⟩))
            go_ret3
            exact ⟨⟨_, [(i : Int), n % 256, n / 256 % 256], _, _, rfl, own_new _ _ [(i : Int), n % 256, n / 256 % 256] (L3.size) (by simp), wd, n, _, unhide HV, HW.out⟩, (L3).alloc (L3.size) _⟩
        · have HW : Hid (bytesW wd n true [] (-1) false) := Or.inr (Or.inr (Or.inr ⟨rfl, unhide HA, unhide HB, rfl, _, unhide HR, Or.inl ⟨rfl, rfl, rfl⟩⟩))
          go_wp2
          go_ret3
          exact ⟨⟨_, [], _, _, rfl, own_new _ _ [] (L2.size) (by simp), wd, n, _, unhide HV, HW.out⟩, (L2).alloc (L2.size) _⟩
end Go.Proofs.YtpaedkefmebjjafDoor
