/-
  The specification's chapter 4 by its contracts: numbers in digits, lines, their bytes.
-/
import Derived.Test.YteefbbnkfclllaaDoorC3
import Derived.Test.YteefbbnkfclllaaDoorC1
namespace Go.Proofs.YteefbbnkfclllaaDoor
open Go.ChangeShapes Go.WideShapes Go.ChangeAt Go.RowKit
def dg (n : Nat) : List UInt8 := if _h : n = 0 then [] else dg (n / 10) ++ [UInt8.ofNat (48 + n % 10)]
decreasing_by exact Nat.div_lt_self (Nat.pos_of_ne_zero _h) (by decide)
def chr (k : Nat) : UInt8 := UInt8.ofNat (48 + k % 10)
theorem chr_of (k : Nat) : UInt8.ofNat (48 + (k : Int) % 10).toNat = chr k := by
  have e : (48 + (k : Int) % 10).toNat = 48 + k % 10 := by omega
  rw [e]
  rfl
def decL (n : Nat) : List UInt8 := if n = 0 then [48] else dg n
theorem dg_step {n : Nat} (h : 0 < n) : dg n = dg (n / 10) ++ [chr n] := by
  rw [dg, dif_neg (by omega)]
  rfl
theorem dg_zero : dg 0 = [] := by rw [dg, dif_pos rfl]
theorem dg_len (d n : Nat) (h : n < 10 ^ d) : (dg n).length ≤ d := by
  induction d generalizing n with
  | zero =>
    have e : n = 0 := by simp at h; exact h
    subst e
    rw [dg_zero]
    simp
  | succ d ih =>
    by_cases e : n = 0
    · subst e; rw [dg_zero]; simp
    · rw [dg_step (by omega), List.length_append]
      have := ih (n / 10) (by rw [Nat.pow_succ] at h; omega)
      simp
      omega
theorem conv1 (W : World) (g : Nat) (x : Int) (h : W.cell? ⟨g, 0, none⟩ = some (.int .u8 x)) :
    (convert 22 9 (.slice (some ⟨g, 0, none⟩) 1 1)).run Tryd.prog W = .ok (.string ⟨#[UInt8.ofNat x.toNat]⟩) W := by
  rw [run_convert_bytes_string W 22 9 5 _ _ _ Tryd.underlying22 Tryd.underlying5 Tryd.underlying9]
  have hl := run_loadCells_list (P := Tryd.prog) W ⟨g, 0, none⟩ [.int .u8 x] (fun j v hj => by
    match j, hj with
    | 0, hj => cases hj; simpa [Addr.add] using h
    | k + 1, hj => simp at hj)
  rw [run_bytesToString W ⟨g, 0, none⟩ 1 1 [x] hl]
  rfl
set_option maxRecDepth 20000 in
theorem l4Digits (w : World) (n : Nat) (hn : n ≤ 9223372036854775807) : Calls Tryd.prog 34 #[.int .i64 n] w fun e w' => (∃ s : ByteArray, e = .returned (.string s) ∧ s.toList = decL n) ∧ Below w.heap.size w w' := by
  by_cases h0 : n = 0
  · subst h0
    go_enter Tryd.func34, Tryd.ntmps34
    go_wp2
    go_ret
    exact ⟨⟨_, rfl, by simp [decL, ByteArray.toList_eq]⟩, Below.refl _ _⟩
  · have h0' : ((n : Int) == 0) = false := by simp; omega
    have hd : decL n = dg n := by unfold decL; rw [if_neg h0]
    rw [hd]
    go_enter Tryd.func34, Tryd.ntmps34
    go_wp2
    go_loopw [0, 3] (fun x o wr => ∃ (k : Nat) (s : ByteArray), x = .int .i64 k ∧ o = .string s ∧ dg n = dg k ++ s.data.toList ∧ Hid (k ≤ 9223372036854775807) ∧ Below w.heap.size w wr) (fun x _ _ => (intOf x).toNat)
    case atStart => exact ⟨n, _, rfl, rfl, by simp, hn, Below.refl _ _⟩
    case round =>
      obtain ⟨k, s, rfl, rfl, hdg, hk, hbel⟩ := hrel
      have HD := hide hdg
      clear hdg
      by_cases hk0 : 0 < k
      · have hk0' : (0 : Int) < (k : Int) := by omega
        have hkk := hk.out
        have hcv := conv1 (wr.alloc (.cells #[.int .u8 (48 + (k : Int) % 10)] 5)) wr.heap.size (48 + (k : Int) % 10) (by go_simp)
        rw [chr_of] at hcv
        have hd0 : 0 ≤ (k : Int) % 10 := by omega
        have hd9 : (k : Int) % 10 ≤ 9 := by omega
        have hss : s.size ≤ 19 := by
          have h1 := congrArg List.length (unhide HD)
          have h2 := dg_len 19 n (by omega)
          rw [List.length_append] at h1
          have h3 : s.data.toList.length = s.size := rfl
          omega
        have HD2 : Hid (dg n = dg (k / 10) ++ ((⟨#[chr k]⟩ : ByteArray) ++ s).data.toList) := by
          show _ = _
          rw [unhide HD, dg_step hk0, List.append_assoc]
          congr 1
        generalize chr k = ch at *
        go_wp2
        go_roundw
        case rel => exact ⟨k / 10, _, by go_num, rfl, unhide HD2, by show _ ≤ _; omega, hbel.alloc hbel.size _⟩
        case measure => simp [intOf]; omega
      · have hk0' : ¬ (0 : Int) < (k : Int) := by omega
        have e : k = 0 := by omega
        subst e
        go_wp2
        go_ret
        exact ⟨⟨_, rfl, by rw [ByteArray.toList_eq, unhide HD, dg_zero]; rfl⟩, hbel⟩
def isDig (c : UInt8) : Bool := decide (48 ≤ c.toNat) && decide (c.toNat ≤ 57)
def valL (l : List UInt8) : Nat := l.foldl (fun x c => 10 * x + (c.toNat - 48)) 0
theorem valL_snoc (l : List UInt8) (c : UInt8) : valL (l ++ [c]) = 10 * valL l + (c.toNat - 48) := by simp [valL]
def pv (l : List UInt8) (q : Nat) : Nat := valL (l.take q)
theorem pv_succ (l : List UInt8) (q : Nat) (h : q < l.length) : pv l (q + 1) = 10 * pv l q + ((l[q]'h).toNat - 48) := by
  unfold pv
  rw [List.take_succ_eq_append_getElem h, valL_snoc]
theorem pv_lt (l : List UInt8) (q : Nat) (h : ∀ j (_ : j < q) (hl : j < l.length), isDig (l[j]'hl) = true) : pv l q < 10 ^ q := by
  induction q with
  | zero => simp [pv, valL]
  | succ q ih =>
    have h1 := ih (fun j hj hl => h j (by omega) hl)
    by_cases hq : q < l.length
    · rw [pv_succ l q hq, Nat.pow_succ]
      have h2 := h q (by omega) hq
      simp [isDig] at h2
      omega
    · have e : pv l (q + 1) = pv l q := by
        unfold pv
        rw [List.take_of_length_le (by omega), List.take_of_length_le (by omega)]
      rw [e, Nat.pow_succ]
      omega
theorem pv_all (l : List UInt8) : pv l l.length = valL l := by unfold pv; rw [List.take_length]
theorem all_dig {l : List UInt8} (h : ∀ j (hl : j < l.length), isDig (l[j]'hl) = true) : l.all isDig = true := by
  rw [List.all_eq_true]
  intro x hx
  obtain ⟨j, hj, rfl⟩ := List.mem_iff_getElem.1 hx
  exact h j hj
theorem not_dig {l : List UInt8} {j : Nat} (hl : j < l.length) (h : isDig (l[j]'hl) = false) : l.all isDig = false := by
  rw [List.all_eq_false]
  exact ⟨_, List.getElem_mem hl, by simp [h]⟩
def numOf (s : ByteArray) : Int := if s.size = 0 ∨ 5 < s.size then -1 else if s.data.toList.all isDig = false then -1 else if decL (valL s.data.toList) = s.data.toList then valL s.data.toList else -1
end Go.Proofs.YteefbbnkfclllaaDoor
