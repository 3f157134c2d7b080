/-
  Chapter 19: a picture read from its text, in numbers and by the contracts of the specification and of the program.
-/
import Derived.Test.YteefbbnkfclllaaDoorXI
import Derived.Lib.SliceRun
namespace Go.Proofs.YteefbbnkfclllaaDoor
set_option linter.unusedVariables false
set_option linter.unusedSimpArgs false
open Go.ChangeShapes Go.WideShapes Go.ChangeAt Go.RowKit
/-- The byte at a place. -/
def byS (s : ByteArray) (j : Nat) : Int := ((s.data[j]?.getD 0).toNat : Int)
theorem byS_get (s : ByteArray) (j : Nat) (h : j < s.size) : byS s j = (((s[j]'h).toNat : Nat) : Int) := by
  unfold byS
  have h' : j < s.data.size := h
  rw [Array.getElem?_eq_getElem h']
  rfl
theorem byS_range (s : ByteArray) (j : Nat) : 0 ≤ byS s j ∧ byS s j ≤ 255 := by
  unfold byS
  have := UInt8.toNat_lt (s.data[j]?.getD 0)
  omega
/-- The dots at the places where a picture's text has them. -/
def dotF (s : ByteArray) (i : Nat) : Int := byS s (9 * (i / 8) + i % 8) - 48
def okT (s : ByteArray) : Bool := decide (s.size = 54 ∧ frameStr 48 (dotF s) = s)
/-- The bytes up to q that end no line, less 48. -/
def outL (s : ByteArray) (q : Nat) : List Int := ((List.range q).filter (fun j => byS s j != 10)).map (fun j => byS s j - 48)
def nth (l : List Int) (i : Nat) : Int := l[i]?.getD 0
theorem outL_yes {s : ByteArray} {q : Nat} (h : byS s q ≠ 10) : outL s (q + 1) = outL s q ++ [byS s q - 48] := by
  unfold outL
  rw [List.range_succ, List.filter_append, List.map_append]
  congr 1
  have : (byS s q != 10) = true := by simpa using h
  rw [List.filter_cons_of_pos (by simpa using this)]
  rfl
theorem outL_no {s : ByteArray} {q : Nat} (h : byS s q = 10) : outL s (q + 1) = outL s q := by
  unfold outL
  rw [List.range_succ, List.filter_append, List.map_append]
  have : (byS s q != 10) = false := by simp [h]
  rw [List.filter_cons_of_neg (by simp [this])]
  simp
theorem outL_len (s : ByteArray) (q : Nat) : (outL s q).length ≤ q := by
  unfold outL
  rw [List.length_map]
  exact Nat.le_trans (List.length_filter_le _ _) (by simp)
theorem nth_vals (l : List Int) : rowVals l.length (nth l) = l.map (Value.int .i64) := by
  unfold rowVals nth
  apply List.ext_getElem?
  intro i
  by_cases h : i < l.length
  · simp [h]
  · simp [h, Nat.le_of_not_lt h]
theorem okFrame_of {n : Nat} {f : Nat → Int} (h : okFrame n f = true) : n = 48 ∧ ∀ j, j < 48 → 0 ≤ f j ∧ f j ≤ 63 := by
  unfold okFrame at h
  simp only [Bool.and_eq_true, decide_eq_true_eq] at h
  obtain ⟨rfl, h2⟩ := h
  exact ⟨rfl, h2⟩
theorem strB_size (n : Nat) (F : Nat → Int) : (strB n F).size = n := by
  have h := congrArg List.length (strB_bL n F)
  rw [bL_len] at h
  simpa using h
theorem byS_strB {n j : Nat} {F : Nat → Int} (hj : j < n) (h0 : 0 ≤ F j) (h1 : F j ≤ 255) : byS (strB n F) j = F j := by
  unfold byS
  have h : (strB n F).data[j]? = some (UInt8.ofNat (F j).toNat) := by
    rw [← Array.getElem?_toList, strB_bL]
    simp [bL, hj]
  rw [h]
  show (((UInt8.ofNat (F j).toNat).toNat : Nat) : Int) = F j
  rw [UInt8.toNat_ofNat']
  omega
theorem frameF_byte {f : Nat → Int} (h : ∀ j, j < 48 → 0 ≤ f j ∧ f j ≤ 63) {j : Nat} (hj : j < 54) : 0 ≤ frameF f j ∧ frameF f j ≤ 255 := by
  unfold frameF
  by_cases e : j % 9 = 8
  · rw [if_pos e]; omega
  · rw [if_neg e]
    have := h (8 * (j / 9) + j % 9) (by omega)
    omega
theorem dotF_strB {f : Nat → Int} (h : ∀ j, j < 48 → 0 ≤ f j ∧ f j ≤ 63) {i : Nat} (hi : i < 48) : dotF (strB 54 (frameF f)) i = f i := by
  unfold dotF
  have e : 9 * (i / 8) + i % 8 = i + i / 8 := by omega
  rw [e, byS_strB (by omega) (frameF_byte h (by omega)).1 (frameF_byte h (by omega)).2, frameF_dot]
  omega
theorem frameF_congr {f g : Nat → Int} (h : ∀ j, j < 48 → f j = g j) {j : Nat} (hj : j < 54) : frameF f j = frameF g j := by
  unfold frameF
  by_cases e : j % 9 = 8
  · rw [if_pos e, if_pos e]
  · rw [if_neg e, if_neg e, h _ (by omega)]
theorem frameStr_congr {f g : Nat → Int} (h : ∀ j, j < 48 → f j = g j) : frameStr 48 f = frameStr 48 g := by
  by_cases hf : ∀ j, j < 48 → 0 ≤ f j ∧ f j ≤ 63
  · have hg : ∀ j, j < 48 → 0 ≤ g j ∧ g j ≤ 63 := fun j hj => by rw [← h j hj]; exact hf j hj
    rw [frameStr_yes hf, frameStr_yes hg]
    exact strB_congr (fun i hi => frameF_congr h hi)
  · obtain ⟨j, hj⟩ := Classical.not_forall.1 hf
    obtain ⟨hj1, hj2⟩ := Classical.not_imp.1 hj
    rw [frameStr_no (okFrame_no hj1 hj2), frameStr_no (okFrame_no hj1 (by rw [← h j hj1]; exact hj2))]
theorem frameStr_of {m : Nat} {f : Nat → Int} {s : ByteArray} (h : frameStr m f = s) (hs : s.size ≠ 0) : m = 48 ∧ (∀ j, j < 48 → 0 ≤ f j ∧ f j ≤ 63) ∧ s = strB 54 (frameF f) := by
  cases hok : okFrame m f
  · rw [frameStr_no hok] at h
    exact absurd (by rw [← h]; rfl) hs
  · obtain ⟨rfl, hr⟩ := okFrame_of hok
    exact ⟨rfl, hr, by rw [← h, frameStr_yes hr]⟩
def posL : List Nat := (List.range 48).map (fun i => i + i / 8)
theorem pos_eq : (List.range 54).filter (fun j => !decide (j % 9 = 8)) = posL := by decide
theorem outL_frame {f : Nat → Int} (h : ∀ j, j < 48 → 0 ≤ f j ∧ f j ≤ 63) : outL (strB 54 (frameF f)) 54 = (List.range 48).map f := by
  unfold outL
  have e1 : (List.range 54).filter (fun j => byS (strB 54 (frameF f)) j != 10) = posL := by
    rw [← pos_eq]
    apply List.filter_congr
    intro j hj
    have hj' : j < 54 := List.mem_range.1 hj
    rw [byS_strB hj' (frameF_byte h hj').1 (frameF_byte h hj').2]
    unfold frameF
    by_cases e : j % 9 = 8
    · rw [if_pos e]; simp [e]
    · rw [if_neg e]
      have := h (8 * (j / 9) + j % 9) (by omega)
      have h2 : ¬ (48 + f (8 * (j / 9) + j % 9) = 10) := by omega
      simp [e, h2]
  rw [e1]
  unfold posL
  rw [List.map_map]
  apply List.map_congr_left
  intro i hi
  have hi' : i < 48 := List.mem_range.1 hi
  show byS _ (i + i / 8) - 48 = f i
  rw [byS_strB (by omega) (frameF_byte h (by omega)).1 (frameF_byte h (by omega)).2, frameF_dot]
  omega
theorem okT_of {s : ByteArray} (h : okT s = true) : s.size = 54 ∧ frameStr 48 (dotF s) = s := of_decide_eq_true h
theorem outL_ok {s : ByteArray} (h : okT s = true) : (outL s s.size).length = 48 ∧ ∀ i, i < 48 → nth (outL s s.size) i = dotF s i := by
  obtain ⟨h1, h2⟩ := okT_of h
  obtain ⟨-, hr, he⟩ := frameStr_of h2 (by omega)
  have e : outL s s.size = (List.range 48).map (dotF s) := by
    rw [h1]
    have := outL_frame hr
    rw [← he] at this
    exact this
  rw [e]
  refine ⟨by simp, fun i hi => ?_⟩
  unfold nth
  simp [hi]
theorem outL_str {s : ByteArray} (h : okT s = true) : frameStr (outL s s.size).length (nth (outL s s.size)) = s := by
  obtain ⟨h1, h2⟩ := okT_of h
  obtain ⟨e1, e2⟩ := outL_ok h
  rw [e1, frameStr_congr e2, h2]
theorem outL_bad {s : ByteArray} (h0 : s.size ≠ 0) (h : okT s = false) : frameStr (outL s s.size).length (nth (outL s s.size)) ≠ s := fun hc => by
  obtain ⟨e1, hr, he⟩ := frameStr_of hc h0
  have h54 : s.size = 54 := by rw [he, strB_size]
  have hd : ∀ i, i < 48 → dotF s i = nth (outL s s.size) i := fun i hi => by
    have := dotF_strB hr hi
    rw [← he] at this
    exact this
  have : okT s = true := by
    unfold okT
    rw [decide_eq_true_eq]
    exact ⟨h54, by rw [frameStr_congr hd]; rw [e1] at hc; exact hc⟩
  rw [this] at h
  cases h
def lenT (s : ByteArray) : Nat := if okT s then 48 else 0
theorem own_none {w : World} {lo : Nat} (a : Option Addr) (cap : Nat) (f : Nat → Int) : OwnInts w lo (.slice a 0 cap) 0 f :=
  ⟨a, cap, rfl, by omega, fun i hi => absurd hi (Nat.not_lt_zero _), fun b o ⟨off, _, h1, h2⟩ => by omega, fun b o ⟨off, _, h1, h2⟩ => by omega⟩
theorem below_putX {B b : Nat} {a : World} (hb : B ≤ b) : ∀ (vs : List Value) (o : Nat) (w : World), Below B a w → Below B a (w.setCells b o vs)
  | [], _, _, h => h
  | _ :: vs, o, _, h => below_putX hb vs (o + 1) _ (h.setCell (p := ⟨b, o, none⟩) hb _)
theorem infoIntX : (Tryd.prog.info? 3).map (fun i => (i.zero, i.size, i.bytes)) = some (some (.int .i64 0), 1, 8) := by kernel_rfl
theorem lv_snoc (l : List Int) (x : Int) : (l ++ [x]).map (Value.int .i64) = l.map (Value.int .i64) ++ [.int .i64 x] := by simp
end Go.Proofs.YteefbbnkfclllaaDoor
