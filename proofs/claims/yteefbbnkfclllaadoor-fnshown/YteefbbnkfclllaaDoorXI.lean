/-
  The program's chapter 19: tones and pictures as text.
-/
import Derived.Test.YteefbbnkfclllaaDoorXA
import Derived.Test.YteefbbnkfclllaaDoorB4
import Derived.Test.YteefbbnkfclllaaDoorI8a
import Derived.Test.YteefbbnkfclllaaDoorShelf
namespace Go.Proofs.YteefbbnkfclllaaDoor
set_option linter.unusedVariables false
open Go.ChangeShapes Go.WideShapes Go.ChangeAt Go.RowKit
def bL (n : Nat) (F : Nat → Int) : List UInt8 := (List.range n).map (fun i => UInt8.ofNat (F i).toNat)
theorem bL_len (n : Nat) (F : Nat → Int) : (bL n F).length = n := by simp [bL]
theorem bL_snoc (n : Nat) (F : Nat → Int) : bL (n + 1) F = bL n F ++ [UInt8.ofNat (F n).toNat] := by simp [bL, List.range_succ]
theorem pushAll (l : List Int) (b : ByteArray) : (l.foldl (fun r x => r.push (UInt8.ofNat x.toNat)) b).data.toList = b.data.toList ++ l.map (fun x => UInt8.ofNat x.toNat) := by
  induction l generalizing b with
  | nil => simp
  | cons x xs ih => rw [List.foldl_cons, ih]; simp
theorem strB_bL (n : Nat) (F : Nat → Int) : (strB n F).data.toList = bL n F := by
  unfold strB bL
  rw [pushAll]
  simp [Function.comp_def]
theorem strB_eq (n : Nat) (F : Nat → Int) : (⟨(bL n F).toArray⟩ : ByteArray) = strB n F := by
  rw [← strB_bL]
theorem isB_byte {B b n : Nat} {F : Nat → Int} {c : Int} {w : World} (h : Lib.IsBuilder 42 5 B b (Lib.byteCells (bL n F) ++ [.int .u8 c]) w) (e : F n = c) (h0 : 0 ≤ c) (h1 : c ≤ 255) : IsB B b (bL (n + 1) F) w := by
  unfold IsB
  rw [bL_snoc, Lib.byteCells_append, e]
  have hc : Lib.byteCells [UInt8.ofNat c.toNat] = [.int .u8 c] := by
    have : ((UInt8.ofNat c.toNat).toNat : Int) = c := by
      rw [UInt8.toNat_ofNat']
      omega
    simp [Lib.byteCells]
    omega
  rw [hc]
  exact h
theorem isB_keepX {T e : TypeId} {B b : Nat} {bs : List Value} {w w' : World} (h : Lib.IsBuilder T e B b bs w) (hb : Below w.heap.size w w') : Lib.IsBuilder T e B b bs w' := by
  have key : ∀ p, Lib.BuilderAt T e B b p bs w → Lib.BuilderAt T e B b p bs w' := fun p ⟨hB, v, hbk, hown, hne⟩ =>
    ⟨hB, v, (hb.block b (heap_lt hbk)).trans hbk, hown.kept (row := none) ⟨hb.os, hb.tape, hb.output, hb.size, fun k hk _ => hb.block k hk⟩ (by cases v.ownBlock <;> simp), hne⟩
  rcases h with h | h
  · exact Or.inl (key _ h)
  · exact Or.inr (key _ h)
theorem toneF_byte (x : Int) : 0 ≤ toneF x ∧ toneF x ≤ 255 := by
  unfold toneF
  split
  · decide
  · split <;> decide
theorem implToneMark (x : Int) (w : World) : Calls Tryd.prog 30 #[.int .i64 x] w fun e w' => e = .returned (.int .u8 (toneF x)) ∧ w' = w := by
  obtain ⟨r, hr⟩ : ∃ r, Hid (r = toneF x) := ⟨_, rfl⟩
  rw [← hr.out]
  by_cases x0 : x = 0
  · have x0' : (x == 0) = true := by simp [x0]
    have e : Hid (r = 45) := by show _ = _; rw [hr.out]; unfold toneF; rw [if_pos x0]
    clear x0
    go_enter Tryd.func30, Tryd.ntmps30
    go_wp2
    go_ret
    exact ⟨by rw [e.out]; rfl, rfl⟩
  · have x0' : (x == 0) = false := by simp [x0]
    by_cases x8 : x = 8
    · have x8' : (x == 8) = true := by simp [x8]
      have e : Hid (r = 94) := by show _ = _; rw [hr.out]; unfold toneF; rw [if_neg x0, if_pos x8]
      clear x0 x8
      go_enter Tryd.func30, Tryd.ntmps30
      go_wp2
      go_ret
      exact ⟨by rw [e.out]; rfl, rfl⟩
    · have x8' : (x == 8) = false := by simp [x8]
      have e : Hid (r = 63) := by show _ = _; rw [hr.out]; unfold toneF; rw [if_neg x0, if_neg x8]
      clear x0 x8
      go_enter Tryd.func30, Tryd.ntmps30
      go_wp2
      go_ret
      exact ⟨by rw [e.out]; rfl, rfl⟩
set_option maxRecDepth 20000 in
set_option maxHeartbeats 2000000 in
theorem implToneText (w : World) (F : Nat → Nat → Prop) (u : Value) (n : Nat) (f : Nat → Int) (H : Ints .i64 w F u n f) :
    Calls Tryd.prog 14 #[u] w fun e w' => e = .returned (.string (strB n (fun i => toneF (f i)))) ∧ Below w.heap.size w w' := by
  obtain ⟨a, cap, rfl, hn, hr, -⟩ := H
  have HR := hide hr
  clear hr
  go_enter Tryd.func14, Tryd.ntmps14
  go_wp2_with fail
  have B0 : IsB w.heap.size w.heap.size (bL 0 (fun i => toneF (f i))) (w.alloc (.cells #[.pointer none, .slice none 0 0] 42)) := Lib.fresh_isBuilder _ _ w
  have L0 : Below w.heap.size w (w.alloc (.cells #[.pointer none, .slice none 0 0] 42)) := (Below.refl _ _).alloc (Nat.le_refl _) _
  go_loopw [7] (fun ix wr => ∃ q : Nat, q ≤ n ∧ ix = .int .i64 q ∧ IsB w.heap.size w.heap.size (bL q (fun i => toneF (f i))) wr ∧ Below w.heap.size w wr) (fun ix _ => n - (intOf ix).toNat)
  case atStart => exact ⟨0, Nat.zero_le _, rfl, B0, L0⟩
  case round =>
    obtain ⟨q, hq, rfl, hB, hbel⟩ := hrel
    clear B0 L0
    have hwz := hbel.size
    by_cases hlt : q < n
    · have hlt' : (q : Int) < (n : Int) := by omega
      obtain ⟨b, o, rfl, hc0⟩ := HR.out q hlt
      have hc : wr.cell? ⟨b, o + q, none⟩ = some (.int .i64 (f q)) := (hbel.cell (block_lt_of_cell hc0)).trans hc0
      obtain ⟨x, hx⟩ : ∃ x, Hid (x = f q) := ⟨_, rfl⟩
      rw [← hx.out] at hc
      have hl : (Lib.byteCells (bL q (fun i => toneF (f i)))).length + 1 ≤ 1048576 := by simp [Lib.byteCells, bL_len]; omega
      go_wp2_with fail
      refine (implToneMark _ _).mono ?_
      rintro e w2 ⟨rfl, rfl⟩
      go_wp2_with fail
      refine (writeByte _ _ _ _ _ hB hl hwz).mono ?_
      rintro e w3 ⟨rfl, hB3, L3⟩
      have hB4 := isB_byte (F := fun i => toneF (f i)) hB3 (show toneF (f q) = toneF x by rw [hx.out]) (toneF_byte _).1 (toneF_byte _).2
      have C3 := hbel.trans L3
      clear hB hB3 L3
      go_wp2
      go_roundw
      case rel => exact ⟨q + 1, by omega, by go_num, hB4, C3⟩
      case measure => simp [intOf]; omega
    · have hkn : q = n := by omega
      subst hkn
      have hlt' : ¬ (q : Int) < (q : Int) := by omega
      go_wp2_with fail
      refine (Tryd.Builder_String_any _ _ _ _ hB hwz).mono ?_
      rintro e w3 ⟨rfl, L3⟩
      have C3 := hbel.trans L3
      go_wp2
      go_ret
      exact ⟨by rw [strB_eq]; rfl, C3⟩
theorem okFrame_all (n : Nat) (f : Nat → Int) : (decide ((n : Int) = 48) && allIn n f 0 63) = okFrame n f := by
  by_cases h : n = 48
  · subst h
    by_cases h2 : ∀ j, j < 48 → 0 ≤ f j ∧ f j ≤ 63
    · rw [okFrame_yes h2, allIn_yes h2]; rfl
    · obtain ⟨j, hj⟩ := Classical.not_forall.1 h2
      obtain ⟨hj1, hj2⟩ := Classical.not_imp.1 hj
      rw [okFrame_no hj1 hj2, allIn_no hj1 hj2]; rfl
  · rw [okFrame_len h]
    have : ¬ (n : Int) = 48 := by omega
    simp [this]
set_option maxRecDepth 20000 in
set_option maxHeartbeats 2000000 in
theorem implFrameText (w : World) (F : Nat → Nat → Prop) (u : Value) (n : Nat) (f : Nat → Int) (H : Ints .i64 w F u n f) :
    Calls Tryd.prog 6 #[u] w fun e w' => e = .returned (.string (frameStr n f)) ∧ Below w.heap.size w w' := by
  have HCOL := isColours w F u n f 48 H (by decide)
  rw [okFrame_all] at HCOL
  obtain ⟨a, cap, rfl, hn, hr, -⟩ := H
  have HR := hide hr
  clear hr
  obtain ⟨r, hr⟩ : ∃ r, Hid (r = frameStr n f) := ⟨_, rfl⟩
  rw [← hr.out]
  by_cases hok : okFrame n f = true
  · have h48 : n = 48 := by
      unfold okFrame at hok
      simp at hok
      exact hok.1
    subst h48
    have HA : Hid (∀ j, j < 48 → 0 ≤ f j ∧ f j ≤ 63) := by
      show ∀ j, _
      unfold okFrame at hok
      simp at hok
      exact fun j hj => hok j hj
    rw [hok] at HCOL
    have HE : Hid (r = strB 54 (frameF f)) := by show _ = _; rw [hr.out]; exact frameStr_yes HA.out
    go_enter Tryd.func6, Tryd.ntmps6
    go_wp2_with fail
    refine HCOL.mono ?_
    rintro e w0 ⟨rfl, L00⟩
    clear HCOL
    have hw0 := L00.size
    go_wp2_with fail
    have B0 : IsB w0.heap.size w0.heap.size (bL (9 * 0) (frameF f)) (w0.alloc (.cells #[.pointer none, .slice none 0 0] 42)) := Lib.fresh_isBuilder _ _ w0
    have L0 : Below w.heap.size w (w0.alloc (.cells #[.pointer none, .slice none 0 0] 42)) := L00.alloc hw0 _
    have hw1 : w0.heap.size ≤ (w0.alloc (.cells #[.pointer none, .slice none 0 0] 42)).heap.size := by simp
    generalize w0.alloc (.cells #[.pointer none, .slice none 0 0] 42) = w1 at *
    clear L00
    go_loopw [9] (fun ix wr => ∃ p : Nat, p ≤ 6 ∧ ix = .int .i64 p ∧ IsB w0.heap.size w0.heap.size (bL (9 * p) (frameF f)) wr ∧ Below w.heap.size w wr ∧ w0.heap.size ≤ wr.heap.size) (fun ix _ => 6 - (intOf ix).toNat)
    case atStart => exact ⟨0, Nat.zero_le _, rfl, B0, L0, hw1⟩
    case round =>
      obtain ⟨p, hp, rfl, hB, hbel, hwz⟩ := hrel
      clear B0
      obtain ⟨wo, hwo⟩ : ∃ x, x = wr := ⟨_, rfl⟩
      subst hwo
      by_cases hlt : p < 6
      · have hlt' : (p : Int) < 6 := by omega
        have hB0 : IsB w0.heap.size w0.heap.size (bL (9 * p + 0) (frameF f)) wo := hB
        go_wp2_with fail
        go_loopw [12] (fun jx wr => ∃ k : Nat, k ≤ 8 ∧ jx = .int .i64 k ∧ IsB w0.heap.size w0.heap.size (bL (9 * p + k) (frameF f)) wr ∧ Below w.heap.size w wr ∧ w0.heap.size ≤ wr.heap.size) (fun jx _ => 8 - (intOf jx).toNat)
        case atStart => exact ⟨0, Nat.zero_le _, rfl, hB0, hbel, hwz⟩
        case round =>
          obtain ⟨k, hk, rfl, hBk, hbelk, hwzk⟩ := hrel
          clear hB hB0 hbel hwz
          by_cases hlk : k < 8
          · have hlk' : (k : Int) < 8 := by omega
            obtain ⟨b, o, rfl, hcw⟩ := HR.out (8 * p + k) (by omega)
            have hc0 : wr.cell? ⟨b, o + (8 * p + k), none⟩ = some (.int .i64 (f (8 * p + k))) := (hbelk.cell (block_lt_of_cell hcw)).trans hcw
            obtain ⟨x, hx⟩ : ∃ x, Hid (x = f (8 * p + k)) := ⟨_, rfl⟩
            rw [← hx.out] at hc0
            have hxx : 0 ≤ x ∧ x ≤ 63 := by rw [hx.out]; exact HA.out _ (by omega)
            obtain ⟨hx0, hx1⟩ := hxx
            have hl : (Lib.byteCells (bL (9 * p + k) (frameF f))).length + 1 ≤ 1048576 := by simp [Lib.byteCells, bL_len]; omega
            have hF : Hid (frameF f (9 * p + k) = 48 + x) := by
              show _ = _
              rw [hx.out, show 9 * p + k = (8 * p + k) + (8 * p + k) / 8 by omega, frameF_dot]
            have hidx : (p : Int) * 8 + (k : Int) = ((8 * p + k : Nat) : Int) := by omega
            go_wp2_with fail
            refine (writeByte _ _ _ (48 + x) _ hBk hl hwzk).mono ?_
            rintro e w3 ⟨rfl, hB3, L3⟩
            have hB4 := isB_byte (F := frameF f) hB3 hF.out (by omega) (by omega)
            have C3 := hbelk.trans (L3.mono hw0)
            go_wp2
            go_roundw
            case rel => exact ⟨k + 1, by omega, by go_num, hB4, C3, Nat.le_trans hwzk L3.size⟩
            case measure => simp [intOf]; omega
          · have hk8 : k = 8 := by omega
            subst hk8
            have hlk' : ¬ ((8 : Nat) : Int) < 8 := by omega
            have hl : (Lib.byteCells (bL (9 * p + 8) (frameF f))).length + 1 ≤ 1048576 := by simp [Lib.byteCells, bL_len]; omega
            have hF : Hid (frameF f (9 * p + 8) = 10) := by
              show _ = _
              unfold frameF
              rw [if_pos (by omega)]
            go_wp2_with fail
            refine (writeByte _ _ _ 10 _ hBk hl hwzk).mono ?_
            rintro e w3 ⟨rfl, hB3, L3⟩
            have hB4 : IsB w0.heap.size w0.heap.size (bL (9 * (p + 1)) (frameF f)) w3 := isB_byte (F := frameF f) hB3 hF.out (by omega) (by omega)
            have C3 := hbelk.trans (L3.mono hw0)
            go_wp2
            go_roundw
            case rel => exact ⟨p + 1, by omega, by go_num, hB4, C3, Nat.le_trans hwzk L3.size⟩
            case measure => simp [intOf]; omega
      · have hp6 : p = 6 := by omega
        subst hp6
        have hlt' : ¬ ((6 : Nat) : Int) < 6 := by omega
        go_wp2_with fail
        refine (Tryd.Builder_String_any _ _ _ _ hB hwz).mono ?_
        rintro e w3 ⟨rfl, L3⟩
        have C3 := hbel.trans (L3.mono hw0)
        go_wp2
        go_ret
        exact ⟨by rw [HE.out, strB_eq]; rfl, C3⟩
  · have hok' : okFrame n f = false := by simpa using hok
    rw [hok'] at HCOL
    have HE : Hid (r = ⟨#[]⟩) := by show _ = _; rw [hr.out]; exact frameStr_no hok'
    go_enter Tryd.func6, Tryd.ntmps6
    go_wp2_with fail
    refine HCOL.mono ?_
    rintro e w0 ⟨rfl, L00⟩
    go_wp2
    go_ret
    exact ⟨by rw [HE.out]; rfl, L00⟩
end Go.Proofs.YteefbbnkfclllaaDoor
