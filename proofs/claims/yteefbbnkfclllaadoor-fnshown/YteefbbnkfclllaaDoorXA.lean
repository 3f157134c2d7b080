/-
  Chapter 19 of the specification by its contracts: rows of bytes that grow byte by byte and become a string; ToneText, FrameText.
-/
import Derived.Test.YteefbbnkfclllaaDoorY2
import Derived.Test.YteefbbnkfclllaaDoorC5
import Derived.Laws.BytesString
namespace Go.Proofs.YteefbbnkfclllaaDoor
open Go.ChangeShapes Go.WideShapes Go.ChangeAt Go.RowKit
/-- The string of n bytes. -/
def strB (n : Nat) (F : Nat → Int) : ByteArray := ((List.range n).map F).foldl (fun r x => r.push (UInt8.ofNat x.toNat)) ByteArray.empty
theorem strB_zero (F : Nat → Int) : strB 0 F = ByteArray.empty := rfl
theorem vals_ints (n : Nat) (F : Nat → Int) : vals .u8 n F = ((List.range n).map F).map (Value.int .u8) := by simp [vals]
theorem strB_congr {n : Nat} {F G : Nat → Int} (h : ∀ i, i < n → F i = G i) : strB n F = strB n G := by
  unfold strB
  rw [List.map_congr_left (fun i hi => h i (List.mem_range.1 hi))]
theorem own_cellsB {W : World} {lo g n c : Nat} {e : TypeId} {vs : List Value} (h : W.ownsRow lo e 1 (.slice (some ⟨g, 0, none⟩) n c) n vs) : ∀ j u, vs[j]? = some u → W.cell? ((⟨g, 0, none⟩ : Addr).add j) = some u := fun j u hu => by
  have hl : vs.length = n := by have := h.1; omega
  have hj : j < n := by
    by_cases q : j < n
    · exact q
    · rw [List.getElem?_eq_none (by omega)] at hu; cases hu
  rw [add_at, Nat.zero_add, h.cellAt j (by omega)]
  exact hu
theorem convB (W : World) (lo g n c : Nat) (e : TypeId) (F : Nat → Int) (h : W.ownsRow lo e 1 (.slice (some ⟨g, 0, none⟩) n c) n (vals .u8 n F)) :
    (convert 22 9 (.slice (some ⟨g, 0, none⟩) n c)).run Tryd.prog W = .ok (.string (strB n F)) W := by
  rw [run_convert_bytes_string W 22 9 5 _ _ _ Tryd.underlying22 Tryd.underlying5 Tryd.underlying9]
  have hl := run_loadCells_list (P := Tryd.prog) W ⟨g, 0, none⟩ _ (own_cellsB h)
  rw [vals_len, vals_ints] at hl
  rw [run_bytesToString W ⟨g, 0, none⟩ n c _ hl]
  rfl
theorem infoByteX : (Tryd.prog.info? 5).map (fun i => (i.zero, i.size, i.bytes)) = some (some (.int .u8 0), 1, 1) := by kernel_rfl
def toneF (x : Int) : Int := if x = 0 then 45 else if x = 8 then 94 else 63
set_option maxHeartbeats 2000000 in
theorem specToneText (w : World) (F : Nat → Nat → Prop) (u : Value) (n : Nat) (f : Nat → Int) (H : Ints .i64 w F u n f) :
    Calls Tryd.prog 15 #[u] w fun e w' => e = .returned (.string (strB n (fun i => toneF (f i)))) ∧ Below w.heap.size w w' := by
  obtain ⟨a, cap, rfl, hn, hr, -⟩ := H
  have HR := hide hr
  clear hr
  obtain ⟨i0, hi, hz0, hz1, hz2⟩ := info_parts infoByteX
  have HO0 := hide (World.ownsRow_made (base := w.heap.size) (e := 5) (size := 1) w #[] 0 (Nat.le_refl _) (by unfold maxLen; omega) rfl)
  have hB0 : Below w.heap.size w (w.alloc (.cells #[] 5)) := (Below.refl _ _).alloc (Nat.le_refl _) _
  go_enter Tryd.func15, Tryd.ntmps15
  go_wp2
  go_loopw [3, 4] (fun out i wr => ∃ q g cp : Nat, q ≤ n ∧ i = .int .i64 q ∧ out = .slice (some ⟨g, 0, none⟩) q cp ∧ wr.ownsRow w.heap.size 5 1 (.slice (some ⟨g, 0, none⟩) q cp) q (vals .u8 q (fun i => toneF (f i))) ∧ Below w.heap.size w wr) (fun _ i _ => n - (intOf i).toNat)
  case atStart => exact ⟨0, _, 0, Nat.zero_le _, rfl, rfl, HO0.out, hB0⟩
  case round =>
    obtain ⟨q, g, cp, hq, rfl, rfl, hown, hbel⟩ := hrel
    have HO := hide hown
    clear hown
    have hwz := hbel.size
    by_cases hlt : q < n
    · have hlt' : (q : Int) < (n : Int) := by omega
      obtain ⟨b, o, rfl, hc0⟩ := HR.out q hlt
      have hc : wr.cell? ⟨b, o + q, none⟩ = some (.int .i64 (f q)) := (hbel.cell (block_lt_of_cell hc0)).trans hc0
      obtain ⟨x, hx⟩ : ∃ x, Hid (x = f q) := ⟨_, rfl⟩
      rw [← hx.out] at hc
      by_cases x0 : x = 0
      · have x0' : (x == 0) = true := by simp [x0]
        have xx : x == 0 := by simp [x0]
        go_wp2_with (at_builtin; refine wpList_append_lies _ rfl (.tmp 21) (.tmp 22) 22 rfl w.heap.size 5 i0 (.int .u8 0) 1 1 Tryd.underlying22 hi hz0 hz1 hz2 rfl (by decide) _ _ _ rfl ((unhide HO).alloc _) ⟨wr.heap.size, 0, none⟩ 1 1 [.int .u8 45] rfl rfl ?c1 ?c2 (by decide) ?c3 ?c4 ?c5 _ rfl ?_)
        case c1 => exact new_row _ #[.int .u8 45] 5 (0, 0) _ rfl
        case c2 => first | rfl | (intro u hu; simp at hu; subst hu; rfl)
        case c3 => unfold maxLen; omega
        case c4 => omega
        case c5 => first | omega | (simp; omega)
        intro g3 cp3 w3 hown3 hgrow hat hlt3
        have hb3 : Below w.heap.size w w3 := (hbel.alloc hwz _).grown hgrow (by simp; omega) (fun k hk => ((unhide HO).lt k hk).1)
        have HO3 := hide (own_snoc hown3 (show toneF (f q) = 45 by rw [← hx.out]; unfold toneF; rw [if_pos x0]))
        clear hown3 hgrow hat HO
        go_wp2
        go_roundw
        case rel => exact ⟨q + 1, g3, cp3, by omega, by go_num, rfl, unhide HO3, hb3⟩
        case measure => simp [intOf]; omega
      · by_cases x8 : x = 8
        · have x0' : (x == 0) = false := by simp [x0]
          have x8' : (x == 8) = true := by simp [x8]
          go_wp2_with (at_builtin; refine wpList_append_lies _ rfl (.tmp 26) (.tmp 27) 22 rfl w.heap.size 5 i0 (.int .u8 0) 1 1 Tryd.underlying22 hi hz0 hz1 hz2 rfl (by decide) _ _ _ rfl ((unhide HO).alloc _) ⟨wr.heap.size, 0, none⟩ 1 1 [.int .u8 94] rfl rfl ?c1 ?c2 (by decide) ?c3 ?c4 ?c5 _ rfl ?_)
          case c1 => exact new_row _ #[.int .u8 94] 5 (0, 0) _ rfl
          case c2 => first | rfl | (intro u hu; simp at hu; subst hu; rfl)
          case c3 => unfold maxLen; omega
          case c4 => omega
          case c5 => first | omega | (simp; omega)
          intro g3 cp3 w3 hown3 hgrow hat hlt3
          have hb3 : Below w.heap.size w w3 := (hbel.alloc hwz _).grown hgrow (by simp; omega) (fun k hk => ((unhide HO).lt k hk).1)
          have HO3 := hide (own_snoc hown3 (show toneF (f q) = 94 by rw [← hx.out]; unfold toneF; rw [if_neg x0, if_pos x8]))
          clear hown3 hgrow hat HO
          go_wp2
          go_roundw
          case rel => exact ⟨q + 1, g3, cp3, by omega, by go_num, rfl, unhide HO3, hb3⟩
          case measure => simp [intOf]; omega
        · have x0' : (x == 0) = false := by simp [x0]
          have x8' : (x == 8) = false := by simp [x8]
          go_wp2_with (at_builtin; refine wpList_append_lies _ rfl (.tmp 16) (.tmp 17) 22 rfl w.heap.size 5 i0 (.int .u8 0) 1 1 Tryd.underlying22 hi hz0 hz1 hz2 rfl (by decide) _ _ _ rfl ((unhide HO).alloc _) ⟨wr.heap.size, 0, none⟩ 1 1 [.int .u8 63] rfl rfl ?c1 ?c2 (by decide) ?c3 ?c4 ?c5 _ rfl ?_)
          case c1 => exact new_row _ #[.int .u8 63] 5 (0, 0) _ rfl
          case c2 => first | rfl | (intro u hu; simp at hu; subst hu; rfl)
          case c3 => unfold maxLen; omega
          case c4 => omega
          case c5 => first | omega | (simp; omega)
          intro g3 cp3 w3 hown3 hgrow hat hlt3
          have hb3 : Below w.heap.size w w3 := (hbel.alloc hwz _).grown hgrow (by simp; omega) (fun k hk => ((unhide HO).lt k hk).1)
          have HO3 := hide (own_snoc hown3 (show toneF (f q) = 63 by rw [← hx.out]; unfold toneF; rw [if_neg x0, if_neg x8]))
          clear hown3 hgrow hat HO
          go_wp2
          go_roundw
          case rel => exact ⟨q + 1, g3, cp3, by omega, by go_num, rfl, unhide HO3, hb3⟩
          case measure => simp [intOf]; omega
    · have hkn : q = n := by omega
      subst hkn
      have hlt' : ¬ (q : Int) < (q : Int) := by omega
      have HC := convB wr _ g q cp _ _ HO.out
      go_wp2
      go_ret
      exact ⟨rfl, hbel⟩
def frameF (f : Nat → Int) (j : Nat) : Int := if j % 9 = 8 then 10 else 48 + f (8 * (j / 9) + j % 9)
theorem frameF_dot (f : Nat → Int) (q : Nat) : frameF f (q + q / 8) = 48 + f q := by
  unfold frameF
  rw [if_neg (by omega), show 8 * ((q + q / 8) / 9) + (q + q / 8) % 9 = q by omega]
theorem frameF_end (f : Nat → Int) (q : Nat) (h : q % 8 = 7) : frameF f (q + q / 8 + 1) = 10 := by
  unfold frameF
  rw [if_pos (by omega)]
def okFrame (n : Nat) (f : Nat → Int) : Bool := decide (n = 48) && decide (∀ j, j < n → 0 ≤ f j ∧ f j ≤ 63)
theorem okFrame_len {n : Nat} {f : Nat → Int} (h : n ≠ 48) : okFrame n f = false := by simp [okFrame, h]
theorem okFrame_no {n j : Nat} {f : Nat → Int} (hj : j < n) (h : ¬ (0 ≤ f j ∧ f j ≤ 63)) : okFrame n f = false := by
  unfold okFrame
  rw [decide_eq_false (p := ∀ j, j < n → 0 ≤ f j ∧ f j ≤ 63) (fun x => h (x j hj)), Bool.and_false]
theorem okFrame_yes {f : Nat → Int} (h : ∀ j, j < 48 → 0 ≤ f j ∧ f j ≤ 63) : okFrame 48 f = true := by
  unfold okFrame
  rw [decide_eq_true h]
  rfl
def frameStr (n : Nat) (f : Nat → Int) : ByteArray := if okFrame n f then strB 54 (frameF f) else ByteArray.empty
theorem frameStr_no {n : Nat} {f : Nat → Int} (h : okFrame n f = false) : frameStr n f = ⟨#[]⟩ := by unfold frameStr; rw [h]; rfl
theorem frameStr_yes {f : Nat → Int} (h : ∀ j, j < 48 → 0 ≤ f j ∧ f j ≤ 63) : frameStr 48 f = strB 54 (frameF f) := by unfold frameStr; rw [okFrame_yes h]; rfl
set_option maxHeartbeats 2000000 in
theorem specFrameText (w : World) (F : Nat → Nat → Prop) (u : Value) (n : Nat) (f : Nat → Int) (H : Ints .i64 w F u n f) :
    Calls Tryd.prog 7 #[u] w fun e w' => e = .returned (.string (frameStr n f)) ∧ Below w.heap.size w w' := by
  obtain ⟨a, cap, rfl, hn, hr, -⟩ := H
  have HR := hide hr
  clear hr
  obtain ⟨r, hr⟩ : ∃ r, Hid (r = frameStr n f) := ⟨_, rfl⟩
  rw [← hr.out]
  by_cases h48 : n = 48
  · subst h48
    obtain ⟨i0, hi, hz0, hz1, hz2⟩ := info_parts infoByteX
    have HO0 := hide (World.ownsRow_made (base := w.heap.size) (e := 5) (size := 1) w #[] 0 (Nat.le_refl _) (by unfold maxLen; omega) rfl)
    have hB0 : Below w.heap.size w (w.alloc (.cells #[] 5)) := (Below.refl _ _).alloc (Nat.le_refl _) _
    go_enter Tryd.func7, Tryd.ntmps7
    go_wp2
    go_loopw [3, 4] (fun out i wr => ∃ q m g cp : Nat, q ≤ 48 ∧ m = q + q / 8 ∧ i = .int .i64 q ∧ out = .slice (some ⟨g, 0, none⟩) m cp ∧ wr.ownsRow w.heap.size 5 1 (.slice (some ⟨g, 0, none⟩) m cp) m (vals .u8 m (frameF f)) ∧ (∀ j, j < q → 0 ≤ f j ∧ f j ≤ 63) ∧ Below w.heap.size w wr) (fun _ i _ => 48 - (intOf i).toNat)
    case atStart => exact ⟨0, 0, _, 0, Nat.zero_le _, rfl, rfl, rfl, HO0.out, fun _ h => absurd h (Nat.not_lt_zero _), hB0⟩
    case round =>
      obtain ⟨q, m, g, cp, hq, hm, rfl, rfl, hown, hall, hbel⟩ := hrel
      have HO := hide hown
      have HA := hide hall
      have HM : Hid (m = q + q / 8) := hm
      have hm54 : m ≤ 54 := by omega
      clear hown hall hm
      have hwz := hbel.size
      by_cases hlt : q < 48
      · have hlt' : (q : Int) < 48 := by omega
        obtain ⟨b, o, rfl, hc0⟩ := HR.out q hlt
        have hbw := block_lt_of_cell hc0
        have hc : wr.cell? ⟨b, o + q, none⟩ = some (.int .i64 (f q)) := (hbel.cell hbw).trans hc0
        obtain ⟨x, hx⟩ : ∃ x, Hid (x = f q) := ⟨_, rfl⟩
        rw [← hx.out] at hc
        by_cases hin : 0 ≤ x ∧ x ≤ 63
        · have HI := hide (fun W => l1In x 0 63 W)
          rw [inB_yes hin] at HI
          obtain ⟨hx0, hx1⟩ := hin
          have HD : Hid (frameF f m = 48 + x) := by show _ = _; rw [HM.out, frameF_dot, hx.out]
          have HA2 : Hid (∀ j, j < q + 1 → 0 ≤ f j ∧ f j ≤ 63) := fun j hj => by
            by_cases e : j = q
            · rw [e, ← hx.out]; exact ⟨hx0, hx1⟩
            · exact HA.out j (by omega)
          go_wp2_with fail
          refine (unhide HI _).mono ?_
          rintro e w1 ⟨rfl, rfl⟩
          go_wp2_with (at_builtin; refine wpList_append_lies _ rfl (.tmp 21) (.tmp 28) 22 rfl w.heap.size 5 i0 (.int .u8 0) 1 1 Tryd.underlying22 hi hz0 hz1 hz2 rfl (by decide) _ _ _ rfl ((unhide HO).alloc _) ⟨w1.heap.size, 0, none⟩ 1 1 [.int .u8 (48 + x)] rfl rfl ?c1 ?c2 (by decide) ?c3 ?c4 ?c5 _ rfl ?_)
          case c1 => exact new_row _ #[.int .u8 (48 + x)] 5 (0, 0) _ rfl
          case c2 => first | rfl | (intro u hu; simp at hu; subst hu; rfl)
          case c3 => unfold maxLen; omega
          case c4 => omega
          case c5 => first | omega | (simp; omega)
          intro g3 cp3 w3 hown3 hgrow hat hlt3
          have hb3 : Below w.heap.size w w3 := (hbel.alloc hwz _).grown hgrow (by simp; omega) (fun k hk => ((unhide HO).lt k hk).1)
          have HO3 := hide (own_snoc hown3 HD.out)
          clear hown3 hgrow hat HO
          by_cases h7 : q % 8 = 7
          · have h7' : (q : Int) % 8 = 7 := by omega
            have HD2 : Hid (frameF f (m + 1) = 10) := by show _ = _; rw [HM.out]; exact frameF_end f q h7
            have hwz3 := hb3.size
            have HM2 : Hid (m + 1 + 1 = (q + 1) + (q + 1) / 8) := by show _ = _; rw [HM.out]; omega
            clear HM
            go_wp2_with (at_builtin; refine wpList_append_lies _ rfl (.tmp 33) (.tmp 34) 22 rfl w.heap.size 5 i0 (.int .u8 0) 1 1 Tryd.underlying22 hi hz0 hz1 hz2 rfl (by decide) _ _ _ rfl ((unhide HO3).alloc _) ⟨w3.heap.size, 0, none⟩ 1 1 [.int .u8 10] rfl rfl ?c1 ?c2 (by decide) ?c3 ?c4 ?c5 _ rfl ?_)
            case c1 => exact new_row _ #[.int .u8 10] 5 (0, 0) _ rfl
            case c2 => first | rfl | (intro u hu; simp at hu; subst hu; rfl)
            case c3 => unfold maxLen; omega
            case c4 => omega
            case c5 => first | omega | (simp; omega)
            intro g4 cp4 w4 hown4 hgrow4 hat4 hlt4
            have hb4 : Below w.heap.size w w4 := (hb3.alloc hwz3 _).grown hgrow4 (by simp; omega) (fun k hk => ((unhide HO3).lt k hk).1)
            have HO4 := hide (own_snoc hown4 HD2.out)
            clear hown4 hgrow4 hat4 HO3
            go_wp2
            go_roundw
            case rel => exact ⟨q + 1, _, g4, cp4, by omega, HM2.out, by go_num, rfl, unhide HO4, HA2.out, hb4⟩
            case measure => simp [intOf]; omega
          · have h7' : ¬ (q : Int) % 8 = 7 := by omega
            have HM2 : Hid (m + 1 = (q + 1) + (q + 1) / 8) := by show _ = _; rw [HM.out]; omega
            clear HM
            go_wp2
            go_roundw
            case rel => exact ⟨q + 1, _, g3, cp3, by omega, HM2.out, by go_num, rfl, unhide HO3, HA2.out, hb3⟩
            case measure => simp [intOf]; omega
        · have HI := hide (fun W => l1In x 0 63 W)
          rw [inB_no hin] at HI
          have HE : Hid (r = ⟨#[]⟩) := by show _ = _; rw [hr.out]; exact frameStr_no (okFrame_no hlt (by rw [← hx.out]; exact hin))
          clear hin
          go_wp2_with fail
          refine (unhide HI _).mono ?_
          rintro e w1 ⟨rfl, rfl⟩
          go_wp2
          go_ret
          exact ⟨by rw [HE.out]; rfl, hbel⟩
      · have hkn : q = 48 := by omega
        subst hkn
        have hlt' : ¬ ((48 : Nat) : Int) < 48 := by omega
        have hmm : m = 54 := HM.out
        subst hmm
        have HC := convB wr _ g 54 cp _ _ HO.out
        have HE : Hid (r = strB 54 (frameF f)) := by show _ = _; rw [hr.out]; exact frameStr_yes HA.out
        rw [← HE.out] at HC
        go_wp2
        go_ret
        exact ⟨rfl, hbel⟩
  · have h48' : ¬ (n : Int) = 48 := by omega
    have HE : Hid (r = ⟨#[]⟩) := by show _ = _; rw [hr.out]; exact frameStr_no (okFrame_len h48)
    go_enter Tryd.func7, Tryd.ntmps7
    go_wp2
    go_ret
    exact ⟨by rw [HE.out]; rfl, Below.refl _ _⟩
end Go.Proofs.YteefbbnkfclllaaDoor
