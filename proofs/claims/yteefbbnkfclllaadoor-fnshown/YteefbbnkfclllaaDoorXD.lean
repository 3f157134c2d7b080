/-
  Chapter 19: FrameRead of the specification and of the program by their contracts.
-/
import Derived.Test.YteefbbnkfclllaaDoorXC
namespace Go.Proofs.YteefbbnkfclllaaDoor
set_option linter.unusedVariables false
set_option linter.unusedSimpArgs false
open Go.ChangeShapes Go.WideShapes Go.ChangeAt Go.RowKit
def dotTo (s : ByteArray) (q j : Nat) : Int := if j < q then dotF s j else 0
theorem dotTo_step (s : ByteArray) (q j : Nat) : (if j = q then .int .i64 (dotF s q) else .int .i64 (dotTo s q j) : Value) = .int .i64 (dotTo s (q + 1) j) := by
  unfold dotTo
  by_cases e : j = q
  · subst e; rw [if_pos rfl, if_pos (by omega)]
  · rw [if_neg e]
    by_cases h : j < q
    · rw [if_pos h, if_pos (by omega)]
    · rw [if_neg h, if_neg (by omega)]
set_option maxRecDepth 20000 in
set_option maxHeartbeats 2000000 in
theorem implDotsIn (w : World) (s : ByteArray) (hs : s.size = 54) :
    Calls Tryd.prog 25 #[.string s] w fun e w' => e = .returned (.slice (some ⟨w.heap.size, 0, none⟩) 48 48) ∧ w'.rowIs w.heap.size 3 48 (fun j => .int .i64 (dotF s j)) ∧ Below w.heap.size w w' := by
  have hmk := run_make_row' (P := Tryd.prog) 24 3 (.int .i64 0) 8 Tryd.underlying24 info3 rfl .i64 .i64 48 (by omega) (by omega)
  simp only [show ((48 : Nat) : Int) = 48 from rfl] at hmk
  have HS := hide hs
  clear hs
  have R0 := (World.rowIs_made w (.int .i64 0) 48 3).congr (g := fun j => .int .i64 (dotTo s (8 * 0) j)) (fun i _ => by unfold dotTo; rw [if_neg (by omega)])
  have B0 : Below w.heap.size w (w.alloc (.cells (madeCells #[.int .i64 0] 48) 3)) := (Below.refl _ _).alloc (Nat.le_refl _) _
  go_enter Tryd.func25, Tryd.ntmps25
  go_wp2
  go_loopw [7] (fun ix wr => ∃ p : Nat, p ≤ 6 ∧ ix = .int .i64 p ∧ wr.rowIs w.heap.size 3 48 (fun j => .int .i64 (dotTo s (8 * p) j)) ∧ Below w.heap.size w wr) (fun ix _ => 6 - (intOf ix).toNat)
  case atStart => exact ⟨0, Nat.zero_le _, rfl, R0, B0⟩
  case round =>
    obtain ⟨p, hp, rfl, hrow, hbel⟩ := hrel
    clear R0 B0
    obtain ⟨wo, hwo⟩ : ∃ x, x = wr := ⟨_, rfl⟩
    subst hwo
    by_cases hlt : p < 6
    · have hlt' : (p : Int) < 6 := by omega
      have hrow0 : wo.rowIs w.heap.size 3 48 (fun j => .int .i64 (dotTo s (8 * p + 0) j)) := hrow
      clear hrow
      go_wp2_with fail
      go_loopw [10] (fun jx wr => ∃ k : Nat, k ≤ 8 ∧ jx = .int .i64 k ∧ wr.rowIs w.heap.size 3 48 (fun j => .int .i64 (dotTo s (8 * p + k) j)) ∧ Below w.heap.size w wr) (fun jx _ => 8 - (intOf jx).toNat)
      case atStart => exact ⟨0, Nat.zero_le _, rfl, hrow0, hbel⟩
      case round =>
        obtain ⟨k, hk, rfl, hrk, hbk⟩ := hrel
        clear hrow0 hbel
        by_cases hlk : k < 8
        · have hlk' : (k : Int) < 8 := by omega
          have hin : 9 * p + k < s.size := by rw [HS.out]; omega
          have hdst := hrk.cell (i := 8 * p + k) (by omega)
          have hfz := hrk.frozen (8 * p + k)
          have hidx : (p : Int) * 8 + (k : Int) = ((8 * p + k : Nat) : Int) := by omega
          have hidx2 : (p : Int) * 9 + (k : Int) = ((9 * p + k : Nat) : Int) := by omega
          have hbb := UInt8.toNat_lt (s[9 * p + k]'hin)
          have HV : Hid (dotF s (8 * p + k) = (((s[9 * p + k]'hin).toNat : Nat) : Int) - 48) := by
            show _ = _
            unfold dotF
            rw [show 9 * ((8 * p + k) / 8) + (8 * p + k) % 8 = 9 * p + k by omega, byS_get s _ hin]
          have R := (hrk.set (8 * p + k) (.int .i64 (dotF s (8 * p + k)))).congr (g := fun j => .int .i64 (dotTo s (8 * p + k + 1) j)) (fun j _ => dotTo_step s (8 * p + k) j)
          rw [HV.out] at R
          clear hrk
          go_wp2
          go_roundw
          case rel => exact ⟨k + 1, by omega, by go_num, R, hbk.setCell (p := ⟨w.heap.size, 8 * p + k, none⟩) (Nat.le_refl _) _⟩
          case measure => simp [intOf]; omega
        · have hk8 : k = 8 := by omega
          subst hk8
          have hlk' : ¬ ((8 : Nat) : Int) < 8 := by omega
          go_wp2
          go_roundw
          case rel => exact ⟨p + 1, by omega, by go_num, hrk, hbk⟩
          case measure => simp [intOf]; omega
    · have hp6 : p = 6 := by omega
      subst hp6
      have hlt' : ¬ ((6 : Nat) : Int) < 6 := by omega
      go_wp2
      go_ret
      exact ⟨rfl, hrow.congr (fun i hi => by unfold dotTo; rw [if_pos (by omega)]), hbel⟩
theorem str_ne {a b : ByteArray} (h : a ≠ b) : (a.toList == b.toList) = false := by
  rw [ByteArray.toList_eq, ByteArray.toList_eq]
  simp only [beq_eq_false_iff_ne, ne_eq]
  intro e
  apply h
  apply ByteArray.ext
  exact Array.toList_inj.1 e
theorem own_rowX {w : World} {g lo : Nat} {f : Nat → Int} (R : w.rowIs g 3 48 (fun j => .int .i64 (f j))) (hg : lo ≤ g) : OwnInts w lo (.slice (some ⟨g, 0, none⟩) 48 48) 48 f :=
  ⟨_, 48, rfl, by omega, rowOf_row R, fun b o ⟨off, e, h1, h2⟩ => by
    simp only [Option.some.injEq, Addr.mk.injEq, and_true] at e
    obtain ⟨rfl, rfl⟩ := e
    exact ⟨R.lt, R.frozen o⟩, fun b o ⟨off, e, h1, h2⟩ => by
    simp only [Option.some.injEq, Addr.mk.injEq, and_true] at e
    obtain ⟨rfl, rfl⟩ := e
    exact hg⟩
set_option maxRecDepth 20000 in
set_option maxHeartbeats 2000000 in
theorem implFrameRead (w : World) (s : ByteArray) (hs : s.size ≤ 1048576) :
    Calls Tryd.prog 8 #[.string s] w fun e w' => ∃ u, e = .returned (.tuple #[u, .bool (okT s)]) ∧ OwnInts w' w.heap.size u (lenT s) (dotF s) ∧ Below w.heap.size w w' := by
  by_cases h54 : s.size = 54
  · have hne : ((s.size : Int) != 54) = false := by simp [h54]
    have HD := hide (fun W => implDotsIn W s h54)
    have HT := hide (fun W F u H => implFrameText W F u 48 (dotF s) H)
    obtain ⟨b, hb⟩ : ∃ b, Hid (b = okT s) := ⟨_, rfl⟩
    obtain ⟨n, hn⟩ : ∃ n, Hid (n = lenT s) := ⟨_, rfl⟩
    rw [← hb.out, ← hn.out]
    obtain ⟨r, hr⟩ : ∃ r, Hid (r = frameStr 48 (dotF s)) := ⟨_, rfl⟩
    rw [← hr.out] at HT
    have hz : ∀ w, (zeroValue 3).run Tryd.prog w = .ok (.int .i64 0) w := fun w => by kernel_rfl
    have HZ := hide hz
    clear hz
    have H54 := hide h54
    clear h54
    by_cases heq : r = s
    · have e1 : (!r.toList == s.toList) = false := by rw [heq]; simp
      have eb : Hid (b = true) := by show _ = _; rw [hb.out]; unfold okT; rw [decide_eq_true_eq]; exact ⟨H54.out, by rw [← hr.out]; exact heq⟩
      have en : Hid (n = 48) := by show _ = _; rw [hn.out]; unfold lenT; rw [← hb.out, eb.out]; rfl
      clear heq
      go_enter Tryd.func8, Tryd.ntmps8
      go_wp2_with fail
      refine (HD.out _).mono ?_
      rintro e w1 ⟨rfl, R1, L1⟩
      go_wp2_with fail
      refine (HT.out _ _ _ (ints_of_row R1 (by omega))).mono ?_
      rintro e w2 ⟨rfl, L2⟩
      have R2 := R1.of_block (L2.block _ R1.lt)
      have C2 := L1.trans (L2.mono L1.size)
      clear R1 L2 L1
      go_wp2
      go_ret2
      exact ⟨_, by rw [eb.out]; rfl, by rw [en.out]; exact own_rowX R2 (Nat.le_refl _), C2⟩
    · have e1 : (r.toList == s.toList) = false := str_ne heq
      have eb : Hid (b = false) := by show _ = _; rw [hb.out]; unfold okT; rw [decide_eq_false_iff_not]; exact fun h => heq (by rw [hr.out]; exact h.2)
      have en : Hid (n = 0) := by show _ = _; rw [hn.out]; unfold lenT; rw [← hb.out, eb.out]; rfl
      clear heq
      go_enter Tryd.func8, Tryd.ntmps8
      go_wp2_with fail
      refine (HD.out _).mono ?_
      rintro e w1 ⟨rfl, R1, L1⟩
      go_wp2_with fail
      refine (HT.out _ _ _ (ints_of_row R1 (by omega))).mono ?_
      rintro e w2 ⟨rfl, L2⟩
      have R2 := R1.of_block (L2.block _ R1.lt)
      have C2 := L1.trans (L2.mono L1.size)
      clear R1 L2 L1
      have hclr := fun ty => Lib.run_clear_slice (P := Tryd.prog) w2 24 3 ty (.int .i64 0) Tryd.underlying24 HZ.out rfl rfl w.heap.size 0 48 48 (by omega) (fun j hj => by rw [Nat.zero_add, R2.cell hj]; rfl) (fun j hj => by rw [Nat.zero_add]; exact R2.frozen j)
      have C3 := below_putX (Nat.le_refl w.heap.size) (List.replicate 48 (Value.int .i64 0)) 0 _ C2
      clear R2
      go_wp2
      go_ret2
      exact ⟨_, by rw [eb.out]; rfl, by rw [en.out]; exact own_none _ _ _, C3⟩
  · have hne : ((s.size : Int) != 54) = true := by simp; omega
    have eb : Hid (okT s = false) := by show _ = _; unfold okT; rw [decide_eq_false_iff_not]; exact fun h => h54 h.1
    have en : Hid (lenT s = 0) := by show _ = _; unfold lenT; rw [eb.out]; rfl
    rw [eb.out, en.out]
    clear h54
    go_enter Tryd.func8, Tryd.ntmps8
    go_wp2
    go_ret2
    exact ⟨_, rfl, own_none _ _ _, (Below.refl _ _).alloc (Nat.le_refl _) _⟩
set_option maxRecDepth 20000 in
set_option maxHeartbeats 4000000 in
theorem specFrameRead (w : World) (s : ByteArray) (hs : s.size ≤ 1048576) :
    Calls Tryd.prog 11 #[.string s] w fun e w' => ∃ u, e = .returned (.tuple #[u, .bool (okT s)]) ∧ OwnInts w' w.heap.size u (lenT s) (dotF s) ∧ Below w.heap.size w w' := by
  obtain ⟨i0, hi, hz0, hz1, hz2⟩ := info_parts infoIntX
  have HO0 := hide (World.ownsRow_made (base := w.heap.size) (e := 3) (size := 1) w #[] 0 (Nat.le_refl _) (by unfold maxLen; omega) rfl)
  have hB0 : Below w.heap.size w (w.alloc (.cells #[] 3)) := (Below.refl _ _).alloc (Nat.le_refl _) _
  obtain ⟨b, hb⟩ : ∃ b, Hid (b = okT s) := ⟨_, rfl⟩
  obtain ⟨n, hn⟩ : ∃ n, Hid (n = lenT s) := ⟨_, rfl⟩
  rw [← hb.out, ← hn.out]
  go_enter Tryd.func11, Tryd.ntmps11
  go_wp2
  go_loopw [4, 5] (fun out i wr => ∃ q m g cp : Nat, q ≤ s.size ∧ i = .int .i64 q ∧ Hid (m = (outL s q).length) ∧ out = .slice (some ⟨g, 0, none⟩) m cp ∧ wr.ownsRow w.heap.size 3 1 (.slice (some ⟨g, 0, none⟩) m cp) m ((outL s q).map (Value.int .i64)) ∧ Below w.heap.size w wr) (fun _ i _ => s.size - (intOf i).toNat)
  case atStart => exact ⟨0, 0, _, 0, Nat.zero_le _, rfl, rfl, rfl, HO0.out, hB0⟩
  case round =>
    obtain ⟨q, m, g, cp, hq, rfl, hm, rfl, hown, hbel⟩ := hrel
    have HO := hide hown
    clear hown
    have hwz := hbel.size
    have hmq : m ≤ q := by rw [hm.out]; exact outL_len s q
    by_cases hlt : q < s.size
    · have hlt' : (q : Int) < (s.size : Int) := by omega
      have hbb := UInt8.toNat_lt (s[q]'hlt)
      have HX := hide (byS_get s q hlt)
      by_cases h10 : byS s q = 10
      · have hne : ((((s[q]'hlt).toNat : Nat) : Int) != 10) = false := by rw [← HX.out]; simp [h10]
        have HL := hide (outL_no h10)
        clear h10
        go_wp2
        go_roundw
        case rel => exact ⟨q + 1, m, g, cp, by omega, by go_num, by show _ = _; rw [HL.out]; exact hm.out, rfl, by rw [HL.out]; exact unhide HO, hbel⟩
        case measure => simp [intOf]; omega
      · have hne : ((((s[q]'hlt).toNat : Nat) : Int) != 10) = true := by rw [← HX.out]; simp [h10]
        have HL := hide (outL_yes h10)
        clear h10
        rw [HX.out] at HL
        go_wp2_with (at_builtin; refine wpList_append_lies _ rfl (.tmp 17) (.tmp 23) 24 rfl w.heap.size 3 i0 (.int .i64 0) 1 8 Tryd.underlying24 hi hz0 hz1 hz2 rfl (by decide) _ _ _ rfl ((unhide HO).alloc _) ⟨wr.heap.size, 0, none⟩ 1 1 [.int .i64 ((((s[q]'hlt).toNat : Nat) : Int) - 48)] rfl rfl ?c1 ?c2 (by decide) ?c3 ?c4 ?c5 _ rfl ?_)
        case c1 => exact new_row _ #[.int .i64 ((((s[q]'hlt).toNat : Nat) : Int) - 48)] 3 (0, 0) _ rfl
        case c2 => first | rfl | (intro u hu; simp at hu; subst hu; rfl)
        case c3 => unfold maxLen; omega
        case c4 => omega
        case c5 => first | omega | (simp; omega)
        intro g3 cp3 w3 hown3 hgrow hat hlt3
        have hb3 : Below w.heap.size w w3 := (hbel.alloc hwz _).grown hgrow (by simp; omega) (fun k hk => ((unhide HO).lt k hk).1)
        have HO3 := hide hown3
        clear hown3 hgrow hat HO
        go_wp2
        go_roundw
        case rel => exact ⟨q + 1, m + 1, g3, cp3, by omega, by go_num, by show _ = _; rw [HL.out, List.length_append, ← hm.out]; rfl, rfl, by rw [HL.out, lv_snoc]; exact HO3.out, hb3⟩
        case measure => simp [intOf]; omega
    · have hkn : q = s.size := by omega
      subst hkn
      have hlt' : ¬ (s.size : Int) < (s.size : Int) := by omega
      by_cases h0 : s.size = 0
      · have he : (s.toList == []) = true := by
          rw [ByteArray.toList_eq]
          have : s.data = #[] := Array.eq_empty_of_size_eq_zero h0
          rw [this]; rfl
        have eb : Hid (b = false) := by show _ = _; rw [hb.out]; unfold okT; rw [decide_eq_false_iff_not]; exact fun h => by have := h.1; omega
        have en : Hid (n = 0) := by show _ = _; rw [hn.out]; unfold lenT; rw [← hb.out, eb.out]; rfl
        clear h0
        go_wp2
        go_ret2
        exact ⟨_, by rw [eb.out]; rfl, by rw [en.out]; exact own_none _ _ _, hbel.alloc hwz _⟩
      · have he : (s.toList == []) = false := by
          rw [ByteArray.toList_eq]
          simp only [beq_eq_false_iff_ne, ne_eq, Array.toList_eq_nil_iff]
          intro e
          apply h0
          show s.data.size = 0
          rw [e]
          rfl
        have HG : w.heap.size ≤ g ∧ g < wr.heap.size := (unhide HO).lt g rfl
        have HR : OwnInts wr w.heap.size (.slice (some ⟨g, 0, none⟩) m cp) m (nth (outL s s.size)) := own_row (by rw [show rowVals m (nth (outL s s.size)) = (outL s s.size).map (Value.int .i64) by rw [hm.out, nth_vals]]; exact unhide HO) HG.1 HG.2 (by omega)
        obtain ⟨r, hr⟩ : ∃ r, Hid (r = frameStr m (nth (outL s s.size))) := ⟨_, rfl⟩
        have HRR := hide HR
        obtain ⟨a', cap', e', hn', hro, hfr, hlo⟩ := HR.ex
        have HI : Ints .i64 wr (fun _ _ => True) (.slice (some ⟨g, 0, none⟩) m cp) m (nth (outL s s.size)) := ⟨a', cap', e', hn', hro, fun _ _ _ => trivial⟩
        have HT := specFrameText wr _ _ _ _ HI
        rw [← hr.out] at HT
        clear HR e' hn' hro hfr hlo HI
        by_cases heq : r = s
        · have e1 : (!r.toList == s.toList) = false := by rw [heq]; simp
          have eb : Hid (b = true) := by
            show _ = _
            rw [hb.out]
            cases hok : okT s
            · exact absurd (by rw [← hm.out, ← hr.out, heq]) (outL_bad h0 hok)
            · rfl
          have hok : okT s = true := by rw [← hb.out, eb.out]
          have en : Hid (n = 48) := by show _ = _; rw [hn.out]; unfold lenT; rw [hok]; rfl
          have em : Hid (m = 48) := by show _ = _; rw [hm.out]; exact (outL_ok hok).1
          have HK := hide (outL_ok hok).2
          clear heq hok h0
          go_wp2_with fail
          refine HT.mono ?_
          rintro e w2 ⟨rfl, L2⟩
          have C2 := hbel.trans (L2.mono hwz)
          have HR2 : OwnInts w2 w.heap.size (.slice (some ⟨g, 0, none⟩) m cp) n (dotF s) := by
            obtain ⟨a', cap', e', hn', hro, hfr, hlo⟩ := HRR.out.ex
            rw [em.out] at e' hn' hro hfr hlo ⊢
            rw [en.out]
            exact ⟨a', cap', e', hn', (hro.keep (wrote_below L2 Nowhere) (fun _ _ _ x => x)).congr HK.out, hfr.keep (wrote_below L2 Nowhere), hlo⟩
          clear HT L2 HRR
          go_wp2
          go_ret2
          exact ⟨_, by rw [eb.out]; rfl, HR2, C2⟩
        · have e1 : (r.toList == s.toList) = false := str_ne heq
          have eb : Hid (b = false) := by
            show _ = _
            rw [hb.out]
            cases hok : okT s
            · rfl
            · exact absurd (by rw [hr.out, hm.out]; exact outL_str hok) heq
          have en : Hid (n = 0) := by show _ = _; rw [hn.out]; unfold lenT; rw [← hb.out, eb.out]; rfl
          clear heq h0
          go_wp2_with fail
          refine HT.mono ?_
          rintro e w2 ⟨rfl, L2⟩
          have C2 := hbel.trans (L2.mono hwz)
          clear HT L2 HRR
          go_wp2
          go_ret2
          exact ⟨_, by rw [eb.out]; rfl, by rw [en.out]; exact own_none _ _ _, C2.alloc C2.size _⟩
end Go.Proofs.YteefbbnkfclllaaDoor
