/-
  Contracts over images: sizes, copies, comparisons, marks of the struct with its one field.
-/
import Derived.Test.YtjcaligejlhjdaaGreatM2
namespace Go.Proofs.YtjcaligejlhjdaaGreat
open Go.ChangeShapes Go.WideShapes Go.ChangeAt Go.RowKit
structure RawSS (w : World) (v : Value) (m : Nat) (ra : Nat → Option Addr) (ln rc : Nat → Nat) (f : Nat → Nat → Int) : Prop where
  outer : ∃ a cap, v = .slice a m cap ∧ m ≤ 9223372036854775807 ∧ ∀ i, i < m → ∃ b off, a = some ⟨b, off, none⟩ ∧ w.cell? ⟨b, off + i, none⟩ = some (.slice (ra i) (ln i) (rc i))
  rows : ∀ i, i < m → ln i ≤ 9223372036854775807 ∧ RowOf .i64 w (ra i) (ln i) (f i) ∧ ∀ j, j < ln i → (Lit.int .i64 (f i j)).wf = true
theorem psum_le (ln : Nat → Nat) {i m : Nat} (h : i < m) : ln i ≤ psum ln m := by
  have := psum_mono ln (show i + 1 ≤ m from h)
  have e : psum ln (i + 1) = psum ln i + ln i := rfl
  omega
theorem RawSS.ints {w : World} {v : Value} {m : Nat} {ra : Nat → Option Addr} {ln rc : Nat → Nat} {f : Nat → Nat → Int} (h : RawSS w v m ra ln rc f) (hs : m + psum ln m ≤ 1048576) : IntSS .i64 w (fun b _ => b < w.heap.size) v m ln f := by
  obtain ⟨⟨a, cap, hv, hm, ho⟩, hr⟩ := h
  refine ⟨a, cap, hv, by omega, fun b o hF => ?_, fun i hi => ?_⟩
  · obtain ⟨off, rfl, h1, h2⟩ := hF
    obtain ⟨b', off', e, hcell⟩ := ho (o - off) (by omega)
    simp only [Option.some.injEq, Addr.mk.injEq, and_true] at e
    obtain ⟨rfl, rfl⟩ := e
    exact block_lt_of_cell hcell
  · obtain ⟨b, off, ha, hc⟩ := ho i hi
    exact ⟨b, off, _, ha, hc, ra i, rc i, rfl, by have := psum_le ln hi; omega, (hr i hi).2.1, fun b o h => (hr i hi).2.1.lt h⟩
theorem RawSS.below {w w' : World} {v : Value} {m : Nat} {ra : Nat → Option Addr} {ln rc : Nat → Nat} {f : Nat → Nat → Int} (h : RawSS w v m ra ln rc f) (hb : Below w.heap.size w w') : RawSS w' v m ra ln rc f := by
  obtain ⟨⟨a, cap, hv, hm, ho⟩, hr⟩ := h
  refine ⟨⟨a, cap, hv, hm, fun i hi => ?_⟩, fun i hi => ⟨(hr i hi).1, (hr i hi).2.1.keep (wrote_below hb Nowhere) (fun _ _ _ x => x), (hr i hi).2.2⟩⟩
  obtain ⟨b, off, ha, hc⟩ := ho i hi
  exact ⟨b, off, ha, (hb.cell (p := ⟨b, off + i, none⟩) (block_lt_of_cell hc)).trans hc⟩
theorem szIntSS (w : World) (v : Value) (m : Nat) (ra : Nat → Option Addr) (ln rc : Nat → Nat) (f : Nat → Nat → Int) (H : RawSS w v m ra ln rc f) (left : Int) (h0 : 0 ≤ left) (h1 : left ≤ 1048576) :
    Calls Tryz.prog 24 #[v, .int .i64 left] w fun e w' => e = .returned (.int .i64 (szOut left (m + psum ln m))) ∧ w' = w := by
  obtain ⟨⟨a, cap, rfl, hm, ho⟩, hr⟩ := H
  by_cases hl : left < m
  · go_enter Tryz.func24, Tryz.ntmps24
    go_wp2
    go_ret
    exact ⟨ret_int (szOut_no (by omega)).symm, rfl⟩
  · have hl2 : ¬ (left - (m : Int) < 0) := by omega
    go_enter Tryz.func24, Tryz.ntmps24
    go_wp2
    go_loop [1, 5] (fun l i => ∃ q : Nat, q ≤ m ∧ i = .int .i64 q ∧ psum ln q ≤ left - m ∧ l = .int .i64 (left - m - psum ln q)) (fun _ i => m - (intOf i).toNat)
    case atStart => exact ⟨0, Nat.zero_le _, rfl, by simp [psum]; omega, by simp [psum]⟩
    case round =>
      obtain ⟨q, hq, rfl, hle, rfl⟩ := hrel
      by_cases hlt : q < m
      · obtain ⟨b, off, rfl, hc⟩ := ho q hlt
        have hlt' : (q : Int) < (m : Int) := by omega
        have hln := (hr q hlt).1
        have hp := psum_mono ln (show q + 1 ≤ m from hlt)
        have hp1 : psum ln (q + 1) = psum ln q + ln q := rfl
        by_cases hx : left - m - psum ln q < ln q
        · have hcc : Hid (left < ((m + psum ln m : Nat) : Int)) := by show _ < _; omega
          clear hp hp1
          go_wp2_with fail
          refine (szIntS _ _ _ _ _ hln (by omega) (by omega)).mono ?_
          rintro e w1 ⟨rfl, rfl⟩
          rw [szOut_no hx]
          go_wp2
          go_ret
          exact ⟨ret_int (szOut_no hcc.out).symm, rfl⟩
        · have hnn : ¬ (left - m - psum ln q - ln q < 0) := by omega
          have HP := hide hp1
          clear hp hp1
          go_wp2_with fail
          refine (szIntS _ _ _ _ _ hln (by omega) (by omega)).mono ?_
          rintro e w1 ⟨rfl, rfl⟩
          rw [szOut_ok (by omega)]
          go_wp2
          go_round
          case rel =>
            refine ⟨q + 1, by omega, by go_num, ?_, ?_⟩
            · rw [unhide HP]; omega
            · rw [unhide HP]; go_num
          case measure => simp [intOf]; omega
      · have hlt' : ¬ (q : Int) < (m : Int) := by omega
        go_wp2
        go_ret
        have e : q = m := by omega
        subst e
        exact ⟨ret_int (by rw [szOut_ok (by omega)]; omega), rfl⟩
theorem szImage (w : World) (v : Value) (m : Nat) (ra : Nat → Option Addr) (ln rc : Nat → Nat) (f : Nat → Nat → Int) (H : RawSS w v m ra ln rc f) (left : Int) (h0 : 0 ≤ left) (h1 : left ≤ 1048576) :
    Calls Tryz.prog 5 #[.agg #[v], .int .i64 left] w fun e w' => e = .returned (.int .i64 (szOut left (m + psum ln m))) ∧ Below w.heap.size w w' := by
  have hz : szOut left (m + psum ln m) = -1 ∨ 0 ≤ szOut left (m + psum ln m) := by unfold szOut; split <;> omega
  generalize hg : szOut left (m + psum ln m) = z at *
  have HG := hide hg
  clear hg
  rcases hz with rfl | hz
  · go_enter Tryz.func5, Tryz.ntmps5
    go_wp2_with fail
    refine (szIntSS _ v m ra ln rc f (H.below ((Below.refl _ _).alloc (Nat.le_refl _) _)) left h0 h1).mono ?_
    rintro e w1 ⟨rfl, rfl⟩
    rw [unhide HG]
    go_wp2
    go_ret
    exact ⟨rfl, (Below.refl _ _).alloc (Nat.le_refl _) _⟩
  · go_enter Tryz.func5, Tryz.ntmps5
    go_wp2_with fail
    refine (szIntSS _ v m ra ln rc f (H.below ((Below.refl _ _).alloc (Nat.le_refl _) _)) left h0 h1).mono ?_
    rintro e w1 ⟨rfl, rfl⟩
    rw [unhide HG]
    go_wp2
    go_ret
    exact ⟨rfl, (Below.refl _ _).alloc (Nat.le_refl _) _⟩
theorem Rows2.keep {w w' : World} {R : Nat → Nat → Prop} {b0 m : Nat} {ln : Nat → Nat} {f : Nat → Nat → Int} (h : Rows2 w b0 m ln f) (hw : Wrote R w w') (hd : ∀ b o, b0 ≤ b → b < b0 + 1 + m → ¬ R b o) : Rows2 w' b0 m ln f :=
  ⟨h.outer.of_block (hw.block _ h.outer.lt (fun o => hd _ o (by omega) (by omega))), fun i hi => (h.inner i hi).of_block (hw.block _ (h.inner i hi).lt (fun o => hd _ o (by omega) (by omega)))⟩
theorem Rows2.rowOf {w : World} {b0 m : Nat} {ln : Nat → Nat} {f : Nat → Nat → Int} (h : Rows2 w b0 m ln f) (i : Nat) (hi : i < m) : RowOf .i64 w (some ⟨b0 + 1 + i, 0, none⟩) (ln i) (f i) := fun j hj =>
  ⟨b0 + 1 + i, 0, rfl, by rw [Nat.zero_add]; exact (h.inner i hi).cell hj⟩
theorem Rows2.ints {w : World} {b0 m : Nat} {ln : Nat → Nat} {f : Nat → Nat → Int} (h : Rows2 w b0 m ln f) (hm : m + psum ln m ≤ 1048576) : IntSS .i64 w (fun b _ => b0 ≤ b ∧ b < b0 + 1 + m) (.slice (some ⟨b0, 0, none⟩) m m) m ln f := by
  refine ⟨_, _, rfl, by omega, fun b o hF => ?_, fun i hi => ⟨b0, 0, _, rfl, by rw [Nat.zero_add]; exact h.outer.cell hi, _, _, rfl, by have := psum_le ln hi; omega, h.rowOf i hi, fun b o hF => ?_⟩⟩
  · obtain ⟨off, e, _⟩ := hF
    simp only [Option.some.injEq, Addr.mk.injEq, and_true] at e
    omega
  · obtain ⟨off, e, _⟩ := hF
    simp only [Option.some.injEq, Addr.mk.injEq, and_true] at e
    omega
theorem Rows2.sep {w : World} {b0 m : Nat} {ln : Nat → Nat} {f : Nat → Nat → Int} (h : Rows2 w b0 m ln f) (hm : m + psum ln m ≤ 1048576) : Sep w (.slice (some ⟨b0, 0, none⟩) m m) m (fun i => some ⟨b0 + 1 + i, 0, none⟩) ln ln := by
  refine ⟨⟨_, _, rfl, by omega, fun i hi => ⟨b0, 0, rfl, by rw [Nat.zero_add]; exact h.outer.cell hi, fun j hj hF => ?_⟩⟩, fun i hi b o hF => ?_, fun i j hi hj hij b o hF hG => ?_, by omega⟩
  · obtain ⟨off, e, _⟩ := hF
    simp only [Option.some.injEq, Addr.mk.injEq, and_true] at e
    omega
  · obtain ⟨off, e, _⟩ := hF
    simp only [Option.some.injEq, Addr.mk.injEq, and_true] at e
    obtain ⟨rfl, rfl⟩ := e
    exact ⟨(h.inner i hi).lt, (h.inner i hi).frozen o⟩
  · obtain ⟨off, e, _⟩ := hF
    obtain ⟨off', e', _⟩ := hG
    simp only [Option.some.injEq, Addr.mk.injEq, and_true] at e e'
    omega
theorem toImage (w : World) (F : Nat → Nat → Prop) (v : Value) (m : Nat) (ln : Nat → Nat) (f : Nat → Nat → Int) (H : IntSS .i64 w F v m ln f) :
    Calls Tryz.prog 7 #[.agg #[v]] w fun e w' => ∃ b0, w.heap.size ≤ b0 ∧ e = .returned (.agg #[.slice (some ⟨b0, 0, none⟩) m m]) ∧ Rows2 w' b0 m ln f ∧ b0 + 1 + m ≤ w'.heap.size ∧ Below w.heap.size w w' := by
  go_enter Tryz.func7, Tryz.ntmps7
  go_wp2_with fail
  have L0 : Below w.heap.size w (((w.alloc (.cells #[v] 24)).alloc (.cells #[.slice none 0 0] 27)).alloc (.cells #[.slice none 0 0] 27)) := (((Below.refl _ _).alloc (Nat.le_refl _) _).alloc (by simp) _).alloc (by simp; omega) _
  refine (toIntSS _ F v m ln f (H.keep (wrote_below L0 Nowhere) (fun _ _ _ x => x))).mono ?_
  rintro e w1 ⟨rfl, hrows, hsz, hbel⟩
  have c1 : w1.cell? ⟨w.heap.size + 1, 0, none⟩ = some (.slice none 0 0) := (hbel.cell (by simp)).trans (by go_simp)
  have c2 : w1.cell? ⟨w.heap.size + 1 + 1, 0, none⟩ = some (.slice none 0 0) := (hbel.cell (by simp)).trans (by go_simp)
  have f1 : w1.frozen? ⟨w.heap.size + 1, 0, none⟩ = false := (hbel.frozen (by simp)).trans (by go_simp)
  have f2 : w1.frozen? ⟨w.heap.size + 1 + 1, 0, none⟩ = false := (hbel.frozen (by simp)).trans (by go_simp)
  have hbs : (((w.alloc (.cells #[v] 24)).alloc (.cells #[.slice none 0 0] 27)).alloc (.cells #[.slice none 0 0] 27)).heap.size = w.heap.size + 3 := by simp
  rw [hbs] at hrows hsz hbel
  rw [hbs]
  have HR := hide hrows
  have HS := hide hsz
  clear hrows hsz
  go_wp2
  refine bodyPost_ret (v := .agg #[.slice (some ⟨w.heap.size + 3, 0, none⟩) m m]) (by simp [results, Tryz.results7, go_sem, c1]) rfl ⟨w.heap.size + 3, by omega, rfl, ?_, ?_, ?_⟩
  · refine (unhide HR).keep (R := fun b _ => b < w.heap.size + 3) (((Wrote.refl _ _).setCell (fun _ => by omega) _).setCell (fun _ => by omega) _) (fun b o h _ => by omega)
  · have := unhide HS
    simp
    omega
  · exact ((L0.trans (hbel.mono (by omega))).setCell (by simp; omega) _).setCell (by simp) _
theorem eqImage (w : World) (F G : Nat → Nat → Prop) (v u : Value) (m n : Nat) (ln lg : Nat → Nat) (f g : Nat → Nat → Int) (H : IntSS .i64 w F v m ln f) (H' : IntSS .i64 w G u n lg g) :
    Calls Tryz.prog 11 #[.agg #[v], .agg #[u]] w fun e w' => e = .returned (.bool (eqIntss m n ln lg f g)) ∧ Below w.heap.size w w' := by
  have L0 : Below w.heap.size w ((w.alloc (.cells #[v] 27)).alloc (.cells #[u] 27)) := ((Below.refl _ _).alloc (Nat.le_refl _) _).alloc (by simp) _
  have h1 := H.keep (wrote_below L0 Nowhere) (fun _ _ _ x => x)
  have h2 := H'.keep (wrote_below L0 Nowhere) (fun _ _ _ x => x)
  cases hq : eqIntss m n ln lg f g
  · go_enter Tryz.func11, Tryz.ntmps11
    go_wp2_with fail
    refine (eqIntSS _ F G v u m n ln lg f g h1 h2).mono ?_
    rintro e w1 ⟨rfl, d, rfl⟩
    go_wp2
    go_ret
    exact ⟨rfl, L0.trans ⟨rfl, rfl, rfl, Nat.le_refl _, fun _ _ => rfl⟩⟩
  · go_enter Tryz.func11, Tryz.ntmps11
    go_wp2_with fail
    refine (eqIntSS _ F G v u m n ln lg f g h1 h2).mono ?_
    rintro e w1 ⟨rfl, d, rfl⟩
    go_wp2
    go_ret
    exact ⟨rfl, L0.trans ⟨rfl, rfl, rfl, Nat.le_refl _, fun _ _ => rfl⟩⟩
def inB (x lo hi : Int) : Bool := decide (lo ≤ x) && decide (x ≤ hi)
theorem inB_iff (x lo hi : Int) : inB x lo hi = true ↔ lo ≤ x ∧ x ≤ hi := by simp [inB]
theorem inB_yes {x lo hi : Int} (h : lo ≤ x ∧ x ≤ hi) : inB x lo hi = true := (inB_iff x lo hi).2 h
theorem inB_no {x lo hi : Int} (h : ¬ (lo ≤ x ∧ x ≤ hi)) : inB x lo hi = false := by
  cases e : inB x lo hi
  · rfl
  · exact absurd ((inB_iff x lo hi).1 e) h
def okBank (n : Nat) (g : Nat → Int) : Bool := decide (n = 256 ∧ ∀ j, j < n → inB (g j) 0 255 = true)
theorem okBank_len {n : Nat} {g : Nat → Int} (h : ¬ n = 256) : okBank n g = false := decide_eq_false (fun x => h x.1)
theorem okBank_byte {n j : Nat} {g : Nat → Int} (hj : j < 256) (h : ¬ (0 ≤ g j ∧ g j ≤ 255)) : okBank n g = false := decide_eq_false (fun x => h ((inB_iff _ _ _).1 (x.2 j (by omega))))
theorem okBank_yes {n : Nat} {g : Nat → Int} (h : n = 256) (h2 : ∀ j, j < 256 → 0 ≤ g j ∧ g j ≤ 255) : okBank n g = true := decide_eq_true ⟨h, fun j hj => inB_yes (h2 j (by omega))⟩
def okImg (m : Nat) (ln : Nat → Nat) (f : Nat → Nat → Int) : Bool := decide ((∀ i, i < m → okBank (ln i) (f i) = true) ∧ 1 ≤ m ∧ m ≤ 8)
theorem okImg_no {m : Nat} {ln : Nat → Nat} {f : Nat → Nat → Int} {i : Nat} (hi : i < m) (h : okBank (ln i) (f i) = false) : okImg m ln f = false := decide_eq_false (fun x => by have := x.1 i hi; rw [h] at this; cases this)
theorem okImg_end {m : Nat} {ln : Nat → Nat} {f : Nat → Nat → Int} (h : ∀ i, i < m → okBank (ln i) (f i) = true) : okImg m ln f = inB m 1 8 := by
  by_cases c : 1 ≤ m ∧ m ≤ 8
  · rw [inB_yes (by omega)]
    exact decide_eq_true ⟨h, c⟩
  · rw [inB_no (by omega)]
    exact decide_eq_false (fun x => c x.2)
theorem oks_snoc {k : Nat} {ln : Nat → Nat} {f : Nat → Nat → Int} (h : ∀ i, i < k → okBank (ln i) (f i) = true) (hk : okBank (ln k) (f k) = true) : ∀ i, i < k + 1 → okBank (ln i) (f i) = true := fun j hj => by
  by_cases e : j = k
  · rw [e]; exact hk
  · exact h j (by omega)
theorem l1In (x lo hi : Int) (w : World) : Calls Tryz.prog 87 #[.int .i64 x, .int .i64 lo, .int .i64 hi] w fun e w' => e = .returned (.bool (inB x lo hi)) ∧ w' = w := by
  by_cases h1 : lo ≤ x
  · by_cases h2 : x ≤ hi
    · have e := hide (inB_yes ⟨h1, h2⟩)
      go_enter Tryz.func87, Tryz.ntmps87
      go_wp2
      go_ret
      exact ⟨ret_bool (unhide e).symm, rfl⟩
    · have e := hide (inB_no (x := x) (lo := lo) (hi := hi) (by omega))
      go_enter Tryz.func87, Tryz.ntmps87
      go_wp2
      go_ret
      exact ⟨ret_bool (unhide e).symm, rfl⟩
  · have h1' : decide (lo ≤ x) = false := decide_eq_false h1
    have e := hide (inB_no (x := x) (lo := lo) (hi := hi) (by omega))
    go_enter Tryz.func87, Tryz.ntmps87
    go_wp2
    go_ret
    exact ⟨ret_bool (unhide e).symm, rfl⟩
theorem specImageOk (w : World) (F : Nat → Nat → Prop) (v : Value) (m : Nat) (ln : Nat → Nat) (f : Nat → Nat → Int) (H : IntSS .i64 w F v m ln f) :
    Calls Tryz.prog 118 #[.agg #[v]] w fun e w' => e = .returned (.bool (okImg m ln f)) ∧ Below w.heap.size w w' := by
  have L0 : Below w.heap.size w (w.alloc (.cells #[v] 27)) := (Below.refl _ _).alloc (Nat.le_refl _) _
  have H0 := H.keep (wrote_below L0 Nowhere) (fun _ _ _ x => x)
  obtain ⟨a, cap, rfl, hm, -, hc⟩ := H0
  go_enter Tryz.func118, Tryz.ntmps118
  go_wp2
  go_loop [3] (fun i => ∃ q : Nat, q ≤ m ∧ i = .int .i64 q ∧ ∀ i, i < q → okBank (ln i) (f i) = true) (fun i => m - (intOf i).toNat)
  case atStart => exact ⟨0, Nat.zero_le _, rfl, fun i hi => absurd hi (Nat.not_lt_zero _)⟩
  case round =>
    obtain ⟨q, hq, rfl, hok⟩ := hrel
    have HO := hide hok
    clear hok
    by_cases hlt : q < m
    · obtain ⟨b, off, u, rfl, hcell, a', cap', rfl, hn', hrow, -⟩ := hc q hlt
      have hlt' : (q : Int) < (m : Int) := by omega
      by_cases hl : ln q = 256
      · have hl' : ((ln q : Int) != 256) = false := by simp; omega
        have HL := hide hl
        have hl2 : 256 ≤ ln q := by omega
        clear hl
        go_wp2
        go_loop [4] (fun j => ∃ r : Nat, r ≤ 256 ∧ j = .int .i64 r ∧ ∀ i, i < r → 0 ≤ f q i ∧ f q i ≤ 255) (fun i => 256 - (intOf i).toNat)
        case atStart => exact ⟨0, Nat.zero_le _, rfl, fun i hi => absurd hi (Nat.not_lt_zero _)⟩
        case round =>
          obtain ⟨r, hr, rfl, hby⟩ := hrel
          have HB := hide hby
          clear hby
          by_cases hrt : r < 256
          · obtain ⟨b', off', rfl, hcell'⟩ := hrow r (by omega)
            have hrt' : (r : Int) < 256 := by omega
            have hrl : (r : Int) < (ln q : Int) := by omega
            by_cases hin : 0 ≤ f q r ∧ f q r ≤ 255
            · have hin' := inB_yes hin
              have HI := hide hin
              clear hin
              go_wp2_with fail
              refine (l1In _ _ _ _).mono ?_
              rintro e w1 ⟨rfl, rfl⟩
              go_wp2
              go_round
              case rel =>
                refine ⟨r + 1, by omega, by go_num, fun i hi => ?_⟩
                by_cases e : i = r
                · rw [e]; exact unhide HI
                · exact unhide HB i (by omega)
              case measure => simp [intOf]; omega
            · have hin' := inB_no hin
              have HI := hide (okImg_no hlt (okBank_byte (n := ln q) hrt hin))
              clear hin
              go_wp2_with fail
              refine (l1In _ _ _ _).mono ?_
              rintro e w1 ⟨rfl, rfl⟩
              go_wp2
              go_ret
              exact ⟨ret_bool (unhide HI).symm, L0⟩
          · have hrt' : ¬ (r : Int) < 256 := by omega
            go_wp2
            go_round
            case rel => exact ⟨q + 1, by omega, by go_num, oks_snoc (unhide HO) (okBank_yes (unhide HL) (fun j hj => unhide HB j (by omega)))⟩
            case measure => simp [intOf]; omega
      · have hl' : ((ln q : Int) != 256) = true := by simp; omega
        have HI := hide (okImg_no hlt (okBank_len (g := f q) hl))
        clear hl
        go_wp2
        go_ret
        exact ⟨ret_bool (unhide HI).symm, L0⟩
    · have hlt' : ¬ (q : Int) < (m : Int) := by omega
      have e : q = m := by omega
      subst e
      go_wp2_with fail
      refine (l1In _ _ _ _).mono ?_
      rintro e w1 ⟨rfl, rfl⟩
      go_wp2
      go_ret
      exact ⟨ret_bool (okImg_end (unhide HO)).symm, L0⟩
end Go.Proofs.YtjcaligejlhjdaaGreat
