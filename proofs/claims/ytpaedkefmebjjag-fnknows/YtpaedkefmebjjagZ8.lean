/-
  The draws of chapter 8: a picture unit that is right.
-/
import Derived.Test.YtpaedkefmebjjagN8
import Derived.Test.YtpaedkefmebjjagD1
import Derived.Deep.RegionHeld3
namespace Go.Proofs.Ytpaedkefmebjjag
set_option linter.unusedVariables false
open Go.ChangeShapes Go.WideShapes Go.ChangeAt Go.RowKit
/-- Where the drawing of a picture unit stands: the box of its answer, the box z of the unit, its lists in blocks of their own. -/
structure LS (w W : World) (B c : Nat) (a : Option Addr) (len cap z : Nat) (t cc s ad pl : Int) (bl : Bool) (f : Nat → Int) (m : Nat) (g : Nat → Int) (p x : Nat) (a' : Option Addr) (y : Nat) : Prop where
  res : W.heap[w.heap.size]? = some (.cells #[.int .i64 0, .int .i64 0, .int .i64 0, .int .i64 0, .int .i64 0, .bool false, .slice none 0 0, .slice none 0 0] 26 (0, 0))
  box : W.heap[z]? = some (.cells #[.int .i64 t, .int .i64 cc, .int .i64 s, .int .i64 ad, .int .i64 pl, .bool bl, .slice (some ⟨p, 0, none⟩) 16 x, .slice a' m y] 26 (0, 0))
  tab : Row W w.heap.size p 16 x f
  far : w.heap.size < z ∧ w.heap.size < p ∧ p ≠ z
  dots : (a' = none ∧ m = 0 ∧ y = 0) ∨ ∃ q, a' = some ⟨q, 0, none⟩ ∧ Row W w.heap.size q m y g ∧ w.heap.size < q ∧ q ≠ z ∧ p ≠ q
  is : IsPpu t cc s ad pl 16 f m g
  cur : Cur W B c a len cap
  step : Step c w W
section
variable {w W W' : World} {B c : Nat} {a : Option Addr} {len cap z : Nat} {t cc s ad pl : Int} {bl : Bool} {f : Nat → Int} {m : Nat} {g : Nat → Int} {p x : Nat} {a' : Option Addr} {y : Nat}
theorem LS.ints (h : LS w W B c a len cap z t cc s ad pl bl f m g p x a' y) : Ints .i64 W (fun _ _ => True) (.slice (some ⟨p, 0, none⟩) 16 x) 16 f ∧ Ints .i64 W (fun _ _ => True) (.slice a' m y) m g := by
  refine ⟨⟨_, _, rfl, by omega, h.tab.sl.row, fun _ _ _ => trivial⟩, ?_⟩
  rcases h.dots with ⟨rfl, rfl, rfl⟩ | ⟨q, rfl, r, _⟩
  · exact ⟨_, _, rfl, by omega, fun i hi => absurd hi (Nat.not_lt_zero _), fun _ _ _ => trivial⟩
  · exact ⟨_, _, rfl, r.small, r.sl.row, fun _ _ _ => trivial⟩
/-- What moves the cursor, or lays blocks, keeps it. -/
theorem LS.moved (h : LS w W B c a len cap z t cc s ad pl bl f m g p x a' y) (hc : c < w.heap.size) (S : Step c W W') (H : Cur W' B c a len cap) : LS w W' B c a len cap z t cc s ad pl bl f m g p x a' y := by
  have hb : ∀ q, w.heap.size ≤ q → q < W.heap.size → W'.heap[q]? = W.heap[q]? := fun q h1 h2 => S.block q h2 (by omega)
  have hf := h.far
  refine ⟨(hb _ (Nat.le_refl _) (boxLt h.res)).trans h.res, (hb _ (by omega) (boxLt h.box)).trans h.box, h.tab.block (hb p (by omega) h.tab.parts.2.1), hf, ?_, h.is, H, h.step.trans S⟩
  rcases h.dots with d | ⟨q, e, r, d⟩
  · exact Or.inl d
  · exact Or.inr ⟨q, e, r.block (hb q (by omega) r.parts.2.1), d⟩
end
/-- A unit with new lists is laid into its box. -/
theorem LS.put {w W W' : World} {B c : Nat} {a : Option Addr} {len cap z : Nat} {t cc s ad pl : Int} {bl : Bool} {f : Nat → Int} {m : Nat} {g : Nat → Int} {p x : Nat} {a' : Option Addr} {y : Nat} (h : LS w W B c a len cap z t cc s ad pl bl f m g p x a' y) (hc : c < w.heap.size)
    {t2 c2 s2 ad2 pl2 : Int} {bl2 : Bool} {f2 : Nat → Int} {m2 : Nat} {g2 : Nat → Int} {p2 x2 : Nat} {a2 : Option Addr} {y2 : Nat} (S : Step c W W') (H : Cur W' B c a len cap) {lo : Nat} (hlo : w.heap.size < lo) (hz : z < lo) (R1 : Row W' lo p2 16 x2 f2) (D1 : DotsOf W' lo p2 (.slice a2 m2 y2) m2 g2) (I : IsPpu t2 c2 s2 ad2 pl2 16 f2 m2 g2) :
    LS w (((((((((W'.setCell ⟨z, 0, none⟩ (.int .i64 t2)).setCell ⟨z, 1, none⟩ (.int .i64 c2)).setCell ⟨z, 2, none⟩ (.int .i64 s2)).setCell ⟨z, 3, none⟩ (.int .i64 ad2)).setCell ⟨z, 4, none⟩ (.int .i64 pl2)).setCell ⟨z, 5, none⟩ (.bool bl2)).setCell ⟨z, 6, none⟩ (.slice (some ⟨p2, 0, none⟩) 16 x2)).setCell ⟨z, 7, none⟩ (.slice a2 m2 y2))) B c a len cap z t2 c2 s2 ad2 pl2 bl2 f2 m2 g2 p2 x2 a2 y2 := by
  have M := h.moved hc S H
  have hf := M.far
  have WW := put8_wrote W' z (.int .i64 t2) (.int .i64 c2) (.int .i64 s2) (.int .i64 ad2) (.int .i64 pl2) (.bool bl2) (.slice (some ⟨p2, 0, none⟩) 16 x2) (.slice a2 m2 y2)
  have hp := R1.parts
  refine ⟨box_wrote M.res WW (fun o e => by omega), put8_box M.box _ _ _ _ _ _ _ _, (R1.keep WW (fun o e => by omega)).mono (by omega), ⟨by omega, by omega, by omega⟩, ?_, I, ?_, ?_⟩
  · rcases D1 with ⟨e, e2⟩ | ⟨q, y', e, r, hne⟩
    · simp only [Value.slice.injEq] at e
      exact Or.inl ⟨e.1, e2, e.2.2⟩
    · simp only [Value.slice.injEq, true_and] at e
      obtain ⟨rfl, rfl⟩ := e
      have hq := r.parts
      exact Or.inr ⟨q, rfl, (r.keep WW (fun o e => by omega)).mono (by omega), by omega, by omega, hne⟩
  · exact H.below (WW.below (B := w.heap.size) (by have := M.step.size; omega) (fun b o hb e => by omega)) hc
  · exact ⟨WW.os.trans M.step.os, WW.tape.trans M.step.tape, WW.output.trans M.step.output, Nat.le_trans M.step.size WW.size, fun k hk hkc => (WW.block k (Nat.lt_of_lt_of_le hk M.step.size) (fun o e => by omega)).trans (M.step.block k hk hkc)⟩
/-- A picture unit that is right, its lists in blocks of their own. -/
structure Right (W : World) (lo : Nat) (v : Value) : Prop where
  ex : ∃ (t c s ad pl : Int) (bl : Bool) (f : Nat → Int) (m : Nat) (g : Nat → Int) (p x : Nat) (a : Option Addr) (y : Nat), v = .agg #[.int .i64 t, .int .i64 c, .int .i64 s, .int .i64 ad, .int .i64 pl, .bool bl, .slice (some ⟨p, 0, none⟩) 16 x, .slice a m y] ∧ Row W lo p 16 x f ∧ DotsOf W lo p (.slice a m y) m g ∧ IsPpu t c s ad pl 16 f m g
theorem TickedR.out {w W : World} {v u : Value} {t c s ad pl : Int} {bl : Bool} {n : Nat} {f : Nat → Int} {m : Nat} {g : Nat → Int} {k : Nat} {h : Nat → Int} (T : TickedR w W v u t c s ad pl bl n f m g k h) :
    ∃ p x a y, v = .agg #[.int .i64 t, .int .i64 c, .int .i64 s, .int .i64 ad, .int .i64 pl, .bool bl, .slice (some ⟨p, 0, none⟩) n x, .slice a m y] ∧ Row W w.heap.size p n x f ∧ DotsOf W w.heap.size p (.slice a m y) m g ∧ Below w.heap.size w W := by
  obtain ⟨p, x, dd, e, h1, h2⟩ := T.rows
  obtain ⟨D, E, i1, i2, i3, i4, L⟩ := T.tk.ex
  obtain ⟨a1, x1, a2, x2, e2⟩ := i1.two
  rw [e2] at e
  simp only [Value.agg.injEq, Array.mk.injEq, List.cons.injEq, and_true, true_and] at e
  obtain ⟨e3, rfl⟩ := e
  exact ⟨p, x, a2, x2, by rw [e2, e3], h1, h2, L⟩
set_option maxHeartbeats 4000000 in
theorem l8DrawRight (w : World) (B c : Nat) (a : Option Addr) (len cap : Nat) (H : Cur w B c a len cap) (hc : c < w.heap.size) :
    Calls Try.prog 57 #[.pointer (some ⟨c, 0, none⟩)] w fun e w' => ∃ v, e = .returned v ∧ Right w' w.heap.size v ∧ Cur w' B c a len cap ∧ Step c w w' := by
  have L0 : Below w.heap.size w (w.alloc (.cells #[.int .i64 0, .int .i64 0, .int .i64 0, .int .i64 0, .int .i64 0, .bool false, .slice none 0 0, .slice none 0 0] 26)) := (Below.refl _ _).alloc (Nat.le_refl _) _
  have k0 := box_new w #[.int .i64 0, .int .i64 0, .int .i64 0, .int .i64 0, .int .i64 0, .bool false, .slice none 0 0, .slice none 0 0] 26
  go_enter Try.func57, Try.ntmps57
  go_wp2_with fail
  generalize w.alloc (.cells #[.int .i64 0, .int .i64 0, .int .i64 0, .int .i64 0, .int .i64 0, .bool false, .slice none 0 0, .slice none 0 0] 26) = W0 at *
  refine (specPpuNew _).mono ?_
  rintro e W1 ⟨p, rfl, R1, L1⟩
  have hp := R1.parts
  have hk := boxLt k0
  have M0 : LS w (W1.alloc (.cells #[.int .i64 0, .int .i64 0, .int .i64 0, .int .i64 0, .int .i64 0, .bool false, .slice (some ⟨p, 0, none⟩) 16 16, .slice none 0 0] 26)) B c a len cap W1.heap.size 0 0 0 0 0 false (fun _ => 0) 0 (fun _ => 0) p 16 none 0 := by
    have LA : Below W1.heap.size W1 (W1.alloc (.cells #[.int .i64 0, .int .i64 0, .int .i64 0, .int .i64 0, .int .i64 0, .bool false, .slice (some ⟨p, 0, none⟩) 16 16, .slice none 0 0] 26)) := (Below.refl _ _).alloc (Nat.le_refl _) _
    have C := below_snoc (below_snoc L0 L1) LA
    have hs := L1.size
    exact ⟨boxA (box_keep k0 L1 hk) _, box_new _ _ _, (R1.below LA).mono (by omega), ⟨by omega, by omega, by omega⟩, Or.inl ⟨rfl, rfl, rfl⟩, isPpu_new _, H.below C hc, below_step C (Nat.le_refl _)⟩
  clear R1 L0 L1 k0
  go_upto_region 2 with (fail)
  obtain ⟨z, hz⟩ : ∃ z, Hid (z = W1.heap.size) := ⟨_, rfl⟩
  generalize W1.alloc (.cells #[.int .i64 0, .int .i64 0, .int .i64 0, .int .i64 0, .int .i64 0, .bool false, .slice (some ⟨p, 0, none⟩) 16 16, .slice none 0 0] 26) = W2 at *
  rw [← hz.out] at M0 ⊢
  clear hz hp hk
  go_wp2_with fail
  refine (l1Below _ B c a len cap M0.cur 150).mono ?_
  rintro e W3 ⟨nn, rfl, n0, n1, H3, O3⟩
  have M3 := M0.moved hc O3.step H3
  clear M0 O3 H3
  obtain ⟨N, rfl⟩ : ∃ N : Nat, nn = N := ⟨nn.toNat, by omega⟩
  have hN : N ≤ 150 := by omega
  clear n0 n1
  go_wp2
  go_loopw [5] (fun i wr => ∃ j : Nat, j ≤ N ∧ i = .int .i64 j ∧ ∃ t cc s ad pl bl f m g p x a' y, LS w wr B c a len cap z t cc s ad pl bl f m g p x a' y) (fun i _ => N - (intOf i).toNat)
  case atStart => exact ⟨0, Nat.zero_le _, rfl, _, _, _, _, _, _, _, _, _, _, _, _, _, M3⟩
  case round =>
    obtain ⟨j, hj, rfl, t, cc, s, ad, pl, bl, f, m, g, p, x, a', y, M⟩ := hrel
    by_cases hlt : j < N
    · have hlt' : (j : Int) < (N : Int) := by omega
      go_wp2_with fail
      refine (l1Once _ B c a len cap M.cur 6).mono ?_
      rintro e W4 ⟨b4, rfl, H4, O4⟩
      have M4 := M.moved hc O4.step H4
      clear M O4 H4
      cases b4
      · have hok := okPpu_is M4.is
        obtain ⟨hi1, hi2⟩ := M4.ints
        have cz := boxC M4.box
        go_wp2_with fail
        refine (specPpuTickR _ _ _ t cc s ad pl bl _ _ 16 f m g hi1 hi2).mono ?_
        rintro e W5 ⟨v5, u5, rfl, T5⟩
        clear cz hi1 hi2
        rw [hok] at T5 ⊢
        replace T5 : TickedR _ W5 v5 u5 _ _ _ _ _ _ _ _ _ _ _ _ := T5
        obtain ⟨p2, x2, a2, y2, rfl, R5, D5, L5⟩ := T5.out
        have b5 := box_keep M4.box L5 (boxLt M4.box)
        have c5 := boxC b5
        have f5 := boxF b5
        have M6 := M4.put (bl2 := tkB t bl) hc (below_step L5 (Nat.le_refl _)) (M4.cur.below L5 (Nat.lt_of_lt_of_le hc M4.step.size)) (boxLt M4.res) (boxLt M4.box) R5 D5 (isPpu_tick M4.is)
        have HM := hide M6
        clear M6 T5 R5 D5 L5 b5 hok
        go_wp2
        go_round
        case rel => exact ⟨j + 1, by omega, by go_num, _, _, _, _, _, _, _, _, _, _, _, _, _, HM.out⟩
        case measure => simp [intOf]; omega
      · have hok := okPpu_is M4.is
        have c4 := boxC M4.box
        have HC := hide (show Cur W4.drew B c a len cap from M4.cur.drewN 1)
        have HM := hide M4
        clear M4
        go_upto_region 7 with (fail)
        go_region_with (first
          | (go_at_call 78; refine (specPpuWrite _ _ _ t cc s ad pl bl _ _ 16 f m g x5 x6 (unhide HM6).ints.1 (unhide HM6).ints.2).mono ?_; rintro e W7 ⟨p2, px2, q2, qy2, rfl, R7, S7, hne7, L7⟩; rw [hok] at R7 ⊢; have b7 := box_keep (unhide HM6).box L7 (boxLt (unhide HM6).box); have c7 := boxC b7; have f7 := boxF b7; have HM7 := hide ((unhide HM6).put (bl2 := bl) hc (below_step L7 (Nat.le_refl _)) ((unhide HM6).cur.below L7 (Nat.lt_of_lt_of_le hc (unhide HM6).step.size)) (boxLt (unhide HM6).res) (boxLt (unhide HM6).box) R7 (Or.inr ⟨_, _, rfl, S7, hne7⟩) (isPpu_write (unhide HM6).is x5 x6)); clear b7 R7 S7 L7)
          | (go_at_call 58; refine (l1Below _ B c a len cap (unhide HM5).cur 256).mono ?_; rintro e W6 ⟨x6, rfl, y60, y61, H6, O6⟩; have HM6 := hide ((unhide HM5).moved hc O6.step H6); have c6 := boxC (unhide HM6).box; clear H6 O6)
          | (go_at_call 58; refine (l1Below _ B c a len cap (unhide HC) 6).mono ?_; rintro e W5 ⟨x5, rfl, y50, y51, H5, O5⟩; have HM5 := hide ((unhide HM).moved hc (((OnlyAt.refl c W4).drew.trans O5).step) H5); have c5 := boxC (unhide HM5).box; clear H5 O5))
        all_goals
          have M8 := unhide HM7
          generalize ((((((((W7.setCell ⟨z, 0, none⟩ (.int .i64 t)).setCell ⟨z, 1, none⟩ (.int .i64 (wrC true x5 x6 cc))).setCell ⟨z, 2, none⟩ (.int .i64 (wrS true x5 x6 s))).setCell ⟨z, 3, none⟩ (.int .i64 (wrA true x5 x6 ad))).setCell ⟨z, 4, none⟩ (.int .i64 (wrP true x5 x6 pl))).setCell ⟨z, 5, none⟩ (.bool bl)).setCell ⟨z, 6, none⟩ (.slice (some ⟨p2, 0, none⟩) 16 px2)).setCell ⟨z, 7, none⟩ (.slice (some ⟨q2, 0, none⟩) m qy2)) = W8 at *
          clear HM7 HM6 HM5 HM HC c4 c5 c6 c7 f7 hok
          have hok := okPpu_is M8.is
          obtain ⟨hi1, hi2⟩ := M8.ints
          have cz := boxC M8.box
          go_wp2_with fail
          refine (specPpuTickR _ _ _ _ _ _ _ _ _ _ _ 16 _ _ _ hi1 hi2).mono ?_
          rintro e W9 ⟨v5, u5, rfl, T5⟩
          clear cz hi1 hi2
          rw [hok] at T5 ⊢
          replace T5 : TickedR _ W9 v5 u5 _ _ _ _ _ _ _ _ _ _ _ _ := T5
          obtain ⟨p3, x3, a3, y3, rfl, R5, D5, L5⟩ := T5.out
          have b5 := box_keep M8.box L5 (boxLt M8.box)
          have c5 := boxC b5
          have f5 := boxF b5
          have M6 := M8.put (bl2 := tkB t bl) hc (below_step L5 (Nat.le_refl _)) (M8.cur.below L5 (Nat.lt_of_lt_of_le hc M8.step.size)) (boxLt M8.res) (boxLt M8.box) R5 D5 (isPpu_tick M8.is)
          have HM9 := hide M6
          clear M6 T5 R5 D5 L5 b5 hok
          go_wp2
          go_round
          case rel => exact ⟨j + 1, by omega, by go_num, _, _, _, _, _, _, _, _, _, _, _, _, _, HM9.out⟩
          case measure => simp [intOf]; omega
    · have hlt' : ¬ (j : Int) < (N : Int) := by omega
      have cz := boxC M.box
      have cr := boxC M.res
      have fr := boxF M.res
      have HM := hide M
      clear M
      go_wp2
      refine bodyPost_ret (v := .agg #[.int .i64 t, .int .i64 cc, .int .i64 s, .int .i64 ad, .int .i64 pl, .bool bl, .slice (some ⟨p, 0, none⟩) 16 x, .slice a' m y]) (by simp [results, Try.results57, go_sem, cr]) rfl ?_
      have hf := HM.out.far
      have key : ∀ W5, Wrote (fun b _ => b = w.heap.size) wr W5 → Right W5 w.heap.size (.agg #[.int .i64 t, .int .i64 cc, .int .i64 s, .int .i64 ad, .int .i64 pl, .bool bl, .slice (some ⟨p, 0, none⟩) 16 x, .slice a' m y]) ∧ Cur W5 B c a len cap ∧ Step c w W5 := fun W5 WX => by
        have M := HM.out
        refine ⟨⟨t, cc, s, ad, pl, bl, f, m, g, p, x, a', y, rfl, M.tab.keep WX (fun o e => by omega), ?_, M.is⟩, M.cur.below (WX.below (B := w.heap.size) M.step.size (fun b o hb e => by omega)) hc, ⟨WX.os.trans M.step.os, WX.tape.trans M.step.tape, WX.output.trans M.step.output, Nat.le_trans M.step.size WX.size, fun k hk hkc => (WX.block k (Nat.lt_of_lt_of_le hk M.step.size) (fun o e => by omega)).trans (M.step.block k hk hkc)⟩⟩
        rcases M.dots with ⟨rfl, rfl, rfl⟩ | ⟨q, rfl, r, hq, hqz, hpq⟩
        · exact Or.inl ⟨rfl, rfl⟩
        · exact Or.inr ⟨q, y, rfl, r.keep WX (fun o e => by omega), hpq⟩
      refine ⟨_, rfl, key _ ?_⟩
      repeat (first | with_reducible exact Wrote.refl _ _ | with_reducible refine Wrote.drew ?_ | with_reducible refine Wrote.setCell ?_ (fun _ => by omega) _)
end Go.Proofs.Ytpaedkefmebjjag
