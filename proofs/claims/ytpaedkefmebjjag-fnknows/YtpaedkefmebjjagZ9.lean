/-
  The draws of chapter 8: any picture unit.
-/
import Derived.Test.YtpaedkefmebjjagZ8
namespace Go.Proofs.Ytpaedkefmebjjag
set_option linter.unusedVariables false
open Go.ChangeShapes Go.WideShapes Go.ChangeAt Go.RowKit
/-- A picture unit, whatever it holds, in new memory; the cursor goes on. -/
structure Drawn (w W : World) (B c : Nat) (a : Option Addr) (len cap : Nat) (v : Value) : Prop where
  unit : ∃ (t cc s ad pl : Int) (bl : Bool) (n : Nat) (f : Nat → Int) (m : Nat) (g : Nat → Int), PpuOn W (fun b => w.heap.size ≤ b) v t cc s ad pl bl n f m g
  cur : Cur W B c a len cap
  step : Step c w W
theorem slOn_dots {W : World} {lo m y : Nat} {a' : Option Addr} {g : Nat → Int} {p z : Nat} (h : (a' = none ∧ m = 0 ∧ y = 0) ∨ ∃ q, a' = some ⟨q, 0, none⟩ ∧ Row W lo q m y g ∧ lo < q ∧ q ≠ z ∧ p ≠ q) : SlOn W (fun b => lo < b ∧ b ≠ z) a' m g := by
  rcases h with ⟨rfl, rfl, rfl⟩ | ⟨q, rfl, r, h1, h2, _⟩
  · exact SlOn.nil _
  · exact r.onD ⟨h1, h2⟩
theorem apart_dots {W : World} {lo m y n i : Nat} {a' : Option Addr} {g : Nat → Int} {p z : Nat} (h : (a' = none ∧ m = 0 ∧ y = 0) ∨ ∃ q, a' = some ⟨q, 0, none⟩ ∧ Row W lo q m y g ∧ lo < q ∧ q ≠ z ∧ p ≠ q) : Apart (some ⟨p, i, none⟩) n a' m := by
  rcases h with ⟨rfl, rfl, rfl⟩ | ⟨q, rfl, r, _, _, hpq⟩
  · exact fun b o _ h => absurd h (foot_none _ _ _)
  · exact apart_blocks hpq
theorem SlOn.behind {W : World} {D : Nat → Prop} {b i n : Nat} {f : Nat → Int} (h : SlOn W D (some ⟨b, i, none⟩) (n + 1) f) : SlOn W D (some ⟨b, i + 1, none⟩) n (fun j => f (j + 1)) := by
  have hs := h.small
  have hf : ∀ b' o, Foot (some ⟨b, i + 1, none⟩) n b' o → Foot (some ⟨b, i, none⟩) (n + 1) b' o := fun b' o ⟨off, e, h1, h2⟩ => by
    simp only [Option.some.injEq, Addr.mk.injEq, and_true] at e
    obtain ⟨rfl, rfl⟩ := e
    exact ⟨i, rfl, by omega, by omega⟩
  refine ⟨by omega, fun j hj => ?_, fun b' o h' => h.free b' o (hf b' o h'), fun b' o h' => h.on b' o (hf b' o h')⟩
  obtain ⟨b2, o2, e, hc⟩ := h.row (j + 1) (by omega)
  simp only [Option.some.injEq, Addr.mk.injEq, and_true] at e
  obtain ⟨rfl, rfl⟩ := e
  exact ⟨b, i + 1, rfl, by rw [show i + 1 + j = i + (j + 1) by omega]; exact hc⟩
set_option maxHeartbeats 4000000 in
theorem l8Draw (w : World) (B c : Nat) (a : Option Addr) (len cap : Nat) (H : Cur w B c a len cap) (hc : c < w.heap.size) :
    Calls Try.prog 31 #[.pointer (some ⟨c, 0, none⟩)] w fun e w' => ∃ v, e = .returned v ∧ Drawn w w' B c a len cap v := by
  have L0 : Below w.heap.size w (w.alloc (.cells #[.int .i64 0, .int .i64 0, .int .i64 0, .int .i64 0, .int .i64 0, .bool false, .slice none 0 0, .slice none 0 0] 26)) := (Below.refl _ _).alloc (Nat.le_refl _) _
  have k0 := box_new w #[.int .i64 0, .int .i64 0, .int .i64 0, .int .i64 0, .int .i64 0, .bool false, .slice none 0 0, .slice none 0 0] 26
  go_enter Try.func31, Try.ntmps31
  go_wp2_with fail
  generalize w.alloc (.cells #[.int .i64 0, .int .i64 0, .int .i64 0, .int .i64 0, .int .i64 0, .bool false, .slice none 0 0, .slice none 0 0] 26) = W0 at *
  have hk := boxLt k0
  refine (l8DrawRight _ B c a len cap (H.below L0 hc) (by omega)).mono ?_
  rintro e W1 ⟨v, rfl, ⟨t, cc, s, ad, pl, bl, f, m, g, p, x, a', y, rfl, R1, D1, I1⟩, H1, S1⟩
  have hp := R1.parts
  have hsz := S1.size
  have M0 : LS w (W1.alloc (.cells #[.int .i64 t, .int .i64 cc, .int .i64 s, .int .i64 ad, .int .i64 pl, .bool bl, .slice (some ⟨p, 0, none⟩) 16 x, .slice a' m y] 26)) B c a len cap W1.heap.size t cc s ad pl bl f m g p x a' y := by
    have LA : Below W1.heap.size W1 (W1.alloc (.cells #[.int .i64 t, .int .i64 cc, .int .i64 s, .int .i64 ad, .int .i64 pl, .bool bl, .slice (some ⟨p, 0, none⟩) 16 x, .slice a' m y] 26)) := (Below.refl _ _).alloc (Nat.le_refl _) _
    refine ⟨boxA ((S1.block _ hk (by omega)).trans k0) _, box_new _ _ _, (R1.below LA).mono (by omega), ⟨by omega, by omega, by omega⟩, ?_, I1, H1.below LA (by omega), (below_step L0 (Nat.le_refl _)).trans (S1.trans (below_step LA (Nat.le_refl _)))⟩
    rcases D1 with ⟨e, e2⟩ | ⟨q, y', e, r, hne⟩
    · simp only [Value.slice.injEq] at e
      exact Or.inl ⟨e.1, e2, e.2.2⟩
    · simp only [Value.slice.injEq, true_and] at e
      obtain ⟨rfl, rfl⟩ := e
      have hq := r.parts
      exact Or.inr ⟨q, rfl, (r.below LA).mono (by omega), by omega, by omega, hne⟩
  clear R1 D1 I1 H1 S1 L0 k0
  go_upto_region 2 with (fail)
  obtain ⟨z, hz⟩ : ∃ z, Hid (z = W1.heap.size) := ⟨_, rfl⟩
  generalize W1.alloc (.cells #[.int .i64 t, .int .i64 cc, .int .i64 s, .int .i64 ad, .int .i64 pl, .bool bl, .slice (some ⟨p, 0, none⟩) 16 x, .slice a' m y] 26) = W2 at *
  rw [← hz.out] at M0 ⊢
  clear hz hp hk hsz
  go_wp2_with fail
  refine (l1Below _ B c a len cap M0.cur 25).mono ?_
  rintro e W3 ⟨nn, rfl, n0, n1, H3, O3⟩
  have M := M0.moved hc O3.step H3
  clear M0 O3 H3
  have hf := M.far
  have cz := boxC M.box
  have fz := boxF M.box
  have cr := boxC M.res
  have fr := boxF M.res
  have HM := hide M
  have END : Hid (∀ (WX W5 : World) (v : Value), Wrote (fun b _ => b = w.heap.size ∨ b = z) WX W5 → (∃ (t cc s ad pl : Int) (bl : Bool) (n : Nat) (f : Nat → Int) (m : Nat) (g : Nat → Int), PpuOn WX (fun b => w.heap.size < b ∧ b ≠ z) v t cc s ad pl bl n f m g) → Cur WX B c a len cap → Step c w WX → Drawn w W5 B c a len cap v) := fun WX W5 v WW ⟨t, cc, s, ad, pl, bl, n, f, m, g, h⟩ hcur hst =>
    ⟨⟨t, cc, s, ad, pl, bl, n, f, m, g, (h.keep WW (fun b o hb _ e => by omega)).mono (fun b _ hb => by omega)⟩, hcur.below (WW.below (B := w.heap.size) hst.size (fun b o hb e => by omega)) hc, ⟨WW.os.trans hst.os, WW.tape.trans hst.tape, WW.output.trans hst.output, Nat.le_trans hst.size WW.size, fun k hk hkc => (WW.block k (Nat.lt_of_lt_of_le hk hst.size) (fun o e => by omega)).trans (hst.block k hk hkc)⟩⟩
  have ST := M.tab.onD (D := fun b => w.heap.size < b ∧ b ≠ z) ⟨hf.2.1, hf.2.2⟩
  have SD := slOn_dots M.dots
  have AP := fun i n => apart_dots (i := i) (n := n) M.dots
  have HS := hide (And.intro ST (And.intro SD AP))
  clear ST SD AP
  have HXC : Hid (∃ q : Nat, x = q + 16) := ⟨x - 16, by have := M.tab.parts; omega⟩
  clear M
  by_cases e4 : nn = 4
  · subst e4
    go_wp2
    refine bodyPost_ret (v := .agg #[.int .i64 (t), .int .i64 (256), .int .i64 s, .int .i64 ad, .int .i64 pl, .bool bl, .slice (some ⟨p, 0, none⟩) 16 x, .slice a' m y]) (by simp [results, Try.results31, go_sem, cr]) rfl ?_
    refine ⟨_, rfl, END.out W3 _ _ ?_ ⟨_, _, _, _, _, _, _, _, _, _, _, _, _, _, rfl, HS.out.1, HS.out.2.1, HS.out.2.2 _ _⟩ HM.out.cur HM.out.step⟩
    repeat (first | with_reducible exact Wrote.refl _ _ | with_reducible refine Wrote.drew ?_ | with_reducible refine Wrote.setCell ?_ (fun _ => by omega) _)
  by_cases e1 : nn = 1
  · subst e1
    obtain ⟨xc, rfl⟩ := HXC.out
    go_wp2
    refine bodyPost_ret (v := .agg #[.int .i64 (t), .int .i64 (cc), .int .i64 s, .int .i64 ad, .int .i64 pl, .bool bl, .slice (some ⟨p, 1, none⟩) 15 (xc + 15), .slice a' m y]) (by simp [results, Try.results31, go_sem, cr]) rfl ?_
    refine ⟨_, rfl, END.out W3 _ _ ?_ ⟨_, _, _, _, _, _, _, _, _, _, _, _, _, _, rfl, HS.out.1.behind, HS.out.2.1, HS.out.2.2 _ _⟩ HM.out.cur HM.out.step⟩
    repeat (first | with_reducible exact Wrote.refl _ _ | with_reducible refine Wrote.drew ?_ | with_reducible refine Wrote.setCell ?_ (fun _ => by omega) _)
  clear HXC
  by_cases e2 : nn = 2
  · subst e2
    obtain ⟨bb, oo, ee, hcell⟩ := HM.out.tab.sl.row 0 (by omega)
    simp only [Option.some.injEq, Addr.mk.injEq, and_true] at ee
    obtain ⟨rfl, rfl⟩ := ee
    simp only [Nat.add_zero] at hcell
    have hfro : W3.frozen? ⟨p, 0, none⟩ = false := HM.out.tab.own.frozenAt 0
    have hpw : ¬ w.heap.size = p := by omega
    have WP : Wrote (fun b _ => b = p) W3 (W3.setCell ⟨p, 0, none⟩ (.int .i64 64)) := Wrote.setCell (Wrote.refl (fun b _ => b = p) W3) (fun _ => rfl) _
    have Q1 := (HM.out.tab.put 0 (by omega) 64).onD (D := fun b => w.heap.size < b ∧ b ≠ z) ⟨hf.2.1, hf.2.2⟩
    have Q2 : SlOn (W3.setCell ⟨p, 0, none⟩ (.int .i64 64)) (fun b => w.heap.size < b ∧ b ≠ z) a' m g := HS.out.2.1.keep WP (fun b o h1 _ _ e => HS.out.2.2 o 1 b o ⟨o, by rw [e], by omega, by omega⟩ h1)
    have Q3 := HM.out.cur.below (WP.below (B := w.heap.size) HM.out.step.size (fun b o hb e => by omega)) hc
    have Q4 : Step c w (W3.setCell ⟨p, 0, none⟩ (.int .i64 64)) := ⟨WP.os.trans HM.out.step.os, WP.tape.trans HM.out.step.tape, WP.output.trans HM.out.step.output, Nat.le_trans HM.out.step.size WP.size, fun k hk hkc => (WP.block k (Nat.lt_of_lt_of_le hk HM.out.step.size) (fun o e => by omega)).trans (HM.out.step.block k hk hkc)⟩
    have HQ := hide (And.intro Q1 (And.intro Q2 (And.intro Q3 Q4)))
    clear Q1 Q2 Q3 Q4 WP
    go_wp2
    refine bodyPost_ret (v := .agg #[.int .i64 (t), .int .i64 (cc), .int .i64 s, .int .i64 ad, .int .i64 pl, .bool bl, .slice (some ⟨p, 0, none⟩) 16 x, .slice a' m y]) (by simp [results, Try.results31, go_sem, cr]) rfl ?_
    refine ⟨_, rfl, END.out (W3.setCell ⟨p, 0, none⟩ (.int .i64 64)) _ _ ?_ ⟨_, _, _, _, _, _, _, _, _, _, _, _, _, _, rfl, HQ.out.1, HQ.out.2.1, HS.out.2.2 _ _⟩ HQ.out.2.2.1 HQ.out.2.2.2⟩
    repeat (first | with_reducible exact Wrote.refl _ _ | with_reducible refine Wrote.drew ?_ | with_reducible refine Wrote.setCell ?_ (fun _ => by omega) _)
  by_cases e5 : nn = 5
  · subst e5
    obtain ⟨ob, hmk, hrow⟩ : ∃ ob : Obj, (∀ W : World, (Instr.makeSlice 24 (.int .i64 32) (.int .i64 32)).run Try.prog W = .ok (.slice (some ⟨W.heap.size, 0, none⟩) 32 32) (W.alloc ob)) ∧ Hid (∀ W : World, (W.alloc ob).rowIs W.heap.size 3 32 (fun _ => .int .i64 0)) :=
      ⟨_, run_make_row' (P := Try.prog) 24 3 (.int .i64 0) 8 Try.underlying24 info3 rfl .i64 .i64 32 (by omega) (by omega), fun W => World.rowIs_made W _ _ _⟩
    go_wp2_with fail
    refine (show Calls Try.prog 39 #[.int .i64 20000] _ (fun e w' => e = .returned (.int .i64 32) ∧ w' = _) from l8Dots _ 20000 (by omega) (by omega)).mono ?_
    rintro e WW ⟨rfl, rfl⟩
    have WV : Wrote (fun b _ => b = z) W3 (((W3.setCell ⟨z, 0, none⟩ (.int .i64 20000)).setCell ⟨z, 7, none⟩ (.slice (some ⟨W3.heap.size, 0, none⟩) 32 32)).alloc ob) := (Wrote.setCell (R := fun b _ => b = z) (Wrote.setCell (R := fun b _ => b = z) (Wrote.refl _ W3) (fun _ => rfl) _) (fun _ => rfl) _).alloc _
    have hzl := boxLt HM.out.box
    have y0 : (((W3.setCell ⟨z, 0, none⟩ (.int .i64 20000)).setCell ⟨z, 7, none⟩ (.slice (some ⟨W3.heap.size, 0, none⟩) 32 32)).alloc ob).heap[w.heap.size]? = _ := box_wrote HM.out.res WV (fun o e => by omega)
    have y2 : (((W3.setCell ⟨z, 0, none⟩ (.int .i64 20000)).setCell ⟨z, 7, none⟩ (.slice (some ⟨W3.heap.size, 0, none⟩) 32 32)).alloc ob).heap[z]? = some (.cells #[.int .i64 (20000), .int .i64 (cc), .int .i64 s, .int .i64 ad, .int .i64 pl, .bool bl, .slice (some ⟨p, 0, none⟩) 16 x, .slice (some ⟨W3.heap.size, 0, none⟩) 32 32] 26 (0, 0)) := boxA (box_set (box_set HM.out.box _) _) _
    have hr := hrow.out ((W3.setCell ⟨z, 0, none⟩ (.int .i64 20000)).setCell ⟨z, 7, none⟩ (.slice (some ⟨W3.heap.size, 0, none⟩) 32 32))
    have es : ((W3.setCell ⟨z, 0, none⟩ (.int .i64 20000)).setCell ⟨z, 7, none⟩ (.slice (some ⟨W3.heap.size, 0, none⟩) 32 32)).heap.size = W3.heap.size := by simp
    rw [es] at hr
    have Q1 := HS.out.1.keep WV (fun b o _ hb _ e => hb.2 e)
    have Q2 := (Row.fresh (lo := w.heap.size) (f := fun _ => 0) hr (by omega) (by omega)).onD (D := fun b => w.heap.size < b ∧ b ≠ z) ⟨by omega, by omega⟩
    have Q3 := HM.out.cur.below (WV.below (B := w.heap.size) HM.out.step.size (fun b o hb e => by omega)) hc
    have Q4 : Step c w (((W3.setCell ⟨z, 0, none⟩ (.int .i64 20000)).setCell ⟨z, 7, none⟩ (.slice (some ⟨W3.heap.size, 0, none⟩) 32 32)).alloc ob) := ⟨WV.os.trans HM.out.step.os, WV.tape.trans HM.out.step.tape, WV.output.trans HM.out.step.output, Nat.le_trans HM.out.step.size WV.size, fun k hk hkc => (WV.block k (Nat.lt_of_lt_of_le hk HM.out.step.size) (fun o e => by omega)).trans (HM.out.step.block k hk hkc)⟩
    have HQ := hide (And.intro Q1 (And.intro Q2 (And.intro Q3 Q4)))
    have hpz := HM.out.tab.parts
    have HP := hide hpz.2.1
    have d0 := boxC y0
    have g0 := boxF y0
    have d2 := boxC y2
    have g2 := boxF y2
    clear Q1 Q2 Q3 Q4 WV y0 y2 hr es hpz
    go_wp2
    refine bodyPost_ret (v := .agg #[.int .i64 (20000), .int .i64 (cc), .int .i64 s, .int .i64 ad, .int .i64 pl, .bool bl, .slice (some ⟨p, 0, none⟩) 16 x, .slice (some ⟨W3.heap.size, 0, none⟩) 32 32]) (by simp [results, Try.results31, go_sem, d0]) rfl ?_
    refine ⟨_, rfl, END.out (((W3.setCell ⟨z, 0, none⟩ (.int .i64 20000)).setCell ⟨z, 7, none⟩ (.slice (some ⟨W3.heap.size, 0, none⟩) 32 32)).alloc ob) _ _ ?_ ⟨_, _, _, _, _, _, _, _, _, _, _, _, _, _, rfl, HQ.out.1, HQ.out.2.1, apart_blocks (by have := HP.out; omega)⟩ HQ.out.2.2.1 HQ.out.2.2.2⟩
    repeat (first | with_reducible exact Wrote.refl _ _ | with_reducible refine Wrote.drew ?_ | with_reducible refine Wrote.setCell ?_ (fun _ => by omega) _)
  by_cases e3 : nn = 3
  · subst e3
    have k4 := box_new W3 #[.int .i64 1] 3
    have LA : Below W3.heap.size W3 (W3.alloc (.cells #[.int .i64 1] 3)) := (Below.refl _ _).alloc (Nat.le_refl _) _
    have M4 := HM.out.moved hc (below_step LA (Nat.le_refl _)) (HM.out.cur.below LA (Nat.lt_of_lt_of_le hc HM.out.step.size))
    have hzl := boxLt HM.out.box
    have d0 := boxC M4.res
    have d2 := boxC M4.box
    have HM4 := hide M4
    have HK4 := hide k4
    rcases M4.dots with ⟨rfl, rfl, rfl⟩ | ⟨q, rfl, r, hq1, hq2, hpq⟩
    · obtain ⟨i0, hi, hz0, hz1, hz2⟩ := info_parts info3
      have hnews : ∀ j u, [Value.int .i64 1][j]? = some u → (W3.alloc (.cells #[.int .i64 1] 3)).cell? ((⟨W3.heap.size, 0, none⟩ : Addr).add j) = some u := fun j u hh => by
        cases j with
        | zero => simp at hh; rw [← hh]; exact boxC k4 0
        | succ j => simp at hh
      have HN := hide hnews
      clear M4 k4 LA hnews
      go_wp2_with (at_builtin; refine wpList_append_grows _ rfl _ _ 24 rfl 3 i0 (.int .i64 0) 1 8 Try.underlying24 hi hz0 hz1 hz2 rfl (by decide) none 0 0 [] rfl (fun _ => ⟨rfl, rfl⟩) rfl (fun b hb j u h => by simp at h) ⟨W3.heap.size, 0, none⟩ 1 1 [.int .i64 1] rfl rfl HN.out (fun u hu => by simp at hu; rw [hu]; rfl) (by omega) (by unfold maxLen; omega) (by omega) ?_)
      intro v' W4 hown hgrow
      have hon : W4.ownsRow (W3.alloc (.cells #[.int .i64 1] 3)).heap.size 3 1 v' 1 (rowVals 1 (fun _ => 1)) := by rw [show rowVals 1 (fun _ => 1) = [.int .i64 1] from rfl]; simpa using hown
      obtain ⟨g', c', rfl, hg, hlt⟩ := hon.form (by omega)
      have L4 : Below (W3.alloc (.cells #[.int .i64 1] 3)).heap.size (W3.alloc (.cells #[.int .i64 1] 3)) W4 := (Below.refl _ _).grown hgrow (Nat.le_refl _) (fun _ e => by cases e)
      have T4 := wrote_below L4 Nowhere
      have hvs' : (W3.alloc (.cells #[.int .i64 1] 3)).heap.size = W3.heap.size + 1 := by simp
      have R4 : Row W4 w.heap.size g' 1 c' (fun _ => 1) := (Row.mk hon (by omega)).mono (by omega)
      rw [hvs'] at hg
      clear hown hgrow hon L4 hvs'
      have y0 := box_wrote HM4.out.res T4 (fun o e => by omega)
      have y2 := box_wrote HM4.out.box T4 (fun o e => by omega)
      have hst := HM4.out.step
      have hpp := HM4.out.tab.parts
      have hvs : (W3.alloc (.cells #[.int .i64 1] 3)).heap.size = W3.heap.size + 1 := by simp
      have Q1 := (HM4.out.tab.keep T4 (fun o e => by omega)).onD (D := fun b => w.heap.size < b ∧ b ≠ z) ⟨hf.2.1, hf.2.2⟩
      have Q2 := R4.onD (D := fun b => w.heap.size < b ∧ b ≠ z) ⟨by omega, by omega⟩
      have Q3 := HM4.out.cur.below (T4.below (B := w.heap.size) hst.size (fun b o hb e => by omega)) hc
      have Q4 : Step c w W4 := ⟨T4.os.trans hst.os, T4.tape.trans hst.tape, T4.output.trans hst.output, Nat.le_trans hst.size T4.size, fun k hk hkc => (T4.block k (Nat.lt_of_lt_of_le hk hst.size) (fun o e => by omega)).trans (hst.block k hk hkc)⟩
      have QA : Apart (some ⟨p, 0, none⟩) 16 (some ⟨g', 0, none⟩) 1 := apart_blocks (by omega)
      have HQ := hide (And.intro Q1 (And.intro Q2 (And.intro Q3 (And.intro Q4 QA))))
      clear cz fz cr fr d0 d2
      have cz := boxC y2
      have fz := boxF y2
      have cr := boxC y0
      have fr := boxF y0
      clear Q1 Q2 Q3 Q4 QA y0 y2 T4 R4 hst hpp hvs
      go_wp2
      refine bodyPost_ret (v := .agg #[.int .i64 (t), .int .i64 (cc), .int .i64 s, .int .i64 ad, .int .i64 pl, .bool bl, .slice (some ⟨p, 0, none⟩) 16 x, .slice (some ⟨g', 0, none⟩) 1 c']) (by simp [results, Try.results31, go_sem, cr]) rfl ?_
      refine ⟨_, rfl, END.out W4 _ _ ?_ ⟨_, _, _, _, _, _, _, _, _, _, _, _, _, _, rfl, HQ.out.1, HQ.out.2.1, HQ.out.2.2.2.2⟩ HQ.out.2.2.1 HQ.out.2.2.2.1⟩
      repeat (first | with_reducible exact Wrote.refl _ _ | with_reducible refine Wrote.drew ?_ | with_reducible refine Wrote.setCell ?_ (fun _ => by omega) _)
    · have hm : m < 1048576 := by
        have h1 := HM4.out.is.dots
        unfold dotsN at h1
        split at h1 <;> omega
      have HR := hide r
      clear M4 k4 LA r
      go_wp2_with (at_builtin; refine wpList_push _ rfl _ _ rfl w.heap.size q m y g rfl HR.out hm W3.heap.size 1 rfl (boxC HK4.out 0) ?_)
      intro g' c' W4 R4 T4 h4
      have y0 := box_wrote HM4.out.res T4 (fun o e => by omega)
      have y2 := box_wrote HM4.out.box T4 (fun o e => by omega)
      have hst := HM4.out.step
      have hpp := HM4.out.tab.parts
      have hvs : (W3.alloc (.cells #[.int .i64 1] 3)).heap.size = W3.heap.size + 1 := by simp
      have Q1 := (HM4.out.tab.keep T4 (fun o e => by omega)).onD (D := fun b => w.heap.size < b ∧ b ≠ z) ⟨hf.2.1, hf.2.2⟩
      have Q2 := R4.onD (D := fun b => w.heap.size < b ∧ b ≠ z) ⟨by omega, by omega⟩
      have Q3 := HM4.out.cur.below (T4.below (B := w.heap.size) hst.size (fun b o hb e => by omega)) hc
      have Q4 : Step c w W4 := ⟨T4.os.trans hst.os, T4.tape.trans hst.tape, T4.output.trans hst.output, Nat.le_trans hst.size T4.size, fun k hk hkc => (T4.block k (Nat.lt_of_lt_of_le hk hst.size) (fun o e => by omega)).trans (hst.block k hk hkc)⟩
      have QA : Apart (some ⟨p, 0, none⟩) 16 (some ⟨g', 0, none⟩) (m + 1) := apart_blocks (by omega)
      have HQ := hide (And.intro Q1 (And.intro Q2 (And.intro Q3 (And.intro Q4 QA))))
      clear cz fz cr fr d0 d2
      have cz := boxC y2
      have fz := boxF y2
      have cr := boxC y0
      have fr := boxF y0
      clear Q1 Q2 Q3 Q4 QA y0 y2 T4 R4 hst hpp hvs
      go_wp2
      refine bodyPost_ret (v := .agg #[.int .i64 (t), .int .i64 (cc), .int .i64 s, .int .i64 ad, .int .i64 pl, .bool bl, .slice (some ⟨p, 0, none⟩) 16 x, .slice (some ⟨g', 0, none⟩) (m + 1) c']) (by simp [results, Try.results31, go_sem, cr]) rfl ?_
      refine ⟨_, rfl, END.out W4 _ _ ?_ ⟨_, _, _, _, _, _, _, _, _, _, _, _, _, _, rfl, HQ.out.1, HQ.out.2.1, HQ.out.2.2.2.2⟩ HQ.out.2.2.1 HQ.out.2.2.2.1⟩
      repeat (first | with_reducible exact Wrote.refl _ _ | with_reducible refine Wrote.drew ?_ | with_reducible refine Wrote.setCell ?_ (fun _ => by omega) _)
  by_cases e0 : nn = 0
  · subst e0
    have t0 := HM.out.is.t0
    have t1 := HM.out.is.t1
    have k4 := box_new W3 #[.int .i64 (-1), .int .i64 20000, .int .i64 20001, .int .i64 (t + 1)] 3
    have LA : Below W3.heap.size W3 (W3.alloc (.cells #[.int .i64 (-1), .int .i64 20000, .int .i64 20001, .int .i64 (t + 1)] 3)) := (Below.refl _ _).alloc (Nat.le_refl _) _
    have M4 := HM.out.moved hc (below_step LA (Nat.le_refl _)) (HM.out.cur.below LA (Nat.lt_of_lt_of_le hc HM.out.step.size))
    have hz4 := HM.out.step.size
    have HM4 := hide M4
    have HK4 := hide k4
    clear M4 k4 LA
    go_wp2_with fail
    refine (l1PickInt _ B c a len cap HM4.out.cur W3.heap.size 4 (by omega) (by omega) (by omega) (fun j => ([-1, 20000, 20001, t + 1] : List Int).getD j 0) (fun j hj => ?hz)).mono ?_
    case hz =>
      rw [boxC HK4.out j]
      match j, hj with
      | 0, _ => rfl
      | 1, _ => rfl
      | 2, _ => rfl
      | 3, _ => rfl
      | _ + 4, h => exact absurd h (by omega)
    rintro e W4 ⟨jj, rfl, hjj, H4, O4⟩
    generalize ([-1, 20000, 20001, t + 1] : List Int).getD jj 0 = tv
    have M5 := HM4.out.moved hc O4.step H4
    clear HM4 HK4 cz fz cr fr HM HS O4 H4
    have hf := M5.far
    have cz := boxC M5.box
    have fz := boxF M5.box
    have cr := boxC M5.res
    have fr := boxF M5.res
    have HM := hide M5
    clear M5
    go_wp2
    refine bodyPost_ret (v := .agg #[.int .i64 (tv), .int .i64 (cc), .int .i64 s, .int .i64 ad, .int .i64 pl, .bool bl, .slice (some ⟨p, 0, none⟩) 16 x, .slice a' m y]) (by simp [results, Try.results31, go_sem, cr]) rfl ?_
    refine ⟨_, rfl, END.out W4 _ _ ?_ ⟨_, _, _, _, _, _, _, _, _, _, _, _, _, _, rfl, HM.out.tab.onD (D := fun b => w.heap.size < b ∧ b ≠ z) ⟨hf.2.1, hf.2.2⟩, slOn_dots HM.out.dots, apart_dots HM.out.dots⟩ HM.out.cur HM.out.step⟩
    repeat (first | with_reducible exact Wrote.refl _ _ | with_reducible refine Wrote.drew ?_ | with_reducible refine Wrote.setCell ?_ (fun _ => by omega) _)
  · have b0 : (nn == 0) = false := by simpa using e0
    have b1 : (nn == 1) = false := by simpa using e1
    have b2 : (nn == 2) = false := by simpa using e2
    have b3 : (nn == 3) = false := by simpa using e3
    have b4 : (nn == 4) = false := by simpa using e4
    have b5 : (nn == 5) = false := by simpa using e5
    clear e0 e1 e2 e3 e4 e5
    go_wp2
    refine bodyPost_ret (v := .agg #[.int .i64 (t), .int .i64 (cc), .int .i64 s, .int .i64 ad, .int .i64 pl, .bool bl, .slice (some ⟨p, 0, none⟩) 16 x, .slice a' m y]) (by simp [results, Try.results31, go_sem, cr]) rfl ?_
    refine ⟨_, rfl, END.out W3 _ _ ?_ ⟨_, _, _, _, _, _, _, _, _, _, _, _, _, _, rfl, HS.out.1, HS.out.2.1, HS.out.2.2 _ _⟩ HM.out.cur HM.out.step⟩
    repeat (first | with_reducible exact Wrote.refl _ _ | with_reducible refine Wrote.drew ?_ | with_reducible refine Wrote.setCell ?_ (fun _ => by omega) _)
/-- A drawn picture unit, in new memory. -/
structure PpuNew (w W : World) (v : Value) : Prop where
  unit : ∃ (t cc s ad pl : Int) (bl : Bool) (n : Nat) (f : Nat → Int) (m : Nat) (g : Nat → Int), PpuOn W (fun b => w.heap.size ≤ b) v t cc s ad pl bl n f m g
  low : Below w.heap.size w W
set_option maxHeartbeats 1000000 in
theorem drawPpuTick (w : World) (B : Nat) (a : Option Addr) (len cap : Nat) (hB : B ≤ w.heap.size) (H : Code w B a len) :
    Calls Try.prog 8 #[.slice a len cap] w fun e w' => ∃ v, e = .returned v ∧ PpuNew w w' v := by
  have L0 : Below w.heap.size w (w.alloc (.cells #[.int .i64 0, .int .i64 0, .int .i64 0, .int .i64 0, .int .i64 0, .bool false, .slice none 0 0, .slice none 0 0] 26)) := (Below.refl _ _).alloc (Nat.le_refl _) _
  have k0 := box_new w #[.int .i64 0, .int .i64 0, .int .i64 0, .int .i64 0, .int .i64 0, .bool false, .slice none 0 0, .slice none 0 0] 26
  go_enter Try.func8, Try.ntmps8
  go_wp2_with fail
  have hs0 : (w.alloc (.cells #[.int .i64 0, .int .i64 0, .int .i64 0, .int .i64 0, .int .i64 0, .bool false, .slice none 0 0, .slice none 0 0] 26)).heap.size = w.heap.size + 1 := by simp
  generalize w.alloc (.cells #[.int .i64 0, .int .i64 0, .int .i64 0, .int .i64 0, .int .i64 0, .bool false, .slice none 0 0, .slice none 0 0] 26) = W0 at *
  refine (l1New _ B a len cap (by omega) (H.keep (L0.mono hB))).mono ?_
  rintro e W1 ⟨rfl, H1, L1, s1⟩
  rw [hs0] at H1 L1 s1 ⊢
  have C1 : Below w.heap.size w W1 := L0.trans (L1.mono (by omega))
  have k1 := box_keep k0 L1 (by omega)
  clear L0 L1 k0
  go_wp2_with fail
  refine (l8Draw _ B _ a len cap H1 (by omega)).mono ?_
  rintro e W2 ⟨v, rfl, ⟨t, cc, s, ad, pl, bl, n, f, m, g, U⟩, H2, S2⟩
  have k2 := (S2.block w.heap.size (by omega) (by omega)).trans k1
  have C2 : Below w.heap.size w W2 := C1.trans (S2.below (by omega) (by omega))
  obtain ⟨a1, x1, a2, x2, rfl⟩ := U.two
  have c2 := boxC k2
  have f2 := boxF k2
  have END : Hid (∀ W5, Wrote (fun b _ => b = w.heap.size) W2 W5 → PpuNew w W5 (.agg #[.int .i64 t, .int .i64 cc, .int .i64 s, .int .i64 ad, .int .i64 pl, .bool bl, .slice a1 n x1, .slice a2 m x2])) := fun W5 WX =>
    ⟨⟨t, cc, s, ad, pl, bl, n, f, m, g, (U.keep WX (fun b o hb _ e => by omega)).mono (fun b _ hb => by omega)⟩, C2.trans (WX.below C2.size (fun b o hb e => by omega))⟩
  clear U H2 S2 k2 C2 H1 k1 C1
  go_wp2
  refine bodyPost_ret (v := .agg #[.int .i64 t, .int .i64 cc, .int .i64 s, .int .i64 ad, .int .i64 pl, .bool bl, .slice a1 n x1, .slice a2 m x2]) (by simp [results, Try.results8, go_sem, c2]) rfl ?_
  refine ⟨_, rfl, END.out _ ?_⟩
  repeat (first | with_reducible exact Wrote.refl _ _ | with_reducible refine Wrote.drew ?_ | with_reducible refine Wrote.setCell ?_ (fun _ => by omega) _)
end Go.Proofs.Ytpaedkefmebjjag
