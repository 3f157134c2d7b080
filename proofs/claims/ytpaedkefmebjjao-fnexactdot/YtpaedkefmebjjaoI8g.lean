/-
  The program's picture unit (chapter 8), by its contracts: a tick, through a pointer; PpuTick.
-/
import Derived.Test.YtpaedkefmebjjaoI8d
import Derived.Test.YtpaedkefmebjjaoI8f
namespace Go.Proofs.Ytpaedkefmebjjao
set_option linter.unusedVariables false
set_option linter.unusedSimpArgs false
open Go.ChangeShapes Go.WideShapes Go.ChangeAt Go.RowKit
/-- 'append(xs, x)', of a list that is none, or of one that the call owns. -/
theorem wp_pushAt (W : World) {o : Oper} {a : Act} {K : Act → World → Prop} {Q : Exit → Act → World → Prop} (s x : Operand) (hop : o.op = Op.call { callee := Callee.builtin Builtin.append, args := #[s, x], argTypes := #[22, 22] })
    (lo : Nat) (oq : Option Nat) (v : Value) (n : Nat) (f : Nat → Int) (hs : a.eval s = v) (R : RowAt W lo oq v n f) (hlo : lo ≤ W.heap.size) (hn : n < 1048576) (q : Nat) (y : Int) (hx : a.eval x = .slice (some ⟨q, 0, none⟩) 1 1) (hq : W.cell? ⟨q, 0, none⟩ = some (.int .i64 y))
    (h : ∀ g' c' W', Row W' lo g' (n + 1) c' (snoc f n y) → Wrote (fun b _ => oq = some b) W W' → (oq = some g' ∨ W.heap.size ≤ g') → K (a.put o.dst (.slice (some ⟨g', 0, none⟩) (n + 1) c')) W') : o.wp Try.prog a W K Q := by
  cases oq with
  | some g0 =>
    obtain ⟨c, rfl, r⟩ := R
    refine wp_push W s x hop lo g0 n c f hs r hn q y hx hq (fun g' c' W' h1 h2 h3 => ?_)
    refine h g' c' W' h1 (h2.mono (fun b _ _ e => by rw [e])) ?_
    rcases h3 with rfl | h3
    · exact Or.inl rfl
    · exact Or.inr h3
  | none =>
    obtain ⟨rfl, rfl⟩ := R
    obtain ⟨i0, hi, hz0, hz1, hz2⟩ := info_parts info3
    have hnews : ∀ j u, [Value.int .i64 y][j]? = some u → W.cell? ((⟨q, 0, none⟩ : Addr).add j) = some u := fun j u hh => by
      cases j with
      | zero => simp at hh; rw [← hh]; exact hq
      | succ j => simp at hh
    obtain ⟨v', w', hrun, r1, r2, _⟩ := run_append_own (P := Try.prog) W W.heap.size 22 o.type 3 i0 (.int .i64 0) 1 8 Try.underlying22 hi hz0 hz1 hz2 rfl (by decide) (.slice none 0 0) 0 [] (World.ownsRow_nil W _ 3 1) ⟨q, 0, none⟩ 1 1 [.int .i64 y] rfl hnews (fun u hu => by simp at hu; rw [hu]; rfl) (by unfold maxLen; omega) (by omega) (Nat.le_refl _)
    have e1 : [] ++ [Value.int .i64 y] = rowVals 1 (snoc f 0 y) := rowVals_snoc 0 f y
    rw [e1] at r1
    obtain ⟨g', cap2, rfl, hg, hlt⟩ := r1.form (by omega)
    have L : Below W.heap.size W w' := (Below.refl _ _).grown r2 (Nat.le_refl _) (fun _ e => by cases e)
    unfold Oper.wp
    simp [execOp, hop, resolve, invoke, builtin, hs, hx, hrun, Result.andThen]
    exact h g' cap2 w' ((Row.mk r1 (by omega)).mono hlo) (wrote_below L _) (Or.inr hg)
/-- What a tick makes of a picture unit in a block z: its lists in blocks of their own, and the list that is told. -/
structure TB (w W : World) (lo z : Nat) (o1 o2 : Option Nat) (u1 tv : Value) (t c s ad pl : Int) (bl : Bool) (n : Nat) (f : Nat → Int) (m : Nat) (g : Nat → Int) (k : Nat) (h : Nat → Int) : Prop where
  ex : ∃ o2' u2' o3, W.heap[z]? = some (.cells #[.int .i64 t, .int .i64 c, .int .i64 s, .int .i64 ad, .int .i64 pl, .bool bl, u1, u2'] 27 (0, 0)) ∧ RowAt W lo o1 u1 n f ∧ RowAt W lo o2' u2' m g ∧ RowAt W lo o3 tv k h ∧ Two o1 o2' ∧ Two o1 o3 ∧ Two o2' o3 ∧ (∀ q, (o1 = some q ∨ o2' = some q ∨ o3 = some q) → q ≠ z) ∧ Wrote (fun b _ => b = z ∨ o2 = some b) w W
theorem TB.up {w W : World} {lo z : Nat} {o1 o2 : Option Nat} {u1 tv : Value} {t c s ad pl : Int} {bl : Bool} {n : Nat} {f : Nat → Int} {m : Nat} {g : Nat → Int} {k : Nat} {h : Nat → Int} (H : TB w W lo z o1 o2 u1 tv t c s ad pl bl n f m g k h) (t' : Int) :
    TB w (W.setCell ⟨z, 0, none⟩ (.int .i64 t')) lo z o1 o2 u1 tv t' c s ad pl bl n f m g k h := by
  obtain ⟨o2', u2', o3, hb, r1, r2, r3, h1, h2, h3, hz, hw⟩ := H
  have WS : Wrote (fun b _ => b = z) W (W.setCell ⟨z, 0, none⟩ (.int .i64 t')) := Wrote.setCell (R := fun b _ => b = z) (Wrote.refl _ W) (fun _ => rfl) _
  exact ⟨o2', u2', o3, box_set hb _, r1.keep WS (fun q e _ _ _ x => hz q (Or.inl e) x), r2.keep WS (fun q e _ _ _ x => hz q (Or.inr (Or.inl e)) x), r3.keep WS (fun q e _ _ _ x => hz q (Or.inr (Or.inr e)) x), h1, h2, h3, hz, hw.setCell (fun _ => Or.inl rfl) _⟩
theorem TB.box {w W : World} {lo z : Nat} {o1 o2 : Option Nat} {u1 tv : Value} {t c s ad pl : Int} {bl : Bool} {n : Nat} {f : Nat → Int} {m : Nat} {g : Nat → Int} {k : Nat} {h : Nat → Int} (H : TB w W lo z o1 o2 u1 tv t c s ad pl bl n f m g k h) : ∃ u2' a x, tv = .slice a k x ∧ W.heap[z]? = some (.cells #[.int .i64 t, .int .i64 c, .int .i64 s, .int .i64 ad, .int .i64 pl, .bool bl, u1, u2'] 27 (0, 0)) := by
  obtain ⟨o2', u2', o3, hb, r1, r2, r3, h1, h2, h3, hz, hw⟩ := H
  obtain ⟨a, x, e⟩ := r3.form
  exact ⟨u2', a, x, e, hb⟩
set_option maxHeartbeats 4000000 in
theorem ppuTick (w : World) (lo z : Nat) (o1 o2 : Option Nat) (u1 u2 : Value) (t c s ad pl : Int) (bl : Bool) (n : Nat) (f : Nat → Int) (m : Nat) (g : Nat → Int) (hb : w.heap[z]? = some (.cells #[.int .i64 t, .int .i64 c, .int .i64 s, .int .i64 ad, .int .i64 pl, .bool bl, u1, u2] 27 (0, 0))) (R1 : RowAt w lo o1 u1 n f) (R2 : RowAt w lo o2 u2 m g) (h12 : Two o1 o2) (hz : ∀ q, (o1 = some q ∨ o2 = some q) → q ≠ z) (hlo : lo ≤ w.heap.size) (ok : okPpu t c s ad pl n f m g = true) (ht : ¬ t = 20000) :
    Calls Try.prog 42 #[.pointer (some ⟨z, 0, none⟩)] w fun e w' => ∃ tv, e = .returned (.tuple #[tv, .bool (tlN t c)]) ∧ TB w w' lo z o1 o2 u1 tv (tkT t) c s ad pl (tkB t bl) n f (tkM t m) (tkG t f s pl m g) (tlM t m) g := by
  have IP := okPpu_of ok
  have t0 := IP.t0
  have t1 : t < 20000 := by have := IP.t1; omega
  have HT := hide ht
  have m64 : t.tmod 64 = t % 64 := Int.tmod_eq_emod_of_nonneg t0
  obtain ⟨pa, px, rfl⟩ := R1.form
  obtain ⟨qa, qx, rfl⟩ := R2.form
  have hzlt := boxLt hb
  have y0 := boxA hb (.cells #[] 3)
  have x0 := box_new w #[] 3
  have L0 : Below w.heap.size w (w.alloc (.cells #[] 3)) := (Below.refl _ _).alloc (Nat.le_refl _) _
  have U1 := R1.below L0
  have U2 := R2.below L0
  have sz : (w.alloc (.cells #[] 3)).heap.size = w.heap.size + 1 := by simp
  have l1 : ∀ q, o1 = some q → lo ≤ q ∧ q < w.heap.size := fun q e => by subst e; exact R1.lt
  have l2 : ∀ q, o2 = some q → lo ≤ q ∧ q < w.heap.size := fun q e => by subst e; exact R2.lt
  have c0 := boxC hb
  have WB : Wrote (fun b _ => b = z ∨ o2 = some b) w (w.alloc (.cells #[] 3)) := wrote_below L0 _
  have HL := hide (And.intro l1 (And.intro l2 (And.intro h12 hz)))
  have HIP := hide (And.intro IP ok)
  clear ht R1 R2 l1 l2 h12 hz hb IP ok
  obtain ⟨W0, hW0⟩ : ∃ W0, W0 = w.alloc (.cells #[] 3) := ⟨_, rfl⟩
  rw [← hW0] at y0 x0 L0 U1 U2 sz WB
  have d0 := boxC y0
  have g0 := boxF y0
  by_cases hA : t % 64 < 48
  · have HE : Hid (tkT t = t + 1 ∧ tkB t bl = bl ∧ tkM t m = m + 1 ∧ tkG t f s pl m g = snoc g m (dotV f s pl (t % 64)) ∧ tlM t m = 0 ∧ tlN t c = false) := ⟨if_neg HT.out, (if_neg HT.out).trans ((if_neg (by omega)).trans (if_neg (by omega))), (if_neg HT.out).trans (if_pos hA), (if_neg HT.out).trans (if_pos hA), (if_neg HT.out).trans (if_neg (by omega)), (if_neg HT.out).trans (if_neg (by omega))⟩
    have hm48 : m < 48 := by
      have h1 := HIP.out.1.dots
      unfold dotsN at h1
      rw [if_neg (by omega)] at h1
      omega
    have hb0 : 0 ≤ t % 64 := by omega
    have HDOT : Hid (∀ W : World, Ints .i64 W (On (fun b => o1 = some b)) (.slice pa n px) n f → Ints .i64 W (On (fun b => o2 = some b)) (.slice qa m qx) m g → Calls Try.prog 19 #[.agg #[.int .i64 t, .int .i64 c, .int .i64 s, .int .i64 ad, .int .i64 pl, .bool bl, .slice pa n px, .slice qa m qx], .int .i64 (t % 64)] W fun e w' => e = .returned (.int .i64 (dotV f s pl (t % 64))) ∧ Below W.heap.size W w') := fun W h1 h2 => by
      refine (implDot W _ _ t c s ad pl bl _ _ n f m g (t % 64) h1 h2).mono ?_
      rintro e w' ⟨rfl, h⟩
      rw [HIP.out.2]
      exact ⟨ret_int (if_pos ⟨rfl, by omega, by omega⟩), h⟩
    generalize hdv : dotV f s pl (t % 64) = dv at *
    clear hdv
    go_enter Try.func42, Try.ntmps42
    go_upto_region 4 with (fail)
    rw [← hW0]
    refine wp_region_eff [some 16, some 17, some 18, some 19, some 20, some 21, some 22, some 23, some 24, some 25, some 26, some 27, some 28, some 29, none] (by kernel_rfl) (by kernel_rfl) (by kernel_rfl) (by kernel_rfl) (by simp [slotsOf])
      (fun j b _ => (j = 11 ∧ o2 = some b) ∨ (j = 14 ∧ b = z))
      (fun i v W => match i with
        | 0 => v = .pointer (some ⟨z, 0, none⟩)
        | 1 => v = .pointer (some ⟨z, 0, none⟩)
        | 2 => v = .pointer (some ⟨z, 0, none⟩)
        | 3 => v = .pointer (some ⟨z, 7, none⟩)
        | 4 => v = .slice qa m qx
        | 5 => v = .pointer (some ⟨z, 0, none⟩)
        | 6 => v = .pointer (some ⟨z, 0, none⟩)
        | 7 => v = .agg #[.int .i64 t, .int .i64 c, .int .i64 s, .int .i64 ad, .int .i64 pl, .bool bl, .slice pa n px, .slice qa m qx]
        | 8 => v = .int .i64 (t % 64)
        | 9 => v = .int .i64 dv
        | 10 => ∃ a, v = .slice (some ⟨a, 0, none⟩) 1 1 ∧ W0.heap.size ≤ a ∧ W.cell? ⟨a, 0, none⟩ = some (.int .i64 dv)
        | 11 => ∃ g' c', v = .slice (some ⟨g', 0, none⟩) (m + 1) c' ∧ Row W lo g' (m + 1) c' (snoc g m dv) ∧ (o2 = some g' ∨ W0.heap.size ≤ g')
        | 12 => v = .pointer (some ⟨z, 0, none⟩)
        | 13 => v = .pointer (some ⟨z, 7, none⟩)
        | _ => ∃ g' c', W.heap[z]? = some (.cells #[.int .i64 t, .int .i64 c, .int .i64 s, .int .i64 ad, .int .i64 pl, .bool bl, .slice pa n px, .slice (some ⟨g', 0, none⟩) (m + 1) c'] 27 (0, 0)) ∧ Row W lo g' (m + 1) c' (snoc g m dv) ∧ (o2 = some g' ∨ W0.heap.size ≤ g')) ?_ ?_ ?_
    · intro i j o v W W' hij ho hnw hW h
      match i, hij, ho, h with
      | 0, _, _, h => exact h
      | 1, _, _, h => exact h
      | 2, _, _, h => exact h
      | 3, _, _, h => exact h
      | 4, _, _, h => exact h
      | 5, _, _, h => exact h
      | 6, _, _, h => exact h
      | 7, _, _, h => exact h
      | 8, _, _, h => exact h
      | 9, _, _, h => exact h
      | 10, _, _, ⟨a, h1, h2, h3⟩ => exact ⟨a, h1, h2, (hW.cell a 0 (block_lt_of_cell h3) (fun e => by rcases e with ⟨_, e⟩ | ⟨_, e⟩; have := HL.out.2.1 a e; omega; omega)).trans h3⟩
      | 11, hij, _, ⟨g', c', h1, h2, h3⟩ => exact ⟨g', c', h1, h2.keep hW (fun o e => by rcases e with ⟨e, _⟩ | ⟨_, e⟩; omega; subst e; rcases h3 with h3 | h3; exact HL.out.2.2.2 _ (Or.inr h3) rfl; omega), h3⟩
      | 12, _, _, h => exact h
      | 13, _, _, h => exact h
      | 14, hij, ho, ⟨g', c', h1, h2, h3⟩ =>
        have h6 : j ≠ 11 := fun e => by
          obtain rfl := Option.some.inj ho
          rw [e] at hnw
          cases hnw.symm.trans (show waitsB _ 11 = true by kernel_rfl)
        exact ⟨g', c', box_wrote h1 hW (fun o e => by omega), h2.keep hW (fun o e => by omega), h3⟩
      | _ + 15, _, ho, _ => simp at ho
    · intro i o a' W K ho F L hw hK
      have hsz := L.size
      have tz := F.get (t := 0) (v := .pointer (some ⟨z, 0, none⟩)) (by decide) rfl
      have t6 := F.get (t := 6) (v := .int .i64 (t % 64)) (by decide) rfl
      match i with
      | 0 =>
        simp only [List.getElem?_toArray, List.getElem?_cons_zero, List.getElem?_cons_succ, Option.some.injEq] at ho
        subst ho
        go_simp
        exact hK _ _ (Wrote.refl _ _) rfl
      | 1 =>
        simp only [List.getElem?_toArray, List.getElem?_cons_zero, List.getElem?_cons_succ, Option.some.injEq] at ho
        subst ho
        go_simp
        exact hK _ _ (Wrote.refl _ _) rfl
      | 2 =>
        simp only [List.getElem?_toArray, List.getElem?_cons_zero, List.getElem?_cons_succ, Option.some.injEq] at ho
        subst ho
        have q1 : a'.tmps[17]?.getD undef = .pointer (some ⟨z, 0, none⟩) := hw 1 (by kernel_rfl)
        go_simp
        exact hK _ _ (Wrote.refl _ _) rfl
      | 3 =>
        simp only [List.getElem?_toArray, List.getElem?_cons_zero, List.getElem?_cons_succ, Option.some.injEq] at ho
        subst ho
        have q1 : a'.tmps[18]?.getD undef = .pointer (some ⟨z, 0, none⟩) := hw 2 (by kernel_rfl)
        go_simp
        exact hK _ _ (Wrote.refl _ _) rfl
      | 4 =>
        simp only [List.getElem?_toArray, List.getElem?_cons_zero, List.getElem?_cons_succ, Option.some.injEq] at ho
        subst ho
        have q1 : a'.tmps[19]?.getD undef = .pointer (some ⟨z, 7, none⟩) := hw 3 (by kernel_rfl)
        have r2 := boxC (box_wrote y0 L (fun o ⟨j, oj, _, hj, hnw, e⟩ => by
          rcases e with ⟨_, e⟩ | ⟨rfl, _⟩
          · exact HL.out.2.2.2 _ (Or.inr e) rfl
          · obtain rfl := Option.some.inj hj
            cases hnw.symm.trans (show waitsB _ 4 = true by kernel_rfl)))
        go_simp
        exact hK _ _ (Wrote.refl _ _) rfl
      | 5 =>
        simp only [List.getElem?_toArray, List.getElem?_cons_zero, List.getElem?_cons_succ, Option.some.injEq] at ho
        subst ho
        go_simp
        exact hK _ _ (Wrote.refl _ _) rfl
      | 6 =>
        simp only [List.getElem?_toArray, List.getElem?_cons_zero, List.getElem?_cons_succ, Option.some.injEq] at ho
        subst ho
        have q1 : a'.tmps[21]?.getD undef = .pointer (some ⟨z, 0, none⟩) := hw 5 (by kernel_rfl)
        go_simp
        exact hK _ _ (Wrote.refl _ _) rfl
      | 7 =>
        simp only [List.getElem?_toArray, List.getElem?_cons_zero, List.getElem?_cons_succ, Option.some.injEq] at ho
        subst ho
        have q1 : a'.tmps[22]?.getD undef = .pointer (some ⟨z, 0, none⟩) := hw 6 (by kernel_rfl)
        have r2 := boxC (box_wrote y0 L (fun o ⟨j, oj, _, hj, hnw, e⟩ => by
          rcases e with ⟨_, e⟩ | ⟨rfl, _⟩
          · exact HL.out.2.2.2 _ (Or.inr e) rfl
          · obtain rfl := Option.some.inj hj
            cases hnw.symm.trans (show waitsB _ 7 = true by kernel_rfl)))
        go_simp
        exact hK _ _ (Wrote.refl _ _) rfl
      | 8 =>
        simp only [List.getElem?_toArray, List.getElem?_cons_zero, List.getElem?_cons_succ, Option.some.injEq] at ho
        subst ho
        go_simp
        exact hK _ _ (Wrote.refl _ _) rfl
      | 9 =>
        simp only [List.getElem?_toArray, List.getElem?_cons_zero, List.getElem?_cons_succ, Option.some.injEq] at ho
        subst ho
        have q1 : a'.tmps[23]?.getD undef = .agg #[.int .i64 t, .int .i64 c, .int .i64 s, .int .i64 ad, .int .i64 pl, .bool bl, .slice pa n px, .slice qa m qx] := hw 7 (by kernel_rfl)
        have q2 : a'.tmps[24]?.getD undef = .int .i64 (t % 64) := hw 8 (by kernel_rfl)
        have V1 := (U1.keep L (fun q e _ _ o ⟨j, oj, _, hj, hnw, e'⟩ => by
          rcases e' with ⟨rfl, e'⟩ | ⟨rfl, e'⟩
          · exact HL.out.2.2.1 q e e'
          · exact HL.out.2.2.2 q (Or.inl e) e')).ints
        have V2 := (U2.keep L (fun q e _ _ o ⟨j, oj, _, hj, hnw, e'⟩ => by
          rcases e' with ⟨rfl, e'⟩ | ⟨rfl, e'⟩
          · obtain rfl := Option.some.inj hj
            cases hnw.symm.trans (show waitsB _ 9 = true by kernel_rfl)
          · exact HL.out.2.2.2 q (Or.inr e) e')).ints
        go_simp
        refine (HDOT.out W V1 V2).mono ?_
        rintro e W' ⟨rfl, LB⟩
        exact hK _ _ (wrote_below LB _) rfl
      | 10 =>
        simp only [List.getElem?_toArray, List.getElem?_cons_zero, List.getElem?_cons_succ, Option.some.injEq] at ho
        subst ho
        have q1 : a'.tmps[25]?.getD undef = .int .i64 dv := hw 9 (by kernel_rfl)
        go_simp
        exact hK _ _ ((Wrote.refl _ W).alloc _) ⟨_, rfl, by omega, boxC (box_new W #[.int .i64 dv] 3) 0⟩
      | 11 =>
        simp only [List.getElem?_toArray, List.getElem?_cons_zero, List.getElem?_cons_succ, Option.some.injEq] at ho
        subst ho
        have q1 : a'.tmps[20]?.getD undef = .slice qa m qx := hw 4 (by kernel_rfl)
        obtain ⟨aa, q2, q3, q4⟩ : ∃ a, a'.tmps[26]?.getD undef = .slice (some ⟨a, 0, none⟩) 1 1 ∧ W0.heap.size ≤ a ∧ W.cell? ⟨a, 0, none⟩ = some (.int .i64 dv) := hw 10 (by kernel_rfl)
        have V2 := U2.keep L (fun q e _ _ o ⟨j, oj, hne, hj, hnw, e'⟩ => by
          rcases e' with ⟨rfl, e'⟩ | ⟨rfl, e'⟩
          · exact hne rfl
          · exact HL.out.2.2.2 q (Or.inr e) e')
        refine wp_pushAt W (.tmp 20) (.tmp 26) rfl lo o2 (.slice qa m qx) m g (by simpa [Act.eval] using q1) V2 (by omega) (by omega) aa dv (by simpa [Act.eval] using q2) q4 ?_
        intro g' c' W' h1 h2 h3
        exact hK _ _ (h2.mono (fun b o _ e => Or.inl ⟨rfl, e⟩)) ⟨g', c', rfl, h1, by rcases h3 with h3 | h3; exact Or.inl h3; exact Or.inr (by omega)⟩
      | 12 =>
        simp only [List.getElem?_toArray, List.getElem?_cons_zero, List.getElem?_cons_succ, Option.some.injEq] at ho
        subst ho
        have q1 : a'.tmps[16]?.getD undef = .pointer (some ⟨z, 0, none⟩) := hw 0 (by kernel_rfl)
        go_simp
        exact hK _ _ (Wrote.refl _ _) rfl
      | 13 =>
        simp only [List.getElem?_toArray, List.getElem?_cons_zero, List.getElem?_cons_succ, Option.some.injEq] at ho
        subst ho
        have q1 : a'.tmps[28]?.getD undef = .pointer (some ⟨z, 0, none⟩) := hw 12 (by kernel_rfl)
        go_simp
        exact hK _ _ (Wrote.refl _ _) rfl
      | 14 =>
        simp only [List.getElem?_toArray, List.getElem?_cons_zero, List.getElem?_cons_succ, Option.some.injEq] at ho
        subst ho
        have q1 : a'.tmps[29]?.getD undef = .pointer (some ⟨z, 7, none⟩) := hw 13 (by kernel_rfl)
        obtain ⟨g', c', q2, q3, q4⟩ : ∃ g' c', a'.tmps[27]?.getD undef = .slice (some ⟨g', 0, none⟩) (m + 1) c' ∧ Row W lo g' (m + 1) c' (snoc g m dv) ∧ (o2 = some g' ∨ W0.heap.size ≤ g') := hw 11 (by kernel_rfl)
        have r2b := box_wrote y0 L (fun o ⟨j, _, hne, _, _, e⟩ => by rcases e with ⟨_, e⟩ | ⟨rfl, _⟩; exact HL.out.2.2.2 _ (Or.inr e) rfl; exact hne rfl)
        have r2 := boxC r2b
        have r2f := boxF r2b
        go_simp
        have WZ : Wrote (fun b _ => b = z) W (W.setCell ⟨z, 7, none⟩ (.slice (some ⟨g', 0, none⟩) (m + 1) c')) := Wrote.setCell (Wrote.refl (fun b _ => b = z) W) (fun _ => rfl) _
        exact hK undef _ (WZ.mono (fun b o _ e => Or.inr ⟨rfl, e⟩)) ⟨g', c', box_set r2b _, q3.keep WZ (fun o e => by subst e; rcases q4 with q4 | q4; exact HL.out.2.2.2 _ (Or.inr q4) rfl; omega), q4⟩
      | _ + 15 => simp at ho
    · intro a' W F L hφ
      obtain ⟨g', c', b8, R8, h8⟩ : ∃ g' c', W.heap[z]? = some (.cells #[.int .i64 t, .int .i64 c, .int .i64 s, .int .i64 ad, .int .i64 pl, .bool bl, .slice pa n px, .slice (some ⟨g', 0, none⟩) (m + 1) c'] 27 (0, 0)) ∧ Row W lo g' (m + 1) c' (snoc g m dv) ∧ (o2 = some g' ∨ W0.heap.size ≤ g') := hφ 14 (by decide)
      have T0 : TB w W lo z o1 o2 (.slice pa n px) (.slice (some ⟨w.heap.size, 0, none⟩) 0 0) t c s ad pl bl n f (m + 1) (snoc g m dv) 0 g := by
        have V1 := U1.keep L (fun q e _ _ o ⟨j, e'⟩ => by
          rcases e' with ⟨_, e'⟩ | ⟨_, e'⟩
          · exact HL.out.2.2.1 q e e'
          · exact HL.out.2.2.2 q (Or.inl e) e')
        have V3 := box_wrote x0 L (fun o ⟨j, e'⟩ => by
          rcases e' with ⟨_, e'⟩ | ⟨_, e'⟩
          · have := HL.out.2.1 _ e'; omega
          · omega)
        refine ⟨some g', _, some w.heap.size, b8, V1, ⟨_, rfl, R8⟩, ⟨_, rfl, Row.empty g V3 hlo⟩, fun q e1 e2 => ?_, fun q e1 e2 => ?_, fun q e1 e2 => ?_, fun q e => ?_, WB.trans (L.mono (fun b o _ ⟨j, e⟩ => by rcases e with ⟨_, e⟩ | ⟨_, e⟩; exact Or.inr e; exact Or.inl e))⟩
        · obtain rfl := Option.some.inj e2
          rcases h8 with h8 | h8
          · exact HL.out.2.2.1 _ e1 h8
          · have := HL.out.1 _ e1; omega
        · obtain rfl := Option.some.inj e2
          have := HL.out.1 _ e1
          omega
        · obtain rfl := Option.some.inj e1
          have e3 := Option.some.inj e2
          rcases h8 with h8 | h8
          · have := HL.out.2.1 _ h8; omega
          · omega
        · rcases e with e | e | e
          · exact HL.out.2.2.2 q (Or.inl e)
          · obtain rfl := Option.some.inj e
            rcases h8 with h8 | h8
            · exact HL.out.2.2.2 _ (Or.inr h8)
            · omega
          · obtain rfl := Option.some.inj e
            omega
      clear hφ L
      rw [F.same, show slotsOf [some 16, some 17, some 18, some 19, some 20, some 21, some 22, some 23, some 24, some 25, some 26, some 27, some 28, some 29, none] = [16, 17, 18, 19, 20, 21, 22, 23, 24, 25, 26, 27, 28, 29] from rfl]
      simp only [List.foldl_cons, List.foldl_nil]
      generalize a'.tmps[16]?.getD undef = s16
      generalize a'.tmps[17]?.getD undef = s17
      generalize a'.tmps[18]?.getD undef = s18
      generalize a'.tmps[19]?.getD undef = s19
      generalize a'.tmps[20]?.getD undef = s20
      generalize a'.tmps[21]?.getD undef = s21
      generalize a'.tmps[22]?.getD undef = s22
      generalize a'.tmps[23]?.getD undef = s23
      generalize a'.tmps[24]?.getD undef = s24
      generalize a'.tmps[25]?.getD undef = s25
      generalize a'.tmps[26]?.getD undef = s26
      generalize a'.tmps[27]?.getD undef = s27
      generalize a'.tmps[28]?.getD undef = s28
      generalize a'.tmps[29]?.getD undef = s29
      have c2 := boxC b8
      have f2 := boxF b8
      have HTB := hide T0
      clear T0 R8 F y0 x0 U1 U2 d0 g0 c0 b8
      rename_i KK hKK
      refine hKK _ _ ?_
      go_simp
      go_wp2
      obtain ⟨i1, i2, i3, i4, i5, i6⟩ := HE.out
      refine bodyPost_ret (v := .tuple #[.slice (some ⟨w.heap.size, 0, none⟩) 0 0, .bool false]) (by simp [results, Try.results42, go_sem]) rfl ?_
      rw [i1, i2, i3, i4, i5, i6]
      exact ⟨_, rfl, HTB.out.up (t + 1)⟩
  by_cases hB : t % 64 = 48
  · have HE : Hid (tkT t = t + 1 ∧ tkB t bl = true ∧ tkM t m = 0 ∧ tkG t f s pl m g = g ∧ tlM t m = m ∧ tlN t c = decide (127 < c)) := ⟨if_neg HT.out, (if_neg HT.out).trans (if_pos hB), (if_neg HT.out).trans ((if_neg hA).trans (if_pos hB)), (if_neg HT.out).trans (if_neg hA), (if_neg HT.out).trans (if_pos hB), (if_neg HT.out).trans (if_pos hB)⟩
    have y1 := boxA y0 (.cells #[] 3)
    have d1 := boxC y1
    have g1 := boxF y1
    have LA : Below W0.heap.size W0 (W0.alloc (.cells #[] 3)) := (Below.refl _ _).alloc (Nat.le_refl _) _
    have x1 := box_new W0 #[] 3
    have WS : Wrote (fun b _ => b = z) (W0.alloc (.cells #[] 3)) (((W0.alloc (.cells #[] 3)).setCell ⟨z, 7, none⟩ (.slice (some ⟨W0.heap.size, 0, none⟩) 0 0)).setCell ⟨z, 5, none⟩ (.bool true)) := Wrote.setCell (R := fun b _ => b = z) (Wrote.setCell (R := fun b _ => b = z) (Wrote.refl _ _) (fun _ => rfl) _) (fun _ => rfl) _
    have T0 : TB w (((W0.alloc (.cells #[] 3)).setCell ⟨z, 7, none⟩ (.slice (some ⟨W0.heap.size, 0, none⟩) 0 0)).setCell ⟨z, 5, none⟩ (.bool true)) lo z o1 o2 (.slice pa n px) (.slice qa m qx) t c s ad pl true n f 0 g m g := by
      refine ⟨some W0.heap.size, _, o2, box_set (box_set y1 _) _, (U1.below LA).keep WS (fun q e _ _ _ e' => HL.out.2.2.2 q (Or.inl e) e'), ⟨0, rfl, Row.empty g (box_wrote x1 WS (fun o e => by omega)) (by omega)⟩, (U2.below LA).keep WS (fun q e _ _ _ e' => HL.out.2.2.2 q (Or.inr e) e'), fun q e1 e2 => ?_, HL.out.2.2.1, fun q e1 e2 => ?_, fun q e => ?_, (WB.alloc _).trans (WS.mono (fun b o _ e => Or.inl e))⟩
      · obtain rfl := Option.some.inj e2
        have := HL.out.1 _ e1
        omega
      · obtain rfl := Option.some.inj e1
        have := HL.out.2.1 _ e2
        omega
      · rcases e with e | e | e
        · exact HL.out.2.2.2 q (Or.inl e)
        · obtain rfl := Option.some.inj e
          omega
        · exact HL.out.2.2.2 q (Or.inr e)
    have HTB := hide T0
    rw [hB] at m64
    clear T0 hA hB U1 U2 WS x0 x1 y0 y1 LA WB L0 sz
    go_enter Try.func42, Try.ntmps42
    go_upto_region 2 with (fail)
    rw [← hW0]
    clear hW0 c0
    go_wp2
    obtain ⟨i1, i2, i3, i4, i5, i6⟩ := HE.out
    refine bodyPost_ret (v := .tuple #[.slice qa m qx, .bool (decide (127 < c))]) (by simp [results, Try.results42, go_sem]) rfl ?_
    rw [i1, i2, i3, i4, i5, i6]
    exact ⟨_, rfl, HTB.out.up (t + 1)⟩
  have T1 : ∀ W, Wrote (fun b _ => b = z) W0 W → ∀ b', W.heap[z]? = some (.cells #[.int .i64 t, .int .i64 c, .int .i64 s, .int .i64 ad, .int .i64 pl, .bool b', .slice pa n px, .slice qa m qx] 27 (0, 0)) → TB w W lo z o1 o2 (.slice pa n px) (.slice (some ⟨w.heap.size, 0, none⟩) 0 0) t c s ad pl b' n f m g 0 g := fun W WS b' hb' => by
    refine ⟨o2, _, some w.heap.size, hb', U1.keep WS (fun q e _ _ _ e' => HL.out.2.2.2 q (Or.inl e) e'), U2.keep WS (fun q e _ _ _ e' => HL.out.2.2.2 q (Or.inr e) e'), ⟨0, rfl, Row.empty g (box_wrote x0 WS (fun o e => by omega)) hlo⟩, HL.out.2.2.1, fun q e1 e2 => ?_, fun q e1 e2 => ?_, fun q e => ?_, WB.trans (WS.mono (fun b o _ e => Or.inl e))⟩
    · obtain rfl := Option.some.inj e2
      have := HL.out.1 _ e1
      omega
    · obtain rfl := Option.some.inj e2
      have := HL.out.2.1 _ e1
      omega
    · rcases e with e | e | e
      · exact HL.out.2.2.2 q (Or.inl e)
      · exact HL.out.2.2.2 q (Or.inr e)
      · obtain rfl := Option.some.inj e
        omega
  have HY := hide y0
  have HT1 := hide T1
  clear T1 U1 U2 x0 WB L0 sz y0
  by_cases hC : t % 64 = 63
  · have HE : Hid (tkT t = t + 1 ∧ tkB t bl = false ∧ tkM t m = m ∧ tkG t f s pl m g = g ∧ tlM t m = 0 ∧ tlN t c = false) := ⟨if_neg HT.out, (if_neg HT.out).trans ((if_neg hB).trans (if_pos hC)), (if_neg HT.out).trans ((if_neg hA).trans (if_neg hB)), (if_neg HT.out).trans (if_neg hA), (if_neg HT.out).trans (if_neg hB), (if_neg HT.out).trans (if_neg hB)⟩
    rw [hC] at m64
    clear hA hB hC
    go_enter Try.func42, Try.ntmps42
    go_upto_region 2 with (fail)
    rw [← hW0]
    clear hW0 c0
    go_wp2
    obtain ⟨i1, i2, i3, i4, i5, i6⟩ := HE.out
    refine bodyPost_ret (v := .tuple #[.slice (some ⟨w.heap.size, 0, none⟩) 0 0, .bool false]) (by simp [results, Try.results42, go_sem]) rfl ?_
    rw [i1, i2, i3, i4, i5, i6]
    exact ⟨_, rfl, (HT1.out _ (Wrote.setCell (R := fun b _ => b = z) (Wrote.refl _ _) (fun _ => rfl) _) false (box_set HY.out _)).up (t + 1)⟩
  · have HE : Hid (tkT t = t + 1 ∧ tkB t bl = bl ∧ tkM t m = m ∧ tkG t f s pl m g = g ∧ tlM t m = 0 ∧ tlN t c = false) := ⟨if_neg HT.out, (if_neg HT.out).trans ((if_neg hB).trans (if_neg hC)), (if_neg HT.out).trans ((if_neg hA).trans (if_neg hB)), (if_neg HT.out).trans (if_neg hA), (if_neg HT.out).trans (if_neg hB), (if_neg HT.out).trans (if_neg hB)⟩
    have b1 : decide (t % 64 < 48) = false := by simpa using hA
    have b2 : (t % 64 == 48) = false := by simpa using hB
    have b3 : (t % 64 == 63) = false := by simpa using hC
    clear hB hC
    go_enter Try.func42, Try.ntmps42
    go_upto_region 2 with (fail)
    rw [← hW0]
    clear hW0 c0
    go_wp2
    obtain ⟨i1, i2, i3, i4, i5, i6⟩ := HE.out
    refine bodyPost_ret (v := .tuple #[.slice (some ⟨w.heap.size, 0, none⟩) 0 0, .bool false]) (by simp [results, Try.results42, go_sem]) rfl ?_
    rw [i1, i2, i3, i4, i5, i6]
    exact ⟨_, rfl, (HT1.out _ (Wrote.refl _ _) bl HY.out).up (t + 1)⟩
end Go.Proofs.Ytpaedkefmebjjao
