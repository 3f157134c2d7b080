/-
  Chapter 13's draws: a ring of some records; they turn nothing that was there but the cursor.
-/
import Derived.Test.YtpaedkefmebjjacRS
import Derived.Test.YtpaedkefmebjjacD1
import Derived.Test.YtpaedkefmebjjacDW
import Derived.Test.YtpaedkefmebjjacGJ
import Derived.Test.YtpaedkefmebjjacGK

import Derived.Deep.DeepCutAuto
namespace Go.Proofs.Ytpaedkefmebjjac
set_option linter.unusedVariables false
set_option linter.unusedSimpArgs false
open Go.ChangeShapes Go.WideShapes Go.ChangeAt Go.RowKit
theorem RcRow.same {W W' : World} {lo g n c : Nat} {f : Nat → Int} (h : RcRow W lo g n c f) (hb : W'.heap[g]? = W.heap[g]?) : RcRow W' lo g n c f := by
  refine ⟨⟨h.own.1, ?_⟩, h.small⟩
  rcases h.own.2 with ⟨e, _⟩ | ⟨g', cap, cur, hv, h1, hg, r⟩
  · cases e
  · have hv' := hv
    simp only [Value.slice.injEq, Option.some.injEq, Addr.mk.injEq, and_true, true_and] at hv'
    obtain ⟨rfl, rfl⟩ := hv'
    exact Or.inr ⟨g, c, cur, rfl, h1, hb.trans hg, r⟩
theorem RcAt.same {W W' : World} {lo : Nat} {o7 : Option Nat} {u : Value} {n : Nat} {f : Nat → Int} (h : RcAt W lo o7 u n f) (hb : ∀ g, lo ≤ g → g < W.heap.size → W'.heap[g]? = W.heap[g]?) : RcAt W' lo o7 u n f := by
  cases o7 with
  | none => exact h
  | some g => obtain ⟨c, rfl, r⟩ := h; exact ⟨c, rfl, r.same (hb g r.parts.1 r.parts.2.1)⟩
theorem RcAt.monoL {W : World} {lo lo' : Nat} {o7 : Option Nat} {u : Value} {n : Nat} {f : Nat → Int} (h : RcAt W lo o7 u n f) (hl : lo' ≤ lo) : RcAt W lo' o7 u n f := by
  cases o7 with
  | none => exact h
  | some g => obtain ⟨c, rfl, r⟩ := h; exact ⟨c, rfl, r.mono hl⟩
/-- Where the drawing of a ring stands: its list its own, its box, the answer's box, the cursor. -/
structure LR (w W : World) (B c : Nat) (a : Option Addr) (len cap : Nat) (cR : Int) (n : Nat) (f : Nat → Int) (o7 : Option Nat) (u : Value) : Prop where
  lst : RcAt W (w.heap.size + 2) o7 u n f
  box : W.heap[w.heap.size + 1]? = some (.cells #[.int .i64 cR, u] 26 (0, 0))
  res : W.heap[w.heap.size]? = some (.cells #[.int .i64 0, .slice none 0 0] 26 (0, 0))
  cur : Cur W B c a len cap
  step : Step c w W
section
variable {w W W' : World} {B c : Nat} {a : Option Addr} {len cap n : Nat} {cR : Int} {f : Nat → Int} {o7 : Option Nat} {u : Value}
theorem LR.lt (h : LR w W B c a len cap cR n f o7 u) (hc : c < w.heap.size) : c < W.heap.size := Nat.lt_of_lt_of_le hc h.step.size
theorem LR.moved (h : LR w W B c a len cap cR n f o7 u) (hc : c < w.heap.size) (M : Step c W W') (H : Cur W' B c a len cap) : LR w W' B c a len cap cR n f o7 u :=
  ⟨h.lst.same (fun g h1 h2 => M.block g h2 (by omega)), (M.block _ (boxLt h.box) (by omega)).trans h.box, (M.block _ (boxLt h.res) (by omega)).trans h.res, H, h.step.trans M⟩
theorem LR.below (h : LR w W B c a len cap cR n f o7 u) (hc : c < w.heap.size) (M : Below W.heap.size W W') : LR w W' B c a len cap cR n f o7 u :=
  h.moved hc (below_step M (Nat.le_refl _)) (h.cur.below M (h.lt hc))
/-- Another ring is put into its box. -/
theorem LR.put (h : LR w W B c a len cap cR n f o7 u) (hc : c < w.heap.size) {cR' : Int} {n' : Nat} {f' : Nat → Int} {o7' : Option Nat} {u' : Value} (R : RcAt W' (w.heap.size + 2) o7' u' n' f') (T : Wrote (fun b _ => b = w.heap.size + 1 ∨ w.heap.size + 2 ≤ b) W W') (hb : W'.heap[w.heap.size + 1]? = some (.cells #[.int .i64 cR', u'] 26 (0, 0))) : LR w W' B c a len cap cR' n' f' o7' u' :=
  ⟨R, hb, (T.block _ (boxLt h.res) (fun o e => by omega)).trans h.res, h.cur.below (T.below (B := w.heap.size) h.step.size (fun b o hb e => by omega)) hc, ⟨T.os.trans h.step.os, T.tape.trans h.step.tape, T.output.trans h.step.output, Nat.le_trans h.step.size T.size, fun k hk hkc => (T.block k (Nat.lt_of_lt_of_le hk h.step.size) (fun o e => by omega)).trans (h.step.block k hk hkc)⟩⟩
end
theorem RcAt.ltH {W : World} {lo g : Nat} {o7 : Option Nat} {u : Value} {n : Nat} {f : Nat → Int} (h : RcAt W lo o7 u n f) (e : o7 = some g) : g < W.heap.size := by
  subst e
  obtain ⟨c, rfl, r⟩ := h
  exact r.parts.2.1
theorem putN_le (ok ok2 : Bool) (n : Nat) : putN ok ok2 n ≤ n + 1 := by cases ok <;> cases ok2 <;> simp [putN]
theorem Cur.lt {w : World} {B c : Nat} {a : Option Addr} {len cap : Nat} (H : Cur w B c a len cap) : c < w.heap.size := block_lt_of_cell H.sl
/-- What a put answers: a ring whose list is its own. -/
structure PutV (W : World) (lo hi n : Nat) (v : Value) : Prop where
  ex : ∃ (cP : Int) (nP : Nat) (fP : Nat → Int) (wa : Option Addr) (wc : Nat) (ok : Bool) (o7 : Option Nat), v = .tuple #[.agg #[.int .i64 cP, .slice wa nP wc], .bool ok] ∧ nP ≤ n + 1 ∧ RcAt W lo o7 (.slice wa nP wc) nP fP ∧ ∀ g, o7 = some g → g < hi
theorem PutV.keep {W W' : World} {lo hi n : Nat} {v : Value} (h : PutV W lo hi n v) {R : Nat → Nat → Prop} (hw : Wrote R W W') (hd : ∀ b o, lo ≤ b → b < hi → ¬ R b o) : PutV W' lo hi n v := by
  obtain ⟨cP, nP, fP, wa, wc, ok, o7, e, h1, h2, h3⟩ := h
  exact ⟨cP, nP, fP, wa, wc, ok, o7, e, h1, h2.keep hw (fun g o e => hd g o (h2.lo e) (h3 g e)), h3⟩
theorem wrote_step {c : Nat} {W W' : World} (h : Wrote (fun b _ => b = c) W W') : Step c W W' := ⟨h.os, h.tape, h.output, h.size, fun k hk hkc => h.block k hk (fun _ e => hkc e)⟩
theorem wp_pushN (W : World) {o : Oper} {a : Act} {K : Act → World → Prop} {Q : Exit → Act → World → Prop} (s x : Operand) (hop : o.op = Op.call { callee := Callee.builtin Builtin.append, args := #[s, x], argTypes := #[24, 24] })
    (lo : Nat) (o7 : Option Nat) (u : Value) (n : Nat) (f : Nat → Int) (hs : a.eval s = u) (R : RcAt W lo o7 u n f) (hn : n < 1048576) (hlo : lo ≤ W.heap.size) (q : Nat) (t r v : Int) (hx : a.eval x = .slice (some ⟨q, 0, none⟩) 1 1) (hq : W.heap[q]? = some (.cells #[.int .i64 t, .int .i64 r, .int .i64 v] 28 (0, 0)))
    (h : ∀ g' u' W', RcAt W' lo (some g') u' (n + 1) (put3 f n t r v) → Wrote (fun b _ => o7 = some b) W W' → K (a.put o.dst u') W') : o.wp Try.prog a W K Q := by
  cases o7 with
  | some g =>
    obtain ⟨c, rfl, r7⟩ := R
    exact wp_pushRc W s x hop lo g n c f hs r7 hn hlo q t r v hx hq (fun g' c' W' r1 r2 r3 => h g' _ W' ⟨c', rfl, r1⟩ (r2.mono (fun b o _ e => by rw [e])))
  | none =>
    obtain ⟨rfl, rfl⟩ := R
    obtain ⟨i0, hi, hzz⟩ := Option.map_eq_some_iff.1 infoRec
    simp only [Prod.mk.injEq] at hzz
    obtain ⟨hz0, hz1, hz2⟩ := hzz
    have hnews : ∀ j u, [Value.int .i64 t, .int .i64 r, .int .i64 v][j]? = some u → W.cell? ((⟨q, 0, none⟩ : Addr).add j) = some u := fun j u hu => by
      have hc := boxC hq j
      match j, hu with
      | 0, hu => simp at hu; subst hu; exact hc
      | 1, hu => simp at hu; subst hu; exact hc
      | 2, hu => simp at hu; subst hu; exact hc
      | j + 3, hu => simp at hu
    have h1 : ∀ u ∈ [Value.int .i64 t, .int .i64 r, .int .i64 v], u.oneCell' = true := fun u hu => by simp at hu; rcases hu with rfl | rfl | rfl <;> rfl
    have own : W.ownsRow lo 28 3 (.slice none 0 0) 0 [] := ⟨rfl, Or.inl ⟨rfl, rfl⟩⟩
    obtain ⟨g', c', W', hrun, r1, r2, r3, r4⟩ := run_append_lies (P := Try.prog) (w := W) 24 o.type lo 28 i0 (.agg #[.int .i64 0, .int .i64 0, .int .i64 0]) 3 24 Try.underlying24 hi hz0 hz1 hz2 rfl (by decide) (.slice none 0 0) 0 [] own ⟨q, 0, none⟩ 1 1 [.int .i64 t, .int .i64 r, .int .i64 v] rfl hnews h1 (by omega) (by unfold maxLen; omega) (by omega) hlo W.heap.size rfl
    have L : Below W.heap.size W W' := (Below.refl _ _).grown r2 (Nat.le_refl _) (fun _ e => by cases e)
    unfold Oper.wp
    simp [execOp, hop, resolve, invoke, builtin, hs, hx, hrun, Result.andThen]
    exact h g' _ W' ⟨c', rfl, ⟨by rw [recVals_put0]; simpa using r1, by omega⟩⟩ (wrote_below L _)
def pickC (j : Nat) : Int := [0, 16, 17].getD j 0
def pickV (j : Nat) : Int := [0, 256].getD j 0
set_option maxRecDepth 20000 in
set_option maxHeartbeats 4000000 in
theorem l13Draw (w : World) (B c : Nat) (a : Option Addr) (len cap : Nat) (H : Cur w B c a len cap) (hc : c < w.heap.size) :
    Calls Try.prog 18 #[.pointer (some ⟨c, 0, none⟩)] w fun e w' => ∃ (cR : Int) (n : Nat) (f : Nat → Int) (v : Value), e = .returned v ∧ RgOn w' (fun b => w.heap.size ≤ b) v cR n f ∧ Cur w' B c a len cap ∧ Step c w w' := by
  have H0 := H.alloc (.cells #[.int .i64 0, .slice none 0 0] 26) hc
  have S0 : Step c w (w.alloc (.cells #[.int .i64 0, .slice none 0 0] 26)) := (Step.refl c w).alloc _
  have k0 := box_new w #[.int .i64 0, .slice none 0 0] 26
  go_enter Try.func18, Try.ntmps18
  go_wp2_with fail
  obtain ⟨W0, hW0⟩ : ∃ W, W = w.alloc (.cells #[.int .i64 0, .slice none 0 0] 26) := ⟨_, rfl⟩
  have z0 : W0.heap.size = w.heap.size + 1 := by rw [hW0]; simp
  rw [← hW0] at H0 S0 k0 ⊢
  clear hW0
  refine (l1Below _ B c a len cap H0 5).mono ?_
  rintro e W1 ⟨x, rfl, x0, x1, H1, O1⟩
  have z1 : W1.heap.size = w.heap.size + 1 := by rw [O1.size]; exact z0
  have S1 := S0.trans O1.step
  have k1 := (O1.block _ (by omega)).trans k0
  clear H0 S0 O1 k0 z0
  have x2 : x < 5 := by omega
  clear x1
  have LA : Below W1.heap.size W1 (W1.alloc (.cells #[.int .i64 (1 + x), .slice none 0 0] 26)) := (Below.refl _ _).alloc (Nat.le_refl _) _
  have kr := box_new W1 #[.int .i64 (1 + x), .slice none 0 0] 26
  rw [z1] at kr
  have M : LR w (W1.alloc (.cells #[.int .i64 (1 + x), .slice none 0 0] 26)) B c a len cap (1 + x) 0 (fun _ => 0) none (.slice none 0 0) := ⟨⟨rfl, rfl⟩, kr, box_keep k1 LA (boxLt k1), H1.below LA (by omega), S1.alloc _⟩
  clear LA kr k1 S1
  go_upto_region 2 with (fail)
  generalize W1.alloc (.cells #[.int .i64 (1 + x), .slice none 0 0] 26) = W2 at *
  clear H1 z1
  generalize 1 + x = cR at *
  clear x0 x2
  go_wp2_with fail
  refine (l1Below _ B c a len cap M.cur 9).mono ?_
  rintro e W3 ⟨t, rfl, t0, t1, H3, O3⟩
  replace M := M.moved hc O3.step H3
  clear H3 O3 t0 t1
  go_wp2
  go_loopw [4, 5] (fun tv i wr => ∃ (t : Int) (j n : Nat) (cR : Int) (f : Nat → Int) (o7 : Option Nat) (u : Value), n ≤ j ∧ j ≤ 6 ∧ tv = .int .i64 t ∧ i = .int .i64 j ∧ LR w wr B c a len cap cR n f o7 u) (fun _ i _ => 7 - (intOf i).toNat)
  case atStart => exact ⟨t, 0, 0, cR, _, _, _, by omega, by omega, rfl, rfl, M⟩
  case round =>
    clear M
    obtain ⟨t, j, n, cR, f, o7, u, hnj, hj6, rfl, rfl, M⟩ := hrel
    obtain ⟨ua, uc, rfl⟩ := M.lst.two
    go_wp2_with fail
    refine (l1Below _ B c a len cap M.cur 6).mono ?_
    rintro e Wn ⟨y, rfl, y0, y1, H4, O4⟩
    replace M := M.moved hc O4.step H4
    clear H4 O4
    by_cases hlt : (j : Int) < y
    · have hj5 : j < 6 := by omega
      clear y1
      go_upto_region 6 with (fail)
      have hcn : c < Wn.heap.size := M.lt hc
      refine wp_region_effJ [some 21, some 22, some 23, some 24, some 25, some 26, some 27, some 28, some 20, some 29, some 30, some 6, none, some 7] (by kernel_rfl) (by kernel_rfl) (by kernel_rfl) (by kernel_rfl) (by simp [slotsOf])
        (fun j b _ => (j = 3 ∨ j = 5) ∧ b = c)
        (fun j V b => j = 12 ∧ V 11 = .pointer (some ⟨b, 0, none⟩))
        (fun j V W W' => Below W.heap.size W W' ∨ ((j = 3 ∨ j = 5) ∧ OnlyW c W W' ∧ Cur W' B c a len cap) ∨ (j = 12 ∧ ∃ b u0 u1, V 11 = .pointer (some ⟨b, 0, none⟩) ∧ Wn.heap.size ≤ b ∧ W' = (W.setCell ⟨b, 0, none⟩ u0).setCell ⟨b, 1, none⟩ u1))
        (fun i V lo hi W => match i with
          | 0 => V 0 = .agg #[.int .i64 cR, .slice ua n uc]
          | 1 => V 1 = .int .i64 t
          | 2 => V 2 = .pointer (some ⟨c, 0, none⟩)
          | 3 => (∃ x : Int, V 3 = .int .i64 x) ∧ Cur W B c a len cap
          | 4 => V 4 = .pointer (some ⟨c, 0, none⟩)
          | 5 => (∃ x : Int, V 5 = .int .i64 x) ∧ Cur W B c a len cap
          | 6 => ∃ y z : Int, V 6 = .agg #[.int .i64 t, .int .i64 y, .int .i64 z]
          | 7 => PutV W lo hi n (V 7)
          | 8 => ∃ (cP : Int) (nP : Nat) (wa : Option Addr) (wc : Nat) (ok : Bool), V 7 = .tuple #[.agg #[.int .i64 cP, .slice wa nP wc], .bool ok] ∧ V 8 = .tuple #[.agg #[.int .i64 cP, .slice wa nP wc], .bool ok]
          | 9 => ∃ (cP : Int) (nP : Nat) (wa : Option Addr) (wc : Nat) (ok : Bool), V 8 = .tuple #[.agg #[.int .i64 cP, .slice wa nP wc], .bool ok] ∧ V 9 = .agg #[.int .i64 cP, .slice wa nP wc]
          | 10 => ∃ (cP : Int) (nP : Nat) (wa : Option Addr) (wc : Nat) (ok : Bool), V 8 = .tuple #[.agg #[.int .i64 cP, .slice wa nP wc], .bool ok] ∧ V 10 = .bool ok
          | 11 => ∃ b u0 u1, V 11 = .pointer (some ⟨b, 0, none⟩) ∧ lo ≤ b ∧ b < hi ∧ W.heap[b]? = some (.cells #[u0, u1] 26 (0, 0))
          | 12 => ∃ (b : Nat) (cP : Int) (nP : Nat) (wa : Option Addr) (wc : Nat), V 11 = .pointer (some ⟨b, 0, none⟩) ∧ Wn.heap.size ≤ b ∧ V 9 = .agg #[.int .i64 cP, .slice wa nP wc] ∧ W.heap[b]? = some (.cells #[.int .i64 cP, .slice wa nP wc] 26 (0, 0))
          | _ => ∃ ok : Bool, V 10 = .bool ok ∧ V 13 = .bool ok) ?_ ?_ ?_ ?_
      · intro j V W W' h
        rcases h with h | ⟨h1, h2, -⟩ | ⟨rfl, b, u0, u1, h1, h2, rfl⟩
        · exact wrote_below h _
        · exact h2.wrote.mono (fun b o _ e => Or.inl ⟨h1, e⟩)
        · exact Wrote.setCell (Wrote.setCell (Wrote.refl _ W) (fun _ => Or.inr ⟨h2, rfl, h1⟩) _) (fun _ => Or.inr ⟨h2, rfl, h1⟩) _
      · intro i j o oj V x' lo hi W W' hij ho hoj hnw hlo hhi hk hE h
        have nw : ∀ k, waitsB o k = true → k ≠ j := fun k hk e => by rw [e, hnw] at hk; cases hk
        have keepC : Cur W B c a len cap → Cur W' B c a len cap := by
          intro H
          rcases hE with hB | ⟨-, -, H'⟩ | ⟨rfl, b, u0, u1, -, hb, rfl⟩
          · exact H.below hB H.lt
          · exact H'
          · exact H.below (B' := c + 1) ((Wrote.setCell (Wrote.setCell (Wrote.refl (fun q _ => q = b) W) (fun _ => rfl) _) (fun _ => rfl) _).below H.lt (fun q o hq (e : q = b) => by omega)) (by omega)
        have keepP : i ≠ 11 → ∀ v, PutV W (lo i) (hi i) n v → PutV W' (lo i) (hi i) n v := by
          intro hiA v H
          rcases hE with hB | ⟨-, h2, -⟩ | ⟨rfl, b, u0, u1, hb, -, rfl⟩
          · exact H.keep (wrote_below hB (fun _ _ => False)) (fun _ _ _ _ x => x)
          · exact H.keep h2.wrote (fun b o h1 h2 e => by omega)
          · simp only [List.getElem?_toArray, List.getElem?_cons_zero, List.getElem?_cons_succ, Option.some.injEq] at hoj
            subst hoj
            obtain ⟨⟨b', _, _, e, l1, l2, _⟩, hap⟩ := hk 11 (by kernel_rfl)
            have hap := hap (Ne.symm hiA)
            rw [hb] at e
            simp only [Value.pointer.injEq, Option.some.injEq, Addr.mk.injEq, and_true] at e
            subst e
            exact H.keep (Wrote.setCell (Wrote.setCell (Wrote.refl (fun q _ => q = b) W) (fun _ => rfl) _) (fun _ => rfl) _) (fun q o h1 h2 (e : q = b) => by omega)
        match i, ho, hij, nw, keepP, hk, h with
        | 0, _, hij, _, _, _, h => exact (updV_ne V x' hij).trans h
        | 1, _, hij, _, _, _, h => exact (updV_ne V x' hij).trans h
        | 2, _, hij, _, _, _, h => exact (updV_ne V x' hij).trans h
        | 4, _, hij, _, _, _, h => exact (updV_ne V x' hij).trans h
        | 3, _, hij, _, _, _, ⟨⟨x, h1⟩, h2⟩ => exact ⟨⟨x, (updV_ne V x' hij).trans h1⟩, keepC h2⟩
        | 5, _, hij, _, _, _, ⟨⟨x, h1⟩, h2⟩ => exact ⟨⟨x, (updV_ne V x' hij).trans h1⟩, keepC h2⟩
        | 6, _, hij, _, _, _, ⟨y, z, h⟩ => exact ⟨y, z, (updV_ne V x' hij).trans h⟩
        | 7, _, hij, _, keepP, _, h =>
          show PutV W' _ _ n (updV V j x' 7)
          rw [updV_ne V x' hij]
          exact keepP (by decide) _ h
        | 8, ho, hij, nw, _, _, ⟨cP, nP, wa, wc, ok, h1, h2⟩ =>
          simp only [List.getElem?_toArray, List.getElem?_cons_zero, List.getElem?_cons_succ, Option.some.injEq] at ho
          subst ho
          exact ⟨cP, nP, wa, wc, ok, (updV_ne V x' (nw 7 (by kernel_rfl))).trans h1, (updV_ne V x' hij).trans h2⟩
        | 9, ho, hij, nw, _, _, ⟨cP, nP, wa, wc, ok, h1, h2⟩ =>
          simp only [List.getElem?_toArray, List.getElem?_cons_zero, List.getElem?_cons_succ, Option.some.injEq] at ho
          subst ho
          exact ⟨cP, nP, wa, wc, ok, (updV_ne V x' (nw 8 (by kernel_rfl))).trans h1, (updV_ne V x' hij).trans h2⟩
        | 10, ho, hij, nw, _, _, ⟨cP, nP, wa, wc, ok, h1, h2⟩ =>
          simp only [List.getElem?_toArray, List.getElem?_cons_zero, List.getElem?_cons_succ, Option.some.injEq] at ho
          subst ho
          exact ⟨cP, nP, wa, wc, ok, (updV_ne V x' (nw 8 (by kernel_rfl))).trans h1, (updV_ne V x' hij).trans h2⟩
        | 11, ho, hij, nw, _, hk, ⟨b, u0, u1, h1, h2, h3, h4⟩ =>
          rcases hE with hB | ⟨-, hO, -⟩ | ⟨rfl, b2, y0, y1, hb, -, rfl⟩
          · exact ⟨b, u0, u1, (updV_ne V x' hij).trans h1, h2, h3, box_keep h4 hB (boxLt h4)⟩
          · exact ⟨b, u0, u1, (updV_ne V x' hij).trans h1, h2, h3, boxWroteR h4 hO.wrote (fun o (e : b = c) => by omega)⟩
          · rw [h1] at hb
            simp only [Value.pointer.injEq, Option.some.injEq, Addr.mk.injEq, and_true] at hb
            subst hb
            have HB := boxSetR (o := 1) (boxSetR (o := 0) h4 y0) y1
            simp only [List.setIfInBounds_toArray, List.set_cons_succ, List.set_cons_zero] at HB
            exact ⟨b, y0, y1, (updV_ne V x' hij).trans h1, h2, h3, HB⟩
        | 12, ho, hij, nw, _, _, ⟨b, cP, nP, wa, wc, h1, h0, h2, h3⟩ =>
          simp only [List.getElem?_toArray, List.getElem?_cons_zero, List.getElem?_cons_succ, Option.some.injEq] at ho
          subst ho
          rcases hE with hB | ⟨-, hO, -⟩ | ⟨e, _⟩
          · exact ⟨b, cP, nP, wa, wc, (updV_ne V x' (nw 11 (by kernel_rfl))).trans h1, h0, (updV_ne V x' (nw 9 (by kernel_rfl))).trans h2, box_keep h3 hB (boxLt h3)⟩
          · exact ⟨b, cP, nP, wa, wc, (updV_ne V x' (nw 11 (by kernel_rfl))).trans h1, h0, (updV_ne V x' (nw 9 (by kernel_rfl))).trans h2, boxWroteR h3 hO.wrote (fun o (e : b = c) => by omega)⟩
          · exact absurd e.symm hij
        | 13, ho, hij, nw, _, _, ⟨ok, h1, h2⟩ =>
          simp only [List.getElem?_toArray, List.getElem?_cons_zero, List.getElem?_cons_succ, Option.some.injEq] at ho
          subst ho
          exact ⟨ok, (updV_ne V x' (nw 10 (by kernel_rfl))).trans h1, (updV_ne V x' hij).trans h2⟩
        | n' + 14, ho, _, _, _, _, _ => simp at ho
      · intro i o a' W K ho F L hw hK
        have LW : Wrote (fun b _ => b = c) Wn W := L.mono (fun b o _ ⟨j, _, _, _, _, h⟩ => h.2)
        have rR := boxWroteR M.box LW (fun o (e : _ = c) => by omega)
        have t0 := F.get (t := 0) (v := .pointer (some ⟨c, 0, none⟩)) (by decide) rfl
        have t3 := F.get (t := 3) (v := .pointer (some ⟨w.heap.size + 1, 0, none⟩)) (by decide) rfl
        have t4 := F.get (t := 4) (v := .int .i64 t) (by decide) rfl
        match i with
        | 0 =>
          simp only [List.getElem?_toArray, List.getElem?_cons_zero, List.getElem?_cons_succ, Option.some.injEq] at ho
          subst ho
          have rb' := boxC rR
          clear hw
          go_simp
          exact hK _ _ (Or.inl (Below.refl _ _)) (updV_same _ _ _)
        | 1 =>
          simp only [List.getElem?_toArray, List.getElem?_cons_zero, List.getElem?_cons_succ, Option.some.injEq] at ho
          subst ho
          clear hw
          go_simp
          exact hK _ _ (Or.inl (Below.refl _ _)) (updV_same _ _ _)
        | 2 =>
          simp only [List.getElem?_toArray, List.getElem?_cons_zero, List.getElem?_cons_succ, Option.some.injEq] at ho
          subst ho
          clear hw
          go_simp
          exact hK _ _ (Or.inl (Below.refl _ _)) (updV_same _ _ _)
        | 3 =>
          simp only [List.getElem?_toArray, List.getElem?_cons_zero, List.getElem?_cons_succ, Option.some.injEq] at ho
          subst ho
          have q2 : a'.tmps[23]?.getD undef = .pointer (some ⟨c, 0, none⟩) := by obtain ⟨_, _, _, _, q⟩ := hw 2 (by kernel_rfl); exact q
          have L3 : Below Wn.heap.size Wn W := L.below (Nat.le_refl _) (fun b o _ ⟨j, oj, hj, hoj, hwj, e⟩ => by
            rcases e.1 with rfl | rfl
            · exact hj rfl
            · simp only [List.getElem?_toArray, List.getElem?_cons_zero, List.getElem?_cons_succ, Option.some.injEq] at hoj
              subst hoj
              cases hwj.symm.trans (show waitsB _ 3 = true by kernel_rfl))
          have H3 := M.cur.below L3 (M.lt hc)
          clear hw
          go_simp
          refine (l1BelowW _ B c a len cap H3 6).mono ?_
          rintro e W' ⟨x, rfl, -, -, H4, O4⟩
          exact hK _ _ (Or.inr (Or.inl ⟨Or.inl rfl, O4, H4⟩)) ⟨⟨x, updV_same _ _ _⟩, H4⟩
        | 4 =>
          simp only [List.getElem?_toArray, List.getElem?_cons_zero, List.getElem?_cons_succ, Option.some.injEq] at ho
          subst ho
          clear hw
          go_simp
          exact hK _ _ (Or.inl (Below.refl _ _)) (updV_same _ _ _)
        | 5 =>
          simp only [List.getElem?_toArray, List.getElem?_cons_zero, List.getElem?_cons_succ, Option.some.injEq] at ho
          subst ho
          have q4 : a'.tmps[25]?.getD undef = .pointer (some ⟨c, 0, none⟩) := by obtain ⟨_, _, _, _, q⟩ := hw 4 (by kernel_rfl); exact q
          obtain ⟨_, _, _, _, -, H3⟩ := hw 3 (by kernel_rfl)
          clear hw
          go_simp
          refine (l1BelowW _ B c a len cap H3 256).mono ?_
          rintro e W' ⟨x, rfl, -, -, H4, O4⟩
          exact hK _ _ (Or.inr (Or.inl ⟨Or.inr rfl, O4, H4⟩)) ⟨⟨x, updV_same _ _ _⟩, H4⟩
        | 6 =>
          simp only [List.getElem?_toArray, List.getElem?_cons_zero, List.getElem?_cons_succ, Option.some.injEq] at ho
          subst ho
          have q1 : a'.tmps[22]?.getD undef = .int .i64 t := by obtain ⟨_, _, _, _, q⟩ := hw 1 (by kernel_rfl); exact q
          obtain ⟨_, _, _, _, ⟨y, v3⟩, -⟩ := hw 3 (by kernel_rfl)
          obtain ⟨_, _, _, _, ⟨z, v5⟩, -⟩ := hw 5 (by kernel_rfl)
          have q3 : a'.tmps[24]?.getD undef = .int .i64 y := v3
          have q5 : a'.tmps[26]?.getD undef = .int .i64 z := v5
          clear hw
          go_simp
          exact hK _ _ (Or.inl (Below.refl _ _)) ⟨y, z, updV_same _ _ _⟩
        | 7 =>
          simp only [List.getElem?_toArray, List.getElem?_cons_zero, List.getElem?_cons_succ, Option.some.injEq] at ho
          subst ho
          have q0 : a'.tmps[21]?.getD undef = .agg #[.int .i64 cR, .slice ua n uc] := by obtain ⟨_, _, _, _, q⟩ := hw 0 (by kernel_rfl); exact q
          obtain ⟨_, _, _, _, y, z, v6⟩ := hw 6 (by kernel_rfl)
          have q6 : a'.tmps[27]?.getD undef = .agg #[.int .i64 t, .int .i64 y, .int .i64 z] := v6
          have hR := M.lst.keep LW (fun g o e (h : g = c) => by have := M.lst.lo e; omega)
          clear hw
          go_simp
          refine (specRingPutO W _ _ cR n f t y z ⟨_, rfl, hR.on⟩).mono ?_
          rintro e W' ⟨v', rfl, ⟨o8, u8, rfl, hR8⟩, LX⟩
          obtain ⟨wa, wc, rfl⟩ := hR8.two
          refine hK _ _ (Or.inl LX) ?_
          show PutV W' _ _ n (updV _ 7 _ 7)
          rw [updV_same]
          exact ⟨_, _, _, _, _, _, o8, rfl, putN_le _ _ _, hR8, fun g e => hR8.ltH e⟩
        | 8 =>
          simp only [List.getElem?_toArray, List.getElem?_cons_zero, List.getElem?_cons_succ, Option.some.injEq] at ho
          subst ho
          obtain ⟨_, _, _, _, ⟨cP, nP, fP, wa, wc, ok, o8, v7, -, -, -⟩⟩ := hw 7 (by kernel_rfl)
          have q7 : a'.tmps[28]?.getD undef = .tuple #[.agg #[.int .i64 cP, .slice wa nP wc], .bool ok] := v7
          clear hw
          go_simp
          exact hK _ _ (Or.inl (Below.refl _ _)) ⟨cP, nP, wa, wc, ok, (updV_ne _ _ (by decide)).trans v7, updV_same _ _ _⟩
        | 9 =>
          simp only [List.getElem?_toArray, List.getElem?_cons_zero, List.getElem?_cons_succ, Option.some.injEq] at ho
          subst ho
          obtain ⟨_, _, _, _, cP, nP, wa, wc, ok, -, v8⟩ := hw 8 (by kernel_rfl)
          have q8 : a'.tmps[20]?.getD undef = .tuple #[.agg #[.int .i64 cP, .slice wa nP wc], .bool ok] := v8
          clear hw
          go_simp
          exact hK _ _ (Or.inl (Below.refl _ _)) ⟨cP, nP, wa, wc, ok, (updV_ne _ _ (by decide)).trans v8, updV_same _ _ _⟩
        | 10 =>
          simp only [List.getElem?_toArray, List.getElem?_cons_zero, List.getElem?_cons_succ, Option.some.injEq] at ho
          subst ho
          obtain ⟨_, _, _, _, cP, nP, wa, wc, ok, -, v8⟩ := hw 8 (by kernel_rfl)
          have q8 : a'.tmps[20]?.getD undef = .tuple #[.agg #[.int .i64 cP, .slice wa nP wc], .bool ok] := v8
          clear hw
          go_simp
          exact hK _ _ (Or.inl (Below.refl _ _)) ⟨cP, nP, wa, wc, ok, (updV_ne _ _ (by decide)).trans v8, updV_same _ _ _⟩
        | 11 =>
          simp only [List.getElem?_toArray, List.getElem?_cons_zero, List.getElem?_cons_succ, Option.some.injEq] at ho
          subst ho
          have hbn := box_new W #[.int .i64 0, .slice none 0 0] 26
          clear hw
          go_simp
          exact hK _ _ (Or.inl ((Below.refl _ _).alloc (Nat.le_refl _) _)) ⟨W.heap.size, _, _, updV_same _ _ _, Nat.le_refl _, by simp, hbn⟩
        | 12 =>
          simp only [List.getElem?_toArray, List.getElem?_cons_zero, List.getElem?_cons_succ, Option.some.injEq] at ho
          subst ho
          obtain ⟨loA, _, g1, _, zb, u0, u1, v11, g2, g3, rB⟩ := hw 11 (by kernel_rfl)
          obtain ⟨_, _, _, _, cP, nP, wa, wc, ok, -, v9⟩ := hw 9 (by kernel_rfl)
          have q11 : a'.tmps[6]?.getD undef = .pointer (some ⟨zb, 0, none⟩) := v11
          have q9 : a'.tmps[29]?.getD undef = .agg #[.int .i64 cP, .slice wa nP wc] := v9
          have c1 := boxC rB
          have f1 := boxF rB
          have HB := boxSetR (o := 1) (boxSetR (o := 0) rB (.int .i64 cP)) (.slice wa nP wc)
          simp only [List.setIfInBounds_toArray, List.set_cons_succ, List.set_cons_zero] at HB
          have HBB := hide HB
          have gg : Hid (Wn.heap.size ≤ zb) := Nat.le_trans g1 g2
          clear HB rB hw
          go_simp
          exact hK undef _ (Or.inr (Or.inr ⟨rfl, zb, _, _, v11, gg.out, rfl⟩)) ⟨zb, cP, nP, wa, wc, (updV_ne _ _ (by decide)).trans v11, gg.out, (updV_ne _ _ (by decide)).trans v9, HBB.out⟩
        | 13 =>
          simp only [List.getElem?_toArray, List.getElem?_cons_zero, List.getElem?_cons_succ, Option.some.injEq] at ho
          subst ho
          obtain ⟨_, _, _, _, cP, nP, wa, wc, ok, -, v10⟩ := hw 10 (by kernel_rfl)
          have q10 : a'.tmps[30]?.getD undef = .bool ok := v10
          clear hw
          go_simp
          exact hK _ _ (Or.inl (Below.refl _ _)) ⟨ok, (updV_ne _ _ (by decide)).trans v10, updV_same _ _ _⟩
        | n' + 14 => simp at ho
      · intro a' W F L lo hi hφ hdj
        have LW : Wrote (fun b _ => b = c) Wn W := L.mono (fun b o _ ⟨j, h⟩ => h.2)
        obtain ⟨l7, -, -, ⟨cP, nP, fP, wa, wc, ok, o8, v7, hnP, hR8, -⟩⟩ := hφ 7 (by decide)
        obtain ⟨-, -, -, cP1, nP1, wa1, wc1, ok1, e7, v8⟩ := hφ 8 (by decide)
        rw [v7] at e7
        simp only [Value.tuple.injEq, Value.agg.injEq, Array.mk.injEq, List.cons.injEq, Value.slice.injEq, Value.int.injEq, Value.bool.injEq, and_true, true_and] at e7
        obtain ⟨⟨rfl, rfl, rfl, rfl⟩, rfl⟩ := e7
        obtain ⟨-, -, -, cP1, nP1, wa1, wc1, ok1, e8, v9⟩ := hφ 9 (by decide)
        rw [v8] at e8
        simp only [Value.tuple.injEq, Value.agg.injEq, Array.mk.injEq, List.cons.injEq, Value.slice.injEq, Value.int.injEq, Value.bool.injEq, and_true, true_and] at e8
        obtain ⟨⟨rfl, rfl, rfl, rfl⟩, rfl⟩ := e8
        obtain ⟨-, -, -, cP1, nP1, wa1, wc1, ok1, e8, v10⟩ := hφ 10 (by decide)
        rw [v8] at e8
        simp only [Value.tuple.injEq, Value.agg.injEq, Array.mk.injEq, List.cons.injEq, Value.slice.injEq, Value.int.injEq, Value.bool.injEq, and_true, true_and] at e8
        obtain ⟨⟨rfl, rfl, rfl, rfl⟩, rfl⟩ := e8
        obtain ⟨-, -, -, zb, cP1, nP1, wa1, wc1, v11, hzb, e9, kB⟩ := hφ 12 (by decide)
        rw [v9] at e9
        simp only [Value.agg.injEq, Array.mk.injEq, List.cons.injEq, Value.slice.injEq, Value.int.injEq, and_true, true_and] at e9
        obtain ⟨rfl, rfl, rfl, rfl⟩ := e9
        obtain ⟨-, -, -, ok1, e10, v13⟩ := hφ 13 (by decide)
        rw [v10] at e10
        simp only [Value.bool.injEq] at e10
        subst e10
        obtain ⟨-, -, -, -, H5⟩ := hφ 5 (by decide)
        have s6 : a'.tmps[6]?.getD undef = .pointer (some ⟨zb, 0, none⟩) := v11
        have s7 : a'.tmps[7]?.getD undef = .bool ok := v13
        have M5 := M.moved hc (wrote_step LW) H5
        have R5 := hR8.monoL (lo' := w.heap.size + 2) (by have := boxLt M.box; omega)
        have lzb : w.heap.size + 2 ≤ zb := by have := boxLt M.box; omega
        rw [F.same, show slotsOf [some 21, some 22, some 23, some 24, some 25, some 26, some 27, some 28, some 20, some 29, some 30, some 6, none, some 7] = [21, 22, 23, 24, 25, 26, 27, 28, 20, 29, 30, 6, 7] from rfl]
        simp only [List.foldl_cons, List.foldl_nil]
        rw [s6, s7]
        generalize a'.tmps[20]?.getD undef = g20
        generalize a'.tmps[21]?.getD undef = g21
        generalize a'.tmps[22]?.getD undef = g22
        generalize a'.tmps[23]?.getD undef = g23
        generalize a'.tmps[24]?.getD undef = g24
        generalize a'.tmps[25]?.getD undef = g25
        generalize a'.tmps[26]?.getD undef = g26
        generalize a'.tmps[27]?.getD undef = g27
        generalize a'.tmps[28]?.getD undef = g28
        generalize a'.tmps[29]?.getD undef = g29
        generalize a'.tmps[30]?.getD undef = g30
        clear hφ hdj L LW F s6 s7 v7 v8 v9 v10 v11 v13 H5 hR8 l7 M hzb
        go_simp
        cases ok
        · go_wp2_with fail
          refine (l1Below _ B c a len cap M5.cur 5).mono ?_
          rintro e W6 ⟨d, rfl, d0, d1, H6, O6⟩
          have M6 := M5.moved hc O6.step H6
          clear M5 H6 O6 R5 kB
          go_wp2
          go_round
          case rel => exact ⟨_, j + 1, n, cR, f, o7, _, by omega, by omega, rfl, by go_num, M6⟩
          case measure => simp [intOf]; omega
        · have c6 := boxC kB
          have cr := boxC M5.box
          have fr := boxF M5.box
          go_upto_region 9 with (fail)
          have TT : Wrote (fun b _ => b = w.heap.size + 1) W ((W.setCell ⟨w.heap.size + 1, 0, none⟩ (.int .i64 cP)).setCell ⟨w.heap.size + 1, 1, none⟩ (.slice wa nP wc)) := Wrote.setCell (Wrote.setCell (Wrote.refl (fun b _ => b = w.heap.size + 1) W) (fun _ => rfl) _) (fun _ => rfl) _
          have HB := boxSetR (o := 1) (boxSetR (o := 0) M5.box (.int .i64 cP)) (.slice wa nP wc)
          simp only [List.setIfInBounds_toArray, List.set_cons_succ, List.set_cons_zero] at HB
          have M6 := M5.put hc (R5.keep TT (fun g o e (h : g = _) => by have := R5.lo e; omega)) (TT.mono (fun b o _ e => Or.inl e)) HB
          clear M5 R5 kB c6 cr fr TT HB
          generalize (W.setCell ⟨w.heap.size + 1, 0, none⟩ (.int .i64 cP)).setCell ⟨w.heap.size + 1, 1, none⟩ (.slice wa nP wc) = W5 at *
          go_wp2_with fail
          refine (l1Below _ B c a len cap M6.cur 5).mono ?_
          rintro e W6 ⟨d, rfl, d0, d1, H6, O6⟩
          have M7 := M6.moved hc O6.step H6
          clear M6 H6 O6
          go_wp2
          go_round
          case rel => exact ⟨_, j + 1, nP, cP, fP, o8, _, by omega, by omega, rfl, by go_num, M7⟩
          case measure => simp [intOf]; omega
    · have hlt' : ¬ (j : Int) < y := hlt
      have hn6 : n ≤ 6 := by omega
      clear y0 y1 hnj hj6
      go_wp2_with fail
      refine (l1Below _ B c a len cap M.cur 15).mono ?_
      rintro e W5 ⟨d, rfl, d0, d1, H5, O5⟩
      replace M := M.moved hc O5.step H5
      clear H5 O5
      have fin : ∀ W (cR : Int) (n : Nat) (f : Nat → Int) (o7 : Option Nat) (u : Value), LR w W B c a len cap cR n f o7 u → ∀ W', Wrote (fun b _ => b = w.heap.size) W W' → RgOn W' (fun b => w.heap.size ≤ b) (.agg #[.int .i64 cR, u]) cR n f ∧ Cur W' B c a len cap ∧ Step c w W' := fun W cR n f o7 u M W' T => ⟨⟨u, rfl, ((M.lst.keep T (fun g o e (h : g = _) => by have := M.lst.lo e; omega)).monoL (lo' := w.heap.size) (by omega)).on⟩, M.cur.below (T.below (B := w.heap.size) M.step.size (fun b o hb e => by omega)) hc, ⟨T.os.trans M.step.os, T.tape.trans M.step.tape, T.output.trans M.step.output, Nat.le_trans M.step.size T.size, fun k hk hkc => (T.block k (Nat.lt_of_lt_of_le hk M.step.size) (fun o e => by omega)).trans (M.step.block k hk hkc)⟩⟩
      have HN := hide fin
      clear fin
      by_cases h0 : d = 0
      · subst h0
        have hn5 : W5.heap.size ≠ c := by have := M.lt hc; omega
        go_wp2_with fail
        refine (l1PickInt _ B c a len cap (M.cur.alloc _ (M.lt hc)) W5.heap.size 3 (by omega) (by omega) hn5 pickC ?_).mono ?_
        · intro j hj
          rw [World.cell?_alloc_new]
          rcases j with _ | _ | _ | j <;> first | rfl | omega
        rintro e W6 ⟨j6, rfl, hj6, H6, O6⟩
        generalize pickC j6 = cN at *
        replace M := (M.below hc ((Below.refl W5.heap.size W5).alloc (Nat.le_refl _) _)).moved hc O6.step H6
        clear H6 O6 hj6 hn5
        have cr := boxC M.box
        have fr := boxF M.box
        go_upto_region 15 with (fail)
        have TT : Wrote (fun b _ => b = w.heap.size + 1) W6 (W6.setCell ⟨w.heap.size + 1, 0, none⟩ (.int .i64 cN)) := Wrote.setCell (Wrote.refl (fun b _ => b = w.heap.size + 1) W6) (fun _ => rfl) _
        have HB := boxSetR (o := 0) M.box (.int .i64 cN)
        simp only [List.setIfInBounds_toArray, List.set_cons_succ, List.set_cons_zero] at HB
        have M7 := M.put hc (M.lst.keep TT (fun g o e (h : g = _) => by have := M.lst.lo e; omega)) (TT.mono (fun b o _ e => Or.inl e)) HB
        clear M cr fr TT HB
        generalize W6.setCell ⟨w.heap.size + 1, 0, none⟩ (.int .i64 cN) = W7 at *
        have cr := boxC M7.box
        have cs := boxC M7.res
        have fs := boxF M7.res
        go_wp2
        refine bodyPost_ret (v := .agg #[.int .i64 cN, .slice ua n uc]) (by simp [results, Try.results18, go_sem, cs]) rfl ?_
        exact ⟨cN, n, f, _, rfl, HN.out _ _ _ _ _ _ M7 _ (Wrote.setCell (Wrote.setCell (Wrote.refl (fun b _ => b = w.heap.size) W7) (fun _ => rfl) _) (fun _ => rfl) _)⟩
      · by_cases h1 : d = 1
        · subst h1
          obtain ⟨Wn, hWn⟩ : ∃ W, W = W5 := ⟨_, rfl⟩
          subst hWn
          have hcn : c < Wn.heap.size := M.lt hc
          have hbn0 : w.heap.size + 1 < Wn.heap.size := boxLt M.box
          go_upto_region 14 with (fail)
          have HO := hide (fun g => M.lst.lo (g := g))
          have HG := hide (fun g => M.lst.ltH (g := g))
          refine wp_region_effK [some 47, some 48, some 49, some 50, some 51, some 52, some 53, some 54, some 55, some 56, some 57, some 58, some 59, some 60, none] (by kernel_rfl) (by kernel_rfl) (by kernel_rfl) (by kernel_rfl) (by simp [slotsOf])
            (fun j b _ => ((j = 3 ∨ j = 5 ∨ j = 9) ∧ b = c) ∨ (j = 12 ∧ o7 = some b) ∨ (j = 14 ∧ b = w.heap.size + 1))
            (fun _ _ _ => False)
            (fun j V W W' => Below W.heap.size W W' ∨ ((j = 3 ∨ j = 5 ∨ j = 9) ∧ OnlyW c W W' ∧ Cur W' B c a len cap) ∨ (j = 12 ∧ Wrote (fun b _ => o7 = some b) W W') ∨ (j = 14 ∧ Wrote (fun b _ => b = w.heap.size + 1) W W'))
            (fun i V lo hi W => match i with
              | 0 => V 0 = .pointer (some ⟨w.heap.size + 1, 1, none⟩)
              | 1 => V 1 = .slice ua n uc
              | 2 => V 2 = .pointer (some ⟨c, 0, none⟩)
              | 3 => ∃ x : Int, V 3 = .int .i64 x
              | 4 => V 4 = .pointer (some ⟨c, 0, none⟩)
              | 5 => ∃ x : Int, V 5 = .int .i64 x
              | 6 => ∃ x : Int, V 6 = .int .i64 x
              | 7 => V 7 = .pointer (some ⟨c, 0, none⟩)
              | 8 => ∃ b : Nat, V 8 = .slice (some ⟨b, 0, none⟩) 2 2 ∧ lo ≤ b ∧ W.heap[b]? = some (.cells #[.int .i64 0, .int .i64 256] 3 (0, 0))
              | 9 => ∃ x : Int, V 9 = .int .i64 x
              | 10 => ∃ x y z : Int, V 10 = .agg #[.int .i64 x, .int .i64 y, .int .i64 z]
              | 11 => ∃ (q : Nat) (x y z : Int), V 11 = .slice (some ⟨q, 0, none⟩) 1 1 ∧ lo ≤ q ∧ W.heap[q]? = some (.cells #[.int .i64 x, .int .i64 y, .int .i64 z] 28 (0, 0))
              | 12 => ∃ (g : Nat) (fP : Nat → Int), RcAt W (w.heap.size + 2) (some g) (V 12) (n + 1) fP
              | 13 => V 13 = .pointer (some ⟨w.heap.size + 1, 1, none⟩)
              | _ => ∃ (p : Option Addr) (q : Nat), V 12 = .slice p (n + 1) q ∧ W.heap[w.heap.size + 1]? = some (.cells #[.int .i64 cR, .slice p (n + 1) q] 26 (0, 0))) (fun W => Cur W B c a len cap) (M.cur.below (Below.refl _ _).drew hcn) ?_ ?_ ?_ ?_ ?_
          · intro j V W W' hE H
            rcases hE with hB | ⟨-, -, H'⟩ | ⟨-, hT⟩ | ⟨-, hT⟩
            · exact H.below hB H.lt
            · exact H'
            · exact H.below (B' := c + 1) (hT.below H.lt (fun q o hq e => by have := HO.out q e; omega)) (by omega)
            · exact H.below (B' := c + 1) (hT.below H.lt (fun q o hq (e : q = _) => by omega)) (by omega)
          · intro j V W W' h
            rcases h with h | ⟨h1, h2, -⟩ | ⟨rfl, h2⟩ | ⟨rfl, h2⟩
            · exact wrote_below h _
            · exact h2.wrote.mono (fun b o _ e => Or.inl (Or.inl ⟨h1, e⟩))
            · exact h2.mono (fun b o _ e => Or.inl (Or.inr (Or.inl ⟨rfl, e⟩)))
            · exact h2.mono (fun b o _ e => Or.inl (Or.inr (Or.inr ⟨rfl, e⟩)))
          · intro i j o oj V x' lo hi W W' hij ho hoj hnw hlo hhi hk hE h
            have nw : ∀ k, waitsB o k = true → k ≠ j := fun k hk e => by rw [e, hnw] at hk; cases hk
            have keepB : ∀ b o, Wn.heap.size ≤ b → W.heap[b]? = some o → W'.heap[b]? = some o := by
              intro b o hb h
              rcases hE with hB | ⟨-, hO, -⟩ | ⟨-, hT⟩ | ⟨-, hT⟩
              · exact box_keep h hB (boxLt h)
              · exact boxWroteR h hO.wrote (fun o (e : b = c) => by omega)
              · exact boxWroteR h hT (fun o e => by have := HG.out b e; omega)
              · exact boxWroteR h hT (fun o (e : b = _) => by omega)
            match i, ho, hij, nw, h with
            | 0, _, hij, _, h => exact (updV_ne V x' hij).trans h
            | 1, _, hij, _, h => exact (updV_ne V x' hij).trans h
            | 2, _, hij, _, h => exact (updV_ne V x' hij).trans h
            | 4, _, hij, _, h => exact (updV_ne V x' hij).trans h
            | 7, _, hij, _, h => exact (updV_ne V x' hij).trans h
            | 13, _, hij, _, h => exact (updV_ne V x' hij).trans h
            | 3, _, hij, _, ⟨x, h⟩ => exact ⟨x, (updV_ne V x' hij).trans h⟩
            | 5, _, hij, _, ⟨x, h⟩ => exact ⟨x, (updV_ne V x' hij).trans h⟩
            | 9, _, hij, _, ⟨x, h⟩ => exact ⟨x, (updV_ne V x' hij).trans h⟩
            | 6, _, hij, _, ⟨x, h⟩ => exact ⟨x, (updV_ne V x' hij).trans h⟩
            | 8, _, hij, _, ⟨b, h1, h2, h3⟩ => exact ⟨b, (updV_ne V x' hij).trans h1, h2, keepB _ _ (by omega) h3⟩
            | 10, _, hij, _, ⟨x, y, z, h⟩ => exact ⟨x, y, z, (updV_ne V x' hij).trans h⟩
            | 11, _, hij, _, ⟨q, x, y, z, h1, h2, h3⟩ => exact ⟨q, x, y, z, (updV_ne V x' hij).trans h1, h2, keepB _ _ (by omega) h3⟩
            | 12, _, hij, _, ⟨g, fP, h⟩ =>
              refine ⟨g, fP, ?_⟩
              rw [updV_ne V x' hij]
              have hlo := h.lo rfl
              rcases hE with hB | ⟨-, hO, -⟩ | ⟨e, -⟩ | ⟨-, hT⟩
              · exact h.keep (wrote_below hB (fun _ _ => False)) (fun _ _ _ x => x)
              · exact h.keep hO.wrote (fun g' o e (h' : g' = c) => by cases e; omega)
              · exact absurd e.symm hij
              · exact h.keep hT (fun g' o e (h' : g' = _) => by cases e; omega)
            | 14, ho, hij, nw, ⟨p, q, h1, h2⟩ =>
              simp only [List.getElem?_toArray, List.getElem?_cons_zero, List.getElem?_cons_succ, Option.some.injEq] at ho
              subst ho
              refine ⟨p, q, (updV_ne V x' (nw 12 (by kernel_rfl))).trans h1, ?_⟩
              rcases hE with hB | ⟨-, hO, -⟩ | ⟨-, hT⟩ | ⟨e, -⟩
              · exact box_keep h2 hB (boxLt h2)
              · exact boxWroteR h2 hO.wrote (fun o (e : _ = c) => by omega)
              · exact boxWroteR h2 hT (fun o e => by have := HO.out _ e; omega)
              · exact absurd e.symm hij
            | n' + 15, ho, _, _, _ => simp at ho
          · intro i o a' W K H3 ho F L hw hK
            have t0 := F.get (t := 0) (v := .pointer (some ⟨c, 0, none⟩)) (by decide) rfl
            have t3 := F.get (t := 3) (v := .pointer (some ⟨w.heap.size + 1, 0, none⟩)) (by decide) rfl
            match i with
            | 0 =>
              simp only [List.getElem?_toArray, List.getElem?_cons_zero, List.getElem?_cons_succ, Option.some.injEq] at ho
              subst ho
              clear hw
              go_simp
              exact hK _ _ (Or.inl (Below.refl _ _)) (updV_same _ _ _)
            | 1 =>
              simp only [List.getElem?_toArray, List.getElem?_cons_zero, List.getElem?_cons_succ, Option.some.injEq] at ho
              subst ho
              have q0 : a'.tmps[47]?.getD undef = .pointer (some ⟨w.heap.size + 1, 1, none⟩) := by obtain ⟨_, _, _, _, q⟩ := hw 0 (by kernel_rfl); exact q
              have rR := boxC (boxWroteR M.box L (fun o ⟨j, oj, hj, hoj, hwj, e⟩ => by
                rcases e with ⟨-, e⟩ | ⟨-, e⟩ | ⟨rfl, -⟩
                · omega
                · have := HO.out _ e; omega
                · simp only [List.getElem?_toArray, List.getElem?_cons_zero, List.getElem?_cons_succ, Option.some.injEq] at hoj
                  subst hoj
                  cases hwj.symm.trans (show waitsB _ 1 = true by kernel_rfl)))
              clear hw
              go_simp
              exact hK _ _ (Or.inl (Below.refl _ _)) (updV_same _ _ _)
            | 2 =>
              simp only [List.getElem?_toArray, List.getElem?_cons_zero, List.getElem?_cons_succ, Option.some.injEq] at ho
              subst ho
              clear hw
              go_simp
              exact hK _ _ (Or.inl (Below.refl _ _)) (updV_same _ _ _)
            | 4 =>
              simp only [List.getElem?_toArray, List.getElem?_cons_zero, List.getElem?_cons_succ, Option.some.injEq] at ho
              subst ho
              clear hw
              go_simp
              exact hK _ _ (Or.inl (Below.refl _ _)) (updV_same _ _ _)
            | 7 =>
              simp only [List.getElem?_toArray, List.getElem?_cons_zero, List.getElem?_cons_succ, Option.some.injEq] at ho
              subst ho
              clear hw
              go_simp
              exact hK _ _ (Or.inl (Below.refl _ _)) (updV_same _ _ _)
            | 3 =>
              simp only [List.getElem?_toArray, List.getElem?_cons_zero, List.getElem?_cons_succ, Option.some.injEq] at ho
              subst ho
              obtain ⟨_, _, _, _, v2⟩ := hw 2 (by kernel_rfl)
              have q2 : a'.tmps[49]?.getD undef = .pointer (some ⟨c, 0, none⟩) := v2
              clear hw
              go_simp
              refine (l1BelowW _ B c a len cap H3 9).mono ?_
              rintro e W' ⟨x, rfl, -, -, H4, O4⟩
              exact hK _ _ (Or.inr (Or.inl ⟨Or.inl rfl, O4, H4⟩)) ⟨x, updV_same _ _ _⟩
            | 5 =>
              simp only [List.getElem?_toArray, List.getElem?_cons_zero, List.getElem?_cons_succ, Option.some.injEq] at ho
              subst ho
              obtain ⟨_, _, _, _, v2⟩ := hw 4 (by kernel_rfl)
              have q2 : a'.tmps[51]?.getD undef = .pointer (some ⟨c, 0, none⟩) := v2
              clear hw
              go_simp
              refine (l1BelowW _ B c a len cap H3 10).mono ?_
              rintro e W' ⟨x, rfl, -, -, H4, O4⟩
              exact hK _ _ (Or.inr (Or.inl ⟨Or.inr (Or.inl rfl), O4, H4⟩)) ⟨x, updV_same _ _ _⟩
            | 6 =>
              simp only [List.getElem?_toArray, List.getElem?_cons_zero, List.getElem?_cons_succ, Option.some.injEq] at ho
              subst ho
              obtain ⟨_, _, _, _, y, v5⟩ := hw 5 (by kernel_rfl)
              have q5 : a'.tmps[52]?.getD undef = .int .i64 y := v5
              clear hw
              go_simp
              exact hK _ _ (Or.inl (Below.refl _ _)) ⟨_, updV_same _ _ _⟩
            | 8 =>
              simp only [List.getElem?_toArray, List.getElem?_cons_zero, List.getElem?_cons_succ, Option.some.injEq] at ho
              subst ho
              have hbn := box_new W #[.int .i64 0, .int .i64 256] 3
              clear hw
              go_simp
              exact hK _ _ (Or.inl ((Below.refl _ _).alloc (Nat.le_refl _) _)) ⟨W.heap.size, updV_same _ _ _, Nat.le_refl _, hbn⟩
            | 9 =>
              simp only [List.getElem?_toArray, List.getElem?_cons_zero, List.getElem?_cons_succ, Option.some.injEq] at ho
              subst ho
              obtain ⟨_, _, _, _, v7⟩ := hw 7 (by kernel_rfl)
              obtain ⟨_, _, l8, _, b8, v8, g8, k8⟩ := hw 8 (by kernel_rfl)
              have q7 : a'.tmps[54]?.getD undef = .pointer (some ⟨c, 0, none⟩) := v7
              have q8 : a'.tmps[55]?.getD undef = .slice (some ⟨b8, 0, none⟩) 2 2 := v8
              have hb8 : b8 ≠ c := by omega
              clear hw
              go_simp
              refine (l1PickIntW _ B c a len cap H3 b8 2 (by omega) (by omega) hb8 pickV ?_).mono ?_
              · intro j hj
                rw [boxC k8]
                rcases j with _ | _ | j <;> first | rfl | omega
              rintro e W' ⟨j9, rfl, -, H4, O4⟩
              exact hK _ _ (Or.inr (Or.inl ⟨Or.inr (Or.inr rfl), O4, H4⟩)) ⟨_, updV_same _ _ _⟩
            | 10 =>
              simp only [List.getElem?_toArray, List.getElem?_cons_zero, List.getElem?_cons_succ, Option.some.injEq] at ho
              subst ho
              obtain ⟨_, _, _, _, x, v3⟩ := hw 3 (by kernel_rfl)
              obtain ⟨_, _, _, _, y, v6⟩ := hw 6 (by kernel_rfl)
              obtain ⟨_, _, _, _, z, v9⟩ := hw 9 (by kernel_rfl)
              have q3 : a'.tmps[50]?.getD undef = .int .i64 x := v3
              have q6 : a'.tmps[53]?.getD undef = .int .i64 y := v6
              have q9 : a'.tmps[56]?.getD undef = .int .i64 z := v9
              clear hw
              go_simp
              exact hK _ _ (Or.inl (Below.refl _ _)) ⟨x, y, z, updV_same _ _ _⟩
            | 11 =>
              simp only [List.getElem?_toArray, List.getElem?_cons_zero, List.getElem?_cons_succ, Option.some.injEq] at ho
              subst ho
              obtain ⟨_, _, _, _, x, y, z, v10⟩ := hw 10 (by kernel_rfl)
              have q10 : a'.tmps[57]?.getD undef = .agg #[.int .i64 x, .int .i64 y, .int .i64 z] := v10
              have hbn := box_new W #[.int .i64 x, .int .i64 y, .int .i64 z] 28
              clear hw
              go_simp
              exact hK _ _ (Or.inl ((Below.refl _ _).alloc (Nat.le_refl _) _)) ⟨W.heap.size, x, y, z, updV_same _ _ _, Nat.le_refl _, hbn⟩
            | 12 =>
              simp only [List.getElem?_toArray, List.getElem?_cons_zero, List.getElem?_cons_succ, Option.some.injEq] at ho
              subst ho
              have q1 : a'.tmps[48]?.getD undef = .slice ua n uc := by obtain ⟨_, _, _, _, q⟩ := hw 1 (by kernel_rfl); exact q
              obtain ⟨_, _, _, _, b, x, y, z, v11, g11, k11⟩ := hw 11 (by kernel_rfl)
              have q11 : a'.tmps[58]?.getD undef = .slice (some ⟨b, 0, none⟩) 1 1 := v11
              have hR := M.lst.keep L (fun g o e ⟨j, oj, hj, hoj, hwj, h⟩ => by
                have := HO.out g e
                rcases h with ⟨-, h⟩ | ⟨rfl, -⟩ | ⟨-, h⟩
                · omega
                · exact hj rfl
                · omega)
              have hls := L.size
              have hbx := boxLt M.box
              clear hw
              refine wp_pushN W _ _ rfl (w.heap.size + 2) o7 _ n f (by simpa [Act.eval] using q1) hR (by omega) (by omega) b x y z (by simpa [Act.eval] using q11) k11 ?_
              intro g' u' W' r1 r2
              refine hK u' W' (Or.inr (Or.inr (Or.inl ⟨rfl, r2⟩))) ?_
              refine ⟨g', put3 f n x y z, ?_⟩
              show RcAt W' (w.heap.size + 2) (some g') (updV _ 12 _ 12) (n + 1) _
              rw [updV_same]
              exact r1
            | 13 =>
              simp only [List.getElem?_toArray, List.getElem?_cons_zero, List.getElem?_cons_succ, Option.some.injEq] at ho
              subst ho
              clear hw
              go_simp
              exact hK _ _ (Or.inl (Below.refl _ _)) (updV_same _ _ _)
            | 14 =>
              simp only [List.getElem?_toArray, List.getElem?_cons_zero, List.getElem?_cons_succ, Option.some.injEq] at ho
              subst ho
              obtain ⟨_, _, _, _, g, fP, r12⟩ := hw 12 (by kernel_rfl)
              obtain ⟨p, q, v12⟩ := r12.two
              have q12 : a'.tmps[59]?.getD undef = .slice p (n + 1) q := v12
              have q13 : a'.tmps[60]?.getD undef = .pointer (some ⟨w.heap.size + 1, 1, none⟩) := by obtain ⟨_, _, _, _, q⟩ := hw 13 (by kernel_rfl); exact q
              have rR := boxWroteR M.box L (fun o ⟨j, oj, hj, hoj, hwj, e⟩ => by
                rcases e with ⟨-, e⟩ | ⟨-, e⟩ | ⟨rfl, -⟩
                · omega
                · have := HO.out _ e; omega
                · exact hj rfl)
              have c1 := boxC rR
              have f1 := boxF rR
              have HB := boxSetR (o := 1) rR (.slice p (n + 1) q)
              simp only [List.setIfInBounds_toArray, List.set_cons_succ, List.set_cons_zero] at HB
              have HBB := hide HB
              clear HB rR hw r12
              go_simp
              exact hK undef _ (Or.inr (Or.inr (Or.inr ⟨rfl, Wrote.setCell (Wrote.refl (fun b _ => b = w.heap.size + 1) W) (fun _ => rfl) _⟩))) ⟨p, q, (updV_ne _ _ (by decide)).trans v12, HBB.out⟩
            | n' + 15 => simp at ho
          · intro a' W H9 F L lo hi hφ hdj
            obtain ⟨-, -, -, g, fP, r12⟩ := hφ 12 (by decide)
            obtain ⟨-, -, -, p, q, v12, kB⟩ := hφ 14 (by decide)
            rw [v12] at r12
            have hbx := boxLt M.box
            have M7 : LR w W B c a len cap cR (n + 1) fP (some g) (.slice p (n + 1) q) := ⟨r12, kB, boxWroteR M.res L (fun o ⟨j, e⟩ => by
                rcases e with ⟨-, e⟩ | ⟨-, e⟩ | ⟨-, e⟩
                · omega
                · have := HO.out _ e; omega
                · omega), H9, ⟨L.os.trans M.step.os, L.tape.trans M.step.tape, L.output.trans M.step.output, Nat.le_trans M.step.size L.size, fun k hk hkc => (L.block k (Nat.lt_of_lt_of_le hk M.step.size) (fun o ⟨j, e⟩ => by
                rcases e with ⟨-, e⟩ | ⟨-, e⟩ | ⟨-, e⟩
                · exact hkc e
                · have := HO.out _ e; omega
                · omega)).trans (M.step.block k hk hkc)⟩⟩
            rw [F.same, show slotsOf [some 47, some 48, some 49, some 50, some 51, some 52, some 53, some 54, some 55, some 56, some 57, some 58, some 59, some 60, none] = [47, 48, 49, 50, 51, 52, 53, 54, 55, 56, 57, 58, 59, 60] from rfl]
            simp only [List.foldl_cons, List.foldl_nil]
            generalize a'.tmps[47]?.getD undef = g47
            generalize a'.tmps[48]?.getD undef = g48
            generalize a'.tmps[49]?.getD undef = g49
            generalize a'.tmps[50]?.getD undef = g50
            generalize a'.tmps[51]?.getD undef = g51
            generalize a'.tmps[52]?.getD undef = g52
            generalize a'.tmps[53]?.getD undef = g53
            generalize a'.tmps[54]?.getD undef = g54
            generalize a'.tmps[55]?.getD undef = g55
            generalize a'.tmps[56]?.getD undef = g56
            generalize a'.tmps[57]?.getD undef = g57
            generalize a'.tmps[58]?.getD undef = g58
            generalize a'.tmps[59]?.getD undef = g59
            generalize a'.tmps[60]?.getD undef = g60
            clear hφ hdj L F v12 H9 r12 kB M HO HG
            have cr := boxC M7.box
            have cs := boxC M7.res
            have fs := boxF M7.res
            go_simp
            go_wp2
            refine bodyPost_ret (v := .agg #[.int .i64 cR, .slice p (n + 1) q]) (by simp [results, Try.results18, go_sem, cs]) rfl ?_
            exact ⟨cR, n + 1, fP, _, rfl, HN.out _ _ _ _ _ _ M7 _ (Wrote.setCell (Wrote.setCell (Wrote.refl (fun b _ => b = w.heap.size) W) (fun _ => rfl) _) (fun _ => rfl) _)⟩
        · have e0 : (d == 0) = false := by rw [beq_eq_false_iff_ne]; exact h0
          have e1 : (d == 1) = false := by rw [beq_eq_false_iff_ne]; exact h1
          have cr := boxC M.box
          have cs := boxC M.res
          have fs := boxF M.res
          go_wp2
          refine bodyPost_ret (v := .agg #[.int .i64 cR, .slice ua n uc]) (by simp [results, Try.results18, go_sem, cs]) rfl ?_
          exact ⟨cR, n, f, _, rfl, HN.out _ _ _ _ _ _ M _ (Wrote.setCell (Wrote.setCell (Wrote.refl (fun b _ => b = w.heap.size) W5) (fun _ => rfl) _) (fun _ => rfl) _)⟩
end Go.Proofs.Ytpaedkefmebjjac
