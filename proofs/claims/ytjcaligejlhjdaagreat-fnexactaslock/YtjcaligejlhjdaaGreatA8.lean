/-
  Lists of numbers that a call owns, with the room behind them: copied by append to an empty list, and one number more.
-/
import Derived.Test.YtjcaligejlhjdaaGreatU8
import Derived.Test.YtjcaligejlhjdaaGreatC7
import Derived.ArgAppend
import Derived.Deep.AppendLies
import Derived.Deep.Upon
namespace Go.Proofs.YtjcaligejlhjdaaGreat
set_option linter.unusedVariables false
open Go.ChangeShapes Go.WideShapes Go.ChangeAt Go.RowKit
/-- The list of n numbers that begins a block g, which the call has made. -/
structure Row (W : World) (lo g n c : Nat) (f : Nat → Int) : Prop where
  own : W.ownsRow lo 3 1 (.slice (some ⟨g, 0, none⟩) n c) n (rowVals n f)
  small : n ≤ 1048576
theorem Row.parts {W : World} {lo g n c : Nat} {f : Nat → Int} (h : Row W lo g n c f) : lo ≤ g ∧ g < W.heap.size ∧ n ≤ c ∧ ∃ cur, W.heap[g]? = some (.cells cur 3 (0, 0)) := by
  rcases h.own.2 with ⟨e, _⟩ | ⟨g', cap, cur, hv, hb, hg, hc, _⟩
  · cases e
  · simp only [Value.slice.injEq, Option.some.injEq, Addr.mk.injEq, and_true, true_and] at hv
    obtain ⟨rfl, rfl⟩ := hv
    exact ⟨hb, boxLt hg, hc, cur, hg⟩
theorem Row.sl {W : World} {lo g n c : Nat} {f : Nat → Int} (h : Row W lo g n c f) : SlOn W (fun b => b = g) (some ⟨g, 0, none⟩) n f :=
  ⟨h.small, fun i hi => ⟨g, 0, rfl, by rw [Nat.zero_add, h.own.cellAt i (by omega), rowVals_get n f i hi]⟩, fun b o ⟨off, e, _⟩ => by
    simp only [Option.some.injEq, Addr.mk.injEq, and_true] at e
    obtain ⟨rfl, rfl⟩ := e
    exact ⟨h.parts.2.1, h.own.frozenAt o⟩, fun b o ⟨off, e, _⟩ => by
    simp only [Option.some.injEq, Addr.mk.injEq, and_true] at e
    exact e.1.symm⟩
theorem Row.block {W W' : World} {lo g n c : Nat} {f : Nat → Int} (h : Row W lo g n c f) (e : W'.heap[g]? = W.heap[g]?) : Row W' lo g n c f := by
  refine ⟨⟨h.own.1, ?_⟩, h.small⟩
  rcases h.own.2 with x | ⟨g', cap, cur, hv, hb, hg, r⟩
  · exact Or.inl x
  · have hv' := hv
    simp only [Value.slice.injEq, Option.some.injEq, Addr.mk.injEq, and_true, true_and] at hv'
    obtain ⟨rfl, rfl⟩ := hv'
    exact Or.inr ⟨g, c, cur, rfl, hb, e.trans hg, r⟩
theorem Row.keep {R : Nat → Nat → Prop} {W W' : World} {lo g n c : Nat} {f : Nat → Int} (h : Row W lo g n c f) (hw : Wrote R W W') (hd : ∀ o, ¬ R g o) : Row W' lo g n c f := h.block (hw.block g h.parts.2.1 hd)
theorem Row.below {W W' : World} {lo g n c : Nat} {f : Nat → Int} (h : Row W lo g n c f) (L : Below W.heap.size W W') : Row W' lo g n c f := h.block (L.block g h.parts.2.1)
theorem Row.grown {W W' : World} {lo g n c : Nat} {f : Nat → Int} {row : Option Nat} (h : Row W lo g n c f) (hg : W.grownBy W' row) (hne : some g ≠ row) : Row W' lo g n c f := h.block (hg.block g h.parts.2.1 hne)
theorem Row.mono {W : World} {lo lo' g n c : Nat} {f : Nat → Int} (h : Row W lo g n c f) (hl : lo' ≤ lo) : Row W lo' g n c f := by
  refine ⟨⟨h.own.1, ?_⟩, h.small⟩
  rcases h.own.2 with x | ⟨g', cap, cur, hv, hb, r⟩
  · exact Or.inl x
  · exact Or.inr ⟨g', cap, cur, hv, by omega, r⟩
theorem Row.own' {W : World} {lo g n c : Nat} {f : Nat → Int} (h : Row W lo g n c f) : OwnInts W lo (.slice (some ⟨g, 0, none⟩) n c) n f := own_row h.own h.parts.1 h.parts.2.1 h.small
theorem Row.empty {W : World} {lo g : Nat} (f : Nat → Int) (h : W.heap[g]? = some (.cells #[] 3 (0, 0))) (hl : lo ≤ g) : Row W lo g 0 0 f :=
  ⟨⟨by simp [rowVals], Or.inr ⟨g, 0, #[], rfl, hl, h, Nat.le_refl _, by unfold maxLen; omega, rfl, rfl⟩⟩, by omega⟩
theorem Row.put {W : World} {lo g n c : Nat} {f : Nat → Int} (h : Row W lo g n c f) (k : Nat) (hk : k < n) (x : Int) : Row (W.setCell ⟨g, k, none⟩ (.int .i64 x)) lo g n c (fun i => if i = k then x else f i) := by
  refine ⟨⟨by rw [rowVals_len, Nat.mul_one], ?_⟩, h.small⟩
  rcases h.own.2 with ⟨e, _⟩ | ⟨g', cap, cur, hv, hb, hg, h1, h2, h3, h4⟩
  · cases e
  · have hv' := hv
    simp only [Value.slice.injEq, Option.some.injEq, Addr.mk.injEq, and_true, true_and] at hv'
    obtain ⟨rfl, rfl⟩ := hv'
    refine Or.inr ⟨g, c, cur.setIfInBounds k (.int .i64 x), rfl, hb, box_set hg _, h1, h2, by simpa using h3, ?_⟩
    rw [Nat.mul_one] at h4 ⊢
    rw [Array.toList_setIfInBounds, List.take_set, h4]
    apply List.ext_getElem?
    intro j
    by_cases hj : j < n
    · rw [rowVals_get n _ j hj]
      by_cases e : j = k
      · subst e
        rw [if_pos rfl, List.getElem?_set_self (by rw [rowVals_len]; exact hj)]
      · rw [if_neg e, List.getElem?_set_ne (by omega), rowVals_get n f j hj]
    · rw [List.getElem?_eq_none (by rw [List.length_set, rowVals_len]; omega), List.getElem?_eq_none (by rw [rowVals_len]; omega)]
theorem Row.congr {W : World} {lo g n c : Nat} {f f' : Nat → Int} (h : Row W lo g n c f) (e : ∀ i, i < n → f i = f' i) : Row W lo g n c f' := by
  have : rowVals n f = rowVals n f' := List.map_congr_left (fun i hi => by rw [e i (List.mem_range.1 hi)])
  exact ⟨this ▸ h.own, h.small⟩
theorem Row.fresh {W : World} {lo g n : Nat} {f : Nat → Int} (h : W.rowIs g 3 n (fun i => .int .i64 (f i))) (hn : n ≤ 1048576) (hl : lo ≤ g) : Row W lo g n n f := by
  obtain ⟨cs, h1, h2, h3⟩ := h
  refine ⟨⟨by rw [rowVals_len, Nat.mul_one], Or.inr ⟨g, n, cs, rfl, hl, h1, Nat.le_refl _, by unfold maxLen; omega, by rw [h2, Nat.mul_one], ?_⟩⟩, hn⟩
  rw [Nat.mul_one, List.take_of_length_le (by rw [Array.length_toList]; omega)]
  apply List.ext_getElem?
  intro j
  by_cases hj : j < n
  · rw [rowVals_get n f j hj, Array.getElem?_toList]; exact h3 j hj
  · rw [List.getElem?_eq_none (by rw [Array.length_toList]; omega), List.getElem?_eq_none (by rw [rowVals_len]; omega)]
theorem SlOn.nil {W : World} {D : Nat → Prop} (f : Nat → Int) : SlOn W D none 0 f := ⟨by omega, fun i hi => absurd hi (Nat.not_lt_zero _), fun b o hF => absurd hF (foot_none _ _ _), fun b o hF => absurd hF (foot_none _ _ _)⟩
/-- 'append([]int{}, xs...)'. -/
theorem wp_copy (W : World) {o : Oper} {a : Act} {K : Act → World → Prop} {Q : Exit → Act → World → Prop} (s x : Operand) (hop : o.op = Op.call { callee := Callee.builtin Builtin.append, args := #[s, x], argTypes := #[25, 25] })
    (g0 : Nat) (hs : a.eval s = .slice (some ⟨g0, 0, none⟩) 0 0) (h0 : W.heap[g0]? = some (.cells #[] 3 (0, 0))) (lo : Nat) (hlo : lo ≤ g0) (F : Nat → Nat → Prop) (u : Value) (n : Nat) (f : Nat → Int) (hx : a.eval x = u) (H : Ints .i64 W F u n f)
    (h : ∀ g c W', Row W' lo g n c f → Below W.heap.size W W' → (g = g0 ∨ W.heap.size ≤ g) → K (a.put o.dst (.slice (some ⟨g, 0, none⟩) n c)) W') : o.wp Tryz.prog a W K Q := by
  obtain ⟨i0, hi, hz0, hz1, hz2⟩ := info_parts info3
  obtain ⟨ua, ux, rfl, un, hr, -⟩ := H
  by_cases hn : n = 0
  · subst hn
    have hsrc : Src Tryz.prog i0.size 25 (.slice ua 0 ux) 0 [] W := by
      cases ua with
      | none => exact Src.ofNil W Tryz.underlying25 ux
      | some ad => exact Src.ofSlice W Tryz.underlying25 ad 0 ux [] (by simp) (fun j v hh => by simp at hh) (fun v hh => by cases hh)
    have hrun := run_append_nothing (P := Tryz.prog) W 25 25 o.type 3 i0 Tryz.underlying25 hi (some ⟨g0, 0, none⟩) 0 0 (Nat.le_refl _) _ hsrc
    unfold Oper.wp
    simp [execOp, hop, resolve, invoke, builtin, hs, hx, hrun, Result.andThen]
    exact h g0 0 W (Row.empty f h0 hlo) (Below.refl _ _) (Or.inl rfl)
  · obtain ⟨rb, ro, rfl, -⟩ := hr 0 (by omega)
    obtain ⟨v', w', hrun, r1, r2⟩ := run_append_arg_grows (P := Tryz.prog) W 25 o.type 3 i0 (.int .i64 0) 1 8 Tryz.underlying25 hi hz0 hz1 hz2 rfl (by decide) ⟨g0, 0, none⟩ 0 0 [] rfl (fun j u hh => by simp at hh) ⟨rb, ro, none⟩ n ux (rowVals n f) (by rw [rowVals_len, Nat.mul_one]) (rowVals_cells hr) (by omega) (by unfold maxLen; omega) (by omega)
    have hon : w'.ownsRow W.heap.size 3 1 v' n (rowVals n f) := by simpa using r1
    obtain ⟨g', cap2, rfl, hg, hlt⟩ := hon.form (by omega)
    have L : Below W.heap.size W w' := (Below.refl _ _).grown r2 (Nat.le_refl _) (fun _ e => by cases e)
    unfold Oper.wp
    simp [execOp, hop, resolve, invoke, builtin, hs, hx, hrun, Result.andThen]
    exact h g' cap2 w' ((Row.mk hon un).mono (by have := boxLt h0; omega)) L (Or.inr hg)
theorem wpList_copy (W : World) {ops : Array Oper} {rest : List Oper} {o : Oper} {a : Act} {Q : Exit → Act → World → Prop} (hg : o.guard = none) (s x : Operand) (hop : o.op = Op.call { callee := Callee.builtin Builtin.append, args := #[s, x], argTypes := #[25, 25] })
    (g0 : Nat) (hs : a.eval s = .slice (some ⟨g0, 0, none⟩) 0 0) (h0 : W.heap[g0]? = some (.cells #[] 3 (0, 0))) (lo : Nat) (hlo : lo ≤ g0) (F : Nat → Nat → Prop) (u : Value) (n : Nat) (f : Nat → Int) (hx : a.eval x = u) (H : Ints .i64 W F u n f)
    (h : ∀ g c W', Row W' lo g n c f → Below W.heap.size W W' → (g = g0 ∨ W.heap.size ≤ g) → wpList Tryz.prog ops Q rest (a.put o.dst (.slice (some ⟨g, 0, none⟩) n c)) W') : wpList Tryz.prog ops Q (o :: rest) a W :=
  wpList_plain hg fun K hK => wp_copy W s x hop g0 hs h0 lo hlo F u n f hx H (fun g c W' r1 r2 r3 => hK _ _ (h g c W' r1 r2 r3))
end Go.Proofs.YtjcaligejlhjdaaGreat
