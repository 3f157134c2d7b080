/-
  Lists of records that a call owns: copied by append to an empty list, and one record more; chapter 13 of the specification by its contracts.
-/
import Derived.Test.YtjcaligejlhjdaaGreatRC
import Derived.Test.YtjcaligejlhjdaaGreatG1
import Derived.ArgAppend
import Derived.Deep.AppendLies
import Derived.Deep.Upon
import Derived.Deep.DeepCutAuto
namespace Go.Proofs.YtjcaligejlhjdaaGreat
set_option linter.unusedVariables false
set_option linter.unusedSimpArgs false
open Go.ChangeShapes Go.WideShapes Go.ChangeAt Go.RowKit Go.Sort
def recVals (m : Nat) (f : Nat → Int) : List Value := (List.range m).map (fun i => .int .i64 (f i))
theorem recVals_len (m : Nat) (f : Nat → Int) : (recVals m f).length = m := by unfold recVals; simp
theorem recVals_get {m j : Nat} (f : Nat → Int) (hj : j < m) : (recVals m f)[j]? = some (.int .i64 (f j)) := by unfold recVals; simp [hj]
theorem recVals_lt {m j : Nat} {f : Nat → Int} {u : Value} (h : (recVals m f)[j]? = some u) : j < m ∧ u = .int .i64 (f j) := by
  rcases Nat.lt_or_ge j m with hj | hj
  · rw [recVals_get f hj] at h; exact ⟨hj, (Option.some.inj h).symm⟩
  · rw [List.getElem?_eq_none (by rw [recVals_len]; exact hj)] at h; cases h
theorem recVals_cells {W : World} {b off m : Nat} {f : Nat → Int} (h : RowOf .i64 W (some ⟨b, off, none⟩) m f) : ∀ j u, (recVals m f)[j]? = some u → W.cell? ((⟨b, off, none⟩ : Addr).add j) = some u := fun j u hu => by
  obtain ⟨hj, rfl⟩ := recVals_lt hu
  obtain ⟨b', off', e, hc⟩ := h j hj
  simp only [Option.some.injEq, Addr.mk.injEq, and_true] at e
  obtain ⟨rfl, rfl⟩ := e
  unfold Addr.add
  split
  · rename_i h0
    subst h0
    exact hc
  · exact hc
/-- The list of n records that begins a block g, which the call has made. -/
structure RcRow (W : World) (lo g n c : Nat) (f : Nat → Int) : Prop where
  own : W.ownsRow lo 144 3 (.slice (some ⟨g, 0, none⟩) n c) n (recVals (n * 3) f)
  small : n ≤ 1048576
section
variable {R : Nat → Nat → Prop} {W W' : World} {lo g n c : Nat} {f : Nat → Int}
theorem RcRow.parts (h : RcRow W lo g n c f) : lo ≤ g ∧ g < W.heap.size ∧ n ≤ c ∧ ∃ cur, W.heap[g]? = some (.cells cur 144 (0, 0)) ∧ cur.size = c * 3 ∧ ∀ j, j < n * 3 → cur[j]? = some (.int .i64 (f j)) := by
  rcases h.own.2 with ⟨e, _⟩ | ⟨g', cap, cur, hv, hb, hg, h1, h2, h3, h4⟩
  · cases e
  · simp only [Value.slice.injEq, Option.some.injEq, Addr.mk.injEq, and_true, true_and] at hv
    obtain ⟨rfl, rfl⟩ := hv
    refine ⟨hb, boxLt hg, h1, cur, hg, h3, fun j hj => ?_⟩
    have := recVals_get f hj
    rw [← h4, List.getElem?_take, if_pos hj, Array.getElem?_toList] at this
    exact this
theorem RcRow.on (h : RcRow W lo g n c f) {D : Nat → Prop} (hd : D g) : RsOn W D (.slice (some ⟨g, 0, none⟩) n c) n f := by
  obtain ⟨h1, h2, h3, cur, h4, h5, h6⟩ := h.parts
  refine ⟨_, _, rfl, ⟨h.small, h3⟩, fun j hj => ⟨g, 0, rfl, ?_⟩, fun b o hF => ?_, fun b o hF => ?_⟩
  · rw [Nat.zero_add, boxC h4]
    exact h6 j hj
  · obtain ⟨off, e, _, _⟩ := hF
    simp only [Option.some.injEq, Addr.mk.injEq, and_true] at e
    obtain ⟨rfl, rfl⟩ := e
    exact ⟨h2, boxF h4 o⟩
  · obtain ⟨off, e, _, _⟩ := hF
    simp only [Option.some.injEq, Addr.mk.injEq, and_true] at e
    rw [← e.1]
    exact hd
theorem RcRow.keep (h : RcRow W lo g n c f) (hw : Wrote R W W') (hd : ∀ o, ¬ R g o) : RcRow W' lo g n c f := by
  refine ⟨⟨h.own.1, ?_⟩, h.small⟩
  rcases h.own.2 with ⟨e, _⟩ | ⟨g', cap, cur, hv, hb, hg, r⟩
  · cases e
  · have hv' := hv
    simp only [Value.slice.injEq, Option.some.injEq, Addr.mk.injEq, and_true, true_and] at hv'
    obtain ⟨rfl, rfl⟩ := hv'
    exact Or.inr ⟨g, c, cur, rfl, hb, (hw.block g (boxLt hg) hd).trans hg, r⟩
theorem RcRow.below (h : RcRow W lo g n c f) (L : Below W.heap.size W W') : RcRow W' lo g n c f := h.keep (wrote_below L Nowhere) (fun _ x => x)
theorem RcRow.mono {lo' : Nat} (h : RcRow W lo g n c f) (hl : lo' ≤ lo) : RcRow W lo' g n c f := by
  refine ⟨⟨h.own.1, ?_⟩, h.small⟩
  rcases h.own.2 with ⟨e, _⟩ | ⟨g', cap, cur, hv, hb, r⟩
  · cases e
  · exact Or.inr ⟨g', cap, cur, hv, by omega, r⟩
end
/-- 'append([]Rec{}, xs...)'. -/
theorem wp_copyR (W : World) {o : Oper} {a : Act} {K : Act → World → Prop} {Q : Exit → Act → World → Prop} (s x : Operand) (hop : o.op = Op.call { callee := Callee.builtin Builtin.append, args := #[s, x], argTypes := #[36, 36] })
    (g0 : Nat) (hs : a.eval s = .slice (some ⟨g0, 0, none⟩) 0 0) (h0 : W.heap[g0]? = some (.cells #[] 144 (0, 0))) (lo : Nat) (hlo : lo ≤ g0) (ua : Option Addr) (n ux : Nat) (f : Nat → Int) (hn : n ≤ 1048576) (hx : a.eval x = .slice ua n ux) (hr : RowOf .i64 W ua (n * 3) f)
    (h : ∀ g c W', RcRow W' lo g n c f → Below W.heap.size W W' → (g = g0 ∨ W.heap.size ≤ g) → K (a.put o.dst (.slice (some ⟨g, 0, none⟩) n c)) W') : o.wp Tryz.prog a W K Q := by
  obtain ⟨i0, hi, hzz⟩ := Option.map_eq_some_iff.1 infoRec
  simp only [Prod.mk.injEq] at hzz
  obtain ⟨hz0, hz1, hz2⟩ := hzz
  by_cases hz : n = 0
  · subst hz
    have hsrc : Src Tryz.prog i0.size 36 (.slice ua 0 ux) 0 [] W := by
      cases ua with
      | none => exact Src.ofNil W Tryz.underlying36 ux
      | some ad => exact Src.ofSlice W Tryz.underlying36 ad 0 ux [] (by simp) (fun j v hh => by simp at hh) (fun v hh => by cases hh)
    have hrun := run_append_nothing (P := Tryz.prog) W 36 36 o.type 144 i0 Tryz.underlying36 hi (some ⟨g0, 0, none⟩) 0 0 (Nat.le_refl _) _ hsrc
    unfold Oper.wp
    simp [execOp, hop, resolve, invoke, builtin, hs, hx, hrun, Result.andThen]
    exact h g0 0 W ⟨⟨rfl, Or.inr ⟨g0, 0, #[], rfl, hlo, h0, Nat.le_refl _, by unfold maxLen; omega, rfl, rfl⟩⟩, by omega⟩ (Below.refl _ _) (Or.inl rfl)
  · obtain ⟨rb, ro, rfl, -⟩ := hr 0 (by omega)
    obtain ⟨v', w', hrun, r1, r2⟩ := run_append_arg_grows (P := Tryz.prog) W 36 o.type 144 i0 (.agg #[.int .i64 0, .int .i64 0, .int .i64 0]) 3 24 Tryz.underlying36 hi hz0 hz1 hz2 rfl (by decide) ⟨g0, 0, none⟩ 0 0 [] rfl (fun j u hh => by simp at hh) ⟨rb, ro, none⟩ n ux (recVals (n * 3) f) (by rw [recVals_len]) (recVals_cells hr) (by omega) (by unfold maxLen; omega) (by omega)
    have hon : w'.ownsRow W.heap.size 144 3 v' n (recVals (n * 3) f) := by simpa using r1
    obtain ⟨g', cap2, rfl, hg, hlt⟩ := hon.form (by omega)
    have L : Below W.heap.size W w' := (Below.refl _ _).grown r2 (Nat.le_refl _) (fun _ e => by cases e)
    unfold Oper.wp
    simp [execOp, hop, resolve, invoke, builtin, hs, hx, hrun, Result.andThen]
    exact h g' cap2 w' ((RcRow.mk hon hn).mono (by have := boxLt h0; omega)) L (Or.inr hg)
theorem wpList_copyR (W : World) {ops : Array Oper} {rest : List Oper} {o : Oper} {a : Act} {Q : Exit → Act → World → Prop} (hg : o.guard = none) (s x : Operand) (hop : o.op = Op.call { callee := Callee.builtin Builtin.append, args := #[s, x], argTypes := #[36, 36] })
    (g0 : Nat) (hs : a.eval s = .slice (some ⟨g0, 0, none⟩) 0 0) (h0 : W.heap[g0]? = some (.cells #[] 144 (0, 0))) (lo : Nat) (hlo : lo ≤ g0) (ua : Option Addr) (n ux : Nat) (f : Nat → Int) (hn : n ≤ 1048576) (hx : a.eval x = .slice ua n ux) (hr : RowOf .i64 W ua (n * 3) f)
    (h : ∀ g c W', RcRow W' lo g n c f → Below W.heap.size W W' → (g = g0 ∨ W.heap.size ≤ g) → wpList Tryz.prog ops Q rest (a.put o.dst (.slice (some ⟨g, 0, none⟩) n c)) W') : wpList Tryz.prog ops Q (o :: rest) a W :=
  wpList_plain hg fun K hK => wp_copyR W s x hop g0 hs h0 lo hlo ua n ux f hn hx hr (fun g c W' r1 r2 r3 => hK _ _ (h g c W' r1 r2 r3))
end Go.Proofs.YtjcaligejlhjdaaGreat
namespace Go.Proofs.YtjcaligejlhjdaaGreat
set_option linter.unusedVariables false
set_option linter.unusedSimpArgs false
open Go.ChangeShapes Go.WideShapes Go.ChangeAt Go.RowKit Go.Sort
theorem RgOn.none0 {W : World} {D : Nat → Prop} (cap : Int) (f : Nat → Int) : RgOn W D (.agg #[.int .i64 cap, .slice none 0 0]) cap 0 f := ⟨_, rfl, RsOn.none0 f⟩
end Go.Proofs.YtjcaligejlhjdaaGreat
namespace Go.Proofs.YtjcaligejlhjdaaGreat
set_option linter.unusedVariables false
set_option linter.unusedSimpArgs false
open Go.ChangeShapes Go.WideShapes Go.ChangeAt Go.RowKit Go.Sort
/-- A ring in new memory. -/
structure RgNw (w w' : World) (v : Value) (cap : Int) (n : Nat) (f : Nat → Int) : Prop where
  ex : RgOn w' (fun b => w.heap.size ≤ b ∧ b < w'.heap.size) v cap n f
end Go.Proofs.YtjcaligejlhjdaaGreat
