/-
  Lists of records that a call owns: copied by append to an empty list, and one record more; chapter 13 of the specification by its contracts.
-/
import Derived.Test.YtpaedkefmebjjasRC
import Derived.Test.YtpaedkefmebjjasG1
import Derived.ArgAppend
import Derived.Deep.AppendLies
import Derived.Deep.Upon
namespace Go.Proofs.Ytpaedkefmebjjas
set_option linter.unusedVariables false
set_option linter.unusedSimpArgs false
open Go.ChangeShapes Go.WideShapes Go.ChangeAt Go.RowKit Go.Sort
theorem boxSetR {w : World} {b o : Nat} {cs : Array Value} {t : TypeId} {fr : Nat × Nat} (h : w.heap[b]? = some (.cells cs t fr)) (x : Value) : (w.setCell ⟨b, o, none⟩ x).heap[b]? = some (.cells (cs.setIfInBounds o x) t fr) := by
  simp [World.setCell, Array.getElem?_modify, h]
theorem boxWroteR {R : Nat → Nat → Prop} {w w' : World} {b : Nat} {o : Obj} (h : w.heap[b]? = some o) (hw : Wrote R w w') (hd : ∀ o, ¬ R b o) : w'.heap[b]? = some o := (hw.block b (boxLt h) hd).trans h
def recVals (m : Nat) (f : Nat → Int) : List Value := (List.range m).map (fun i => .int .i64 (f i))
theorem recVals_len (m : Nat) (f : Nat → Int) : (recVals m f).length = m := by unfold recVals; simp
theorem recVals_get {m j : Nat} (f : Nat → Int) (hj : j < m) : (recVals m f)[j]? = some (.int .i64 (f j)) := by unfold recVals; simp [hj]
theorem recVals_lt {m j : Nat} {f : Nat → Int} {u : Value} (h : (recVals m f)[j]? = some u) : j < m ∧ u = .int .i64 (f j) := by
  rcases Nat.lt_or_ge j m with hj | hj
  · rw [recVals_get f hj] at h; exact ⟨hj, (Option.some.inj h).symm⟩
  · rw [List.getElem?_eq_none (by rw [recVals_len]; exact hj)] at h; cases h
theorem recVals_cells {W : World} {b off m : Nat} {f : Nat → Int} (h : RowOf .i64 W (some ⟨b, off, none⟩) m f) : ∀ j u, (recVals m f)[j]? = some u → W.cell? ((⟨b, off, none⟩ : Addr).add j) = some u := fun j u hu => by
  obtain ⟨hj, rfl⟩ := recVals_lt hu
  obtain ⟨b', off', e, hc⟩ := h j hj
  simp only [Option.some.injEq, Addr.mk.injEq, and_true] at e
  obtain ⟨rfl, rfl⟩ := e
  unfold Addr.add
  split
  · rename_i h0
    subst h0
    exact hc
  · exact hc
/-- n records, and one more. -/
def put3 (f : Nat → Int) (n : Nat) (t r v : Int) : Nat → Int := fun i => if i = n * 3 then t else if i = n * 3 + 1 then r else if i = n * 3 + 2 then v else f i
theorem recVals_put (f : Nat → Int) (n : Nat) (t r v : Int) : recVals (n * 3) f ++ [.int .i64 t, .int .i64 r, .int .i64 v] = recVals ((n + 1) * 3) (put3 f n t r v) := by
  apply List.ext_getElem?
  intro j
  rw [List.getElem?_append, recVals_len]
  by_cases hj : j < n * 3
  · rw [if_pos hj, recVals_get f hj, recVals_get _ (show j < (n + 1) * 3 by omega)]
    unfold put3
    rw [if_neg (by omega), if_neg (by omega), if_neg (by omega)]
  · rw [if_neg hj]
    by_cases h : j < (n + 1) * 3
    · rw [recVals_get _ h]
      unfold put3
      by_cases e0 : j = n * 3
      · rw [if_pos e0, e0, Nat.sub_self]; rfl
      · by_cases e1 : j = n * 3 + 1
        · rw [if_neg e0, if_pos e1, show j - n * 3 = 1 by omega]; rfl
        · rw [if_neg e0, if_neg e1, if_pos (by omega), show j - n * 3 = 2 by omega]; rfl
    · rw [List.getElem?_eq_none (by simp; omega), List.getElem?_eq_none (by rw [recVals_len]; omega)]
/-- The list of n records that begins a block g, which the call has made. -/
structure RcRow (W : World) (lo g n c : Nat) (f : Nat → Int) : Prop where
  own : W.ownsRow lo 40 3 (.slice (some ⟨g, 0, none⟩) n c) n (recVals (n * 3) f)
  small : n ≤ 1048576
section
variable {R : Nat → Nat → Prop} {W W' : World} {lo g n c : Nat} {f : Nat → Int}
theorem RcRow.parts (h : RcRow W lo g n c f) : lo ≤ g ∧ g < W.heap.size ∧ n ≤ c ∧ ∃ cur, W.heap[g]? = some (.cells cur 40 (0, 0)) ∧ cur.size = c * 3 ∧ ∀ j, j < n * 3 → cur[j]? = some (.int .i64 (f j)) := by
  rcases h.own.2 with ⟨e, _⟩ | ⟨g', cap, cur, hv, hb, hg, h1, h2, h3, h4⟩
  · cases e
  · simp only [Value.slice.injEq, Option.some.injEq, Addr.mk.injEq, and_true, true_and] at hv
    obtain ⟨rfl, rfl⟩ := hv
    refine ⟨hb, boxLt hg, h1, cur, hg, h3, fun j hj => ?_⟩
    have := recVals_get f hj
    rw [← h4, List.getElem?_take, if_pos hj, Array.getElem?_toList] at this
    exact this
theorem RcRow.on (h : RcRow W lo g n c f) {D : Nat → Prop} (hd : D g) : RsOn W D (.slice (some ⟨g, 0, none⟩) n c) n f := by
  obtain ⟨h1, h2, h3, cur, h4, h5, h6⟩ := h.parts
  refine ⟨_, _, rfl, ⟨h.small, h3⟩, fun j hj => ⟨g, 0, rfl, ?_⟩, fun b o hF => ?_, fun b o hF => ?_⟩
  · rw [Nat.zero_add, boxC h4]
    exact h6 j hj
  · obtain ⟨off, e, _, _⟩ := hF
    simp only [Option.some.injEq, Addr.mk.injEq, and_true] at e
    obtain ⟨rfl, rfl⟩ := e
    exact ⟨h2, boxF h4 o⟩
  · obtain ⟨off, e, _, _⟩ := hF
    simp only [Option.some.injEq, Addr.mk.injEq, and_true] at e
    rw [← e.1]
    exact hd
theorem RcRow.keep (h : RcRow W lo g n c f) (hw : Wrote R W W') (hd : ∀ o, ¬ R g o) : RcRow W' lo g n c f := by
  refine ⟨⟨h.own.1, ?_⟩, h.small⟩
  rcases h.own.2 with ⟨e, _⟩ | ⟨g', cap, cur, hv, hb, hg, r⟩
  · cases e
  · have hv' := hv
    simp only [Value.slice.injEq, Option.some.injEq, Addr.mk.injEq, and_true, true_and] at hv'
    obtain ⟨rfl, rfl⟩ := hv'
    exact Or.inr ⟨g, c, cur, rfl, hb, (hw.block g (boxLt hg) hd).trans hg, r⟩
theorem RcRow.below (h : RcRow W lo g n c f) (L : Below W.heap.size W W') : RcRow W' lo g n c f := h.keep (wrote_below L Nowhere) (fun _ x => x)
theorem RcRow.mono {lo' : Nat} (h : RcRow W lo g n c f) (hl : lo' ≤ lo) : RcRow W lo' g n c f := by
  refine ⟨⟨h.own.1, ?_⟩, h.small⟩
  rcases h.own.2 with ⟨e, _⟩ | ⟨g', cap, cur, hv, hb, r⟩
  · cases e
  · exact Or.inr ⟨g', cap, cur, hv, by omega, r⟩
end
/-- 'append([]Rec{}, xs...)'. -/
theorem wp_copyR (W : World) {o : Oper} {a : Act} {K : Act → World → Prop} {Q : Exit → Act → World → Prop} (s x : Operand) (hop : o.op = Op.call { callee := Callee.builtin Builtin.append, args := #[s, x], argTypes := #[27, 27] })
    (g0 : Nat) (hs : a.eval s = .slice (some ⟨g0, 0, none⟩) 0 0) (h0 : W.heap[g0]? = some (.cells #[] 40 (0, 0))) (lo : Nat) (hlo : lo ≤ g0) (ua : Option Addr) (n ux : Nat) (f : Nat → Int) (hn : n ≤ 1048576) (hx : a.eval x = .slice ua n ux) (hr : RowOf .i64 W ua (n * 3) f)
    (h : ∀ g c W', RcRow W' lo g n c f → Below W.heap.size W W' → (g = g0 ∨ W.heap.size ≤ g) → K (a.put o.dst (.slice (some ⟨g, 0, none⟩) n c)) W') : o.wp Try.prog a W K Q := by
  obtain ⟨i0, hi, hzz⟩ := Option.map_eq_some_iff.1 infoRec
  simp only [Prod.mk.injEq] at hzz
  obtain ⟨hz0, hz1, hz2⟩ := hzz
  by_cases hz : n = 0
  · subst hz
    have hsrc : Src Try.prog i0.size 27 (.slice ua 0 ux) 0 [] W := by
      cases ua with
      | none => exact Src.ofNil W Try.underlying27 ux
      | some ad => exact Src.ofSlice W Try.underlying27 ad 0 ux [] (by simp) (fun j v hh => by simp at hh) (fun v hh => by cases hh)
    have hrun := run_append_nothing (P := Try.prog) W 27 27 o.type 40 i0 Try.underlying27 hi (some ⟨g0, 0, none⟩) 0 0 (Nat.le_refl _) _ hsrc
    unfold Oper.wp
    simp [execOp, hop, resolve, invoke, builtin, hs, hx, hrun, Result.andThen]
    exact h g0 0 W ⟨⟨rfl, Or.inr ⟨g0, 0, #[], rfl, hlo, h0, Nat.le_refl _, by unfold maxLen; omega, rfl, rfl⟩⟩, by omega⟩ (Below.refl _ _) (Or.inl rfl)
  · obtain ⟨rb, ro, rfl, -⟩ := hr 0 (by omega)
    obtain ⟨v', w', hrun, r1, r2⟩ := run_append_arg_grows (P := Try.prog) W 27 o.type 40 i0 (.agg #[.int .i64 0, .int .i64 0, .int .i64 0]) 3 24 Try.underlying27 hi hz0 hz1 hz2 rfl (by decide) ⟨g0, 0, none⟩ 0 0 [] rfl (fun j u hh => by simp at hh) ⟨rb, ro, none⟩ n ux (recVals (n * 3) f) (by rw [recVals_len]) (recVals_cells hr) (by omega) (by unfold maxLen; omega) (by omega)
    have hon : w'.ownsRow W.heap.size 40 3 v' n (recVals (n * 3) f) := by simpa using r1
    obtain ⟨g', cap2, rfl, hg, hlt⟩ := hon.form (by omega)
    have L : Below W.heap.size W w' := (Below.refl _ _).grown r2 (Nat.le_refl _) (fun _ e => by cases e)
    unfold Oper.wp
    simp [execOp, hop, resolve, invoke, builtin, hs, hx, hrun, Result.andThen]
    exact h g' cap2 w' ((RcRow.mk hon hn).mono (by have := boxLt h0; omega)) L (Or.inr hg)
theorem wpList_copyR (W : World) {ops : Array Oper} {rest : List Oper} {o : Oper} {a : Act} {Q : Exit → Act → World → Prop} (hg : o.guard = none) (s x : Operand) (hop : o.op = Op.call { callee := Callee.builtin Builtin.append, args := #[s, x], argTypes := #[27, 27] })
    (g0 : Nat) (hs : a.eval s = .slice (some ⟨g0, 0, none⟩) 0 0) (h0 : W.heap[g0]? = some (.cells #[] 40 (0, 0))) (lo : Nat) (hlo : lo ≤ g0) (ua : Option Addr) (n ux : Nat) (f : Nat → Int) (hn : n ≤ 1048576) (hx : a.eval x = .slice ua n ux) (hr : RowOf .i64 W ua (n * 3) f)
    (h : ∀ g c W', RcRow W' lo g n c f → Below W.heap.size W W' → (g = g0 ∨ W.heap.size ≤ g) → wpList Try.prog ops Q rest (a.put o.dst (.slice (some ⟨g, 0, none⟩) n c)) W') : wpList Try.prog ops Q (o :: rest) a W :=
  wpList_plain hg fun K hK => wp_copyR W s x hop g0 hs h0 lo hlo ua n ux f hn hx hr (fun g c W' r1 r2 r3 => hK _ _ (h g c W' r1 r2 r3))
/-- 'append(xs, x)', of a list of records that the call owns. -/
theorem wp_pushRc (W : World) {o : Oper} {a : Act} {K : Act → World → Prop} {Q : Exit → Act → World → Prop} (s x : Operand) (hop : o.op = Op.call { callee := Callee.builtin Builtin.append, args := #[s, x], argTypes := #[27, 27] })
    (lo g n c : Nat) (f : Nat → Int) (hs : a.eval s = .slice (some ⟨g, 0, none⟩) n c) (R : RcRow W lo g n c f) (hn : n < 1048576) (hlo : lo ≤ W.heap.size) (q : Nat) (t r v : Int) (hx : a.eval x = .slice (some ⟨q, 0, none⟩) 1 1) (hq : W.heap[q]? = some (.cells #[.int .i64 t, .int .i64 r, .int .i64 v] 40 (0, 0)))
    (h : ∀ g' c' W', RcRow W' lo g' (n + 1) c' (put3 f n t r v) → Wrote (fun b _ => b = g) W W' → (g' = g ∨ W.heap.size ≤ g') → K (a.put o.dst (.slice (some ⟨g', 0, none⟩) (n + 1) c')) W') : o.wp Try.prog a W K Q := by
  obtain ⟨i0, hi, hzz⟩ := Option.map_eq_some_iff.1 infoRec
  simp only [Prod.mk.injEq] at hzz
  obtain ⟨hz0, hz1, hz2⟩ := hzz
  have hnews : ∀ j u, [Value.int .i64 t, .int .i64 r, .int .i64 v][j]? = some u → W.cell? ((⟨q, 0, none⟩ : Addr).add j) = some u := fun j u hu => by
    have hc := boxC hq j
    match j, hu with
    | 0, hu => simp at hu; subst hu; exact hc
    | 1, hu => simp at hu; subst hu; exact hc
    | 2, hu => simp at hu; subst hu; exact hc
    | j + 3, hu => simp at hu
  have h1 : ∀ u ∈ [Value.int .i64 t, .int .i64 r, .int .i64 v], u.oneCell' = true := fun u hu => by simp at hu; rcases hu with rfl | rfl | rfl <;> rfl
  by_cases hr : n + 1 ≤ c
  · obtain ⟨p1, p2, p3, cur, p4, p5, p6⟩ := R.parts
    have hsp : ∀ j, j < 3 → (W.cell? ⟨g, n * 3 + j, none⟩).isSome = true := fun j hj => by
      rw [boxC p4, Array.getElem?_eq_getElem (by omega)]
      rfl
    have hrun := run_append_room_cells (P := Try.prog) W 27 o.type 40 i0 Try.underlying27 hi g 0 n c ⟨q, 0, none⟩ 1 1 [.int .i64 t, .int .i64 r, .int .i64 v] (by rw [hz1]; rfl) hnews h1 hr
      (fun j hj => by rw [hz1, Nat.zero_add]; exact hsp j (by simpa using hj)) (fun j hj => by rw [hz1, Nat.zero_add]; exact boxF p4 _)
    rw [hz1, Nat.zero_add] at hrun
    have B1 := boxSetR (o := n * 3 + 2) (boxSetR (o := n * 3 + 1) (boxSetR (o := n * 3) p4 (.int .i64 t)) (.int .i64 r)) (.int .i64 v)
    have hmx : c ≤ maxLen := by
      rcases R.own.2 with ⟨e, _⟩ | ⟨g', cap, cur', hv, hb, hg, k1, k2, k3, k4⟩
      · cases e
      · simp only [Value.slice.injEq, Option.some.injEq, Addr.mk.injEq, and_true, true_and] at hv
        obtain ⟨rfl, rfl⟩ := hv
        exact k2
    have R1 : RcRow (((W.setCell ⟨g, n * 3, none⟩ (.int .i64 t)).setCell ⟨g, n * 3 + 1, none⟩ (.int .i64 r)).setCell ⟨g, n * 3 + 2, none⟩ (.int .i64 v)) lo g (n + 1) c (put3 f n t r v) := by
      refine ⟨⟨by rw [recVals_len], Or.inr ⟨g, c, _, rfl, p1, B1, hr, hmx, by simpa using p5, ?_⟩⟩, by omega⟩
      apply List.ext_getElem?
      intro j
      by_cases hj : j < (n + 1) * 3
      · rw [recVals_get _ hj, List.getElem?_take, if_pos hj, Array.getElem?_toList, Array.getElem?_setIfInBounds, Array.getElem?_setIfInBounds, Array.getElem?_setIfInBounds]
        simp only [Array.size_setIfInBounds]
        unfold put3
        by_cases e2 : j = n * 3 + 2
        · rw [if_pos e2.symm, if_pos (by omega), if_neg (by omega), if_neg (by omega), if_pos e2]
        · rw [if_neg (fun e => e2 e.symm)]
          by_cases e1 : j = n * 3 + 1
          · rw [if_pos e1.symm, if_pos (by omega), if_neg (by omega), if_pos e1]
          · rw [if_neg (fun e => e1 e.symm)]
            by_cases e0 : j = n * 3
            · rw [if_pos e0.symm, if_pos (by omega), if_pos e0]
            · rw [if_neg (fun e => e0 e.symm), if_neg e0, if_neg e1, if_neg e2]
              exact p6 j (by omega)
      · rw [List.getElem?_take, if_neg hj, List.getElem?_eq_none (by rw [recVals_len]; omega)]
    unfold Oper.wp
    simp [execOp, hop, resolve, invoke, builtin, hs, hx, hrun, Result.andThen, World.setCells]
    exact h g c _ R1 (Wrote.setCell (Wrote.setCell (Wrote.setCell (Wrote.refl (fun b _ => b = g) W) (fun _ => rfl) _) (fun _ => rfl) _) (fun _ => rfl) _) (Or.inl rfl)
  · obtain ⟨v', w', hrun, r1, r2⟩ := run_append_arg_grows (P := Try.prog) W 27 o.type 40 i0 (.agg #[.int .i64 0, .int .i64 0, .int .i64 0]) 3 24 Try.underlying27 hi hz0 hz1 hz2 rfl (by decide) ⟨g, 0, none⟩ n c (recVals (n * 3) f) (by rw [recVals_len]) (recVals_cells (by obtain ⟨a', c', e, -, hrow, -, -⟩ := R.on (D := fun _ => True) trivial; simp only [Value.slice.injEq, true_and] at e; rw [e.1]; exact hrow)) ⟨q, 0, none⟩ 1 1 [.int .i64 t, .int .i64 r, .int .i64 v] rfl hnews (by omega) (by unfold maxLen; omega) (by omega)
    rw [recVals_put] at r1
    obtain ⟨g', cap2, rfl, hg, hlt⟩ := r1.form (by omega)
    have L : Below W.heap.size W w' := (Below.refl _ _).grown r2 (Nat.le_refl _) (fun _ e => by cases e)
    unfold Oper.wp
    simp [execOp, hop, resolve, invoke, builtin, hs, hx, hrun, Result.andThen]
    exact h g' cap2 w' ((RcRow.mk r1 (by omega)).mono hlo) (wrote_below L _) (Or.inr hg)
theorem wpList_pushRc (W : World) {ops : Array Oper} {rest : List Oper} {o : Oper} {a : Act} {Q : Exit → Act → World → Prop} (hg : o.guard = none) (s x : Operand) (hop : o.op = Op.call { callee := Callee.builtin Builtin.append, args := #[s, x], argTypes := #[27, 27] })
    (lo g n c : Nat) (f : Nat → Int) (hs : a.eval s = .slice (some ⟨g, 0, none⟩) n c) (R : RcRow W lo g n c f) (hn : n < 1048576) (hlo : lo ≤ W.heap.size) (q : Nat) (t r v : Int) (hx : a.eval x = .slice (some ⟨q, 0, none⟩) 1 1) (hq : W.heap[q]? = some (.cells #[.int .i64 t, .int .i64 r, .int .i64 v] 40 (0, 0)))
    (h : ∀ g' c' W', RcRow W' lo g' (n + 1) c' (put3 f n t r v) → Wrote (fun b _ => b = g) W W' → (g' = g ∨ W.heap.size ≤ g') → wpList Try.prog ops Q rest (a.put o.dst (.slice (some ⟨g', 0, none⟩) (n + 1) c')) W') : wpList Try.prog ops Q (o :: rest) a W :=
  wpList_plain hg fun K hK => wp_pushRc W s x hop lo g n c f hs R hn hlo q t r v hx hq (fun g c W' r1 r2 r3 => hK _ _ (h g c W' r1 r2 r3))
set_option maxRecDepth 20000 in
set_option maxHeartbeats 1000000 in
theorem l13Copy (w : World) (D : Nat → Prop) (v : Value) (cap : Int) (n : Nat) (f : Nat → Int) (H : RgOn w D v cap n f) : Calls Try.prog 39 #[v] w fun e w' => ∃ g c, e = .returned (.agg #[.int .i64 cap, .slice (some ⟨g, 0, none⟩) n c]) ∧ RcRow w' w.heap.size g n c f ∧ Below w.heap.size w w' := by
  obtain ⟨u, rfl, a, c, rfl, hn, hr, -, -⟩ := H
  have C0 : Below w.heap.size w ((w.alloc (.cells #[.int .i64 cap, .slice a n c] 29)).alloc (.cells #[.int .i64 0, .slice none 0 0] 29)) := ((Below.refl _ _).alloc (Nat.le_refl _) _).alloc (by simp) _
  have k0 : ((w.alloc (.cells #[.int .i64 cap, .slice a n c] 29)).alloc (.cells #[.int .i64 0, .slice none 0 0] 29)).heap[w.heap.size]? = some (.cells #[.int .i64 cap, .slice a n c] 29 (0, 0)) := boxA (box_new w _ _) _
  have k1 : ((w.alloc (.cells #[.int .i64 cap, .slice a n c] 29)).alloc (.cells #[.int .i64 0, .slice none 0 0] 29)).heap[w.heap.size + 1]? = some (.cells #[.int .i64 0, .slice none 0 0] 29 (0, 0)) := by simpa using box_new (w.alloc (.cells #[.int .i64 cap, .slice a n c] 29)) #[.int .i64 0, .slice none 0 0] 29
  go_enter Try.func39, Try.ntmps39
  go_upto_region 1 with (fail)
  generalize (w.alloc (.cells #[.int .i64 cap, .slice a n c] 29)).alloc (.cells #[.int .i64 0, .slice none 0 0] 29) = W0 at *
  have hr0 := hr.keep (wrote_below C0 Nowhere) (fun _ _ _ x => x)
  have hb1 := boxLt k1
  obtain ⟨S, hS⟩ : ∃ S, Hid (S = W0.heap.size) := ⟨_, rfl⟩
  rename_i KK hKK
  refine wp_region_effI [some 3, some 4, some 5, some 6, some 7, some 8, some 9, none] (by kernel_rfl) (by kernel_rfl) (by kernel_rfl) (by kernel_rfl) (by simp [slotsOf])
    (fun j b _ => j = 7 ∧ b = w.heap.size + 1)
    (fun i V lo hi W => match i with
      | 0 => V 0 = .pointer (some ⟨w.heap.size, 0, none⟩)
      | 1 => V 1 = .int .i64 cap
      | 2 => ∃ gE, V 2 = .slice (some ⟨gE, 0, none⟩) 0 0 ∧ W.heap[gE]? = some (.cells #[] 40 (0, 0)) ∧ S ≤ gE
      | 3 => V 3 = .pointer (some ⟨w.heap.size, 1, none⟩)
      | 4 => V 4 = .slice a n c
      | 5 => ∃ g c', V 5 = .slice (some ⟨g, 0, none⟩) n c' ∧ RcRow W S g n c' f
      | 6 => ∃ g c', V 5 = .slice (some ⟨g, 0, none⟩) n c' ∧ V 6 = .agg #[.int .i64 cap, .slice (some ⟨g, 0, none⟩) n c']
      | _ => ∃ g c', V 5 = .slice (some ⟨g, 0, none⟩) n c' ∧ W.heap[w.heap.size + 1]? = some (.cells #[.int .i64 cap, .slice (some ⟨g, 0, none⟩) n c'] 29 (0, 0))) ?_ ?_ ?_
  · intro i j o V x lo hi W W' hij ho hnw hlo hhi hW h
    have hS' := hS.out
    have far : ∀ (g k : Nat), S ≤ g → ¬ (j = 7 ∧ g = w.heap.size + 1) := fun g k hg hR => by omega
    have nw : ∀ k, waitsB o k = true → k ≠ j := fun k hk e => by rw [e, hnw] at hk; cases hk
    match i, ho, hij, nw, h with
    | 0, _, hij, _, h => exact (updV_ne V x hij).trans h
    | 1, _, hij, _, h => exact (updV_ne V x hij).trans h
    | 3, _, hij, _, h => exact (updV_ne V x hij).trans h
    | 4, _, hij, _, h => exact (updV_ne V x hij).trans h
    | 2, _, hij, _, ⟨gE, h1, h2, h3⟩ => exact ⟨gE, (updV_ne V x hij).trans h1, boxWroteR h2 hW (fun o => far gE o h3), h3⟩
    | 5, _, hij, _, ⟨g, c', h1, h2⟩ => exact ⟨g, c', (updV_ne V x hij).trans h1, h2.keep hW (fun o => far g o h2.parts.1)⟩
    | 6, ho, hij, nw, ⟨g, c', h1, h2⟩ =>
      simp only [List.getElem?_toArray, List.getElem?_cons_zero, List.getElem?_cons_succ, Option.some.injEq] at ho
      subst ho
      exact ⟨g, c', (updV_ne V x (nw 5 (by kernel_rfl))).trans h1, (updV_ne V x hij).trans h2⟩
    | 7, ho, hij, nw, ⟨g, c', h1, h2⟩ =>
      simp only [List.getElem?_toArray, List.getElem?_cons_zero, List.getElem?_cons_succ, Option.some.injEq] at ho
      subst ho
      exact ⟨g, c', (updV_ne V x (nw 5 (by kernel_rfl))).trans h1, boxWroteR h2 hW (fun o ⟨e, _⟩ => hij e.symm)⟩
    | n + 8, ho, _, _, _ => simp at ho
  · intro i o a' W K ho F L hw hK
    have hS' := hS.out
    have t1 := F.get (t := 1) (v := .pointer (some ⟨w.heap.size, 0, none⟩)) (by decide) rfl
    have t2 := F.get (t := 2) (v := .pointer (some ⟨w.heap.size + 1, 0, none⟩)) (by decide) rfl
    have WS : S ≤ W.heap.size := by have := L.size; omega
    have rb := boxC (boxWroteR k0 L (fun o ⟨j, _, _, _, _, _, e⟩ => by omega))
    match i with
    | 0 =>
      simp only [List.getElem?_toArray, List.getElem?_cons_zero, List.getElem?_cons_succ, Option.some.injEq] at ho
      subst ho
      go_simp
      exact hK _ _ (Wrote.refl _ _) (updV_same _ _ _)
    | 1 =>
      simp only [List.getElem?_toArray, List.getElem?_cons_zero, List.getElem?_cons_succ, Option.some.injEq] at ho
      subst ho
      have q0 : a'.tmps[3]?.getD undef = .pointer (some ⟨w.heap.size, 0, none⟩) := by obtain ⟨_, _, _, _, q⟩ := hw 0 (by kernel_rfl); exact q
      go_simp
      exact hK _ _ (Wrote.refl _ _) (updV_same _ _ _)
    | 2 =>
      simp only [List.getElem?_toArray, List.getElem?_cons_zero, List.getElem?_cons_succ, Option.some.injEq] at ho
      subst ho
      go_simp
      exact hK _ _ ((Wrote.refl _ W).alloc _) ⟨_, updV_same _ _ _, box_new W #[] 40, WS⟩
    | 3 =>
      simp only [List.getElem?_toArray, List.getElem?_cons_zero, List.getElem?_cons_succ, Option.some.injEq] at ho
      subst ho
      go_simp
      exact hK _ _ (Wrote.refl _ _) (updV_same _ _ _)
    | 4 =>
      simp only [List.getElem?_toArray, List.getElem?_cons_zero, List.getElem?_cons_succ, Option.some.injEq] at ho
      subst ho
      have q3 : a'.tmps[6]?.getD undef = .pointer (some ⟨w.heap.size, 1, none⟩) := by obtain ⟨_, _, _, _, q⟩ := hw 3 (by kernel_rfl); exact q
      go_simp
      exact hK _ _ (Wrote.refl _ _) (updV_same _ _ _)
    | 5 =>
      simp only [List.getElem?_toArray, List.getElem?_cons_zero, List.getElem?_cons_succ, Option.some.injEq] at ho
      subst ho
      obtain ⟨_, _, _, _, gE, q0, q1, q2⟩ := hw 2 (by kernel_rfl)
      replace q0 : a'.tmps[5]?.getD undef = .slice (some ⟨gE, 0, none⟩) 0 0 := q0
      have q4 : a'.tmps[7]?.getD undef = .slice a n c := by obtain ⟨_, _, _, _, q⟩ := hw 4 (by kernel_rfl); exact q
      refine wp_copyR W (.tmp 5) (.tmp 7) rfl gE (by simpa [Act.eval] using q0) q1 S q2 a n c f hn.1 (by simpa [Act.eval] using q4) (hr0.keep L (fun b o hF ⟨j, _, _, _, _, _, e⟩ => by have := hr.lt hF; omega)) ?_
      intro g c' W' hR hB hat
      exact hK _ _ (wrote_below hB _) ⟨g, c', updV_same _ _ _, hR⟩
    | 6 =>
      simp only [List.getElem?_toArray, List.getElem?_cons_zero, List.getElem?_cons_succ, Option.some.injEq] at ho
      subst ho
      have q1 : a'.tmps[4]?.getD undef = .int .i64 cap := by obtain ⟨_, _, _, _, q⟩ := hw 1 (by kernel_rfl); exact q
      obtain ⟨_, _, _, _, g, c', v5, _⟩ := hw 5 (by kernel_rfl)
      have q5 : a'.tmps[8]?.getD undef = .slice (some ⟨g, 0, none⟩) n c' := v5
      go_simp
      exact hK _ _ (Wrote.refl _ _) ⟨g, c', (updV_ne _ _ (by decide)).trans v5, updV_same _ _ _⟩
    | 7 =>
      simp only [List.getElem?_toArray, List.getElem?_cons_zero, List.getElem?_cons_succ, Option.some.injEq] at ho
      subst ho
      obtain ⟨_, _, _, _, g, c', v5, v6⟩ := hw 6 (by kernel_rfl)
      have q6 : a'.tmps[9]?.getD undef = .agg #[.int .i64 cap, .slice (some ⟨g, 0, none⟩) n c'] := v6
      have rB := boxWroteR k1 L (fun o ⟨j, _, hj, _, _, e, _⟩ => hj e)
      have c1 := boxC rB
      have f1 := boxF rB
      have HB := boxSetR (o := 1) (boxSetR (o := 0) rB (.int .i64 cap)) (.slice (some ⟨g, 0, none⟩) n c')
      simp only [List.setIfInBounds_toArray, List.set_cons_succ, List.set_cons_zero] at HB
      have HBB := hide HB
      clear HB rB k0 k1
      go_simp
      exact hK undef _ (Wrote.setCell (Wrote.setCell (Wrote.refl _ W) (fun _ => ⟨rfl, rfl⟩) _) (fun _ => ⟨rfl, rfl⟩) _) ⟨g, c', (updV_ne _ _ (by decide)).trans v5, HBB.out⟩
    | n + 8 => simp at ho
  · intro a' W F L lo hi hφ hdj
    have hS' := hS.out
    obtain ⟨-, -, -, g, c', v5, R5⟩ := hφ 5 (by decide)
    obtain ⟨-, -, -, g2, c2, v7, B7⟩ := hφ 7 (by decide)
    rw [v5] at v7
    simp only [Value.slice.injEq, Option.some.injEq, Addr.mk.injEq, and_true, true_and] at v7
    obtain ⟨rfl, rfl⟩ := v7
    have LW : Below w.heap.size w W := C0.trans (L.below C0.size (fun b o hb ⟨j, _, e⟩ => by omega))
    have HR := hide (R5.mono (show w.heap.size ≤ S by omega))
    rw [F.same, show slotsOf [some 3, some 4, some 5, some 6, some 7, some 8, some 9, none] = [3, 4, 5, 6, 7, 8, 9] from rfl]
    simp only [List.foldl_cons, List.foldl_nil]
    clear hφ hdj v5 F L k0 k1 hr hr0 C0 R5
    generalize a'.tmps[3]?.getD undef = s3
    generalize a'.tmps[4]?.getD undef = s4
    generalize a'.tmps[5]?.getD undef = s5
    generalize a'.tmps[6]?.getD undef = s6
    generalize a'.tmps[7]?.getD undef = s7
    generalize a'.tmps[8]?.getD undef = s8
    generalize a'.tmps[9]?.getD undef = s9
    refine hKK _ _ ?_
    clear hKK
    go_simp
    have cx := boxC B7
    go_wp2
    refine bodyPost_ret (v := .agg #[.int .i64 cap, .slice (some ⟨g, 0, none⟩) n c']) (by simp [results, Try.results39, go_sem, cx]) rfl ?_
    exact ⟨g, c', rfl, HR.out, LW⟩
end Go.Proofs.Ytpaedkefmebjjas
