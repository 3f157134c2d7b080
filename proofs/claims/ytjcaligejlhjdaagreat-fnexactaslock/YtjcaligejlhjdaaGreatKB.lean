/-
  Lists of lists that a call owns: 'append(xss, xs)'; lists of lists that grow one by one.
-/
import Derived.Test.YtjcaligejlhjdaaGreatPD
import Derived.Deep.AppendLies
namespace Go.Proofs.YtjcaligejlhjdaaGreat
set_option linter.unusedVariables false
set_option linter.unusedSimpArgs false
open Go.ChangeShapes Go.WideShapes Go.ChangeAt Go.RowKit
theorem own_more {W : World} {lo g n c : Nat} {e : TypeId} {vs : List Value} (h : W.ownsRow lo e 1 (.slice (some ⟨g, 0, none⟩) n c) n vs) (hc : n + 1 ≤ c) (y : Value) : (W.setCell ⟨g, n, none⟩ y).ownsRow lo e 1 (.slice (some ⟨g, 0, none⟩) (n + 1) c) (n + 1) (vs ++ [y]) := by
  have hl : vs.length = n := by have := h.1; omega
  refine ⟨by simp; omega, ?_⟩
  rcases h.2 with ⟨e, _⟩ | ⟨g', cap, cur, hv, hb, hg, h1, h2, h3, h4⟩
  · cases e
  · have hv' := hv
    simp only [Value.slice.injEq, Option.some.injEq, Addr.mk.injEq, and_true, true_and] at hv'
    obtain ⟨rfl, rfl⟩ := hv'
    refine Or.inr ⟨g, c, cur.setIfInBounds n y, rfl, hb, box_set hg _, hc, h2, by simpa using h3, ?_⟩
    rw [Nat.mul_one] at h3 h4 ⊢
    rw [← h4]
    apply List.ext_getElem?
    intro k
    rw [List.getElem?_take, List.getElem?_append, List.getElem?_take, List.length_take, Array.length_toList, Array.getElem?_toList, Array.getElem?_setIfInBounds]
    by_cases hk : k < n
    · rw [if_pos (by omega), if_neg (by omega), if_pos (by omega), if_pos hk, Array.getElem?_toList]
    · by_cases e : k = n
      · subst e
        rw [if_pos (by omega), if_pos rfl, if_pos (by omega), if_neg (by omega)]
        rw [show k - min k cur.size = 0 by omega]
        rfl
      · rw [if_neg (by omega), if_neg (by omega), List.getElem?_eq_none (by simp; omega)]
theorem own_cells {W : World} {lo g n c : Nat} {e : TypeId} {vs : List Value} (h : W.ownsRow lo e 1 (.slice (some ⟨g, 0, none⟩) n c) n vs) : ∀ j u, vs[j]? = some u → W.cell? ((⟨g, 0, none⟩ : Addr).add j) = some u := fun j u hu => by
  have hl : vs.length = n := by have := h.1; omega
  rcases h.2 with ⟨e, _⟩ | ⟨g', cap, cur, hv, hb, hg, h1, h2, h3, h4⟩
  · cases e
  · simp only [Value.slice.injEq, Option.some.injEq, Addr.mk.injEq, and_true, true_and] at hv
    obtain ⟨rfl, rfl⟩ := hv
    rw [add_at, Nat.zero_add, boxC hg]
    rw [Nat.mul_one] at h4
    rw [← h4, List.getElem?_take] at hu
    by_cases hj : j < n
    · rw [if_pos hj, Array.getElem?_toList] at hu
      exact hu
    · rw [if_neg hj] at hu
      cases hu
theorem own_lo {W : World} {lo lo' n : Nat} {e : TypeId} {v : Value} {vs : List Value} (h : W.ownsRow lo' e 1 v n vs) (hl : lo ≤ lo') : W.ownsRow lo e 1 v n vs := by
  refine ⟨h.1, ?_⟩
  rcases h.2 with x | ⟨g', cap, cur, hv, hb, r⟩
  · exact Or.inl x
  · exact Or.inr ⟨g', cap, cur, hv, by omega, r⟩
theorem own_blockS {W W' : World} {lo n : Nat} {e : TypeId} {v : Value} {vs : List Value} (h : W.ownsRow lo e 1 v n vs) (hb : ∀ g, v.ownBlock = some g → W'.heap[g]? = W.heap[g]?) : W'.ownsRow lo e 1 v n vs := by
  refine ⟨h.1, ?_⟩
  rcases h.2 with x | ⟨g', cap, cur, hv, hb', hg, r⟩
  · exact Or.inl x
  · exact Or.inr ⟨g', cap, cur, hv, hb', (hb g' (by rw [hv]; rfl)).trans hg, r⟩
theorem own_at {W : World} {lo n : Nat} {e : TypeId} {v : Value} {vs : List Value} (h : W.ownsRow lo e 1 v n vs) {g : Nat} (hg : v.ownBlock = some g) : lo ≤ g ∧ g < W.heap.size := by
  rcases h.2 with ⟨x, _⟩ | ⟨g', cap, cur, hv, hb', hg', r⟩
  · rw [x] at hg; cases hg
  · rw [hv] at hg
    obtain rfl : g' = g := by simpa [Value.ownBlock] using hg
    exact ⟨hb', boxLt hg'⟩
/-- 'append(xss, xs)', of a list of lists that the call owns, or of none. -/
theorem wp_pushS (W : World) {o : Oper} {a : Act} {K : Act → World → Prop} {Q : Exit → Act → World → Prop} (s x : Operand) (hop : o.op = Op.call { callee := Callee.builtin Builtin.append, args := #[s, x], argTypes := #[22, 22] })
    (lo : Nat) (ov : Value) (n : Nat) (vs : List Value) (hs : a.eval s = ov) (own : W.ownsRow lo 25 1 ov n vs) (hn : n < 1048576) (hlo : lo ≤ W.heap.size) (q : Nat) (y : Value) (hy : y.oneCell' = true) (hx : a.eval x = .slice (some ⟨q, 0, none⟩) 1 1) (hq : W.cell? ⟨q, 0, none⟩ = some y)
    (h : ∀ g' c' W', W'.ownsRow lo 25 1 (.slice (some ⟨g', 0, none⟩) (n + 1) c') (n + 1) (vs ++ [y]) → Wrote (fun b _ => ov.ownBlock = some b) W W' → (ov.ownBlock = some g' ∨ W.heap.size ≤ g') → K (a.put o.dst (.slice (some ⟨g', 0, none⟩) (n + 1) c')) W') : o.wp Tryz.prog a W K Q := by
  obtain ⟨i0, hi, hz0, hz1, hz2⟩ := info_parts infoInts
  have hl : vs.length = n := by have := own.1; omega
  have hnews : ∀ j u, [y][j]? = some u → W.cell? ((⟨q, 0, none⟩ : Addr).add j) = some u := fun j u hh => by
    cases j with
    | zero => simp at hh; rw [← hh]; exact hq
    | succ j => simp at hh
  have h1 : ∀ u ∈ [y], u.oneCell' = true := fun u hu => by simp at hu; rw [hu]; exact hy
  rcases id own.2 with ⟨e, e0⟩ | ⟨g, c, cur, hv, hb, hg, k1, k2, k3, k4⟩
  · obtain ⟨g', c', W', hrun, r1, r2, r3, r4⟩ := run_append_lies (P := Tryz.prog) (w := W) 22 o.type lo 25 i0 (.slice none 0 0) 1 24 Tryz.underlying22 hi hz0 hz1 hz2 rfl (by decide) ov n vs own ⟨q, 0, none⟩ 1 1 [y] rfl hnews h1 (by omega) (by unfold maxLen; omega) (by omega) hlo W.heap.size rfl
    have hb : ov.ownBlock = none := by rw [e]; rfl
    rw [hb] at r2 r3
    have L : Below W.heap.size W W' := (Below.refl _ _).grown r2 (Nat.le_refl _) (fun _ e => by cases e)
    unfold Oper.wp
    simp [execOp, hop, resolve, invoke, builtin, hs, hx, hrun, Result.andThen]
    exact h g' c' W' r1 (wrote_below L _) (Or.inr (by rcases r3 with r3 | r3; cases r3; omega))
  · subst hv
    have hob : (Value.slice (some ⟨g, 0, none⟩) n c).ownBlock = some g := rfl
    have hgl := boxLt hg
    by_cases hr : n + 1 ≤ c
    · have hsp : (W.cell? ⟨g, n, none⟩).isSome = true ∧ W.frozen? ⟨g, n, none⟩ = false := by
        refine ⟨?_, boxF hg n⟩
        rw [boxC hg n, Array.getElem?_eq_getElem (by omega)]
        rfl
      have hrun := run_append_room_cells (P := Tryz.prog) W 22 o.type 25 i0 Tryz.underlying22 hi g 0 n c ⟨q, 0, none⟩ 1 1 [y] (by rw [hz1]; rfl) hnews h1 hr
        (fun j hj => by have : j = 0 := (by simpa using hj); subst this; rw [hz1]; simpa using hsp.1) (fun j hj => by have : j = 0 := (by simpa using hj); subst this; rw [hz1]; simpa using hsp.2)
      rw [hz1] at hrun
      unfold Oper.wp
      simp [execOp, hop, resolve, invoke, builtin, hs, hx, hrun, Result.andThen, World.setCells]
      exact h g c _ (own_more own hr y) (Wrote.setCell (R := fun b _ => (Value.slice (some ⟨g, 0, none⟩) n c).ownBlock = some b) (Wrote.refl _ W) (fun _ => hob) _) (Or.inl hob)
    · obtain ⟨v', w', hrun, r1, r2⟩ := run_append_arg_grows (P := Tryz.prog) W 22 o.type 25 i0 (.slice none 0 0) 1 24 Tryz.underlying22 hi hz0 hz1 hz2 rfl (by decide) ⟨g, 0, none⟩ n c vs (by rw [hl, Nat.mul_one]) (own_cells own) ⟨q, 0, none⟩ 1 1 [y] rfl hnews (by omega) (by unfold maxLen; omega) (by omega)
      obtain ⟨g', cap2, rfl, hg', hlt⟩ := r1.form (by omega)
      have L : Below W.heap.size W w' := (Below.refl _ _).grown r2 (Nat.le_refl _) (fun _ e => by cases e)
      unfold Oper.wp
      simp [execOp, hop, resolve, invoke, builtin, hs, hx, hrun, Result.andThen]
      exact h g' cap2 w' (own_lo r1 hlo) (wrote_below L _) (Or.inr hg')
theorem wpList_pushS (W : World) {ops : Array Oper} {rest : List Oper} {o : Oper} {a : Act} {Q : Exit → Act → World → Prop} (hg : o.guard = none) (s x : Operand) (hop : o.op = Op.call { callee := Callee.builtin Builtin.append, args := #[s, x], argTypes := #[22, 22] })
    (lo : Nat) (ov : Value) (n : Nat) (vs : List Value) (hs : a.eval s = ov) (own : W.ownsRow lo 25 1 ov n vs) (hn : n < 1048576) (hlo : lo ≤ W.heap.size) (q : Nat) (y : Value) (hy : y.oneCell' = true) (hx : a.eval x = .slice (some ⟨q, 0, none⟩) 1 1) (hq : W.cell? ⟨q, 0, none⟩ = some y)
    (h : ∀ g' c' W', W'.ownsRow lo 25 1 (.slice (some ⟨g', 0, none⟩) (n + 1) c') (n + 1) (vs ++ [y]) → Wrote (fun b _ => ov.ownBlock = some b) W W' → (ov.ownBlock = some g' ∨ W.heap.size ≤ g') → wpList Tryz.prog ops Q rest (a.put o.dst (.slice (some ⟨g', 0, none⟩) (n + 1) c')) W') : wpList Tryz.prog ops Q (o :: rest) a W :=
  wpList_plain hg fun K hK => wp_pushS W s x hop lo ov n vs hs own hn hlo q y hy hx hq (fun g c W' r1 r2 r3 => hK _ _ (h g c W' r1 r2 r3))
def outS (q : Nat) (gb : Nat → Nat) (ln cp : Nat → Nat) : List Value := (List.range q).map (fun i => .slice (some ⟨gb i, 0, none⟩) (ln i) (cp i))
theorem outS_snoc (q g c : Nat) (gb ln cp : Nat → Nat) : outS q gb ln cp ++ [.slice (some ⟨g, 0, none⟩) (ln q) c] = outS (q + 1) (fun i => if i = q then g else gb i) ln (fun i => if i = q then c else cp i) := by
  unfold outS
  rw [List.range_succ, List.map_append]
  congr 1
  · apply List.map_congr_left
    intro i hi
    have := List.mem_range.1 hi
    show _ = Value.slice (some ⟨if i = q then g else gb i, 0, none⟩) (ln i) (if i = q then c else cp i)
    rw [if_neg (by omega), if_neg (by omega)]
  · simp
/-- A list of lists that grows one by one, in new memory. -/
structure SG (W : World) (lo : Nat) (ov : Value) (q : Nat) (gb cp ln : Nat → Nat) (f : Nat → Nat → Int) : Prop where
  own : W.ownsRow lo 25 1 ov q (outS q gb ln cp)
  rows : ∀ i, i < q → Row W lo (gb i) (ln i) (cp i) (f i)
  inj : ∀ i j, i < q → j < q → i ≠ j → gb i ≠ gb j
  dj : ∀ g, ov.ownBlock = some g → ∀ i, i < q → gb i ≠ g
  small : q ≤ 1048576
section
variable {W W' : World} {lo q : Nat} {ov : Value} {gb cp ln : Nat → Nat} {f : Nat → Nat → Int} {R : Nat → Nat → Prop}
theorem SG.nil (W : World) (lo : Nat) (gb cp ln : Nat → Nat) (f : Nat → Nat → Int) : SG W lo (.slice none 0 0) 0 gb cp ln f :=
  ⟨⟨rfl, Or.inl ⟨rfl, rfl⟩⟩, fun i hi => absurd hi (Nat.not_lt_zero _), fun i j hi => absurd hi (Nat.not_lt_zero _), fun g h => (by cases h), by omega⟩
theorem SG.start {W : World} {lo g : Nat} (h : W.heap[g]? = some (.cells #[] 25 (0, 0))) (hl : lo ≤ g) (gb cp ln : Nat → Nat) (f : Nat → Nat → Int) : SG W lo (.slice (some ⟨g, 0, none⟩) 0 0) 0 gb cp ln f :=
  ⟨⟨rfl, Or.inr ⟨g, 0, #[], rfl, hl, h, Nat.le_refl _, by simp, rfl, rfl⟩⟩, fun i hi => absurd hi (Nat.not_lt_zero _), fun i j hi => absurd hi (Nat.not_lt_zero _), fun g h i hi => absurd hi (Nat.not_lt_zero _), by omega⟩
theorem SG.keep (H : SG W lo ov q gb cp ln f) (hw : Wrote R W W') (h1 : ∀ g o, ov.ownBlock = some g → ¬ R g o) (h2 : ∀ i o, i < q → ¬ R (gb i) o) : SG W' lo ov q gb cp ln f :=
  ⟨own_blockS H.own (fun g hg => hw.block g (own_at H.own hg).2 (fun o => h1 g o hg)), fun i hi => (H.rows i hi).keep hw (fun o => h2 i o hi), H.inj, H.dj, H.small⟩
theorem SG.below (H : SG W lo ov q gb cp ln f) (L : Below W.heap.size W W') : SG W' lo ov q gb cp ln f := H.keep (wrote_below L Nowhere) (fun _ _ _ x => x) (fun _ _ _ x => x)
/-- One more list. -/
theorem SG.push {g' c' gN cN : Nat} (H : SG W lo ov q gb cp ln f) (hw : Wrote (fun b _ => ov.ownBlock = some b) W W') (own' : W'.ownsRow lo 25 1 (.slice (some ⟨g', 0, none⟩) (q + 1) c') (q + 1) (outS q gb ln cp ++ [.slice (some ⟨gN, 0, none⟩) (ln q) cN])) (hat : ov.ownBlock = some g' ∨ W.heap.size ≤ g')
    (RN : Row W lo gN (ln q) cN (f q)) (hN1 : ov.ownBlock ≠ some gN) (hN2 : ∀ i, i < q → gb i ≠ gN) (hq : q < 1048576) : SG W' lo (.slice (some ⟨g', 0, none⟩) (q + 1) c') (q + 1) (fun i => if i = q then gN else gb i) (fun i => if i = q then cN else cp i) ln f := by
  rw [outS_snoc] at own'
  refine ⟨own', fun i hi => ?_, fun i j hi hj hij => ?_, fun g hg i hi => ?_, by omega⟩
  · by_cases e : i = q
    · subst e
      simp only [if_true]
      exact RN.keep hw (fun o h => hN1 h)
    · simp only [if_neg e]
      exact (H.rows i (by omega)).keep hw (fun o h => H.dj _ h i (by omega) rfl)
  · by_cases e : i = q
    · rw [if_pos e, if_neg (by omega)]
      exact fun x => hN2 j (by omega) x.symm
    · by_cases e' : j = q
      · rw [if_neg e, if_pos e']
        exact hN2 i (by omega)
      · rw [if_neg e, if_neg e']
        exact H.inj i j (by omega) (by omega) hij
  · obtain rfl : g' = g := by simpa [Value.ownBlock] using hg
    by_cases e : i = q
    · rw [if_pos e]
      rcases hat with h | h
      · exact fun x => hN1 (x ▸ h)
      · have := RN.parts.2.1
        omega
    · rw [if_neg e]
      rcases hat with h | h
      · exact H.dj _ h i (by omega)
      · have := (H.rows i (by omega)).parts.2.1
        omega
/-- A list of lists that has grown, on blocks of a kind. -/
theorem SG.on (H : SG W lo ov q gb cp ln f) {D : Nat → Prop} (hD : ∀ b, lo ≤ b → b < W.heap.size → D b) (hs : psum ln q ≤ 1099511627776) : SsOn W D ov q ln f := by
  have key : ∀ i, i < q → ∀ b o, Foot (some ⟨gb i, 0, none⟩) (ln i) b o → b = gb i := fun i hi b o ⟨off, e, _, _⟩ => by
    simp only [Option.some.injEq, Addr.mk.injEq] at e
    exact e.1.symm
  rcases id H.own.2 with ⟨e, e0⟩ | ⟨g, c, cur, hv, hb, hg, k1, k2, k3, k4⟩
  · have hq : q = 0 := by simpa using e0
    subst hq
    subst e
    refine ⟨fun _ => none, fun _ => 0, ⟨⟨none, 0, rfl, by omega, fun i hi => absurd hi (Nat.not_lt_zero _)⟩, fun i hi => absurd hi (Nat.not_lt_zero _), fun i j hi => absurd hi (Nat.not_lt_zero _), hs⟩, fun i hi => absurd hi (Nat.not_lt_zero _), fun i hi => absurd hi (Nat.not_lt_zero _), fun a cap e b o hF => absurd hF (foot_none _ _ _), fun i hi => absurd hi (Nat.not_lt_zero _)⟩
  · subst hv
    have hob : (Value.slice (some ⟨g, 0, none⟩) q c).ownBlock = some g := rfl
    have hcell : ∀ i, i < q → W.cell? ⟨g, i, none⟩ = some (.slice (some ⟨gb i, 0, none⟩) (ln i) (cp i)) := fun i hi => by
      have := own_cells H.own i (.slice (some ⟨gb i, 0, none⟩) (ln i) (cp i)) (by unfold outS; simp [hi])
      rwa [add_at, Nat.zero_add] at this
    refine ⟨fun i => some ⟨gb i, 0, none⟩, cp, ⟨⟨_, _, rfl, H.small, fun i hi => ⟨g, 0, rfl, by rw [Nat.zero_add]; exact hcell i hi, fun j hj hF => H.dj g hob j hj (key j hj _ _ hF).symm⟩⟩, fun i hi => (H.rows i hi).sl.free, fun i j hi hj hij b o h1 h2 => H.inj i j hi hj hij ((key i hi _ _ h1).symm.trans (key j hj _ _ h2)), hs⟩, fun i hi => (H.rows i hi).sl.row, fun i hi b o hF => ?_, fun a cap e b o hF => ?_, fun i hi => (H.rows i hi).small⟩
    · rw [key i hi b o hF]
      exact hD _ (H.rows i hi).parts.1 (H.rows i hi).parts.2.1
    · simp only [Value.slice.injEq, true_and] at e
      obtain ⟨rfl, -⟩ := e
      obtain ⟨off, e, _, _⟩ := hF
      simp only [Option.some.injEq, Addr.mk.injEq] at e
      rw [← e.1]
      exact hD _ hb (boxLt hg)
end
end Go.Proofs.YtjcaligejlhjdaaGreat
