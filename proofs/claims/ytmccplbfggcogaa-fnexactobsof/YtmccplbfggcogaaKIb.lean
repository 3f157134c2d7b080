/-
  Lists of lists that the program copies: slices.Clone of a list of lists, and of each list in it.
-/
import Derived.Test.YtmccplbfggcogaaKC
import Derived.Test.YtmccplbfggcogaaI8c
namespace Go.Proofs.Ytmccplbfggcogaa
set_option linter.unusedVariables false
set_option linter.unusedSimpArgs false
open Go.ChangeShapes Go.WideShapes Go.ChangeAt Go.RowKit
theorem own_put {W : World} {lo g n c : Nat} {e : TypeId} {vs : List Value} (h : W.ownsRow lo e 1 (.slice (some ⟨g, 0, none⟩) n c) n vs) (q : Nat) (y : Value) : (W.setCell ⟨g, q, none⟩ y).ownsRow lo e 1 (.slice (some ⟨g, 0, none⟩) n c) n (vs.set q y) := by
  refine ⟨by rw [List.length_set]; exact h.1, ?_⟩
  rcases h.2 with ⟨e, _⟩ | ⟨g', cap, cur, hv, hb, hg, h1, h2, h3, h4⟩
  · cases e
  · have hv' := hv
    simp only [Value.slice.injEq, Option.some.injEq, Addr.mk.injEq, and_true, true_and] at hv'
    obtain ⟨rfl, rfl⟩ := hv'
    refine Or.inr ⟨g, c, cur.setIfInBounds q y, rfl, hb, box_set hg _, h1, h2, by simpa using h3, ?_⟩
    rw [Nat.mul_one] at h4 ⊢
    rw [Array.toList_setIfInBounds, List.take_set, h4]
def valsOf (m : Nat) (ov : Nat → Value) : List Value := (List.range m).map ov
theorem valsOf_len (m : Nat) (ov : Nat → Value) : (valsOf m ov).length = m := by unfold valsOf; simp
theorem valsOf_get {m i : Nat} (ov : Nat → Value) (hi : i < m) : (valsOf m ov)[i]? = some (ov i) := by unfold valsOf; simp [hi]
theorem valsOf_lt {m i : Nat} {ov : Nat → Value} {u : Value} (h : (valsOf m ov)[i]? = some u) : i < m ∧ u = ov i := by
  rcases Nat.lt_or_ge i m with hi | hi
  · rw [valsOf_get ov hi] at h; exact ⟨hi, (Option.some.inj h).symm⟩
  · rw [List.getElem?_eq_none (by rw [valsOf_len]; exact hi)] at h; cases h
theorem valsOf_congr {m : Nat} {f g : Nat → Value} (h : ∀ i, i < m → f i = g i) : valsOf m f = valsOf m g := List.map_congr_left (fun i hi => h i (List.mem_range.1 hi))
theorem valsOf_set (m q : Nat) (f : Nat → Value) (y : Value) : (valsOf m f).set q y = valsOf m (fun i => if i = q then y else f i) := by
  apply List.ext_getElem?
  intro j
  by_cases hj : j < m
  · rw [valsOf_get _ hj]
    by_cases e : j = q
    · subst e
      rw [if_pos rfl, List.getElem?_set_self (by rw [valsOf_len]; exact hj)]
    · rw [if_neg e, List.getElem?_set_ne (by omega), valsOf_get _ hj]
  · rw [List.getElem?_eq_none (by rw [List.length_set, valsOf_len]; omega), List.getElem?_eq_none (by rw [valsOf_len]; omega)]
/-- The lists of a list of lists, as values. -/
theorem IntSS.vals {w : World} {F : Nat → Nat → Prop} {a : Option Addr} {m cap : Nat} {ln : Nat → Nat} {f : Nat → Nat → Int} (H : IntSS .i64 w F (.slice a m cap) m ln f) : ∃ ov : Nat → Value, (∀ i, i < m → Ints .i64 w F (ov i) (ln i) (f i)) ∧ ∀ i, i < m → ∃ b off, a = some ⟨b, off, none⟩ ∧ w.cell? ⟨b, off + i, none⟩ = some (ov i) := by
  obtain ⟨a', cap', e, hm, hF, hc⟩ := H
  simp only [Value.slice.injEq, true_and] at e
  obtain ⟨rfl, rfl⟩ := e
  have key : ∀ i, ∃ u : Value, i < m → Ints .i64 w F u (ln i) (f i) ∧ ∃ b off, a = some ⟨b, off, none⟩ ∧ w.cell? ⟨b, off + i, none⟩ = some u := fun i => by
    by_cases hi : i < m
    · obtain ⟨b, off, u, h1, h2, h3⟩ := hc i hi
      exact ⟨u, fun _ => ⟨h3, b, off, h1, h2⟩⟩
    · exact ⟨undef, fun h => absurd h hi⟩
  obtain ⟨ov, hov⟩ := Classical.axiomOfChoice key
  exact ⟨ov, fun i hi => (hov i hi).1, fun i hi => (hov i hi).2⟩
/-- A list of lists that a call owns; the first q of its lists are its own too, the others are as they were. -/
structure SA (W : World) (lo : Nat) (v : Value) (m q : Nat) (ob : Nat → Option Nat) (iv ov : Nat → Value) (ln : Nat → Nat) (f : Nat → Nat → Int) : Prop where
  own : W.ownsRow lo 25 1 v m (valsOf m (fun i => if i < q then iv i else ov i))
  rows : ∀ i, i < q → RowAt W lo (ob i) (iv i) (ln i) (f i)
  inj : ∀ i j, i < q → j < q → i ≠ j → Two (ob i) (ob j)
  dj : ∀ g, v.ownBlock = some g → ∀ i, i < q → ob i ≠ some g
  small : m ≤ 1048576
section
variable {W W' : World} {lo m q : Nat} {v : Value} {ob : Nat → Option Nat} {iv ov : Nat → Value} {ln : Nat → Nat} {f : Nat → Nat → Int} {R : Nat → Nat → Prop}
theorem SA.keep (H : SA W lo v m q ob iv ov ln f) (hw : Wrote R W W') (h1 : ∀ g o, v.ownBlock = some g → ¬ R g o) (h2 : ∀ i b o, i < q → ob i = some b → ¬ R b o) : SA W' lo v m q ob iv ov ln f :=
  ⟨own_blockS H.own (fun g hg => hw.block g (own_at H.own hg).2 (fun o => h1 g o hg)), fun i hi => (H.rows i hi).keep hw (fun b hb _ _ o => h2 i b o hi hb), H.inj, H.dj, H.small⟩
theorem SA.below (H : SA W lo v m q ob iv ov ln f) (L : Below W.heap.size W W') : SA W' lo v m q ob iv ov ln f := H.keep (wrote_below L Nowhere) (fun _ _ _ x => x) (fun _ _ _ _ _ x => x)
theorem SA.mono {lo' : Nat} (H : SA W lo v m q ob iv ov ln f) (h : lo' ≤ lo) : SA W lo' v m q ob iv ov ln f :=
  ⟨own_lo H.own h, fun i hi => (H.rows i hi).mono h, H.inj, H.dj, H.small⟩
theorem SA.form (H : SA W lo v m q ob iv ov ln f) : ∃ a c, v = .slice a m c := by
  rcases H.own.2 with ⟨e, e0⟩ | ⟨g, c, cur, hv, -⟩
  · have : m = 0 := e0
    exact ⟨none, 0, by rw [e, this]⟩
  · exact ⟨_, _, hv⟩
theorem SA.cell {g c : Nat} (H : SA W lo (.slice (some ⟨g, 0, none⟩) m c) m q ob iv ov ln f) {i : Nat} (hi : i < m) : W.cell? ⟨g, i, none⟩ = some (if i < q then iv i else ov i) := by
  have := own_cells H.own i _ (valsOf_get _ hi)
  rwa [add_at, Nat.zero_add] at this
/-- One list more that is its own. -/
theorem SA.next {g c : Nat} {o : Option Nat} {y : Value} (H : SA W lo (.slice (some ⟨g, 0, none⟩) m c) m q ob iv ov ln f) (RN : RowAt W lo o y (ln q) (f q)) (h1 : o ≠ some g) (h2 : ∀ i, i < q → Two (ob i) o) :
    SA (W.setCell ⟨g, q, none⟩ y) lo (.slice (some ⟨g, 0, none⟩) m c) m (q + 1) (fun i => if i = q then o else ob i) (fun i => if i = q then y else iv i) ov ln f := by
  have hob : (Value.slice (some ⟨g, 0, none⟩) m c).ownBlock = some g := rfl
  have hw : Wrote (fun b _ => b = g) W (W.setCell ⟨g, q, none⟩ y) := Wrote.setCell (R := fun b _ => b = g) (Wrote.refl _ W) (fun _ => rfl) _
  have e0 := own_put H.own q y
  rw [valsOf_set] at e0
  refine ⟨?_, fun i hi => ?_, fun i j hi hj hij => ?_, fun g' hg i hi => ?_, H.small⟩
  · rw [valsOf_congr (g := fun i => if i = q then y else if i < q then iv i else ov i) (fun i hi => ?_)]
    · exact e0
    · show (if i < q + 1 then (if i = q then y else iv i) else ov i) = _
      by_cases e : i = q
      · rw [if_pos (by omega), if_pos e, if_pos e]
      · rw [if_neg e]
        by_cases h : i < q
        · rw [if_pos (by omega), if_neg e, if_pos h]
        · rw [if_neg (by omega), if_neg e, if_neg h]
  · by_cases e : i = q
    · subst e
      simp only [if_true]
      exact RN.keep hw (fun b hb _ _ o hR => h1 (hb.trans (congrArg some hR)))
    · simp only [if_neg e]
      exact (H.rows i (by omega)).keep hw (fun b hb _ _ o hR => H.dj g hob i (by omega) (hb.trans (congrArg some hR)))
  · by_cases e : i = q
    · rw [if_pos e, if_neg (by omega)]
      exact fun b hb hb' => h2 j (by omega) b hb' hb
    · by_cases e' : j = q
      · rw [if_neg e, if_pos e']
        exact h2 i (by omega)
      · rw [if_neg e, if_neg e']
        exact H.inj i j (by omega) (by omega) hij
  · obtain rfl : g = g' := by simpa [Value.ownBlock] using hg
    by_cases e : i = q
    · rw [if_pos e]; exact h1
    · rw [if_neg e]; exact H.dj g hob i (by omega)
def slA : Value → Option Addr
  | .slice a _ _ => a
  | _ => none
def slC : Value → Nat
  | .slice _ _ c => c
  | _ => 0
/-- A list of lists, all its own, on blocks of a kind. -/
theorem SA.onD (H : SA W lo v m m ob iv ov ln f) {D : Nat → Prop} (hD : ∀ b, (v.ownBlock = some b ∨ ∃ i, i < m ∧ ob i = some b) → D b) (hs : psum ln m ≤ 1099511627776) : SsOn W D v m ln f := by
  have hsl : ∀ i, i < m → iv i = .slice (slA (iv i)) (ln i) (slC (iv i)) ∧ SlOn W (fun b => ob i = some b) (slA (iv i)) (ln i) (f i) := fun i hi => by
    obtain ⟨a, x, e, hS⟩ := (H.rows i hi).sl
    rw [e]
    exact ⟨rfl, hS⟩
  rcases id H.own.2 with ⟨e, e0⟩ | ⟨g, c, cur, hv, hb, hg, k1, k2, k3, k4⟩
  · have hq : m = 0 := e0
    subst hq
    subst e
    refine ⟨fun _ => none, fun _ => 0, ⟨⟨none, 0, rfl, by omega, fun i hi => absurd hi (Nat.not_lt_zero _)⟩, fun i hi => absurd hi (Nat.not_lt_zero _), fun i j hi => absurd hi (Nat.not_lt_zero _), hs⟩, fun i hi => absurd hi (Nat.not_lt_zero _), fun i hi => absurd hi (Nat.not_lt_zero _), fun a cap e b o hF => absurd hF (foot_none _ _ _), fun i hi => absurd hi (Nat.not_lt_zero _)⟩
  · subst hv
    have hob : (Value.slice (some ⟨g, 0, none⟩) m c).ownBlock = some g := rfl
    refine ⟨fun i => slA (iv i), fun i => slC (iv i), ⟨⟨_, _, rfl, H.small, fun i hi => ⟨g, 0, rfl, ?_, fun j hj hF => H.dj g hob j hj ((hsl j hj).2.on _ _ hF)⟩⟩, fun i hi => (hsl i hi).2.free, fun i j hi hj hij b o h1 h2 => H.inj i j hi hj hij b ((hsl i hi).2.on _ _ h1) ((hsl j hj).2.on _ _ h2), hs⟩, fun i hi => (hsl i hi).2.row, fun i hi b o hF => hD b (Or.inr ⟨i, hi, (hsl i hi).2.on _ _ hF⟩), fun a cap e b o hF => ?_, fun i hi => (hsl i hi).2.small⟩
    · rw [Nat.zero_add, H.cell hi, if_pos hi]
      exact congrArg some (hsl i hi).1
    · simp only [Value.slice.injEq, true_and] at e
      obtain ⟨rfl, -⟩ := e
      obtain ⟨off, e, _, _⟩ := hF
      simp only [Option.some.injEq, Addr.mk.injEq] at e
      rw [← e.1]
      exact hD _ (Or.inl rfl)
end
end Go.Proofs.Ytmccplbfggcogaa
