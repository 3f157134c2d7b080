/-
  A region that draws its order, by an invariant over what has been done of it: each operation is walked once, whatever the order.
-/
import Derived.Test.YteefbbnkfclllaaDoorMath
import Derived.Orders
namespace Go.Proofs.YteefbbnkfclllaaDoor
set_option linter.unusedVariables false
section
variable {P : Program} {ops : Array Oper} {Q : Exit → Act → World → Prop}
theorem wpOp_of {i : Nat} {o : Oper} {K : Act → World → Prop} {a : Act} {w : World} (ho : ops[i]? = some o) (hg : o.guard = none) (h : o.wp P a w K Q) : wpOp P ops Q i K a w := by
  have hw : Region.wanted o (yielded ops a.tmps) = true := by simp [Region.wanted, hg]
  unfold wpOp
  rw [ho]
  simp only [hw, if_true]
  exact Or.inl h
/-- Every operation hangs on earlier ones alone. -/
def backB (ops : Array Oper) : Bool := (List.range ops.size).all fun i => ((ops[i]?).map (·.after.all fun e => !Region.binds .any e || decide (e.on < i))).getD true
theorem ready_all (hb : backB ops = true) {l : Array Bool} (hs : l.size = ops.size) (h : Region.ready .any ops l = []) : ∀ i, i < ops.size → l[i]? = some true := by
  intro i
  induction i using Nat.strongRecOn with
  | ind i ih =>
    intro hi
    rcases hb' : l[i]? with _ | b
    · rw [Array.getElem?_eq_none_iff] at hb'; omega
    · cases b with
      | true => rfl
      | false =>
        exfalso
        have hm : i ∈ Region.ready .any ops l := by
          unfold Region.ready
          rw [List.mem_filter]
          refine ⟨List.mem_range.2 hi, ?_⟩
          have ho : ops[i]? = some ops[i] := Array.getElem?_eq_getElem hi
          have hd : l.getD i true = false := by rw [Array.getD_eq_getD_getElem?, hb']; rfl
          rw [hd, ho]
          simp only [Bool.not_false, Bool.true_and, Option.map_some, Option.getD_some]
          rw [Array.all_eq_true_iff_forall_mem]
          intro e he
          have h1 := List.all_eq_true.1 hb i (List.mem_range.2 hi)
          rw [ho] at h1
          simp only [Option.map_some, Option.getD_some] at h1
          have h2 := (Array.all_eq_true_iff_forall_mem.1 h1) e he
          cases hbe : Region.binds .any e with
          | false => rfl
          | true =>
            rw [hbe] at h2
            simp only [Bool.not_true, Bool.false_or, decide_eq_true_eq] at h2
            have := ih e.on h2 (by omega)
            rw [Array.getD_eq_getD_getElem?, this]
            rfl
        rw [h] at hm
        exact absurd hm (by simp)
theorem wpAny_inv (hb : backB ops = true) (J : Array Bool → Act → World → Prop)
    (hs : ∀ l a w i o K, l.size = ops.size → J l a w → ops[i]? = some o → l[i]? = some false → (o.after.all fun e => !Region.binds .any e || l.getD e.on false) = true → (∀ a' w', J (l.setIfInBounds i true) a' w' → K a' w') → wpOp P ops Q i K a w)
    (he : ∀ l a w, (∀ i, i < ops.size → l[i]? = some true) → J l a w → Q .normal a w) :
    ∀ (fuel : Nat) (l : Array Bool) (a : Act) (w : World), l.size = ops.size → (l.toList.filter (!·)).length ≤ fuel → J l a w → wpAny P .any ops Q fuel l a w := by
  intro fuel
  induction fuel with
  | zero =>
    intro l a w hl hc hj
    have hall : ∀ i, i < ops.size → l[i]? = some true := by
      intro i hi
      rcases hb' : l[i]? with _ | b
      · rw [Array.getElem?_eq_none_iff] at hb'; omega
      · cases b with
        | true => rfl
        | false =>
          have hm : false ∈ l.toList.filter (!·) := List.mem_filter.2 ⟨by rw [Array.mem_toList_iff]; exact Array.mem_of_getElem? hb', rfl⟩
          have := List.length_pos_of_mem hm
          omega
    refine ⟨?_, he l a w hall hj⟩
    unfold Region.ready
    rw [List.filter_eq_nil_iff]
    intro i hi
    have := hall i (List.mem_range.1 hi)
    rw [Array.getD_eq_getD_getElem?, this]
    simp
  | succ fuel ih =>
    intro l a w hl hc hj
    refine ⟨fun hr => he l a w (ready_all hb hl hr) hj, fun i hi => ?_⟩
    unfold Region.ready at hi
    rw [List.mem_filter] at hi
    obtain ⟨hi1, hi2⟩ := hi
    have hlt := List.mem_range.1 hi1
    have ho : ops[i]? = some ops[i] := Array.getElem?_eq_getElem hlt
    rw [ho] at hi2
    simp only [Option.map_some, Option.getD_some, Bool.and_eq_true, Bool.not_eq_true'] at hi2
    obtain ⟨hf, ha⟩ := hi2
    have hfl : l[i]? = some false := by
      rcases hb' : l[i]? with _ | b
      · rw [Array.getElem?_eq_none_iff] at hb'; omega
      · rw [Array.getD_eq_getD_getElem?, hb'] at hf; simp at hf; rw [hf]
    refine hs l a w i ops[i] _ hl hj ho hfl ha (fun a' w' hj' => ih _ a' w' (by simp [hl]) ?_ hj')
    have key : ∀ (xs : List Bool) (k : Nat), xs[k]? = some false → ((xs.set k true).filter (!·)).length + 1 = (xs.filter (!·)).length := by
      intro xs
      induction xs with
      | nil => intro k hk; simp at hk
      | cons x xs ihx =>
        intro k hk
        cases k with
        | zero => simp at hk; subst hk; simp
        | succ k =>
          have := ihx k (by simpa using hk)
          cases x <;> simp <;> simp at this <;> omega
    have hk := key l.toList i (by rw [Array.getElem?_toList]; exact hfl)
    rw [Array.toList_setIfInBounds]
    omega
/-- The rule: an invariant over the list of what has been done, the frame and the world. -/
theorem wp_region_inv {id : Nat} {a : Act} {w : World} (hm : P.follows .mixedOrders = true) (hb : backB ops = true) (J : Act → Array Bool → Act → World → Prop)
    (h0 : J a (Array.replicate ops.size false) a { w with drawn := w.drawn + 1 })
    (hs : ∀ l a' w' i o K, l.size = ops.size → J a l a' w' → ops[i]? = some o → l[i]? = some false → (o.after.all fun e => !Region.binds .any e || l.getD e.on false) = true → (∀ a'' w'', J a (l.setIfInBounds i true) a'' w'' → K a'' w'') → wpOp P ops Q i K a' w')
    (he : ∀ l a' w', (∀ i, i < ops.size → l[i]? = some true) → J a l a' w' → Q .normal a' w') : (Code.region id ops true).wp P Q a w :=
  wp_region_any hm (wpAny_inv hb (J a) hs he ops.size _ a _ (by simp) (by simp) h0)
end
/-- The region of a number within a code. -/
def regionIn (k : Nat) : Code → Option (Array Oper)
  | .region id ops _ => if id = k then some ops else none
  | .seq a b => match regionIn k a with
    | some c => some c
    | none => regionIn k b
  | .block _ c => regionIn k c
  | .scope c => regionIn k c
  | .loop c => regionIn k c
  | .cond _ a b => match regionIn k a with
    | some c => some c
    | none => regionIn k b
  | _ => none
theorem getD_put_ne {a : Act} {d t : Nat} {v : Value} (h : d ≠ t) : (a.put (some d) v).tmps[t]?.getD undef = a.tmps[t]?.getD undef := by
  simp [Act.put, h]
theorem getD_put_eq {a : Act} {d : Nat} {v : Value} (h : d < a.tmps.size) : (a.put (some d) v).tmps[d]?.getD undef = v := by
  simp [Act.put, h]
theorem size_put {a : Act} {d : Option Nat} {v : Value} : (a.put d v).tmps.size = a.tmps.size := by cases d <;> simp [Act.put]
theorem defers_put {a : Act} {d : Option Nat} {v : Value} : (a.put d v).defers = a.defers := by cases d <;> rfl
structure Fr (ts : List Nat) (a0 a : Act) : Prop where
  defers : a.defers = a0.defers
  size : a.tmps.size = a0.tmps.size
  keep : ∀ t, t ∉ ts → a.tmps[t]?.getD undef = a0.tmps[t]?.getD undef
theorem Fr.put {ts : List Nat} {a0 a : Act} (h : Fr ts a0 a) {d : Nat} (hd : d ∈ ts) (v : Value) : Fr ts a0 (a.put (some d) v) :=
  ⟨defers_put.trans h.defers, size_put.trans h.size, fun t ht => (getD_put_ne (fun e => ht (by subst e; exact hd))).trans (h.keep t ht)⟩
theorem Fr.get {ts : List Nat} {a0 a : Act} (h : Fr ts a0 a) {t : Nat} {v : Value} (ht : t ∉ ts) (hv : a0.tmps[t]?.getD undef = v) : a.tmps[t]?.getD undef = v := (h.keep t ht).trans hv
theorem Fr.same {ts : List Nat} {a0 a : Act} (h : Fr ts a0 a) : a = ts.foldl (fun b t => b.put (some t) (a.tmps[t]?.getD undef)) a0 := by
  have key : ∀ (xs : List Nat) (b : Act), (xs.foldl (fun b t => b.put (some t) (a.tmps[t]?.getD undef)) b).defers = b.defers ∧ (xs.foldl (fun b t => b.put (some t) (a.tmps[t]?.getD undef)) b).tmps.size = b.tmps.size ∧
      (b.tmps.size = a.tmps.size → ∀ t, (t ∈ xs ∨ b.tmps[t]?.getD undef = a.tmps[t]?.getD undef) → (xs.foldl (fun b t => b.put (some t) (a.tmps[t]?.getD undef)) b).tmps[t]?.getD undef = a.tmps[t]?.getD undef) := by
    intro xs
    induction xs with
    | nil => intro b; exact ⟨rfl, rfl, fun _ t ht => ht.elim (fun h => absurd h (by simp)) id⟩
    | cons x xs ih =>
      intro b
      obtain ⟨i1, i2, i3⟩ := ih (b.put (some x) (a.tmps[x]?.getD undef))
      refine ⟨i1.trans defers_put, i2.trans size_put, fun hs t ht => i3 (size_put.trans hs) t ?_⟩
      by_cases e : x = t
      · subst e
        by_cases hx : x < b.tmps.size
        · exact Or.inr (getD_put_eq hx)
        · right
          simp [Act.put, hx]
          rw [Array.getElem?_eq_none (by omega)]
          rfl
      · rcases ht with ht | ht
        · rcases List.mem_cons.1 ht with h' | h'
          · exact absurd h'.symm e
          · exact Or.inl h'
        · exact Or.inr ((getD_put_ne e).trans ht)
  obtain ⟨k1, k2, k3⟩ := key ts a0
  rcases a with ⟨tm, df⟩
  generalize hF : ts.foldl (fun b t => b.put (some t) ((Act.mk tm df).tmps[t]?.getD undef)) a0 = F at *
  rcases F with ⟨tm', df'⟩
  have e1 : df = df' := h.defers.trans k1.symm
  have e2 : tm = tm' := by
    apply Array.ext
    · exact h.size.trans k2.symm
    · intro i h1 h2
      have := k3 h.size.symm i (by
        by_cases hm : i ∈ ts
        · exact Or.inl hm
        · exact Or.inr (h.keep i hm).symm)
      simp [h1, h2] at this
      exact this.symm
  rw [e1, e2]
end Go.Proofs.YteefbbnkfclllaaDoor
