/-
  A region that draws its order, by an invariant over what has been done of it: each operation is walked once, whatever the order.
-/
import Derived.Test.YtcfagmbddfcfpafDoorMath
import Derived.Orders
namespace Go.Proofs.YtcfagmbddfcfpafDoor
set_option linter.unusedVariables false
section
variable {P : Program} {ops : Array Oper} {Q : Exit → Act → World → Prop}
end
theorem getD_put_ne {a : Act} {d t : Nat} {v : Value} (h : d ≠ t) : (a.put (some d) v).tmps[t]?.getD undef = a.tmps[t]?.getD undef := by
  simp [Act.put, h]
theorem getD_put_eq {a : Act} {d : Nat} {v : Value} (h : d < a.tmps.size) : (a.put (some d) v).tmps[d]?.getD undef = v := by
  simp [Act.put, h]
theorem size_put {a : Act} {d : Option Nat} {v : Value} : (a.put d v).tmps.size = a.tmps.size := by cases d <;> simp [Act.put]
theorem defers_put {a : Act} {d : Option Nat} {v : Value} : (a.put d v).defers = a.defers := by cases d <;> rfl
structure Fr (ts : List Nat) (a0 a : Act) : Prop where
  defers : a.defers = a0.defers
  size : a.tmps.size = a0.tmps.size
  keep : ∀ t, t ∉ ts → a.tmps[t]?.getD undef = a0.tmps[t]?.getD undef
theorem Fr.put {ts : List Nat} {a0 a : Act} (h : Fr ts a0 a) {d : Nat} (hd : d ∈ ts) (v : Value) : Fr ts a0 (a.put (some d) v) :=
  ⟨defers_put.trans h.defers, size_put.trans h.size, fun t ht => (getD_put_ne (fun e => ht (by subst e; exact hd))).trans (h.keep t ht)⟩
theorem Fr.same {ts : List Nat} {a0 a : Act} (h : Fr ts a0 a) : a = ts.foldl (fun b t => b.put (some t) (a.tmps[t]?.getD undef)) a0 := by
  have key : ∀ (xs : List Nat) (b : Act), (xs.foldl (fun b t => b.put (some t) (a.tmps[t]?.getD undef)) b).defers = b.defers ∧ (xs.foldl (fun b t => b.put (some t) (a.tmps[t]?.getD undef)) b).tmps.size = b.tmps.size ∧
      (b.tmps.size = a.tmps.size → ∀ t, (t ∈ xs ∨ b.tmps[t]?.getD undef = a.tmps[t]?.getD undef) → (xs.foldl (fun b t => b.put (some t) (a.tmps[t]?.getD undef)) b).tmps[t]?.getD undef = a.tmps[t]?.getD undef) := by
    intro xs
    induction xs with
    | nil => intro b; exact ⟨rfl, rfl, fun _ t ht => ht.elim (fun h => absurd h (by simp)) id⟩
    | cons x xs ih =>
      intro b
      obtain ⟨i1, i2, i3⟩ := ih (b.put (some x) (a.tmps[x]?.getD undef))
      refine ⟨i1.trans defers_put, i2.trans size_put, fun hs t ht => i3 (size_put.trans hs) t ?_⟩
      by_cases e : x = t
      · subst e
        by_cases hx : x < b.tmps.size
        · exact Or.inr (getD_put_eq hx)
        · right
          simp [Act.put, hx]
          rw [Array.getElem?_eq_none (by omega)]
          rfl
      · rcases ht with ht | ht
        · rcases List.mem_cons.1 ht with h' | h'
          · exact absurd h'.symm e
          · exact Or.inl h'
        · exact Or.inr ((getD_put_ne e).trans ht)
  obtain ⟨k1, k2, k3⟩ := key ts a0
  rcases a with ⟨tm, df⟩
  generalize hF : ts.foldl (fun b t => b.put (some t) ((Act.mk tm df).tmps[t]?.getD undef)) a0 = F at *
  rcases F with ⟨tm', df'⟩
  have e1 : df = df' := h.defers.trans k1.symm
  have e2 : tm = tm' := by
    apply Array.ext
    · exact h.size.trans k2.symm
    · intro i h1 h2
      have := k3 h.size.symm i (by
        by_cases hm : i ∈ ts
        · exact Or.inl hm
        · exact Or.inr (h.keep i hm).symm)
      simp [h1, h2] at this
      exact this.symm
  rw [e1, e2]
end Go.Proofs.YtcfagmbddfcfpafDoor
