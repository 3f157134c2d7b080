/-
  A rule for regions that draw, with the blocks that came in each operation's time.
-/
import Derived.Test.YtjcaligejlhjdaaGreatG0
namespace Go.Proofs.YtjcaligejlhjdaaGreat
set_option linter.unusedVariables false
open Go.ChangeShapes Go.WideShapes Go.ChangeAt Go.RowKit
def updV (V : Nat → Value) (i : Nat) (v : Value) : Nat → Value := fun k => if k = i then v else V k
theorem updV_same (V : Nat → Value) (i : Nat) (v : Value) : updV V i v i = v := if_pos rfl
theorem updV_ne (V : Nat → Value) {i k : Nat} (v : Value) (h : k ≠ i) : updV V i v k = V k := if_neg h
section
variable {P : Program} {ops : Array Oper} {Q : Exit → Act → World → Prop}
end
end Go.Proofs.YtjcaligejlhjdaaGreat
namespace Go.Proofs.YtjcaligejlhjdaaGreat
set_option linter.unusedVariables false
open Go.ChangeShapes Go.WideShapes Go.ChangeAt Go.RowKit
/-- The last operation waits for all others. -/
def lastB (ops : Array Oper) (n : Nat) : Bool := decide (ops.size = n + 1) && ((ops[n]?).map fun o => (List.range n).all fun j => waitsB o j).getD false
section
variable {P : Program} {ops : Array Oper} {Q : Exit → Act → World → Prop}
/-- Each operation but the last with what it may write, the stretch of blocks that came in its time, and a fact that lasts; then the last one by itself. -/
theorem wp_region_effL {id : Nat} {a : Act} {w : World} (n : Nat) (ds : List (Option Nat)) (hm : P.follows .mixedOrders = true) (hb : backB ops = true) (hg : plainB ops = true) (hl : lastB ops n = true) (hd : dstsE ops ds = true) (hsz : ∀ d, d ∈ slotsOf ds → d < a.tmps.size)
    (R : Nat → Nat → Nat → Prop) (φ : Nat → (Nat → Value) → Nat → Nat → World → Prop)
    (hstab : ∀ i j o V x lo hi W W', i ≠ j → i < n → j < n → ops[i]? = some o → waitsB o j = false → w.heap.size ≤ lo → hi ≤ W.heap.size → Wrote (R j) W W' → φ i V lo hi W → φ i (updV V j x) lo hi W')
    (hstep : ∀ i o a' W K, i < n → ops[i]? = some o → Fr (slotsOf ds) a a' → Wrote (fun b o' => ∃ j oj, j ≠ i ∧ ops[j]? = some oj ∧ waitsB oj i = false ∧ R j b o') w W → (∀ j, waitsB o j = true → ∃ lo hi, w.heap.size ≤ lo ∧ hi ≤ W.heap.size ∧ φ j (valAt ds a') lo hi W) → (∀ v W', Wrote (R i) W W' → φ i (updV (valAt ds a') i (if o.dst = none then undef else v)) W.heap.size W'.heap.size W' → K (a'.put o.dst v) W') → o.wp P a' W K Q)
    (hlast : ∀ o a' W K, ops[n]? = some o → Fr (slotsOf ds) a a' → Wrote (fun b o => ∃ j, R j b o) w W → (lo hi : Nat → Nat) → (∀ i, i < n → w.heap.size ≤ lo i ∧ lo i ≤ hi i ∧ hi i ≤ W.heap.size ∧ φ i (valAt ds a') (lo i) (hi i) W) → (∀ i j, i < n → j < n → i ≠ j → hi i ≤ lo j ∨ hi j ≤ lo i) → (∀ v W', Q .normal (a'.put o.dst v) W' → K (a'.put o.dst v) W') → o.wp P a' W K Q) : (Code.region id ops true).wp P Q a w := by
  unfold lastB at hl
  simp only [Bool.and_eq_true, decide_eq_true_eq] at hl
  obtain ⟨hn, hl⟩ := hl
  unfold dstsE at hd
  simp only [Bool.and_eq_true, decide_eq_true_eq] at hd
  obtain ⟨⟨hlen, hd1⟩, hd2⟩ := hd
  have hgo : ∀ (i : Nat) (o : Oper), ops[i]? = some o → o.guard = none := fun i o ho => by
    have h1 := (Array.all_eq_true_iff_forall_mem.1 hg) o (Array.mem_of_getElem? ho)
    simpa using h1
  have hlt : ∀ (i : Nat) (o : Oper), ops[i]? = some o → i < ops.size := fun i o ho => by
    rcases Nat.lt_or_ge i ops.size with h | h
    · exact h
    · rw [Array.getElem?_eq_none h] at ho; cases ho
  have hdst : ∀ (i : Nat) (o : Oper), ops[i]? = some o → ds[i]? = some o.dst := fun i o ho => by
    have h1 := List.all_eq_true.1 hd1 i (List.mem_range.2 (by rw [hlen]; exact hlt i o ho))
    rw [ho] at h1
    simp only [Option.map_some, Option.getD_some, beq_iff_eq] at h1
    exact h1.symm
  have hne : ∀ i j d, i ≠ j → ds[i]? = some (some d) → ds[j]? ≠ some (some d) := fun i j d h hi hj => by
    have li : i < ds.length := by rcases Nat.lt_or_ge i ds.length with x | x; exact x; (rw [List.getElem?_eq_none x] at hi; cases hi)
    have lj : j < ds.length := by rcases Nat.lt_or_ge j ds.length with x | x; exact x; (rw [List.getElem?_eq_none x] at hj; cases hj)
    have h1 := List.all_eq_true.1 (List.all_eq_true.1 hd2 i (List.mem_range.2 li)) j (List.mem_range.2 lj)
    rw [hi, hj] at h1
    simp at h1
    exact h h1
  have hlw : ((ops[n]?).map fun o => (List.range n).all fun j => waitsB o j).getD false = true := hl
  refine wp_region_inv hm hb (fun _ l a' W => ((∀ i, i < ops.size → l[i]? = some true) ∧ Q .normal a' W) ∨ (l[n]? = some false ∧ Fr (slotsOf ds) a a' ∧ Wrote (fun b o => ∃ j, l[j]? = some true ∧ R j b o) w W ∧ (∀ (k : Nat) (o : Oper), l[k]? = some true → ops[k]? = some o → ∀ j : Nat, waitsB o j = true → l[j]? = some true) ∧ ∃ lo hi : Nat → Nat, (∀ i : Nat, l[i]? = some true → w.heap.size ≤ lo i ∧ lo i ≤ hi i ∧ hi i ≤ W.heap.size ∧ φ i (valAt ds a') (lo i) (hi i) W) ∧ ∀ i j : Nat, l[i]? = some true → l[j]? = some true → i ≠ j → hi i ≤ lo j ∨ hi j ≤ lo i)) ?_ ?_ ?_
  · have hno : ∀ i : Nat, (Array.replicate ops.size false)[i]? ≠ some true := fun i h => by
      rcases Nat.lt_or_ge i ops.size with x | x
      · simp [x] at h
      · rw [Array.getElem?_eq_none (by simpa using x)] at h; cases h
    exact Or.inr ⟨by simp [hn], ⟨rfl, rfl, fun _ _ => rfl⟩, ⟨rfl, rfl, rfl, Nat.le_refl _, fun _ _ _ => rfl, fun _ _ _ _ => rfl, fun _ _ _ => rfl⟩, fun k _ h => absurd h (hno k), fun _ => 0, fun _ => 0, fun i h => absurd h (hno i), fun i _ h => absurd h (hno i)⟩
  · rintro l a' W i o K hl hJ ho hf ha hK
    rcases hJ with ⟨hall, -⟩ | ⟨hnf, F, L, hcl, lo, hi', hφ, hdj⟩
    · rw [hall i (hlt i o ho)] at hf; cases hf
    by_cases hin : i = n
    · subst hin
      rw [ho] at hlw
      have hdone : ∀ j, j < i → l[j]? = some true := fun j hj => waits_done ha (List.all_eq_true.1 hlw j (List.mem_range.2 hj))
      refine wpOp_of ho (hgo i o ho) (hlast o a' W K ho F (L.mono (fun b o _ ⟨j, _, h2⟩ => ⟨j, h2⟩)) lo hi' (fun k hk => hφ k (hdone k hk)) (fun k k' hk hk' => hdj k k' (hdone k hk) (hdone k' hk')) (fun v W' hq => hK _ _ (Or.inl ⟨fun k hk => ?_, hq⟩)))
      by_cases e : k = i
      · rw [e, Array.getElem?_setIfInBounds, if_pos rfl, if_pos (by omega)]
      · rw [Array.getElem?_setIfInBounds_ne (by omega)]; exact hdone k (by omega)
    have hin' : i < n := by have := hlt i o ho; omega
    have hi := hlt i o ho
    have hdi := hdst i o ho
    have hdone : ∀ j, l[j]? = some true → ∀ b o, R j b o → ∃ j oj, j ≠ i ∧ ops[j]? = some oj ∧ waitsB oj i = false ∧ R j b o := fun j h1 b o h2 => by
      have hjl : j < ops.size := by
        rcases Nat.lt_or_ge j ops.size with x | x
        · exact x
        · rw [Array.getElem?_eq_none (by omega)] at h1; cases h1
      have hjo : ops[j]? = some ops[j] := Array.getElem?_eq_getElem hjl
      refine ⟨j, ops[j], (fun e => by rw [e, hf] at h1; cases h1), hjo, ?_, h2⟩
      cases hw : waitsB ops[j] i
      · rfl
      · have := hcl j _ h1 hjo i hw
        rw [hf] at this; cases this
    refine wpOp_of ho (hgo i o ho) (hstep i o a' W K hin' ho F (L.mono (fun b o _ ⟨j, h1, h2⟩ => hdone j h1 b o h2)) (fun j hj => ⟨lo j, hi' j, (hφ j (waits_done ha hj)).1, (hφ j (waits_done ha hj)).2.2⟩) (fun v W' hW hv => hK _ _ ?_))
    have hset : (l.setIfInBounds i true)[i]? = some true := by simp [hl, hi]
    have hval : valAt ds (a'.put o.dst v) = updV (valAt ds a') i (if o.dst = none then undef else v) := by
      funext k
      by_cases e : k = i
      · subst e
        rw [updV_same]
        cases e : o.dst with
        | none =>
          rw [e] at hdi
          unfold valAt
          rw [hdi]
          simp
        | some d =>
          rw [e] at hdi
          have hmem : d ∈ slotsOf ds := List.mem_filterMap.2 ⟨some d, List.mem_of_getElem? hdi, rfl⟩
          unfold valAt
          rw [hdi]
          simpa using getD_put_eq (by rw [F.size]; exact hsz d hmem)
      · rw [updV_ne _ _ e]
        cases e2 : o.dst with
        | none => rfl
        | some d =>
          rw [e2] at hdi
          unfold valAt
          cases e3 : ds[k]? with
          | none => rfl
          | some x =>
            cases x with
            | none => rfl
            | some d' =>
              have : d ≠ d' := fun x => hne k i d' e e3 (by rw [hdi, x])
              exact getD_put_ne this
    have hne' : ∀ k, (l.setIfInBounds i true)[k]? = some true → k ≠ i → l[k]? = some true := fun k hk e => by rw [Array.getElem?_setIfInBounds_ne (by omega)] at hk; exact hk
    refine Or.inr ⟨by rw [Array.getElem?_setIfInBounds_ne hin]; exact hnf, ?_, (L.mono (fun b o _ ⟨j, h1, h2⟩ => ⟨j, by rw [Array.getElem?_setIfInBounds_ne (fun e => by rw [← e, hf] at h1; cases h1)]; exact h1, h2⟩)).trans (hW.mono (fun b o _ h => ⟨i, hset, h⟩)), fun k o' hk hko j hj => ?_, fun k => if k = i then W.heap.size else lo k, fun k => if k = i then W'.heap.size else hi' k, fun k hk => ?_, fun k k' hk hk' hkk => ?_⟩
    · cases e : o.dst with
      | none => exact F
      | some d =>
        rw [e] at hdi
        exact F.put (List.mem_filterMap.2 ⟨some d, List.mem_of_getElem? hdi, rfl⟩) v
    · have h1 : l[j]? = some true := by
        by_cases e : k = i
        · subst e
          rw [ho] at hko
          obtain rfl := Option.some.inj hko
          exact waits_done ha hj
        · rw [Array.getElem?_setIfInBounds_ne (by omega)] at hk
          exact hcl k o' hk hko j hj
      by_cases e : j = i
      · rw [e]; exact hset
      · rw [Array.getElem?_setIfInBounds_ne (by omega)]; exact h1
    · rw [hval]
      by_cases e : k = i
      · subst e
        simp only [if_true]
        exact ⟨L.size, hW.size, Nat.le_refl _, hv⟩
      · simp only [if_neg e]
        rw [Array.getElem?_setIfInBounds_ne (by omega)] at hk
        obtain ⟨g1, g2, g3, g4⟩ := hφ k hk
        refine ⟨g1, g2, Nat.le_trans g3 hW.size, ?_⟩
        have hkl : k < ops.size := by
          rcases Nat.lt_or_ge k ops.size with x | x
          · exact x
          · rw [Array.getElem?_eq_none (by omega)] at hk; cases hk
        have hko : ops[k]? = some ops[k] := Array.getElem?_eq_getElem hkl
        have hnw : waitsB ops[k] i = false := by
          cases hw : waitsB ops[k] i
          · rfl
          · have := hcl k _ hk hko i hw
            rw [hf] at this; cases this
        have hkn : k ≠ n := fun x => by rw [x, hnf] at hk; cases hk
        exact hstab k i _ _ _ _ _ W W' e (by omega) hin' hko hnw g1 g3 hW g4
    · by_cases e : k = i
      · have e' : k' ≠ i := fun x => hkk (e.trans x.symm)
        simp only [if_pos e, if_neg e']
        exact Or.inr (hφ k' (hne' k' hk' e')).2.2.1
      · by_cases e' : k' = i
        · simp only [if_neg e, if_pos e']
          exact Or.inl (hφ k (hne' k hk e)).2.2.1
        · simp only [if_neg e, if_neg e']
          exact hdj k k' (hne' k hk e) (hne' k' hk' e') hkk
  · rintro l a' W hall (⟨-, hq⟩ | ⟨hnf, -⟩)
    · exact hq
    · rw [hall n (by omega)] at hnf; cases hnf
end
end Go.Proofs.YtjcaligejlhjdaaGreat
