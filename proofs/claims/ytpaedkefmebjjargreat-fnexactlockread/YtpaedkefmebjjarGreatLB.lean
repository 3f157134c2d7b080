/-
  Chapter 12: regions that draw; a console that a call owns; what is read and written, of the specification; copies, of the program.
-/
import Derived.Test.YtpaedkefmebjjarGreatG0
import Derived.Test.YtpaedkefmebjjarGreatLA
import Derived.Test.YtpaedkefmebjjarGreatC8
import Derived.Test.YtpaedkefmebjjarGreatE8
import Derived.Test.YtpaedkefmebjjarGreatC9
import Derived.Test.YtpaedkefmebjjarGreatI8c
import Derived.Test.YtpaedkefmebjjarGreatI6c
import Derived.Deep.DeepCutAuto
namespace Go.Proofs.YtpaedkefmebjjarGreat
set_option linter.unusedVariables false
open Go.ChangeShapes Go.WideShapes Go.ChangeAt Go.RowKit
def updV (V : Nat → Value) (i : Nat) (v : Value) : Nat → Value := fun k => if k = i then v else V k
theorem updV_same (V : Nat → Value) (i : Nat) (v : Value) : updV V i v i = v := if_pos rfl
theorem updV_ne (V : Nat → Value) {i k : Nat} (v : Value) (h : k ≠ i) : updV V i v k = V k := if_neg h
section
variable {P : Program} {ops : Array Oper} {Q : Exit → Act → World → Prop}
/-- Each operation with what it may write, the stretch of blocks that came in its time, and a fact that lasts while the others write; the stretches share no block. -/
theorem wp_region_effI {id : Nat} {a : Act} {w : World} (ds : List (Option Nat)) (hm : P.follows .mixedOrders = true) (hb : backB ops = true) (hg : plainB ops = true) (hd : dstsE ops ds = true) (hsz : ∀ d, d ∈ slotsOf ds → d < a.tmps.size)
    (R : Nat → Nat → Nat → Prop) (φ : Nat → (Nat → Value) → Nat → Nat → World → Prop)
    (hstab : ∀ i j o V x lo hi W W', i ≠ j → ops[i]? = some o → waitsB o j = false → w.heap.size ≤ lo → hi ≤ W.heap.size → Wrote (R j) W W' → φ i V lo hi W → φ i (updV V j x) lo hi W')
    (hstep : ∀ i o a' W K, ops[i]? = some o → Fr (slotsOf ds) a a' → Wrote (fun b o' => ∃ j oj, j ≠ i ∧ ops[j]? = some oj ∧ waitsB oj i = false ∧ R j b o') w W → (∀ j, waitsB o j = true → ∃ lo hi, w.heap.size ≤ lo ∧ hi ≤ W.heap.size ∧ φ j (valAt ds a') lo hi W) → (∀ v W', Wrote (R i) W W' → φ i (updV (valAt ds a') i (if o.dst = none then undef else v)) W.heap.size W'.heap.size W' → K (a'.put o.dst v) W') → o.wp P a' W K Q)
    (hend : ∀ a' W, Fr (slotsOf ds) a a' → Wrote (fun b o => ∃ j, R j b o) w W → (lo hi : Nat → Nat) → (∀ i, i < ops.size → w.heap.size ≤ lo i ∧ lo i ≤ hi i ∧ hi i ≤ W.heap.size ∧ φ i (valAt ds a') (lo i) (hi i) W) → (∀ i j, i < ops.size → j < ops.size → i ≠ j → hi i ≤ lo j ∨ hi j ≤ lo i) → Q .normal a' W) : (Code.region id ops true).wp P Q a w := by
  unfold dstsE at hd
  simp only [Bool.and_eq_true, decide_eq_true_eq] at hd
  obtain ⟨⟨hlen, hd1⟩, hd2⟩ := hd
  have hgo : ∀ (i : Nat) (o : Oper), ops[i]? = some o → o.guard = none := fun i o ho => by
    have h1 := (Array.all_eq_true_iff_forall_mem.1 hg) o (Array.mem_of_getElem? ho)
    simpa using h1
  have hlt : ∀ (i : Nat) (o : Oper), ops[i]? = some o → i < ops.size := fun i o ho => by
    rcases Nat.lt_or_ge i ops.size with h | h
    · exact h
    · rw [Array.getElem?_eq_none h] at ho; cases ho
  have hdst : ∀ (i : Nat) (o : Oper), ops[i]? = some o → ds[i]? = some o.dst := fun i o ho => by
    have h1 := List.all_eq_true.1 hd1 i (List.mem_range.2 (by rw [hlen]; exact hlt i o ho))
    rw [ho] at h1
    simp only [Option.map_some, Option.getD_some, beq_iff_eq] at h1
    exact h1.symm
  have hne : ∀ i j d, i ≠ j → ds[i]? = some (some d) → ds[j]? ≠ some (some d) := fun i j d h hi hj => by
    have li : i < ds.length := by rcases Nat.lt_or_ge i ds.length with x | x; exact x; (rw [List.getElem?_eq_none x] at hi; cases hi)
    have lj : j < ds.length := by rcases Nat.lt_or_ge j ds.length with x | x; exact x; (rw [List.getElem?_eq_none x] at hj; cases hj)
    have h1 := List.all_eq_true.1 (List.all_eq_true.1 hd2 i (List.mem_range.2 li)) j (List.mem_range.2 lj)
    rw [hi, hj] at h1
    simp at h1
    exact h h1
  refine wp_region_inv hm hb (fun _ l a' W => Fr (slotsOf ds) a a' ∧ Wrote (fun b o => ∃ j, l[j]? = some true ∧ R j b o) w W ∧ (∀ (k : Nat) (o : Oper), l[k]? = some true → ops[k]? = some o → ∀ j : Nat, waitsB o j = true → l[j]? = some true) ∧ ∃ lo hi : Nat → Nat, (∀ i : Nat, l[i]? = some true → w.heap.size ≤ lo i ∧ lo i ≤ hi i ∧ hi i ≤ W.heap.size ∧ φ i (valAt ds a') (lo i) (hi i) W) ∧ ∀ i j : Nat, l[i]? = some true → l[j]? = some true → i ≠ j → hi i ≤ lo j ∨ hi j ≤ lo i) ?_ ?_ ?_
  · have hno : ∀ i : Nat, (Array.replicate ops.size false)[i]? ≠ some true := fun i h => by
      rcases Nat.lt_or_ge i ops.size with x | x
      · simp [x] at h
      · rw [Array.getElem?_eq_none (by simpa using x)] at h; cases h
    exact ⟨⟨rfl, rfl, fun _ _ => rfl⟩, ⟨rfl, rfl, rfl, Nat.le_refl _, fun _ _ _ => rfl, fun _ _ _ _ => rfl, fun _ _ _ => rfl⟩, fun k _ h => absurd h (hno k), fun _ => 0, fun _ => 0, fun i h => absurd h (hno i), fun i _ h => absurd h (hno i)⟩
  · rintro l a' W i o K hl ⟨F, L, hcl, lo, hi', hφ, hdj⟩ ho hf ha hK
    have hi := hlt i o ho
    have hdi := hdst i o ho
    have hdone : ∀ j, l[j]? = some true → ∀ b o, R j b o → ∃ j oj, j ≠ i ∧ ops[j]? = some oj ∧ waitsB oj i = false ∧ R j b o := fun j h1 b o h2 => by
      have hjl : j < ops.size := by
        rcases Nat.lt_or_ge j ops.size with x | x
        · exact x
        · rw [Array.getElem?_eq_none (by omega)] at h1; cases h1
      have hjo : ops[j]? = some ops[j] := Array.getElem?_eq_getElem hjl
      refine ⟨j, ops[j], (fun e => by rw [e, hf] at h1; cases h1), hjo, ?_, h2⟩
      cases hw : waitsB ops[j] i
      · rfl
      · have := hcl j _ h1 hjo i hw
        rw [hf] at this; cases this
    refine wpOp_of ho (hgo i o ho) (hstep i o a' W K ho F (L.mono (fun b o _ ⟨j, h1, h2⟩ => hdone j h1 b o h2)) (fun j hj => ⟨lo j, hi' j, (hφ j (waits_done ha hj)).1, (hφ j (waits_done ha hj)).2.2⟩) (fun v W' hW hv => hK _ _ ?_))
    have hset : (l.setIfInBounds i true)[i]? = some true := by simp [hl, hi]
    have hval : valAt ds (a'.put o.dst v) = updV (valAt ds a') i (if o.dst = none then undef else v) := by
      funext k
      by_cases e : k = i
      · subst e
        rw [updV_same]
        cases e : o.dst with
        | none =>
          rw [e] at hdi
          unfold valAt
          rw [hdi]
          simp
        | some d =>
          rw [e] at hdi
          have hmem : d ∈ slotsOf ds := List.mem_filterMap.2 ⟨some d, List.mem_of_getElem? hdi, rfl⟩
          unfold valAt
          rw [hdi]
          simpa using getD_put_eq (by rw [F.size]; exact hsz d hmem)
      · rw [updV_ne _ _ e]
        cases e2 : o.dst with
        | none => rfl
        | some d =>
          rw [e2] at hdi
          unfold valAt
          cases e3 : ds[k]? with
          | none => rfl
          | some x =>
            cases x with
            | none => rfl
            | some d' =>
              have : d ≠ d' := fun x => hne k i d' e e3 (by rw [hdi, x])
              exact getD_put_ne this
    have hne' : ∀ k, (l.setIfInBounds i true)[k]? = some true → k ≠ i → l[k]? = some true := fun k hk e => by rw [Array.getElem?_setIfInBounds_ne (by omega)] at hk; exact hk
    refine ⟨?_, (L.mono (fun b o _ ⟨j, h1, h2⟩ => ⟨j, by rw [Array.getElem?_setIfInBounds_ne (fun e => by rw [← e, hf] at h1; cases h1)]; exact h1, h2⟩)).trans (hW.mono (fun b o _ h => ⟨i, hset, h⟩)), fun k o' hk hko j hj => ?_, fun k => if k = i then W.heap.size else lo k, fun k => if k = i then W'.heap.size else hi' k, fun k hk => ?_, fun k k' hk hk' hkk => ?_⟩
    · cases e : o.dst with
      | none => exact F
      | some d =>
        rw [e] at hdi
        exact F.put (List.mem_filterMap.2 ⟨some d, List.mem_of_getElem? hdi, rfl⟩) v
    · have h1 : l[j]? = some true := by
        by_cases e : k = i
        · subst e
          rw [ho] at hko
          obtain rfl := Option.some.inj hko
          exact waits_done ha hj
        · rw [Array.getElem?_setIfInBounds_ne (by omega)] at hk
          exact hcl k o' hk hko j hj
      by_cases e : j = i
      · rw [e]; exact hset
      · rw [Array.getElem?_setIfInBounds_ne (by omega)]; exact h1
    · rw [hval]
      by_cases e : k = i
      · subst e
        simp only [if_true]
        exact ⟨L.size, hW.size, Nat.le_refl _, hv⟩
      · simp only [if_neg e]
        rw [Array.getElem?_setIfInBounds_ne (by omega)] at hk
        obtain ⟨g1, g2, g3, g4⟩ := hφ k hk
        refine ⟨g1, g2, Nat.le_trans g3 hW.size, ?_⟩
        have hkl : k < ops.size := by
          rcases Nat.lt_or_ge k ops.size with x | x
          · exact x
          · rw [Array.getElem?_eq_none (by omega)] at hk; cases hk
        have hko : ops[k]? = some ops[k] := Array.getElem?_eq_getElem hkl
        have hnw : waitsB ops[k] i = false := by
          cases hw : waitsB ops[k] i
          · rfl
          · have := hcl k _ hk hko i hw
            rw [hf] at this; cases this
        exact hstab k i _ _ _ _ _ W W' e hko hnw g1 g3 hW g4
    · by_cases e : k = i
      · have e' : k' ≠ i := fun x => hkk (e.trans x.symm)
        simp only [if_pos e, if_neg e']
        exact Or.inr (hφ k' (hne' k' hk' e')).2.2.1
      · by_cases e' : k' = i
        · simp only [if_neg e, if_pos e']
          exact Or.inl (hφ k (hne' k hk e)).2.2.1
        · simp only [if_neg e, if_neg e']
          exact hdj k k' (hne' k hk e) (hne' k' hk' e') hkk
  · rintro l a' W hall ⟨F, L, -, lo, hi', hφ, hdj⟩
    exact hend a' W F (L.mono (fun b o _ ⟨j, _, h2⟩ => ⟨j, h2⟩)) lo hi' (fun i hi => hφ i (hall i hi)) (fun i j hi hj => hdj i j (hall i hi) (hall j hj))
end
end Go.Proofs.YtpaedkefmebjjarGreat
namespace Go.Proofs.YtpaedkefmebjjarGreat
set_option linter.unusedVariables false
open Go.ChangeShapes Go.WideShapes Go.ChangeAt Go.RowKit
/-- The last operation waits for all others. -/
def lastB (ops : Array Oper) (n : Nat) : Bool := decide (ops.size = n + 1) && ((ops[n]?).map fun o => (List.range n).all fun j => waitsB o j).getD false
section
variable {P : Program} {ops : Array Oper} {Q : Exit → Act → World → Prop}
/-- Each operation but the last with what it may write, the stretch of blocks that came in its time, and a fact that lasts; then the last one by itself. -/
theorem wp_region_effL {id : Nat} {a : Act} {w : World} (n : Nat) (ds : List (Option Nat)) (hm : P.follows .mixedOrders = true) (hb : backB ops = true) (hg : plainB ops = true) (hl : lastB ops n = true) (hd : dstsE ops ds = true) (hsz : ∀ d, d ∈ slotsOf ds → d < a.tmps.size)
    (R : Nat → Nat → Nat → Prop) (φ : Nat → (Nat → Value) → Nat → Nat → World → Prop)
    (hstab : ∀ i j o V x lo hi W W', i ≠ j → i < n → j < n → ops[i]? = some o → waitsB o j = false → w.heap.size ≤ lo → hi ≤ W.heap.size → Wrote (R j) W W' → φ i V lo hi W → φ i (updV V j x) lo hi W')
    (hstep : ∀ i o a' W K, i < n → ops[i]? = some o → Fr (slotsOf ds) a a' → Wrote (fun b o' => ∃ j oj, j ≠ i ∧ ops[j]? = some oj ∧ waitsB oj i = false ∧ R j b o') w W → (∀ j, waitsB o j = true → ∃ lo hi, w.heap.size ≤ lo ∧ hi ≤ W.heap.size ∧ φ j (valAt ds a') lo hi W) → (∀ v W', Wrote (R i) W W' → φ i (updV (valAt ds a') i (if o.dst = none then undef else v)) W.heap.size W'.heap.size W' → K (a'.put o.dst v) W') → o.wp P a' W K Q)
    (hlast : ∀ o a' W K, ops[n]? = some o → Fr (slotsOf ds) a a' → Wrote (fun b o => ∃ j, R j b o) w W → (lo hi : Nat → Nat) → (∀ i, i < n → w.heap.size ≤ lo i ∧ lo i ≤ hi i ∧ hi i ≤ W.heap.size ∧ φ i (valAt ds a') (lo i) (hi i) W) → (∀ i j, i < n → j < n → i ≠ j → hi i ≤ lo j ∨ hi j ≤ lo i) → (∀ v W', Q .normal (a'.put o.dst v) W' → K (a'.put o.dst v) W') → o.wp P a' W K Q) : (Code.region id ops true).wp P Q a w := by
  unfold lastB at hl
  simp only [Bool.and_eq_true, decide_eq_true_eq] at hl
  obtain ⟨hn, hl⟩ := hl
  unfold dstsE at hd
  simp only [Bool.and_eq_true, decide_eq_true_eq] at hd
  obtain ⟨⟨hlen, hd1⟩, hd2⟩ := hd
  have hgo : ∀ (i : Nat) (o : Oper), ops[i]? = some o → o.guard = none := fun i o ho => by
    have h1 := (Array.all_eq_true_iff_forall_mem.1 hg) o (Array.mem_of_getElem? ho)
    simpa using h1
  have hlt : ∀ (i : Nat) (o : Oper), ops[i]? = some o → i < ops.size := fun i o ho => by
    rcases Nat.lt_or_ge i ops.size with h | h
    · exact h
    · rw [Array.getElem?_eq_none h] at ho; cases ho
  have hdst : ∀ (i : Nat) (o : Oper), ops[i]? = some o → ds[i]? = some o.dst := fun i o ho => by
    have h1 := List.all_eq_true.1 hd1 i (List.mem_range.2 (by rw [hlen]; exact hlt i o ho))
    rw [ho] at h1
    simp only [Option.map_some, Option.getD_some, beq_iff_eq] at h1
    exact h1.symm
  have hne : ∀ i j d, i ≠ j → ds[i]? = some (some d) → ds[j]? ≠ some (some d) := fun i j d h hi hj => by
    have li : i < ds.length := by rcases Nat.lt_or_ge i ds.length with x | x; exact x; (rw [List.getElem?_eq_none x] at hi; cases hi)
    have lj : j < ds.length := by rcases Nat.lt_or_ge j ds.length with x | x; exact x; (rw [List.getElem?_eq_none x] at hj; cases hj)
    have h1 := List.all_eq_true.1 (List.all_eq_true.1 hd2 i (List.mem_range.2 li)) j (List.mem_range.2 lj)
    rw [hi, hj] at h1
    simp at h1
    exact h h1
  have hlw : ((ops[n]?).map fun o => (List.range n).all fun j => waitsB o j).getD false = true := hl
  refine wp_region_inv hm hb (fun _ l a' W => ((∀ i, i < ops.size → l[i]? = some true) ∧ Q .normal a' W) ∨ (l[n]? = some false ∧ Fr (slotsOf ds) a a' ∧ Wrote (fun b o => ∃ j, l[j]? = some true ∧ R j b o) w W ∧ (∀ (k : Nat) (o : Oper), l[k]? = some true → ops[k]? = some o → ∀ j : Nat, waitsB o j = true → l[j]? = some true) ∧ ∃ lo hi : Nat → Nat, (∀ i : Nat, l[i]? = some true → w.heap.size ≤ lo i ∧ lo i ≤ hi i ∧ hi i ≤ W.heap.size ∧ φ i (valAt ds a') (lo i) (hi i) W) ∧ ∀ i j : Nat, l[i]? = some true → l[j]? = some true → i ≠ j → hi i ≤ lo j ∨ hi j ≤ lo i)) ?_ ?_ ?_
  · have hno : ∀ i : Nat, (Array.replicate ops.size false)[i]? ≠ some true := fun i h => by
      rcases Nat.lt_or_ge i ops.size with x | x
      · simp [x] at h
      · rw [Array.getElem?_eq_none (by simpa using x)] at h; cases h
    exact Or.inr ⟨by simp [hn], ⟨rfl, rfl, fun _ _ => rfl⟩, ⟨rfl, rfl, rfl, Nat.le_refl _, fun _ _ _ => rfl, fun _ _ _ _ => rfl, fun _ _ _ => rfl⟩, fun k _ h => absurd h (hno k), fun _ => 0, fun _ => 0, fun i h => absurd h (hno i), fun i _ h => absurd h (hno i)⟩
  · rintro l a' W i o K hl hJ ho hf ha hK
    rcases hJ with ⟨hall, -⟩ | ⟨hnf, F, L, hcl, lo, hi', hφ, hdj⟩
    · rw [hall i (hlt i o ho)] at hf; cases hf
    by_cases hin : i = n
    · subst hin
      rw [ho] at hlw
      have hdone : ∀ j, j < i → l[j]? = some true := fun j hj => waits_done ha (List.all_eq_true.1 hlw j (List.mem_range.2 hj))
      refine wpOp_of ho (hgo i o ho) (hlast o a' W K ho F (L.mono (fun b o _ ⟨j, _, h2⟩ => ⟨j, h2⟩)) lo hi' (fun k hk => hφ k (hdone k hk)) (fun k k' hk hk' => hdj k k' (hdone k hk) (hdone k' hk')) (fun v W' hq => hK _ _ (Or.inl ⟨fun k hk => ?_, hq⟩)))
      by_cases e : k = i
      · rw [e, Array.getElem?_setIfInBounds, if_pos rfl, if_pos (by omega)]
      · rw [Array.getElem?_setIfInBounds_ne (by omega)]; exact hdone k (by omega)
    have hin' : i < n := by have := hlt i o ho; omega
    have hi := hlt i o ho
    have hdi := hdst i o ho
    have hdone : ∀ j, l[j]? = some true → ∀ b o, R j b o → ∃ j oj, j ≠ i ∧ ops[j]? = some oj ∧ waitsB oj i = false ∧ R j b o := fun j h1 b o h2 => by
      have hjl : j < ops.size := by
        rcases Nat.lt_or_ge j ops.size with x | x
        · exact x
        · rw [Array.getElem?_eq_none (by omega)] at h1; cases h1
      have hjo : ops[j]? = some ops[j] := Array.getElem?_eq_getElem hjl
      refine ⟨j, ops[j], (fun e => by rw [e, hf] at h1; cases h1), hjo, ?_, h2⟩
      cases hw : waitsB ops[j] i
      · rfl
      · have := hcl j _ h1 hjo i hw
        rw [hf] at this; cases this
    refine wpOp_of ho (hgo i o ho) (hstep i o a' W K hin' ho F (L.mono (fun b o _ ⟨j, h1, h2⟩ => hdone j h1 b o h2)) (fun j hj => ⟨lo j, hi' j, (hφ j (waits_done ha hj)).1, (hφ j (waits_done ha hj)).2.2⟩) (fun v W' hW hv => hK _ _ ?_))
    have hset : (l.setIfInBounds i true)[i]? = some true := by simp [hl, hi]
    have hval : valAt ds (a'.put o.dst v) = updV (valAt ds a') i (if o.dst = none then undef else v) := by
      funext k
      by_cases e : k = i
      · subst e
        rw [updV_same]
        cases e : o.dst with
        | none =>
          rw [e] at hdi
          unfold valAt
          rw [hdi]
          simp
        | some d =>
          rw [e] at hdi
          have hmem : d ∈ slotsOf ds := List.mem_filterMap.2 ⟨some d, List.mem_of_getElem? hdi, rfl⟩
          unfold valAt
          rw [hdi]
          simpa using getD_put_eq (by rw [F.size]; exact hsz d hmem)
      · rw [updV_ne _ _ e]
        cases e2 : o.dst with
        | none => rfl
        | some d =>
          rw [e2] at hdi
          unfold valAt
          cases e3 : ds[k]? with
          | none => rfl
          | some x =>
            cases x with
            | none => rfl
            | some d' =>
              have : d ≠ d' := fun x => hne k i d' e e3 (by rw [hdi, x])
              exact getD_put_ne this
    have hne' : ∀ k, (l.setIfInBounds i true)[k]? = some true → k ≠ i → l[k]? = some true := fun k hk e => by rw [Array.getElem?_setIfInBounds_ne (by omega)] at hk; exact hk
    refine Or.inr ⟨by rw [Array.getElem?_setIfInBounds_ne hin]; exact hnf, ?_, (L.mono (fun b o _ ⟨j, h1, h2⟩ => ⟨j, by rw [Array.getElem?_setIfInBounds_ne (fun e => by rw [← e, hf] at h1; cases h1)]; exact h1, h2⟩)).trans (hW.mono (fun b o _ h => ⟨i, hset, h⟩)), fun k o' hk hko j hj => ?_, fun k => if k = i then W.heap.size else lo k, fun k => if k = i then W'.heap.size else hi' k, fun k hk => ?_, fun k k' hk hk' hkk => ?_⟩
    · cases e : o.dst with
      | none => exact F
      | some d =>
        rw [e] at hdi
        exact F.put (List.mem_filterMap.2 ⟨some d, List.mem_of_getElem? hdi, rfl⟩) v
    · have h1 : l[j]? = some true := by
        by_cases e : k = i
        · subst e
          rw [ho] at hko
          obtain rfl := Option.some.inj hko
          exact waits_done ha hj
        · rw [Array.getElem?_setIfInBounds_ne (by omega)] at hk
          exact hcl k o' hk hko j hj
      by_cases e : j = i
      · rw [e]; exact hset
      · rw [Array.getElem?_setIfInBounds_ne (by omega)]; exact h1
    · rw [hval]
      by_cases e : k = i
      · subst e
        simp only [if_true]
        exact ⟨L.size, hW.size, Nat.le_refl _, hv⟩
      · simp only [if_neg e]
        rw [Array.getElem?_setIfInBounds_ne (by omega)] at hk
        obtain ⟨g1, g2, g3, g4⟩ := hφ k hk
        refine ⟨g1, g2, Nat.le_trans g3 hW.size, ?_⟩
        have hkl : k < ops.size := by
          rcases Nat.lt_or_ge k ops.size with x | x
          · exact x
          · rw [Array.getElem?_eq_none (by omega)] at hk; cases hk
        have hko : ops[k]? = some ops[k] := Array.getElem?_eq_getElem hkl
        have hnw : waitsB ops[k] i = false := by
          cases hw : waitsB ops[k] i
          · rfl
          · have := hcl k _ hk hko i hw
            rw [hf] at this; cases this
        have hkn : k ≠ n := fun x => by rw [x, hnf] at hk; cases hk
        exact hstab k i _ _ _ _ _ W W' e (by omega) hin' hko hnw g1 g3 hW g4
    · by_cases e : k = i
      · have e' : k' ≠ i := fun x => hkk (e.trans x.symm)
        simp only [if_pos e, if_neg e']
        exact Or.inr (hφ k' (hne' k' hk' e')).2.2.1
      · by_cases e' : k' = i
        · simp only [if_neg e, if_pos e']
          exact Or.inl (hφ k (hne' k hk e)).2.2.1
        · simp only [if_neg e, if_neg e']
          exact hdj k k' (hne' k hk e) (hne' k' hk' e') hkk
  · rintro l a' W hall (⟨-, hq⟩ | ⟨hnf, -⟩)
    · exact hq
    · rw [hall n (by omega)] at hnf; cases hnf
end
end Go.Proofs.YtpaedkefmebjjarGreat
namespace Go.Proofs.YtpaedkefmebjjarGreat
set_option linter.unusedVariables false
set_option linter.unusedSimpArgs false
open Go.ChangeShapes Go.WideShapes Go.ChangeAt Go.RowKit
theorem SG.onD {W : World} {lo q : Nat} {ov : Value} {gb cp ln : Nat → Nat} {f : Nat → Nat → Int} (H : SG W lo ov q gb cp ln f) {D : Nat → Prop} (hD : ∀ b, (ov.ownBlock = some b ∨ ∃ i, i < q ∧ gb i = b) → D b) (hs : psum ln q ≤ 1099511627776) : SsOn W D ov q ln f := by
  have key : ∀ i, i < q → ∀ b o, Foot (some ⟨gb i, 0, none⟩) (ln i) b o → b = gb i := fun i hi b o ⟨off, e, _, _⟩ => by
    simp only [Option.some.injEq, Addr.mk.injEq] at e
    exact e.1.symm
  rcases id H.own.2 with ⟨e, e0⟩ | ⟨g, c, cur, hv, hb, hg, k1, k2, k3, k4⟩
  · have hq : q = 0 := by simpa using e0
    subst hq
    subst e
    refine ⟨fun _ => none, fun _ => 0, ⟨⟨none, 0, rfl, by omega, fun i hi => absurd hi (Nat.not_lt_zero _)⟩, fun i hi => absurd hi (Nat.not_lt_zero _), fun i j hi => absurd hi (Nat.not_lt_zero _), hs⟩, fun i hi => absurd hi (Nat.not_lt_zero _), fun i hi => absurd hi (Nat.not_lt_zero _), fun a cap e b o hF => absurd hF (foot_none _ _ _), fun i hi => absurd hi (Nat.not_lt_zero _)⟩
  · subst hv
    have hob : (Value.slice (some ⟨g, 0, none⟩) q c).ownBlock = some g := rfl
    have hcell : ∀ i, i < q → W.cell? ⟨g, i, none⟩ = some (.slice (some ⟨gb i, 0, none⟩) (ln i) (cp i)) := fun i hi => by
      have := own_cells H.own i (.slice (some ⟨gb i, 0, none⟩) (ln i) (cp i)) (by unfold outS; simp [hi])
      rwa [add_at, Nat.zero_add] at this
    refine ⟨fun i => some ⟨gb i, 0, none⟩, cp, ⟨⟨_, _, rfl, H.small, fun i hi => ⟨g, 0, rfl, by rw [Nat.zero_add]; exact hcell i hi, fun j hj hF => H.dj g hob j hj (key j hj _ _ hF).symm⟩⟩, fun i hi => (H.rows i hi).sl.free, fun i j hi hj hij b o h1 h2 => H.inj i j hi hj hij ((key i hi _ _ h1).symm.trans (key j hj _ _ h2)), hs⟩, fun i hi => (H.rows i hi).sl.row, fun i hi b o hF => ?_, fun a cap e b o hF => ?_, fun i hi => (H.rows i hi).small⟩
    · rw [key i hi b o hF]
      exact hD _ (Or.inr ⟨i, hi, rfl⟩)
    · simp only [Value.slice.injEq, true_and] at e
      obtain ⟨rfl, -⟩ := e
      obtain ⟨off, e, _, _⟩ := hF
      simp only [Option.some.injEq, Addr.mk.injEq] at e
      rw [← e.1]
      exact hD _ (Or.inl rfl)
theorem SG.mono {W : World} {lo lo' q : Nat} {ov : Value} {gb cp ln : Nat → Nat} {f : Nat → Nat → Int} (H : SG W lo ov q gb cp ln f) (h : lo' ≤ lo) : SG W lo' ov q gb cp ln f :=
  ⟨own_lo H.own h, fun i hi => (H.rows i hi).mono h, H.inj, H.dj, H.small⟩
theorem SG.form {W : World} {lo q : Nat} {ov : Value} {gb cp ln : Nat → Nat} {f : Nat → Nat → Int} (H : SG W lo ov q gb cp ln f) : ∃ oa oc, ov = .slice oa q oc := by
  rcases H.own.2 with ⟨e, e0⟩ | ⟨g, c, cur, hv, -⟩
  · have : q = 0 := by simpa using e0
    exact ⟨none, 0, by rw [e, this]⟩
  · exact ⟨_, _, hv⟩
/-- A row whose block has no cells has none. -/
theorem Row.none0 {W : World} {lo g n c : Nat} {f : Nat → Int} (h : Row W lo g n c f) (hg : W.heap[g]? = some (.cells #[] 3 (0, 0))) : n = 0 ∧ c = 0 := by
  rcases h.own.2 with ⟨e, _⟩ | ⟨g', cap, cur, hv, hb, hg', h1, h2, h3, h4⟩
  · cases e
  · simp only [Value.slice.injEq, Option.some.injEq, Addr.mk.injEq, and_true, true_and] at hv
    obtain ⟨rfl, rfl⟩ := hv
    rw [hg] at hg'
    simp only [Option.some.injEq, Obj.cells.injEq, and_true] at hg'
    have : cur.size = 0 := by rw [← hg']; rfl
    omega
/-- A console in step that a call owns, with the room behind what is told. -/
structure LockOw (W : World) (lo : Nat) (v : Value) (d : LockD) : Prop where
  ex : ∃ (D : Nat → Nat → Prop) (u0 u1 u2 u3 u4 ov : Value) (gb cp : Nat → Nat) (g6 c6 g7 c7 : Nat), v = .agg #[u0, u1, u2, .int .i64 d.bank, .int .i64 d.A, .int .i64 d.X, .int .i64 d.S, .int .i64 d.Pc, .bool d.Z, .bool d.N, .bool d.C, .bool d.I, .int .i64 d.t, .int .i64 d.c, .int .i64 d.s, .int .i64 d.ad, .int .i64 d.pl, .bool d.bl, u3, u4, .int .i64 d.T, .int .i64 d.P, .int .i64 d.K, .int .i64 d.B, .int .i64 d.L, .bool d.Q, .bool d.R, .bool d.hd, .int .i64 d.sh, .bool d.nmi, .int .i64 d.st, ov, .slice (some ⟨g6, 0, none⟩) d.ns c6, .slice (some ⟨g7, 0, none⟩) d.nq c7] ∧ SsOn W (D 0) u0 d.m d.ln d.f ∧ ListOn W (D 1) u1 d.np d.p ∧ MemOn W (D 2) (.agg #[u2, .int .i64 d.bank]) d.nr d.g d.bank ∧ PpuOn W (D 3) (.agg #[.int .i64 d.t, .int .i64 d.c, .int .i64 d.s, .int .i64 d.ad, .int .i64 d.pl, .bool d.bl, u3, u4]) d.t d.c d.s d.ad d.pl d.bl d.nt d.tb d.nd d.dt ∧
    SG W lo ov d.mf gb cp d.lf d.fr ∧ (∀ b, (ov.ownBlock = some b ∨ ∃ i, i < d.mf ∧ gb i = b) → D 4 b) ∧ Row W lo g6 d.ns c6 d.sm ∧ (D 5 g6 ∨ (d.ns = 0 ∧ c6 = 0)) ∧ Row W lo g7 d.nq c7 d.rd ∧ (D 6 g7 ∨ (d.nq = 0 ∧ c7 = 0)) ∧ Dis D ∧ (∀ i b, D i b → lo ≤ b ∧ b < W.heap.size) ∧ psum d.lf d.mf ≤ 1099511627776
theorem Row.onE {W : World} {lo g n c : Nat} {f : Nat → Int} {D : Nat → Prop} (h : Row W lo g n c f) (hd : D g ∨ (n = 0 ∧ c = 0)) : ListOn W D (.slice (some ⟨g, 0, none⟩) n c) n f := by
  rcases hd with hd | ⟨rfl, -⟩
  · exact ⟨_, _, rfl, h.onD hd⟩
  · exact ⟨_, _, rfl, SlOn.zero _ f⟩
theorem LockOw.on {W : World} {lo : Nat} {v : Value} {d : LockD} (H : LockOw W lo v d) : ∃ D, LockOn W D v d ∧ Dis D ∧ ∀ i b, D i b → lo ≤ b ∧ b < W.heap.size := by
  obtain ⟨D, u0, u1, u2, u3, u4, ov, gb, cp, g6, c6, g7, c7, e, h0, h1, h2, h3, h4, h4D, h6, h6D, h7, h7D, dis, bd, hs⟩ := H
  exact ⟨D, ⟨u0, u1, u2, u3, u4, ov, _, _, e, h0, h1, h2, h3, _, _, _, rfl, h4.onD h4D hs, h6.onE h6D, h7.onE h7D⟩, dis, bd⟩
set_option maxRecDepth 40000 in
set_option maxHeartbeats 8000000 in
theorem l12Copy (w : World) (D : Nat → Nat → Prop) (v : Value) (d : LockD) (H : LockOn w D v d) : Calls Tryz.prog 19 #[v] w fun e w' => ∃ v', e = .returned v' ∧ LockOw w' w.heap.size v' d ∧ Below w.heap.size w w' := by
  obtain ⟨u0, u1, u2, u3, u4, u5, u6, u7, rfl, h0, h1, h2, h3, h4⟩ := H
  obtain ⟨v5, v6, v7, hv, h5, h6, h7⟩ := h4
  simp only [Value.agg.injEq, Array.mk.injEq, List.cons.injEq, and_true] at hv
  obtain ⟨rfl, rfl, rfl⟩ := hv
  obtain ⟨y2, hy2, H2⟩ := h2.ints
  simp only [Value.agg.injEq, Array.mk.injEq, List.cons.injEq, and_true] at hy2
  subst hy2
  obtain ⟨y3, y4, hy3, H3, H4⟩ := h3.ints
  simp only [Value.agg.injEq, Array.mk.injEq, List.cons.injEq, and_true, true_and] at hy3
  obtain ⟨rfl, rfl⟩ := hy3
  have H0 := h0.ints
  have H5 := h5.ints
  obtain ⟨a6, c6, e6, s6⟩ := id h6
  obtain ⟨a7, c7, e7, s7⟩ := id h7
  obtain ⟨a1, c1, e1, s1⟩ := id h1
  subst e6
  subst e7
  subst e1
  have H1 := s1.ints c1
  have H6 := s6.ints c6
  have H7 := s7.ints c7
  obtain ⟨a0, c0, rfl, -⟩ := id H0
  obtain ⟨a5, c5, rfl, -⟩ := id H5
  obtain ⟨a2, c2, rfl, -⟩ := id H2
  obtain ⟨a3, c3, rfl, -⟩ := id H3
  obtain ⟨a4, c4, rfl, -⟩ := id H4
  have hps := h5.small
  clear h0 h1 h2 h3 h5 h6 h7 s1 s6 s7
  have L0 : Below w.heap.size w ((w.alloc (.cells #[.slice a0 d.m c0, .slice a1 d.np c1, .slice a2 d.nr c2, .int .i64 d.bank, .int .i64 d.A, .int .i64 d.X, .int .i64 d.S, .int .i64 d.Pc, .bool d.Z, .bool d.N, .bool d.C, .bool d.I, .int .i64 d.t, .int .i64 d.c, .int .i64 d.s, .int .i64 d.ad, .int .i64 d.pl, .bool d.bl, .slice a3 d.nt c3, .slice a4 d.nd c4, .int .i64 d.T, .int .i64 d.P, .int .i64 d.K, .int .i64 d.B, .int .i64 d.L, .bool d.Q, .bool d.R, .bool d.hd, .int .i64 d.sh, .bool d.nmi, .int .i64 d.st, .slice a5 d.mf c5, .slice a6 d.ns c6, .slice a7 d.nq c7] 49)).alloc (.cells #[.slice none 0 0, .slice none 0 0, .slice none 0 0, .int .i64 0, .int .i64 0, .int .i64 0, .int .i64 0, .int .i64 0, .bool false, .bool false, .bool false, .bool false, .int .i64 0, .int .i64 0, .int .i64 0, .int .i64 0, .int .i64 0, .bool false, .slice none 0 0, .slice none 0 0, .int .i64 0, .int .i64 0, .int .i64 0, .int .i64 0, .int .i64 0, .bool false, .bool false, .bool false, .int .i64 0, .bool false, .int .i64 0, .slice none 0 0, .slice none 0 0, .slice none 0 0] 49)) := ((Below.refl _ _).alloc (Nat.le_refl _) _).alloc (by simp) _
  have B0 : ((w.alloc (.cells #[.slice a0 d.m c0, .slice a1 d.np c1, .slice a2 d.nr c2, .int .i64 d.bank, .int .i64 d.A, .int .i64 d.X, .int .i64 d.S, .int .i64 d.Pc, .bool d.Z, .bool d.N, .bool d.C, .bool d.I, .int .i64 d.t, .int .i64 d.c, .int .i64 d.s, .int .i64 d.ad, .int .i64 d.pl, .bool d.bl, .slice a3 d.nt c3, .slice a4 d.nd c4, .int .i64 d.T, .int .i64 d.P, .int .i64 d.K, .int .i64 d.B, .int .i64 d.L, .bool d.Q, .bool d.R, .bool d.hd, .int .i64 d.sh, .bool d.nmi, .int .i64 d.st, .slice a5 d.mf c5, .slice a6 d.ns c6, .slice a7 d.nq c7] 49)).alloc (.cells #[.slice none 0 0, .slice none 0 0, .slice none 0 0, .int .i64 0, .int .i64 0, .int .i64 0, .int .i64 0, .int .i64 0, .bool false, .bool false, .bool false, .bool false, .int .i64 0, .int .i64 0, .int .i64 0, .int .i64 0, .int .i64 0, .bool false, .slice none 0 0, .slice none 0 0, .int .i64 0, .int .i64 0, .int .i64 0, .int .i64 0, .int .i64 0, .bool false, .bool false, .bool false, .int .i64 0, .bool false, .int .i64 0, .slice none 0 0, .slice none 0 0, .slice none 0 0] 49)).heap[w.heap.size]? = some (.cells #[.slice a0 d.m c0, .slice a1 d.np c1, .slice a2 d.nr c2, .int .i64 d.bank, .int .i64 d.A, .int .i64 d.X, .int .i64 d.S, .int .i64 d.Pc, .bool d.Z, .bool d.N, .bool d.C, .bool d.I, .int .i64 d.t, .int .i64 d.c, .int .i64 d.s, .int .i64 d.ad, .int .i64 d.pl, .bool d.bl, .slice a3 d.nt c3, .slice a4 d.nd c4, .int .i64 d.T, .int .i64 d.P, .int .i64 d.K, .int .i64 d.B, .int .i64 d.L, .bool d.Q, .bool d.R, .bool d.hd, .int .i64 d.sh, .bool d.nmi, .int .i64 d.st, .slice a5 d.mf c5, .slice a6 d.ns c6, .slice a7 d.nq c7] 49 (0, 0)) := boxA (box_new w _ _) _
  have B1 : ((w.alloc (.cells #[.slice a0 d.m c0, .slice a1 d.np c1, .slice a2 d.nr c2, .int .i64 d.bank, .int .i64 d.A, .int .i64 d.X, .int .i64 d.S, .int .i64 d.Pc, .bool d.Z, .bool d.N, .bool d.C, .bool d.I, .int .i64 d.t, .int .i64 d.c, .int .i64 d.s, .int .i64 d.ad, .int .i64 d.pl, .bool d.bl, .slice a3 d.nt c3, .slice a4 d.nd c4, .int .i64 d.T, .int .i64 d.P, .int .i64 d.K, .int .i64 d.B, .int .i64 d.L, .bool d.Q, .bool d.R, .bool d.hd, .int .i64 d.sh, .bool d.nmi, .int .i64 d.st, .slice a5 d.mf c5, .slice a6 d.ns c6, .slice a7 d.nq c7] 49)).alloc (.cells #[.slice none 0 0, .slice none 0 0, .slice none 0 0, .int .i64 0, .int .i64 0, .int .i64 0, .int .i64 0, .int .i64 0, .bool false, .bool false, .bool false, .bool false, .int .i64 0, .int .i64 0, .int .i64 0, .int .i64 0, .int .i64 0, .bool false, .slice none 0 0, .slice none 0 0, .int .i64 0, .int .i64 0, .int .i64 0, .int .i64 0, .int .i64 0, .bool false, .bool false, .bool false, .int .i64 0, .bool false, .int .i64 0, .slice none 0 0, .slice none 0 0, .slice none 0 0] 49)).heap[w.heap.size + 1]? = some (.cells #[.slice none 0 0, .slice none 0 0, .slice none 0 0, .int .i64 0, .int .i64 0, .int .i64 0, .int .i64 0, .int .i64 0, .bool false, .bool false, .bool false, .bool false, .int .i64 0, .int .i64 0, .int .i64 0, .int .i64 0, .int .i64 0, .bool false, .slice none 0 0, .slice none 0 0, .int .i64 0, .int .i64 0, .int .i64 0, .int .i64 0, .int .i64 0, .bool false, .bool false, .bool false, .int .i64 0, .bool false, .int .i64 0, .slice none 0 0, .slice none 0 0, .slice none 0 0] 49 (0, 0)) := by simpa using box_new (w.alloc (.cells #[.slice a0 d.m c0, .slice a1 d.np c1, .slice a2 d.nr c2, .int .i64 d.bank, .int .i64 d.A, .int .i64 d.X, .int .i64 d.S, .int .i64 d.Pc, .bool d.Z, .bool d.N, .bool d.C, .bool d.I, .int .i64 d.t, .int .i64 d.c, .int .i64 d.s, .int .i64 d.ad, .int .i64 d.pl, .bool d.bl, .slice a3 d.nt c3, .slice a4 d.nd c4, .int .i64 d.T, .int .i64 d.P, .int .i64 d.K, .int .i64 d.B, .int .i64 d.L, .bool d.Q, .bool d.R, .bool d.hd, .int .i64 d.sh, .bool d.nmi, .int .i64 d.st, .slice a5 d.mf c5, .slice a6 d.ns c6, .slice a7 d.nq c7] 49)) #[.slice none 0 0, .slice none 0 0, .slice none 0 0, .int .i64 0, .int .i64 0, .int .i64 0, .int .i64 0, .int .i64 0, .bool false, .bool false, .bool false, .bool false, .int .i64 0, .int .i64 0, .int .i64 0, .int .i64 0, .int .i64 0, .bool false, .slice none 0 0, .slice none 0 0, .int .i64 0, .int .i64 0, .int .i64 0, .int .i64 0, .int .i64 0, .bool false, .bool false, .bool false, .int .i64 0, .bool false, .int .i64 0, .slice none 0 0, .slice none 0 0, .slice none 0 0] 49
  go_enter Tryz.func19, Tryz.ntmps19
  go_upto_region 1 with (fail)
  generalize (w.alloc (.cells #[.slice a0 d.m c0, .slice a1 d.np c1, .slice a2 d.nr c2, .int .i64 d.bank, .int .i64 d.A, .int .i64 d.X, .int .i64 d.S, .int .i64 d.Pc, .bool d.Z, .bool d.N, .bool d.C, .bool d.I, .int .i64 d.t, .int .i64 d.c, .int .i64 d.s, .int .i64 d.ad, .int .i64 d.pl, .bool d.bl, .slice a3 d.nt c3, .slice a4 d.nd c4, .int .i64 d.T, .int .i64 d.P, .int .i64 d.K, .int .i64 d.B, .int .i64 d.L, .bool d.Q, .bool d.R, .bool d.hd, .int .i64 d.sh, .bool d.nmi, .int .i64 d.st, .slice a5 d.mf c5, .slice a6 d.ns c6, .slice a7 d.nq c7] 49)).alloc (.cells #[.slice none 0 0, .slice none 0 0, .slice none 0 0, .int .i64 0, .int .i64 0, .int .i64 0, .int .i64 0, .int .i64 0, .bool false, .bool false, .bool false, .bool false, .int .i64 0, .int .i64 0, .int .i64 0, .int .i64 0, .int .i64 0, .bool false, .slice none 0 0, .slice none 0 0, .int .i64 0, .int .i64 0, .int .i64 0, .int .i64 0, .int .i64 0, .bool false, .bool false, .bool false, .int .i64 0, .bool false, .int .i64 0, .slice none 0 0, .slice none 0 0, .slice none 0 0] 49) = W0 at *
  obtain ⟨p0, hp0⟩ : ∃ p, Hid (p = W0.heap.size) := ⟨_, rfl⟩
  have l0 : w.heap.size + 1 < p0 := by rw [hp0.out]; exact boxLt B1
  have c0' := boxC B0
  go_wp2_with fail
  clear c0'
  refine (l12Image _ _ _ d.m d.ln d.f (H0.keep (wrote_below L0 Nowhere) (fun _ _ _ x => x))).mono ?_
  rintro e W1 ⟨v0, rfl, G0, L⟩
  obtain ⟨p1, hp1⟩ : ∃ p, Hid (p = W1.heap.size) := ⟨_, rfl⟩
  have l1 : p0 ≤ p1 := by rw [hp0.out, hp1.out]; exact L.size
  rw [← hp0.out, ← hp1.out] at G0
  replace L0 := below_snoc L0 L
  replace B0 := box_keep B0 L (boxLt B0)
  replace B1 := box_keep B1 L (boxLt B1)
  clear L hp0
  obtain ⟨x0, y0, rfl⟩ := G0.form
  have c0' := boxC B0
  have f0' := boxF B0
  go_upto_region 2 with (fail)
  clear c0' f0'
  have TT := Wrote.setCell (b := w.heap.size) (o := 0) (R := fun b _ => b = w.heap.size) (Wrote.refl _ W1) (fun _ => rfl) (.slice x0 d.m y0)
  replace L0 := L0.trans (TT.below L0.size (fun b o hb (h : b = _) => by omega))
  replace B1 := box_wrote B1 TT (fun o (h : _ = _) => by omega)
  replace B0 := box_set (o := 0) B0 (.slice x0 d.m y0)
  simp only [List.setIfInBounds_toArray, List.set_cons_succ, List.set_cons_zero] at B0
  replace G0 := G0.keep TT (fun b o hb _ (h : b = _) => by obtain ⟨h1, h2⟩ := hb; omega)
  replace hp1 : Hid (p1 = (W1.setCell ⟨w.heap.size, 0, none⟩ (.slice x0 d.m y0)).heap.size) := by show _ = _; rw [hp1.out]; simp
  clear TT
  generalize W1.setCell ⟨w.heap.size, 0, none⟩ (.slice x0 d.m y0) = W2 at *
  have LA : Below W2.heap.size W2 (W2.alloc (.cells #[] 3)) := (Below.refl _ _).alloc (Nat.le_refl _) _
  have hE := box_new W2 #[] 3
  have c0' := boxC (box_keep B0 LA (boxLt B0))
  have hsA : Hid ((W2.alloc (.cells #[] 3)).heap.size = p1 + 1) := by show _ = _; rw [hp1.out]; simp
  go_wp2_with (at_builtin; refine wpList_copy _ rfl _ _ rfl W2.heap.size rfl hE w.heap.size L0.size _ (.slice a1 d.np c1) d.np d.p rfl (H1.keep (wrote_below (below_snoc L0 LA) Nowhere) (fun _ _ _ x => x)) ?_)
  intro g1 y1 W3 G1 L hat
  clear c0' hE
  replace L : Below (W2.alloc (.cells #[] 3)).heap.size (W2.alloc (.cells #[] 3)) W3 := by simpa using L
  replace L := below_snoc LA L
  have hg1 : p1 ≤ g1 := by have := hp1.out; rcases hat with h | h; (omega); (have : W2.heap.size + 1 ≤ g1 := by simpa using h); omega
  clear hat LA hsA
  obtain ⟨p2, hp2⟩ : ∃ p, Hid (p = W3.heap.size) := ⟨_, rfl⟩
  have l2 : p1 ≤ p2 := by rw [hp1.out, hp2.out]; exact L.size
  have G1' := G1
  replace G1 : ListOn W3 (fun b => p1 ≤ b ∧ b < p2) (.slice (some ⟨g1, 0, none⟩) d.np y1) d.np d.p := ⟨_, _, rfl, G1'.onD ⟨hg1, by rw [hp2.out]; exact G1'.parts.2.1⟩⟩
  clear G1'
  replace L0 := below_snoc L0 L
  replace B0 := box_keep B0 L (boxLt B0)
  replace B1 := box_keep B1 L (boxLt B1)
  replace G0 := G0.below L
  clear L hp1
  have c0' := boxC B0
  have f0' := boxF B0
  go_upto_region 3 with (fail)
  clear c0' f0'
  have TT := Wrote.setCell (b := w.heap.size) (o := 1) (R := fun b _ => b = w.heap.size) (Wrote.refl _ W3) (fun _ => rfl) (.slice (some ⟨g1, 0, none⟩) d.np y1)
  replace L0 := L0.trans (TT.below L0.size (fun b o hb (h : b = _) => by omega))
  replace B1 := box_wrote B1 TT (fun o (h : _ = _) => by omega)
  replace B0 := box_set (o := 1) B0 (.slice (some ⟨g1, 0, none⟩) d.np y1)
  simp only [List.setIfInBounds_toArray, List.set_cons_succ, List.set_cons_zero] at B0
  replace G0 := G0.keep TT (fun b o hb _ (h : b = _) => by obtain ⟨h1, h2⟩ := hb; omega)
  replace G1 := G1.keep TT (fun b o hb _ (h : b = _) => by obtain ⟨h1, h2⟩ := hb; omega)
  replace hp2 : Hid (p2 = (W3.setCell ⟨w.heap.size, 1, none⟩ (.slice (some ⟨g1, 0, none⟩) d.np y1)).heap.size) := by show _ = _; rw [hp2.out]; simp
  clear TT
  generalize W3.setCell ⟨w.heap.size, 1, none⟩ (.slice (some ⟨g1, 0, none⟩) d.np y1) = W4 at *
  have c0' := boxC B0
  go_wp2_with fail
  clear c0'
  refine (l6Copy _ _ _ d.nr d.g d.bank (H2.keep (wrote_below L0 Nowhere) (fun _ _ _ x => x))).mono ?_
  rintro e W5 ⟨v2, rfl, G2, L⟩
  obtain ⟨p3, hp3⟩ : ∃ p, Hid (p = W5.heap.size) := ⟨_, rfl⟩
  have l3 : p2 ≤ p3 := by rw [hp2.out, hp3.out]; exact L.size
  replace G2 := (MemOn.own (bank := d.bank) G2).mono (E := fun b => p2 ≤ b ∧ b < p3) (fun b hb h => ⟨by rw [hp2.out]; exact h, by rw [hp3.out]; exact hb⟩)
  replace L0 := below_snoc L0 L
  replace B0 := box_keep B0 L (boxLt B0)
  replace B1 := box_keep B1 L (boxLt B1)
  replace G0 := G0.below L
  replace G1 := G1.below L
  clear L hp2
  obtain ⟨x2, y2, hx2⟩ := G2.two
  simp only [Value.agg.injEq, Array.mk.injEq, List.cons.injEq, and_true] at hx2
  subst hx2
  have c0' := boxC B0
  have f0' := boxF B0
  go_upto_region 4 with (fail)
  clear c0' f0'
  have TT := Wrote.setCell (b := w.heap.size) (o := 3) (R := fun b _ => b = w.heap.size) (Wrote.setCell (b := w.heap.size) (o := 2) (R := fun b _ => b = w.heap.size) (Wrote.refl _ W5) (fun _ => rfl) (.slice x2 d.nr y2)) (fun _ => rfl) (.int .i64 d.bank)
  replace L0 := L0.trans (TT.below L0.size (fun b o hb (h : b = _) => by omega))
  replace B1 := box_wrote B1 TT (fun o (h : _ = _) => by omega)
  replace B0 := box_set (o := 2) B0 (.slice x2 d.nr y2)
  replace B0 := box_set (o := 3) B0 (.int .i64 d.bank)
  simp only [List.setIfInBounds_toArray, List.set_cons_succ, List.set_cons_zero] at B0
  replace G0 := G0.keep TT (fun b o hb _ (h : b = _) => by obtain ⟨h1, h2⟩ := hb; omega)
  replace G1 := G1.keep TT (fun b o hb _ (h : b = _) => by obtain ⟨h1, h2⟩ := hb; omega)
  replace G2 := G2.keep TT (fun b o hb _ (h : b = _) => by obtain ⟨h1, h2⟩ := hb; omega)
  replace hp3 : Hid (p3 = ((W5.setCell ⟨w.heap.size, 2, none⟩ (.slice x2 d.nr y2)).setCell ⟨w.heap.size, 3, none⟩ (.int .i64 d.bank)).heap.size) := by show _ = _; rw [hp3.out]; simp
  clear TT
  generalize (W5.setCell ⟨w.heap.size, 2, none⟩ (.slice x2 d.nr y2)).setCell ⟨w.heap.size, 3, none⟩ (.int .i64 d.bank) = W6 at *
  have c0' := boxC B0
  go_wp2_with fail
  clear c0'
  refine (l8Copy _ _ _ d.t d.c d.s d.ad d.pl d.bl _ _ d.nt d.tb d.nd d.dt (H3.keep (wrote_below L0 Nowhere) (fun _ _ _ x => x)) (H4.keep (wrote_below L0 Nowhere) (fun _ _ _ x => x))).mono ?_
  rintro e W7 ⟨g3, y3, g4, y4, rfl, R3, R4, n34, L⟩
  obtain ⟨p4, hp4⟩ : ∃ p, Hid (p = W7.heap.size) := ⟨_, rfl⟩
  have l4 : p3 ≤ p4 := by rw [hp3.out, hp4.out]; exact L.size
  have G3 : PpuOn W7 (fun b => p3 ≤ b ∧ b < p4) (.agg #[.int .i64 d.t, .int .i64 d.c, .int .i64 d.s, .int .i64 d.ad, .int .i64 d.pl, .bool d.bl, .slice (some ⟨g3, 0, none⟩) d.nt y3, .slice (some ⟨g4, 0, none⟩) d.nd y4]) d.t d.c d.s d.ad d.pl d.bl d.nt d.tb d.nd d.dt := ⟨_, _, _, _, rfl, R3.onD ⟨by rw [hp3.out]; exact R3.parts.1, by rw [hp4.out]; exact R3.parts.2.1⟩, R4.onD ⟨by rw [hp3.out]; exact R4.parts.1, by rw [hp4.out]; exact R4.parts.2.1⟩, apart_blocks n34⟩
  clear R3 R4 n34
  replace L0 := below_snoc L0 L
  replace B0 := box_keep B0 L (boxLt B0)
  replace B1 := box_keep B1 L (boxLt B1)
  replace G0 := G0.below L
  replace G1 := G1.below L
  replace G2 := G2.below L
  clear L hp3
  have c0' := boxC B0
  have f0' := boxF B0
  go_upto_region 5 with (fail)
  clear c0' f0'
  have TT := Wrote.setCell (b := w.heap.size) (o := 19) (R := fun b _ => b = w.heap.size) (Wrote.setCell (b := w.heap.size) (o := 18) (R := fun b _ => b = w.heap.size) (Wrote.setCell (b := w.heap.size) (o := 17) (R := fun b _ => b = w.heap.size) (Wrote.setCell (b := w.heap.size) (o := 16) (R := fun b _ => b = w.heap.size) (Wrote.setCell (b := w.heap.size) (o := 15) (R := fun b _ => b = w.heap.size) (Wrote.setCell (b := w.heap.size) (o := 14) (R := fun b _ => b = w.heap.size) (Wrote.setCell (b := w.heap.size) (o := 13) (R := fun b _ => b = w.heap.size) (Wrote.setCell (b := w.heap.size) (o := 12) (R := fun b _ => b = w.heap.size) (Wrote.refl _ W7) (fun _ => rfl) (.int .i64 d.t)) (fun _ => rfl) (.int .i64 d.c)) (fun _ => rfl) (.int .i64 d.s)) (fun _ => rfl) (.int .i64 d.ad)) (fun _ => rfl) (.int .i64 d.pl)) (fun _ => rfl) (.bool d.bl)) (fun _ => rfl) (.slice (some ⟨g3, 0, none⟩) d.nt y3)) (fun _ => rfl) (.slice (some ⟨g4, 0, none⟩) d.nd y4)
  replace L0 := L0.trans (TT.below L0.size (fun b o hb (h : b = _) => by omega))
  replace B1 := box_wrote B1 TT (fun o (h : _ = _) => by omega)
  replace B0 := box_set (o := 12) B0 (.int .i64 d.t)
  replace B0 := box_set (o := 13) B0 (.int .i64 d.c)
  replace B0 := box_set (o := 14) B0 (.int .i64 d.s)
  replace B0 := box_set (o := 15) B0 (.int .i64 d.ad)
  replace B0 := box_set (o := 16) B0 (.int .i64 d.pl)
  replace B0 := box_set (o := 17) B0 (.bool d.bl)
  replace B0 := box_set (o := 18) B0 (.slice (some ⟨g3, 0, none⟩) d.nt y3)
  replace B0 := box_set (o := 19) B0 (.slice (some ⟨g4, 0, none⟩) d.nd y4)
  simp only [List.setIfInBounds_toArray, List.set_cons_succ, List.set_cons_zero] at B0
  replace G0 := G0.keep TT (fun b o hb _ (h : b = _) => by obtain ⟨h1, h2⟩ := hb; omega)
  replace G1 := G1.keep TT (fun b o hb _ (h : b = _) => by obtain ⟨h1, h2⟩ := hb; omega)
  replace G2 := G2.keep TT (fun b o hb _ (h : b = _) => by obtain ⟨h1, h2⟩ := hb; omega)
  replace G3 := G3.keep TT (fun b o hb _ (h : b = _) => by obtain ⟨h1, h2⟩ := hb; omega)
  replace hp4 : Hid (p4 = ((((((((W7.setCell ⟨w.heap.size, 12, none⟩ (.int .i64 d.t)).setCell ⟨w.heap.size, 13, none⟩ (.int .i64 d.c)).setCell ⟨w.heap.size, 14, none⟩ (.int .i64 d.s)).setCell ⟨w.heap.size, 15, none⟩ (.int .i64 d.ad)).setCell ⟨w.heap.size, 16, none⟩ (.int .i64 d.pl)).setCell ⟨w.heap.size, 17, none⟩ (.bool d.bl)).setCell ⟨w.heap.size, 18, none⟩ (.slice (some ⟨g3, 0, none⟩) d.nt y3)).setCell ⟨w.heap.size, 19, none⟩ (.slice (some ⟨g4, 0, none⟩) d.nd y4)).heap.size) := by show _ = _; rw [hp4.out]; simp
  clear TT
  generalize (((((((W7.setCell ⟨w.heap.size, 12, none⟩ (.int .i64 d.t)).setCell ⟨w.heap.size, 13, none⟩ (.int .i64 d.c)).setCell ⟨w.heap.size, 14, none⟩ (.int .i64 d.s)).setCell ⟨w.heap.size, 15, none⟩ (.int .i64 d.ad)).setCell ⟨w.heap.size, 16, none⟩ (.int .i64 d.pl)).setCell ⟨w.heap.size, 17, none⟩ (.bool d.bl)).setCell ⟨w.heap.size, 18, none⟩ (.slice (some ⟨g3, 0, none⟩) d.nt y3)).setCell ⟨w.heap.size, 19, none⟩ (.slice (some ⟨g4, 0, none⟩) d.nd y4) = W8 at *
  obtain ⟨S, hS⟩ : ∃ S, Hid (S = W8.heap.size) := ⟨_, rfl⟩
  rename_i KK hKK
  refine wp_region_effI [some 20, some 21, some 22, some 23, some 24, some 25, some 26, some 27, some 28, some 29, some 30, some 31, some 32, some 33, some 34, some 35, none] (by kernel_rfl) (by kernel_rfl) (by kernel_rfl) (by kernel_rfl) (by simp [slotsOf])
    (fun j b _ => j = 16 ∧ b = w.heap.size)
    (fun i V lo hi W => match i with
      | 0 => V 0 = .pointer (some ⟨w.heap.size, 31, none⟩)
      | 1 => V 1 = .pointer (some ⟨w.heap.size, 31, none⟩)
      | 2 => V 2 = .slice a5 d.mf c5
      | 3 => ∃ gb cp, SG W lo (V 3) d.mf gb cp d.lf d.fr ∧ ∀ b, ((V 3).ownBlock = some b ∨ ∃ i, i < d.mf ∧ gb i = b) → b < hi
      | 4 => ∃ gE, V 4 = .slice (some ⟨gE, 0, none⟩) 0 0 ∧ W.heap[gE]? = some (.cells #[] 3 (0, 0)) ∧ S ≤ gE
      | 5 => V 5 = .pointer (some ⟨w.heap.size, 31, none⟩)
      | 6 => V 6 = .pointer (some ⟨w.heap.size, 32, none⟩)
      | 7 => V 7 = .slice a6 d.ns c6
      | 8 => ∃ g c, V 8 = .slice (some ⟨g, 0, none⟩) d.ns c ∧ Row W S g d.ns c d.sm ∧ ((lo ≤ g ∧ g < hi) ∨ (d.ns = 0 ∧ c = 0))
      | 9 => ∃ gE, V 9 = .slice (some ⟨gE, 0, none⟩) 0 0 ∧ W.heap[gE]? = some (.cells #[] 3 (0, 0)) ∧ S ≤ gE
      | 10 => V 10 = .pointer (some ⟨w.heap.size, 31, none⟩)
      | 11 => V 11 = .pointer (some ⟨w.heap.size, 33, none⟩)
      | 12 => V 12 = .slice a7 d.nq c7
      | 13 => ∃ g c, V 13 = .slice (some ⟨g, 0, none⟩) d.nq c ∧ Row W S g d.nq c d.rd ∧ ((lo ≤ g ∧ g < hi) ∨ (d.nq = 0 ∧ c = 0))
      | 14 => V 14 = .agg #[V 3, V 8, V 13]
      | 15 => V 15 = .pointer (some ⟨w.heap.size, 31, none⟩)
      | _ => W.heap[w.heap.size]? = some (.cells #[.slice x0 d.m y0, .slice (some ⟨g1, 0, none⟩) d.np y1, .slice x2 d.nr y2, .int .i64 d.bank, .int .i64 d.A, .int .i64 d.X, .int .i64 d.S, .int .i64 d.Pc, .bool d.Z, .bool d.N, .bool d.C, .bool d.I, .int .i64 d.t, .int .i64 d.c, .int .i64 d.s, .int .i64 d.ad, .int .i64 d.pl, .bool d.bl, .slice (some ⟨g3, 0, none⟩) d.nt y3, .slice (some ⟨g4, 0, none⟩) d.nd y4, .int .i64 d.T, .int .i64 d.P, .int .i64 d.K, .int .i64 d.B, .int .i64 d.L, .bool d.Q, .bool d.R, .bool d.hd, .int .i64 d.sh, .bool d.nmi, .int .i64 d.st, V 3, V 8, V 13] 49 (0, 0))) ?_ ?_ ?_
  · intro i j o V x lo hi W W' hij ho hnw hlo hhi hW h
    have hS' := hS.out
    have hb1 := boxLt B1
    have far : ∀ (g k : Nat), S ≤ g → ¬ (j = 16 ∧ g = w.heap.size) := fun g k hg hR => by omega
    have nw : ∀ k, waitsB o k = true → k ≠ j := fun k hk e => by rw [e, hnw] at hk; cases hk
    match i, ho, hij, nw, h with
    | 0, _, hij, _, h => exact (updV_ne V x hij).trans h
    | 1, _, hij, _, h => exact (updV_ne V x hij).trans h
    | 2, _, hij, _, h => exact (updV_ne V x hij).trans h
    | 5, _, hij, _, h => exact (updV_ne V x hij).trans h
    | 6, _, hij, _, h => exact (updV_ne V x hij).trans h
    | 7, _, hij, _, h => exact (updV_ne V x hij).trans h
    | 10, _, hij, _, h => exact (updV_ne V x hij).trans h
    | 11, _, hij, _, h => exact (updV_ne V x hij).trans h
    | 12, _, hij, _, h => exact (updV_ne V x hij).trans h
    | 15, _, hij, _, h => exact (updV_ne V x hij).trans h
    | 3, _, hij, _, ⟨gb, cp, h1, h2⟩ =>
      rw [← updV_ne V x hij] at h1 h2
      exact ⟨gb, cp, h1.keep hW (fun g o hg => far g o (by have := own_at h1.own hg; omega)) (fun i o hi => far _ o (by have := (h1.rows i hi).parts.1; omega)), h2⟩
    | 4, _, hij, _, ⟨gE, h1, h2, h3⟩ => exact ⟨gE, (updV_ne V x hij).trans h1, box_wrote h2 hW (fun o => far gE o h3), h3⟩
    | 9, _, hij, _, ⟨gE, h1, h2, h3⟩ => exact ⟨gE, (updV_ne V x hij).trans h1, box_wrote h2 hW (fun o => far gE o h3), h3⟩
    | 8, _, hij, _, ⟨g, c, h1, h2, h3⟩ => exact ⟨g, c, (updV_ne V x hij).trans h1, h2.keep hW (fun o => far g o h2.parts.1), h3⟩
    | 13, _, hij, _, ⟨g, c, h1, h2, h3⟩ => exact ⟨g, c, (updV_ne V x hij).trans h1, h2.keep hW (fun o => far g o h2.parts.1), h3⟩
    | 14, ho, hij, nw, h =>
      simp only [List.getElem?_toArray, List.getElem?_cons_zero, List.getElem?_cons_succ, Option.some.injEq] at ho
      subst ho
      show updV V j x 14 = .agg #[updV V j x 3, updV V j x 8, updV V j x 13]
      rw [updV_ne V x hij, updV_ne V x (nw 3 (by kernel_rfl)), updV_ne V x (nw 8 (by kernel_rfl)), updV_ne V x (nw 13 (by kernel_rfl))]
      exact h
    | 16, ho, hij, nw, h =>
      simp only [List.getElem?_toArray, List.getElem?_cons_zero, List.getElem?_cons_succ, Option.some.injEq] at ho
      subst ho
      show W'.heap[w.heap.size]? = some (.cells #[.slice x0 d.m y0, .slice (some ⟨g1, 0, none⟩) d.np y1, .slice x2 d.nr y2, .int .i64 d.bank, .int .i64 d.A, .int .i64 d.X, .int .i64 d.S, .int .i64 d.Pc, .bool d.Z, .bool d.N, .bool d.C, .bool d.I, .int .i64 d.t, .int .i64 d.c, .int .i64 d.s, .int .i64 d.ad, .int .i64 d.pl, .bool d.bl, .slice (some ⟨g3, 0, none⟩) d.nt y3, .slice (some ⟨g4, 0, none⟩) d.nd y4, .int .i64 d.T, .int .i64 d.P, .int .i64 d.K, .int .i64 d.B, .int .i64 d.L, .bool d.Q, .bool d.R, .bool d.hd, .int .i64 d.sh, .bool d.nmi, .int .i64 d.st, (updV V j x 3), (updV V j x 8), (updV V j x 13)] 49 (0, 0))
      rw [updV_ne V x (nw 3 (by kernel_rfl)), updV_ne V x (nw 8 (by kernel_rfl)), updV_ne V x (nw 13 (by kernel_rfl))]
      exact box_wrote h hW (fun o ⟨e, _⟩ => hij e.symm)
    | n + 17, ho, _, _, _ => simp at ho
  · intro i o a' W K ho F L hw hK
    have hS' := hS.out
    have t1 := F.get (t := 1) (v := .pointer (some ⟨w.heap.size, 0, none⟩)) (by decide) rfl
    have LW : Below w.heap.size w W := L0.trans (L.below L0.size (fun b o hb ⟨j, _, _, _, _, h⟩ => by omega))
    have WS : S ≤ W.heap.size := by have := L.size; omega
    have r0 : i ≠ 16 → (∀ oi, waitsB oi i = true ∨ True) → True := fun _ _ => trivial
    match i with
    | 0 =>
        simp only [List.getElem?_toArray, List.getElem?_cons_zero, List.getElem?_cons_succ, Option.some.injEq] at ho
        subst ho
        go_simp
        exact hK _ _ (Wrote.refl _ _) (updV_same _ _ _)
    | 1 =>
        simp only [List.getElem?_toArray, List.getElem?_cons_zero, List.getElem?_cons_succ, Option.some.injEq] at ho
        subst ho
        obtain ⟨_, _, _, _, q0⟩ := hw 0 (by kernel_rfl)
        replace q0 : a'.tmps[20]?.getD undef = .pointer (some ⟨w.heap.size, 31, none⟩) := q0
        go_simp
        exact hK _ _ (Wrote.refl _ _) (updV_same _ _ _)
    | 2 =>
        simp only [List.getElem?_toArray, List.getElem?_cons_zero, List.getElem?_cons_succ, Option.some.injEq] at ho
        subst ho
        obtain ⟨_, _, _, _, q1⟩ := hw 1 (by kernel_rfl)
        replace q1 : a'.tmps[21]?.getD undef = .pointer (some ⟨w.heap.size, 31, none⟩) := q1
        have rb := boxC (box_wrote B0 L (fun k ⟨j, oj, hj, hoj, hwj, hR⟩ => by
          obtain ⟨rfl, -⟩ := hR
          simp only [List.getElem?_toArray, List.getElem?_cons_zero, List.getElem?_cons_succ, Option.some.injEq] at hoj
          subst hoj
          cases hwj.symm.trans (show waitsB _ 2 = true by kernel_rfl)))
        go_simp
        exact hK _ _ (Wrote.refl _ _) (updV_same _ _ _)
    | 3 =>
        simp only [List.getElem?_toArray, List.getElem?_cons_zero, List.getElem?_cons_succ, Option.some.injEq] at ho
        subst ho
        obtain ⟨_, _, _, _, q2⟩ := hw 2 (by kernel_rfl)
        replace q2 : a'.tmps[22]?.getD undef = .slice a5 d.mf c5 := q2
        go_simp
        refine (l12List W _ _ d.mf d.lf d.fr (H5.keep (wrote_below LW Nowhere) (fun _ _ _ x => x))).mono ?_
        rintro e W' ⟨ov, gb, cp, rfl, hG, hB⟩
        refine hK _ _ (wrote_below hB _) ?_
        show ∃ gb cp, SG W' W.heap.size (updV _ 3 ov 3) d.mf gb cp d.lf d.fr ∧ _
        rw [updV_same]
        exact ⟨gb, cp, hG, fun b h => by
          rcases h with h | ⟨i, hi, rfl⟩
          · exact (own_at hG.own h).2
          · exact (hG.rows i hi).parts.2.1⟩
    | 4 =>
        simp only [List.getElem?_toArray, List.getElem?_cons_zero, List.getElem?_cons_succ, Option.some.injEq] at ho
        subst ho
        go_simp
        exact hK _ _ ((Wrote.refl _ W).alloc _) ⟨_, updV_same _ _ _, box_new W #[] 3, WS⟩
    | 5 =>
        simp only [List.getElem?_toArray, List.getElem?_cons_zero, List.getElem?_cons_succ, Option.some.injEq] at ho
        subst ho
        go_simp
        exact hK _ _ (Wrote.refl _ _) (updV_same _ _ _)
    | 6 =>
        simp only [List.getElem?_toArray, List.getElem?_cons_zero, List.getElem?_cons_succ, Option.some.injEq] at ho
        subst ho
        obtain ⟨_, _, _, _, q5⟩ := hw 5 (by kernel_rfl)
        replace q5 : a'.tmps[25]?.getD undef = .pointer (some ⟨w.heap.size, 31, none⟩) := q5
        go_simp
        exact hK _ _ (Wrote.refl _ _) (updV_same _ _ _)
    | 7 =>
        simp only [List.getElem?_toArray, List.getElem?_cons_zero, List.getElem?_cons_succ, Option.some.injEq] at ho
        subst ho
        obtain ⟨_, _, _, _, q6⟩ := hw 6 (by kernel_rfl)
        replace q6 : a'.tmps[26]?.getD undef = .pointer (some ⟨w.heap.size, 32, none⟩) := q6
        have rb := boxC (box_wrote B0 L (fun k ⟨j, oj, hj, hoj, hwj, hR⟩ => by
          obtain ⟨rfl, -⟩ := hR
          simp only [List.getElem?_toArray, List.getElem?_cons_zero, List.getElem?_cons_succ, Option.some.injEq] at hoj
          subst hoj
          cases hwj.symm.trans (show waitsB _ 7 = true by kernel_rfl)))
        go_simp
        exact hK _ _ (Wrote.refl _ _) (updV_same _ _ _)
    | 8 =>
        simp only [List.getElem?_toArray, List.getElem?_cons_zero, List.getElem?_cons_succ, Option.some.injEq] at ho
        subst ho
        obtain ⟨_, _, _, _, gE, q0, q1, q2⟩ := hw 4 (by kernel_rfl)
        replace q0 : a'.tmps[24]?.getD undef = .slice (some ⟨gE, 0, none⟩) 0 0 := q0
        obtain ⟨_, _, _, _, q7⟩ := hw 7 (by kernel_rfl)
        replace q7 : a'.tmps[27]?.getD undef = .slice a6 d.ns c6 := q7
        refine wp_copy W (.tmp 24) (.tmp 27) rfl gE (by simpa [Act.eval] using q0) q1 S q2 _ _ d.ns d.sm (by simpa [Act.eval] using q7) (H6.keep (wrote_below LW Nowhere) (fun _ _ _ x => x)) ?_
        intro g c W' hR hB hat
        refine hK _ _ (wrote_below hB _) ⟨g, c, updV_same _ _ _, hR, ?_⟩
        rcases hat with h | h
        · exact Or.inr (hR.none0 (by rw [h]; exact box_keep q1 hB (boxLt q1)))
        · exact Or.inl ⟨h, hR.parts.2.1⟩
    | 9 =>
        simp only [List.getElem?_toArray, List.getElem?_cons_zero, List.getElem?_cons_succ, Option.some.injEq] at ho
        subst ho
        go_simp
        exact hK _ _ ((Wrote.refl _ W).alloc _) ⟨_, updV_same _ _ _, box_new W #[] 3, WS⟩
    | 10 =>
        simp only [List.getElem?_toArray, List.getElem?_cons_zero, List.getElem?_cons_succ, Option.some.injEq] at ho
        subst ho
        go_simp
        exact hK _ _ (Wrote.refl _ _) (updV_same _ _ _)
    | 11 =>
        simp only [List.getElem?_toArray, List.getElem?_cons_zero, List.getElem?_cons_succ, Option.some.injEq] at ho
        subst ho
        obtain ⟨_, _, _, _, q10⟩ := hw 10 (by kernel_rfl)
        replace q10 : a'.tmps[30]?.getD undef = .pointer (some ⟨w.heap.size, 31, none⟩) := q10
        go_simp
        exact hK _ _ (Wrote.refl _ _) (updV_same _ _ _)
    | 12 =>
        simp only [List.getElem?_toArray, List.getElem?_cons_zero, List.getElem?_cons_succ, Option.some.injEq] at ho
        subst ho
        obtain ⟨_, _, _, _, q11⟩ := hw 11 (by kernel_rfl)
        replace q11 : a'.tmps[31]?.getD undef = .pointer (some ⟨w.heap.size, 33, none⟩) := q11
        have rb := boxC (box_wrote B0 L (fun k ⟨j, oj, hj, hoj, hwj, hR⟩ => by
          obtain ⟨rfl, -⟩ := hR
          simp only [List.getElem?_toArray, List.getElem?_cons_zero, List.getElem?_cons_succ, Option.some.injEq] at hoj
          subst hoj
          cases hwj.symm.trans (show waitsB _ 12 = true by kernel_rfl)))
        go_simp
        exact hK _ _ (Wrote.refl _ _) (updV_same _ _ _)
    | 13 =>
        simp only [List.getElem?_toArray, List.getElem?_cons_zero, List.getElem?_cons_succ, Option.some.injEq] at ho
        subst ho
        obtain ⟨_, _, _, _, gE, q0, q1, q2⟩ := hw 9 (by kernel_rfl)
        replace q0 : a'.tmps[29]?.getD undef = .slice (some ⟨gE, 0, none⟩) 0 0 := q0
        obtain ⟨_, _, _, _, q12⟩ := hw 12 (by kernel_rfl)
        replace q12 : a'.tmps[32]?.getD undef = .slice a7 d.nq c7 := q12
        refine wp_copy W (.tmp 29) (.tmp 32) rfl gE (by simpa [Act.eval] using q0) q1 S q2 _ _ d.nq d.rd (by simpa [Act.eval] using q12) (H7.keep (wrote_below LW Nowhere) (fun _ _ _ x => x)) ?_
        intro g c W' hR hB hat
        refine hK _ _ (wrote_below hB _) ⟨g, c, updV_same _ _ _, hR, ?_⟩
        rcases hat with h | h
        · exact Or.inr (hR.none0 (by rw [h]; exact box_keep q1 hB (boxLt q1)))
        · exact Or.inl ⟨h, hR.parts.2.1⟩
    | 14 =>
        simp only [List.getElem?_toArray, List.getElem?_cons_zero, List.getElem?_cons_succ, Option.some.injEq] at ho
        subst ho
        obtain ⟨_, _, _, _, gb, cp, q3, _⟩ := hw 3 (by kernel_rfl)
        obtain ⟨oa, oc, e3⟩ := q3.form
        obtain ⟨_, _, _, _, g8, c8, e8, _⟩ := hw 8 (by kernel_rfl)
        obtain ⟨_, _, _, _, g13, c13, e13, _⟩ := hw 13 (by kernel_rfl)
        have t23 : a'.tmps[23]?.getD undef = .slice oa d.mf oc := e3
        have t28 : a'.tmps[28]?.getD undef = .slice (some ⟨g8, 0, none⟩) d.ns c8 := e8
        have t33 : a'.tmps[33]?.getD undef = .slice (some ⟨g13, 0, none⟩) d.nq c13 := e13
        go_simp
        refine hK _ _ (Wrote.refl _ _) ?_
        show updV (valAt [some 20, some 21, some 22, some 23, some 24, some 25, some 26, some 27, some 28, some 29, some 30, some 31, some 32, some 33, some 34, some 35, none] a') 14 _ 14 = .agg #[updV (valAt [some 20, some 21, some 22, some 23, some 24, some 25, some 26, some 27, some 28, some 29, some 30, some 31, some 32, some 33, some 34, some 35, none] a') 14 _ 3, updV (valAt [some 20, some 21, some 22, some 23, some 24, some 25, some 26, some 27, some 28, some 29, some 30, some 31, some 32, some 33, some 34, some 35, none] a') 14 _ 8, updV (valAt [some 20, some 21, some 22, some 23, some 24, some 25, some 26, some 27, some 28, some 29, some 30, some 31, some 32, some 33, some 34, some 35, none] a') 14 _ 13]
        rw [updV_same, updV_ne _ _ (by decide), updV_ne _ _ (by decide), updV_ne _ _ (by decide), e3, e8, e13]
        rfl
    | 15 =>
        simp only [List.getElem?_toArray, List.getElem?_cons_zero, List.getElem?_cons_succ, Option.some.injEq] at ho
        subst ho
        go_simp
        exact hK _ _ (Wrote.refl _ _) (updV_same _ _ _)
    | 16 =>
        simp only [List.getElem?_toArray, List.getElem?_cons_zero, List.getElem?_cons_succ, Option.some.injEq] at ho
        subst ho
        obtain ⟨_, _, _, _, gb, cp, q3, _⟩ := hw 3 (by kernel_rfl)
        obtain ⟨oa, oc, e3⟩ := q3.form
        obtain ⟨_, _, _, _, g8, c8, e8, _⟩ := hw 8 (by kernel_rfl)
        obtain ⟨_, _, _, _, g13, c13, e13, _⟩ := hw 13 (by kernel_rfl)
        have t23 : a'.tmps[23]?.getD undef = .slice oa d.mf oc := e3
        have t28 : a'.tmps[28]?.getD undef = .slice (some ⟨g8, 0, none⟩) d.ns c8 := e8
        have t33 : a'.tmps[33]?.getD undef = .slice (some ⟨g13, 0, none⟩) d.nq c13 := e13
        obtain ⟨_, _, _, _, q15⟩ := hw 15 (by kernel_rfl)
        replace q15 : a'.tmps[35]?.getD undef = .pointer (some ⟨w.heap.size, 31, none⟩) := q15
        obtain ⟨_, _, _, _, q14⟩ := hw 14 (by kernel_rfl)
        replace q14 : a'.tmps[34]?.getD undef = .agg #[.slice oa d.mf oc, .slice (some ⟨g8, 0, none⟩) d.ns c8, .slice (some ⟨g13, 0, none⟩) d.nq c13] := by
          have := q14
          rw [e3, e8, e13] at this
          exact this
        have rb := box_wrote B0 L (fun k ⟨j, oj, hj, hoj, hwj, hR⟩ => hj hR.1)
        have c0' := boxC rb
        have f0' := boxF rb
        have HB := box_set (o := 33) (box_set (o := 32) (box_set (o := 31) rb (.slice oa d.mf oc)) (.slice (some ⟨g8, 0, none⟩) d.ns c8)) (.slice (some ⟨g13, 0, none⟩) d.nq c13)
        simp only [List.setIfInBounds_toArray, List.set_cons_succ, List.set_cons_zero] at HB
        have HBB := hide HB
        clear HB rb B0 B1
        go_simp
        refine hK undef _ (Wrote.setCell (Wrote.setCell (Wrote.setCell (Wrote.refl _ W) (fun _ => ⟨rfl, rfl⟩) _) (fun _ => ⟨rfl, rfl⟩) _) (fun _ => ⟨rfl, rfl⟩) _) ?_
        have n3 := updV_ne (valAt [some 20, some 21, some 22, some 23, some 24, some 25, some 26, some 27, some 28, some 29, some 30, some 31, some 32, some 33, some 34, some 35, none] a') (i := 16) (k := 3) undef (by decide)
        have n8 := updV_ne (valAt [some 20, some 21, some 22, some 23, some 24, some 25, some 26, some 27, some 28, some 29, some 30, some 31, some 32, some 33, some 34, some 35, none] a') (i := 16) (k := 8) undef (by decide)
        have n13 := updV_ne (valAt [some 20, some 21, some 22, some 23, some 24, some 25, some 26, some 27, some 28, some 29, some 30, some 31, some 32, some 33, some 34, some 35, none] a') (i := 16) (k := 13) undef (by decide)
        rw [e3] at n3
        rw [e8] at n8
        rw [e13] at n13
        show (_ : World).heap[w.heap.size]? = some (.cells #[.slice x0 d.m y0, .slice (some ⟨g1, 0, none⟩) d.np y1, .slice x2 d.nr y2, .int .i64 d.bank, .int .i64 d.A, .int .i64 d.X, .int .i64 d.S, .int .i64 d.Pc, .bool d.Z, .bool d.N, .bool d.C, .bool d.I, .int .i64 d.t, .int .i64 d.c, .int .i64 d.s, .int .i64 d.ad, .int .i64 d.pl, .bool d.bl, .slice (some ⟨g3, 0, none⟩) d.nt y3, .slice (some ⟨g4, 0, none⟩) d.nd y4, .int .i64 d.T, .int .i64 d.P, .int .i64 d.K, .int .i64 d.B, .int .i64 d.L, .bool d.Q, .bool d.R, .bool d.hd, .int .i64 d.sh, .bool d.nmi, .int .i64 d.st, (updV (valAt [some 20, some 21, some 22, some 23, some 24, some 25, some 26, some 27, some 28, some 29, some 30, some 31, some 32, some 33, some 34, some 35, none] a') 16 undef 3), (updV (valAt [some 20, some 21, some 22, some 23, some 24, some 25, some 26, some 27, some 28, some 29, some 30, some 31, some 32, some 33, some 34, some 35, none] a') 16 undef 8), (updV (valAt [some 20, some 21, some 22, some 23, some 24, some 25, some 26, some 27, some 28, some 29, some 30, some 31, some 32, some 33, some 34, some 35, none] a') 16 undef 13)] 49 (0, 0))
        rw [n3, n8, n13]
        exact HBB.out
    | n + 17 => simp at ho
  · intro a' W F L lo hi hφ hdj
    have hS' := hS.out
    have hp4' := hp4.out
    have hb1 := boxLt B1
    obtain ⟨b3a, b3b, b3c, gb, cp, G4, G4h⟩ := hφ 3 (by decide)
    obtain ⟨b8a, b8b, b8c, g6, y6, e8, R6, R6h⟩ := hφ 8 (by decide)
    obtain ⟨b13a, b13b, b13c, g7, y7, e13, R7, R7h⟩ := hφ 13 (by decide)
    obtain ⟨-, -, -, BX⟩ := hφ 16 (by decide)
    have d1 := hdj 3 8 (by decide) (by decide) (by decide)
    have d2 := hdj 3 13 (by decide) (by decide) (by decide)
    have d3 := hdj 8 13 (by decide) (by decide) (by decide)
    obtain ⟨oa, oc, e3⟩ := G4.form
    rw [e3] at G4 G4h
    replace BX : W.heap[w.heap.size]? = some (.cells #[.slice x0 d.m y0, .slice (some ⟨g1, 0, none⟩) d.np y1, .slice x2 d.nr y2, .int .i64 d.bank, .int .i64 d.A, .int .i64 d.X, .int .i64 d.S, .int .i64 d.Pc, .bool d.Z, .bool d.N, .bool d.C, .bool d.I, .int .i64 d.t, .int .i64 d.c, .int .i64 d.s, .int .i64 d.ad, .int .i64 d.pl, .bool d.bl, .slice (some ⟨g3, 0, none⟩) d.nt y3, .slice (some ⟨g4, 0, none⟩) d.nd y4, .int .i64 d.T, .int .i64 d.P, .int .i64 d.K, .int .i64 d.B, .int .i64 d.L, .bool d.Q, .bool d.R, .bool d.hd, .int .i64 d.sh, .bool d.nmi, .int .i64 d.st, .slice oa d.mf oc, .slice (some ⟨g6, 0, none⟩) d.ns y6, .slice (some ⟨g7, 0, none⟩) d.nq y7] 49 (0, 0)) := by
      have := BX
      simp only [e3, e8, e13] at this
      exact this
    have LW : Below w.heap.size w W := L0.trans (L.below L0.size (fun b o hb ⟨j, h⟩ => by omega))
    have rB1 := box_wrote B1 L (fun o ⟨j, h⟩ => by omega)
    replace G0 := G0.keep L (fun b o hb _ ⟨j, _, e⟩ => by obtain ⟨h1, h2⟩ := hb; omega)
    replace G1 := G1.keep L (fun b o hb _ ⟨j, _, e⟩ => by obtain ⟨h1, h2⟩ := hb; omega)
    replace G2 := G2.keep L (fun b o hb _ ⟨j, _, e⟩ => by obtain ⟨h1, h2⟩ := hb; omega)
    replace G3 := G3.keep L (fun b o hb _ ⟨j, _, e⟩ => by obtain ⟨h1, h2⟩ := hb; omega)
    rw [F.same, show slotsOf [some 20, some 21, some 22, some 23, some 24, some 25, some 26, some 27, some 28, some 29, some 30, some 31, some 32, some 33, some 34, some 35, none] = [20, 21, 22, 23, 24, 25, 26, 27, 28, 29, 30, 31, 32, 33, 34, 35] from rfl]
    simp only [List.foldl_cons, List.foldl_nil]
    clear hφ hdj e3 e8 e13 F L B0 B1 H0 H1 H2 H3 H4 H5 H6 H7 L0
    generalize a'.tmps[20]?.getD undef = s20
    generalize a'.tmps[21]?.getD undef = s21
    generalize a'.tmps[22]?.getD undef = s22
    generalize a'.tmps[23]?.getD undef = s23
    generalize a'.tmps[24]?.getD undef = s24
    generalize a'.tmps[25]?.getD undef = s25
    generalize a'.tmps[26]?.getD undef = s26
    generalize a'.tmps[27]?.getD undef = s27
    generalize a'.tmps[28]?.getD undef = s28
    generalize a'.tmps[29]?.getD undef = s29
    generalize a'.tmps[30]?.getD undef = s30
    generalize a'.tmps[31]?.getD undef = s31
    generalize a'.tmps[32]?.getD undef = s32
    generalize a'.tmps[33]?.getD undef = s33
    generalize a'.tmps[34]?.getD undef = s34
    generalize a'.tmps[35]?.getD undef = s35
    refine hKK _ _ ?_
    clear hKK
    go_simp
    go_upto_region 6 with (fail)
    rename_i K2 hK2
    refine wp_region_lit ?_
    refine wpList_load_row rfl _ _ rfl w.heap.size rfl _ _ _ _ BX Tryz.underlying49 rfl infoLock ?_
    refine wpList_store_row rfl _ _ _ rfl (w.heap.size + 1) _ rfl rfl _ _ rB1 infoLock rfl (by first | kernel_rfl | simp [Value.oneCell']) ?_
    refine hK2 _ _ ?_
    have B3 := setRow_heap _ _ _ #[.slice x0 d.m y0, .slice (some ⟨g1, 0, none⟩) d.np y1, .slice x2 d.nr y2, .int .i64 d.bank, .int .i64 d.A, .int .i64 d.X, .int .i64 d.S, .int .i64 d.Pc, .bool d.Z, .bool d.N, .bool d.C, .bool d.I, .int .i64 d.t, .int .i64 d.c, .int .i64 d.s, .int .i64 d.ad, .int .i64 d.pl, .bool d.bl, .slice (some ⟨g3, 0, none⟩) d.nt y3, .slice (some ⟨g4, 0, none⟩) d.nd y4, .int .i64 d.T, .int .i64 d.P, .int .i64 d.K, .int .i64 d.B, .int .i64 d.L, .bool d.Q, .bool d.R, .bool d.hd, .int .i64 d.sh, .bool d.nmi, .int .i64 d.st, .slice oa d.mf oc, .slice (some ⟨g6, 0, none⟩) d.ns y6, .slice (some ⟨g7, 0, none⟩) d.nq y7] _ _ rB1
    have WW := wrote_setRow rB1 #[.slice x0 d.m y0, .slice (some ⟨g1, 0, none⟩) d.np y1, .slice x2 d.nr y2, .int .i64 d.bank, .int .i64 d.A, .int .i64 d.X, .int .i64 d.S, .int .i64 d.Pc, .bool d.Z, .bool d.N, .bool d.C, .bool d.I, .int .i64 d.t, .int .i64 d.c, .int .i64 d.s, .int .i64 d.ad, .int .i64 d.pl, .bool d.bl, .slice (some ⟨g3, 0, none⟩) d.nt y3, .slice (some ⟨g4, 0, none⟩) d.nd y4, .int .i64 d.T, .int .i64 d.P, .int .i64 d.K, .int .i64 d.B, .int .i64 d.L, .bool d.Q, .bool d.R, .bool d.hd, .int .i64 d.sh, .bool d.nmi, .int .i64 d.st, .slice oa d.mf oc, .slice (some ⟨g6, 0, none⟩) d.ns y6, .slice (some ⟨g7, 0, none⟩) d.nq y7]
    have HR := hide (And.intro G0 (And.intro G1 (And.intro G2 (And.intro G3 (And.intro G4 (And.intro R6 R7))))))
    clear G0 G1 G2 G3 G4 R6 R7 BX
    go_wp2
    refine bodyPost_ret (v := .agg #[.slice x0 d.m y0, .slice (some ⟨g1, 0, none⟩) d.np y1, .slice x2 d.nr y2, .int .i64 d.bank, .int .i64 d.A, .int .i64 d.X, .int .i64 d.S, .int .i64 d.Pc, .bool d.Z, .bool d.N, .bool d.C, .bool d.I, .int .i64 d.t, .int .i64 d.c, .int .i64 d.s, .int .i64 d.ad, .int .i64 d.pl, .bool d.bl, .slice (some ⟨g3, 0, none⟩) d.nt y3, .slice (some ⟨g4, 0, none⟩) d.nd y4, .int .i64 d.T, .int .i64 d.P, .int .i64 d.K, .int .i64 d.B, .int .i64 d.L, .bool d.Q, .bool d.R, .bool d.hd, .int .i64 d.sh, .bool d.nmi, .int .i64 d.st, .slice oa d.mf oc, .slice (some ⟨g6, 0, none⟩) d.ns y6, .slice (some ⟨g7, 0, none⟩) d.nq y7]) (results_cell_row (by rfl) _ _ (w.heap.size + 1) _ _ _ _ rfl B3 Tryz.underlying49 rfl infoLock) rfl ?_
    have hW9 := WW.size
    generalize W.setRow (w.heap.size + 1) #[.slice x0 d.m y0, .slice (some ⟨g1, 0, none⟩) d.np y1, .slice x2 d.nr y2, .int .i64 d.bank, .int .i64 d.A, .int .i64 d.X, .int .i64 d.S, .int .i64 d.Pc, .bool d.Z, .bool d.N, .bool d.C, .bool d.I, .int .i64 d.t, .int .i64 d.c, .int .i64 d.s, .int .i64 d.ad, .int .i64 d.pl, .bool d.bl, .slice (some ⟨g3, 0, none⟩) d.nt y3, .slice (some ⟨g4, 0, none⟩) d.nd y4, .int .i64 d.T, .int .i64 d.P, .int .i64 d.K, .int .i64 d.B, .int .i64 d.L, .bool d.Q, .bool d.R, .bool d.hd, .int .i64 d.sh, .bool d.nmi, .int .i64 d.st, .slice oa d.mf oc, .slice (some ⟨g6, 0, none⟩) d.ns y6, .slice (some ⟨g7, 0, none⟩) d.nq y7] = W9 at *
    obtain ⟨G0, G1, G2, G3, G4, R6, R7⟩ := HR.out
    have k4 := G4.keep WW (fun g o hg (e : g = _) => by have := own_at G4.own hg; omega) (fun i o hi (e : _ = _) => by have := (G4.rows i hi).parts.1; omega)
    refine ⟨_, rfl, ⟨fun i b => (i = 0 ∧ p0 ≤ b ∧ b < p1) ∨ (i = 1 ∧ p1 ≤ b ∧ b < p2) ∨ (i = 2 ∧ p2 ≤ b ∧ b < p3) ∨ (i = 3 ∧ p3 ≤ b ∧ b < p4) ∨ (i = 4 ∧ lo 3 ≤ b ∧ b < hi 3) ∨ (i = 5 ∧ lo 8 ≤ b ∧ b < hi 8) ∨ (i = 6 ∧ lo 13 ≤ b ∧ b < hi 13),
      _, _, _, _, _, _, gb, cp, g6, y6, g7, y7, rfl,
      (G0.keep WW (fun b o hb _ (h : b = _) => by obtain ⟨h1, h2⟩ := hb; omega)).mono (fun b _ h => Or.inl ⟨rfl, h⟩),
      (G1.keep WW (fun b o hb _ (h : b = _) => by obtain ⟨h1, h2⟩ := hb; omega)).mono (fun b _ h => Or.inr (Or.inl ⟨rfl, h⟩)),
      (G2.keep WW (fun b o hb _ (h : b = _) => by obtain ⟨h1, h2⟩ := hb; omega)).mono (fun b _ h => Or.inr (Or.inr (Or.inl ⟨rfl, h⟩))),
      (G3.keep WW (fun b o hb _ (h : b = _) => by obtain ⟨h1, h2⟩ := hb; omega)).mono (fun b _ h => Or.inr (Or.inr (Or.inr (Or.inl ⟨rfl, h⟩)))),
      k4.mono (by omega), ?_,
      (R6.keep WW (fun o (h : _ = _) => by have := R6.parts.1; omega)).mono (by omega), ?_,
      (R7.keep WW (fun o (h : _ = _) => by have := R7.parts.1; omega)).mono (by omega), ?_, ?_, ?_, hps⟩, LW.trans (WW.below LW.size (fun b o hb (h : b = _) => by omega))⟩
    · intro b hb
      have := G4h b hb
      rcases hb with hb | ⟨i, hi', rfl⟩
      · have := own_at G4.own hb
        exact Or.inr (Or.inr (Or.inr (Or.inr (Or.inl ⟨rfl, by omega, by omega⟩))))
      · have := (G4.rows i hi').parts.1
        exact Or.inr (Or.inr (Or.inr (Or.inr (Or.inl ⟨rfl, by omega, by omega⟩))))
    · rcases R6h with h | h
      · exact Or.inl (Or.inr (Or.inr (Or.inr (Or.inr (Or.inr (Or.inl ⟨rfl, h⟩))))))
      · exact Or.inr h
    · rcases R7h with h | h
      · exact Or.inl (Or.inr (Or.inr (Or.inr (Or.inr (Or.inr (Or.inr ⟨rfl, h⟩))))))
      · exact Or.inr h
    · intro i j b h1 h2
      rcases h1 with ⟨rfl, _, _⟩ | ⟨rfl, _, _⟩ | ⟨rfl, _, _⟩ | ⟨rfl, _, _⟩ | ⟨rfl, _, _⟩ | ⟨rfl, _, _⟩ | ⟨rfl, _, _⟩ <;> rcases h2 with ⟨rfl, _, _⟩ | ⟨rfl, _, _⟩ | ⟨rfl, _, _⟩ | ⟨rfl, _, _⟩ | ⟨rfl, _, _⟩ | ⟨rfl, _, _⟩ | ⟨rfl, _, _⟩ <;> first | rfl | omega
    · intro i b h
      rcases h with ⟨rfl, _, _⟩ | ⟨rfl, _, _⟩ | ⟨rfl, _, _⟩ | ⟨rfl, _, _⟩ | ⟨rfl, _, _⟩ | ⟨rfl, _, _⟩ | ⟨rfl, _, _⟩ <;> omega
end Go.Proofs.YtpaedkefmebjjarGreat
namespace Go.Proofs.YtpaedkefmebjjarGreat
set_option linter.unusedVariables false
set_option linter.unusedSimpArgs false
open Go.ChangeShapes Go.WideShapes Go.ChangeAt Go.RowKit
/-- 'append(xs, x)', of a list that the call owns: what is written only where there is room. -/
theorem wp_pushR (W : World) {o : Oper} {a : Act} {K : Act → World → Prop} {Q : Exit → Act → World → Prop} (s x : Operand) (hop : o.op = Op.call { callee := Callee.builtin Builtin.append, args := #[s, x], argTypes := #[25, 25] })
    (lo g n c : Nat) (f : Nat → Int) (hs : a.eval s = .slice (some ⟨g, 0, none⟩) n c) (R : Row W lo g n c f) (hn : n < 1048576) (q : Nat) (y : Int) (hx : a.eval x = .slice (some ⟨q, 0, none⟩) 1 1) (hq : W.cell? ⟨q, 0, none⟩ = some (.int .i64 y))
    (h : ∀ g' c' W', Row W' lo g' (n + 1) c' (snoc f n y) → Wrote (fun b _ => b = g ∧ n + 1 ≤ c) W W' → ((g' = g ∧ n + 1 ≤ c) ∨ W.heap.size ≤ g') → K (a.put o.dst (.slice (some ⟨g', 0, none⟩) (n + 1) c')) W') : o.wp Tryz.prog a W K Q := by
  obtain ⟨i0, hi, hz0, hz1, hz2⟩ := info_parts info3
  have hp := R.parts
  have hnews : ∀ j u, [Value.int .i64 y][j]? = some u → W.cell? ((⟨q, 0, none⟩ : Addr).add j) = some u := fun j u hh => by
    cases j with
    | zero => simp at hh; rw [← hh]; exact hq
    | succ j => simp at hh
  by_cases hr : n + 1 ≤ c
  · have hsp : (W.cell? ⟨g, n, none⟩).isSome = true ∧ W.frozen? ⟨g, n, none⟩ = false := by
      rcases R.own.2 with ⟨e, _⟩ | ⟨g', cap, cur, hv, hb, hg, h1, h2, h3, h4⟩
      · cases e
      · simp only [Value.slice.injEq, Option.some.injEq, Addr.mk.injEq, and_true, true_and] at hv
        obtain ⟨rfl, rfl⟩ := hv
        refine ⟨?_, boxF hg n⟩
        rw [boxC hg n, Array.getElem?_eq_getElem (by omega)]
        rfl
    have hrun := run_append_room_cells (P := Tryz.prog) W 25 o.type 3 i0 Tryz.underlying25 hi g 0 n c ⟨q, 0, none⟩ 1 1 [.int .i64 y] (by rw [hz1]; rfl) hnews (fun u hu => by simp at hu; rw [hu]; rfl) hr
      (fun j hj => by have : j = 0 := (by simpa using hj); subst this; rw [hz1]; simpa using hsp.1) (fun j hj => by have : j = 0 := (by simpa using hj); subst this; rw [hz1]; simpa using hsp.2)
    rw [hz1] at hrun
    unfold Oper.wp
    simp [execOp, hop, resolve, invoke, builtin, hs, hx, hrun, Result.andThen, World.setCells]
    exact h g c _ (R.more hr hn y) (Wrote.setCell (R := fun b _ => b = g ∧ n + 1 ≤ c) (Wrote.refl _ W) (fun _ => ⟨rfl, hr⟩) _) (Or.inl ⟨rfl, hr⟩)
  · obtain ⟨v', w', hrun, r1, r2⟩ := run_append_arg_grows (P := Tryz.prog) W 25 o.type 3 i0 (.int .i64 0) 1 8 Tryz.underlying25 hi hz0 hz1 hz2 rfl (by decide) ⟨g, 0, none⟩ n c (rowVals n f) (by rw [rowVals_len, Nat.mul_one]) (rowVals_cells R.sl.row) ⟨q, 0, none⟩ 1 1 [.int .i64 y] rfl hnews (by omega) (by unfold maxLen; omega) (by omega)
    rw [rowVals_snoc] at r1
    obtain ⟨g', cap2, rfl, hg, hlt⟩ := r1.form (by omega)
    have L : Below W.heap.size W w' := (Below.refl _ _).grown r2 (Nat.le_refl _) (fun _ e => by cases e)
    unfold Oper.wp
    simp [execOp, hop, resolve, invoke, builtin, hs, hx, hrun, Result.andThen]
    exact h g' cap2 w' ((Row.mk r1 (by omega)).mono (by omega)) (wrote_below L _) (Or.inr hg)
theorem wpList_pushR (W : World) {ops : Array Oper} {rest : List Oper} {o : Oper} {a : Act} {Q : Exit → Act → World → Prop} (hg : o.guard = none) (s x : Operand) (hop : o.op = Op.call { callee := Callee.builtin Builtin.append, args := #[s, x], argTypes := #[25, 25] })
    (lo g n c : Nat) (f : Nat → Int) (hs : a.eval s = .slice (some ⟨g, 0, none⟩) n c) (R : Row W lo g n c f) (hn : n < 1048576) (q : Nat) (y : Int) (hx : a.eval x = .slice (some ⟨q, 0, none⟩) 1 1) (hq : W.cell? ⟨q, 0, none⟩ = some (.int .i64 y))
    (h : ∀ g' c' W', Row W' lo g' (n + 1) c' (snoc f n y) → Wrote (fun b _ => b = g ∧ n + 1 ≤ c) W W' → ((g' = g ∧ n + 1 ≤ c) ∨ W.heap.size ≤ g') → wpList Tryz.prog ops Q rest (a.put o.dst (.slice (some ⟨g', 0, none⟩) (n + 1) c')) W') : wpList Tryz.prog ops Q (o :: rest) a W :=
  wpList_plain hg fun K hK => wp_pushR W s x hop lo g n c f hs R hn q y hx hq (fun g c W' r1 r2 r3 => hK _ _ (h g c W' r1 r2 r3))
/-- The block of a row has as many cells as the row has room. -/
theorem Row.room {W : World} {lo g n c : Nat} {f : Nat → Int} (h : Row W lo g n c f) : (W.heap[g]?.map fun o => match o with | .cells cs _ _ => cs.size | _ => 0) = some c := by
  rcases h.own.2 with ⟨e, _⟩ | ⟨g', cap, cur, hv, hb, hg, h1, h2, h3, h4⟩
  · cases e
  · simp only [Value.slice.injEq, Option.some.injEq, Addr.mk.injEq, and_true, true_and] at hv
    obtain ⟨rfl, rfl⟩ := hv
    rw [hg]
    simp
    omega
/-- A console that a call owns, in parts; its blocks lie below N. -/
structure LockP (W : World) (lo N : Nat) (D : Nat → Nat → Prop) (u0 u1 u2 u3 u4 ov : Value) (gb cp : Nat → Nat) (g6 c6 g7 c7 : Nat) (d : LockD) : Prop where
  h0 : SsOn W (D 0) u0 d.m d.ln d.f
  h1 : ListOn W (D 1) u1 d.np d.p
  h2 : MemOn W (D 2) (.agg #[u2, .int .i64 d.bank]) d.nr d.g d.bank
  h3 : PpuOn W (D 3) (.agg #[.int .i64 d.t, .int .i64 d.c, .int .i64 d.s, .int .i64 d.ad, .int .i64 d.pl, .bool d.bl, u3, u4]) d.t d.c d.s d.ad d.pl d.bl d.nt d.tb d.nd d.dt
  h4 : SG W lo ov d.mf gb cp d.lf d.fr
  h4D : ∀ b, (ov.ownBlock = some b ∨ ∃ i, i < d.mf ∧ gb i = b) → D 4 b
  h6 : Row W lo g6 d.ns c6 d.sm
  h6D : D 5 g6 ∨ (d.ns = 0 ∧ c6 = 0)
  h7 : Row W lo g7 d.nq c7 d.rd
  h7D : D 6 g7 ∨ (d.nq = 0 ∧ c7 = 0)
  dis : Dis D
  bd : ∀ i b, D i b → lo ≤ b ∧ b < N
  n6 : g6 < N
  n7 : g7 < N
  nN : N ≤ W.heap.size
  hps : psum d.lf d.mf ≤ 1099511627776
section
variable {R : Nat → Nat → Prop} {W W' : World} {lo N : Nat} {D : Nat → Nat → Prop} {u0 u1 u2 u3 u4 ov : Value} {gb cp : Nat → Nat} {g6 c6 g7 c7 : Nat} {d : LockD}
theorem LockP.ow (H : LockP W lo N D u0 u1 u2 u3 u4 ov gb cp g6 c6 g7 c7 d) : LockOw W lo (.agg #[u0, u1, u2, .int .i64 d.bank, .int .i64 d.A, .int .i64 d.X, .int .i64 d.S, .int .i64 d.Pc, .bool d.Z, .bool d.N, .bool d.C, .bool d.I, .int .i64 d.t, .int .i64 d.c, .int .i64 d.s, .int .i64 d.ad, .int .i64 d.pl, .bool d.bl, u3, u4, .int .i64 d.T, .int .i64 d.P, .int .i64 d.K, .int .i64 d.B, .int .i64 d.L, .bool d.Q, .bool d.R, .bool d.hd, .int .i64 d.sh, .bool d.nmi, .int .i64 d.st, ov, .slice (some ⟨g6, 0, none⟩) d.ns c6, .slice (some ⟨g7, 0, none⟩) d.nq c7]) d :=
  ⟨D, u0, u1, u2, u3, u4, ov, gb, cp, g6, c6, g7, c7, rfl, H.h0, H.h1, H.h2, H.h3, H.h4, H.h4D, H.h6, H.h6D, H.h7, H.h7D, H.dis, fun i b h => ⟨(H.bd i b h).1, Nat.lt_of_lt_of_le (H.bd i b h).2 H.nN⟩, H.hps⟩
theorem LockP.of {v : Value} (H : LockOw W lo v d) : ∃ D u0 u1 u2 u3 u4 ov gb cp g6 c6 g7 c7, v = .agg #[u0, u1, u2, .int .i64 d.bank, .int .i64 d.A, .int .i64 d.X, .int .i64 d.S, .int .i64 d.Pc, .bool d.Z, .bool d.N, .bool d.C, .bool d.I, .int .i64 d.t, .int .i64 d.c, .int .i64 d.s, .int .i64 d.ad, .int .i64 d.pl, .bool d.bl, u3, u4, .int .i64 d.T, .int .i64 d.P, .int .i64 d.K, .int .i64 d.B, .int .i64 d.L, .bool d.Q, .bool d.R, .bool d.hd, .int .i64 d.sh, .bool d.nmi, .int .i64 d.st, ov, .slice (some ⟨g6, 0, none⟩) d.ns c6, .slice (some ⟨g7, 0, none⟩) d.nq c7] ∧ LockP W lo W.heap.size D u0 u1 u2 u3 u4 ov gb cp g6 c6 g7 c7 d := by
  obtain ⟨D, u0, u1, u2, u3, u4, ov, gb, cp, g6, c6, g7, c7, e, h0, h1, h2, h3, h4, h4D, h6, h6D, h7, h7D, dis, bd, hps⟩ := H
  exact ⟨D, u0, u1, u2, u3, u4, ov, gb, cp, g6, c6, g7, c7, e, h0, h1, h2, h3, h4, h4D, h6, h6D, h7, h7D, dis, bd, h6.parts.2.1, h7.parts.2.1, Nat.le_refl _, hps⟩
theorem LockP.keep (H : LockP W lo N D u0 u1 u2 u3 u4 ov gb cp g6 c6 g7 c7 d) (hw : Wrote R W W') (hn : ∀ b o, b < N → ¬ R b o) : LockP W' lo N D u0 u1 u2 u3 u4 ov gb cp g6 c6 g7 c7 d :=
  ⟨H.h0.keep hw (fun b o h _ => hn b o (H.bd _ b h).2), H.h1.keep hw (fun b o h _ => hn b o (H.bd _ b h).2), H.h2.keep hw (fun b o h _ => hn b o (H.bd _ b h).2), H.h3.keep hw (fun b o h _ => hn b o (H.bd _ b h).2), H.h4.keep hw (fun g o hg => hn g o (H.bd _ g (H.h4D g (Or.inl hg))).2) (fun i o hi => hn _ o (H.bd _ _ (H.h4D _ (Or.inr ⟨i, hi, rfl⟩))).2), H.h4D, H.h6.keep hw (fun o => hn _ o H.n6), H.h6D, H.h7.keep hw (fun o => hn _ o H.n7), H.h7D, H.dis, H.bd, H.n6, H.n7, Nat.le_trans H.nN hw.size, H.hps⟩
theorem LockP.keepD (H : LockP W lo N D u0 u1 u2 u3 u4 ov gb cp g6 c6 g7 c7 d) (hw : Wrote R W W') (hd : ∀ i b o, D i b → ¬ R b o) (k6 : ∀ o, ¬ R g6 o) (k7 : ∀ o, ¬ R g7 o) : LockP W' lo N D u0 u1 u2 u3 u4 ov gb cp g6 c6 g7 c7 d :=
  ⟨H.h0.keep hw (fun b o h _ => hd _ b o h), H.h1.keep hw (fun b o h _ => hd _ b o h), H.h2.keep hw (fun b o h _ => hd _ b o h), H.h3.keep hw (fun b o h _ => hd _ b o h), H.h4.keep hw (fun g o hg => hd _ g o (H.h4D g (Or.inl hg))) (fun i o hi => hd _ _ o (H.h4D _ (Or.inr ⟨i, hi, rfl⟩))), H.h4D, H.h6.keep hw k6, H.h6D, H.h7.keep hw k7, H.h7D, H.dis, H.bd, H.n6, H.n7, Nat.le_trans H.nN hw.size, H.hps⟩
theorem LockP.below (H : LockP W lo N D u0 u1 u2 u3 u4 ov gb cp g6 c6 g7 c7 d) (L : Below W.heap.size W W') : LockP W' lo N D u0 u1 u2 u3 u4 ov gb cp g6 c6 g7 c7 d := H.keep (wrote_below L Nowhere) (fun _ _ _ x => x)
/-- A new picture unit. -/
theorem LockP.ppu (H : LockP W lo N D u0 u1 u2 u3 u4 ov gb cp g6 c6 g7 c7 d) {p q : Nat} {w3 w4 : Value} {c s ad pl : Int} {t : Int} {bl : Bool} {nt nd : Nat} {tb dt : Nat → Int} (hP : PpuOn W (fun b => p ≤ b ∧ b < q) (.agg #[.int .i64 t, .int .i64 c, .int .i64 s, .int .i64 ad, .int .i64 pl, .bool bl, w3, w4]) t c s ad pl bl nt tb nd dt) (hp : N ≤ p) (hl : lo ≤ N) (hpq : p ≤ q) (hq : q ≤ W.heap.size) :
    LockP W lo q (fun i b => (i = 3 ∧ p ≤ b ∧ b < q) ∨ (i ≠ 3 ∧ D i b)) u0 u1 u2 w3 w4 ov gb cp g6 c6 g7 c7 { d with t := t, c := c, s := s, ad := ad, pl := pl, bl := bl, nt := nt, tb := tb, nd := nd, dt := dt } := by
  have nN := H.nN
  refine ⟨H.h0.mono (fun b _ h => Or.inr ⟨by decide, h⟩), H.h1.mono (fun b _ h => Or.inr ⟨by decide, h⟩), H.h2.mono (fun b _ h => Or.inr ⟨by decide, h⟩), hP.mono (fun b _ h => Or.inl ⟨rfl, h⟩), H.h4, fun b h => Or.inr ⟨by decide, H.h4D b h⟩, H.h6, ?_, H.h7, ?_, ?_, ?_, by have := H.n6; omega, by have := H.n7; omega, hq, H.hps⟩
  · rcases H.h6D with h | h
    · exact Or.inl (Or.inr ⟨by decide, h⟩)
    · exact Or.inr h
  · rcases H.h7D with h | h
    · exact Or.inl (Or.inr ⟨by decide, h⟩)
    · exact Or.inr h
  · intro i j b h1 h2
    rcases h1 with ⟨rfl, _, _⟩ | ⟨n1, h1⟩ <;> rcases h2 with ⟨rfl, _, _⟩ | ⟨n2, h2⟩
    · rfl
    · have := H.bd _ _ h2; omega
    · have := H.bd _ _ h1; omega
    · exact H.dis _ _ _ h1 h2
  · intro i b h
    rcases h with ⟨rfl, _, _⟩ | ⟨_, h⟩
    · omega
    · have := H.bd _ _ h; omega
/-- One more that was read. -/
theorem LockP.push (H : LockP W lo N D u0 u1 u2 u3 u4 ov gb cp g6 c6 g7 c7 d) (hl : lo ≤ N) {g' c' : Nat} {x : Int} (hw : Wrote (fun b _ => b = g7 ∧ d.nq + 1 ≤ c7) W W') (R7 : Row W' lo g' (d.nq + 1) c' (snoc d.rd d.nq x)) (hat : (g' = g7 ∧ d.nq + 1 ≤ c7) ∨ W.heap.size ≤ g') :
    LockP W' lo W'.heap.size (fun i b => (i = 6 ∧ b = g') ∨ (i ≠ 6 ∧ D i b)) u0 u1 u2 u3 u4 ov gb cp g6 c6 g' c' { d with nq := d.nq + 1, rd := snoc d.rd d.nq x } := by
  have nN := H.nN
  have hz := hw.size
  have far : ∀ i b (o : Nat), i ≠ 6 → D i b → ¬ (b = g7 ∧ d.nq + 1 ≤ c7) := fun i b o hi hb ⟨e, hc⟩ => by
    rcases H.h7D with h | h
    · exact hi (H.dis i 6 b hb (e ▸ h))
    · omega
  have f6 : ∀ (o : Nat), ¬ (g6 = g7 ∧ d.nq + 1 ≤ c7 ∧ 0 < c6) := fun o ⟨e, hc, h0⟩ => by
    rcases H.h6D with h | h
    · exact far 5 g6 o (by decide) h ⟨e, hc⟩
    · omega
  have K6 : Row W' lo g6 d.ns c6 d.sm := by
    by_cases e : g6 = g7 ∧ d.nq + 1 ≤ c7
    · exfalso
      have hc6 : c6 = 0 := by
        by_cases h : 0 < c6
        · exact absurd ⟨e.1, e.2, h⟩ (f6 0)
        · omega
      have p6 := H.h6.room
      have p7 := H.h7.room
      rw [e.1, p7] at p6
      have := Option.some.inj p6
      omega
    · exact H.h6.keep hw (fun o h => e h)
  refine ⟨(H.h0.keep hw (fun b o h _ => far 0 b o (by decide) h)).mono (fun b _ h => Or.inr ⟨by decide, h⟩), (H.h1.keep hw (fun b o h _ => far 1 b o (by decide) h)).mono (fun b _ h => Or.inr ⟨by decide, h⟩), (H.h2.keep hw (fun b o h _ => far 2 b o (by decide) h)).mono (fun b _ h => Or.inr ⟨by decide, h⟩), (H.h3.keep hw (fun b o h _ => far 3 b o (by decide) h)).mono (fun b _ h => Or.inr ⟨by decide, h⟩),
    H.h4.keep hw (fun g o hg => far 4 g o (by decide) (H.h4D g (Or.inl hg))) (fun i o hi => far 4 _ o (by decide) (H.h4D _ (Or.inr ⟨i, hi, rfl⟩))), fun b h => Or.inr ⟨by decide, H.h4D b h⟩, K6, ?_, R7, Or.inl (Or.inl ⟨rfl, rfl⟩), ?_, ?_, by have := H.n6; omega, R7.parts.2.1, Nat.le_refl _, H.hps⟩
  · rcases H.h6D with h | h
    · exact Or.inl (Or.inr ⟨by decide, h⟩)
    · exact Or.inr h
  · intro i j b h1 h2
    have key : ∀ i, i ≠ 6 → D i g' → False := fun i hi h => by
      rcases hat with ⟨e, hc⟩ | h'
      · exact far i g' 0 hi h ⟨e, hc⟩
      · have := H.bd _ _ h; omega
    rcases h1 with ⟨rfl, rfl⟩ | ⟨n1, h1⟩ <;> rcases h2 with ⟨rfl, e⟩ | ⟨n2, h2⟩
    · rfl
    · exact absurd h2 (fun h => key j n2 h)
    · subst e; exact absurd h1 (fun h => key i n1 h)
    · exact H.dis _ _ _ h1 h2
  · intro i b h
    rcases h with ⟨rfl, rfl⟩ | ⟨_, h⟩
    · exact ⟨R7.parts.1, R7.parts.2.1⟩
    · have := H.bd _ _ h; omega
end
end Go.Proofs.YtpaedkefmebjjarGreat
namespace Go.Proofs.YtpaedkefmebjjarGreat
set_option linter.unusedVariables false
set_option linter.unusedSimpArgs false
open Go.ChangeShapes Go.WideShapes Go.ChangeAt Go.RowKit
theorem results_row_tmp {P : Program} {fn : Func} {p q : Tmp} {ty : TypeId} (h : fn.results = #[.cell p ty, .tmp q]) (tmps : Array Value) (w : World) (g : Nat) (t : TypeId) (cs : Array Value) (fr : Nat × Nat) (dd : TypeDesc)
    (hp : tmps.getD p undef = .pointer (some ⟨g, 0, none⟩)) (hg : w.heap[g]? = some (.cells cs t fr)) (hu : P.underlying ty = some dd) (hd : (match dd with | .struct _ | .array _ _ => true | _ => false) = true) (hi : (P.info? ty).map (·.size) = some cs.size) :
    (results fn tmps).run P w = .ok (.tuple #[.agg cs, tmps.getD q undef]) w := by
  have hp' : tmps[p]?.getD undef = .pointer (some ⟨g, 0, none⟩) := by simpa using hp
  simp [results, h, hp', asAddr, run_loadVar_row w g t ty cs fr dd hg hu hd hi]
def readV (d : LockD) (a : Int) : Int :=
  if rgN (a % 65536) = 2 then rdV true (rgP (a % 65536)) d.bl d.ad d.tb else if rgN (a % 65536) = 3 then rvA true d.L d.R (rgP (a % 65536)) else if rgN (a % 65536) = 4 then bitR d.hd d.sh d.np d.p d.t else peekOf d.m d.f d.g d.bank (a % 65536)
def readD (d : LockD) (a : Int) : LockD :=
  if rgN (a % 65536) = 2 then { d with ad := rdA true (rgP (a % 65536)) d.ad, bl := rdB true (rgP (a % 65536)) d.bl, nq := d.nq + 1, rd := snoc d.rd d.nq (readV d a) } else if rgN (a % 65536) = 3 then { d with R := rqA true d.R (rgP (a % 65536)), nq := d.nq + 1, rd := snoc d.rd d.nq (readV d a) } else if rgN (a % 65536) = 4 then { d with sh := shiftR d.hd d.sh d.np d.p d.t, nq := d.nq + 1, rd := snoc d.rd d.nq (readV d a) } else d
theorem okLock_parts {d : LockD} (h : okLock d = true) : okPads d.np d.p = true ∧ okMem d.m d.ln d.f d.nr d.g d.bank = true ∧ okPpu d.t d.c d.s d.ad d.pl d.nt d.tb d.nd d.dt = true ∧ okApu d.T d.P d.K d.B d.L = true ∧ inB d.sh 0 255 = true := by
  unfold okLock at h
  simp only [Bool.and_eq_true] at h
  exact ⟨h.1, h.2.1, h.2.2.2.1, h.2.2.2.2.1, h.2.2.2.2.2.1⟩
set_option maxRecDepth 40000 in
set_option maxHeartbeats 8000000 in
theorem l12Read (w : World) (lo : Nat) (v : Value) (d : LockD) (a : Int) (H : LockOw w lo v d) (hlo : lo ≤ w.heap.size) (hok : okLock d = true) (hnq : d.nq < 1048576) : Calls Tryz.prog 21 #[v, .int .i64 a] w fun e w' => ∃ v', e = .returned (.tuple #[v', .int .i64 (readV d a)]) ∧ LockOw w' lo v' (readD d a) ∧ Below lo w w' := by
  obtain ⟨okp, okm, oku, oka, oks⟩ := okLock_parts hok
  obtain ⟨D, u0, u1, u2, u3, u4, ov, gb, cp, g6, c6, g7, c7, rfl, HP0⟩ := LockP.of H
  obtain ⟨x0, y0, rfl⟩ := HP0.h0.form
  obtain ⟨x1, y1, rfl⟩ := HP0.h1.two
  obtain ⟨x2, y2, e2⟩ := HP0.h2.two
  simp only [Value.agg.injEq, Array.mk.injEq, List.cons.injEq, and_true] at e2
  subst e2
  obtain ⟨x3, y3, x4, y4, e3⟩ := HP0.h3.two
  simp only [Value.agg.injEq, Array.mk.injEq, List.cons.injEq, and_true, true_and] at e3
  obtain ⟨rfl, rfl⟩ := e3
  obtain ⟨x5, y5, rfl⟩ := HP0.h4.form
  have L0 : Below w.heap.size w ((w.alloc (.cells #[.slice x0 d.m y0, .slice x1 d.np y1, .slice x2 d.nr y2, .int .i64 d.bank, .int .i64 d.A, .int .i64 d.X, .int .i64 d.S, .int .i64 d.Pc, .bool d.Z, .bool d.N, .bool d.C, .bool d.I, .int .i64 d.t, .int .i64 d.c, .int .i64 d.s, .int .i64 d.ad, .int .i64 d.pl, .bool d.bl, .slice x3 d.nt y3, .slice x4 d.nd y4, .int .i64 d.T, .int .i64 d.P, .int .i64 d.K, .int .i64 d.B, .int .i64 d.L, .bool d.Q, .bool d.R, .bool d.hd, .int .i64 d.sh, .bool d.nmi, .int .i64 d.st, .slice x5 d.mf y5, .slice (some ⟨g6, 0, none⟩) d.ns c6, .slice (some ⟨g7, 0, none⟩) d.nq c7] 49)).alloc (.cells #[.slice none 0 0, .slice none 0 0, .slice none 0 0, .int .i64 0, .int .i64 0, .int .i64 0, .int .i64 0, .int .i64 0, .bool false, .bool false, .bool false, .bool false, .int .i64 0, .int .i64 0, .int .i64 0, .int .i64 0, .int .i64 0, .bool false, .slice none 0 0, .slice none 0 0, .int .i64 0, .int .i64 0, .int .i64 0, .int .i64 0, .int .i64 0, .bool false, .bool false, .bool false, .int .i64 0, .bool false, .int .i64 0, .slice none 0 0, .slice none 0 0, .slice none 0 0] 49)) := ((Below.refl _ _).alloc (Nat.le_refl _) _).alloc (by simp) _
  have B0 : ((w.alloc (.cells #[.slice x0 d.m y0, .slice x1 d.np y1, .slice x2 d.nr y2, .int .i64 d.bank, .int .i64 d.A, .int .i64 d.X, .int .i64 d.S, .int .i64 d.Pc, .bool d.Z, .bool d.N, .bool d.C, .bool d.I, .int .i64 d.t, .int .i64 d.c, .int .i64 d.s, .int .i64 d.ad, .int .i64 d.pl, .bool d.bl, .slice x3 d.nt y3, .slice x4 d.nd y4, .int .i64 d.T, .int .i64 d.P, .int .i64 d.K, .int .i64 d.B, .int .i64 d.L, .bool d.Q, .bool d.R, .bool d.hd, .int .i64 d.sh, .bool d.nmi, .int .i64 d.st, .slice x5 d.mf y5, .slice (some ⟨g6, 0, none⟩) d.ns c6, .slice (some ⟨g7, 0, none⟩) d.nq c7] 49)).alloc (.cells #[.slice none 0 0, .slice none 0 0, .slice none 0 0, .int .i64 0, .int .i64 0, .int .i64 0, .int .i64 0, .int .i64 0, .bool false, .bool false, .bool false, .bool false, .int .i64 0, .int .i64 0, .int .i64 0, .int .i64 0, .int .i64 0, .bool false, .slice none 0 0, .slice none 0 0, .int .i64 0, .int .i64 0, .int .i64 0, .int .i64 0, .int .i64 0, .bool false, .bool false, .bool false, .int .i64 0, .bool false, .int .i64 0, .slice none 0 0, .slice none 0 0, .slice none 0 0] 49)).heap[w.heap.size]? = some (.cells #[.slice x0 d.m y0, .slice x1 d.np y1, .slice x2 d.nr y2, .int .i64 d.bank, .int .i64 d.A, .int .i64 d.X, .int .i64 d.S, .int .i64 d.Pc, .bool d.Z, .bool d.N, .bool d.C, .bool d.I, .int .i64 d.t, .int .i64 d.c, .int .i64 d.s, .int .i64 d.ad, .int .i64 d.pl, .bool d.bl, .slice x3 d.nt y3, .slice x4 d.nd y4, .int .i64 d.T, .int .i64 d.P, .int .i64 d.K, .int .i64 d.B, .int .i64 d.L, .bool d.Q, .bool d.R, .bool d.hd, .int .i64 d.sh, .bool d.nmi, .int .i64 d.st, .slice x5 d.mf y5, .slice (some ⟨g6, 0, none⟩) d.ns c6, .slice (some ⟨g7, 0, none⟩) d.nq c7] 49 (0, 0)) := boxA (box_new w _ _) _
  have B1 : ((w.alloc (.cells #[.slice x0 d.m y0, .slice x1 d.np y1, .slice x2 d.nr y2, .int .i64 d.bank, .int .i64 d.A, .int .i64 d.X, .int .i64 d.S, .int .i64 d.Pc, .bool d.Z, .bool d.N, .bool d.C, .bool d.I, .int .i64 d.t, .int .i64 d.c, .int .i64 d.s, .int .i64 d.ad, .int .i64 d.pl, .bool d.bl, .slice x3 d.nt y3, .slice x4 d.nd y4, .int .i64 d.T, .int .i64 d.P, .int .i64 d.K, .int .i64 d.B, .int .i64 d.L, .bool d.Q, .bool d.R, .bool d.hd, .int .i64 d.sh, .bool d.nmi, .int .i64 d.st, .slice x5 d.mf y5, .slice (some ⟨g6, 0, none⟩) d.ns c6, .slice (some ⟨g7, 0, none⟩) d.nq c7] 49)).alloc (.cells #[.slice none 0 0, .slice none 0 0, .slice none 0 0, .int .i64 0, .int .i64 0, .int .i64 0, .int .i64 0, .int .i64 0, .bool false, .bool false, .bool false, .bool false, .int .i64 0, .int .i64 0, .int .i64 0, .int .i64 0, .int .i64 0, .bool false, .slice none 0 0, .slice none 0 0, .int .i64 0, .int .i64 0, .int .i64 0, .int .i64 0, .int .i64 0, .bool false, .bool false, .bool false, .int .i64 0, .bool false, .int .i64 0, .slice none 0 0, .slice none 0 0, .slice none 0 0] 49)).heap[w.heap.size + 1]? = some (.cells #[.slice none 0 0, .slice none 0 0, .slice none 0 0, .int .i64 0, .int .i64 0, .int .i64 0, .int .i64 0, .int .i64 0, .bool false, .bool false, .bool false, .bool false, .int .i64 0, .int .i64 0, .int .i64 0, .int .i64 0, .int .i64 0, .bool false, .slice none 0 0, .slice none 0 0, .int .i64 0, .int .i64 0, .int .i64 0, .int .i64 0, .int .i64 0, .bool false, .bool false, .bool false, .int .i64 0, .bool false, .int .i64 0, .slice none 0 0, .slice none 0 0, .slice none 0 0] 49 (0, 0)) := by simpa using box_new (w.alloc (.cells #[.slice x0 d.m y0, .slice x1 d.np y1, .slice x2 d.nr y2, .int .i64 d.bank, .int .i64 d.A, .int .i64 d.X, .int .i64 d.S, .int .i64 d.Pc, .bool d.Z, .bool d.N, .bool d.C, .bool d.I, .int .i64 d.t, .int .i64 d.c, .int .i64 d.s, .int .i64 d.ad, .int .i64 d.pl, .bool d.bl, .slice x3 d.nt y3, .slice x4 d.nd y4, .int .i64 d.T, .int .i64 d.P, .int .i64 d.K, .int .i64 d.B, .int .i64 d.L, .bool d.Q, .bool d.R, .bool d.hd, .int .i64 d.sh, .bool d.nmi, .int .i64 d.st, .slice x5 d.mf y5, .slice (some ⟨g6, 0, none⟩) d.ns c6, .slice (some ⟨g7, 0, none⟩) d.nq c7] 49)) #[.slice none 0 0, .slice none 0 0, .slice none 0 0, .int .i64 0, .int .i64 0, .int .i64 0, .int .i64 0, .int .i64 0, .bool false, .bool false, .bool false, .bool false, .int .i64 0, .int .i64 0, .int .i64 0, .int .i64 0, .int .i64 0, .bool false, .slice none 0 0, .slice none 0 0, .int .i64 0, .int .i64 0, .int .i64 0, .int .i64 0, .int .i64 0, .bool false, .bool false, .bool false, .int .i64 0, .bool false, .int .i64 0, .slice none 0 0, .slice none 0 0, .slice none 0 0] 49
  have HQ := HP0.below L0
  have bd0 := HP0.bd
  have n60 := HP0.n6
  have n70 := HP0.n7
  clear HP0 H
  obtain ⟨rg, hrg⟩ : ∃ x, Hid (x = rgN (a % 65536)) := ⟨_, rfl⟩
  obtain ⟨at', hat⟩ : ∃ x, Hid (x = rgP (a % 65536)) := ⟨_, rfl⟩
  have HG := hide (fun W => specRegion W a)
  rw [← hrg.out, ← hat.out] at HG
  by_cases r2 : rg = 2
  · have HV : Hid (readV d a = rdV true at' d.bl d.ad d.tb ∧ readD d a = { d with ad := rdA true at' d.ad, bl := rdB true at' d.bl, nq := d.nq + 1, rd := snoc d.rd d.nq (rdV true at' d.bl d.ad d.tb) }) := by
      have e : rgN (a % 65536) = 2 := by rw [← hrg.out]; exact r2
      show _ ∧ _
      unfold readD readV
      simp only [e, if_true]
      rw [← hat.out]
      exact ⟨rfl, rfl⟩
    rw [HV.out.1, HV.out.2]
    subst r2
    clear HV hrg
    obtain ⟨x, hx⟩ : ∃ x, Hid (x = rdV true at' d.bl d.ad d.tb) := ⟨_, rfl⟩
    obtain ⟨ad', had⟩ : ∃ x, Hid (x = rdA true at' d.ad) := ⟨_, rfl⟩
    obtain ⟨bl', hbl⟩ : ∃ x, Hid (x = rdB true at' d.bl) := ⟨_, rfl⟩
    have HP := hide (fun W E v h => onSpecPpuRead W E v d.t d.c d.s d.ad d.pl d.bl d.nt d.tb d.nd d.dt h at')
    rw [oku, ← hx.out, ← had.out, ← hbl.out] at HP
    rw [← hx.out, ← had.out, ← hbl.out]
    clear hx had hbl hat
    go_enter Tryz.func21, Tryz.ntmps21
    go_wp2_with fail
    generalize (w.alloc (.cells #[.slice x0 d.m y0, .slice x1 d.np y1, .slice x2 d.nr y2, .int .i64 d.bank, .int .i64 d.A, .int .i64 d.X, .int .i64 d.S, .int .i64 d.Pc, .bool d.Z, .bool d.N, .bool d.C, .bool d.I, .int .i64 d.t, .int .i64 d.c, .int .i64 d.s, .int .i64 d.ad, .int .i64 d.pl, .bool d.bl, .slice x3 d.nt y3, .slice x4 d.nd y4, .int .i64 d.T, .int .i64 d.P, .int .i64 d.K, .int .i64 d.B, .int .i64 d.L, .bool d.Q, .bool d.R, .bool d.hd, .int .i64 d.sh, .bool d.nmi, .int .i64 d.st, .slice x5 d.mf y5, .slice (some ⟨g6, 0, none⟩) d.ns c6, .slice (some ⟨g7, 0, none⟩) d.nq c7] 49)).alloc (.cells #[.slice none 0 0, .slice none 0 0, .slice none 0 0, .int .i64 0, .int .i64 0, .int .i64 0, .int .i64 0, .int .i64 0, .bool false, .bool false, .bool false, .bool false, .int .i64 0, .int .i64 0, .int .i64 0, .int .i64 0, .int .i64 0, .bool false, .slice none 0 0, .slice none 0 0, .int .i64 0, .int .i64 0, .int .i64 0, .int .i64 0, .int .i64 0, .bool false, .bool false, .bool false, .int .i64 0, .bool false, .int .i64 0, .slice none 0 0, .slice none 0 0, .slice none 0 0] 49) = W0 at *
    refine (HG.out _).mono ?_
    rintro e W1 ⟨rfl, rfl⟩
    have c0' := boxC B0
    go_wp2_with fail
    clear c0'
    refine (HP.out _ _ _ HQ.h3).mono ?_
    rintro e W2 ⟨v', rfl, P3, L⟩
    clear HP
    obtain ⟨x3', y3', x4', y4', rfl⟩ := P3.two
    replace P3 := P3.mono (E := fun b => W1.heap.size ≤ b ∧ b < W2.heap.size) (fun b hb h => ⟨h, hb⟩)
    have l12 := L.size
    have hb1 := boxLt B1
    replace HQ := HQ.below L
    replace L0 := below_snoc L0 L
    replace B0 := box_keep B0 L (boxLt B0)
    replace B1 := box_keep B1 L (boxLt B1)
    replace HQ := HQ.ppu P3 (by omega) hlo l12 (Nat.le_refl _)
    clear L P3
    have c0' := boxC B0
    have f0' := boxF B0
    go_upto_region 11 with (fail)
    clear c0' f0'
    have TT := Wrote.setCell (b := w.heap.size) (o := 19) (R := fun b _ => b = w.heap.size) (Wrote.setCell (b := w.heap.size) (o := 18) (R := fun b _ => b = w.heap.size) (Wrote.setCell (b := w.heap.size) (o := 17) (R := fun b _ => b = w.heap.size) (Wrote.setCell (b := w.heap.size) (o := 16) (R := fun b _ => b = w.heap.size) (Wrote.setCell (b := w.heap.size) (o := 15) (R := fun b _ => b = w.heap.size) (Wrote.setCell (b := w.heap.size) (o := 14) (R := fun b _ => b = w.heap.size) (Wrote.setCell (b := w.heap.size) (o := 13) (R := fun b _ => b = w.heap.size) (Wrote.setCell (b := w.heap.size) (o := 12) (R := fun b _ => b = w.heap.size) (Wrote.refl _ W2) (fun _ => rfl) (.int .i64 d.t)) (fun _ => rfl) (.int .i64 d.c)) (fun _ => rfl) (.int .i64 d.s)) (fun _ => rfl) (.int .i64 ad')) (fun _ => rfl) (.int .i64 d.pl)) (fun _ => rfl) (.bool bl')) (fun _ => rfl) (.slice x3' d.nt y3')) (fun _ => rfl) (.slice x4' d.nd y4')
    replace B1 := box_wrote B1 TT (fun o (h : _ = _) => by omega)
    replace B0 := box_set (o := 12) B0 (.int .i64 d.t)
    replace B0 := box_set (o := 13) B0 (.int .i64 d.c)
    replace B0 := box_set (o := 14) B0 (.int .i64 d.s)
    replace B0 := box_set (o := 15) B0 (.int .i64 ad')
    replace B0 := box_set (o := 16) B0 (.int .i64 d.pl)
    replace B0 := box_set (o := 17) B0 (.bool bl')
    replace B0 := box_set (o := 18) B0 (.slice x3' d.nt y3')
    replace B0 := box_set (o := 19) B0 (.slice x4' d.nd y4')
    simp only [List.setIfInBounds_toArray, List.set_cons_succ, List.set_cons_zero] at B0
    replace HQ := HQ.keepD TT (fun i b o h (e : b = _) => by rcases h with ⟨-, h1, h2⟩ | ⟨-, h⟩; (omega); (have := bd0 _ _ h; omega)) (fun o (e : _ = _) => by omega) (fun o (e : _ = _) => by omega)
    replace L0 := L0.trans (TT.below L0.size (fun b o hb (h : b = _) => by omega))
    clear TT
    generalize (((((((W2.setCell ⟨w.heap.size, 12, none⟩ (.int .i64 d.t)).setCell ⟨w.heap.size, 13, none⟩ (.int .i64 d.c)).setCell ⟨w.heap.size, 14, none⟩ (.int .i64 d.s)).setCell ⟨w.heap.size, 15, none⟩ (.int .i64 ad')).setCell ⟨w.heap.size, 16, none⟩ (.int .i64 d.pl)).setCell ⟨w.heap.size, 17, none⟩ (.bool bl')).setCell ⟨w.heap.size, 18, none⟩ (.slice x3' d.nt y3')).setCell ⟨w.heap.size, 19, none⟩ (.slice x4' d.nd y4') = W3 at *
    have LA : Below W3.heap.size W3 (W3.alloc (.cells #[.int .i64 x] 3)) := (Below.refl _ _).alloc (Nat.le_refl _) _
    have hE := boxC (box_new W3 #[.int .i64 x] 3) 0
    have hbk := boxLt B1
    have c0' := boxC (box_keep B0 LA (boxLt B0))
    have c0s := boxC B0
    have HQA := hide (HQ.below LA)
    have LXA := hide (below_snoc L0 LA)
    have B0A := hide (box_keep B0 LA (boxLt B0))
    have B1A := hide (box_keep B1 LA (boxLt B1))
    clear HQ L0 LA B0 B1
    go_wp2_with (at_builtin; refine wpList_pushR _ rfl _ _ rfl lo g7 d.nq c7 d.rd rfl HQA.out.h7 hnq W3.heap.size x rfl hE ?_)
    intro g9 c9 W9 R9 hW hat9
    clear c0' c0s hE
    replace hat9 : (g9 = g7 ∧ d.nq + 1 ≤ c7) ∨ (W3.alloc (.cells #[.int .i64 x] 3)).heap.size ≤ g9 := by simpa using hat9
    have hs9 : (W3.alloc (.cells #[.int .i64 x] 3)).heap.size = W3.heap.size + 1 := by simp
    have HQN := HQA.out.push (by have := HQA.out.n7; omega) hW R9 hat9
    have B0 := box_wrote B0A.out hW (fun o ⟨e, _⟩ => by omega)
    have B1 := box_wrote B1A.out hW (fun o ⟨e, _⟩ => by omega)
    have LW : Below lo w W9 := (LXA.out.mono hlo).trans (hW.below (Nat.le_trans hlo LXA.out.size) (fun b o hb ⟨e, _⟩ => by have := HQA.out.h7.parts.1; omega))
    have hg9 : g9 ≠ w.heap.size ∧ g9 ≠ w.heap.size + 1 := by rcases hat9 with ⟨e, _⟩ | h <;> omega
    clear HQA LXA B0A B1A hW R9 hat9 hs9
    have c0' := boxC B0
    have f0' := boxF B0
    go_upto_region 12 with (fail)
    clear c0' f0'
    rename_i K2 hK2
    have TT := Wrote.setCell (b := w.heap.size) (o := 33) (R := fun b _ => b = w.heap.size ∨ b = w.heap.size + 1) (Wrote.refl _ W9) (fun _ => Or.inl rfl) (.slice (some ⟨g9, 0, none⟩) (d.nq + 1) c9)
    replace B1 := box_wrote B1 (Wrote.setCell (b := w.heap.size) (o := 33) (R := fun b _ => b = w.heap.size) (Wrote.refl _ W9) (fun _ => rfl) (.slice (some ⟨g9, 0, none⟩) (d.nq + 1) c9)) (fun o (h : _ = _) => by omega)
    replace B0 := box_set (o := 33) B0 (.slice (some ⟨g9, 0, none⟩) (d.nq + 1) c9)
    simp only [List.setIfInBounds_toArray, List.set_cons_succ, List.set_cons_zero] at B0
    generalize W9.setCell ⟨w.heap.size, 33, none⟩ (.slice (some ⟨g9, 0, none⟩) (d.nq + 1) c9) = W10 at *
    refine wp_region_lit ?_
    refine wpList_load_row rfl _ _ rfl w.heap.size rfl _ _ _ _ B0 Tryz.underlying49 rfl infoLock ?_
    refine wpList_plain rfl (fun K3 hK3 => ?_)
    go_simp
    refine hK3 _ _ ?_
    clear hK3
    refine wpList_store_row rfl _ _ _ rfl (w.heap.size + 1) _ rfl rfl _ _ B1 infoLock rfl (by first | kernel_rfl | simp [Value.oneCell']) ?_
    have B3 := setRow_heap _ _ _ #[.slice x0 d.m y0, .slice x1 d.np y1, .slice x2 d.nr y2, .int .i64 d.bank, .int .i64 d.A, .int .i64 d.X, .int .i64 d.S, .int .i64 d.Pc, .bool d.Z, .bool d.N, .bool d.C, .bool d.I, .int .i64 d.t, .int .i64 d.c, .int .i64 d.s, .int .i64 ad', .int .i64 d.pl, .bool bl', .slice x3' d.nt y3', .slice x4' d.nd y4', .int .i64 d.T, .int .i64 d.P, .int .i64 d.K, .int .i64 d.B, .int .i64 d.L, .bool d.Q, .bool d.R, .bool d.hd, .int .i64 d.sh, .bool d.nmi, .int .i64 d.st, .slice x5 d.mf y5, .slice (some ⟨g6, 0, none⟩) d.ns c6, .slice (some ⟨g9, 0, none⟩) (d.nq + 1) c9] _ _ B1
    have WW := (wrote_setRow B1 #[.slice x0 d.m y0, .slice x1 d.np y1, .slice x2 d.nr y2, .int .i64 d.bank, .int .i64 d.A, .int .i64 d.X, .int .i64 d.S, .int .i64 d.Pc, .bool d.Z, .bool d.N, .bool d.C, .bool d.I, .int .i64 d.t, .int .i64 d.c, .int .i64 d.s, .int .i64 ad', .int .i64 d.pl, .bool bl', .slice x3' d.nt y3', .slice x4' d.nd y4', .int .i64 d.T, .int .i64 d.P, .int .i64 d.K, .int .i64 d.B, .int .i64 d.L, .bool d.Q, .bool d.R, .bool d.hd, .int .i64 d.sh, .bool d.nmi, .int .i64 d.st, .slice x5 d.mf y5, .slice (some ⟨g6, 0, none⟩) d.ns c6, .slice (some ⟨g9, 0, none⟩) (d.nq + 1) c9]).mono (S := fun b _ => b = w.heap.size ∨ b = w.heap.size + 1) (fun b o _ h => Or.inr h)
    generalize W10.setRow (w.heap.size + 1) #[.slice x0 d.m y0, .slice x1 d.np y1, .slice x2 d.nr y2, .int .i64 d.bank, .int .i64 d.A, .int .i64 d.X, .int .i64 d.S, .int .i64 d.Pc, .bool d.Z, .bool d.N, .bool d.C, .bool d.I, .int .i64 d.t, .int .i64 d.c, .int .i64 d.s, .int .i64 ad', .int .i64 d.pl, .bool bl', .slice x3' d.nt y3', .slice x4' d.nd y4', .int .i64 d.T, .int .i64 d.P, .int .i64 d.K, .int .i64 d.B, .int .i64 d.L, .bool d.Q, .bool d.R, .bool d.hd, .int .i64 d.sh, .bool d.nmi, .int .i64 d.st, .slice x5 d.mf y5, .slice (some ⟨g6, 0, none⟩) d.ns c6, .slice (some ⟨g9, 0, none⟩) (d.nq + 1) c9] = W11 at *
    refine wpList_plain rfl (fun K4 hK4 => ?_)
    go_simp
    refine hK4 _ _ ?_
    clear hK4
    refine hK2 _ _ ?_
    have HF := hide (HQN.keepD (TT.trans WW) (fun i b o h e => by rcases h with ⟨-, rfl⟩ | ⟨-, ⟨-, h1, h2⟩ | ⟨-, h⟩⟩; (omega); (omega); (have := bd0 _ _ h; omega)) (fun o e => by omega) (fun o e => by omega))
    have LF := hide (LW.trans ((TT.trans WW).below (Nat.le_trans hlo LW.size) (fun b o hb e => by omega)))
    clear HQN TT WW B0 B1 LW
    go_wp2
    refine bodyPost_ret (v := .tuple #[.agg #[.slice x0 d.m y0, .slice x1 d.np y1, .slice x2 d.nr y2, .int .i64 d.bank, .int .i64 d.A, .int .i64 d.X, .int .i64 d.S, .int .i64 d.Pc, .bool d.Z, .bool d.N, .bool d.C, .bool d.I, .int .i64 d.t, .int .i64 d.c, .int .i64 d.s, .int .i64 ad', .int .i64 d.pl, .bool bl', .slice x3' d.nt y3', .slice x4' d.nd y4', .int .i64 d.T, .int .i64 d.P, .int .i64 d.K, .int .i64 d.B, .int .i64 d.L, .bool d.Q, .bool d.R, .bool d.hd, .int .i64 d.sh, .bool d.nmi, .int .i64 d.st, .slice x5 d.mf y5, .slice (some ⟨g6, 0, none⟩) d.ns c6, .slice (some ⟨g9, 0, none⟩) (d.nq + 1) c9], .int .i64 x]) (results_row_tmp Tryz.results21 _ _ (w.heap.size + 1) _ _ _ _ rfl B3 Tryz.underlying49 rfl infoLock) rfl ?_
    exact ⟨_, rfl, HF.out.ow, LF.out⟩
  by_cases r3 : rg = 3
  · have HV : Hid (readV d a = rvA true d.L d.R at' ∧ readD d a = { d with R := rqA true d.R at', nq := d.nq + 1, rd := snoc d.rd d.nq (rvA true d.L d.R at') }) := by
      have e : rgN (a % 65536) = 3 := by rw [← hrg.out]; exact r3
      show _ ∧ _
      unfold readD readV
      simp only [e, if_true, show ¬ ((3 : Int) = 2) by decide, if_false]
      first | (rw [← hat.out]; exact ⟨rfl, rfl⟩) | exact ⟨rfl, rfl⟩ | exact ⟨trivial, rfl⟩ | exact ⟨trivial, trivial⟩ | trivial
    rw [HV.out.1, HV.out.2]
    subst r3
    clear HV hrg
    obtain ⟨x, hx⟩ : ∃ x, Hid (x = rvA true d.L d.R at') := ⟨_, rfl⟩
    obtain ⟨r', hr'⟩ : ∃ x, Hid (x = rqA true d.R at') := ⟨_, rfl⟩
    have HP := hide (fun W (_ : LockP W lo w.heap.size D (.slice x0 d.m y0) (.slice x1 d.np y1) (.slice x2 d.nr y2) (.slice x3 d.nt y3) (.slice x4 d.nd y4) (.slice x5 d.mf y5) gb cp g6 c6 g7 c7 d) (_ : Below w.heap.size w W) => specApuRead W d.T d.P d.K d.B d.L d.Q d.R at')
    rw [oka, ← hx.out, ← hr'.out] at HP
    rw [← hx.out, ← hr'.out]
    clear hx hr' hat
    go_enter Tryz.func21, Tryz.ntmps21
    go_wp2_with fail
    generalize (w.alloc (.cells #[.slice x0 d.m y0, .slice x1 d.np y1, .slice x2 d.nr y2, .int .i64 d.bank, .int .i64 d.A, .int .i64 d.X, .int .i64 d.S, .int .i64 d.Pc, .bool d.Z, .bool d.N, .bool d.C, .bool d.I, .int .i64 d.t, .int .i64 d.c, .int .i64 d.s, .int .i64 d.ad, .int .i64 d.pl, .bool d.bl, .slice x3 d.nt y3, .slice x4 d.nd y4, .int .i64 d.T, .int .i64 d.P, .int .i64 d.K, .int .i64 d.B, .int .i64 d.L, .bool d.Q, .bool d.R, .bool d.hd, .int .i64 d.sh, .bool d.nmi, .int .i64 d.st, .slice x5 d.mf y5, .slice (some ⟨g6, 0, none⟩) d.ns c6, .slice (some ⟨g7, 0, none⟩) d.nq c7] 49)).alloc (.cells #[.slice none 0 0, .slice none 0 0, .slice none 0 0, .int .i64 0, .int .i64 0, .int .i64 0, .int .i64 0, .int .i64 0, .bool false, .bool false, .bool false, .bool false, .int .i64 0, .int .i64 0, .int .i64 0, .int .i64 0, .int .i64 0, .bool false, .slice none 0 0, .slice none 0 0, .int .i64 0, .int .i64 0, .int .i64 0, .int .i64 0, .int .i64 0, .bool false, .bool false, .bool false, .int .i64 0, .bool false, .int .i64 0, .slice none 0 0, .slice none 0 0, .slice none 0 0] 49) = W0 at *
    refine (HG.out _).mono ?_
    rintro e W1 ⟨rfl, rfl⟩
    have c0' := boxC B0
    go_wp2_with fail
    clear c0'
    refine (HP.out _ HQ L0).mono ?_
    rintro e W2 ⟨rfl, L⟩
    clear HP
    have hb1 := boxLt B1
    replace HQ := HQ.below L
    replace L0 := below_snoc L0 L
    replace B0 := box_keep B0 L (boxLt B0)
    replace B1 := box_keep B1 L (boxLt B1)
    replace HQ : LockP W2 lo w.heap.size D (.slice x0 d.m y0) (.slice x1 d.np y1) (.slice x2 d.nr y2) (.slice x3 d.nt y3) (.slice x4 d.nd y4) (.slice x5 d.mf y5) gb cp g6 c6 g7 c7 { d with R := r' } := ⟨HQ.h0, HQ.h1, HQ.h2, HQ.h3, HQ.h4, HQ.h4D, HQ.h6, HQ.h6D, HQ.h7, HQ.h7D, HQ.dis, HQ.bd, HQ.n6, HQ.n7, HQ.nN, HQ.hps⟩
    clear L
    have c0' := boxC B0
    have f0' := boxF B0
    go_upto_region 11 with (fail)
    clear c0' f0'
    have TT := Wrote.setCell (b := w.heap.size) (o := 26) (R := fun b _ => b = w.heap.size) (Wrote.setCell (b := w.heap.size) (o := 25) (R := fun b _ => b = w.heap.size) (Wrote.setCell (b := w.heap.size) (o := 24) (R := fun b _ => b = w.heap.size) (Wrote.setCell (b := w.heap.size) (o := 23) (R := fun b _ => b = w.heap.size) (Wrote.setCell (b := w.heap.size) (o := 22) (R := fun b _ => b = w.heap.size) (Wrote.setCell (b := w.heap.size) (o := 21) (R := fun b _ => b = w.heap.size) (Wrote.setCell (b := w.heap.size) (o := 20) (R := fun b _ => b = w.heap.size) (Wrote.refl _ W2) (fun _ => rfl) (.int .i64 d.T)) (fun _ => rfl) (.int .i64 d.P)) (fun _ => rfl) (.int .i64 d.K)) (fun _ => rfl) (.int .i64 d.B)) (fun _ => rfl) (.int .i64 d.L)) (fun _ => rfl) (.bool d.Q)) (fun _ => rfl) (.bool r')
    replace B1 := box_wrote B1 TT (fun o (h : _ = _) => by omega)
    replace B0 := box_set (o := 20) B0 (.int .i64 d.T)
    replace B0 := box_set (o := 21) B0 (.int .i64 d.P)
    replace B0 := box_set (o := 22) B0 (.int .i64 d.K)
    replace B0 := box_set (o := 23) B0 (.int .i64 d.B)
    replace B0 := box_set (o := 24) B0 (.int .i64 d.L)
    replace B0 := box_set (o := 25) B0 (.bool d.Q)
    replace B0 := box_set (o := 26) B0 (.bool r')
    simp only [List.setIfInBounds_toArray, List.set_cons_succ, List.set_cons_zero] at B0
    replace HQ := HQ.keepD TT (fun i b o h (e : b = _) => by have := bd0 _ _ h; omega) (fun o (e : _ = _) => by omega) (fun o (e : _ = _) => by omega)
    replace L0 := L0.trans (TT.below L0.size (fun b o hb (h : b = _) => by omega))
    clear TT
    generalize ((((((W2.setCell ⟨w.heap.size, 20, none⟩ (.int .i64 d.T)).setCell ⟨w.heap.size, 21, none⟩ (.int .i64 d.P)).setCell ⟨w.heap.size, 22, none⟩ (.int .i64 d.K)).setCell ⟨w.heap.size, 23, none⟩ (.int .i64 d.B)).setCell ⟨w.heap.size, 24, none⟩ (.int .i64 d.L)).setCell ⟨w.heap.size, 25, none⟩ (.bool d.Q)).setCell ⟨w.heap.size, 26, none⟩ (.bool r') = W3 at *
    have LA : Below W3.heap.size W3 (W3.alloc (.cells #[.int .i64 x] 3)) := (Below.refl _ _).alloc (Nat.le_refl _) _
    have hE := boxC (box_new W3 #[.int .i64 x] 3) 0
    have hbk := boxLt B1
    have c0' := boxC (box_keep B0 LA (boxLt B0))
    have c0s := boxC B0
    have HQA := hide (HQ.below LA)
    have LXA := hide (below_snoc L0 LA)
    have B0A := hide (box_keep B0 LA (boxLt B0))
    have B1A := hide (box_keep B1 LA (boxLt B1))
    clear HQ L0 LA B0 B1
    go_wp2_with (at_builtin; refine wpList_pushR _ rfl _ _ rfl lo g7 d.nq c7 d.rd rfl HQA.out.h7 hnq W3.heap.size x rfl hE ?_)
    intro g9 c9 W9 R9 hW hat9
    clear c0' c0s hE
    replace hat9 : (g9 = g7 ∧ d.nq + 1 ≤ c7) ∨ (W3.alloc (.cells #[.int .i64 x] 3)).heap.size ≤ g9 := by simpa using hat9
    have hs9 : (W3.alloc (.cells #[.int .i64 x] 3)).heap.size = W3.heap.size + 1 := by simp
    have HQN := HQA.out.push (by have := HQA.out.n7; omega) hW R9 hat9
    have B0 := box_wrote B0A.out hW (fun o ⟨e, _⟩ => by omega)
    have B1 := box_wrote B1A.out hW (fun o ⟨e, _⟩ => by omega)
    have LW : Below lo w W9 := (LXA.out.mono hlo).trans (hW.below (Nat.le_trans hlo LXA.out.size) (fun b o hb ⟨e, _⟩ => by have := HQA.out.h7.parts.1; omega))
    have hg9 : g9 ≠ w.heap.size ∧ g9 ≠ w.heap.size + 1 := by rcases hat9 with ⟨e, _⟩ | h <;> omega
    clear HQA LXA B0A B1A hW R9 hat9 hs9
    have c0' := boxC B0
    have f0' := boxF B0
    go_upto_region 12 with (fail)
    clear c0' f0'
    rename_i K2 hK2
    have TT := Wrote.setCell (b := w.heap.size) (o := 33) (R := fun b _ => b = w.heap.size ∨ b = w.heap.size + 1) (Wrote.refl _ W9) (fun _ => Or.inl rfl) (.slice (some ⟨g9, 0, none⟩) (d.nq + 1) c9)
    replace B1 := box_wrote B1 (Wrote.setCell (b := w.heap.size) (o := 33) (R := fun b _ => b = w.heap.size) (Wrote.refl _ W9) (fun _ => rfl) (.slice (some ⟨g9, 0, none⟩) (d.nq + 1) c9)) (fun o (h : _ = _) => by omega)
    replace B0 := box_set (o := 33) B0 (.slice (some ⟨g9, 0, none⟩) (d.nq + 1) c9)
    simp only [List.setIfInBounds_toArray, List.set_cons_succ, List.set_cons_zero] at B0
    generalize W9.setCell ⟨w.heap.size, 33, none⟩ (.slice (some ⟨g9, 0, none⟩) (d.nq + 1) c9) = W10 at *
    refine wp_region_lit ?_
    refine wpList_load_row rfl _ _ rfl w.heap.size rfl _ _ _ _ B0 Tryz.underlying49 rfl infoLock ?_
    refine wpList_plain rfl (fun K3 hK3 => ?_)
    go_simp
    refine hK3 _ _ ?_
    clear hK3
    refine wpList_store_row rfl _ _ _ rfl (w.heap.size + 1) _ rfl rfl _ _ B1 infoLock rfl (by first | kernel_rfl | simp [Value.oneCell']) ?_
    have B3 := setRow_heap _ _ _ #[.slice x0 d.m y0, .slice x1 d.np y1, .slice x2 d.nr y2, .int .i64 d.bank, .int .i64 d.A, .int .i64 d.X, .int .i64 d.S, .int .i64 d.Pc, .bool d.Z, .bool d.N, .bool d.C, .bool d.I, .int .i64 d.t, .int .i64 d.c, .int .i64 d.s, .int .i64 d.ad, .int .i64 d.pl, .bool d.bl, .slice x3 d.nt y3, .slice x4 d.nd y4, .int .i64 d.T, .int .i64 d.P, .int .i64 d.K, .int .i64 d.B, .int .i64 d.L, .bool d.Q, .bool r', .bool d.hd, .int .i64 d.sh, .bool d.nmi, .int .i64 d.st, .slice x5 d.mf y5, .slice (some ⟨g6, 0, none⟩) d.ns c6, .slice (some ⟨g9, 0, none⟩) (d.nq + 1) c9] _ _ B1
    have WW := (wrote_setRow B1 #[.slice x0 d.m y0, .slice x1 d.np y1, .slice x2 d.nr y2, .int .i64 d.bank, .int .i64 d.A, .int .i64 d.X, .int .i64 d.S, .int .i64 d.Pc, .bool d.Z, .bool d.N, .bool d.C, .bool d.I, .int .i64 d.t, .int .i64 d.c, .int .i64 d.s, .int .i64 d.ad, .int .i64 d.pl, .bool d.bl, .slice x3 d.nt y3, .slice x4 d.nd y4, .int .i64 d.T, .int .i64 d.P, .int .i64 d.K, .int .i64 d.B, .int .i64 d.L, .bool d.Q, .bool r', .bool d.hd, .int .i64 d.sh, .bool d.nmi, .int .i64 d.st, .slice x5 d.mf y5, .slice (some ⟨g6, 0, none⟩) d.ns c6, .slice (some ⟨g9, 0, none⟩) (d.nq + 1) c9]).mono (S := fun b _ => b = w.heap.size ∨ b = w.heap.size + 1) (fun b o _ h => Or.inr h)
    generalize W10.setRow (w.heap.size + 1) #[.slice x0 d.m y0, .slice x1 d.np y1, .slice x2 d.nr y2, .int .i64 d.bank, .int .i64 d.A, .int .i64 d.X, .int .i64 d.S, .int .i64 d.Pc, .bool d.Z, .bool d.N, .bool d.C, .bool d.I, .int .i64 d.t, .int .i64 d.c, .int .i64 d.s, .int .i64 d.ad, .int .i64 d.pl, .bool d.bl, .slice x3 d.nt y3, .slice x4 d.nd y4, .int .i64 d.T, .int .i64 d.P, .int .i64 d.K, .int .i64 d.B, .int .i64 d.L, .bool d.Q, .bool r', .bool d.hd, .int .i64 d.sh, .bool d.nmi, .int .i64 d.st, .slice x5 d.mf y5, .slice (some ⟨g6, 0, none⟩) d.ns c6, .slice (some ⟨g9, 0, none⟩) (d.nq + 1) c9] = W11 at *
    refine wpList_plain rfl (fun K4 hK4 => ?_)
    go_simp
    refine hK4 _ _ ?_
    clear hK4
    refine hK2 _ _ ?_
    have HF := hide (HQN.keepD (TT.trans WW) (fun i b o h e => by rcases h with ⟨-, rfl⟩ | ⟨-, h⟩; (omega); (have := bd0 _ _ h; omega)) (fun o e => by omega) (fun o e => by omega))
    have LF := hide (LW.trans ((TT.trans WW).below (Nat.le_trans hlo LW.size) (fun b o hb e => by omega)))
    clear HQN TT WW B0 B1 LW
    go_wp2
    refine bodyPost_ret (v := .tuple #[.agg #[.slice x0 d.m y0, .slice x1 d.np y1, .slice x2 d.nr y2, .int .i64 d.bank, .int .i64 d.A, .int .i64 d.X, .int .i64 d.S, .int .i64 d.Pc, .bool d.Z, .bool d.N, .bool d.C, .bool d.I, .int .i64 d.t, .int .i64 d.c, .int .i64 d.s, .int .i64 d.ad, .int .i64 d.pl, .bool d.bl, .slice x3 d.nt y3, .slice x4 d.nd y4, .int .i64 d.T, .int .i64 d.P, .int .i64 d.K, .int .i64 d.B, .int .i64 d.L, .bool d.Q, .bool r', .bool d.hd, .int .i64 d.sh, .bool d.nmi, .int .i64 d.st, .slice x5 d.mf y5, .slice (some ⟨g6, 0, none⟩) d.ns c6, .slice (some ⟨g9, 0, none⟩) (d.nq + 1) c9], .int .i64 x]) (results_row_tmp Tryz.results21 _ _ (w.heap.size + 1) _ _ _ _ rfl B3 Tryz.underlying49 rfl infoLock) rfl ?_
    exact ⟨_, rfl, HF.out.ow, LF.out⟩
  by_cases r4 : rg = 4
  · have HV : Hid (readV d a = bitR d.hd d.sh d.np d.p d.t ∧ readD d a = { d with sh := shiftR d.hd d.sh d.np d.p d.t, nq := d.nq + 1, rd := snoc d.rd d.nq (bitR d.hd d.sh d.np d.p d.t) }) := by
      have e : rgN (a % 65536) = 4 := by rw [← hrg.out]; exact r4
      show _ ∧ _
      unfold readD readV
      simp only [e, if_true, show ¬ ((4 : Int) = 2) by decide, if_false, show ¬ ((4 : Int) = 3) by decide, if_false]
      first | (rw [← hat.out]; exact ⟨rfl, rfl⟩) | exact ⟨rfl, rfl⟩ | exact ⟨trivial, rfl⟩ | exact ⟨trivial, trivial⟩ | trivial
    rw [HV.out.1, HV.out.2]
    subst r4
    clear HV hrg
    obtain ⟨x, hx⟩ : ∃ x, Hid (x = bitR d.hd d.sh d.np d.p d.t) := ⟨_, rfl⟩
    obtain ⟨s', hs'⟩ : ∃ x, Hid (x = shiftR d.hd d.sh d.np d.p d.t) := ⟨_, rfl⟩
    have HP := hide (fun W (h : LockP W lo w.heap.size D (.slice x0 d.m y0) (.slice x1 d.np y1) (.slice x2 d.nr y2) (.slice x3 d.nt y3) (.slice x4 d.nd y4) (.slice x5 d.mf y5) gb cp g6 c6 g7 c7 d) (_ : Below w.heap.size w W) => specPadRead W (On (D 1)) d.hd d.sh (.slice x1 d.np y1) d.np d.p d.t (by have := (okPpu_range oku).2; omega) (by obtain ⟨aa, cc, e, hs⟩ := h.h1; rw [e]; exact hs.ints cc))
    rw [← hx.out, ← hs'.out] at HP
    rw [← hx.out, ← hs'.out]
    clear hx hs' hat
    go_enter Tryz.func21, Tryz.ntmps21
    go_wp2_with fail
    generalize (w.alloc (.cells #[.slice x0 d.m y0, .slice x1 d.np y1, .slice x2 d.nr y2, .int .i64 d.bank, .int .i64 d.A, .int .i64 d.X, .int .i64 d.S, .int .i64 d.Pc, .bool d.Z, .bool d.N, .bool d.C, .bool d.I, .int .i64 d.t, .int .i64 d.c, .int .i64 d.s, .int .i64 d.ad, .int .i64 d.pl, .bool d.bl, .slice x3 d.nt y3, .slice x4 d.nd y4, .int .i64 d.T, .int .i64 d.P, .int .i64 d.K, .int .i64 d.B, .int .i64 d.L, .bool d.Q, .bool d.R, .bool d.hd, .int .i64 d.sh, .bool d.nmi, .int .i64 d.st, .slice x5 d.mf y5, .slice (some ⟨g6, 0, none⟩) d.ns c6, .slice (some ⟨g7, 0, none⟩) d.nq c7] 49)).alloc (.cells #[.slice none 0 0, .slice none 0 0, .slice none 0 0, .int .i64 0, .int .i64 0, .int .i64 0, .int .i64 0, .int .i64 0, .bool false, .bool false, .bool false, .bool false, .int .i64 0, .int .i64 0, .int .i64 0, .int .i64 0, .int .i64 0, .bool false, .slice none 0 0, .slice none 0 0, .int .i64 0, .int .i64 0, .int .i64 0, .int .i64 0, .int .i64 0, .bool false, .bool false, .bool false, .int .i64 0, .bool false, .int .i64 0, .slice none 0 0, .slice none 0 0, .slice none 0 0] 49) = W0 at *
    refine (HG.out _).mono ?_
    rintro e W1 ⟨rfl, rfl⟩
    have c0' := boxC B0
    go_wp2_with fail
    clear c0'
    refine (HP.out _ HQ L0).mono ?_
    rintro e W2 ⟨rfl, L⟩
    clear HP
    have hb1 := boxLt B1
    replace HQ := HQ.below L
    replace L0 := below_snoc L0 L
    replace B0 := box_keep B0 L (boxLt B0)
    replace B1 := box_keep B1 L (boxLt B1)
    replace HQ : LockP W2 lo w.heap.size D (.slice x0 d.m y0) (.slice x1 d.np y1) (.slice x2 d.nr y2) (.slice x3 d.nt y3) (.slice x4 d.nd y4) (.slice x5 d.mf y5) gb cp g6 c6 g7 c7 { d with sh := s' } := ⟨HQ.h0, HQ.h1, HQ.h2, HQ.h3, HQ.h4, HQ.h4D, HQ.h6, HQ.h6D, HQ.h7, HQ.h7D, HQ.dis, HQ.bd, HQ.n6, HQ.n7, HQ.nN, HQ.hps⟩
    clear L
    have c0' := boxC B0
    have f0' := boxF B0
    go_upto_region 11 with (fail)
    clear c0' f0'
    have TT := Wrote.setCell (b := w.heap.size) (o := 28) (R := fun b _ => b = w.heap.size) (Wrote.setCell (b := w.heap.size) (o := 27) (R := fun b _ => b = w.heap.size) (Wrote.refl _ W2) (fun _ => rfl) (.bool d.hd)) (fun _ => rfl) (.int .i64 s')
    replace B1 := box_wrote B1 TT (fun o (h : _ = _) => by omega)
    replace B0 := box_set (o := 27) B0 (.bool d.hd)
    replace B0 := box_set (o := 28) B0 (.int .i64 s')
    simp only [List.setIfInBounds_toArray, List.set_cons_succ, List.set_cons_zero] at B0
    replace HQ := HQ.keepD TT (fun i b o h (e : b = _) => by have := bd0 _ _ h; omega) (fun o (e : _ = _) => by omega) (fun o (e : _ = _) => by omega)
    replace L0 := L0.trans (TT.below L0.size (fun b o hb (h : b = _) => by omega))
    clear TT
    generalize (W2.setCell ⟨w.heap.size, 27, none⟩ (.bool d.hd)).setCell ⟨w.heap.size, 28, none⟩ (.int .i64 s') = W3 at *
    have LA : Below W3.heap.size W3 (W3.alloc (.cells #[.int .i64 x] 3)) := (Below.refl _ _).alloc (Nat.le_refl _) _
    have hE := boxC (box_new W3 #[.int .i64 x] 3) 0
    have hbk := boxLt B1
    have c0' := boxC (box_keep B0 LA (boxLt B0))
    have c0s := boxC B0
    have HQA := hide (HQ.below LA)
    have LXA := hide (below_snoc L0 LA)
    have B0A := hide (box_keep B0 LA (boxLt B0))
    have B1A := hide (box_keep B1 LA (boxLt B1))
    clear HQ L0 LA B0 B1
    go_wp2_with (at_builtin; refine wpList_pushR _ rfl _ _ rfl lo g7 d.nq c7 d.rd rfl HQA.out.h7 hnq W3.heap.size x rfl hE ?_)
    intro g9 c9 W9 R9 hW hat9
    clear c0' c0s hE
    replace hat9 : (g9 = g7 ∧ d.nq + 1 ≤ c7) ∨ (W3.alloc (.cells #[.int .i64 x] 3)).heap.size ≤ g9 := by simpa using hat9
    have hs9 : (W3.alloc (.cells #[.int .i64 x] 3)).heap.size = W3.heap.size + 1 := by simp
    have HQN := HQA.out.push (by have := HQA.out.n7; omega) hW R9 hat9
    have B0 := box_wrote B0A.out hW (fun o ⟨e, _⟩ => by omega)
    have B1 := box_wrote B1A.out hW (fun o ⟨e, _⟩ => by omega)
    have LW : Below lo w W9 := (LXA.out.mono hlo).trans (hW.below (Nat.le_trans hlo LXA.out.size) (fun b o hb ⟨e, _⟩ => by have := HQA.out.h7.parts.1; omega))
    have hg9 : g9 ≠ w.heap.size ∧ g9 ≠ w.heap.size + 1 := by rcases hat9 with ⟨e, _⟩ | h <;> omega
    clear HQA LXA B0A B1A hW R9 hat9 hs9
    have c0' := boxC B0
    have f0' := boxF B0
    go_upto_region 12 with (fail)
    clear c0' f0'
    rename_i K2 hK2
    have TT := Wrote.setCell (b := w.heap.size) (o := 33) (R := fun b _ => b = w.heap.size ∨ b = w.heap.size + 1) (Wrote.refl _ W9) (fun _ => Or.inl rfl) (.slice (some ⟨g9, 0, none⟩) (d.nq + 1) c9)
    replace B1 := box_wrote B1 (Wrote.setCell (b := w.heap.size) (o := 33) (R := fun b _ => b = w.heap.size) (Wrote.refl _ W9) (fun _ => rfl) (.slice (some ⟨g9, 0, none⟩) (d.nq + 1) c9)) (fun o (h : _ = _) => by omega)
    replace B0 := box_set (o := 33) B0 (.slice (some ⟨g9, 0, none⟩) (d.nq + 1) c9)
    simp only [List.setIfInBounds_toArray, List.set_cons_succ, List.set_cons_zero] at B0
    generalize W9.setCell ⟨w.heap.size, 33, none⟩ (.slice (some ⟨g9, 0, none⟩) (d.nq + 1) c9) = W10 at *
    refine wp_region_lit ?_
    refine wpList_load_row rfl _ _ rfl w.heap.size rfl _ _ _ _ B0 Tryz.underlying49 rfl infoLock ?_
    refine wpList_plain rfl (fun K3 hK3 => ?_)
    go_simp
    refine hK3 _ _ ?_
    clear hK3
    refine wpList_store_row rfl _ _ _ rfl (w.heap.size + 1) _ rfl rfl _ _ B1 infoLock rfl (by first | kernel_rfl | simp [Value.oneCell']) ?_
    have B3 := setRow_heap _ _ _ #[.slice x0 d.m y0, .slice x1 d.np y1, .slice x2 d.nr y2, .int .i64 d.bank, .int .i64 d.A, .int .i64 d.X, .int .i64 d.S, .int .i64 d.Pc, .bool d.Z, .bool d.N, .bool d.C, .bool d.I, .int .i64 d.t, .int .i64 d.c, .int .i64 d.s, .int .i64 d.ad, .int .i64 d.pl, .bool d.bl, .slice x3 d.nt y3, .slice x4 d.nd y4, .int .i64 d.T, .int .i64 d.P, .int .i64 d.K, .int .i64 d.B, .int .i64 d.L, .bool d.Q, .bool d.R, .bool d.hd, .int .i64 s', .bool d.nmi, .int .i64 d.st, .slice x5 d.mf y5, .slice (some ⟨g6, 0, none⟩) d.ns c6, .slice (some ⟨g9, 0, none⟩) (d.nq + 1) c9] _ _ B1
    have WW := (wrote_setRow B1 #[.slice x0 d.m y0, .slice x1 d.np y1, .slice x2 d.nr y2, .int .i64 d.bank, .int .i64 d.A, .int .i64 d.X, .int .i64 d.S, .int .i64 d.Pc, .bool d.Z, .bool d.N, .bool d.C, .bool d.I, .int .i64 d.t, .int .i64 d.c, .int .i64 d.s, .int .i64 d.ad, .int .i64 d.pl, .bool d.bl, .slice x3 d.nt y3, .slice x4 d.nd y4, .int .i64 d.T, .int .i64 d.P, .int .i64 d.K, .int .i64 d.B, .int .i64 d.L, .bool d.Q, .bool d.R, .bool d.hd, .int .i64 s', .bool d.nmi, .int .i64 d.st, .slice x5 d.mf y5, .slice (some ⟨g6, 0, none⟩) d.ns c6, .slice (some ⟨g9, 0, none⟩) (d.nq + 1) c9]).mono (S := fun b _ => b = w.heap.size ∨ b = w.heap.size + 1) (fun b o _ h => Or.inr h)
    generalize W10.setRow (w.heap.size + 1) #[.slice x0 d.m y0, .slice x1 d.np y1, .slice x2 d.nr y2, .int .i64 d.bank, .int .i64 d.A, .int .i64 d.X, .int .i64 d.S, .int .i64 d.Pc, .bool d.Z, .bool d.N, .bool d.C, .bool d.I, .int .i64 d.t, .int .i64 d.c, .int .i64 d.s, .int .i64 d.ad, .int .i64 d.pl, .bool d.bl, .slice x3 d.nt y3, .slice x4 d.nd y4, .int .i64 d.T, .int .i64 d.P, .int .i64 d.K, .int .i64 d.B, .int .i64 d.L, .bool d.Q, .bool d.R, .bool d.hd, .int .i64 s', .bool d.nmi, .int .i64 d.st, .slice x5 d.mf y5, .slice (some ⟨g6, 0, none⟩) d.ns c6, .slice (some ⟨g9, 0, none⟩) (d.nq + 1) c9] = W11 at *
    refine wpList_plain rfl (fun K4 hK4 => ?_)
    go_simp
    refine hK4 _ _ ?_
    clear hK4
    refine hK2 _ _ ?_
    have HF := hide (HQN.keepD (TT.trans WW) (fun i b o h e => by rcases h with ⟨-, rfl⟩ | ⟨-, h⟩; (omega); (have := bd0 _ _ h; omega)) (fun o e => by omega) (fun o e => by omega))
    have LF := hide (LW.trans ((TT.trans WW).below (Nat.le_trans hlo LW.size) (fun b o hb e => by omega)))
    clear HQN TT WW B0 B1 LW
    go_wp2
    refine bodyPost_ret (v := .tuple #[.agg #[.slice x0 d.m y0, .slice x1 d.np y1, .slice x2 d.nr y2, .int .i64 d.bank, .int .i64 d.A, .int .i64 d.X, .int .i64 d.S, .int .i64 d.Pc, .bool d.Z, .bool d.N, .bool d.C, .bool d.I, .int .i64 d.t, .int .i64 d.c, .int .i64 d.s, .int .i64 d.ad, .int .i64 d.pl, .bool d.bl, .slice x3 d.nt y3, .slice x4 d.nd y4, .int .i64 d.T, .int .i64 d.P, .int .i64 d.K, .int .i64 d.B, .int .i64 d.L, .bool d.Q, .bool d.R, .bool d.hd, .int .i64 s', .bool d.nmi, .int .i64 d.st, .slice x5 d.mf y5, .slice (some ⟨g6, 0, none⟩) d.ns c6, .slice (some ⟨g9, 0, none⟩) (d.nq + 1) c9], .int .i64 x]) (results_row_tmp Tryz.results21 _ _ (w.heap.size + 1) _ _ _ _ rfl B3 Tryz.underlying49 rfl infoLock) rfl ?_
    exact ⟨_, rfl, HF.out.ow, LF.out⟩
  have HV : Hid (readV d a = peekOf d.m d.f d.g d.bank (a % 65536) ∧ readD d a = d) := by
    have e2 : ¬ rgN (a % 65536) = 2 := by rw [← hrg.out]; exact r2
    have e3 : ¬ rgN (a % 65536) = 3 := by rw [← hrg.out]; exact r3
    have e4 : ¬ rgN (a % 65536) = 4 := by rw [← hrg.out]; exact r4
    show _ ∧ _
    unfold readD readV
    rw [if_neg e2, if_neg e3, if_neg e4, if_neg e2, if_neg e3, if_neg e4]
    exact ⟨rfl, rfl⟩
  rw [HV.out.1, HV.out.2]
  clear HV hrg hat
  have q2 : (rg == 2) = false := beq_eq_false_iff_ne.2 r2
  have q3 : (rg == 3) = false := beq_eq_false_iff_ne.2 r3
  have q4 : (rg == 4) = false := beq_eq_false_iff_ne.2 r4
  clear r2 r3 r4
  obtain ⟨x, hx⟩ : ∃ x, Hid (x = peekOf d.m d.f d.g d.bank (a % 65536)) := ⟨_, rfl⟩
  have HP := hide (fun W F G v u h k => l6Peek W F G v u d.m d.ln d.f d.nr d.g d.bank a h k okm)
  rw [← hx.out] at HP
  rw [← hx.out]
  clear hx
  go_enter Tryz.func21, Tryz.ntmps21
  go_wp2_with fail
  generalize (w.alloc (.cells #[.slice x0 d.m y0, .slice x1 d.np y1, .slice x2 d.nr y2, .int .i64 d.bank, .int .i64 d.A, .int .i64 d.X, .int .i64 d.S, .int .i64 d.Pc, .bool d.Z, .bool d.N, .bool d.C, .bool d.I, .int .i64 d.t, .int .i64 d.c, .int .i64 d.s, .int .i64 d.ad, .int .i64 d.pl, .bool d.bl, .slice x3 d.nt y3, .slice x4 d.nd y4, .int .i64 d.T, .int .i64 d.P, .int .i64 d.K, .int .i64 d.B, .int .i64 d.L, .bool d.Q, .bool d.R, .bool d.hd, .int .i64 d.sh, .bool d.nmi, .int .i64 d.st, .slice x5 d.mf y5, .slice (some ⟨g6, 0, none⟩) d.ns c6, .slice (some ⟨g7, 0, none⟩) d.nq c7] 49)).alloc (.cells #[.slice none 0 0, .slice none 0 0, .slice none 0 0, .int .i64 0, .int .i64 0, .int .i64 0, .int .i64 0, .int .i64 0, .bool false, .bool false, .bool false, .bool false, .int .i64 0, .int .i64 0, .int .i64 0, .int .i64 0, .int .i64 0, .bool false, .slice none 0 0, .slice none 0 0, .int .i64 0, .int .i64 0, .int .i64 0, .int .i64 0, .int .i64 0, .bool false, .bool false, .bool false, .int .i64 0, .bool false, .int .i64 0, .slice none 0 0, .slice none 0 0, .slice none 0 0] 49) = W0 at *
  refine (HG.out _).mono ?_
  rintro e W1 ⟨rfl, rfl⟩
  go_upto_region 4 with (fail)
  rename_i K2 hK2
  have hb1 := boxLt B1
  obtain ⟨y2', hy2, I2⟩ := HQ.h2.ints
  simp only [Value.agg.injEq, Array.mk.injEq, List.cons.injEq, and_true] at hy2
  subst hy2
  have I0 := HQ.h0.ints
  refine wp_region_eff [some 15, some 16, some 17, some 18, some 19, some 20, some 21, none, some 5] (by kernel_rfl) (by kernel_rfl) (by kernel_rfl) (by kernel_rfl) (by simp [slotsOf])
    (fun j b _ => j = 7 ∧ b = w.heap.size + 1)
    (fun i v W => match i with
      | 0 => v = .agg #[.slice x0 d.m y0, .slice x1 d.np y1, .slice x2 d.nr y2, .int .i64 d.bank, .int .i64 d.A, .int .i64 d.X, .int .i64 d.S, .int .i64 d.Pc, .bool d.Z, .bool d.N, .bool d.C, .bool d.I, .int .i64 d.t, .int .i64 d.c, .int .i64 d.s, .int .i64 d.ad, .int .i64 d.pl, .bool d.bl, .slice x3 d.nt y3, .slice x4 d.nd y4, .int .i64 d.T, .int .i64 d.P, .int .i64 d.K, .int .i64 d.B, .int .i64 d.L, .bool d.Q, .bool d.R, .bool d.hd, .int .i64 d.sh, .bool d.nmi, .int .i64 d.st, .slice x5 d.mf y5, .slice (some ⟨g6, 0, none⟩) d.ns c6, .slice (some ⟨g7, 0, none⟩) d.nq c7]
      | 1 => v = .pointer (some ⟨w.heap.size, 0, none⟩)
      | 2 => v = .agg #[.slice x0 d.m y0]
      | 3 => v = .pointer (some ⟨w.heap.size, 2, none⟩)
      | 4 => v = .agg #[.slice x2 d.nr y2, .int .i64 d.bank]
      | 5 => v = .int .i64 a
      | 6 => v = .int .i64 x
      | 7 => W.heap[w.heap.size + 1]? = some (.cells #[.slice x0 d.m y0, .slice x1 d.np y1, .slice x2 d.nr y2, .int .i64 d.bank, .int .i64 d.A, .int .i64 d.X, .int .i64 d.S, .int .i64 d.Pc, .bool d.Z, .bool d.N, .bool d.C, .bool d.I, .int .i64 d.t, .int .i64 d.c, .int .i64 d.s, .int .i64 d.ad, .int .i64 d.pl, .bool d.bl, .slice x3 d.nt y3, .slice x4 d.nd y4, .int .i64 d.T, .int .i64 d.P, .int .i64 d.K, .int .i64 d.B, .int .i64 d.L, .bool d.Q, .bool d.R, .bool d.hd, .int .i64 d.sh, .bool d.nmi, .int .i64 d.st, .slice x5 d.mf y5, .slice (some ⟨g6, 0, none⟩) d.ns c6, .slice (some ⟨g7, 0, none⟩) d.nq c7] 49 (0, 0))
      | _ => v = .int .i64 x) ?_ ?_ ?_
  · intro i j o v W W' hij _ _ hW h
    match i, hij, h with
    | 0, _, h => exact h
    | 1, _, h => exact h
    | 2, _, h => exact h
    | 3, _, h => exact h
    | 4, _, h => exact h
    | 5, _, h => exact h
    | 6, _, h => exact h
    | 7, hij, h => exact box_wrote h hW (fun o e => hij e.1.symm)
    | _ + 8, _, h => exact h
  · intro i o a' W K ho F L hw hK
    have t1 := F.get (t := 1) (v := .int .i64 a) (by decide) rfl
    have t2 := F.get (t := 2) (v := .pointer (some ⟨w.heap.size, 0, none⟩)) (by decide) rfl
    have t4 := F.get (t := 4) (v := .pointer (some ⟨w.heap.size + 1, 0, none⟩)) (by decide) rfl
    have LW : Below (w.heap.size + 1) W1 W := L.below (by omega) (fun b o hb ⟨j, _, _, _, _, _, e⟩ => by omega)
    have rB := box_keep B0 LW (by omega)
    have rb := boxC rB
    match i with
    | 0 =>
        simp only [List.getElem?_toArray, List.getElem?_cons_zero, List.getElem?_cons_succ, Option.some.injEq] at ho
        subst ho
        refine wp_load_row _ _ rfl w.heap.size (by simpa [Act.eval] using t2) _ _ _ _ rB Tryz.underlying49 rfl infoLock ?_
        exact hK _ _ (Wrote.refl _ _) rfl
    | 1 =>
        simp only [List.getElem?_toArray, List.getElem?_cons_zero, List.getElem?_cons_succ, Option.some.injEq] at ho
        subst ho
        go_simp
        exact hK _ _ (Wrote.refl _ _) rfl
    | 2 =>
        simp only [List.getElem?_toArray, List.getElem?_cons_zero, List.getElem?_cons_succ, Option.some.injEq] at ho
        subst ho
        have q1 : a'.tmps[16]?.getD undef = .pointer (some ⟨w.heap.size, 0, none⟩) := hw 1 (by kernel_rfl)
        go_simp
        exact hK _ _ (Wrote.refl _ _) rfl
    | 3 =>
        simp only [List.getElem?_toArray, List.getElem?_cons_zero, List.getElem?_cons_succ, Option.some.injEq] at ho
        subst ho
        go_simp
        exact hK _ _ (Wrote.refl _ _) rfl
    | 4 =>
        simp only [List.getElem?_toArray, List.getElem?_cons_zero, List.getElem?_cons_succ, Option.some.injEq] at ho
        subst ho
        have q1 : a'.tmps[18]?.getD undef = .pointer (some ⟨w.heap.size, 2, none⟩) := hw 3 (by kernel_rfl)
        go_simp
        exact hK _ _ (Wrote.refl _ _) rfl
    | 5 =>
        simp only [List.getElem?_toArray, List.getElem?_cons_zero, List.getElem?_cons_succ, Option.some.injEq] at ho
        subst ho
        go_simp
        exact hK _ _ (Wrote.refl _ _) rfl
    | 6 =>
        simp only [List.getElem?_toArray, List.getElem?_cons_zero, List.getElem?_cons_succ, Option.some.injEq] at ho
        subst ho
        have p2 : a'.tmps[17]?.getD undef = .agg #[.slice x0 d.m y0] := hw 2 (by kernel_rfl)
        have p4 : a'.tmps[19]?.getD undef = .agg #[.slice x2 d.nr y2, .int .i64 d.bank] := hw 4 (by kernel_rfl)
        have p5 : a'.tmps[20]?.getD undef = .int .i64 a := hw 5 (by kernel_rfl)
        go_simp
        refine (HP.out W _ _ _ _ (I0.keep L (fun b o hb ⟨j, _, _, _, _, _, e⟩ => by have := bd0 _ _ hb; omega)) (I2.keep L (fun b o hb ⟨j, _, _, _, _, _, e⟩ => by have := bd0 _ _ hb; omega))).mono ?_
        rintro e W' ⟨rfl, LX⟩
        exact hK _ _ (wrote_below LX _) rfl
    | 7 =>
        simp only [List.getElem?_toArray, List.getElem?_cons_zero, List.getElem?_cons_succ, Option.some.injEq] at ho
        subst ho
        have p0 : a'.tmps[15]?.getD undef = .agg #[.slice x0 d.m y0, .slice x1 d.np y1, .slice x2 d.nr y2, .int .i64 d.bank, .int .i64 d.A, .int .i64 d.X, .int .i64 d.S, .int .i64 d.Pc, .bool d.Z, .bool d.N, .bool d.C, .bool d.I, .int .i64 d.t, .int .i64 d.c, .int .i64 d.s, .int .i64 d.ad, .int .i64 d.pl, .bool d.bl, .slice x3 d.nt y3, .slice x4 d.nd y4, .int .i64 d.T, .int .i64 d.P, .int .i64 d.K, .int .i64 d.B, .int .i64 d.L, .bool d.Q, .bool d.R, .bool d.hd, .int .i64 d.sh, .bool d.nmi, .int .i64 d.st, .slice x5 d.mf y5, .slice (some ⟨g6, 0, none⟩) d.ns c6, .slice (some ⟨g7, 0, none⟩) d.nq c7] := hw 0 (by kernel_rfl)
        have rB1 := box_wrote B1 L (fun o ⟨j, _, hj, _, _, e, _⟩ => hj e)
        refine wp_store_row _ _ _ rfl (w.heap.size + 1) #[.slice x0 d.m y0, .slice x1 d.np y1, .slice x2 d.nr y2, .int .i64 d.bank, .int .i64 d.A, .int .i64 d.X, .int .i64 d.S, .int .i64 d.Pc, .bool d.Z, .bool d.N, .bool d.C, .bool d.I, .int .i64 d.t, .int .i64 d.c, .int .i64 d.s, .int .i64 d.ad, .int .i64 d.pl, .bool d.bl, .slice x3 d.nt y3, .slice x4 d.nd y4, .int .i64 d.T, .int .i64 d.P, .int .i64 d.K, .int .i64 d.B, .int .i64 d.L, .bool d.Q, .bool d.R, .bool d.hd, .int .i64 d.sh, .bool d.nmi, .int .i64 d.st, .slice x5 d.mf y5, .slice (some ⟨g6, 0, none⟩) d.ns c6, .slice (some ⟨g7, 0, none⟩) d.nq c7] (by simpa [Act.eval] using t4) (by simpa [Act.eval] using p0) _ _ rB1 infoLock rfl (by first | kernel_rfl | simp [Value.oneCell']) ?_
        exact hK undef _ ((wrote_setRow rB1 _).mono (fun b o _ h => ⟨rfl, h⟩)) (setRow_heap _ _ _ _ _ _ rB1)
    | 8 =>
        simp only [List.getElem?_toArray, List.getElem?_cons_zero, List.getElem?_cons_succ, Option.some.injEq] at ho
        subst ho
        have p6 : a'.tmps[21]?.getD undef = .int .i64 x := hw 6 (by kernel_rfl)
        go_simp
        exact hK _ _ (Wrote.refl _ _) rfl
    | _ + 9 => simp at ho
  · intro a' W F L hφ
    have p7 : W.heap[w.heap.size + 1]? = some (.cells #[.slice x0 d.m y0, .slice x1 d.np y1, .slice x2 d.nr y2, .int .i64 d.bank, .int .i64 d.A, .int .i64 d.X, .int .i64 d.S, .int .i64 d.Pc, .bool d.Z, .bool d.N, .bool d.C, .bool d.I, .int .i64 d.t, .int .i64 d.c, .int .i64 d.s, .int .i64 d.ad, .int .i64 d.pl, .bool d.bl, .slice x3 d.nt y3, .slice x4 d.nd y4, .int .i64 d.T, .int .i64 d.P, .int .i64 d.K, .int .i64 d.B, .int .i64 d.L, .bool d.Q, .bool d.R, .bool d.hd, .int .i64 d.sh, .bool d.nmi, .int .i64 d.st, .slice x5 d.mf y5, .slice (some ⟨g6, 0, none⟩) d.ns c6, .slice (some ⟨g7, 0, none⟩) d.nq c7] 49 (0, 0)) := hφ 7 (by decide)
    have p8 : a'.tmps[5]?.getD undef = .int .i64 x := hφ 8 (by decide)
    have HF := hide (HQ.keepD L (fun i b o h ⟨j, _, e⟩ => by have := bd0 _ _ h; omega) (fun o ⟨j, _, e⟩ => by omega) (fun o ⟨j, _, e⟩ => by omega))
    have LF := hide ((L0.trans (L.below L0.size (fun b o hb ⟨j, _, e⟩ => by omega))).mono hlo)
    rw [F.same, show slotsOf [some 15, some 16, some 17, some 18, some 19, some 20, some 21, none, some 5] = [15, 16, 17, 18, 19, 20, 21, 5] from rfl]
    simp only [List.foldl_cons, List.foldl_nil]
    rw [p8]
    generalize a'.tmps[15]?.getD undef = s15
    generalize a'.tmps[16]?.getD undef = s16
    generalize a'.tmps[17]?.getD undef = s17
    generalize a'.tmps[18]?.getD undef = s18
    generalize a'.tmps[19]?.getD undef = s19
    generalize a'.tmps[20]?.getD undef = s20
    generalize a'.tmps[21]?.getD undef = s21
    clear hφ L F p8 HQ L0 B0 B1 I0 I2
    refine hK2 _ _ ?_
    go_simp
    go_wp2
    refine bodyPost_ret (v := .tuple #[.agg #[.slice x0 d.m y0, .slice x1 d.np y1, .slice x2 d.nr y2, .int .i64 d.bank, .int .i64 d.A, .int .i64 d.X, .int .i64 d.S, .int .i64 d.Pc, .bool d.Z, .bool d.N, .bool d.C, .bool d.I, .int .i64 d.t, .int .i64 d.c, .int .i64 d.s, .int .i64 d.ad, .int .i64 d.pl, .bool d.bl, .slice x3 d.nt y3, .slice x4 d.nd y4, .int .i64 d.T, .int .i64 d.P, .int .i64 d.K, .int .i64 d.B, .int .i64 d.L, .bool d.Q, .bool d.R, .bool d.hd, .int .i64 d.sh, .bool d.nmi, .int .i64 d.st, .slice x5 d.mf y5, .slice (some ⟨g6, 0, none⟩) d.ns c6, .slice (some ⟨g7, 0, none⟩) d.nq c7], .int .i64 x]) (results_row_tmp Tryz.results21 _ _ (w.heap.size + 1) _ _ _ _ rfl p7 Tryz.underlying49 rfl infoLock) rfl ?_
    exact ⟨_, rfl, HF.out.ow, LF.out⟩
end Go.Proofs.YtpaedkefmebjjarGreat
namespace Go.Proofs.YtpaedkefmebjjarGreat
set_option linter.unusedVariables false
set_option linter.unusedSimpArgs false
open Go.ChangeShapes Go.WideShapes Go.ChangeAt Go.RowKit
section
variable {W : World} {lo N : Nat} {D : Nat → Nat → Prop} {u0 u1 u2 u3 u4 ov : Value} {gb cp : Nat → Nat} {g6 c6 g7 c7 : Nat} {d : LockD}
/-- A new memory. -/
theorem LockP.mem (H : LockP W lo N D u0 u1 u2 u3 u4 ov gb cp g6 c6 g7 c7 d) {p q : Nat} {w2 : Value} {bank : Int} {nr : Nat} {g : Nat → Int} (hM : MemOn W (fun b => p ≤ b ∧ b < q) (.agg #[w2, .int .i64 bank]) nr g bank) (hp : N ≤ p) (hl : lo ≤ N) (hpq : p ≤ q) (hq : q ≤ W.heap.size) :
    LockP W lo q (fun i b => (i = 2 ∧ p ≤ b ∧ b < q) ∨ (i ≠ 2 ∧ D i b)) u0 u1 w2 u3 u4 ov gb cp g6 c6 g7 c7 { d with nr := nr, g := g, bank := bank } := by
  have nN := H.nN
  refine ⟨H.h0.mono (fun b _ h => Or.inr ⟨by decide, h⟩), H.h1.mono (fun b _ h => Or.inr ⟨by decide, h⟩), hM.mono (fun b _ h => Or.inl ⟨rfl, h⟩), H.h3.mono (fun b _ h => Or.inr ⟨by decide, h⟩), H.h4, fun b h => Or.inr ⟨by decide, H.h4D b h⟩, H.h6, ?_, H.h7, ?_, ?_, ?_, by have := H.n6; omega, by have := H.n7; omega, hq, H.hps⟩
  · rcases H.h6D with h | h
    · exact Or.inl (Or.inr ⟨by decide, h⟩)
    · exact Or.inr h
  · rcases H.h7D with h | h
    · exact Or.inl (Or.inr ⟨by decide, h⟩)
    · exact Or.inr h
  · intro i j b h1 h2
    rcases h1 with ⟨rfl, _, _⟩ | ⟨n1, h1⟩ <;> rcases h2 with ⟨rfl, _, _⟩ | ⟨n2, h2⟩
    · rfl
    · have := H.bd _ _ h2; omega
    · have := H.bd _ _ h1; omega
    · exact H.dis _ _ _ h1 h2
  · intro i b h
    rcases h with ⟨rfl, _, _⟩ | ⟨_, h⟩
    · omega
    · have := H.bd _ _ h; omega
end
def writeD (d : LockD) (a y : Int) : LockD :=
  if rgN (a % 65536) = 2 then { d with c := wrC true (rgP (a % 65536)) y d.c, s := wrS true (rgP (a % 65536)) y d.s, ad := wrA true (rgP (a % 65536)) y d.ad, pl := wrP true (rgP (a % 65536)) y d.pl, tb := wrT true (rgP (a % 65536)) y d.ad d.tb } else if rgN (a % 65536) = 3 then { d with P := wpA true d.P (rgP (a % 65536)) y, L := wlA true d.L (rgP (a % 65536)) y, Q := wsA true d.Q (rgP (a % 65536)) y, R := wqA true d.R (rgP (a % 65536)) y } else if rgN (a % 65536) = 4 then { d with hd := heldW y, sh := shiftW d.hd d.sh d.np d.p d.t y } else { d with g := pokeG true d.g (a % 65536) y, bank := pokeB true d.m d.bank (a % 65536) y }
set_option maxRecDepth 40000 in
set_option maxHeartbeats 8000000 in
theorem l12Write (w : World) (lo : Nat) (v : Value) (d : LockD) (a y : Int) (H : LockOw w lo v d) (hlo : lo ≤ w.heap.size) (hok : okLock d = true) : Calls Tryz.prog 51 #[v, .int .i64 a, .int .i64 y] w fun e w' => ∃ v', e = .returned v' ∧ LockOw w' lo v' (writeD d a y) ∧ Below lo w w' := by
  obtain ⟨okp, okm, oku, oka, oks⟩ := okLock_parts hok
  obtain ⟨D, u0, u1, u2, u3, u4, ov, gb, cp, g6, c6, g7, c7, rfl, HP0⟩ := LockP.of H
  obtain ⟨x0, y0, rfl⟩ := HP0.h0.form
  obtain ⟨x1, y1, rfl⟩ := HP0.h1.two
  obtain ⟨x2, y2, e2⟩ := HP0.h2.two
  simp only [Value.agg.injEq, Array.mk.injEq, List.cons.injEq, and_true] at e2
  subst e2
  obtain ⟨x3, y3, x4, y4, e3⟩ := HP0.h3.two
  simp only [Value.agg.injEq, Array.mk.injEq, List.cons.injEq, and_true, true_and] at e3
  obtain ⟨rfl, rfl⟩ := e3
  obtain ⟨x5, y5, rfl⟩ := HP0.h4.form
  have L0 : Below w.heap.size w ((w.alloc (.cells #[.slice x0 d.m y0, .slice x1 d.np y1, .slice x2 d.nr y2, .int .i64 d.bank, .int .i64 d.A, .int .i64 d.X, .int .i64 d.S, .int .i64 d.Pc, .bool d.Z, .bool d.N, .bool d.C, .bool d.I, .int .i64 d.t, .int .i64 d.c, .int .i64 d.s, .int .i64 d.ad, .int .i64 d.pl, .bool d.bl, .slice x3 d.nt y3, .slice x4 d.nd y4, .int .i64 d.T, .int .i64 d.P, .int .i64 d.K, .int .i64 d.B, .int .i64 d.L, .bool d.Q, .bool d.R, .bool d.hd, .int .i64 d.sh, .bool d.nmi, .int .i64 d.st, .slice x5 d.mf y5, .slice (some ⟨g6, 0, none⟩) d.ns c6, .slice (some ⟨g7, 0, none⟩) d.nq c7] 49)).alloc (.cells #[.slice none 0 0, .slice none 0 0, .slice none 0 0, .int .i64 0, .int .i64 0, .int .i64 0, .int .i64 0, .int .i64 0, .bool false, .bool false, .bool false, .bool false, .int .i64 0, .int .i64 0, .int .i64 0, .int .i64 0, .int .i64 0, .bool false, .slice none 0 0, .slice none 0 0, .int .i64 0, .int .i64 0, .int .i64 0, .int .i64 0, .int .i64 0, .bool false, .bool false, .bool false, .int .i64 0, .bool false, .int .i64 0, .slice none 0 0, .slice none 0 0, .slice none 0 0] 49)) := ((Below.refl _ _).alloc (Nat.le_refl _) _).alloc (by simp) _
  have B0 : ((w.alloc (.cells #[.slice x0 d.m y0, .slice x1 d.np y1, .slice x2 d.nr y2, .int .i64 d.bank, .int .i64 d.A, .int .i64 d.X, .int .i64 d.S, .int .i64 d.Pc, .bool d.Z, .bool d.N, .bool d.C, .bool d.I, .int .i64 d.t, .int .i64 d.c, .int .i64 d.s, .int .i64 d.ad, .int .i64 d.pl, .bool d.bl, .slice x3 d.nt y3, .slice x4 d.nd y4, .int .i64 d.T, .int .i64 d.P, .int .i64 d.K, .int .i64 d.B, .int .i64 d.L, .bool d.Q, .bool d.R, .bool d.hd, .int .i64 d.sh, .bool d.nmi, .int .i64 d.st, .slice x5 d.mf y5, .slice (some ⟨g6, 0, none⟩) d.ns c6, .slice (some ⟨g7, 0, none⟩) d.nq c7] 49)).alloc (.cells #[.slice none 0 0, .slice none 0 0, .slice none 0 0, .int .i64 0, .int .i64 0, .int .i64 0, .int .i64 0, .int .i64 0, .bool false, .bool false, .bool false, .bool false, .int .i64 0, .int .i64 0, .int .i64 0, .int .i64 0, .int .i64 0, .bool false, .slice none 0 0, .slice none 0 0, .int .i64 0, .int .i64 0, .int .i64 0, .int .i64 0, .int .i64 0, .bool false, .bool false, .bool false, .int .i64 0, .bool false, .int .i64 0, .slice none 0 0, .slice none 0 0, .slice none 0 0] 49)).heap[w.heap.size]? = some (.cells #[.slice x0 d.m y0, .slice x1 d.np y1, .slice x2 d.nr y2, .int .i64 d.bank, .int .i64 d.A, .int .i64 d.X, .int .i64 d.S, .int .i64 d.Pc, .bool d.Z, .bool d.N, .bool d.C, .bool d.I, .int .i64 d.t, .int .i64 d.c, .int .i64 d.s, .int .i64 d.ad, .int .i64 d.pl, .bool d.bl, .slice x3 d.nt y3, .slice x4 d.nd y4, .int .i64 d.T, .int .i64 d.P, .int .i64 d.K, .int .i64 d.B, .int .i64 d.L, .bool d.Q, .bool d.R, .bool d.hd, .int .i64 d.sh, .bool d.nmi, .int .i64 d.st, .slice x5 d.mf y5, .slice (some ⟨g6, 0, none⟩) d.ns c6, .slice (some ⟨g7, 0, none⟩) d.nq c7] 49 (0, 0)) := boxA (box_new w _ _) _
  have B1 : ((w.alloc (.cells #[.slice x0 d.m y0, .slice x1 d.np y1, .slice x2 d.nr y2, .int .i64 d.bank, .int .i64 d.A, .int .i64 d.X, .int .i64 d.S, .int .i64 d.Pc, .bool d.Z, .bool d.N, .bool d.C, .bool d.I, .int .i64 d.t, .int .i64 d.c, .int .i64 d.s, .int .i64 d.ad, .int .i64 d.pl, .bool d.bl, .slice x3 d.nt y3, .slice x4 d.nd y4, .int .i64 d.T, .int .i64 d.P, .int .i64 d.K, .int .i64 d.B, .int .i64 d.L, .bool d.Q, .bool d.R, .bool d.hd, .int .i64 d.sh, .bool d.nmi, .int .i64 d.st, .slice x5 d.mf y5, .slice (some ⟨g6, 0, none⟩) d.ns c6, .slice (some ⟨g7, 0, none⟩) d.nq c7] 49)).alloc (.cells #[.slice none 0 0, .slice none 0 0, .slice none 0 0, .int .i64 0, .int .i64 0, .int .i64 0, .int .i64 0, .int .i64 0, .bool false, .bool false, .bool false, .bool false, .int .i64 0, .int .i64 0, .int .i64 0, .int .i64 0, .int .i64 0, .bool false, .slice none 0 0, .slice none 0 0, .int .i64 0, .int .i64 0, .int .i64 0, .int .i64 0, .int .i64 0, .bool false, .bool false, .bool false, .int .i64 0, .bool false, .int .i64 0, .slice none 0 0, .slice none 0 0, .slice none 0 0] 49)).heap[w.heap.size + 1]? = some (.cells #[.slice none 0 0, .slice none 0 0, .slice none 0 0, .int .i64 0, .int .i64 0, .int .i64 0, .int .i64 0, .int .i64 0, .bool false, .bool false, .bool false, .bool false, .int .i64 0, .int .i64 0, .int .i64 0, .int .i64 0, .int .i64 0, .bool false, .slice none 0 0, .slice none 0 0, .int .i64 0, .int .i64 0, .int .i64 0, .int .i64 0, .int .i64 0, .bool false, .bool false, .bool false, .int .i64 0, .bool false, .int .i64 0, .slice none 0 0, .slice none 0 0, .slice none 0 0] 49 (0, 0)) := by simpa using box_new (w.alloc (.cells #[.slice x0 d.m y0, .slice x1 d.np y1, .slice x2 d.nr y2, .int .i64 d.bank, .int .i64 d.A, .int .i64 d.X, .int .i64 d.S, .int .i64 d.Pc, .bool d.Z, .bool d.N, .bool d.C, .bool d.I, .int .i64 d.t, .int .i64 d.c, .int .i64 d.s, .int .i64 d.ad, .int .i64 d.pl, .bool d.bl, .slice x3 d.nt y3, .slice x4 d.nd y4, .int .i64 d.T, .int .i64 d.P, .int .i64 d.K, .int .i64 d.B, .int .i64 d.L, .bool d.Q, .bool d.R, .bool d.hd, .int .i64 d.sh, .bool d.nmi, .int .i64 d.st, .slice x5 d.mf y5, .slice (some ⟨g6, 0, none⟩) d.ns c6, .slice (some ⟨g7, 0, none⟩) d.nq c7] 49)) #[.slice none 0 0, .slice none 0 0, .slice none 0 0, .int .i64 0, .int .i64 0, .int .i64 0, .int .i64 0, .int .i64 0, .bool false, .bool false, .bool false, .bool false, .int .i64 0, .int .i64 0, .int .i64 0, .int .i64 0, .int .i64 0, .bool false, .slice none 0 0, .slice none 0 0, .int .i64 0, .int .i64 0, .int .i64 0, .int .i64 0, .int .i64 0, .bool false, .bool false, .bool false, .int .i64 0, .bool false, .int .i64 0, .slice none 0 0, .slice none 0 0, .slice none 0 0] 49
  have HQ := HP0.below L0
  have bd0 := HP0.bd
  have n60 := HP0.n6
  have n70 := HP0.n7
  clear HP0 H
  obtain ⟨rg, hrg⟩ : ∃ x, Hid (x = rgN (a % 65536)) := ⟨_, rfl⟩
  obtain ⟨at', hat⟩ : ∃ x, Hid (x = rgP (a % 65536)) := ⟨_, rfl⟩
  have HG := hide (fun W => specRegion W a)
  rw [← hrg.out, ← hat.out] at HG
  by_cases r2 : rg = 2
  · have HV : Hid (writeD d a y = { d with c := wrC true at' y d.c, s := wrS true at' y d.s, ad := wrA true at' y d.ad, pl := wrP true at' y d.pl, tb := wrT true at' y d.ad d.tb }) := by
      have e : rgN (a % 65536) = 2 := by rw [← hrg.out]; exact r2
      show _ = _
      unfold writeD
      simp only [e, if_true]
      first | done | (rw [← hat.out]; done) | rw [← hat.out]
    rw [HV.out]
    subst r2
    clear HV hrg
    obtain ⟨c', hc'⟩ : ∃ x, Hid (x = wrC true at' y d.c) := ⟨_, rfl⟩
    obtain ⟨s', hs'⟩ : ∃ x, Hid (x = wrS true at' y d.s) := ⟨_, rfl⟩
    obtain ⟨ad', had'⟩ : ∃ x, Hid (x = wrA true at' y d.ad) := ⟨_, rfl⟩
    obtain ⟨pl', hpl'⟩ : ∃ x, Hid (x = wrP true at' y d.pl) := ⟨_, rfl⟩
    obtain ⟨tb', htb'⟩ : ∃ x, Hid (x = wrT true at' y d.ad d.tb) := ⟨_, rfl⟩
    have HP := hide (fun W E v h => onSpecPpuWrite W E v d.t d.c d.s d.ad d.pl d.bl d.nt d.tb d.nd d.dt h at' y)
    rw [oku, ← hc'.out, ← hs'.out, ← had'.out, ← hpl'.out, ← htb'.out] at HP
    rw [← hc'.out, ← hs'.out, ← had'.out, ← hpl'.out, ← htb'.out]
    clear hc' hs' had' hpl' htb' hat
    go_enter Tryz.func51, Tryz.ntmps51
    go_wp2_with fail
    generalize (w.alloc (.cells #[.slice x0 d.m y0, .slice x1 d.np y1, .slice x2 d.nr y2, .int .i64 d.bank, .int .i64 d.A, .int .i64 d.X, .int .i64 d.S, .int .i64 d.Pc, .bool d.Z, .bool d.N, .bool d.C, .bool d.I, .int .i64 d.t, .int .i64 d.c, .int .i64 d.s, .int .i64 d.ad, .int .i64 d.pl, .bool d.bl, .slice x3 d.nt y3, .slice x4 d.nd y4, .int .i64 d.T, .int .i64 d.P, .int .i64 d.K, .int .i64 d.B, .int .i64 d.L, .bool d.Q, .bool d.R, .bool d.hd, .int .i64 d.sh, .bool d.nmi, .int .i64 d.st, .slice x5 d.mf y5, .slice (some ⟨g6, 0, none⟩) d.ns c6, .slice (some ⟨g7, 0, none⟩) d.nq c7] 49)).alloc (.cells #[.slice none 0 0, .slice none 0 0, .slice none 0 0, .int .i64 0, .int .i64 0, .int .i64 0, .int .i64 0, .int .i64 0, .bool false, .bool false, .bool false, .bool false, .int .i64 0, .int .i64 0, .int .i64 0, .int .i64 0, .int .i64 0, .bool false, .slice none 0 0, .slice none 0 0, .int .i64 0, .int .i64 0, .int .i64 0, .int .i64 0, .int .i64 0, .bool false, .bool false, .bool false, .int .i64 0, .bool false, .int .i64 0, .slice none 0 0, .slice none 0 0, .slice none 0 0] 49) = W0 at *
    refine (HG.out _).mono ?_
    rintro e W1 ⟨rfl, rfl⟩
    have c0' := boxC B0
    go_wp2_with fail
    clear c0'
    refine (HP.out _ _ _ HQ.h3).mono ?_
    rintro e W2 ⟨v', rfl, P3, L⟩
    clear HP
    have l12 := L.size
    have hb1 := boxLt B1
    replace HQ := HQ.below L
    replace L0 := below_snoc L0 L
    replace B0 := box_keep B0 L (boxLt B0)
    replace B1 := box_keep B1 L (boxLt B1)
    obtain ⟨x3', y3', x4', y4', rfl⟩ := P3.two
    replace P3 := P3.mono (E := fun b => W1.heap.size ≤ b ∧ b < W2.heap.size) (fun b hb h => ⟨h, hb⟩)
    replace HQ := HQ.ppu P3 (by omega) hlo l12 (Nat.le_refl _)
    clear P3
    clear L
    have c0' := boxC B0
    have f0' := boxF B0
    go_upto_region 10 with (fail)
    clear c0' f0'
    rename_i K2 hK2
    have TT := Wrote.setCell (b := w.heap.size) (o := 19) (R := fun b _ => b = w.heap.size) (Wrote.setCell (b := w.heap.size) (o := 18) (R := fun b _ => b = w.heap.size) (Wrote.setCell (b := w.heap.size) (o := 17) (R := fun b _ => b = w.heap.size) (Wrote.setCell (b := w.heap.size) (o := 16) (R := fun b _ => b = w.heap.size) (Wrote.setCell (b := w.heap.size) (o := 15) (R := fun b _ => b = w.heap.size) (Wrote.setCell (b := w.heap.size) (o := 14) (R := fun b _ => b = w.heap.size) (Wrote.setCell (b := w.heap.size) (o := 13) (R := fun b _ => b = w.heap.size) (Wrote.setCell (b := w.heap.size) (o := 12) (R := fun b _ => b = w.heap.size) (Wrote.refl _ W2) (fun _ => rfl) (.int .i64 d.t)) (fun _ => rfl) (.int .i64 c')) (fun _ => rfl) (.int .i64 s')) (fun _ => rfl) (.int .i64 ad')) (fun _ => rfl) (.int .i64 pl')) (fun _ => rfl) (.bool d.bl)) (fun _ => rfl) (.slice x3' d.nt y3')) (fun _ => rfl) (.slice x4' d.nd y4')
    replace B1 := box_wrote B1 TT (fun o (h : _ = _) => by omega)
    replace B0 := box_set (o := 12) B0 (.int .i64 d.t)
    replace B0 := box_set (o := 13) B0 (.int .i64 c')
    replace B0 := box_set (o := 14) B0 (.int .i64 s')
    replace B0 := box_set (o := 15) B0 (.int .i64 ad')
    replace B0 := box_set (o := 16) B0 (.int .i64 pl')
    replace B0 := box_set (o := 17) B0 (.bool d.bl)
    replace B0 := box_set (o := 18) B0 (.slice x3' d.nt y3')
    replace B0 := box_set (o := 19) B0 (.slice x4' d.nd y4')
    simp only [List.setIfInBounds_toArray, List.set_cons_succ, List.set_cons_zero] at B0
    replace HQ := HQ.keepD TT (fun i b o h (e : b = _) => by rcases h with ⟨-, h1, h2⟩ | ⟨-, h⟩; (omega); (have := bd0 _ _ h; omega)) (fun o (e : _ = _) => by omega) (fun o (e : _ = _) => by omega)
    replace L0 := L0.trans (TT.below L0.size (fun b o hb (h : b = _) => by omega))
    clear TT
    generalize (((((((W2.setCell ⟨w.heap.size, 12, none⟩ (.int .i64 d.t)).setCell ⟨w.heap.size, 13, none⟩ (.int .i64 c')).setCell ⟨w.heap.size, 14, none⟩ (.int .i64 s')).setCell ⟨w.heap.size, 15, none⟩ (.int .i64 ad')).setCell ⟨w.heap.size, 16, none⟩ (.int .i64 pl')).setCell ⟨w.heap.size, 17, none⟩ (.bool d.bl)).setCell ⟨w.heap.size, 18, none⟩ (.slice x3' d.nt y3')).setCell ⟨w.heap.size, 19, none⟩ (.slice x4' d.nd y4') = W3 at *
    refine wp_region_lit ?_
    refine wpList_load_row rfl _ _ rfl w.heap.size rfl _ _ _ _ B0 Tryz.underlying49 rfl infoLock ?_
    refine wpList_store_row rfl _ _ _ rfl (w.heap.size + 1) _ rfl rfl _ _ B1 infoLock rfl (by first | kernel_rfl | simp [Value.oneCell']) ?_
    have B3 := setRow_heap _ _ _ #[.slice x0 d.m y0, .slice x1 d.np y1, .slice x2 d.nr y2, .int .i64 d.bank, .int .i64 d.A, .int .i64 d.X, .int .i64 d.S, .int .i64 d.Pc, .bool d.Z, .bool d.N, .bool d.C, .bool d.I, .int .i64 d.t, .int .i64 c', .int .i64 s', .int .i64 ad', .int .i64 pl', .bool d.bl, .slice x3' d.nt y3', .slice x4' d.nd y4', .int .i64 d.T, .int .i64 d.P, .int .i64 d.K, .int .i64 d.B, .int .i64 d.L, .bool d.Q, .bool d.R, .bool d.hd, .int .i64 d.sh, .bool d.nmi, .int .i64 d.st, .slice x5 d.mf y5, .slice (some ⟨g6, 0, none⟩) d.ns c6, .slice (some ⟨g7, 0, none⟩) d.nq c7] _ _ B1
    have WW := wrote_setRow B1 #[.slice x0 d.m y0, .slice x1 d.np y1, .slice x2 d.nr y2, .int .i64 d.bank, .int .i64 d.A, .int .i64 d.X, .int .i64 d.S, .int .i64 d.Pc, .bool d.Z, .bool d.N, .bool d.C, .bool d.I, .int .i64 d.t, .int .i64 c', .int .i64 s', .int .i64 ad', .int .i64 pl', .bool d.bl, .slice x3' d.nt y3', .slice x4' d.nd y4', .int .i64 d.T, .int .i64 d.P, .int .i64 d.K, .int .i64 d.B, .int .i64 d.L, .bool d.Q, .bool d.R, .bool d.hd, .int .i64 d.sh, .bool d.nmi, .int .i64 d.st, .slice x5 d.mf y5, .slice (some ⟨g6, 0, none⟩) d.ns c6, .slice (some ⟨g7, 0, none⟩) d.nq c7]
    generalize W3.setRow (w.heap.size + 1) #[.slice x0 d.m y0, .slice x1 d.np y1, .slice x2 d.nr y2, .int .i64 d.bank, .int .i64 d.A, .int .i64 d.X, .int .i64 d.S, .int .i64 d.Pc, .bool d.Z, .bool d.N, .bool d.C, .bool d.I, .int .i64 d.t, .int .i64 c', .int .i64 s', .int .i64 ad', .int .i64 pl', .bool d.bl, .slice x3' d.nt y3', .slice x4' d.nd y4', .int .i64 d.T, .int .i64 d.P, .int .i64 d.K, .int .i64 d.B, .int .i64 d.L, .bool d.Q, .bool d.R, .bool d.hd, .int .i64 d.sh, .bool d.nmi, .int .i64 d.st, .slice x5 d.mf y5, .slice (some ⟨g6, 0, none⟩) d.ns c6, .slice (some ⟨g7, 0, none⟩) d.nq c7] = W4 at *
    refine hK2 _ _ ?_
    have HF := hide (HQ.keepD WW (fun i b o h (e : b = _) => by rcases h with ⟨-, h1, h2⟩ | ⟨-, h⟩; (omega); (have := bd0 _ _ h; omega)) (fun o (e : _ = _) => by omega) (fun o (e : _ = _) => by omega))
    have LF := hide ((L0.trans (WW.below L0.size (fun b o hb (e : b = _) => by omega))).mono hlo)
    clear HQ WW B0 B1 L0
    go_wp2
    refine bodyPost_ret (v := .agg #[.slice x0 d.m y0, .slice x1 d.np y1, .slice x2 d.nr y2, .int .i64 d.bank, .int .i64 d.A, .int .i64 d.X, .int .i64 d.S, .int .i64 d.Pc, .bool d.Z, .bool d.N, .bool d.C, .bool d.I, .int .i64 d.t, .int .i64 c', .int .i64 s', .int .i64 ad', .int .i64 pl', .bool d.bl, .slice x3' d.nt y3', .slice x4' d.nd y4', .int .i64 d.T, .int .i64 d.P, .int .i64 d.K, .int .i64 d.B, .int .i64 d.L, .bool d.Q, .bool d.R, .bool d.hd, .int .i64 d.sh, .bool d.nmi, .int .i64 d.st, .slice x5 d.mf y5, .slice (some ⟨g6, 0, none⟩) d.ns c6, .slice (some ⟨g7, 0, none⟩) d.nq c7]) (results_cell_row Tryz.results51 _ _ (w.heap.size + 1) _ _ _ _ rfl B3 Tryz.underlying49 rfl infoLock) rfl ?_
    exact ⟨_, rfl, HF.out.ow, LF.out⟩
  by_cases r3 : rg = 3
  · have HV : Hid (writeD d a y = { d with P := wpA true d.P at' y, L := wlA true d.L at' y, Q := wsA true d.Q at' y, R := wqA true d.R at' y }) := by
      have e : rgN (a % 65536) = 3 := by rw [← hrg.out]; exact r3
      show _ = _
      unfold writeD
      simp only [e, if_true, show ¬ ((3 : Int) = 2) by decide, if_false]
      first | done | (rw [← hat.out]; done) | rw [← hat.out]
    rw [HV.out]
    subst r3
    clear HV hrg
    obtain ⟨p', hp'⟩ : ∃ x, Hid (x = wpA true d.P at' y) := ⟨_, rfl⟩
    obtain ⟨l', hl'⟩ : ∃ x, Hid (x = wlA true d.L at' y) := ⟨_, rfl⟩
    obtain ⟨q', hq'⟩ : ∃ x, Hid (x = wsA true d.Q at' y) := ⟨_, rfl⟩
    obtain ⟨r', hr'⟩ : ∃ x, Hid (x = wqA true d.R at' y) := ⟨_, rfl⟩
    have HP := hide (fun W (_ : LockP W lo w.heap.size D (.slice x0 d.m y0) (.slice x1 d.np y1) (.slice x2 d.nr y2) (.slice x3 d.nt y3) (.slice x4 d.nd y4) (.slice x5 d.mf y5) gb cp g6 c6 g7 c7 d) => specApuWrite W d.T d.P d.K d.B d.L d.Q d.R at' y)
    rw [oka, ← hp'.out, ← hl'.out, ← hq'.out, ← hr'.out] at HP
    rw [← hp'.out, ← hl'.out, ← hq'.out, ← hr'.out]
    clear hp' hl' hq' hr' hat
    go_enter Tryz.func51, Tryz.ntmps51
    go_wp2_with fail
    generalize (w.alloc (.cells #[.slice x0 d.m y0, .slice x1 d.np y1, .slice x2 d.nr y2, .int .i64 d.bank, .int .i64 d.A, .int .i64 d.X, .int .i64 d.S, .int .i64 d.Pc, .bool d.Z, .bool d.N, .bool d.C, .bool d.I, .int .i64 d.t, .int .i64 d.c, .int .i64 d.s, .int .i64 d.ad, .int .i64 d.pl, .bool d.bl, .slice x3 d.nt y3, .slice x4 d.nd y4, .int .i64 d.T, .int .i64 d.P, .int .i64 d.K, .int .i64 d.B, .int .i64 d.L, .bool d.Q, .bool d.R, .bool d.hd, .int .i64 d.sh, .bool d.nmi, .int .i64 d.st, .slice x5 d.mf y5, .slice (some ⟨g6, 0, none⟩) d.ns c6, .slice (some ⟨g7, 0, none⟩) d.nq c7] 49)).alloc (.cells #[.slice none 0 0, .slice none 0 0, .slice none 0 0, .int .i64 0, .int .i64 0, .int .i64 0, .int .i64 0, .int .i64 0, .bool false, .bool false, .bool false, .bool false, .int .i64 0, .int .i64 0, .int .i64 0, .int .i64 0, .int .i64 0, .bool false, .slice none 0 0, .slice none 0 0, .int .i64 0, .int .i64 0, .int .i64 0, .int .i64 0, .int .i64 0, .bool false, .bool false, .bool false, .int .i64 0, .bool false, .int .i64 0, .slice none 0 0, .slice none 0 0, .slice none 0 0] 49) = W0 at *
    refine (HG.out _).mono ?_
    rintro e W1 ⟨rfl, rfl⟩
    have c0' := boxC B0
    go_wp2_with fail
    clear c0'
    refine (HP.out _ HQ).mono ?_
    rintro e W2 ⟨rfl, L⟩
    clear HP
    have l12 := L.size
    have hb1 := boxLt B1
    replace HQ := HQ.below L
    replace L0 := below_snoc L0 L
    replace B0 := box_keep B0 L (boxLt B0)
    replace B1 := box_keep B1 L (boxLt B1)
    replace HQ : LockP W2 lo w.heap.size D (.slice x0 d.m y0) (.slice x1 d.np y1) (.slice x2 d.nr y2) (.slice x3 d.nt y3) (.slice x4 d.nd y4) (.slice x5 d.mf y5) gb cp g6 c6 g7 c7 { d with P := p', L := l', Q := q', R := r' } := ⟨HQ.h0, HQ.h1, HQ.h2, HQ.h3, HQ.h4, HQ.h4D, HQ.h6, HQ.h6D, HQ.h7, HQ.h7D, HQ.dis, HQ.bd, HQ.n6, HQ.n7, HQ.nN, HQ.hps⟩
    clear L
    have c0' := boxC B0
    have f0' := boxF B0
    go_upto_region 10 with (fail)
    clear c0' f0'
    rename_i K2 hK2
    have TT := Wrote.setCell (b := w.heap.size) (o := 26) (R := fun b _ => b = w.heap.size) (Wrote.setCell (b := w.heap.size) (o := 25) (R := fun b _ => b = w.heap.size) (Wrote.setCell (b := w.heap.size) (o := 24) (R := fun b _ => b = w.heap.size) (Wrote.setCell (b := w.heap.size) (o := 23) (R := fun b _ => b = w.heap.size) (Wrote.setCell (b := w.heap.size) (o := 22) (R := fun b _ => b = w.heap.size) (Wrote.setCell (b := w.heap.size) (o := 21) (R := fun b _ => b = w.heap.size) (Wrote.setCell (b := w.heap.size) (o := 20) (R := fun b _ => b = w.heap.size) (Wrote.refl _ W2) (fun _ => rfl) (.int .i64 d.T)) (fun _ => rfl) (.int .i64 p')) (fun _ => rfl) (.int .i64 d.K)) (fun _ => rfl) (.int .i64 d.B)) (fun _ => rfl) (.int .i64 l')) (fun _ => rfl) (.bool q')) (fun _ => rfl) (.bool r')
    replace B1 := box_wrote B1 TT (fun o (h : _ = _) => by omega)
    replace B0 := box_set (o := 20) B0 (.int .i64 d.T)
    replace B0 := box_set (o := 21) B0 (.int .i64 p')
    replace B0 := box_set (o := 22) B0 (.int .i64 d.K)
    replace B0 := box_set (o := 23) B0 (.int .i64 d.B)
    replace B0 := box_set (o := 24) B0 (.int .i64 l')
    replace B0 := box_set (o := 25) B0 (.bool q')
    replace B0 := box_set (o := 26) B0 (.bool r')
    simp only [List.setIfInBounds_toArray, List.set_cons_succ, List.set_cons_zero] at B0
    replace HQ := HQ.keepD TT (fun i b o h (e : b = _) => by have := bd0 _ _ h; omega) (fun o (e : _ = _) => by omega) (fun o (e : _ = _) => by omega)
    replace L0 := L0.trans (TT.below L0.size (fun b o hb (h : b = _) => by omega))
    clear TT
    generalize ((((((W2.setCell ⟨w.heap.size, 20, none⟩ (.int .i64 d.T)).setCell ⟨w.heap.size, 21, none⟩ (.int .i64 p')).setCell ⟨w.heap.size, 22, none⟩ (.int .i64 d.K)).setCell ⟨w.heap.size, 23, none⟩ (.int .i64 d.B)).setCell ⟨w.heap.size, 24, none⟩ (.int .i64 l')).setCell ⟨w.heap.size, 25, none⟩ (.bool q')).setCell ⟨w.heap.size, 26, none⟩ (.bool r') = W3 at *
    refine wp_region_lit ?_
    refine wpList_load_row rfl _ _ rfl w.heap.size rfl _ _ _ _ B0 Tryz.underlying49 rfl infoLock ?_
    refine wpList_store_row rfl _ _ _ rfl (w.heap.size + 1) _ rfl rfl _ _ B1 infoLock rfl (by first | kernel_rfl | simp [Value.oneCell']) ?_
    have B3 := setRow_heap _ _ _ #[.slice x0 d.m y0, .slice x1 d.np y1, .slice x2 d.nr y2, .int .i64 d.bank, .int .i64 d.A, .int .i64 d.X, .int .i64 d.S, .int .i64 d.Pc, .bool d.Z, .bool d.N, .bool d.C, .bool d.I, .int .i64 d.t, .int .i64 d.c, .int .i64 d.s, .int .i64 d.ad, .int .i64 d.pl, .bool d.bl, .slice x3 d.nt y3, .slice x4 d.nd y4, .int .i64 d.T, .int .i64 p', .int .i64 d.K, .int .i64 d.B, .int .i64 l', .bool q', .bool r', .bool d.hd, .int .i64 d.sh, .bool d.nmi, .int .i64 d.st, .slice x5 d.mf y5, .slice (some ⟨g6, 0, none⟩) d.ns c6, .slice (some ⟨g7, 0, none⟩) d.nq c7] _ _ B1
    have WW := wrote_setRow B1 #[.slice x0 d.m y0, .slice x1 d.np y1, .slice x2 d.nr y2, .int .i64 d.bank, .int .i64 d.A, .int .i64 d.X, .int .i64 d.S, .int .i64 d.Pc, .bool d.Z, .bool d.N, .bool d.C, .bool d.I, .int .i64 d.t, .int .i64 d.c, .int .i64 d.s, .int .i64 d.ad, .int .i64 d.pl, .bool d.bl, .slice x3 d.nt y3, .slice x4 d.nd y4, .int .i64 d.T, .int .i64 p', .int .i64 d.K, .int .i64 d.B, .int .i64 l', .bool q', .bool r', .bool d.hd, .int .i64 d.sh, .bool d.nmi, .int .i64 d.st, .slice x5 d.mf y5, .slice (some ⟨g6, 0, none⟩) d.ns c6, .slice (some ⟨g7, 0, none⟩) d.nq c7]
    generalize W3.setRow (w.heap.size + 1) #[.slice x0 d.m y0, .slice x1 d.np y1, .slice x2 d.nr y2, .int .i64 d.bank, .int .i64 d.A, .int .i64 d.X, .int .i64 d.S, .int .i64 d.Pc, .bool d.Z, .bool d.N, .bool d.C, .bool d.I, .int .i64 d.t, .int .i64 d.c, .int .i64 d.s, .int .i64 d.ad, .int .i64 d.pl, .bool d.bl, .slice x3 d.nt y3, .slice x4 d.nd y4, .int .i64 d.T, .int .i64 p', .int .i64 d.K, .int .i64 d.B, .int .i64 l', .bool q', .bool r', .bool d.hd, .int .i64 d.sh, .bool d.nmi, .int .i64 d.st, .slice x5 d.mf y5, .slice (some ⟨g6, 0, none⟩) d.ns c6, .slice (some ⟨g7, 0, none⟩) d.nq c7] = W4 at *
    refine hK2 _ _ ?_
    have HF := hide (HQ.keepD WW (fun i b o h (e : b = _) => by have := bd0 _ _ h; omega) (fun o (e : _ = _) => by omega) (fun o (e : _ = _) => by omega))
    have LF := hide ((L0.trans (WW.below L0.size (fun b o hb (e : b = _) => by omega))).mono hlo)
    clear HQ WW B0 B1 L0
    go_wp2
    refine bodyPost_ret (v := .agg #[.slice x0 d.m y0, .slice x1 d.np y1, .slice x2 d.nr y2, .int .i64 d.bank, .int .i64 d.A, .int .i64 d.X, .int .i64 d.S, .int .i64 d.Pc, .bool d.Z, .bool d.N, .bool d.C, .bool d.I, .int .i64 d.t, .int .i64 d.c, .int .i64 d.s, .int .i64 d.ad, .int .i64 d.pl, .bool d.bl, .slice x3 d.nt y3, .slice x4 d.nd y4, .int .i64 d.T, .int .i64 p', .int .i64 d.K, .int .i64 d.B, .int .i64 l', .bool q', .bool r', .bool d.hd, .int .i64 d.sh, .bool d.nmi, .int .i64 d.st, .slice x5 d.mf y5, .slice (some ⟨g6, 0, none⟩) d.ns c6, .slice (some ⟨g7, 0, none⟩) d.nq c7]) (results_cell_row Tryz.results51 _ _ (w.heap.size + 1) _ _ _ _ rfl B3 Tryz.underlying49 rfl infoLock) rfl ?_
    exact ⟨_, rfl, HF.out.ow, LF.out⟩
  by_cases r4 : rg = 4
  · have HV : Hid (writeD d a y = { d with hd := heldW y, sh := shiftW d.hd d.sh d.np d.p d.t y }) := by
      have e : rgN (a % 65536) = 4 := by rw [← hrg.out]; exact r4
      show _ = _
      unfold writeD
      simp only [e, if_true, show ¬ ((4 : Int) = 2) by decide, if_false, show ¬ ((4 : Int) = 3) by decide, if_false]
      first | done | (rw [← hat.out]; done) | rw [← hat.out]
    rw [HV.out]
    subst r4
    clear HV hrg
    obtain ⟨h', hh'⟩ : ∃ x, Hid (x = heldW y) := ⟨_, rfl⟩
    obtain ⟨s', hs'⟩ : ∃ x, Hid (x = shiftW d.hd d.sh d.np d.p d.t y) := ⟨_, rfl⟩
    have HP := hide (fun W (h : LockP W lo w.heap.size D (.slice x0 d.m y0) (.slice x1 d.np y1) (.slice x2 d.nr y2) (.slice x3 d.nt y3) (.slice x4 d.nd y4) (.slice x5 d.mf y5) gb cp g6 c6 g7 c7 d) => specPadWrite W (On (D 1)) d.hd d.sh (.slice x1 d.np y1) d.np d.p d.t y (by have := (okPpu_range oku).2; omega) (by obtain ⟨aa, cc, e, hs⟩ := h.h1; rw [e]; exact hs.ints cc))
    rw [← hh'.out, ← hs'.out] at HP
    rw [← hh'.out, ← hs'.out]
    clear hh' hs' hat
    go_enter Tryz.func51, Tryz.ntmps51
    go_wp2_with fail
    generalize (w.alloc (.cells #[.slice x0 d.m y0, .slice x1 d.np y1, .slice x2 d.nr y2, .int .i64 d.bank, .int .i64 d.A, .int .i64 d.X, .int .i64 d.S, .int .i64 d.Pc, .bool d.Z, .bool d.N, .bool d.C, .bool d.I, .int .i64 d.t, .int .i64 d.c, .int .i64 d.s, .int .i64 d.ad, .int .i64 d.pl, .bool d.bl, .slice x3 d.nt y3, .slice x4 d.nd y4, .int .i64 d.T, .int .i64 d.P, .int .i64 d.K, .int .i64 d.B, .int .i64 d.L, .bool d.Q, .bool d.R, .bool d.hd, .int .i64 d.sh, .bool d.nmi, .int .i64 d.st, .slice x5 d.mf y5, .slice (some ⟨g6, 0, none⟩) d.ns c6, .slice (some ⟨g7, 0, none⟩) d.nq c7] 49)).alloc (.cells #[.slice none 0 0, .slice none 0 0, .slice none 0 0, .int .i64 0, .int .i64 0, .int .i64 0, .int .i64 0, .int .i64 0, .bool false, .bool false, .bool false, .bool false, .int .i64 0, .int .i64 0, .int .i64 0, .int .i64 0, .int .i64 0, .bool false, .slice none 0 0, .slice none 0 0, .int .i64 0, .int .i64 0, .int .i64 0, .int .i64 0, .int .i64 0, .bool false, .bool false, .bool false, .int .i64 0, .bool false, .int .i64 0, .slice none 0 0, .slice none 0 0, .slice none 0 0] 49) = W0 at *
    refine (HG.out _).mono ?_
    rintro e W1 ⟨rfl, rfl⟩
    have c0' := boxC B0
    go_wp2_with fail
    clear c0'
    refine (HP.out _ HQ).mono ?_
    rintro e W2 ⟨rfl, L⟩
    clear HP
    have l12 := L.size
    have hb1 := boxLt B1
    replace HQ := HQ.below L
    replace L0 := below_snoc L0 L
    replace B0 := box_keep B0 L (boxLt B0)
    replace B1 := box_keep B1 L (boxLt B1)
    replace HQ : LockP W2 lo w.heap.size D (.slice x0 d.m y0) (.slice x1 d.np y1) (.slice x2 d.nr y2) (.slice x3 d.nt y3) (.slice x4 d.nd y4) (.slice x5 d.mf y5) gb cp g6 c6 g7 c7 { d with hd := h', sh := s' } := ⟨HQ.h0, HQ.h1, HQ.h2, HQ.h3, HQ.h4, HQ.h4D, HQ.h6, HQ.h6D, HQ.h7, HQ.h7D, HQ.dis, HQ.bd, HQ.n6, HQ.n7, HQ.nN, HQ.hps⟩
    clear L
    have c0' := boxC B0
    have f0' := boxF B0
    go_upto_region 10 with (fail)
    clear c0' f0'
    rename_i K2 hK2
    have TT := Wrote.setCell (b := w.heap.size) (o := 28) (R := fun b _ => b = w.heap.size) (Wrote.setCell (b := w.heap.size) (o := 27) (R := fun b _ => b = w.heap.size) (Wrote.refl _ W2) (fun _ => rfl) (.bool h')) (fun _ => rfl) (.int .i64 s')
    replace B1 := box_wrote B1 TT (fun o (h : _ = _) => by omega)
    replace B0 := box_set (o := 27) B0 (.bool h')
    replace B0 := box_set (o := 28) B0 (.int .i64 s')
    simp only [List.setIfInBounds_toArray, List.set_cons_succ, List.set_cons_zero] at B0
    replace HQ := HQ.keepD TT (fun i b o h (e : b = _) => by have := bd0 _ _ h; omega) (fun o (e : _ = _) => by omega) (fun o (e : _ = _) => by omega)
    replace L0 := L0.trans (TT.below L0.size (fun b o hb (h : b = _) => by omega))
    clear TT
    generalize (W2.setCell ⟨w.heap.size, 27, none⟩ (.bool h')).setCell ⟨w.heap.size, 28, none⟩ (.int .i64 s') = W3 at *
    refine wp_region_lit ?_
    refine wpList_load_row rfl _ _ rfl w.heap.size rfl _ _ _ _ B0 Tryz.underlying49 rfl infoLock ?_
    refine wpList_store_row rfl _ _ _ rfl (w.heap.size + 1) _ rfl rfl _ _ B1 infoLock rfl (by first | kernel_rfl | simp [Value.oneCell']) ?_
    have B3 := setRow_heap _ _ _ #[.slice x0 d.m y0, .slice x1 d.np y1, .slice x2 d.nr y2, .int .i64 d.bank, .int .i64 d.A, .int .i64 d.X, .int .i64 d.S, .int .i64 d.Pc, .bool d.Z, .bool d.N, .bool d.C, .bool d.I, .int .i64 d.t, .int .i64 d.c, .int .i64 d.s, .int .i64 d.ad, .int .i64 d.pl, .bool d.bl, .slice x3 d.nt y3, .slice x4 d.nd y4, .int .i64 d.T, .int .i64 d.P, .int .i64 d.K, .int .i64 d.B, .int .i64 d.L, .bool d.Q, .bool d.R, .bool h', .int .i64 s', .bool d.nmi, .int .i64 d.st, .slice x5 d.mf y5, .slice (some ⟨g6, 0, none⟩) d.ns c6, .slice (some ⟨g7, 0, none⟩) d.nq c7] _ _ B1
    have WW := wrote_setRow B1 #[.slice x0 d.m y0, .slice x1 d.np y1, .slice x2 d.nr y2, .int .i64 d.bank, .int .i64 d.A, .int .i64 d.X, .int .i64 d.S, .int .i64 d.Pc, .bool d.Z, .bool d.N, .bool d.C, .bool d.I, .int .i64 d.t, .int .i64 d.c, .int .i64 d.s, .int .i64 d.ad, .int .i64 d.pl, .bool d.bl, .slice x3 d.nt y3, .slice x4 d.nd y4, .int .i64 d.T, .int .i64 d.P, .int .i64 d.K, .int .i64 d.B, .int .i64 d.L, .bool d.Q, .bool d.R, .bool h', .int .i64 s', .bool d.nmi, .int .i64 d.st, .slice x5 d.mf y5, .slice (some ⟨g6, 0, none⟩) d.ns c6, .slice (some ⟨g7, 0, none⟩) d.nq c7]
    generalize W3.setRow (w.heap.size + 1) #[.slice x0 d.m y0, .slice x1 d.np y1, .slice x2 d.nr y2, .int .i64 d.bank, .int .i64 d.A, .int .i64 d.X, .int .i64 d.S, .int .i64 d.Pc, .bool d.Z, .bool d.N, .bool d.C, .bool d.I, .int .i64 d.t, .int .i64 d.c, .int .i64 d.s, .int .i64 d.ad, .int .i64 d.pl, .bool d.bl, .slice x3 d.nt y3, .slice x4 d.nd y4, .int .i64 d.T, .int .i64 d.P, .int .i64 d.K, .int .i64 d.B, .int .i64 d.L, .bool d.Q, .bool d.R, .bool h', .int .i64 s', .bool d.nmi, .int .i64 d.st, .slice x5 d.mf y5, .slice (some ⟨g6, 0, none⟩) d.ns c6, .slice (some ⟨g7, 0, none⟩) d.nq c7] = W4 at *
    refine hK2 _ _ ?_
    have HF := hide (HQ.keepD WW (fun i b o h (e : b = _) => by have := bd0 _ _ h; omega) (fun o (e : _ = _) => by omega) (fun o (e : _ = _) => by omega))
    have LF := hide ((L0.trans (WW.below L0.size (fun b o hb (e : b = _) => by omega))).mono hlo)
    clear HQ WW B0 B1 L0
    go_wp2
    refine bodyPost_ret (v := .agg #[.slice x0 d.m y0, .slice x1 d.np y1, .slice x2 d.nr y2, .int .i64 d.bank, .int .i64 d.A, .int .i64 d.X, .int .i64 d.S, .int .i64 d.Pc, .bool d.Z, .bool d.N, .bool d.C, .bool d.I, .int .i64 d.t, .int .i64 d.c, .int .i64 d.s, .int .i64 d.ad, .int .i64 d.pl, .bool d.bl, .slice x3 d.nt y3, .slice x4 d.nd y4, .int .i64 d.T, .int .i64 d.P, .int .i64 d.K, .int .i64 d.B, .int .i64 d.L, .bool d.Q, .bool d.R, .bool h', .int .i64 s', .bool d.nmi, .int .i64 d.st, .slice x5 d.mf y5, .slice (some ⟨g6, 0, none⟩) d.ns c6, .slice (some ⟨g7, 0, none⟩) d.nq c7]) (results_cell_row Tryz.results51 _ _ (w.heap.size + 1) _ _ _ _ rfl B3 Tryz.underlying49 rfl infoLock) rfl ?_
    exact ⟨_, rfl, HF.out.ow, LF.out⟩
  have HV : Hid (writeD d a y = { d with g := pokeG true d.g (a % 65536) y, bank := pokeB true d.m d.bank (a % 65536) y }) := by
    have e2 : ¬ rgN (a % 65536) = 2 := by rw [← hrg.out]; exact r2
    have e3 : ¬ rgN (a % 65536) = 3 := by rw [← hrg.out]; exact r3
    have e4 : ¬ rgN (a % 65536) = 4 := by rw [← hrg.out]; exact r4
    show _ = _
    unfold writeD
    rw [if_neg e2, if_neg e3, if_neg e4]
  have q2 : (rg == 2) = false := beq_eq_false_iff_ne.2 r2
  have q3 : (rg == 3) = false := beq_eq_false_iff_ne.2 r3
  have q4 : (rg == 4) = false := beq_eq_false_iff_ne.2 r4
  clear r2 r3 r4
  rw [HV.out]
  clear HV hrg
  obtain ⟨g', hg'⟩ : ∃ x, Hid (x = pokeG true d.g (a % 65536) y) := ⟨_, rfl⟩
  obtain ⟨b', hb'⟩ : ∃ x, Hid (x = pokeB true d.m d.bank (a % 65536) y) := ⟨_, rfl⟩
  have HP := hide (fun W F G v u h k => specPoke W F G v u d.m d.ln d.f d.nr d.g d.bank a y h k)
  rw [okm, ← hg'.out, ← hb'.out] at HP
  rw [← hg'.out, ← hb'.out]
  clear hg' hb' hat
  go_enter Tryz.func51, Tryz.ntmps51
  go_wp2_with fail
  generalize (w.alloc (.cells #[.slice x0 d.m y0, .slice x1 d.np y1, .slice x2 d.nr y2, .int .i64 d.bank, .int .i64 d.A, .int .i64 d.X, .int .i64 d.S, .int .i64 d.Pc, .bool d.Z, .bool d.N, .bool d.C, .bool d.I, .int .i64 d.t, .int .i64 d.c, .int .i64 d.s, .int .i64 d.ad, .int .i64 d.pl, .bool d.bl, .slice x3 d.nt y3, .slice x4 d.nd y4, .int .i64 d.T, .int .i64 d.P, .int .i64 d.K, .int .i64 d.B, .int .i64 d.L, .bool d.Q, .bool d.R, .bool d.hd, .int .i64 d.sh, .bool d.nmi, .int .i64 d.st, .slice x5 d.mf y5, .slice (some ⟨g6, 0, none⟩) d.ns c6, .slice (some ⟨g7, 0, none⟩) d.nq c7] 49)).alloc (.cells #[.slice none 0 0, .slice none 0 0, .slice none 0 0, .int .i64 0, .int .i64 0, .int .i64 0, .int .i64 0, .int .i64 0, .bool false, .bool false, .bool false, .bool false, .int .i64 0, .int .i64 0, .int .i64 0, .int .i64 0, .int .i64 0, .bool false, .slice none 0 0, .slice none 0 0, .int .i64 0, .int .i64 0, .int .i64 0, .int .i64 0, .int .i64 0, .bool false, .bool false, .bool false, .int .i64 0, .bool false, .int .i64 0, .slice none 0 0, .slice none 0 0, .slice none 0 0] 49) = W0 at *
  refine (HG.out _).mono ?_
  rintro e W1 ⟨rfl, rfl⟩
  have c0' := boxC B0
  go_wp2_with fail
  clear c0'
  refine (HP.out _ _ _ _ _ HQ.h0.ints (by obtain ⟨_, e, I⟩ := HQ.h2.ints; simp only [Value.agg.injEq, Array.mk.injEq, List.cons.injEq, and_true] at e; rw [e]; exact I)).mono ?_
  rintro e W2 ⟨z2, rfl, OI, L⟩
  clear HP
  have l12 := L.size
  have hb1 := boxLt B1
  replace HQ := HQ.below L
  replace L0 := below_snoc L0 L
  replace B0 := box_keep B0 L (boxLt B0)
  replace B1 := box_keep B1 L (boxLt B1)
  have P2 := (MemOn.own (bank := b') OI).mono (E := fun b => W1.heap.size ≤ b ∧ b < W2.heap.size) (fun b hb h => ⟨h, hb⟩)
  clear OI
  obtain ⟨x2', y2'', e2'⟩ := P2.two
  simp only [Value.agg.injEq, Array.mk.injEq, List.cons.injEq, and_true] at e2'
  subst e2'
  replace HQ := HQ.mem P2 (by omega) hlo l12 (Nat.le_refl _)
  clear P2
  clear L
  have c0' := boxC B0
  have f0' := boxF B0
  go_upto_region 10 with (fail)
  clear c0' f0'
  rename_i K2 hK2
  have TT := Wrote.setCell (b := w.heap.size) (o := 3) (R := fun b _ => b = w.heap.size) (Wrote.setCell (b := w.heap.size) (o := 2) (R := fun b _ => b = w.heap.size) (Wrote.refl _ W2) (fun _ => rfl) (.slice x2' d.nr y2'')) (fun _ => rfl) (.int .i64 b')
  replace B1 := box_wrote B1 TT (fun o (h : _ = _) => by omega)
  replace B0 := box_set (o := 2) B0 (.slice x2' d.nr y2'')
  replace B0 := box_set (o := 3) B0 (.int .i64 b')
  simp only [List.setIfInBounds_toArray, List.set_cons_succ, List.set_cons_zero] at B0
  replace HQ := HQ.keepD TT (fun i b o h (e : b = _) => by rcases h with ⟨-, h1, h2⟩ | ⟨-, h⟩; (omega); (have := bd0 _ _ h; omega)) (fun o (e : _ = _) => by omega) (fun o (e : _ = _) => by omega)
  replace L0 := L0.trans (TT.below L0.size (fun b o hb (h : b = _) => by omega))
  clear TT
  generalize (W2.setCell ⟨w.heap.size, 2, none⟩ (.slice x2' d.nr y2'')).setCell ⟨w.heap.size, 3, none⟩ (.int .i64 b') = W3 at *
  refine wp_region_lit ?_
  refine wpList_load_row rfl _ _ rfl w.heap.size rfl _ _ _ _ B0 Tryz.underlying49 rfl infoLock ?_
  refine wpList_store_row rfl _ _ _ rfl (w.heap.size + 1) _ rfl rfl _ _ B1 infoLock rfl (by first | kernel_rfl | simp [Value.oneCell']) ?_
  have B3 := setRow_heap _ _ _ #[.slice x0 d.m y0, .slice x1 d.np y1, .slice x2' d.nr y2'', .int .i64 b', .int .i64 d.A, .int .i64 d.X, .int .i64 d.S, .int .i64 d.Pc, .bool d.Z, .bool d.N, .bool d.C, .bool d.I, .int .i64 d.t, .int .i64 d.c, .int .i64 d.s, .int .i64 d.ad, .int .i64 d.pl, .bool d.bl, .slice x3 d.nt y3, .slice x4 d.nd y4, .int .i64 d.T, .int .i64 d.P, .int .i64 d.K, .int .i64 d.B, .int .i64 d.L, .bool d.Q, .bool d.R, .bool d.hd, .int .i64 d.sh, .bool d.nmi, .int .i64 d.st, .slice x5 d.mf y5, .slice (some ⟨g6, 0, none⟩) d.ns c6, .slice (some ⟨g7, 0, none⟩) d.nq c7] _ _ B1
  have WW := wrote_setRow B1 #[.slice x0 d.m y0, .slice x1 d.np y1, .slice x2' d.nr y2'', .int .i64 b', .int .i64 d.A, .int .i64 d.X, .int .i64 d.S, .int .i64 d.Pc, .bool d.Z, .bool d.N, .bool d.C, .bool d.I, .int .i64 d.t, .int .i64 d.c, .int .i64 d.s, .int .i64 d.ad, .int .i64 d.pl, .bool d.bl, .slice x3 d.nt y3, .slice x4 d.nd y4, .int .i64 d.T, .int .i64 d.P, .int .i64 d.K, .int .i64 d.B, .int .i64 d.L, .bool d.Q, .bool d.R, .bool d.hd, .int .i64 d.sh, .bool d.nmi, .int .i64 d.st, .slice x5 d.mf y5, .slice (some ⟨g6, 0, none⟩) d.ns c6, .slice (some ⟨g7, 0, none⟩) d.nq c7]
  generalize W3.setRow (w.heap.size + 1) #[.slice x0 d.m y0, .slice x1 d.np y1, .slice x2' d.nr y2'', .int .i64 b', .int .i64 d.A, .int .i64 d.X, .int .i64 d.S, .int .i64 d.Pc, .bool d.Z, .bool d.N, .bool d.C, .bool d.I, .int .i64 d.t, .int .i64 d.c, .int .i64 d.s, .int .i64 d.ad, .int .i64 d.pl, .bool d.bl, .slice x3 d.nt y3, .slice x4 d.nd y4, .int .i64 d.T, .int .i64 d.P, .int .i64 d.K, .int .i64 d.B, .int .i64 d.L, .bool d.Q, .bool d.R, .bool d.hd, .int .i64 d.sh, .bool d.nmi, .int .i64 d.st, .slice x5 d.mf y5, .slice (some ⟨g6, 0, none⟩) d.ns c6, .slice (some ⟨g7, 0, none⟩) d.nq c7] = W4 at *
  refine hK2 _ _ ?_
  have HF := hide (HQ.keepD WW (fun i b o h (e : b = _) => by rcases h with ⟨-, h1, h2⟩ | ⟨-, h⟩; (omega); (have := bd0 _ _ h; omega)) (fun o (e : _ = _) => by omega) (fun o (e : _ = _) => by omega))
  have LF := hide ((L0.trans (WW.below L0.size (fun b o hb (e : b = _) => by omega))).mono hlo)
  clear HQ WW B0 B1 L0
  go_wp2
  refine bodyPost_ret (v := .agg #[.slice x0 d.m y0, .slice x1 d.np y1, .slice x2' d.nr y2'', .int .i64 b', .int .i64 d.A, .int .i64 d.X, .int .i64 d.S, .int .i64 d.Pc, .bool d.Z, .bool d.N, .bool d.C, .bool d.I, .int .i64 d.t, .int .i64 d.c, .int .i64 d.s, .int .i64 d.ad, .int .i64 d.pl, .bool d.bl, .slice x3 d.nt y3, .slice x4 d.nd y4, .int .i64 d.T, .int .i64 d.P, .int .i64 d.K, .int .i64 d.B, .int .i64 d.L, .bool d.Q, .bool d.R, .bool d.hd, .int .i64 d.sh, .bool d.nmi, .int .i64 d.st, .slice x5 d.mf y5, .slice (some ⟨g6, 0, none⟩) d.ns c6, .slice (some ⟨g7, 0, none⟩) d.nq c7]) (results_cell_row Tryz.results51 _ _ (w.heap.size + 1) _ _ _ _ rfl B3 Tryz.underlying49 rfl infoLock) rfl ?_
  exact ⟨_, rfl, HF.out.ow, LF.out⟩
end Go.Proofs.YtpaedkefmebjjarGreat
namespace Go.Proofs.YtpaedkefmebjjarGreat
set_option linter.unusedVariables false
set_option linter.unusedSimpArgs false
open Go.ChangeShapes Go.WideShapes Go.ChangeAt Go.RowKit
theorem own_put {W : World} {lo g n c : Nat} {e : TypeId} {vs : List Value} (h : W.ownsRow lo e 1 (.slice (some ⟨g, 0, none⟩) n c) n vs) (q : Nat) (y : Value) : (W.setCell ⟨g, q, none⟩ y).ownsRow lo e 1 (.slice (some ⟨g, 0, none⟩) n c) n (vs.set q y) := by
  refine ⟨by rw [List.length_set]; exact h.1, ?_⟩
  rcases h.2 with ⟨e, _⟩ | ⟨g', cap, cur, hv, hb, hg, h1, h2, h3, h4⟩
  · cases e
  · have hv' := hv
    simp only [Value.slice.injEq, Option.some.injEq, Addr.mk.injEq, and_true, true_and] at hv'
    obtain ⟨rfl, rfl⟩ := hv'
    refine Or.inr ⟨g, c, cur.setIfInBounds q y, rfl, hb, box_set hg _, h1, h2, by simpa using h3, ?_⟩
    rw [Nat.mul_one] at h4 ⊢
    rw [Array.toList_setIfInBounds, List.take_set, h4]
def valsOf (m : Nat) (ov : Nat → Value) : List Value := (List.range m).map ov
theorem valsOf_len (m : Nat) (ov : Nat → Value) : (valsOf m ov).length = m := by unfold valsOf; simp
theorem valsOf_get {m i : Nat} (ov : Nat → Value) (hi : i < m) : (valsOf m ov)[i]? = some (ov i) := by unfold valsOf; simp [hi]
theorem valsOf_lt {m i : Nat} {ov : Nat → Value} {u : Value} (h : (valsOf m ov)[i]? = some u) : i < m ∧ u = ov i := by
  rcases Nat.lt_or_ge i m with hi | hi
  · rw [valsOf_get ov hi] at h; exact ⟨hi, (Option.some.inj h).symm⟩
  · rw [List.getElem?_eq_none (by rw [valsOf_len]; exact hi)] at h; cases h
theorem valsOf_congr {m : Nat} {f g : Nat → Value} (h : ∀ i, i < m → f i = g i) : valsOf m f = valsOf m g := List.map_congr_left (fun i hi => h i (List.mem_range.1 hi))
theorem valsOf_set (m q : Nat) (f : Nat → Value) (y : Value) : (valsOf m f).set q y = valsOf m (fun i => if i = q then y else f i) := by
  apply List.ext_getElem?
  intro j
  by_cases hj : j < m
  · rw [valsOf_get _ hj]
    by_cases e : j = q
    · subst e
      rw [if_pos rfl, List.getElem?_set_self (by rw [valsOf_len]; exact hj)]
    · rw [if_neg e, List.getElem?_set_ne (by omega), valsOf_get _ hj]
  · rw [List.getElem?_eq_none (by rw [List.length_set, valsOf_len]; omega), List.getElem?_eq_none (by rw [valsOf_len]; omega)]
/-- The lists of a list of lists, as values. -/
theorem IntSS.vals {w : World} {F : Nat → Nat → Prop} {a : Option Addr} {m cap : Nat} {ln : Nat → Nat} {f : Nat → Nat → Int} (H : IntSS .i64 w F (.slice a m cap) m ln f) : ∃ ov : Nat → Value, (∀ i, i < m → Ints .i64 w F (ov i) (ln i) (f i)) ∧ ∀ i, i < m → ∃ b off, a = some ⟨b, off, none⟩ ∧ w.cell? ⟨b, off + i, none⟩ = some (ov i) := by
  obtain ⟨a', cap', e, hm, hF, hc⟩ := H
  simp only [Value.slice.injEq, true_and] at e
  obtain ⟨rfl, rfl⟩ := e
  have key : ∀ i, ∃ u : Value, i < m → Ints .i64 w F u (ln i) (f i) ∧ ∃ b off, a = some ⟨b, off, none⟩ ∧ w.cell? ⟨b, off + i, none⟩ = some u := fun i => by
    by_cases hi : i < m
    · obtain ⟨b, off, u, h1, h2, h3⟩ := hc i hi
      exact ⟨u, fun _ => ⟨h3, b, off, h1, h2⟩⟩
    · exact ⟨undef, fun h => absurd h hi⟩
  obtain ⟨ov, hov⟩ := Classical.axiomOfChoice key
  exact ⟨ov, fun i hi => (hov i hi).1, fun i hi => (hov i hi).2⟩
/-- 'append([][]int{}, xss...)'. -/
theorem wp_copyS (W : World) {o : Oper} {a : Act} {K : Act → World → Prop} {Q : Exit → Act → World → Prop} (s x : Operand) (hop : o.op = Op.call { callee := Callee.builtin Builtin.append, args := #[s, x], argTypes := #[22, 22] })
    (g0 : Nat) (hs : a.eval s = .slice (some ⟨g0, 0, none⟩) 0 0) (h0 : W.heap[g0]? = some (.cells #[] 25 (0, 0))) (lo : Nat) (hlo : lo ≤ g0) (ua : Option Addr) (m ux : Nat) (ov : Nat → Value) (hm : m ≤ 1048576) (hx : a.eval x = .slice ua m ux) (hc : ∀ i, i < m → ∃ b off, ua = some ⟨b, off, none⟩ ∧ W.cell? ⟨b, off + i, none⟩ = some (ov i))
    (h : ∀ g c W', W'.ownsRow lo 25 1 (.slice (some ⟨g, 0, none⟩) m c) m (valsOf m ov) → Below W.heap.size W W' → (g = g0 ∨ W.heap.size ≤ g) → K (a.put o.dst (.slice (some ⟨g, 0, none⟩) m c)) W') : o.wp Tryz.prog a W K Q := by
  obtain ⟨i0, hi, hz0, hz1, hz2⟩ := info_parts infoInts
  by_cases hn : m = 0
  · subst hn
    have hsrc : Src Tryz.prog i0.size 22 (.slice ua 0 ux) 0 [] W := by
      cases ua with
      | none => exact Src.ofNil W Tryz.underlying22 ux
      | some ad => exact Src.ofSlice W Tryz.underlying22 ad 0 ux [] (by simp) (fun j v hh => by simp at hh) (fun v hh => by cases hh)
    have hrun := run_append_nothing (P := Tryz.prog) W 22 22 o.type 25 i0 Tryz.underlying22 hi (some ⟨g0, 0, none⟩) 0 0 (Nat.le_refl _) _ hsrc
    unfold Oper.wp
    simp [execOp, hop, resolve, invoke, builtin, hs, hx, hrun, Result.andThen]
    exact h g0 0 W ⟨rfl, Or.inr ⟨g0, 0, #[], rfl, hlo, h0, Nat.le_refl _, by simp, rfl, rfl⟩⟩ (Below.refl _ _) (Or.inl rfl)
  · obtain ⟨rb, ro, rfl, -⟩ := hc 0 (by omega)
    have hcs : ∀ j u, (valsOf m ov)[j]? = some u → W.cell? ((⟨rb, ro, none⟩ : Addr).add j) = some u := fun j u hu => by
      obtain ⟨hj, rfl⟩ := valsOf_lt hu
      obtain ⟨b, off, e, hcj⟩ := hc j hj
      simp only [Option.some.injEq, Addr.mk.injEq, and_true] at e
      obtain ⟨rfl, rfl⟩ := e
      rw [add_at]
      exact hcj
    obtain ⟨v', w', hrun, r1, r2⟩ := run_append_arg_grows (P := Tryz.prog) W 22 o.type 25 i0 (.slice none 0 0) 1 24 Tryz.underlying22 hi hz0 hz1 hz2 rfl (by decide) ⟨g0, 0, none⟩ 0 0 [] rfl (fun j u hh => by simp at hh) ⟨rb, ro, none⟩ m ux (valsOf m ov) (by rw [valsOf_len, Nat.mul_one]) hcs (by omega) (by unfold maxLen; omega) (by omega)
    have hon : w'.ownsRow W.heap.size 25 1 v' m (valsOf m ov) := by simpa using r1
    obtain ⟨g', cap2, rfl, hg, hlt⟩ := hon.form (by omega)
    have L : Below W.heap.size W w' := (Below.refl _ _).grown r2 (Nat.le_refl _) (fun _ e => by cases e)
    unfold Oper.wp
    simp [execOp, hop, resolve, invoke, builtin, hs, hx, hrun, Result.andThen]
    exact h g' cap2 w' (own_lo hon (by have := boxLt h0; omega)) L (Or.inr hg)
theorem wpList_copyS (W : World) {ops : Array Oper} {rest : List Oper} {o : Oper} {a : Act} {Q : Exit → Act → World → Prop} (hg : o.guard = none) (s x : Operand) (hop : o.op = Op.call { callee := Callee.builtin Builtin.append, args := #[s, x], argTypes := #[22, 22] })
    (g0 : Nat) (hs : a.eval s = .slice (some ⟨g0, 0, none⟩) 0 0) (h0 : W.heap[g0]? = some (.cells #[] 25 (0, 0))) (lo : Nat) (hlo : lo ≤ g0) (ua : Option Addr) (m ux : Nat) (ov : Nat → Value) (hm : m ≤ 1048576) (hx : a.eval x = .slice ua m ux) (hc : ∀ i, i < m → ∃ b off, ua = some ⟨b, off, none⟩ ∧ W.cell? ⟨b, off + i, none⟩ = some (ov i))
    (h : ∀ g c W', W'.ownsRow lo 25 1 (.slice (some ⟨g, 0, none⟩) m c) m (valsOf m ov) → Below W.heap.size W W' → (g = g0 ∨ W.heap.size ≤ g) → wpList Tryz.prog ops Q rest (a.put o.dst (.slice (some ⟨g, 0, none⟩) m c)) W') : wpList Tryz.prog ops Q (o :: rest) a W :=
  wpList_plain hg fun K hK => wp_copyS W s x hop g0 hs h0 lo hlo ua m ux ov hm hx hc (fun g c W' r1 r2 r3 => hK _ _ (h g c W' r1 r2 r3))
/-- A list of lists that a call owns; the first q of its lists are its own too, the others are as they were. -/
structure SA (W : World) (lo : Nat) (v : Value) (m q : Nat) (ob : Nat → Option Nat) (iv ov : Nat → Value) (ln : Nat → Nat) (f : Nat → Nat → Int) : Prop where
  own : W.ownsRow lo 25 1 v m (valsOf m (fun i => if i < q then iv i else ov i))
  rows : ∀ i, i < q → RowAt W lo (ob i) (iv i) (ln i) (f i)
  inj : ∀ i j, i < q → j < q → i ≠ j → Two (ob i) (ob j)
  dj : ∀ g, v.ownBlock = some g → ∀ i, i < q → ob i ≠ some g
  small : m ≤ 1048576
section
variable {W W' : World} {lo m q : Nat} {v : Value} {ob : Nat → Option Nat} {iv ov : Nat → Value} {ln : Nat → Nat} {f : Nat → Nat → Int} {R : Nat → Nat → Prop}
theorem SA.keep (H : SA W lo v m q ob iv ov ln f) (hw : Wrote R W W') (h1 : ∀ g o, v.ownBlock = some g → ¬ R g o) (h2 : ∀ i b o, i < q → ob i = some b → ¬ R b o) : SA W' lo v m q ob iv ov ln f :=
  ⟨own_block H.own (fun g hg => hw.block g (own_at H.own hg).2 (fun o => h1 g o hg)), fun i hi => (H.rows i hi).keep hw (fun b hb _ _ o => h2 i b o hi hb), H.inj, H.dj, H.small⟩
theorem SA.below (H : SA W lo v m q ob iv ov ln f) (L : Below W.heap.size W W') : SA W' lo v m q ob iv ov ln f := H.keep (wrote_below L Nowhere) (fun _ _ _ x => x) (fun _ _ _ _ _ x => x)
theorem SA.mono {lo' : Nat} (H : SA W lo v m q ob iv ov ln f) (h : lo' ≤ lo) : SA W lo' v m q ob iv ov ln f :=
  ⟨own_lo H.own h, fun i hi => (H.rows i hi).mono h, H.inj, H.dj, H.small⟩
theorem SA.form (H : SA W lo v m q ob iv ov ln f) : ∃ a c, v = .slice a m c := by
  rcases H.own.2 with ⟨e, e0⟩ | ⟨g, c, cur, hv, -⟩
  · have : m = 0 := e0
    exact ⟨none, 0, by rw [e, this]⟩
  · exact ⟨_, _, hv⟩
theorem SA.cell {g c : Nat} (H : SA W lo (.slice (some ⟨g, 0, none⟩) m c) m q ob iv ov ln f) {i : Nat} (hi : i < m) : W.cell? ⟨g, i, none⟩ = some (if i < q then iv i else ov i) := by
  have := own_cells H.own i _ (valsOf_get _ hi)
  rwa [add_at, Nat.zero_add] at this
/-- One list more that is its own. -/
theorem SA.next {g c : Nat} {o : Option Nat} {y : Value} (H : SA W lo (.slice (some ⟨g, 0, none⟩) m c) m q ob iv ov ln f) (RN : RowAt W lo o y (ln q) (f q)) (h1 : o ≠ some g) (h2 : ∀ i, i < q → Two (ob i) o) :
    SA (W.setCell ⟨g, q, none⟩ y) lo (.slice (some ⟨g, 0, none⟩) m c) m (q + 1) (fun i => if i = q then o else ob i) (fun i => if i = q then y else iv i) ov ln f := by
  have hob : (Value.slice (some ⟨g, 0, none⟩) m c).ownBlock = some g := rfl
  have hw : Wrote (fun b _ => b = g) W (W.setCell ⟨g, q, none⟩ y) := Wrote.setCell (R := fun b _ => b = g) (Wrote.refl _ W) (fun _ => rfl) _
  have e0 := own_put H.own q y
  rw [valsOf_set] at e0
  refine ⟨?_, fun i hi => ?_, fun i j hi hj hij => ?_, fun g' hg i hi => ?_, H.small⟩
  · rw [valsOf_congr (g := fun i => if i = q then y else if i < q then iv i else ov i) (fun i hi => ?_)]
    · exact e0
    · show (if i < q + 1 then (if i = q then y else iv i) else ov i) = _
      by_cases e : i = q
      · rw [if_pos (by omega), if_pos e, if_pos e]
      · rw [if_neg e]
        by_cases h : i < q
        · rw [if_pos (by omega), if_neg e, if_pos h]
        · rw [if_neg (by omega), if_neg e, if_neg h]
  · by_cases e : i = q
    · subst e
      simp only [if_true]
      exact RN.keep hw (fun b hb _ _ o hR => h1 (hb.trans (congrArg some hR)))
    · simp only [if_neg e]
      exact (H.rows i (by omega)).keep hw (fun b hb _ _ o hR => H.dj g hob i (by omega) (hb.trans (congrArg some hR)))
  · by_cases e : i = q
    · rw [if_pos e, if_neg (by omega)]
      exact fun b hb hb' => h2 j (by omega) b hb' hb
    · by_cases e' : j = q
      · rw [if_neg e, if_pos e']
        exact h2 i (by omega)
      · rw [if_neg e, if_neg e']
        exact H.inj i j (by omega) (by omega) hij
  · obtain rfl : g = g' := by simpa [Value.ownBlock] using hg
    by_cases e : i = q
    · rw [if_pos e]; exact h1
    · rw [if_neg e]; exact H.dj g hob i (by omega)
def slA : Value → Option Addr
  | .slice a _ _ => a
  | _ => none
def slC : Value → Nat
  | .slice _ _ c => c
  | _ => 0
/-- A list of lists, all its own, on blocks of a kind. -/
theorem SA.onD (H : SA W lo v m m ob iv ov ln f) {D : Nat → Prop} (hD : ∀ b, (v.ownBlock = some b ∨ ∃ i, i < m ∧ ob i = some b) → D b) (hs : psum ln m ≤ 1099511627776) : SsOn W D v m ln f := by
  have hsl : ∀ i, i < m → iv i = .slice (slA (iv i)) (ln i) (slC (iv i)) ∧ SlOn W (fun b => ob i = some b) (slA (iv i)) (ln i) (f i) := fun i hi => by
    obtain ⟨a, x, e, hS⟩ := (H.rows i hi).sl
    rw [e]
    exact ⟨rfl, hS⟩
  rcases id H.own.2 with ⟨e, e0⟩ | ⟨g, c, cur, hv, hb, hg, k1, k2, k3, k4⟩
  · have hq : m = 0 := e0
    subst hq
    subst e
    refine ⟨fun _ => none, fun _ => 0, ⟨⟨none, 0, rfl, by omega, fun i hi => absurd hi (Nat.not_lt_zero _)⟩, fun i hi => absurd hi (Nat.not_lt_zero _), fun i j hi => absurd hi (Nat.not_lt_zero _), hs⟩, fun i hi => absurd hi (Nat.not_lt_zero _), fun i hi => absurd hi (Nat.not_lt_zero _), fun a cap e b o hF => absurd hF (foot_none _ _ _), fun i hi => absurd hi (Nat.not_lt_zero _)⟩
  · subst hv
    have hob : (Value.slice (some ⟨g, 0, none⟩) m c).ownBlock = some g := rfl
    refine ⟨fun i => slA (iv i), fun i => slC (iv i), ⟨⟨_, _, rfl, H.small, fun i hi => ⟨g, 0, rfl, ?_, fun j hj hF => H.dj g hob j hj ((hsl j hj).2.on _ _ hF)⟩⟩, fun i hi => (hsl i hi).2.free, fun i j hi hj hij b o h1 h2 => H.inj i j hi hj hij b ((hsl i hi).2.on _ _ h1) ((hsl j hj).2.on _ _ h2), hs⟩, fun i hi => (hsl i hi).2.row, fun i hi b o hF => hD b (Or.inr ⟨i, hi, (hsl i hi).2.on _ _ hF⟩), fun a cap e b o hF => ?_, fun i hi => (hsl i hi).2.small⟩
    · rw [Nat.zero_add, H.cell hi, if_pos hi]
      exact congrArg some (hsl i hi).1
    · simp only [Value.slice.injEq, true_and] at e
      obtain ⟨rfl, -⟩ := e
      obtain ⟨off, e, _, _⟩ := hF
      simp only [Option.some.injEq, Addr.mk.injEq] at e
      rw [← e.1]
      exact hD _ (Or.inl rfl)
end
theorem cloneSS (w : World) (F : Nat → Nat → Prop) (u : Value) (m : Nat) (ln : Nat → Nat) (f : Nat → Nat → Int) (H : IntSS .i64 w F u m ln f) :
    Calls Tryz.prog 130 #[u] w fun e w' => ∃ v ov, e = .returned v ∧ w'.ownsRow w.heap.size 25 1 v m (valsOf m ov) ∧ (∀ i, i < m → Ints .i64 w F (ov i) (ln i) (f i)) ∧ Below w.heap.size w w' := by
  obtain ⟨ua, ucap, rfl, um, -, -⟩ := id H
  obtain ⟨ov, h1, h2⟩ := H.vals
  clear H
  have hq : ∀ W : World, (binOp .eql 22 (.slice ua m ucap) (.slice none 0 0)).run Tryz.prog W = .ok (.bool ua.isNone) W := fun W => Lib.run_eql_slice_nil W 22 25 ua m ucap 0 0 Tryz.underlying22
  cases ua with
  | none =>
    have hq' : ∀ W : World, (binOp .eql 22 (.slice none m ucap) (.slice none 0 0)).run Tryz.prog W = .ok (.bool true) W := hq
    clear hq
    have hn : m = 0 := by
      rcases Nat.eq_zero_or_pos m with h | h
      · exact h
      · obtain ⟨b, off, e, -⟩ := h2 0 h
        cases e
    subst hn
    have HI := hide h1
    clear h1 h2
    go_enter Tryz.func130, Tryz.ntmps130
    go_wp2
    go_ret
    exact ⟨_, ov, rfl, ⟨rfl, Or.inl ⟨rfl, rfl⟩⟩, HI.out, Below.refl _ _⟩
  | some ua =>
    have hq' : ∀ W : World, (binOp .eql 22 (.slice (some ua) m ucap) (.slice none 0 0)).run Tryz.prog W = .ok (.bool false) W := hq
    clear hq
    have L0 : Below w.heap.size w (w.alloc (.cells #[] 25)) := (Below.refl _ _).alloc (Nat.le_refl _) _
    have k0 := box_new w #[] 25
    have HI := hide h1
    have HC := hide (show ∀ i, i < m → ∃ b off, some ua = some ⟨b, off, none⟩ ∧ (w.alloc (.cells #[] 25)).cell? ⟨b, off + i, none⟩ = some (ov i) from fun i hi => by
      obtain ⟨b, off, e, hc⟩ := h2 i hi
      exact ⟨b, off, e, (L0.cell (block_lt_of_cell hc)).trans hc⟩)
    clear h1 h2
    go_enter Tryz.func130, Tryz.ntmps130
    go_wp2_with (at_builtin; refine wpList_copyS _ rfl _ _ rfl w.heap.size rfl k0 w.heap.size (Nat.le_refl _) (some ua) m ucap ov um rfl HC.out ?_)
    rintro p x W2 R2 L2 hp
    have L3 := L0.trans (L2.mono (by omega))
    have HR := hide R2
    clear L0 L2 R2
    go_wp2
    go_ret
    exact ⟨_, ov, rfl, HR.out, HI.out, L3⟩
set_option maxHeartbeats 1000000 in
theorem copyLists (w : World) (F : Nat → Nat → Prop) (u : Value) (m : Nat) (ln : Nat → Nat) (f : Nat → Nat → Int) (H : IntSS .i64 w F u m ln f) :
    Calls Tryz.prog 107 #[u] w fun e w' => ∃ v ob iv ov, e = .returned v ∧ SA w' w.heap.size v m m ob iv ov ln f ∧ Below w.heap.size w w' := by
  obtain ⟨ua, ucap, rfl, um, -, -⟩ := id H
  have HC := hide (cloneSS w F _ m ln f H)
  clear H
  go_enter Tryz.func107, Tryz.ntmps107
  go_wp2_with fail
  refine HC.out.mono ?_
  rintro e W1 ⟨v, ov, rfl, O1, HI, L1⟩
  have S1 : SA W1 w.heap.size v m 0 (fun _ => none) ov ov ln f := ⟨by rw [valsOf_congr (g := ov) (fun i hi => if_neg (Nat.not_lt_zero _))]; exact O1, fun i hi => absurd hi (Nat.not_lt_zero _), fun i j hi => absurd hi (Nat.not_lt_zero _), fun g hg i hi => absurd hi (Nat.not_lt_zero _), um⟩
  obtain ⟨va, vc, rfl⟩ := S1.form
  have HV := hide HI
  clear HI O1 HC
  go_wp2
  go_loopw [10] (fun i wr => ∃ (q : Nat) (ob : Nat → Option Nat) (iv : Nat → Value), q ≤ m ∧ i = .int .i64 q ∧ SA wr w.heap.size (.slice va m vc) m q ob iv ov ln f ∧ Below w.heap.size w wr) (fun i _ => m - (intOf i).toNat)
  case atStart => exact ⟨0, _, _, Nat.zero_le _, rfl, S1, L1⟩
  case round =>
    obtain ⟨q, ob, iv, hq, rfl, hS, hL⟩ := hrel
    clear S1 L1
    by_cases hqm : q < m
    · have hqm' : (q : Int) < (m : Int) := by omega
      obtain ⟨g, cur, rfl, hlo, hg⟩ : ∃ g cur, va = some ⟨g, 0, none⟩ ∧ w.heap.size ≤ g ∧ wr.heap[g]? = some (.cells cur 25 (0, 0)) := by
        rcases id hS.own.2 with ⟨e, e0⟩ | ⟨g, c, cur, hv, hb, hg, -⟩
        · have h0 : m = 0 := e0
          omega
        · simp only [Value.slice.injEq, true_and] at hv
          exact ⟨g, cur, hv.1, hb, hg⟩
      have hc : wr.cell? ⟨g, q, none⟩ = some (ov q) := by
        have := hS.cell hqm
        rwa [if_neg (Nat.lt_irrefl _)] at this
      have HI := hide (HV.out q hqm)
      obtain ⟨xa, xc, hov, xn, -, -⟩ := id HI.out
      rw [hov] at hc HI
      have wq : IntKind.i64.wrap (q : Int) = q := by rw [IntKind.wrap_i64]; omega
      have HS := hide hS
      clear hS
      go_wp2_with fail
      refine (cloneRow _ F _ (ln q) (f q) (HI.out.keep (wrote_below hL Nowhere) (fun _ _ _ x => x))).mono ?_
      rintro e W2 ⟨y, o, rfl, RN, L2⟩
      obtain ⟨ra, rx, rfl⟩ := RN.form
      have hbl := boxLt hg
      have hg2 := box_keep hg L2 hbl
      have f2 := boxF hg2 q
      have c2 : W2.cell? ⟨g, q, none⟩ = some (.slice xa (ln q) xc) := (L2.cell hbl).trans hc
      have S2 := hide (HS.out.below L2)
      have LB := hide (below_snoc hL L2)
      have fr : ∀ b, o = some b → wr.heap.size ≤ b := fun b hb => by subst hb; exact RN.lt.1
      have hin : ∀ i b, i < q → ob i = some b → b < wr.heap.size := fun i b hi hb => by have := HS.out.rows i hi; rw [hb] at this; exact this.lt.2
      have RN' := hide (RN.mono hL.size)
      clear HS RN hL L2 hg hc HI hg2
      go_wp2
      go_roundw
      case rel => exact ⟨q + 1, _, _, by omega, by go_num, S2.out.next RN'.out (fun e => by have := fr g e; omega) (fun i hi b h1 h2 => by have := fr b h2; have := hin i b hi h1; omega), LB.out.setCell hlo _⟩
      case measure => simp [intOf]; omega
    · have hqm' : ¬ (q : Int) < (m : Int) := by omega
      obtain rfl : q = m := by omega
      have HP := hide (And.intro hS hL)
      clear hS hL HV
      go_wp2
      go_ret
      exact ⟨_, rfl, ⟨ob, iv, ov, HP.out.1⟩, HP.out.2⟩
theorem copyImage (w : World) (F : Nat → Nat → Prop) (u : Value) (m : Nat) (ln : Nat → Nat) (f : Nat → Nat → Int) (H : IntSS .i64 w F u m ln f) :
    Calls Tryz.prog 72 #[.agg #[u]] w fun e w' => ∃ v ob iv ov, e = .returned (.agg #[v]) ∧ SA w' w.heap.size v m m ob iv ov ln f ∧ Below w.heap.size w w' := by
  have L0 : Below w.heap.size w ((w.alloc (.cells #[u] 41)).alloc (.cells #[.slice none 0 0] 41)) := ((Below.refl _ _).alloc (Nat.le_refl _) _).alloc (by simp) _
  have K0 := H.keep (wrote_below L0 Nowhere) (fun _ _ _ x => x)
  obtain ⟨ua, ucap, rfl, un, -, -⟩ := H
  have b1 : ((w.alloc (.cells #[.slice ua m ucap] 41)).alloc (.cells #[.slice none 0 0] 41)).heap[w.heap.size]? = some (.cells #[.slice ua m ucap] 41 (0, 0)) := boxA (box_new w _ _) _
  have r1 : ((w.alloc (.cells #[.slice ua m ucap] 41)).alloc (.cells #[.slice none 0 0] 41)).heap[w.heap.size + 1]? = some (.cells #[.slice none 0 0] 41 (0, 0)) := by simpa using box_new (w.alloc (.cells #[.slice ua m ucap] 41)) #[.slice none 0 0] 41
  go_enter Tryz.func72, Tryz.ntmps72
  go_wp2_with fail
  generalize ((w.alloc (.cells #[.slice ua m ucap] 41)).alloc (.cells #[.slice none 0 0] 41)) = w1 at *
  have cb := boxC b1
  have hr1 := boxLt r1
  go_wp2_with fail
  refine (copyLists _ F _ m ln f K0).mono ?_
  rintro e w2 ⟨q, ob, iv, ov, rfl, O2, L2⟩
  obtain ⟨qa, qc, rfl⟩ := O2.form
  have cb2 := boxC (box_keep b1 L2 (boxLt b1))
  have cr2 := boxC (box_keep r1 L2 (boxLt r1))
  have fr2 := boxF (box_keep r1 L2 (boxLt r1))
  have HO2 := hide O2
  clear O2 K0 cb b1 r1
  go_wp2
  refine bodyPost_ret (v := .agg #[.slice qa m qc]) (by simp [results, Tryz.results72, go_sem, cr2]) rfl ?_
  have TT := Wrote.setCell (R := fun b _ => b = w.heap.size + 1) (Wrote.refl _ w2) (o := 0) (b := w.heap.size + 1) (fun _ => rfl) (.slice qa m qc)
  have O3 := HO2.out.keep TT (fun g o hg (h : g = _) => by have h1 := own_at HO2.out.own hg; have h2 : w1.heap.size ≤ g := h1.1; omega) (fun i b o hi hb (h : b = _) => by have h1 := HO2.out.rows i hi; rw [hb] at h1; have h2 : w1.heap.size ≤ b := h1.lt.1; omega)
  exact ⟨_, ob, iv, ov, rfl, O3.mono (show w.heap.size ≤ w1.heap.size by omega), (L0.trans (L2.mono L0.size)).setCell (by simp) _⟩
end Go.Proofs.YtpaedkefmebjjarGreat
namespace Go.Proofs.YtpaedkefmebjjarGreat
set_option linter.unusedVariables false
set_option linter.unusedSimpArgs false
open Go.ChangeShapes Go.WideShapes Go.ChangeAt Go.RowKit
/-- A console in step that the program owns, in parts. -/
structure LockA (W : World) (lo N : Nat) (D : Nat → Nat → Prop) (u0 u1 u2 u3 u4 u5 u6 u7 : Value) (ob : Nat → Option Nat) (iv ov : Nat → Value) (o6 o7 : Option Nat) (d : LockD) : Prop where
  h0 : SsOn W (D 0) u0 d.m d.ln d.f
  h1 : ListOn W (D 1) u1 d.np d.p
  h2 : MemOn W (D 2) (.agg #[u2, .int .i64 d.bank]) d.nr d.g d.bank
  h3 : PpuOn W (D 3) (.agg #[.int .i64 d.t, .int .i64 d.c, .int .i64 d.s, .int .i64 d.ad, .int .i64 d.pl, .bool d.bl, u3, u4]) d.t d.c d.s d.ad d.pl d.bl d.nt d.tb d.nd d.dt
  h5 : SA W lo u5 d.mf d.mf ob iv ov d.lf d.fr
  h5D : ∀ b, (u5.ownBlock = some b ∨ ∃ i, i < d.mf ∧ ob i = some b) → D 4 b
  h6 : RowAt W lo o6 u6 d.ns d.sm
  h6D : ∀ b, o6 = some b → D 5 b
  h7 : RowAt W lo o7 u7 d.nq d.rd
  h7D : ∀ b, o7 = some b → D 6 b
  dis : Dis D
  bd : ∀ i b, D i b → lo ≤ b ∧ b < N
  nN : N ≤ W.heap.size
  hps : psum d.lf d.mf ≤ 1099511627776
section
variable {R : Nat → Nat → Prop} {W W' : World} {lo N : Nat} {D : Nat → Nat → Prop} {u0 u1 u2 u3 u4 u5 u6 u7 : Value} {ob : Nat → Option Nat} {iv ov : Nat → Value} {o6 o7 : Option Nat} {d : LockD}
theorem RowAt.listOn {W : World} {lo : Nat} {o : Option Nat} {v : Value} {n : Nat} {f : Nat → Int} {D : Nat → Prop} (h : RowAt W lo o v n f) (hd : ∀ b, o = some b → D b) : ListOn W D v n f := by
  obtain ⟨a, x, e, hS⟩ := h.sl
  exact ⟨a, x, e, hS.small, hS.row, hS.free, fun b k hF => hd b (hS.on b k hF)⟩
theorem LockA.on (H : LockA W lo N D u0 u1 u2 u3 u4 u5 u6 u7 ob iv ov o6 o7 d) : LockOn W D (.agg #[u0, u1, u2, .int .i64 d.bank, .int .i64 d.A, .int .i64 d.X, .int .i64 d.S, .int .i64 d.Pc, .bool d.Z, .bool d.N, .bool d.C, .bool d.I, .int .i64 d.t, .int .i64 d.c, .int .i64 d.s, .int .i64 d.ad, .int .i64 d.pl, .bool d.bl, u3, u4, .int .i64 d.T, .int .i64 d.P, .int .i64 d.K, .int .i64 d.B, .int .i64 d.L, .bool d.Q, .bool d.R, .bool d.hd, .int .i64 d.sh, .bool d.nmi, .int .i64 d.st, u5, u6, u7]) d :=
  ⟨u0, u1, u2, u3, u4, u5, u6, u7, rfl, H.h0, H.h1, H.h2, H.h3, u5, u6, u7, rfl, H.h5.onD H.h5D H.hps, H.h6.listOn H.h6D, H.h7.listOn H.h7D⟩
theorem LockA.keepD (H : LockA W lo N D u0 u1 u2 u3 u4 u5 u6 u7 ob iv ov o6 o7 d) (hw : Wrote R W W') (hd : ∀ i b o, D i b → ¬ R b o) : LockA W' lo N D u0 u1 u2 u3 u4 u5 u6 u7 ob iv ov o6 o7 d :=
  ⟨H.h0.keep hw (fun b o h _ => hd _ b o h), H.h1.keep hw (fun b o h _ => hd _ b o h), H.h2.keep hw (fun b o h _ => hd _ b o h), H.h3.keep hw (fun b o h _ => hd _ b o h), H.h5.keep hw (fun g o hg => hd _ g o (H.h5D g (Or.inl hg))) (fun i b o hi hb => hd _ b o (H.h5D b (Or.inr ⟨i, hi, hb⟩))), H.h5D, H.h6.keep hw (fun b hb _ _ o => hd _ b o (H.h6D b hb)), H.h6D, H.h7.keep hw (fun b hb _ _ o => hd _ b o (H.h7D b hb)), H.h7D, H.dis, H.bd, Nat.le_trans H.nN hw.size, H.hps⟩
theorem LockA.keep (H : LockA W lo N D u0 u1 u2 u3 u4 u5 u6 u7 ob iv ov o6 o7 d) (hw : Wrote R W W') (hn : ∀ b o, lo ≤ b → b < N → ¬ R b o) : LockA W' lo N D u0 u1 u2 u3 u4 u5 u6 u7 ob iv ov o6 o7 d := H.keepD hw (fun i b o h => hn b o (H.bd i b h).1 (H.bd i b h).2)
theorem LockA.below (H : LockA W lo N D u0 u1 u2 u3 u4 u5 u6 u7 ob iv ov o6 o7 d) (L : Below W.heap.size W W') : LockA W' lo N D u0 u1 u2 u3 u4 u5 u6 u7 ob iv ov o6 o7 d := H.keep (wrote_below L Nowhere) (fun _ _ _ _ x => x)
/-- A new picture unit. -/
theorem LockA.ppu (H : LockA W lo N D u0 u1 u2 u3 u4 u5 u6 u7 ob iv ov o6 o7 d) {p q : Nat} {w3 w4 : Value} {c s ad pl : Int} {t : Int} {bl : Bool} {nt nd : Nat} {tb dt : Nat → Int} (hP : PpuOn W (fun b => p ≤ b ∧ b < q) (.agg #[.int .i64 t, .int .i64 c, .int .i64 s, .int .i64 ad, .int .i64 pl, .bool bl, w3, w4]) t c s ad pl bl nt tb nd dt) (hp : N ≤ p) (hl : lo ≤ N) (hpq : p ≤ q) (hq : q ≤ W.heap.size) :
    LockA W lo q (fun i b => (i = 3 ∧ p ≤ b ∧ b < q) ∨ (i ≠ 3 ∧ D i b)) u0 u1 u2 w3 w4 u5 u6 u7 ob iv ov o6 o7 { d with t := t, c := c, s := s, ad := ad, pl := pl, bl := bl, nt := nt, tb := tb, nd := nd, dt := dt } := by
  have nN := H.nN
  refine ⟨H.h0.mono (fun b _ h => Or.inr ⟨by decide, h⟩), H.h1.mono (fun b _ h => Or.inr ⟨by decide, h⟩), H.h2.mono (fun b _ h => Or.inr ⟨by decide, h⟩), hP.mono (fun b _ h => Or.inl ⟨rfl, h⟩), H.h5, fun b h => Or.inr ⟨by decide, H.h5D b h⟩, H.h6, fun b h => Or.inr ⟨by decide, H.h6D b h⟩, H.h7, fun b h => Or.inr ⟨by decide, H.h7D b h⟩, ?_, ?_, hq, H.hps⟩
  · intro i j b h1 h2
    rcases h1 with ⟨rfl, _, _⟩ | ⟨n1, h1⟩ <;> rcases h2 with ⟨rfl, _, _⟩ | ⟨n2, h2⟩
    · rfl
    · have := H.bd _ _ h2; omega
    · have := H.bd _ _ h1; omega
    · exact H.dis _ _ _ h1 h2
  · intro i b h
    rcases h with ⟨rfl, _, _⟩ | ⟨_, h⟩
    · omega
    · have := H.bd _ _ h; omega
/-- A new memory. -/
theorem LockA.mem (H : LockA W lo N D u0 u1 u2 u3 u4 u5 u6 u7 ob iv ov o6 o7 d) {p q : Nat} {w2 : Value} {bank : Int} {nr : Nat} {g : Nat → Int} (hP : MemOn W (fun b => p ≤ b ∧ b < q) (.agg #[w2, .int .i64 bank]) nr g bank) (hp : N ≤ p) (hl : lo ≤ N) (hpq : p ≤ q) (hq : q ≤ W.heap.size) :
    LockA W lo q (fun i b => (i = 2 ∧ p ≤ b ∧ b < q) ∨ (i ≠ 2 ∧ D i b)) u0 u1 w2 u3 u4 u5 u6 u7 ob iv ov o6 o7 { d with bank := bank, nr := nr, g := g } := by
  have nN := H.nN
  refine ⟨H.h0.mono (fun b _ h => Or.inr ⟨by decide, h⟩), H.h1.mono (fun b _ h => Or.inr ⟨by decide, h⟩), hP.mono (fun b _ h => Or.inl ⟨rfl, h⟩), H.h3.mono (fun b _ h => Or.inr ⟨by decide, h⟩), H.h5, fun b h => Or.inr ⟨by decide, H.h5D b h⟩, H.h6, fun b h => Or.inr ⟨by decide, H.h6D b h⟩, H.h7, fun b h => Or.inr ⟨by decide, H.h7D b h⟩, ?_, ?_, hq, H.hps⟩
  · intro i j b h1 h2
    rcases h1 with ⟨rfl, _, _⟩ | ⟨n1, h1⟩ <;> rcases h2 with ⟨rfl, _, _⟩ | ⟨n2, h2⟩
    · rfl
    · have := H.bd _ _ h2; omega
    · have := H.bd _ _ h1; omega
    · exact H.dis _ _ _ h1 h2
  · intro i b h
    rcases h with ⟨rfl, _, _⟩ | ⟨_, h⟩
    · omega
    · have := H.bd _ _ h; omega
/-- One more that was read. -/
theorem LockA.push (H : LockA W lo N D u0 u1 u2 u3 u4 u5 u6 u7 ob iv ov o6 o7 d) (hl : lo ≤ N) {g' : Nat} {u' : Value} {x : Int} (hw : Wrote (fun b _ => o7 = some b) W W') (R7 : RowAt W' lo (some g') u' (d.nq + 1) (snoc d.rd d.nq x)) (hat : o7 = some g' ∨ W.heap.size ≤ g') :
    LockA W' lo W'.heap.size (fun i b => (i = 6 ∧ b = g') ∨ (i ≠ 6 ∧ D i b)) u0 u1 u2 u3 u4 u5 u6 u' ob iv ov o6 (some g') { d with nq := d.nq + 1, rd := snoc d.rd d.nq x } := by
  have nN := H.nN
  have hz := hw.size
  have far : ∀ i b (o : Nat), i ≠ 6 → D i b → ¬ (o7 = some b) := fun i b o hi hb e => hi (H.dis i 6 b hb (H.h7D b e))
  have key : ∀ i, i ≠ 6 → D i g' → False := fun i hi h => by
    rcases hat with e | h'
    · exact far i g' 0 hi h e
    · have := H.bd _ _ h; omega
  refine ⟨(H.h0.keep hw (fun b o h _ => far 0 b o (by decide) h)).mono (fun b _ h => Or.inr ⟨by decide, h⟩), (H.h1.keep hw (fun b o h _ => far 1 b o (by decide) h)).mono (fun b _ h => Or.inr ⟨by decide, h⟩), (H.h2.keep hw (fun b o h _ => far 2 b o (by decide) h)).mono (fun b _ h => Or.inr ⟨by decide, h⟩), (H.h3.keep hw (fun b o h _ => far 3 b o (by decide) h)).mono (fun b _ h => Or.inr ⟨by decide, h⟩),
    H.h5.keep hw (fun g o hg => far 4 g o (by decide) (H.h5D g (Or.inl hg))) (fun i b o hi hb => far 4 b o (by decide) (H.h5D b (Or.inr ⟨i, hi, hb⟩))), fun b h => Or.inr ⟨by decide, H.h5D b h⟩, H.h6.keep hw (fun b hb _ _ o => far 5 b o (by decide) (H.h6D b hb)), fun b h => Or.inr ⟨by decide, H.h6D b h⟩, R7, fun b h => Or.inl ⟨rfl, (Option.some.inj h).symm⟩, ?_, ?_, Nat.le_refl _, H.hps⟩
  · intro i j b h1 h2
    rcases h1 with ⟨rfl, rfl⟩ | ⟨n1, h1⟩ <;> rcases h2 with ⟨rfl, e2⟩ | ⟨n2, h2⟩
    · rfl
    · exact (key _ n2 h2).elim
    · subst e2; exact (key _ n1 h1).elim
    · exact H.dis _ _ _ h1 h2
  · intro i b h
    rcases h with ⟨rfl, rfl⟩ | ⟨_, h⟩
    · exact R7.lt
    · have := H.bd _ _ h; omega
end
set_option maxRecDepth 40000 in
set_option maxHeartbeats 2000000 in
theorem copyObs (w : World) (F5 F6 F7 : Nat → Nat → Prop) (u5 u6 u7 : Value) (mf : Nat) (lf : Nat → Nat) (fr : Nat → Nat → Int) (ns : Nat) (sm : Nat → Int) (nq : Nat) (rd : Nat → Int) (H5 : IntSS .i64 w F5 u5 mf lf fr) (H6 : Ints .i64 w F6 u6 ns sm) (H7 : Ints .i64 w F7 u7 nq rd) :
    Calls Tryz.prog 76 #[.agg #[u5, u6, u7]] w fun e w' => ∃ v5 v6 v7, e = .returned (.agg #[v5, v6, v7]) ∧ (∃ ob iv ov o6 o7, SA w' w.heap.size v5 mf mf ob iv ov lf fr ∧ RowAt w' w.heap.size o6 v6 ns sm ∧ RowAt w' w.heap.size o7 v7 nq rd ∧ ∃ lo hi : Nat → Nat, (∀ b, (v5.ownBlock = some b ∨ ∃ i, i < mf ∧ ob i = some b) → lo 0 ≤ b ∧ b < hi 0) ∧ (∀ b, o6 = some b → lo 1 ≤ b ∧ b < hi 1) ∧ (∀ b, o7 = some b → lo 2 ≤ b ∧ b < hi 2) ∧ (∀ i, i < 3 → w.heap.size ≤ lo i ∧ hi i ≤ w'.heap.size) ∧ (∀ i j, i < 3 → j < 3 → i ≠ j → hi i ≤ lo j ∨ hi j ≤ lo i)) ∧ Below w.heap.size w w' := by
  obtain ⟨a5, c5, rfl, -⟩ := id H5
  obtain ⟨a6, c6, rfl, -⟩ := id H6
  obtain ⟨a7, c7, rfl, -⟩ := id H7
  have L0 : Below w.heap.size w ((w.alloc (.cells #[.slice a5 mf c5, .slice a6 ns c6, .slice a7 nq c7] 47)).alloc (.cells #[.slice none 0 0, .slice none 0 0, .slice none 0 0] 47)) := ((Below.refl _ _).alloc (Nat.le_refl _) _).alloc (by simp) _
  have B0 : ((w.alloc (.cells #[.slice a5 mf c5, .slice a6 ns c6, .slice a7 nq c7] 47)).alloc (.cells #[.slice none 0 0, .slice none 0 0, .slice none 0 0] 47)).heap[w.heap.size]? = some (.cells #[.slice a5 mf c5, .slice a6 ns c6, .slice a7 nq c7] 47 (0, 0)) := boxA (box_new w _ _) _
  have B1 : ((w.alloc (.cells #[.slice a5 mf c5, .slice a6 ns c6, .slice a7 nq c7] 47)).alloc (.cells #[.slice none 0 0, .slice none 0 0, .slice none 0 0] 47)).heap[w.heap.size + 1]? = some (.cells #[.slice none 0 0, .slice none 0 0, .slice none 0 0] 47 (0, 0)) := by simpa using box_new (w.alloc (.cells #[.slice a5 mf c5, .slice a6 ns c6, .slice a7 nq c7] 47)) #[.slice none 0 0, .slice none 0 0, .slice none 0 0] 47
  go_enter Tryz.func76, Tryz.ntmps76
  go_upto_region 1 with (fail)
  generalize (w.alloc (.cells #[.slice a5 mf c5, .slice a6 ns c6, .slice a7 nq c7] 47)).alloc (.cells #[.slice none 0 0, .slice none 0 0, .slice none 0 0] 47) = W0 at *
  obtain ⟨S, hS⟩ : ∃ S, Hid (S = W0.heap.size) := ⟨_, rfl⟩
  have L0s := hide L0.size
  rename_i KK hKK
  refine wp_region_effI [some 3, some 4, some 5, some 6, some 7, some 8, some 9, some 10, some 11, some 12, none] (by kernel_rfl) (by kernel_rfl) (by kernel_rfl) (by kernel_rfl) (by simp [slotsOf])
    (fun j b _ => j = 10 ∧ b = w.heap.size + 1)
    (fun i V lo hi W => match i with
      | 0 => V 0 = .pointer (some ⟨w.heap.size, 0, none⟩)
      | 1 => V 1 = .slice a5 mf c5
      | 2 => ∃ ob iv ov, SA W lo (V 2) mf mf ob iv ov lf fr ∧ ∀ b, ((V 2).ownBlock = some b ∨ ∃ i, i < mf ∧ ob i = some b) → b < hi
      | 3 => V 3 = .pointer (some ⟨w.heap.size, 1, none⟩)
      | 4 => V 4 = .slice a6 ns c6
      | 5 => ∃ o, RowAt W lo o (V 5) ns sm ∧ ∀ b, o = some b → b < hi
      | 6 => V 6 = .pointer (some ⟨w.heap.size, 2, none⟩)
      | 7 => V 7 = .slice a7 nq c7
      | 8 => ∃ o, RowAt W lo o (V 8) nq rd ∧ ∀ b, o = some b → b < hi
      | 9 => V 9 = .agg #[V 2, V 5, V 8]
      | _ => W.heap[w.heap.size + 1]? = some (.cells #[V 2, V 5, V 8] 47 (0, 0))) ?_ ?_ ?_
  · intro i j o V x lo hi W W' hij ho hnw hlo hhi hW h
    have hS' := hS.out
    have hb1 := boxLt B1
    have far : ∀ (g k : Nat), S ≤ g → ¬ (j = 10 ∧ g = w.heap.size + 1) := fun g k hg hR => by omega
    have nw : ∀ k, waitsB o k = true → k ≠ j := fun k hk e => by rw [e, hnw] at hk; cases hk
    match i, ho, hij, nw, h with
    | 0, _, hij, _, h => exact (updV_ne V x hij).trans h
    | 1, _, hij, _, h => exact (updV_ne V x hij).trans h
    | 3, _, hij, _, h => exact (updV_ne V x hij).trans h
    | 4, _, hij, _, h => exact (updV_ne V x hij).trans h
    | 6, _, hij, _, h => exact (updV_ne V x hij).trans h
    | 7, _, hij, _, h => exact (updV_ne V x hij).trans h
    | 2, _, hij, _, ⟨ob, iv, ov, h1, h2⟩ =>
      rw [← updV_ne V x hij] at h1 h2
      exact ⟨ob, iv, ov, h1.keep hW (fun g o hg => far g o (by have := own_at h1.own hg; omega)) (fun i b o hi hb => far _ o (by have h3 := h1.rows i hi; rw [hb] at h3; have := h3.lt.1; omega)), h2⟩
    | 5, _, hij, _, ⟨o6, h1, h2⟩ =>
      rw [← updV_ne V x hij] at h1
      exact ⟨o6, h1.keep hW (fun b hb h3 _ k => far b k (by omega)), h2⟩
    | 8, _, hij, _, ⟨o7, h1, h2⟩ =>
      rw [← updV_ne V x hij] at h1
      exact ⟨o7, h1.keep hW (fun b hb h3 _ k => far b k (by omega)), h2⟩
    | 9, ho, hij, nw, h =>
      simp only [List.getElem?_toArray, List.getElem?_cons_zero, List.getElem?_cons_succ, Option.some.injEq] at ho
      subst ho
      show updV V j x 9 = .agg #[updV V j x 2, updV V j x 5, updV V j x 8]
      rw [updV_ne V x hij, updV_ne V x (nw 2 (by kernel_rfl)), updV_ne V x (nw 5 (by kernel_rfl)), updV_ne V x (nw 8 (by kernel_rfl))]
      exact h
    | 10, ho, hij, nw, h =>
      simp only [List.getElem?_toArray, List.getElem?_cons_zero, List.getElem?_cons_succ, Option.some.injEq] at ho
      subst ho
      show W'.heap[w.heap.size + 1]? = some (.cells #[updV V j x 2, updV V j x 5, updV V j x 8] 47 (0, 0))
      rw [updV_ne V x (nw 2 (by kernel_rfl)), updV_ne V x (nw 5 (by kernel_rfl)), updV_ne V x (nw 8 (by kernel_rfl))]
      exact box_wrote h hW (fun o ⟨e, _⟩ => hij e.symm)
    | n + 11, ho, _, _, _ => simp at ho
  · intro i o a' W K ho F L hw hK
    have hS' := hS.out
    have t1 := F.get (t := 1) (v := .pointer (some ⟨w.heap.size, 0, none⟩)) (by decide) rfl
    have t2 := F.get (t := 2) (v := .pointer (some ⟨w.heap.size + 1, 0, none⟩)) (by decide) rfl
    have LW : Below w.heap.size w W := L0.trans (L.below L0.size (fun b o hb ⟨j, _, _, _, _, h⟩ => by omega))
    have WS : S ≤ W.heap.size := by have := L.size; omega
    match i with
    | 0 =>
      simp only [List.getElem?_toArray, List.getElem?_cons_zero, List.getElem?_cons_succ, Option.some.injEq] at ho
      subst ho
      go_simp
      exact hK _ _ (Wrote.refl _ _) (updV_same _ _ _)
    | 1 =>
      simp only [List.getElem?_toArray, List.getElem?_cons_zero, List.getElem?_cons_succ, Option.some.injEq] at ho
      subst ho
      obtain ⟨_, _, _, _, q0⟩ := hw 0 (by kernel_rfl)
      replace q0 : a'.tmps[3]?.getD undef = .pointer (some ⟨w.heap.size, 0, none⟩) := q0
      have rb := boxC (box_wrote B0 L (fun k ⟨j, oj, hj, hoj, hwj, hR⟩ => by omega))
      go_simp
      exact hK _ _ (Wrote.refl _ _) (updV_same _ _ _)
    | 2 =>
      simp only [List.getElem?_toArray, List.getElem?_cons_zero, List.getElem?_cons_succ, Option.some.injEq] at ho
      subst ho
      obtain ⟨_, _, _, _, q1⟩ := hw 1 (by kernel_rfl)
      replace q1 : a'.tmps[4]?.getD undef = .slice a5 mf c5 := q1
      go_simp
      refine (copyLists W _ _ mf lf fr (H5.keep (wrote_below LW Nowhere) (fun _ _ _ x => x))).mono ?_
      rintro e W' ⟨v5, ob, iv, ov, rfl, hG, hB⟩
      refine hK _ _ (wrote_below hB _) ?_
      show ∃ ob iv ov, SA W' W.heap.size (updV _ 2 v5 2) mf mf ob iv ov lf fr ∧ _
      rw [updV_same]
      exact ⟨ob, iv, ov, hG, fun b h => by
        rcases h with h | ⟨i, hi, hb⟩
        · exact (own_at hG.own h).2
        · have h3 := hG.rows i hi
          rw [hb] at h3
          exact h3.lt.2⟩
    | 3 =>
      simp only [List.getElem?_toArray, List.getElem?_cons_zero, List.getElem?_cons_succ, Option.some.injEq] at ho
      subst ho
      go_simp
      exact hK _ _ (Wrote.refl _ _) (updV_same _ _ _)
    | 4 =>
      simp only [List.getElem?_toArray, List.getElem?_cons_zero, List.getElem?_cons_succ, Option.some.injEq] at ho
      subst ho
      obtain ⟨_, _, _, _, q3⟩ := hw 3 (by kernel_rfl)
      replace q3 : a'.tmps[6]?.getD undef = .pointer (some ⟨w.heap.size, 1, none⟩) := q3
      have rb := boxC (box_wrote B0 L (fun k ⟨j, oj, hj, hoj, hwj, hR⟩ => by omega))
      go_simp
      exact hK _ _ (Wrote.refl _ _) (updV_same _ _ _)
    | 5 =>
      simp only [List.getElem?_toArray, List.getElem?_cons_zero, List.getElem?_cons_succ, Option.some.injEq] at ho
      subst ho
      obtain ⟨_, _, _, _, q4⟩ := hw 4 (by kernel_rfl)
      replace q4 : a'.tmps[7]?.getD undef = .slice a6 ns c6 := q4
      go_simp
      refine (cloneRow W _ _ ns sm (H6.keep (wrote_below LW Nowhere) (fun _ _ _ x => x))).mono ?_
      rintro e W' ⟨v6, o6, rfl, hR, hB⟩
      refine hK _ _ (wrote_below hB _) ?_
      show ∃ o, RowAt W' W.heap.size o (updV _ 5 v6 5) ns sm ∧ _
      rw [updV_same]
      exact ⟨o6, hR, fun b hb => by subst hb; exact hR.lt.2⟩
    | 6 =>
      simp only [List.getElem?_toArray, List.getElem?_cons_zero, List.getElem?_cons_succ, Option.some.injEq] at ho
      subst ho
      go_simp
      exact hK _ _ (Wrote.refl _ _) (updV_same _ _ _)
    | 7 =>
      simp only [List.getElem?_toArray, List.getElem?_cons_zero, List.getElem?_cons_succ, Option.some.injEq] at ho
      subst ho
      obtain ⟨_, _, _, _, q6⟩ := hw 6 (by kernel_rfl)
      replace q6 : a'.tmps[9]?.getD undef = .pointer (some ⟨w.heap.size, 2, none⟩) := q6
      have rb := boxC (box_wrote B0 L (fun k ⟨j, oj, hj, hoj, hwj, hR⟩ => by omega))
      go_simp
      exact hK _ _ (Wrote.refl _ _) (updV_same _ _ _)
    | 8 =>
      simp only [List.getElem?_toArray, List.getElem?_cons_zero, List.getElem?_cons_succ, Option.some.injEq] at ho
      subst ho
      obtain ⟨_, _, _, _, q7⟩ := hw 7 (by kernel_rfl)
      replace q7 : a'.tmps[10]?.getD undef = .slice a7 nq c7 := q7
      go_simp
      refine (cloneRow W _ _ nq rd (H7.keep (wrote_below LW Nowhere) (fun _ _ _ x => x))).mono ?_
      rintro e W' ⟨v6, o6, rfl, hR, hB⟩
      refine hK _ _ (wrote_below hB _) ?_
      show ∃ o, RowAt W' W.heap.size o (updV _ 8 v6 8) nq rd ∧ _
      rw [updV_same]
      exact ⟨o6, hR, fun b hb => by subst hb; exact hR.lt.2⟩
    | 9 =>
      simp only [List.getElem?_toArray, List.getElem?_cons_zero, List.getElem?_cons_succ, Option.some.injEq] at ho
      subst ho
      obtain ⟨_, _, _, _, ob, iv, ov, q2, _⟩ := hw 2 (by kernel_rfl)
      obtain ⟨x5, y5, e2⟩ := q2.form
      obtain ⟨_, _, _, _, o6, q5, _⟩ := hw 5 (by kernel_rfl)
      obtain ⟨x6, y6, e5⟩ := q5.form
      obtain ⟨_, _, _, _, o7, q8, _⟩ := hw 8 (by kernel_rfl)
      obtain ⟨x7, y7, e8⟩ := q8.form
      have t5 : a'.tmps[5]?.getD undef = .slice x5 mf y5 := e2
      have t8 : a'.tmps[8]?.getD undef = .slice x6 ns y6 := e5
      have t11 : a'.tmps[11]?.getD undef = .slice x7 nq y7 := e8
      go_simp
      refine hK _ _ (Wrote.refl _ _) ?_
      show updV (valAt [some 3, some 4, some 5, some 6, some 7, some 8, some 9, some 10, some 11, some 12, none] a') 9 _ 9 = .agg #[updV (valAt [some 3, some 4, some 5, some 6, some 7, some 8, some 9, some 10, some 11, some 12, none] a') 9 _ 2, updV (valAt [some 3, some 4, some 5, some 6, some 7, some 8, some 9, some 10, some 11, some 12, none] a') 9 _ 5, updV (valAt [some 3, some 4, some 5, some 6, some 7, some 8, some 9, some 10, some 11, some 12, none] a') 9 _ 8]
      rw [updV_same, updV_ne _ _ (by decide), updV_ne _ _ (by decide), updV_ne _ _ (by decide), e2, e5, e8]
      rfl
    | 10 =>
      simp only [List.getElem?_toArray, List.getElem?_cons_zero, List.getElem?_cons_succ, Option.some.injEq] at ho
      subst ho
      obtain ⟨_, _, _, _, ob, iv, ov, q2, _⟩ := hw 2 (by kernel_rfl)
      obtain ⟨x5, y5, e2⟩ := q2.form
      obtain ⟨_, _, _, _, o6, q5, _⟩ := hw 5 (by kernel_rfl)
      obtain ⟨x6, y6, e5⟩ := q5.form
      obtain ⟨_, _, _, _, o7, q8, _⟩ := hw 8 (by kernel_rfl)
      obtain ⟨x7, y7, e8⟩ := q8.form
      have t5 : a'.tmps[5]?.getD undef = .slice x5 mf y5 := e2
      have t8 : a'.tmps[8]?.getD undef = .slice x6 ns y6 := e5
      have t11 : a'.tmps[11]?.getD undef = .slice x7 nq y7 := e8
      obtain ⟨_, _, _, _, q9⟩ := hw 9 (by kernel_rfl)
      replace q9 : a'.tmps[12]?.getD undef = .agg #[.slice x5 mf y5, .slice x6 ns y6, .slice x7 nq y7] := by
        have := q9
        rw [e2, e5, e8] at this
        exact this
      have rb := box_wrote B1 L (fun k ⟨j, oj, hj, hoj, hwj, hR⟩ => hj hR.1)
      have c0' := boxC rb
      have f0' := boxF rb
      have HB := box_set (o := 2) (box_set (o := 1) (box_set (o := 0) rb (.slice x5 mf y5)) (.slice x6 ns y6)) (.slice x7 nq y7)
      simp only [List.setIfInBounds_toArray, List.set_cons_succ, List.set_cons_zero] at HB
      have HBB := hide HB
      clear HB rb B0 B1
      go_simp
      refine hK undef _ (Wrote.setCell (Wrote.setCell (Wrote.setCell (Wrote.refl _ W) (fun _ => ⟨rfl, rfl⟩) _) (fun _ => ⟨rfl, rfl⟩) _) (fun _ => ⟨rfl, rfl⟩) _) ?_
      have n2 := updV_ne (valAt [some 3, some 4, some 5, some 6, some 7, some 8, some 9, some 10, some 11, some 12, none] a') (i := 10) (k := 2) undef (by decide)
      have n5 := updV_ne (valAt [some 3, some 4, some 5, some 6, some 7, some 8, some 9, some 10, some 11, some 12, none] a') (i := 10) (k := 5) undef (by decide)
      have n8 := updV_ne (valAt [some 3, some 4, some 5, some 6, some 7, some 8, some 9, some 10, some 11, some 12, none] a') (i := 10) (k := 8) undef (by decide)
      rw [e2] at n2
      rw [e5] at n5
      rw [e8] at n8
      show (_ : World).heap[w.heap.size + 1]? = some (.cells #[updV (valAt [some 3, some 4, some 5, some 6, some 7, some 8, some 9, some 10, some 11, some 12, none] a') 10 undef 2, updV (valAt [some 3, some 4, some 5, some 6, some 7, some 8, some 9, some 10, some 11, some 12, none] a') 10 undef 5, updV (valAt [some 3, some 4, some 5, some 6, some 7, some 8, some 9, some 10, some 11, some 12, none] a') 10 undef 8] 47 (0, 0))
      rw [n2, n5, n8]
      exact HBB.out
    | n + 11 => simp at ho
  · intro a' W F L lo hi hφ hdj
    have hS' := hS.out
    have hb1 := boxLt B1
    obtain ⟨b2a, b2b, b2c, ob, iv, ov, G5, G5h⟩ := hφ 2 (by decide)
    obtain ⟨b5a, b5b, b5c, o6, G6, G6h⟩ := hφ 5 (by decide)
    obtain ⟨b8a, b8b, b8c, o7, G7, G7h⟩ := hφ 8 (by decide)
    obtain ⟨-, -, -, BX⟩ := hφ 10 (by decide)
    have d1 := hdj 2 5 (by decide) (by decide) (by decide)
    have d2 := hdj 2 8 (by decide) (by decide) (by decide)
    have d3 := hdj 5 8 (by decide) (by decide) (by decide)
    obtain ⟨x5, y5, e2⟩ := G5.form
    obtain ⟨x6, y6, e5⟩ := G6.form
    obtain ⟨x7, y7, e8⟩ := G7.form
    rw [e2] at G5 G5h
    rw [e5] at G6
    rw [e8] at G7
    replace BX : W.heap[w.heap.size + 1]? = some (.cells #[.slice x5 mf y5, .slice x6 ns y6, .slice x7 nq y7] 47 (0, 0)) := by
      have := BX
      simp only [e2, e5, e8] at this
      exact this
    have LW : Below w.heap.size w W := L0.trans (L.below L0.size (fun b o hb ⟨j, h⟩ => by omega))
    have HR := hide (And.intro G5 (And.intro G6 G7))
    have HH := hide (And.intro G5h (And.intro G6h G7h))
    have HD := hide (And.intro d1 (And.intro d2 d3))
    rw [F.same, show slotsOf [some 3, some 4, some 5, some 6, some 7, some 8, some 9, some 10, some 11, some 12, none] = [3, 4, 5, 6, 7, 8, 9, 10, 11, 12] from rfl]
    simp only [List.foldl_cons, List.foldl_nil]
    clear hφ hdj e2 e5 e8 F L B0 B1 H5 H6 H7 L0 G5 G6 G7 G5h G6h G7h d1 d2 d3
    generalize a'.tmps[3]?.getD undef = s3
    generalize a'.tmps[4]?.getD undef = s4
    generalize a'.tmps[5]?.getD undef = s5
    generalize a'.tmps[6]?.getD undef = s6
    generalize a'.tmps[7]?.getD undef = s7
    generalize a'.tmps[8]?.getD undef = s8
    generalize a'.tmps[9]?.getD undef = s9
    generalize a'.tmps[10]?.getD undef = s10
    generalize a'.tmps[11]?.getD undef = s11
    generalize a'.tmps[12]?.getD undef = s12
    refine hKK _ _ ?_
    clear hKK
    go_simp
    have cx := boxC BX
    go_wp2
    refine bodyPost_ret (v := .agg #[.slice x5 mf y5, .slice x6 ns y6, .slice x7 nq y7]) (by simp [results, Tryz.results76, go_sem, cx]) rfl ?_
    obtain ⟨G5, G6, G7⟩ := HR.out
    obtain ⟨G5h, G6h, G7h⟩ := HH.out
    obtain ⟨d1, d2, d3⟩ := HD.out
    have hz := L0s.out
    refine ⟨_, _, _, rfl, ⟨ob, iv, ov, o6, o7, G5.mono (by omega), G6.mono (by omega), G7.mono (by omega), fun i => if i = 0 then lo 2 else if i = 1 then lo 5 else lo 8, fun i => if i = 0 then hi 2 else if i = 1 then hi 5 else hi 8, fun b hb => ⟨?_, G5h b hb⟩, fun b hb => ⟨by subst hb; exact G6.lt.1, G6h b hb⟩, fun b hb => ⟨by subst hb; exact G7.lt.1, G7h b hb⟩, ?_, ?_⟩, LW⟩
    · rcases hb with hb | ⟨i, hi', hb⟩
      · exact (own_at G5.own hb).1
      · have h3 := G5.rows i hi'
        rw [hb] at h3
        exact h3.lt.1
    · intro i hi'
      match i, hi' with
      | 0, _ => exact ⟨Nat.le_trans hz b2a, b2c⟩
      | 1, _ => exact ⟨Nat.le_trans hz b5a, b5c⟩
      | 2, _ => exact ⟨Nat.le_trans hz b8a, b8c⟩
    · intro i j hi' hj' hij
      match i, j, hi', hj', hij with
      | 0, 0, _, _, h => exact absurd rfl h
      | 1, 1, _, _, h => exact absurd rfl h
      | 2, 2, _, _, h => exact absurd rfl h
      | 0, 1, _, _, _ => exact d1
      | 0, 2, _, _, _ => exact d2
      | 1, 2, _, _, _ => exact d3
      | 1, 0, _, _, _ => exact d1.symm
      | 2, 0, _, _, _ => exact d2.symm
      | 2, 1, _, _, _ => exact d3.symm
/-- A console in step that the program owns. -/
structure LockAw (W : World) (lo : Nat) (v : Value) (d : LockD) : Prop where
  ex : ∃ D u0 u1 u2 u3 u4 u5 u6 u7 ob iv ov o6 o7, v = .agg #[u0, u1, u2, .int .i64 d.bank, .int .i64 d.A, .int .i64 d.X, .int .i64 d.S, .int .i64 d.Pc, .bool d.Z, .bool d.N, .bool d.C, .bool d.I, .int .i64 d.t, .int .i64 d.c, .int .i64 d.s, .int .i64 d.ad, .int .i64 d.pl, .bool d.bl, u3, u4, .int .i64 d.T, .int .i64 d.P, .int .i64 d.K, .int .i64 d.B, .int .i64 d.L, .bool d.Q, .bool d.R, .bool d.hd, .int .i64 d.sh, .bool d.nmi, .int .i64 d.st, u5, u6, u7] ∧ LockA W lo W.heap.size D u0 u1 u2 u3 u4 u5 u6 u7 ob iv ov o6 o7 d
set_option maxRecDepth 40000 in
set_option maxHeartbeats 8000000 in
theorem copyLock (w : World) (D : Nat → Nat → Prop) (v : Value) (d : LockD) (H : LockOn w D v d) : Calls Tryz.prog 30 #[v] w fun e w' => ∃ v', e = .returned v' ∧ LockAw w' w.heap.size v' d ∧ Below w.heap.size w w' := by
  obtain ⟨u0, u1, u2, u3, u4, u5, u6, u7, rfl, h0, h1, h2, h3, h4⟩ := H
  obtain ⟨v5, v6, v7, hv, h5, h6, h7⟩ := h4
  simp only [Value.agg.injEq, Array.mk.injEq, List.cons.injEq, and_true] at hv
  obtain ⟨rfl, rfl, rfl⟩ := hv
  obtain ⟨y2, hy2, H2⟩ := h2.ints
  simp only [Value.agg.injEq, Array.mk.injEq, List.cons.injEq, and_true] at hy2
  subst hy2
  obtain ⟨y3, y4, hy3, H3, H4⟩ := h3.ints
  simp only [Value.agg.injEq, Array.mk.injEq, List.cons.injEq, and_true, true_and] at hy3
  obtain ⟨rfl, rfl⟩ := hy3
  have H0 := h0.ints
  have H5 := h5.ints
  obtain ⟨a6, c6, e6, s6⟩ := id h6
  obtain ⟨a7, c7, e7, s7⟩ := id h7
  obtain ⟨a1, c1, e1, s1⟩ := id h1
  subst e6
  subst e7
  subst e1
  have H1 := s1.ints c1
  have H6 := s6.ints c6
  have H7 := s7.ints c7
  obtain ⟨a0, c0, rfl, -⟩ := id H0
  obtain ⟨a5, c5, rfl, -⟩ := id H5
  obtain ⟨a2, c2, rfl, -⟩ := id H2
  obtain ⟨a3, c3, rfl, -⟩ := id H3
  obtain ⟨a4, c4, rfl, -⟩ := id H4
  have hps := h5.small
  have hps0 := h0.small
  clear h0 h1 h2 h3 h5 h6 h7 s1 s6 s7
  have L0 : Below w.heap.size w ((w.alloc (.cells #[.slice a0 d.m c0, .slice a1 d.np c1, .slice a2 d.nr c2, .int .i64 d.bank, .int .i64 d.A, .int .i64 d.X, .int .i64 d.S, .int .i64 d.Pc, .bool d.Z, .bool d.N, .bool d.C, .bool d.I, .int .i64 d.t, .int .i64 d.c, .int .i64 d.s, .int .i64 d.ad, .int .i64 d.pl, .bool d.bl, .slice a3 d.nt c3, .slice a4 d.nd c4, .int .i64 d.T, .int .i64 d.P, .int .i64 d.K, .int .i64 d.B, .int .i64 d.L, .bool d.Q, .bool d.R, .bool d.hd, .int .i64 d.sh, .bool d.nmi, .int .i64 d.st, .slice a5 d.mf c5, .slice a6 d.ns c6, .slice a7 d.nq c7] 49)).alloc (.cells #[.slice none 0 0, .slice none 0 0, .slice none 0 0, .int .i64 0, .int .i64 0, .int .i64 0, .int .i64 0, .int .i64 0, .bool false, .bool false, .bool false, .bool false, .int .i64 0, .int .i64 0, .int .i64 0, .int .i64 0, .int .i64 0, .bool false, .slice none 0 0, .slice none 0 0, .int .i64 0, .int .i64 0, .int .i64 0, .int .i64 0, .int .i64 0, .bool false, .bool false, .bool false, .int .i64 0, .bool false, .int .i64 0, .slice none 0 0, .slice none 0 0, .slice none 0 0] 49)) := ((Below.refl _ _).alloc (Nat.le_refl _) _).alloc (by simp) _
  have B0 : ((w.alloc (.cells #[.slice a0 d.m c0, .slice a1 d.np c1, .slice a2 d.nr c2, .int .i64 d.bank, .int .i64 d.A, .int .i64 d.X, .int .i64 d.S, .int .i64 d.Pc, .bool d.Z, .bool d.N, .bool d.C, .bool d.I, .int .i64 d.t, .int .i64 d.c, .int .i64 d.s, .int .i64 d.ad, .int .i64 d.pl, .bool d.bl, .slice a3 d.nt c3, .slice a4 d.nd c4, .int .i64 d.T, .int .i64 d.P, .int .i64 d.K, .int .i64 d.B, .int .i64 d.L, .bool d.Q, .bool d.R, .bool d.hd, .int .i64 d.sh, .bool d.nmi, .int .i64 d.st, .slice a5 d.mf c5, .slice a6 d.ns c6, .slice a7 d.nq c7] 49)).alloc (.cells #[.slice none 0 0, .slice none 0 0, .slice none 0 0, .int .i64 0, .int .i64 0, .int .i64 0, .int .i64 0, .int .i64 0, .bool false, .bool false, .bool false, .bool false, .int .i64 0, .int .i64 0, .int .i64 0, .int .i64 0, .int .i64 0, .bool false, .slice none 0 0, .slice none 0 0, .int .i64 0, .int .i64 0, .int .i64 0, .int .i64 0, .int .i64 0, .bool false, .bool false, .bool false, .int .i64 0, .bool false, .int .i64 0, .slice none 0 0, .slice none 0 0, .slice none 0 0] 49)).heap[w.heap.size]? = some (.cells #[.slice a0 d.m c0, .slice a1 d.np c1, .slice a2 d.nr c2, .int .i64 d.bank, .int .i64 d.A, .int .i64 d.X, .int .i64 d.S, .int .i64 d.Pc, .bool d.Z, .bool d.N, .bool d.C, .bool d.I, .int .i64 d.t, .int .i64 d.c, .int .i64 d.s, .int .i64 d.ad, .int .i64 d.pl, .bool d.bl, .slice a3 d.nt c3, .slice a4 d.nd c4, .int .i64 d.T, .int .i64 d.P, .int .i64 d.K, .int .i64 d.B, .int .i64 d.L, .bool d.Q, .bool d.R, .bool d.hd, .int .i64 d.sh, .bool d.nmi, .int .i64 d.st, .slice a5 d.mf c5, .slice a6 d.ns c6, .slice a7 d.nq c7] 49 (0, 0)) := boxA (box_new w _ _) _
  have B1 : ((w.alloc (.cells #[.slice a0 d.m c0, .slice a1 d.np c1, .slice a2 d.nr c2, .int .i64 d.bank, .int .i64 d.A, .int .i64 d.X, .int .i64 d.S, .int .i64 d.Pc, .bool d.Z, .bool d.N, .bool d.C, .bool d.I, .int .i64 d.t, .int .i64 d.c, .int .i64 d.s, .int .i64 d.ad, .int .i64 d.pl, .bool d.bl, .slice a3 d.nt c3, .slice a4 d.nd c4, .int .i64 d.T, .int .i64 d.P, .int .i64 d.K, .int .i64 d.B, .int .i64 d.L, .bool d.Q, .bool d.R, .bool d.hd, .int .i64 d.sh, .bool d.nmi, .int .i64 d.st, .slice a5 d.mf c5, .slice a6 d.ns c6, .slice a7 d.nq c7] 49)).alloc (.cells #[.slice none 0 0, .slice none 0 0, .slice none 0 0, .int .i64 0, .int .i64 0, .int .i64 0, .int .i64 0, .int .i64 0, .bool false, .bool false, .bool false, .bool false, .int .i64 0, .int .i64 0, .int .i64 0, .int .i64 0, .int .i64 0, .bool false, .slice none 0 0, .slice none 0 0, .int .i64 0, .int .i64 0, .int .i64 0, .int .i64 0, .int .i64 0, .bool false, .bool false, .bool false, .int .i64 0, .bool false, .int .i64 0, .slice none 0 0, .slice none 0 0, .slice none 0 0] 49)).heap[w.heap.size + 1]? = some (.cells #[.slice none 0 0, .slice none 0 0, .slice none 0 0, .int .i64 0, .int .i64 0, .int .i64 0, .int .i64 0, .int .i64 0, .bool false, .bool false, .bool false, .bool false, .int .i64 0, .int .i64 0, .int .i64 0, .int .i64 0, .int .i64 0, .bool false, .slice none 0 0, .slice none 0 0, .int .i64 0, .int .i64 0, .int .i64 0, .int .i64 0, .int .i64 0, .bool false, .bool false, .bool false, .int .i64 0, .bool false, .int .i64 0, .slice none 0 0, .slice none 0 0, .slice none 0 0] 49 (0, 0)) := by simpa using box_new (w.alloc (.cells #[.slice a0 d.m c0, .slice a1 d.np c1, .slice a2 d.nr c2, .int .i64 d.bank, .int .i64 d.A, .int .i64 d.X, .int .i64 d.S, .int .i64 d.Pc, .bool d.Z, .bool d.N, .bool d.C, .bool d.I, .int .i64 d.t, .int .i64 d.c, .int .i64 d.s, .int .i64 d.ad, .int .i64 d.pl, .bool d.bl, .slice a3 d.nt c3, .slice a4 d.nd c4, .int .i64 d.T, .int .i64 d.P, .int .i64 d.K, .int .i64 d.B, .int .i64 d.L, .bool d.Q, .bool d.R, .bool d.hd, .int .i64 d.sh, .bool d.nmi, .int .i64 d.st, .slice a5 d.mf c5, .slice a6 d.ns c6, .slice a7 d.nq c7] 49)) #[.slice none 0 0, .slice none 0 0, .slice none 0 0, .int .i64 0, .int .i64 0, .int .i64 0, .int .i64 0, .int .i64 0, .bool false, .bool false, .bool false, .bool false, .int .i64 0, .int .i64 0, .int .i64 0, .int .i64 0, .int .i64 0, .bool false, .slice none 0 0, .slice none 0 0, .int .i64 0, .int .i64 0, .int .i64 0, .int .i64 0, .int .i64 0, .bool false, .bool false, .bool false, .int .i64 0, .bool false, .int .i64 0, .slice none 0 0, .slice none 0 0, .slice none 0 0] 49
  go_enter Tryz.func30, Tryz.ntmps30
  go_upto_region 1 with (fail)
  generalize (w.alloc (.cells #[.slice a0 d.m c0, .slice a1 d.np c1, .slice a2 d.nr c2, .int .i64 d.bank, .int .i64 d.A, .int .i64 d.X, .int .i64 d.S, .int .i64 d.Pc, .bool d.Z, .bool d.N, .bool d.C, .bool d.I, .int .i64 d.t, .int .i64 d.c, .int .i64 d.s, .int .i64 d.ad, .int .i64 d.pl, .bool d.bl, .slice a3 d.nt c3, .slice a4 d.nd c4, .int .i64 d.T, .int .i64 d.P, .int .i64 d.K, .int .i64 d.B, .int .i64 d.L, .bool d.Q, .bool d.R, .bool d.hd, .int .i64 d.sh, .bool d.nmi, .int .i64 d.st, .slice a5 d.mf c5, .slice a6 d.ns c6, .slice a7 d.nq c7] 49)).alloc (.cells #[.slice none 0 0, .slice none 0 0, .slice none 0 0, .int .i64 0, .int .i64 0, .int .i64 0, .int .i64 0, .int .i64 0, .bool false, .bool false, .bool false, .bool false, .int .i64 0, .int .i64 0, .int .i64 0, .int .i64 0, .int .i64 0, .bool false, .slice none 0 0, .slice none 0 0, .int .i64 0, .int .i64 0, .int .i64 0, .int .i64 0, .int .i64 0, .bool false, .bool false, .bool false, .int .i64 0, .bool false, .int .i64 0, .slice none 0 0, .slice none 0 0, .slice none 0 0] 49) = W0 at *
  obtain ⟨p0, hp0⟩ : ∃ p, Hid (p = W0.heap.size) := ⟨_, rfl⟩
  have l0 : w.heap.size + 1 < p0 := by rw [hp0.out]; exact boxLt B1
  have c0' := boxC B0
  go_wp2_with fail
  clear c0'
  refine (copyImage _ _ _ d.m d.ln d.f (H0.keep (wrote_below L0 Nowhere) (fun _ _ _ x => x))).mono ?_
  rintro e W1 ⟨v0, ob0, iv0, ov0, rfl, G0', L⟩
  obtain ⟨p1, hp1⟩ : ∃ p, Hid (p = W1.heap.size) := ⟨_, rfl⟩
  have l1 : p0 ≤ p1 := by rw [hp0.out, hp1.out]; exact L.size
  have G0 : SsOn W1 (fun b => p0 ≤ b ∧ b < p1) v0 d.m d.ln d.f := G0'.onD (fun b hb => by
    rw [hp0.out, hp1.out]
    rcases hb with hb | ⟨i, hi, hb⟩
    · exact own_at G0'.own hb
    · have h3 := G0'.rows i hi
      rw [hb] at h3
      exact h3.lt) hps0
  clear G0'
  replace L0 := below_snoc L0 L
  replace B0 := box_keep B0 L (boxLt B0)
  replace B1 := box_keep B1 L (boxLt B1)
  clear L hp0
  obtain ⟨x0, y0, rfl⟩ := G0.form
  have c0' := boxC B0
  have f0' := boxF B0
  go_upto_region 2 with (fail)
  clear c0' f0'
  have TT := Wrote.setCell (b := w.heap.size) (o := 0) (R := fun b _ => b = w.heap.size) (Wrote.refl _ W1) (fun _ => rfl) (.slice x0 d.m y0)
  replace L0 := L0.trans (TT.below L0.size (fun b o hb (h : b = _) => by omega))
  replace B1 := box_wrote B1 TT (fun o (h : _ = _) => by omega)
  replace B0 := box_set (o := 0) B0 (.slice x0 d.m y0)
  simp only [List.setIfInBounds_toArray, List.set_cons_succ, List.set_cons_zero] at B0
  replace G0 := G0.keep TT (fun b o hb _ (h : b = _) => by obtain ⟨h1, h2⟩ := hb; omega)
  replace hp1 : Hid (p1 = (W1.setCell ⟨w.heap.size, 0, none⟩ (.slice x0 d.m y0)).heap.size) := by show _ = _; rw [hp1.out]; simp
  clear TT
  generalize W1.setCell ⟨w.heap.size, 0, none⟩ (.slice x0 d.m y0) = W2 at *
  have c0' := boxC B0
  go_wp2_with fail
  clear c0'
  refine (cloneRow _ _ _ d.np d.p (H1.keep (wrote_below L0 Nowhere) (fun _ _ _ x => x))).mono ?_
  rintro e W3 ⟨v1, o1, rfl, G1', L⟩
  obtain ⟨p2, hp2⟩ : ∃ p, Hid (p = W3.heap.size) := ⟨_, rfl⟩
  have l2 : p1 ≤ p2 := by rw [hp1.out, hp2.out]; exact L.size
  have G1 : ListOn W3 (fun b => p1 ≤ b ∧ b < p2) v1 d.np d.p := G1'.listOn (fun b hb => by subst hb; rw [hp1.out, hp2.out]; exact G1'.lt)
  clear G1'
  replace L0 := below_snoc L0 L
  replace B0 := box_keep B0 L (boxLt B0)
  replace B1 := box_keep B1 L (boxLt B1)
  replace G0 := G0.below L
  clear L hp1
  obtain ⟨x1, y1, e1, -⟩ := id G1
  subst e1
  have c0' := boxC B0
  have f0' := boxF B0
  go_upto_region 3 with (fail)
  clear c0' f0'
  have TT := Wrote.setCell (b := w.heap.size) (o := 1) (R := fun b _ => b = w.heap.size) (Wrote.refl _ W3) (fun _ => rfl) (.slice x1 d.np y1)
  replace L0 := L0.trans (TT.below L0.size (fun b o hb (h : b = _) => by omega))
  replace B1 := box_wrote B1 TT (fun o (h : _ = _) => by omega)
  replace B0 := box_set (o := 1) B0 (.slice x1 d.np y1)
  simp only [List.setIfInBounds_toArray, List.set_cons_succ, List.set_cons_zero] at B0
  replace G0 := G0.keep TT (fun b o hb _ (h : b = _) => by obtain ⟨h1, h2⟩ := hb; omega)
  replace G1 := G1.keep TT (fun b o hb _ (h : b = _) => by obtain ⟨h1, h2⟩ := hb; omega)
  replace hp2 : Hid (p2 = (W3.setCell ⟨w.heap.size, 1, none⟩ (.slice x1 d.np y1)).heap.size) := by show _ = _; rw [hp2.out]; simp
  clear TT
  generalize W3.setCell ⟨w.heap.size, 1, none⟩ (.slice x1 d.np y1) = W4 at *
  have c0' := boxC B0
  go_wp2_with fail
  clear c0'
  refine (copyMem _ _ _ d.nr d.g d.bank (H2.keep (wrote_below L0 Nowhere) (fun _ _ _ x => x))).mono ?_
  rintro e W5 ⟨v2, rfl, G2, L⟩
  obtain ⟨p3, hp3⟩ : ∃ p, Hid (p = W5.heap.size) := ⟨_, rfl⟩
  have l3 : p2 ≤ p3 := by rw [hp2.out, hp3.out]; exact L.size
  replace G2 := (MemOn.own (bank := d.bank) G2).mono (E := fun b => p2 ≤ b ∧ b < p3) (fun b hb h => ⟨by rw [hp2.out]; exact h, by rw [hp3.out]; exact hb⟩)
  replace L0 := below_snoc L0 L
  replace B0 := box_keep B0 L (boxLt B0)
  replace B1 := box_keep B1 L (boxLt B1)
  replace G0 := G0.below L
  replace G1 := G1.below L
  clear L hp2
  obtain ⟨x2, y2, hx2⟩ := G2.two
  simp only [Value.agg.injEq, Array.mk.injEq, List.cons.injEq, and_true] at hx2
  subst hx2
  have c0' := boxC B0
  have f0' := boxF B0
  go_upto_region 4 with (fail)
  clear c0' f0'
  have TT := Wrote.setCell (b := w.heap.size) (o := 3) (R := fun b _ => b = w.heap.size) (Wrote.setCell (b := w.heap.size) (o := 2) (R := fun b _ => b = w.heap.size) (Wrote.refl _ W5) (fun _ => rfl) (.slice x2 d.nr y2)) (fun _ => rfl) (.int .i64 d.bank)
  replace L0 := L0.trans (TT.below L0.size (fun b o hb (h : b = _) => by omega))
  replace B1 := box_wrote B1 TT (fun o (h : _ = _) => by omega)
  replace B0 := box_set (o := 2) B0 (.slice x2 d.nr y2)
  replace B0 := box_set (o := 3) B0 (.int .i64 d.bank)
  simp only [List.setIfInBounds_toArray, List.set_cons_succ, List.set_cons_zero] at B0
  replace G0 := G0.keep TT (fun b o hb _ (h : b = _) => by obtain ⟨h1, h2⟩ := hb; omega)
  replace G1 := G1.keep TT (fun b o hb _ (h : b = _) => by obtain ⟨h1, h2⟩ := hb; omega)
  replace G2 := G2.keep TT (fun b o hb _ (h : b = _) => by obtain ⟨h1, h2⟩ := hb; omega)
  replace hp3 : Hid (p3 = ((W5.setCell ⟨w.heap.size, 2, none⟩ (.slice x2 d.nr y2)).setCell ⟨w.heap.size, 3, none⟩ (.int .i64 d.bank)).heap.size) := by show _ = _; rw [hp3.out]; simp
  clear TT
  generalize (W5.setCell ⟨w.heap.size, 2, none⟩ (.slice x2 d.nr y2)).setCell ⟨w.heap.size, 3, none⟩ (.int .i64 d.bank) = W6 at *
  have c0' := boxC B0
  go_wp2_with fail
  clear c0'
  refine (copyPpu _ _ _ d.t d.c d.s d.ad d.pl d.bl _ _ d.nt d.tb d.nd d.dt (H3.keep (wrote_below L0 Nowhere) (fun _ _ _ x => x)) (H4.keep (wrote_below L0 Nowhere) (fun _ _ _ x => x))).mono ?_
  rintro e W7 ⟨v3, v4, o3, o4, rfl, R3, R4, n34, L⟩
  obtain ⟨x3, y3, e3⟩ := R3.form
  obtain ⟨x4, y4, e4⟩ := R4.form
  subst e3
  subst e4
  obtain ⟨p4, hp4⟩ : ∃ p, Hid (p = W7.heap.size) := ⟨_, rfl⟩
  have l4 : p3 ≤ p4 := by rw [hp3.out, hp4.out]; exact L.size
  have G3 : PpuOn W7 (fun b => p3 ≤ b ∧ b < p4) (.agg #[.int .i64 d.t, .int .i64 d.c, .int .i64 d.s, .int .i64 d.ad, .int .i64 d.pl, .bool d.bl, .slice x3 d.nt y3, .slice x4 d.nd y4]) d.t d.c d.s d.ad d.pl d.bl d.nt d.tb d.nd d.dt := (ppuOn_at R3 R4 n34).mono (fun b hb h => ⟨by rw [hp3.out]; exact at_lo R3 R4 b h, by rw [hp4.out]; exact hb⟩)
  clear R3 R4 n34
  replace L0 := below_snoc L0 L
  replace B0 := box_keep B0 L (boxLt B0)
  replace B1 := box_keep B1 L (boxLt B1)
  replace G0 := G0.below L
  replace G1 := G1.below L
  replace G2 := G2.below L
  clear L hp3
  have c0' := boxC B0
  have f0' := boxF B0
  go_upto_region 5 with (fail)
  clear c0' f0'
  have TT := Wrote.setCell (b := w.heap.size) (o := 19) (R := fun b _ => b = w.heap.size) (Wrote.setCell (b := w.heap.size) (o := 18) (R := fun b _ => b = w.heap.size) (Wrote.setCell (b := w.heap.size) (o := 17) (R := fun b _ => b = w.heap.size) (Wrote.setCell (b := w.heap.size) (o := 16) (R := fun b _ => b = w.heap.size) (Wrote.setCell (b := w.heap.size) (o := 15) (R := fun b _ => b = w.heap.size) (Wrote.setCell (b := w.heap.size) (o := 14) (R := fun b _ => b = w.heap.size) (Wrote.setCell (b := w.heap.size) (o := 13) (R := fun b _ => b = w.heap.size) (Wrote.setCell (b := w.heap.size) (o := 12) (R := fun b _ => b = w.heap.size) (Wrote.refl _ W7) (fun _ => rfl) (.int .i64 d.t)) (fun _ => rfl) (.int .i64 d.c)) (fun _ => rfl) (.int .i64 d.s)) (fun _ => rfl) (.int .i64 d.ad)) (fun _ => rfl) (.int .i64 d.pl)) (fun _ => rfl) (.bool d.bl)) (fun _ => rfl) (.slice x3 d.nt y3)) (fun _ => rfl) (.slice x4 d.nd y4)
  replace L0 := L0.trans (TT.below L0.size (fun b o hb (h : b = _) => by omega))
  replace B1 := box_wrote B1 TT (fun o (h : _ = _) => by omega)
  replace B0 := box_set (o := 12) B0 (.int .i64 d.t)
  replace B0 := box_set (o := 13) B0 (.int .i64 d.c)
  replace B0 := box_set (o := 14) B0 (.int .i64 d.s)
  replace B0 := box_set (o := 15) B0 (.int .i64 d.ad)
  replace B0 := box_set (o := 16) B0 (.int .i64 d.pl)
  replace B0 := box_set (o := 17) B0 (.bool d.bl)
  replace B0 := box_set (o := 18) B0 (.slice x3 d.nt y3)
  replace B0 := box_set (o := 19) B0 (.slice x4 d.nd y4)
  simp only [List.setIfInBounds_toArray, List.set_cons_succ, List.set_cons_zero] at B0
  replace G0 := G0.keep TT (fun b o hb _ (h : b = _) => by obtain ⟨h1, h2⟩ := hb; omega)
  replace G1 := G1.keep TT (fun b o hb _ (h : b = _) => by obtain ⟨h1, h2⟩ := hb; omega)
  replace G2 := G2.keep TT (fun b o hb _ (h : b = _) => by obtain ⟨h1, h2⟩ := hb; omega)
  replace G3 := G3.keep TT (fun b o hb _ (h : b = _) => by obtain ⟨h1, h2⟩ := hb; omega)
  replace hp4 : Hid (p4 = ((((((((W7.setCell ⟨w.heap.size, 12, none⟩ (.int .i64 d.t)).setCell ⟨w.heap.size, 13, none⟩ (.int .i64 d.c)).setCell ⟨w.heap.size, 14, none⟩ (.int .i64 d.s)).setCell ⟨w.heap.size, 15, none⟩ (.int .i64 d.ad)).setCell ⟨w.heap.size, 16, none⟩ (.int .i64 d.pl)).setCell ⟨w.heap.size, 17, none⟩ (.bool d.bl)).setCell ⟨w.heap.size, 18, none⟩ (.slice x3 d.nt y3)).setCell ⟨w.heap.size, 19, none⟩ (.slice x4 d.nd y4)).heap.size) := by show _ = _; rw [hp4.out]; simp
  clear TT
  generalize (((((((W7.setCell ⟨w.heap.size, 12, none⟩ (.int .i64 d.t)).setCell ⟨w.heap.size, 13, none⟩ (.int .i64 d.c)).setCell ⟨w.heap.size, 14, none⟩ (.int .i64 d.s)).setCell ⟨w.heap.size, 15, none⟩ (.int .i64 d.ad)).setCell ⟨w.heap.size, 16, none⟩ (.int .i64 d.pl)).setCell ⟨w.heap.size, 17, none⟩ (.bool d.bl)).setCell ⟨w.heap.size, 18, none⟩ (.slice x3 d.nt y3)).setCell ⟨w.heap.size, 19, none⟩ (.slice x4 d.nd y4) = W8 at *
  have c0' := boxC B0
  go_wp2_with fail
  clear c0'
  refine (copyObs _ _ _ _ _ _ _ d.mf d.lf d.fr d.ns d.sm d.nq d.rd (H5.keep (wrote_below L0 Nowhere) (fun _ _ _ x => x)) (H6.keep (wrote_below L0 Nowhere) (fun _ _ _ x => x)) (H7.keep (wrote_below L0 Nowhere) (fun _ _ _ x => x))).mono ?_
  rintro e W9 ⟨v5, v6, v7, rfl, ⟨ob, iv, ov, o6, o7, G5, G6, G7, lo, hi, hb5, hb6, hb7, hbd, hdj⟩, L⟩
  obtain ⟨x5, y5, e5⟩ := G5.form
  obtain ⟨x6, y6, e6⟩ := G6.form
  obtain ⟨x7, y7, e7⟩ := G7.form
  subst e5
  subst e6
  subst e7
  have hB0 := hbd 0 (by decide)
  have hB1 := hbd 1 (by decide)
  have hB2 := hbd 2 (by decide)
  have hd01 := hdj 0 1 (by decide) (by decide) (by decide)
  have hd02 := hdj 0 2 (by decide) (by decide) (by decide)
  have hd12 := hdj 1 2 (by decide) (by decide) (by decide)
  clear hbd hdj
  rw [← hp4.out] at hB0 hB1 hB2 G5 G6 G7
  have HD5 := hide hb5
  have HD6 := hide hb6
  have HD7 := hide hb7
  clear hb5 hb6 hb7
  obtain ⟨p5, hp5⟩ : ∃ p, Hid (p = W9.heap.size) := ⟨_, rfl⟩
  have l5 : p4 ≤ p5 := by rw [hp4.out, hp5.out]; exact L.size
  rw [← hp5.out] at hB0 hB1 hB2
  replace L0 := below_snoc L0 L
  replace B0 := box_keep B0 L (boxLt B0)
  replace B1 := box_keep B1 L (boxLt B1)
  replace G0 := G0.below L
  replace G1 := G1.below L
  replace G2 := G2.below L
  replace G3 := G3.below L
  clear L hp4
  have c0' := boxC B0
  have f0' := boxF B0
  go_upto_region 6 with (fail)
  clear c0' f0'
  have TT := Wrote.setCell (b := w.heap.size) (o := 33) (R := fun b _ => b = w.heap.size) (Wrote.setCell (b := w.heap.size) (o := 32) (R := fun b _ => b = w.heap.size) (Wrote.setCell (b := w.heap.size) (o := 31) (R := fun b _ => b = w.heap.size) (Wrote.refl _ W9) (fun _ => rfl) (.slice x5 d.mf y5)) (fun _ => rfl) (.slice x6 d.ns y6)) (fun _ => rfl) (.slice x7 d.nq y7)
  replace L0 := L0.trans (TT.below L0.size (fun b o hb (h : b = _) => by omega))
  replace B1 := box_wrote B1 TT (fun o (h : _ = _) => by omega)
  replace B0 := box_set (o := 31) B0 (.slice x5 d.mf y5)
  replace B0 := box_set (o := 32) B0 (.slice x6 d.ns y6)
  replace B0 := box_set (o := 33) B0 (.slice x7 d.nq y7)
  simp only [List.setIfInBounds_toArray, List.set_cons_succ, List.set_cons_zero] at B0
  replace G0 := G0.keep TT (fun b o hb _ (h : b = _) => by obtain ⟨h1, h2⟩ := hb; omega)
  replace G1 := G1.keep TT (fun b o hb _ (h : b = _) => by obtain ⟨h1, h2⟩ := hb; omega)
  replace G2 := G2.keep TT (fun b o hb _ (h : b = _) => by obtain ⟨h1, h2⟩ := hb; omega)
  replace G3 := G3.keep TT (fun b o hb _ (h : b = _) => by obtain ⟨h1, h2⟩ := hb; omega)
  replace G5 := G5.keep TT (fun g o hg (h : g = _) => by have := own_at G5.own hg; omega) (fun i b o hi hb (h : b = _) => by have h3 := G5.rows i hi; rw [hb] at h3; have := h3.lt.1; omega)
  replace G6 := G6.keep TT (fun b hb h3 _ k (h : b = _) => by omega)
  replace G7 := G7.keep TT (fun b hb h3 _ k (h : b = _) => by omega)
  replace hp5 : Hid (p5 = (((W9.setCell ⟨w.heap.size, 31, none⟩ (.slice x5 d.mf y5)).setCell ⟨w.heap.size, 32, none⟩ (.slice x6 d.ns y6)).setCell ⟨w.heap.size, 33, none⟩ (.slice x7 d.nq y7)).heap.size) := by show _ = _; rw [hp5.out]; simp
  clear TT
  generalize ((W9.setCell ⟨w.heap.size, 31, none⟩ (.slice x5 d.mf y5)).setCell ⟨w.heap.size, 32, none⟩ (.slice x6 d.ns y6)).setCell ⟨w.heap.size, 33, none⟩ (.slice x7 d.nq y7) = W10 at *
  have HR := hide (And.intro G0 (And.intro G1 (And.intro G2 (And.intro G3 (And.intro G5 (And.intro G6 G7))))))
  have HX := hide (And.intro hB0 (And.intro hB1 (And.intro hB2 (And.intro hd01 (And.intro hd02 hd12)))))
  have HL := hide (And.intro l0 (And.intro l1 (And.intro l2 (And.intro l3 (And.intro l4 l5)))))
  clear G0 G1 G2 G3 G5 G6 G7 hB0 hB1 hB2 hd01 hd02 hd12 l0 l1 l2 l3 l4 l5 H0 H1 H2 H3 H4 H5 H6 H7
  rename_i K2 hK2
  refine wp_region_lit ?_
  refine wpList_load_row rfl _ _ rfl w.heap.size rfl _ _ _ _ B0 Tryz.underlying49 rfl infoLock ?_
  refine wpList_store_row rfl _ _ _ rfl (w.heap.size + 1) _ rfl rfl _ _ B1 infoLock rfl (by first | kernel_rfl | simp [Value.oneCell']) ?_
  refine hK2 _ _ ?_
  have B3 := setRow_heap _ _ _ #[.slice x0 d.m y0, .slice x1 d.np y1, .slice x2 d.nr y2, .int .i64 d.bank, .int .i64 d.A, .int .i64 d.X, .int .i64 d.S, .int .i64 d.Pc, .bool d.Z, .bool d.N, .bool d.C, .bool d.I, .int .i64 d.t, .int .i64 d.c, .int .i64 d.s, .int .i64 d.ad, .int .i64 d.pl, .bool d.bl, .slice x3 d.nt y3, .slice x4 d.nd y4, .int .i64 d.T, .int .i64 d.P, .int .i64 d.K, .int .i64 d.B, .int .i64 d.L, .bool d.Q, .bool d.R, .bool d.hd, .int .i64 d.sh, .bool d.nmi, .int .i64 d.st, .slice x5 d.mf y5, .slice x6 d.ns y6, .slice x7 d.nq y7] _ _ B1
  have WW := wrote_setRow B1 #[.slice x0 d.m y0, .slice x1 d.np y1, .slice x2 d.nr y2, .int .i64 d.bank, .int .i64 d.A, .int .i64 d.X, .int .i64 d.S, .int .i64 d.Pc, .bool d.Z, .bool d.N, .bool d.C, .bool d.I, .int .i64 d.t, .int .i64 d.c, .int .i64 d.s, .int .i64 d.ad, .int .i64 d.pl, .bool d.bl, .slice x3 d.nt y3, .slice x4 d.nd y4, .int .i64 d.T, .int .i64 d.P, .int .i64 d.K, .int .i64 d.B, .int .i64 d.L, .bool d.Q, .bool d.R, .bool d.hd, .int .i64 d.sh, .bool d.nmi, .int .i64 d.st, .slice x5 d.mf y5, .slice x6 d.ns y6, .slice x7 d.nq y7]
  clear B0 B1
  go_wp2
  refine bodyPost_ret (v := .agg #[.slice x0 d.m y0, .slice x1 d.np y1, .slice x2 d.nr y2, .int .i64 d.bank, .int .i64 d.A, .int .i64 d.X, .int .i64 d.S, .int .i64 d.Pc, .bool d.Z, .bool d.N, .bool d.C, .bool d.I, .int .i64 d.t, .int .i64 d.c, .int .i64 d.s, .int .i64 d.ad, .int .i64 d.pl, .bool d.bl, .slice x3 d.nt y3, .slice x4 d.nd y4, .int .i64 d.T, .int .i64 d.P, .int .i64 d.K, .int .i64 d.B, .int .i64 d.L, .bool d.Q, .bool d.R, .bool d.hd, .int .i64 d.sh, .bool d.nmi, .int .i64 d.st, .slice x5 d.mf y5, .slice x6 d.ns y6, .slice x7 d.nq y7]) (results_cell_row (by rfl) _ _ (w.heap.size + 1) _ _ _ _ rfl B3 Tryz.underlying49 rfl infoLock) rfl ?_
  have hW9 := WW.size
  have hp5' := hp5.out
  generalize W10.setRow (w.heap.size + 1) #[.slice x0 d.m y0, .slice x1 d.np y1, .slice x2 d.nr y2, .int .i64 d.bank, .int .i64 d.A, .int .i64 d.X, .int .i64 d.S, .int .i64 d.Pc, .bool d.Z, .bool d.N, .bool d.C, .bool d.I, .int .i64 d.t, .int .i64 d.c, .int .i64 d.s, .int .i64 d.ad, .int .i64 d.pl, .bool d.bl, .slice x3 d.nt y3, .slice x4 d.nd y4, .int .i64 d.T, .int .i64 d.P, .int .i64 d.K, .int .i64 d.B, .int .i64 d.L, .bool d.Q, .bool d.R, .bool d.hd, .int .i64 d.sh, .bool d.nmi, .int .i64 d.st, .slice x5 d.mf y5, .slice x6 d.ns y6, .slice x7 d.nq y7] = W11 at *
  obtain ⟨G0, G1, G2, G3, G5, G6, G7⟩ := HR.out
  obtain ⟨⟨x00, x01⟩, ⟨x10, x11⟩, ⟨x20, x21⟩, hd01, hd02, hd12⟩ := HX.out
  obtain ⟨l0, l1, l2, l3, l4, l5⟩ := HL.out
  refine ⟨_, rfl, ⟨fun i b => (i = 0 ∧ p0 ≤ b ∧ b < p1) ∨ (i = 1 ∧ p1 ≤ b ∧ b < p2) ∨ (i = 2 ∧ p2 ≤ b ∧ b < p3) ∨ (i = 3 ∧ p3 ≤ b ∧ b < p4) ∨ (i = 4 ∧ lo 0 ≤ b ∧ b < hi 0) ∨ (i = 5 ∧ lo 1 ≤ b ∧ b < hi 1) ∨ (i = 6 ∧ lo 2 ≤ b ∧ b < hi 2),
    _, _, _, _, _, _, _, _, ob, iv, ov, o6, o7, rfl,
    (G0.keep WW (fun b o hb _ (h : b = _) => by obtain ⟨h1, h2⟩ := hb; omega)).mono (fun b _ h => Or.inl ⟨rfl, h⟩),
    (G1.keep WW (fun b o hb _ (h : b = _) => by obtain ⟨h1, h2⟩ := hb; omega)).mono (fun b _ h => Or.inr (Or.inl ⟨rfl, h⟩)),
    (G2.keep WW (fun b o hb _ (h : b = _) => by obtain ⟨h1, h2⟩ := hb; omega)).mono (fun b _ h => Or.inr (Or.inr (Or.inl ⟨rfl, h⟩))),
    (G3.keep WW (fun b o hb _ (h : b = _) => by obtain ⟨h1, h2⟩ := hb; omega)).mono (fun b _ h => Or.inr (Or.inr (Or.inr (Or.inl ⟨rfl, h⟩)))),
    (G5.keep WW (fun g o hg (h : g = _) => by have := own_at G5.own hg; omega) (fun i b o hi hb (h : b = _) => by have h3 := G5.rows i hi; rw [hb] at h3; have := h3.lt.1; omega)).mono (by omega),
    fun b hb => Or.inr (Or.inr (Or.inr (Or.inr (Or.inl ⟨rfl, HD5.out b hb⟩)))),
    (G6.keep WW (fun b hb h3 _ k (h : b = _) => by omega)).mono (by omega), fun b hb => Or.inr (Or.inr (Or.inr (Or.inr (Or.inr (Or.inl ⟨rfl, HD6.out b hb⟩))))),
    (G7.keep WW (fun b hb h3 _ k (h : b = _) => by omega)).mono (by omega), fun b hb => Or.inr (Or.inr (Or.inr (Or.inr (Or.inr (Or.inr ⟨rfl, HD7.out b hb⟩))))), ?_, ?_, Nat.le_refl _, hps⟩, L0.trans (WW.below L0.size (fun b o hb (h : b = _) => by omega))⟩
  · clear HR HX HL HD5 HD6 HD7 G0 G1 G2 G3 G5 G6 G7
    intro i j b h1 h2
    rcases h1 with ⟨rfl, _, _⟩ | ⟨rfl, _, _⟩ | ⟨rfl, _, _⟩ | ⟨rfl, _, _⟩ | ⟨rfl, _, _⟩ | ⟨rfl, _, _⟩ | ⟨rfl, _, _⟩ <;> rcases h2 with ⟨rfl, _, _⟩ | ⟨rfl, _, _⟩ | ⟨rfl, _, _⟩ | ⟨rfl, _, _⟩ | ⟨rfl, _, _⟩ | ⟨rfl, _, _⟩ | ⟨rfl, _, _⟩ <;> first | rfl | omega
  · clear HR HX HL HD5 HD6 HD7 G0 G1 G2 G3 G5 G6 G7
    intro i b h
    rcases h with ⟨rfl, _, _⟩ | ⟨rfl, _, _⟩ | ⟨rfl, _, _⟩ | ⟨rfl, _, _⟩ | ⟨rfl, _, _⟩ | ⟨rfl, _, _⟩ | ⟨rfl, _, _⟩ <;> omega
end Go.Proofs.YtpaedkefmebjjarGreat
