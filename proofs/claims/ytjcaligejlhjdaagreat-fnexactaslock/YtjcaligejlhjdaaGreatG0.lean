/-
  A region that draws its order: first what only lays new blocks (reads, moves, calls whose contracts end in 'Below', fresh boxes), each with a fact that lasts while blocks are laid; behind all of these the stores. Each operation is walked once, whatever the order.
-/
import Derived.Test.YtjcaligejlhjdaaGreatV0
import Derived.Test.YtjcaligejlhjdaaGreatMath
import Derived.Below
namespace Go.Proofs.YtjcaligejlhjdaaGreat
set_option linter.unusedVariables false
open Go.RowKit
/-- No operation has a guard. -/
def plainB (ops : Array Oper) : Bool := ops.all fun o => o.guard.isNone
/-- An operation waits for the one of a number. -/
def waitsB (o : Oper) (j : Nat) : Bool := o.after.any fun e => Region.binds .any e && e.on == j
section
variable {P : Program} {ops : Array Oper} {Q : Exit → Act → World → Prop}
theorem waits_done {o : Oper} {l : Array Bool} (ha : (o.after.all fun e => !Region.binds .any e || l.getD e.on false) = true) {j : Nat} (hj : waitsB o j = true) : l[j]? = some true := by
  unfold waitsB at hj
  rw [Array.any_eq_true'] at hj
  obtain ⟨e, he, hb⟩ := hj
  have h1 := (Array.all_eq_true_iff_forall_mem.1 ha) e he
  simp only [Bool.and_eq_true, beq_iff_eq] at hb
  rw [hb.1, hb.2] at h1
  simp only [Bool.not_true, Bool.false_or] at h1
  rw [Array.getD_eq_getD_getElem?] at h1
  rcases hb' : l[j]? with _ | b
  · rw [hb'] at h1; simp at h1
  · rw [hb'] at h1; simp at h1; rw [h1]
/-- The value that an operation has put. -/
def valAt (ds : List (Option Nat)) (a : Act) (i : Nat) : Value := match ds[i]? with
  | some (some d) => a.tmps[d]?.getD undef
  | _ => undef
def dstsE (ops : Array Oper) (ds : List (Option Nat)) : Bool := decide (ds.length = ops.size) && ((List.range ds.length).all fun i => ((ops[i]?).map fun o => some o.dst == ds[i]?).getD false) && (List.range ds.length).all fun i => (List.range ds.length).all fun j => decide (i = j) || ds[i]? != ds[j]? || ds[i]? == some none
def slotsOf (ds : List (Option Nat)) : List Nat := ds.filterMap id
/-- Each operation with what it does to the world, within what it may write, and a fact that lasts while the others do theirs. -/
theorem wp_region_effE {id : Nat} {a : Act} {w : World} (ds : List (Option Nat)) (hm : P.follows .mixedOrders = true) (hb : backB ops = true) (hg : plainB ops = true) (hd : dstsE ops ds = true) (hsz : ∀ d, d ∈ slotsOf ds → d < a.tmps.size)
    (R : Nat → Nat → Nat → Prop) (E : Nat → World → World → Prop) (hER : ∀ j W W', E j W W' → Wrote (R j) W W') (φ : Nat → Value → World → Prop)
    (hstab : ∀ i j o v W W', i ≠ j → ops[i]? = some o → waitsB o j = false → E j W W' → φ i v W → φ i v W')
    (hstep : ∀ i o a' W K, ops[i]? = some o → Fr (slotsOf ds) a a' → Wrote (fun b o' => ∃ j oj, j ≠ i ∧ ops[j]? = some oj ∧ waitsB oj i = false ∧ R j b o') w W → (∀ j, waitsB o j = true → φ j (valAt ds a' j) W) → (∀ v W', E i W W' → φ i (if o.dst = none then undef else v) W' → K (a'.put o.dst v) W') → o.wp P a' W K Q)
    (hend : ∀ a' W, Fr (slotsOf ds) a a' → Wrote (fun b o => ∃ j, R j b o) w W → (∀ i, i < ops.size → φ i (valAt ds a' i) W) → Q .normal a' W) : (Code.region id ops true).wp P Q a w := by
  unfold dstsE at hd
  simp only [Bool.and_eq_true, decide_eq_true_eq] at hd
  obtain ⟨⟨hlen, hd1⟩, hd2⟩ := hd
  have hgo : ∀ (i : Nat) (o : Oper), ops[i]? = some o → o.guard = none := fun i o ho => by
    have h1 := (Array.all_eq_true_iff_forall_mem.1 hg) o (Array.mem_of_getElem? ho)
    simpa using h1
  have hlt : ∀ (i : Nat) (o : Oper), ops[i]? = some o → i < ops.size := fun i o ho => by
    rcases Nat.lt_or_ge i ops.size with h | h
    · exact h
    · rw [Array.getElem?_eq_none h] at ho; cases ho
  have hdst : ∀ (i : Nat) (o : Oper), ops[i]? = some o → ds[i]? = some o.dst := fun i o ho => by
    have h1 := List.all_eq_true.1 hd1 i (List.mem_range.2 (by rw [hlen]; exact hlt i o ho))
    rw [ho] at h1
    simp only [Option.map_some, Option.getD_some, beq_iff_eq] at h1
    exact h1.symm
  have hne : ∀ i j d, i ≠ j → ds[i]? = some (some d) → ds[j]? ≠ some (some d) := fun i j d h hi hj => by
    have li : i < ds.length := by rcases Nat.lt_or_ge i ds.length with x | x; exact x; (rw [List.getElem?_eq_none x] at hi; cases hi)
    have lj : j < ds.length := by rcases Nat.lt_or_ge j ds.length with x | x; exact x; (rw [List.getElem?_eq_none x] at hj; cases hj)
    have h1 := List.all_eq_true.1 (List.all_eq_true.1 hd2 i (List.mem_range.2 li)) j (List.mem_range.2 lj)
    rw [hi, hj] at h1
    simp at h1
    exact h h1
  refine wp_region_inv hm hb (fun _ l a' W => Fr (slotsOf ds) a a' ∧ Wrote (fun b o => ∃ j, l[j]? = some true ∧ R j b o) w W ∧ (∀ (k : Nat) (o : Oper), l[k]? = some true → ops[k]? = some o → ∀ j : Nat, waitsB o j = true → l[j]? = some true) ∧ ∀ i : Nat, l[i]? = some true → φ i (valAt ds a' i) W) ?_ ?_ ?_
  · have hno : ∀ i : Nat, (Array.replicate ops.size false)[i]? ≠ some true := fun i h => by
      rcases Nat.lt_or_ge i ops.size with x | x
      · simp [x] at h
      · rw [Array.getElem?_eq_none (by simpa using x)] at h; cases h
    exact ⟨⟨rfl, rfl, fun _ _ => rfl⟩, ⟨rfl, rfl, rfl, Nat.le_refl _, fun _ _ _ => rfl, fun _ _ _ _ => rfl, fun _ _ _ => rfl⟩, fun k _ h => absurd h (hno k), fun i h => absurd h (hno i)⟩
  · rintro l a' W i o K hl ⟨F, L, hcl, hφ⟩ ho hf ha hK
    have hi := hlt i o ho
    have hdi := hdst i o ho
    have hdone : ∀ j, l[j]? = some true → ∀ b o, R j b o → ∃ j oj, j ≠ i ∧ ops[j]? = some oj ∧ waitsB oj i = false ∧ R j b o := fun j h1 b o h2 => by
      have hjl : j < ops.size := by
        rcases Nat.lt_or_ge j ops.size with x | x
        · exact x
        · rw [Array.getElem?_eq_none (by omega)] at h1; cases h1
      have hjo : ops[j]? = some ops[j] := Array.getElem?_eq_getElem hjl
      refine ⟨j, ops[j], (fun e => by rw [e, hf] at h1; cases h1), hjo, ?_, h2⟩
      cases hw : waitsB ops[j] i
      · rfl
      · have := hcl j _ h1 hjo i hw
        rw [hf] at this; cases this
    refine wpOp_of ho (hgo i o ho) (hstep i o a' W K ho F (L.mono (fun b o _ ⟨j, h1, h2⟩ => hdone j h1 b o h2)) (fun j hj => hφ j (waits_done ha hj)) (fun v W' hW hv => hK _ _ ?_))
    have hset : (l.setIfInBounds i true)[i]? = some true := by simp [hl, hi]
    refine ⟨?_, (L.mono (fun b o _ ⟨j, h1, h2⟩ => ⟨j, by rw [Array.getElem?_setIfInBounds_ne (fun e => by rw [← e, hf] at h1; cases h1)]; exact h1, h2⟩)).trans ((hER _ _ _ hW).mono (fun b o _ h => ⟨i, hset, h⟩)), fun k o' hk hko j hj => ?_, fun k hk => ?_⟩
    · cases e : o.dst with
      | none => exact F
      | some d =>
        rw [e] at hdi
        exact F.put (List.mem_filterMap.2 ⟨some d, List.mem_of_getElem? hdi, rfl⟩) v
    · have h1 : l[j]? = some true := by
        by_cases e : k = i
        · subst e
          rw [ho] at hko
          obtain rfl := Option.some.inj hko
          exact waits_done ha hj
        · rw [Array.getElem?_setIfInBounds_ne (by omega)] at hk
          exact hcl k o' hk hko j hj
      by_cases e : j = i
      · rw [e]; exact hset
      · rw [Array.getElem?_setIfInBounds_ne (by omega)]; exact h1
    · by_cases e : k = i
      · subst e
        cases e : o.dst with
        | none =>
          rw [e] at hdi hv
          unfold valAt
          rw [hdi]
          simpa using hv
        | some d =>
          rw [e] at hdi hv
          have hmem : d ∈ slotsOf ds := List.mem_filterMap.2 ⟨some d, List.mem_of_getElem? hdi, rfl⟩
          have : valAt ds (a'.put (some d) v) k = v := by
            unfold valAt
            rw [hdi]
            exact getD_put_eq (by rw [F.size]; exact hsz d hmem)
          rw [this]
          simpa using hv
      · rw [Array.getElem?_setIfInBounds_ne (by omega)] at hk
        have hkl : k < ops.size := by
          rcases Nat.lt_or_ge k ops.size with x | x
          · exact x
          · rw [Array.getElem?_eq_none (by omega)] at hk; cases hk
        have hko : ops[k]? = some ops[k] := Array.getElem?_eq_getElem hkl
        have hnw : waitsB ops[k] i = false := by
          cases hw : waitsB ops[k] i
          · rfl
          · have := hcl k _ hk hko i hw
            rw [hf] at this; cases this
        have h1 := hstab k i _ _ W W' e hko hnw hW (hφ k hk)
        have : valAt ds (a'.put o.dst v) k = valAt ds a' k := by
          cases e2 : o.dst with
          | none => rfl
          | some d =>
            rw [e2] at hdi
            unfold valAt
            cases e3 : ds[k]? with
            | none => rfl
            | some x =>
              cases x with
              | none => rfl
              | some d' =>
                have : d ≠ d' := fun x => hne k i d' e e3 (by rw [hdi, x])
                exact getD_put_ne this
        rw [this]
        exact h1
  · rintro l a' W hall ⟨F, L, -, hφ⟩
    exact hend a' W F (L.mono (fun b o _ ⟨j, _, h2⟩ => ⟨j, h2⟩)) (fun i hi => hφ i (hall i hi))
/-- Each operation with what it may write of what was there, and a fact that lasts while the others write. -/
theorem wp_region_eff {id : Nat} {a : Act} {w : World} (ds : List (Option Nat)) (hm : P.follows .mixedOrders = true) (hb : backB ops = true) (hg : plainB ops = true) (hd : dstsE ops ds = true) (hsz : ∀ d, d ∈ slotsOf ds → d < a.tmps.size)
    (R : Nat → Nat → Nat → Prop) (φ : Nat → Value → World → Prop)
    (hstab : ∀ i j o v W W', i ≠ j → ops[i]? = some o → waitsB o j = false → Wrote (R j) W W' → φ i v W → φ i v W')
    (hstep : ∀ i o a' W K, ops[i]? = some o → Fr (slotsOf ds) a a' → Wrote (fun b o' => ∃ j oj, j ≠ i ∧ ops[j]? = some oj ∧ waitsB oj i = false ∧ R j b o') w W → (∀ j, waitsB o j = true → φ j (valAt ds a' j) W) → (∀ v W', Wrote (R i) W W' → φ i (if o.dst = none then undef else v) W' → K (a'.put o.dst v) W') → o.wp P a' W K Q)
    (hend : ∀ a' W, Fr (slotsOf ds) a a' → Wrote (fun b o => ∃ j, R j b o) w W → (∀ i, i < ops.size → φ i (valAt ds a' i) W) → Q .normal a' W) : (Code.region id ops true).wp P Q a w :=
  wp_region_effE ds hm hb hg hd hsz R (fun j => Wrote (R j)) (fun _ _ _ h => h) φ hstab hstep hend
end
end Go.Proofs.YtjcaligejlhjdaaGreat
