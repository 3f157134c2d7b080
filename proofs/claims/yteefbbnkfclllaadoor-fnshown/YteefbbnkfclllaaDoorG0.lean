/-
  A region that draws its order: first what only lays new blocks (reads, moves, calls whose contracts end in 'Below', fresh boxes), each with a fact that lasts while blocks are laid; behind all of these the stores. Each operation is walked once, whatever the order.
-/
import Derived.Test.YteefbbnkfclllaaDoorV0
import Derived.Test.YteefbbnkfclllaaDoorH
import Derived.Below
namespace Go.Proofs.YteefbbnkfclllaaDoor
set_option linter.unusedVariables false
open Go.RowKit
/-- No operation has a guard. -/
def plainB (ops : Array Oper) : Bool := ops.all fun o => o.guard.isNone
/-- An operation waits for the one of a number. -/
def waitsB (o : Oper) (j : Nat) : Bool := o.after.any fun e => Region.binds .any e && e.on == j
/-- Each from n1 on waits for all ahead of n1. -/
def postB (ops : Array Oper) (n1 : Nat) : Bool := (List.range ops.size).all fun i => decide (i < n1) || (List.range n1).all fun j => ((ops[i]?).map (waitsB · j)).getD true
/-- Where an operation's answer is put: a slot of a list. -/
def dstB (ops : Array Oper) (n1 : Nat) (sl : List Nat) : Bool := (List.range n1).all fun i => ((ops[i]?).map fun o => match o.dst with | some d => sl.contains d | none => false).getD false
section
variable {P : Program} {ops : Array Oper} {Q : Exit → Act → World → Prop}
theorem waits_done {o : Oper} {l : Array Bool} (ha : (o.after.all fun e => !Region.binds .any e || l.getD e.on false) = true) {j : Nat} (hj : waitsB o j = true) : l[j]? = some true := by
  unfold waitsB at hj
  rw [Array.any_eq_true'] at hj
  obtain ⟨e, he, hb⟩ := hj
  have h1 := (Array.all_eq_true_iff_forall_mem.1 ha) e he
  simp only [Bool.and_eq_true, beq_iff_eq] at hb
  rw [hb.1, hb.2] at h1
  simp only [Bool.not_true, Bool.false_or] at h1
  rw [Array.getD_eq_getD_getElem?] at h1
  rcases hb' : l[j]? with _ | b
  · rw [hb'] at h1; simp at h1
  · rw [hb'] at h1; simp at h1; rw [h1]
theorem wp_region_grow {id : Nat} {a : Act} {w : World} (n1 : Nat) (sl : List Nat) (hm : P.follows .mixedOrders = true) (hb : backB ops = true) (hg : plainB ops = true) (hp : postB ops n1 = true) (hd : dstB ops n1 sl = true) (hn : n1 ≤ ops.size)
    (Φ : Nat → Act → World → Prop) (Ψ : Array Bool → Act → World → Prop)
    (hstab : ∀ i a' W W', i < n1 → Below W.heap.size W W' → Φ i a' W → Φ i a' W')
    (hloc : ∀ i j o d v a' W, i < n1 → j < n1 → i ≠ j → ops[j]? = some o → o.dst = some d → Φ i a' W → Φ i (a'.put (some d) v) W)
    (hstep : ∀ i o d a' W K, i < n1 → ops[i]? = some o → o.dst = some d → Fr sl a a' → Below w.heap.size w W → (∀ j, waitsB o j = true → Φ j a' W) → (∀ v W', Below W.heap.size W W' → Φ i (a'.put (some d) v) W' → K (a'.put (some d) v) W') → o.wp P a' W K Q)
    (hmid : ∀ a' W, Fr sl a a' → Below w.heap.size w W → (∀ i, i < n1 → Φ i a' W) → Ψ (Array.replicate (ops.size - n1) false) a' W)
    (hpost : ∀ l i o a' W K, n1 ≤ i → ops[i]? = some o → l.size = ops.size - n1 → l[i - n1]? = some false → (∀ j, n1 ≤ j → waitsB o j = true → l[j - n1]? = some true) → Ψ l a' W → (∀ a'' W', Ψ (l.setIfInBounds (i - n1) true) a'' W' → K a'' W') → o.wp P a' W K Q)
    (hend : ∀ a' W, Ψ (Array.replicate (ops.size - n1) true) a' W → Q .normal a' W) : (Code.region id ops true).wp P Q a w := by
  have hgo : ∀ (i : Nat) (o : Oper), ops[i]? = some o → o.guard = none := fun i o ho => by
    have h1 := (Array.all_eq_true_iff_forall_mem.1 hg) o (Array.mem_of_getElem? ho)
    simpa using h1
  have hdo : ∀ (i : Nat) (o : Oper), i < n1 → ops[i]? = some o → ∃ d, o.dst = some d ∧ d ∈ sl := fun i o hi ho => by
    have h1 := List.all_eq_true.1 hd i (List.mem_range.2 hi)
    rw [ho] at h1
    simp only [Option.map_some, Option.getD_some] at h1
    cases e : o.dst with
    | none => rw [e] at h1; simp at h1
    | some d => rw [e] at h1; exact ⟨d, rfl, by simpa using h1⟩
  have hpo : ∀ (i : Nat) (o : Oper) (j : Nat), n1 ≤ i → ops[i]? = some o → j < n1 → waitsB o j = true := fun i o j hi ho hj => by
    have hlt : i < ops.size := by
      rcases Nat.lt_or_ge i ops.size with h | h
      · exact h
      · rw [Array.getElem?_eq_none h] at ho; cases ho
    have h1 := List.all_eq_true.1 hp i (List.mem_range.2 hlt)
    simp only [Bool.or_eq_true, decide_eq_true_eq] at h1
    rcases h1 with h1 | h1
    · omega
    · have h2 := List.all_eq_true.1 h1 j (List.mem_range.2 hj)
      rw [ho] at h2
      simpa using h2
  have hrep : ∀ (k : Nat) (b : Bool) (l : Array Bool), l.size = k → (∀ i, i < k → l[i]? = some b) → l = Array.replicate k b := fun k b l hs h => by
    apply Array.ext
    · simp [hs]
    · intro i h1 h2
      have := h i (by omega)
      rw [Array.getElem?_eq_getElem h1] at this
      simpa using this
  have hext : ∀ (l : Array Bool) (i : Nat), i < ops.size - n1 → l.size = ops.size → (l.extract n1 ops.size)[i]? = l[n1 + i]? := fun l i hi hs => by
    rw [Array.getElem?_extract]
    rw [if_pos (by omega)]
  refine wp_region_inv hm hb (fun a0 l a' W => ((∀ i, n1 ≤ i → i < ops.size → l[i]? = some false) → Fr sl a a' ∧ Below w.heap.size w W ∧ ∀ i, i < n1 → l[i]? = some true → Φ i a' W) ∧ ((∀ i, i < n1 → l[i]? = some true) → Ψ (l.extract n1 ops.size) a' W) ∧ ((∀ i, i < n1 → l[i]? = some true) ∨ (∀ i, n1 ≤ i → i < ops.size → l[i]? = some false))) ?_ ?_ ?_
  · have h0 : ∀ i, i < ops.size → (Array.replicate ops.size false)[i]? = some false := fun i hi => by simp [hi]
    have hbel : Below w.heap.size w { w with drawn := w.drawn + 1 } := (Below.refl _ _).drew
    refine ⟨fun _ => ⟨⟨rfl, rfl, fun _ _ => rfl⟩, hbel, fun i hi h => ?_⟩, fun h => ?_, Or.inr fun i _ hi => h0 i hi⟩
    · rw [h0 i (by omega)] at h; cases h
    · rw [hrep (ops.size - n1) false ((Array.replicate ops.size false).extract n1 ops.size) (by simp) (fun i hi => by rw [hext _ i hi (by simp)]; exact h0 _ (by omega))]
      exact hmid a _ ⟨rfl, rfl, fun _ _ => rfl⟩ hbel (fun i hi => by have := h i hi; rw [h0 i (by omega)] at this; cases this)
  · rintro l a' W i o K hl ⟨j1, j2, j3⟩ ho hf ha hK
    have hlt : i < ops.size := by
      rcases Nat.lt_or_ge i ops.size with h | h
      · exact h
      · rw [Array.getElem?_eq_none h] at ho; cases ho
    refine wpOp_of ho (hgo i o ho) ?_
    have hset : ∀ k, k ≠ i → (l.setIfInBounds i true)[k]? = l[k]? := fun k hk => Array.getElem?_setIfInBounds_ne (by omega)
    have hseti : (l.setIfInBounds i true)[i]? = some true := by simp [hl, hlt]
    by_cases hi : i < n1
    · have hno : ∀ k, n1 ≤ k → k < ops.size → l[k]? = some false := by
        rcases j3 with j3 | j3
        · have := j3 i hi; rw [hf] at this; cases this
        · exact j3
      obtain ⟨F, L, hΦ⟩ := j1 hno
      obtain ⟨d, hdd, hds⟩ := hdo i o hi ho
      have hw : ∀ j, waitsB o j = true → Φ j a' W := fun j hj => by
        have h1 := waits_done ha hj
        rcases Nat.lt_or_ge j n1 with h | h
        · exact hΦ j h h1
        · rcases Nat.lt_or_ge j ops.size with h2 | h2
          · rw [hno j h h2] at h1; cases h1
          · rw [Array.getElem?_eq_none (by omega)] at h1; cases h1
      refine hstep i o d a' W K hi ho hdd F L hw (fun v W' LB hΦi => hK _ _ ?_)
      have hall : ∀ k, k < n1 → (l.setIfInBounds i true)[k]? = some true → Φ k (a'.put (some d) v) W' := fun k hk h => by
        by_cases e : k = i
        · rw [e]; exact hΦi
        · rw [hset k e] at h
          exact hloc k i o d v a' W' hk hi e ho hdd (hstab k a' W W' hk LB (hΦ k hk h))
      have hno' : ∀ k, n1 ≤ k → k < ops.size → (l.setIfInBounds i true)[k]? = some false := fun k h1 h2 => by rw [hset k (by omega)]; exact hno k h1 h2
      have LB' : Below w.heap.size w W' := L.trans (LB.mono L.size)
      refine ⟨fun _ => ⟨F.put hds v, LB', hall⟩, fun h => ?_, Or.inr hno'⟩
      rw [hrep (ops.size - n1) false ((l.setIfInBounds i true).extract n1 ops.size) (by simp [hl]) (fun k hk => by rw [hext _ k hk (by simp [hl])]; exact hno' _ (by omega) (by omega))]
      exact hmid _ _ (F.put hds v) LB' (fun k hk => hall k hk (h k hk))
    · have hpre : ∀ k, k < n1 → l[k]? = some true := fun k hk => waits_done ha (hpo i o k (by omega) ho hk)
      have hpre' : ∀ k, k < n1 → (l.setIfInBounds i true)[k]? = some true := fun k hk => by rw [hset k (by omega)]; exact hpre k hk
      refine hpost (l.extract n1 ops.size) i o a' W K (by omega) ho (by simp [hl]) ?_ (fun j hj hwj => ?_) (j2 hpre) (fun a'' W' hΨ => hK _ _ ⟨fun h => ?_, fun _ => ?_, Or.inl hpre'⟩)
      · rw [hext l (i - n1) (by omega) hl, show n1 + (i - n1) = i by omega]; exact hf
      · have h1 := waits_done ha hwj
        have hjl : j < ops.size := by
          rcases Nat.lt_or_ge j ops.size with h | h
          · exact h
          · rw [Array.getElem?_eq_none (by omega)] at h1; cases h1
        rw [hext l (j - n1) (by omega) hl, show n1 + (j - n1) = j by omega]; exact h1
      · have := h i (by omega) hlt; rw [hseti] at this; cases this
      · have e : (l.setIfInBounds i true).extract n1 ops.size = (l.extract n1 ops.size).setIfInBounds (i - n1) true := by
          apply Array.ext_getElem?
          intro k
          by_cases hk : k < ops.size - n1
          · rw [hext _ k hk (by simp [hl])]
            by_cases e : k = i - n1
            · rw [show n1 + k = i by omega, hseti, e, Array.getElem?_setIfInBounds_self, if_pos (by simp [hl]; omega)]
            · rw [hset _ (by omega), Array.getElem?_setIfInBounds_ne (by omega), hext l k hk hl]
          · rw [Array.getElem?_eq_none (by simp [hl]; omega), Array.getElem?_eq_none (by simp [hl]; omega)]
        rw [e]
        exact hΨ
  · rintro l a' W hall ⟨j1, j2, j3⟩
    have h1 := j2 (fun i hi => hall i (by omega))
    have hl : l.size = ops.size ∨ ops.size < l.size ∨ l.size < ops.size := by omega
    have hsz : (l.extract n1 ops.size).size = ops.size - n1 := by
      have : ops.size ≤ l.size := by
        rcases Nat.lt_or_ge l.size ops.size with h | h
        · have := hall l.size h
          rw [Array.getElem?_eq_none (by omega)] at this; cases this
        · exact h
      simp; omega
    rw [hrep (ops.size - n1) true _ hsz (fun k hk => by rw [Array.getElem?_extract, if_pos (by have : ops.size ≤ l.size := (by rcases Nat.lt_or_ge l.size ops.size with h | h; (have := hall l.size h; rw [Array.getElem?_eq_none (by omega)] at this; cases this); exact h); omega)]; exact hall _ (by omega))] at h1
    exact hend a' W h1
/-- The slots of the first operations, in their order, each but once. -/
def dstsB (ops : Array Oper) (ds : List Nat) : Bool := ((List.range ds.length).all fun i => ((ops[i]?).map fun o => o.dst == ds[i]?).getD false) && (List.range ds.length).all fun i => (List.range ds.length).all fun j => decide (i = j) || ds[i]? != ds[j]?
/-- The same, each fact about the slot's own value. -/
theorem wp_region_vals {id : Nat} {a : Act} {w : World} (ds : List Nat) (hm : P.follows .mixedOrders = true) (hb : backB ops = true) (hg : plainB ops = true) (hp : postB ops ds.length = true) (hd : dstsB ops ds = true) (hn : ds.length ≤ ops.size) (hsz : ∀ d, d ∈ ds → d < a.tmps.size)
    (φ : Nat → Value → World → Prop) (Ψ : Array Bool → Act → World → Prop)
    (hstab : ∀ i v W W', Below W.heap.size W W' → φ i v W → φ i v W')
    (hstep : ∀ i o d a' W K, ops[i]? = some o → ds[i]? = some d → Fr ds a a' → Below w.heap.size w W → (∀ j d', waitsB o j = true → ds[j]? = some d' → φ j (a'.tmps[d']?.getD undef) W) → (∀ v W', Below W.heap.size W W' → φ i v W' → K (a'.put (some d) v) W') → o.wp P a' W K Q)
    (hmid : ∀ a' W, Fr ds a a' → Below w.heap.size w W → (∀ i d, ds[i]? = some d → φ i (a'.tmps[d]?.getD undef) W) → Ψ (Array.replicate (ops.size - ds.length) false) a' W)
    (hpost : ∀ l i o a' W K, ds.length ≤ i → ops[i]? = some o → l.size = ops.size - ds.length → l[i - ds.length]? = some false → Ψ l a' W → (∀ a'' W', Ψ (l.setIfInBounds (i - ds.length) true) a'' W' → K a'' W') → o.wp P a' W K Q)
    (hend : ∀ a' W, Ψ (Array.replicate (ops.size - ds.length) true) a' W → Q .normal a' W) : (Code.region id ops true).wp P Q a w := by
  unfold dstsB at hd
  rw [Bool.and_eq_true] at hd
  have hdst : ∀ i o, i < ds.length → ops[i]? = some o → o.dst = ds[i]? := fun i o hi ho => by
    have h1 := List.all_eq_true.1 hd.1 i (List.mem_range.2 hi)
    rw [ho] at h1
    simpa using h1
  have hne : ∀ i j, i < ds.length → j < ds.length → i ≠ j → ds[i]? ≠ ds[j]? := fun i j hi hj h => by
    have h1 := List.all_eq_true.1 (List.all_eq_true.1 hd.2 i (List.mem_range.2 hi)) j (List.mem_range.2 hj)
    simp only [Bool.or_eq_true, decide_eq_true_eq, bne_iff_ne, ne_eq] at h1
    exact h1.resolve_left h
  refine wp_region_grow ds.length ds hm hb hg hp ?_ hn (fun i a' W => ∀ d, ds[i]? = some d → φ i (a'.tmps[d]?.getD undef) W) Ψ ?_ ?_ ?_ ?_ ?_ hend
  · unfold dstB
    rw [List.all_eq_true]
    intro i hi
    have hi' := List.mem_range.1 hi
    have ho : ops[i]? = some ops[i] := Array.getElem?_eq_getElem (by omega)
    have h2 := hdst i _ hi' ho
    rw [ho]
    simp only [Option.map_some, Option.getD_some]
    rw [h2, List.getElem?_eq_getElem hi']
    simp
  · exact fun i a' W W' hi hL h d hd' => hstab i _ W W' hL (h d hd')
  · intro i j o d v a' W hi hj hij ho hod h d' hd'
    have h1 := hdst j o hj ho
    have : d ≠ d' := fun e => hne i j hi hj hij (by rw [hd', ← h1, hod, e])
    rw [getD_put_ne this]
    exact h d' hd'
  · intro i o d a' W K hi ho hod F L hw hK
    have h1 := hdst i o hi ho
    rw [hod] at h1
    refine hstep i o d a' W K ho h1.symm F L (fun j d' hj hd' => hw j hj d' hd') (fun v W' hL hv => hK v W' hL (fun d' hd' => ?_))
    rw [← h1] at hd'
    obtain rfl := Option.some.inj hd'
    rw [getD_put_eq (by rw [F.size]; exact hsz d (List.mem_of_getElem? h1.symm))]
    exact hv
  · exact fun a' W F L h => hmid a' W F L (fun i d hd' => h i (by rcases Nat.lt_or_ge i ds.length with x | x; exact x; (rw [List.getElem?_eq_none x] at hd'; cases hd')) d hd')
  · exact fun l i o a' W K hi ho hl hf _ hΨ hK => hpost l i o a' W K hi ho hl hf hΨ hK
/-- The value that an operation has put. -/
def valAt (ds : List (Option Nat)) (a : Act) (i : Nat) : Value := match ds[i]? with
  | some (some d) => a.tmps[d]?.getD undef
  | _ => undef
def dstsE (ops : Array Oper) (ds : List (Option Nat)) : Bool := decide (ds.length = ops.size) && ((List.range ds.length).all fun i => ((ops[i]?).map fun o => some o.dst == ds[i]?).getD false) && (List.range ds.length).all fun i => (List.range ds.length).all fun j => decide (i = j) || ds[i]? != ds[j]? || ds[i]? == some none
def slotsOf (ds : List (Option Nat)) : List Nat := ds.filterMap id
/-- Each operation with what it does to the world, within what it may write, and a fact that lasts while the others do theirs. -/
theorem wp_region_effE {id : Nat} {a : Act} {w : World} (ds : List (Option Nat)) (hm : P.follows .mixedOrders = true) (hb : backB ops = true) (hg : plainB ops = true) (hd : dstsE ops ds = true) (hsz : ∀ d, d ∈ slotsOf ds → d < a.tmps.size)
    (R : Nat → Nat → Nat → Prop) (E : Nat → World → World → Prop) (hER : ∀ j W W', E j W W' → Wrote (R j) W W') (φ : Nat → Value → World → Prop)
    (hstab : ∀ i j o v W W', i ≠ j → ops[i]? = some o → waitsB o j = false → E j W W' → φ i v W → φ i v W')
    (hstep : ∀ i o a' W K, ops[i]? = some o → Fr (slotsOf ds) a a' → Wrote (fun b o' => ∃ j oj, j ≠ i ∧ ops[j]? = some oj ∧ waitsB oj i = false ∧ R j b o') w W → (∀ j, waitsB o j = true → φ j (valAt ds a' j) W) → (∀ v W', E i W W' → φ i (if o.dst = none then undef else v) W' → K (a'.put o.dst v) W') → o.wp P a' W K Q)
    (hend : ∀ a' W, Fr (slotsOf ds) a a' → Wrote (fun b o => ∃ j, R j b o) w W → (∀ i, i < ops.size → φ i (valAt ds a' i) W) → Q .normal a' W) : (Code.region id ops true).wp P Q a w := by
  unfold dstsE at hd
  simp only [Bool.and_eq_true, decide_eq_true_eq] at hd
  obtain ⟨⟨hlen, hd1⟩, hd2⟩ := hd
  have hgo : ∀ (i : Nat) (o : Oper), ops[i]? = some o → o.guard = none := fun i o ho => by
    have h1 := (Array.all_eq_true_iff_forall_mem.1 hg) o (Array.mem_of_getElem? ho)
    simpa using h1
  have hlt : ∀ (i : Nat) (o : Oper), ops[i]? = some o → i < ops.size := fun i o ho => by
    rcases Nat.lt_or_ge i ops.size with h | h
    · exact h
    · rw [Array.getElem?_eq_none h] at ho; cases ho
  have hdst : ∀ (i : Nat) (o : Oper), ops[i]? = some o → ds[i]? = some o.dst := fun i o ho => by
    have h1 := List.all_eq_true.1 hd1 i (List.mem_range.2 (by rw [hlen]; exact hlt i o ho))
    rw [ho] at h1
    simp only [Option.map_some, Option.getD_some, beq_iff_eq] at h1
    exact h1.symm
  have hne : ∀ i j d, i ≠ j → ds[i]? = some (some d) → ds[j]? ≠ some (some d) := fun i j d h hi hj => by
    have li : i < ds.length := by rcases Nat.lt_or_ge i ds.length with x | x; exact x; (rw [List.getElem?_eq_none x] at hi; cases hi)
    have lj : j < ds.length := by rcases Nat.lt_or_ge j ds.length with x | x; exact x; (rw [List.getElem?_eq_none x] at hj; cases hj)
    have h1 := List.all_eq_true.1 (List.all_eq_true.1 hd2 i (List.mem_range.2 li)) j (List.mem_range.2 lj)
    rw [hi, hj] at h1
    simp at h1
    exact h h1
  refine wp_region_inv hm hb (fun _ l a' W => Fr (slotsOf ds) a a' ∧ Wrote (fun b o => ∃ j, l[j]? = some true ∧ R j b o) w W ∧ (∀ (k : Nat) (o : Oper), l[k]? = some true → ops[k]? = some o → ∀ j : Nat, waitsB o j = true → l[j]? = some true) ∧ ∀ i : Nat, l[i]? = some true → φ i (valAt ds a' i) W) ?_ ?_ ?_
  · have hno : ∀ i : Nat, (Array.replicate ops.size false)[i]? ≠ some true := fun i h => by
      rcases Nat.lt_or_ge i ops.size with x | x
      · simp [x] at h
      · rw [Array.getElem?_eq_none (by simpa using x)] at h; cases h
    exact ⟨⟨rfl, rfl, fun _ _ => rfl⟩, ⟨rfl, rfl, rfl, Nat.le_refl _, fun _ _ _ => rfl, fun _ _ _ _ => rfl, fun _ _ _ => rfl⟩, fun k _ h => absurd h (hno k), fun i h => absurd h (hno i)⟩
  · rintro l a' W i o K hl ⟨F, L, hcl, hφ⟩ ho hf ha hK
    have hi := hlt i o ho
    have hdi := hdst i o ho
    have hdone : ∀ j, l[j]? = some true → ∀ b o, R j b o → ∃ j oj, j ≠ i ∧ ops[j]? = some oj ∧ waitsB oj i = false ∧ R j b o := fun j h1 b o h2 => by
      have hjl : j < ops.size := by
        rcases Nat.lt_or_ge j ops.size with x | x
        · exact x
        · rw [Array.getElem?_eq_none (by omega)] at h1; cases h1
      have hjo : ops[j]? = some ops[j] := Array.getElem?_eq_getElem hjl
      refine ⟨j, ops[j], (fun e => by rw [e, hf] at h1; cases h1), hjo, ?_, h2⟩
      cases hw : waitsB ops[j] i
      · rfl
      · have := hcl j _ h1 hjo i hw
        rw [hf] at this; cases this
    refine wpOp_of ho (hgo i o ho) (hstep i o a' W K ho F (L.mono (fun b o _ ⟨j, h1, h2⟩ => hdone j h1 b o h2)) (fun j hj => hφ j (waits_done ha hj)) (fun v W' hW hv => hK _ _ ?_))
    have hset : (l.setIfInBounds i true)[i]? = some true := by simp [hl, hi]
    refine ⟨?_, (L.mono (fun b o _ ⟨j, h1, h2⟩ => ⟨j, by rw [Array.getElem?_setIfInBounds_ne (fun e => by rw [← e, hf] at h1; cases h1)]; exact h1, h2⟩)).trans ((hER _ _ _ hW).mono (fun b o _ h => ⟨i, hset, h⟩)), fun k o' hk hko j hj => ?_, fun k hk => ?_⟩
    · cases e : o.dst with
      | none => exact F
      | some d =>
        rw [e] at hdi
        exact F.put (List.mem_filterMap.2 ⟨some d, List.mem_of_getElem? hdi, rfl⟩) v
    · have h1 : l[j]? = some true := by
        by_cases e : k = i
        · subst e
          rw [ho] at hko
          obtain rfl := Option.some.inj hko
          exact waits_done ha hj
        · rw [Array.getElem?_setIfInBounds_ne (by omega)] at hk
          exact hcl k o' hk hko j hj
      by_cases e : j = i
      · rw [e]; exact hset
      · rw [Array.getElem?_setIfInBounds_ne (by omega)]; exact h1
    · by_cases e : k = i
      · subst e
        cases e : o.dst with
        | none =>
          rw [e] at hdi hv
          unfold valAt
          rw [hdi]
          simpa using hv
        | some d =>
          rw [e] at hdi hv
          have hmem : d ∈ slotsOf ds := List.mem_filterMap.2 ⟨some d, List.mem_of_getElem? hdi, rfl⟩
          have : valAt ds (a'.put (some d) v) k = v := by
            unfold valAt
            rw [hdi]
            exact getD_put_eq (by rw [F.size]; exact hsz d hmem)
          rw [this]
          simpa using hv
      · rw [Array.getElem?_setIfInBounds_ne (by omega)] at hk
        have hkl : k < ops.size := by
          rcases Nat.lt_or_ge k ops.size with x | x
          · exact x
          · rw [Array.getElem?_eq_none (by omega)] at hk; cases hk
        have hko : ops[k]? = some ops[k] := Array.getElem?_eq_getElem hkl
        have hnw : waitsB ops[k] i = false := by
          cases hw : waitsB ops[k] i
          · rfl
          · have := hcl k _ hk hko i hw
            rw [hf] at this; cases this
        have h1 := hstab k i _ _ W W' e hko hnw hW (hφ k hk)
        have : valAt ds (a'.put o.dst v) k = valAt ds a' k := by
          cases e2 : o.dst with
          | none => rfl
          | some d =>
            rw [e2] at hdi
            unfold valAt
            cases e3 : ds[k]? with
            | none => rfl
            | some x =>
              cases x with
              | none => rfl
              | some d' =>
                have : d ≠ d' := fun x => hne k i d' e e3 (by rw [hdi, x])
                exact getD_put_ne this
        rw [this]
        exact h1
  · rintro l a' W hall ⟨F, L, -, hφ⟩
    exact hend a' W F (L.mono (fun b o _ ⟨j, _, h2⟩ => ⟨j, h2⟩)) (fun i hi => hφ i (hall i hi))
/-- Each operation with what it may write of what was there, and a fact that lasts while the others write. -/
theorem wp_region_eff {id : Nat} {a : Act} {w : World} (ds : List (Option Nat)) (hm : P.follows .mixedOrders = true) (hb : backB ops = true) (hg : plainB ops = true) (hd : dstsE ops ds = true) (hsz : ∀ d, d ∈ slotsOf ds → d < a.tmps.size)
    (R : Nat → Nat → Nat → Prop) (φ : Nat → Value → World → Prop)
    (hstab : ∀ i j o v W W', i ≠ j → ops[i]? = some o → waitsB o j = false → Wrote (R j) W W' → φ i v W → φ i v W')
    (hstep : ∀ i o a' W K, ops[i]? = some o → Fr (slotsOf ds) a a' → Wrote (fun b o' => ∃ j oj, j ≠ i ∧ ops[j]? = some oj ∧ waitsB oj i = false ∧ R j b o') w W → (∀ j, waitsB o j = true → φ j (valAt ds a' j) W) → (∀ v W', Wrote (R i) W W' → φ i (if o.dst = none then undef else v) W' → K (a'.put o.dst v) W') → o.wp P a' W K Q)
    (hend : ∀ a' W, Fr (slotsOf ds) a a' → Wrote (fun b o => ∃ j, R j b o) w W → (∀ i, i < ops.size → φ i (valAt ds a' i) W) → Q .normal a' W) : (Code.region id ops true).wp P Q a w :=
  wp_region_effE ds hm hb hg hd hsz R (fun j => Wrote (R j)) (fun _ _ _ h => h) φ hstab hstep hend
end
end Go.Proofs.YteefbbnkfclllaaDoor
