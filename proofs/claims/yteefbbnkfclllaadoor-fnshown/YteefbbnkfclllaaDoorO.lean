/-
  Arguments opened: what the reading of an integer slice, a slice of such slices, an image says of memory.
-/
import Derived.Test.YteefbbnkfclllaaDoorS2
import Derived.ChangeOld
import Derived.ShutString
import Derived.Lib.SmallJoins
import Derived.Lib.LaidTab
namespace Go.Proofs.YteefbbnkfclllaaDoor
set_option maxRecDepth 20000
open Go.ChangeShapes Go.WideShapes Go.ChangeAt Go.RowKit
section
variable {H : Type} {enc : TypeId × Value → H} {P : Program} {w : World} {base : Nat} {spare : Nat → Bool} {held : Bool}
theorem raw_ints {t e : TypeId} {k : IntKind} {fuel : Nat} {cs : List Value} {x : DataW H × List MemPlace} (ht : P.underlying t = some (.slice e)) (he : P.underlying e = some (.int k)) (hc : P.cellsOf e = 1)
    (h : DataW.trod enc P w base spare held fuel t cs = some x) :
    ∃ (a : Option Addr) (n cap : Nat) (f : Nat → Int), cs = [.slice a n cap] ∧ n ≤ 9223372036854775807 ∧ RowOf k w a n f ∧ ∀ i, i < n → (Lit.int k (f i)).wf = true := by
  rcases open_ints ht he hc h with ⟨rfl, _⟩ | ⟨⟨b, off, spot⟩, n, cap, zs, rfl, _, hl, hm, hz, _, hcell, hw⟩
  · exact ⟨none, 0, 0, fun _ => 0, rfl, by omega, fun i hi => absurd hi (Nat.not_lt_zero _), fun i hi => absurd hi (Nat.not_lt_zero _)⟩
  · have hnz : n ≤ zs.length := by rw [hz]; split <;> omega
    refine ⟨some ⟨b, off, spot⟩, n, cap, fun i => zs.getD i 0, rfl, by unfold maxLen at hm; omega, fun i hi => ?_, fun i hi => hw _ ?_⟩
    · have hs : spot = none := by simpa [Addr.add] using World.cell?_spot (hcell 0 (by omega))
      subst hs
      refine ⟨b, off, rfl, ?_⟩
      have := hcell i (by omega)
      unfold Addr.add at this
      split at this
      · rename_i h0
        subst h0
        exact this
      · exact this
    · show zs.getD i 0 ∈ zs
      rw [List.getD_eq_getElem?_getD, List.getElem?_eq_getElem (by omega)]
      exact List.getElem_mem _
theorem openInts {t e : TypeId} {k : IntKind} {a : Option Addr} {n cap : Nat} {d : DataW H} {p : List MemPlace} (ht : P.underlying t = some (.slice e)) (he : P.underlying e = some (.int k)) (hc : P.cellsOf e = 1)
    (h : DataW.Trod enc P w base spare held t (.slice a n cap) d p) : ∃ f : Nat → Int, n ≤ 9223372036854775807 ∧ RowOf k w a n f ∧ ∀ i, i < n → (Lit.int k (f i)).wf = true := by
  obtain ⟨fuel, hf⟩ := h
  obtain ⟨a', n', c', f, e, r⟩ := raw_ints ht he hc hf
  simp [Value.cells] at e
  obtain ⟨rfl, rfl, rfl⟩ := e
  exact ⟨f, r⟩
theorem cells1 {a : Addr} {cs : List Value} (h : w.cells? base a 1 = some cs) : ∃ u, cs = [u] ∧ w.cell? a = some u := by
  unfold World.cells? at h
  split at h
  · simp [List.range_succ, Addr.add] at h
    cases hc : w.cell? a with
    | none => simp [hc] at h
    | some u =>
      simp [hc] at h
      exact ⟨u, h.symm, rfl⟩
  · cases h
theorem array1 {cs : Array Value} (h : cs.size = 1) : ∃ c0, cs = #[c0] := by
  rcases cs with ⟨l⟩
  match l, h with
  | [c0], _ => exact ⟨c0, rfl⟩
theorem raw_rows {t e : TypeId} {fuel : Nat} {cs : List Value} {x : DataW H × List MemPlace} (ht : P.underlying t = some (.slice e)) (hc : P.cellsOf e = 1)
    (h : DataW.trod enc P w base spare held fuel t cs = some x) :
    ∃ (a : Option Addr) (n cap fuel' : Nat), cs = [.slice a n cap] ∧ n ≤ 9223372036854775807 ∧ ∀ i, i < n → ∃ b off u y, a = some ⟨b, off, none⟩ ∧ w.cell? ⟨b, off + i, none⟩ = some u ∧ DataW.trod enc P w base spare held fuel' e [u] = some y := by
  rcases Deep.open_slice ht h with ⟨rfl, _⟩ | ⟨⟨b, off, spot⟩, n, cap, m, fu, D, Pl, rfl, _, hl, hm, he, _, hel⟩
  · exact ⟨none, 0, 0, 0, rfl, by omega, fun i hi => absurd hi (Nat.not_lt_zero _)⟩
  · have hnm : n ≤ m := by rw [he]; split <;> omega
    refine ⟨some ⟨b, off, spot⟩, n, cap, fu, rfl, by unfold maxLen at hm; omega, fun i hi => ?_⟩
    obtain ⟨cs0, h0, _⟩ := hel 0 (by omega)
    obtain ⟨csi, h1, h2⟩ := hel i (by omega)
    rw [hc, Nat.mul_one] at h0 h1
    obtain ⟨u0, rfl, c0⟩ := cells1 h0
    obtain ⟨u, rfl, c1⟩ := cells1 h1
    have hs : spot = none := by simpa [Addr.add] using World.cell?_spot c0
    subst hs
    refine ⟨b, off, u, _, rfl, ?_, h2⟩
    unfold Addr.add at c1
    split at c1
    · rename_i h0
      subst h0
      exact c1
    · exact c1
theorem raw_intss {t e g : TypeId} {fuel : Nat} {cs : List Value} {x : DataW H × List MemPlace} (ht : P.underlying t = some (.slice e)) (hc : P.cellsOf e = 1) (he : P.underlying e = some (.slice g)) (hg : P.underlying g = some (.int .i64)) (hcg : P.cellsOf g = 1)
    (h : DataW.trod enc P w base spare held fuel t cs = some x) :
    ∃ (v : Value) (m : Nat) (ra : Nat → Option Addr) (ln rc : Nat → Nat) (f : Nat → Nat → Int), cs = [v] ∧ RawSS w v m ra ln rc f := by
  obtain ⟨a, m, cap, fu, rfl, hm, hrow⟩ := raw_rows ht hc h
  have key : ∀ i, ∃ q : Option Addr × Nat × Nat × (Nat → Int), i < m → (∃ b off, a = some ⟨b, off, none⟩ ∧ w.cell? ⟨b, off + i, none⟩ = some (.slice q.1 q.2.1 q.2.2.1)) ∧ q.2.1 ≤ 9223372036854775807 ∧ RowOf .i64 w q.1 q.2.1 q.2.2.2 ∧ ∀ j, j < q.2.1 → (Lit.int .i64 (q.2.2.2 j)).wf = true := by
    intro i
    by_cases hi : i < m
    · obtain ⟨b, off, u, y, ha, hcell, hu⟩ := hrow i hi
      obtain ⟨a', n, c', f, e, hn, hr, hw⟩ := raw_ints he hg hcg hu
      simp only [List.cons.injEq, and_true] at e
      subst e
      exact ⟨(a', n, c', f), fun _ => ⟨⟨b, off, ha, hcell⟩, hn, hr, hw⟩⟩
    · exact ⟨(none, 0, 0, fun _ => 0), fun h => absurd h hi⟩
  obtain ⟨q, hq⟩ := Classical.skolem.1 key
  exact ⟨_, m, fun i => (q i).1, fun i => (q i).2.1, fun i => (q i).2.2.1, fun i => (q i).2.2.2, rfl, ⟨⟨a, cap, rfl, hm, fun i hi => (hq i hi).1⟩, fun i hi => (hq i hi).2⟩⟩
theorem raw_int {t : TypeId} {k : IntKind} {fuel : Nat} {cs : List Value} {x : DataW H × List MemPlace} (ht : P.underlying t = some (.int k)) (h : DataW.trod enc P w base spare held fuel t cs = some x) : ∃ z, cs = [.int k z] ∧ (Lit.int k z).wf = true := by
  cases fuel with
  | zero => simp [DataW.trod] at h
  | succ n =>
    simp only [DataW.trod, ht] at h
    split at h <;> simp_all
theorem raw_bool {t : TypeId} {fuel : Nat} {cs : List Value} {x : DataW H × List MemPlace} (ht : P.underlying t = some .bool) (h : DataW.trod enc P w base spare held fuel t cs = some x) : ∃ b, cs = [.bool b] := by
  cases fuel with
  | zero => simp [DataW.trod] at h
  | succ n =>
    simp only [DataW.trod, ht] at h
    split at h <;> simp_all
theorem raw_string {t : TypeId} {fuel : Nat} {cs : List Value} {x : DataW H × List MemPlace} (ht : P.underlying t = some .string) (h : DataW.trod enc P w base spare held fuel t cs = some x) : ∃ s : ByteArray, cs = [.string s] ∧ s.size ≤ maxLen := by
  cases fuel with
  | zero => simp [DataW.trod] at h
  | succ n =>
    simp only [DataW.trod, ht] at h
    split at h <;> simp_all
theorem trod_fields {t : TypeId} {fs : Array Field} {fuel : Nat} {cs : List Value} {x : DataW H × List MemPlace} (ht : P.underlying t = some (.struct fs)) (h : DataW.trod enc P w base spare held fuel t cs = some x) :
    ∃ n, cs.length = P.cellsOf t ∧ ∀ (j : Nat) (f : Field), fs.toList[j]? = some f → ∃ y, DataW.trod enc P w base spare held n f.type ((cs.drop f.offset).take (P.cellsOf f.type)) = some y := by
  cases fuel with
  | zero => simp [DataW.trod] at h
  | succ n =>
    simp only [DataW.trod, ht] at h
    split at h
    · rename_i hl
      obtain ⟨xs, hm, _⟩ := Option.map_eq_some_iff.1 h
      exact ⟨n, hl, fun j f hj => by obtain ⟨b, _, hf⟩ := Lib.mapM_at hm j f hj; exact ⟨b, hf⟩⟩
    · cases h
end
end Go.Proofs.YteefbbnkfclllaaDoor
