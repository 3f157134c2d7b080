/-
  Arguments opened: what the reading of an integer slice, a slice of such slices, an image says of memory.
-/
import Derived.Test.YtjcaligejlhjdaaGreatS2
import Derived.ChangeOld
import Derived.ShutString
import Derived.Lib.SmallJoins
import Derived.Lib.LaidTab
namespace Go.Proofs.YtjcaligejlhjdaaGreat
set_option maxRecDepth 20000
open Go.ChangeShapes Go.WideShapes Go.ChangeAt Go.RowKit
section
variable {H : Type} {enc : TypeId × Value → H} {P : Program} {w : World} {base : Nat} {spare : Nat → Bool} {held : Bool}
theorem raw_ints {t e : TypeId} {k : IntKind} {fuel : Nat} {cs : List Value} {x : DataW H × List MemPlace} (ht : P.underlying t = some (.slice e)) (he : P.underlying e = some (.int k)) (hc : P.cellsOf e = 1)
    (h : DataW.trod enc P w base spare held fuel t cs = some x) :
    ∃ (a : Option Addr) (n cap : Nat) (f : Nat → Int), cs = [.slice a n cap] ∧ n ≤ 9223372036854775807 ∧ RowOf k w a n f ∧ ∀ i, i < n → (Lit.int k (f i)).wf = true := by
  rcases open_ints ht he hc h with ⟨rfl, _⟩ | ⟨⟨b, off, spot⟩, n, cap, zs, rfl, _, hl, hm, hz, _, hcell, hw⟩
  · exact ⟨none, 0, 0, fun _ => 0, rfl, by omega, fun i hi => absurd hi (Nat.not_lt_zero _), fun i hi => absurd hi (Nat.not_lt_zero _)⟩
  · have hnz : n ≤ zs.length := by rw [hz]; split <;> omega
    refine ⟨some ⟨b, off, spot⟩, n, cap, fun i => zs.getD i 0, rfl, by unfold maxLen at hm; omega, fun i hi => ?_, fun i hi => hw _ ?_⟩
    · have hs : spot = none := by simpa [Addr.add] using World.cell?_spot (hcell 0 (by omega))
      subst hs
      refine ⟨b, off, rfl, ?_⟩
      have := hcell i (by omega)
      unfold Addr.add at this
      split at this
      · rename_i h0
        subst h0
        exact this
      · exact this
    · show zs.getD i 0 ∈ zs
      rw [List.getD_eq_getElem?_getD, List.getElem?_eq_getElem (by omega)]
      exact List.getElem_mem _
theorem cells1 {a : Addr} {cs : List Value} (h : w.cells? base a 1 = some cs) : ∃ u, cs = [u] ∧ w.cell? a = some u := by
  unfold World.cells? at h
  split at h
  · simp [List.range_succ, Addr.add] at h
    cases hc : w.cell? a with
    | none => simp [hc] at h
    | some u =>
      simp [hc] at h
      exact ⟨u, h.symm, rfl⟩
  · cases h
theorem raw_rows {t e : TypeId} {fuel : Nat} {cs : List Value} {x : DataW H × List MemPlace} (ht : P.underlying t = some (.slice e)) (hc : P.cellsOf e = 1)
    (h : DataW.trod enc P w base spare held fuel t cs = some x) :
    ∃ (a : Option Addr) (n cap fuel' : Nat), cs = [.slice a n cap] ∧ n ≤ 9223372036854775807 ∧ ∀ i, i < n → ∃ b off u y, a = some ⟨b, off, none⟩ ∧ w.cell? ⟨b, off + i, none⟩ = some u ∧ DataW.trod enc P w base spare held fuel' e [u] = some y := by
  rcases Deep.open_slice ht h with ⟨rfl, _⟩ | ⟨⟨b, off, spot⟩, n, cap, m, fu, D, Pl, rfl, _, hl, hm, he, _, hel⟩
  · exact ⟨none, 0, 0, 0, rfl, by omega, fun i hi => absurd hi (Nat.not_lt_zero _)⟩
  · have hnm : n ≤ m := by rw [he]; split <;> omega
    refine ⟨some ⟨b, off, spot⟩, n, cap, fu, rfl, by unfold maxLen at hm; omega, fun i hi => ?_⟩
    obtain ⟨cs0, h0, _⟩ := hel 0 (by omega)
    obtain ⟨csi, h1, h2⟩ := hel i (by omega)
    rw [hc, Nat.mul_one] at h0 h1
    obtain ⟨u0, rfl, c0⟩ := cells1 h0
    obtain ⟨u, rfl, c1⟩ := cells1 h1
    have hs : spot = none := by simpa [Addr.add] using World.cell?_spot c0
    subst hs
    refine ⟨b, off, u, _, rfl, ?_, h2⟩
    unfold Addr.add at c1
    split at c1
    · rename_i h0
      subst h0
      exact c1
    · exact c1
theorem raw_intss {t e g : TypeId} {fuel : Nat} {cs : List Value} {x : DataW H × List MemPlace} (ht : P.underlying t = some (.slice e)) (hc : P.cellsOf e = 1) (he : P.underlying e = some (.slice g)) (hg : P.underlying g = some (.int .i64)) (hcg : P.cellsOf g = 1)
    (h : DataW.trod enc P w base spare held fuel t cs = some x) :
    ∃ (v : Value) (m : Nat) (ra : Nat → Option Addr) (ln rc : Nat → Nat) (f : Nat → Nat → Int), cs = [v] ∧ RawSS w v m ra ln rc f := by
  obtain ⟨a, m, cap, fu, rfl, hm, hrow⟩ := raw_rows ht hc h
  have key : ∀ i, ∃ q : Option Addr × Nat × Nat × (Nat → Int), i < m → (∃ b off, a = some ⟨b, off, none⟩ ∧ w.cell? ⟨b, off + i, none⟩ = some (.slice q.1 q.2.1 q.2.2.1)) ∧ q.2.1 ≤ 9223372036854775807 ∧ RowOf .i64 w q.1 q.2.1 q.2.2.2 ∧ ∀ j, j < q.2.1 → (Lit.int .i64 (q.2.2.2 j)).wf = true := by
    intro i
    by_cases hi : i < m
    · obtain ⟨b, off, u, y, ha, hcell, hu⟩ := hrow i hi
      obtain ⟨a', n, c', f, e, hn, hr, hw⟩ := raw_ints he hg hcg hu
      simp only [List.cons.injEq, and_true] at e
      subst e
      exact ⟨(a', n, c', f), fun _ => ⟨⟨b, off, ha, hcell⟩, hn, hr, hw⟩⟩
    · exact ⟨(none, 0, 0, fun _ => 0), fun h => absurd h hi⟩
  obtain ⟨q, hq⟩ := Classical.skolem.1 key
  exact ⟨_, m, fun i => (q i).1, fun i => (q i).2.1, fun i => (q i).2.2.1, fun i => (q i).2.2.2, rfl, ⟨⟨a, cap, rfl, hm, fun i hi => (hq i hi).1⟩, fun i hi => (hq i hi).2⟩⟩
theorem raw_int {t : TypeId} {k : IntKind} {fuel : Nat} {cs : List Value} {x : DataW H × List MemPlace} (ht : P.underlying t = some (.int k)) (h : DataW.trod enc P w base spare held fuel t cs = some x) : ∃ z, cs = [.int k z] ∧ (Lit.int k z).wf = true := by
  cases fuel with
  | zero => simp [DataW.trod] at h
  | succ n =>
    simp only [DataW.trod, ht] at h
    split at h <;> simp_all
theorem raw_bool {t : TypeId} {fuel : Nat} {cs : List Value} {x : DataW H × List MemPlace} (ht : P.underlying t = some .bool) (h : DataW.trod enc P w base spare held fuel t cs = some x) : ∃ b, cs = [.bool b] := by
  cases fuel with
  | zero => simp [DataW.trod] at h
  | succ n =>
    simp only [DataW.trod, ht] at h
    split at h <;> simp_all
theorem trod_fields {t : TypeId} {fs : Array Field} {fuel : Nat} {cs : List Value} {x : DataW H × List MemPlace} (ht : P.underlying t = some (.struct fs)) (h : DataW.trod enc P w base spare held fuel t cs = some x) :
    ∃ n, cs.length = P.cellsOf t ∧ ∀ (j : Nat) (f : Field), fs.toList[j]? = some f → ∃ y, DataW.trod enc P w base spare held n f.type ((cs.drop f.offset).take (P.cellsOf f.type)) = some y := by
  cases fuel with
  | zero => simp [DataW.trod] at h
  | succ n =>
    simp only [DataW.trod, ht] at h
    split at h
    · rename_i hl
      obtain ⟨xs, hm, _⟩ := Option.map_eq_some_iff.1 h
      exact ⟨n, hl, fun j f hj => by obtain ⟨b, _, hf⟩ := Lib.mapM_at hm j f hj; exact ⟨b, hf⟩⟩
    · cases h
end
end Go.Proofs.YtjcaligejlhjdaaGreat
namespace Go.Proofs.YtjcaligejlhjdaaGreat
set_option maxRecDepth 20000
open Go.ChangeShapes Go.WideShapes Go.ChangeAt Go.RowKit
section
variable {H : Type} {enc : TypeId × Value → H} {P : Program} {w : World} {base : Nat} {spare : Nat → Bool} {held : Bool}
theorem addN (b off j : Nat) : (⟨b, off, none⟩ : Addr).add j = ⟨b, off + j, none⟩ := by
  unfold Addr.add
  split
  · rename_i h0
    subst h0
    rfl
  · rfl
theorem cells3 {a : Addr} {cs : List Value} (h : w.cells? base a 3 = some cs) : ∃ u0 u1 u2, cs = [u0, u1, u2] ∧ w.cell? a = some u0 ∧ w.cell? (a.add 1) = some u1 ∧ w.cell? (a.add 2) = some u2 := by
  unfold World.cells? at h
  split at h
  · have e0 : a.add 0 = a := by simp [Addr.add]
    cases h0 : w.cell? a with
    | none => simp [List.range_succ, e0, h0] at h
    | some u0 =>
      cases h1 : w.cell? (a.add 1) with
      | none => simp [List.range_succ, e0, h0, h1] at h
      | some u1 =>
        cases h2 : w.cell? (a.add 2) with
        | none => simp [List.range_succ, e0, h0, h1, h2] at h
        | some u2 =>
          simp [List.range_succ, e0, h0, h1, h2] at h
          exact ⟨u0, u1, u2, h.symm, rfl, rfl, rfl⟩
  · cases h
theorem raw_recs {t e g : TypeId} {fs : Array Field} {fuel : Nat} {cs : List Value} {x : DataW H × List MemPlace} (ht : P.underlying t = some (.slice e)) (he : P.underlying e = some (.struct fs)) (hfs : fs.toList.map (fun f => (f.type, f.offset)) = [(g, 0), (g, 1), (g, 2)]) (hc : P.cellsOf e = 3) (hg : P.underlying g = some (.int .i64)) (hcg : P.cellsOf g = 1)
    (h : DataW.trod enc P w base spare held fuel t cs = some x) :
    ∃ (a : Option Addr) (n cap : Nat) (f : Nat → Int), cs = [.slice a n cap] ∧ n ≤ 9223372036854775807 ∧ n ≤ cap ∧ RowOf .i64 w a (n * 3) f := by
  rcases Deep.open_slice ht h with ⟨rfl, _⟩ | ⟨⟨b, off, spot⟩, n, cap, m, fu, D, Pl, rfl, _, hl, hm, hem, _, hel⟩
  · exact ⟨none, 0, 0, fun _ => 0, rfl, by omega, by omega, fun i hi => absurd hi (Nat.not_lt_zero _)⟩
  · have hnm : n ≤ m := by rw [hem]; split <;> omega
    by_cases hn0 : n = 0
    · exact ⟨some ⟨b, off, spot⟩, n, cap, fun _ => 0, rfl, by unfold maxLen at hm; omega, hl, fun i hi => by omega⟩
    have hs : spot = none := by
      obtain ⟨cs0, h0, _⟩ := hel 0 (by omega)
      rw [hc, Nat.zero_mul] at h0
      obtain ⟨u0, u1, u2, rfl, c0, c1, c2⟩ := cells3 h0
      simpa [Addr.add] using World.cell?_spot c0
    subst hs
    have key : ∀ i, ∃ q : Int × Int × Int, i < n → w.cell? ⟨b, off + i * 3, none⟩ = some (.int .i64 q.1) ∧ w.cell? ⟨b, off + i * 3 + 1, none⟩ = some (.int .i64 q.2.1) ∧ w.cell? ⟨b, off + i * 3 + 2, none⟩ = some (.int .i64 q.2.2) := by
      intro i
      by_cases hi : i < n
      · obtain ⟨csi, h1, h2⟩ := hel i (by omega)
        rw [hc] at h1
        obtain ⟨u0, u1, u2, rfl, c0, c1, c2⟩ := cells3 h1
        obtain ⟨k, -, hF⟩ := trod_fields he h2
        have hj : ∀ j, j < 3 → ∃ f, fs.toList[j]? = some f ∧ f.type = g ∧ f.offset = j := fun j hj => by
          have e1 : (fs.toList.map (fun f => (f.type, f.offset)))[j]? = [(g, 0), (g, 1), (g, 2)][j]? := by rw [hfs]
          rw [List.getElem?_map] at e1
          match j, hj with
          | 0, _ =>
            cases hh : fs.toList[0]? with
            | none => rw [hh] at e1; simp at e1
            | some f => rw [hh] at e1; simp at e1; exact ⟨f, rfl, e1.1, e1.2⟩
          | 1, _ =>
            cases hh : fs.toList[1]? with
            | none => rw [hh] at e1; simp at e1
            | some f => rw [hh] at e1; simp at e1; exact ⟨f, rfl, e1.1, e1.2⟩
          | 2, _ =>
            cases hh : fs.toList[2]? with
            | none => rw [hh] at e1; simp at e1
            | some f => rw [hh] at e1; simp at e1; exact ⟨f, rfl, e1.1, e1.2⟩
        obtain ⟨f0, g0, t0, o0⟩ := hj 0 (by omega)
        obtain ⟨f1, g1, t1, o1⟩ := hj 1 (by omega)
        obtain ⟨f2, g2, t2, o2⟩ := hj 2 (by omega)
        obtain ⟨y0, k0⟩ := hF 0 f0 g0
        obtain ⟨y1, k1⟩ := hF 1 f1 g1
        obtain ⟨y2, k2⟩ := hF 2 f2 g2
        rw [t0, o0, hcg] at k0
        rw [t1, o1, hcg] at k1
        rw [t2, o2, hcg] at k2
        obtain ⟨z0, e0, -⟩ := raw_int hg k0
        obtain ⟨z1, e1, -⟩ := raw_int hg k1
        obtain ⟨z2, e2, -⟩ := raw_int hg k2
        simp at e0 e1 e2
        subst e0
        subst e1
        subst e2
        rw [addN] at c0 c1 c2
        rw [addN] at c1 c2
        exact ⟨(z0, z1, z2), fun _ => ⟨c0, c1, c2⟩⟩
      · exact ⟨(0, 0, 0), fun hh => absurd hh hi⟩
    obtain ⟨q, hq⟩ := Classical.skolem.1 key
    refine ⟨some ⟨b, off, none⟩, n, cap, fun i => if i % 3 = 0 then (q (i / 3)).1 else if i % 3 = 1 then (q (i / 3)).2.1 else (q (i / 3)).2.2, rfl, by unfold maxLen at hm; omega, hl, fun i hi => ?_⟩
    obtain ⟨h0, h1, h2⟩ := hq (i / 3) (by omega)
    refine ⟨b, off, rfl, ?_⟩
    show _ = some (Value.int .i64 (if i % 3 = 0 then (q (i / 3)).1 else if i % 3 = 1 then (q (i / 3)).2.1 else (q (i / 3)).2.2))
    have hm3 : i % 3 = 0 ∨ i % 3 = 1 ∨ i % 3 = 2 := by omega
    rcases hm3 with e | e | e
    · rw [if_pos e, ← h0, show off + i = off + i / 3 * 3 by omega]
    · rw [if_neg (by omega), if_pos e, ← h1, show off + i = off + i / 3 * 3 + 1 by omega]
    · rw [if_neg (by omega), if_neg (by omega), ← h2, show off + i = off + i / 3 * 3 + 2 by omega]
end
end Go.Proofs.YtjcaligejlhjdaaGreat
