/-
  Arguments opened: what the reading of a list of records says of memory.
-/
import Derived.Test.YtmccplbfggcogaaO
namespace Go.Proofs.Ytmccplbfggcogaa
set_option maxRecDepth 20000
open Go.ChangeShapes Go.WideShapes Go.ChangeAt Go.RowKit
section
variable {H : Type} {enc : TypeId × Value → H} {P : Program} {w : World} {base : Nat} {spare : Nat → Bool} {held : Bool}
theorem addN (b off j : Nat) : (⟨b, off, none⟩ : Addr).add j = ⟨b, off + j, none⟩ := by
  unfold Addr.add
  split
  · rename_i h0
    subst h0
    rfl
  · rfl
theorem cells3 {a : Addr} {cs : List Value} (h : w.cells? base a 3 = some cs) : ∃ u0 u1 u2, cs = [u0, u1, u2] ∧ w.cell? a = some u0 ∧ w.cell? (a.add 1) = some u1 ∧ w.cell? (a.add 2) = some u2 := by
  unfold World.cells? at h
  split at h
  · have e0 : a.add 0 = a := by simp [Addr.add]
    cases h0 : w.cell? a with
    | none => simp [List.range_succ, e0, h0] at h
    | some u0 =>
      cases h1 : w.cell? (a.add 1) with
      | none => simp [List.range_succ, e0, h0, h1] at h
      | some u1 =>
        cases h2 : w.cell? (a.add 2) with
        | none => simp [List.range_succ, e0, h0, h1, h2] at h
        | some u2 =>
          simp [List.range_succ, e0, h0, h1, h2] at h
          exact ⟨u0, u1, u2, h.symm, rfl, rfl, rfl⟩
  · cases h
theorem raw_recs {t e g : TypeId} {fs : Array Field} {fuel : Nat} {cs : List Value} {x : DataW H × List MemPlace} (ht : P.underlying t = some (.slice e)) (he : P.underlying e = some (.struct fs)) (hfs : fs.toList.map (fun f => (f.type, f.offset)) = [(g, 0), (g, 1), (g, 2)]) (hc : P.cellsOf e = 3) (hg : P.underlying g = some (.int .i64)) (hcg : P.cellsOf g = 1)
    (h : DataW.trod enc P w base spare held fuel t cs = some x) :
    ∃ (a : Option Addr) (n cap : Nat) (f : Nat → Int), cs = [.slice a n cap] ∧ n ≤ 9223372036854775807 ∧ n ≤ cap ∧ RowOf .i64 w a (n * 3) f := by
  rcases Deep.open_slice ht h with ⟨rfl, _⟩ | ⟨⟨b, off, spot⟩, n, cap, m, fu, D, Pl, rfl, _, hl, hm, hem, _, hel⟩
  · exact ⟨none, 0, 0, fun _ => 0, rfl, by omega, by omega, fun i hi => absurd hi (Nat.not_lt_zero _)⟩
  · have hnm : n ≤ m := by rw [hem]; split <;> omega
    by_cases hn0 : n = 0
    · exact ⟨some ⟨b, off, spot⟩, n, cap, fun _ => 0, rfl, by unfold maxLen at hm; omega, hl, fun i hi => by omega⟩
    have hs : spot = none := by
      obtain ⟨cs0, h0, _⟩ := hel 0 (by omega)
      rw [hc, Nat.zero_mul] at h0
      obtain ⟨u0, u1, u2, rfl, c0, c1, c2⟩ := cells3 h0
      simpa [Addr.add] using World.cell?_spot c0
    subst hs
    have key : ∀ i, ∃ q : Int × Int × Int, i < n → w.cell? ⟨b, off + i * 3, none⟩ = some (.int .i64 q.1) ∧ w.cell? ⟨b, off + i * 3 + 1, none⟩ = some (.int .i64 q.2.1) ∧ w.cell? ⟨b, off + i * 3 + 2, none⟩ = some (.int .i64 q.2.2) := by
      intro i
      by_cases hi : i < n
      · obtain ⟨csi, h1, h2⟩ := hel i (by omega)
        rw [hc] at h1
        obtain ⟨u0, u1, u2, rfl, c0, c1, c2⟩ := cells3 h1
        obtain ⟨k, -, hF⟩ := trod_fields he h2
        have hj : ∀ j, j < 3 → ∃ f, fs.toList[j]? = some f ∧ f.type = g ∧ f.offset = j := fun j hj => by
          have e1 : (fs.toList.map (fun f => (f.type, f.offset)))[j]? = [(g, 0), (g, 1), (g, 2)][j]? := by rw [hfs]
          rw [List.getElem?_map] at e1
          match j, hj with
          | 0, _ =>
            cases hh : fs.toList[0]? with
            | none => rw [hh] at e1; simp at e1
            | some f => rw [hh] at e1; simp at e1; exact ⟨f, rfl, e1.1, e1.2⟩
          | 1, _ =>
            cases hh : fs.toList[1]? with
            | none => rw [hh] at e1; simp at e1
            | some f => rw [hh] at e1; simp at e1; exact ⟨f, rfl, e1.1, e1.2⟩
          | 2, _ =>
            cases hh : fs.toList[2]? with
            | none => rw [hh] at e1; simp at e1
            | some f => rw [hh] at e1; simp at e1; exact ⟨f, rfl, e1.1, e1.2⟩
        obtain ⟨f0, g0, t0, o0⟩ := hj 0 (by omega)
        obtain ⟨f1, g1, t1, o1⟩ := hj 1 (by omega)
        obtain ⟨f2, g2, t2, o2⟩ := hj 2 (by omega)
        obtain ⟨y0, k0⟩ := hF 0 f0 g0
        obtain ⟨y1, k1⟩ := hF 1 f1 g1
        obtain ⟨y2, k2⟩ := hF 2 f2 g2
        rw [t0, o0, hcg] at k0
        rw [t1, o1, hcg] at k1
        rw [t2, o2, hcg] at k2
        obtain ⟨z0, e0, -⟩ := raw_int hg k0
        obtain ⟨z1, e1, -⟩ := raw_int hg k1
        obtain ⟨z2, e2, -⟩ := raw_int hg k2
        simp at e0 e1 e2
        subst e0
        subst e1
        subst e2
        rw [addN] at c0 c1 c2
        rw [addN] at c1 c2
        exact ⟨(z0, z1, z2), fun _ => ⟨c0, c1, c2⟩⟩
      · exact ⟨(0, 0, 0), fun hh => absurd hh hi⟩
    obtain ⟨q, hq⟩ := Classical.skolem.1 key
    refine ⟨some ⟨b, off, none⟩, n, cap, fun i => if i % 3 = 0 then (q (i / 3)).1 else if i % 3 = 1 then (q (i / 3)).2.1 else (q (i / 3)).2.2, rfl, by unfold maxLen at hm; omega, hl, fun i hi => ?_⟩
    obtain ⟨h0, h1, h2⟩ := hq (i / 3) (by omega)
    refine ⟨b, off, rfl, ?_⟩
    show _ = some (Value.int .i64 (if i % 3 = 0 then (q (i / 3)).1 else if i % 3 = 1 then (q (i / 3)).2.1 else (q (i / 3)).2.2))
    have hm3 : i % 3 = 0 ∨ i % 3 = 1 ∨ i % 3 = 2 := by omega
    rcases hm3 with e | e | e
    · rw [if_pos e, ← h0, show off + i = off + i / 3 * 3 by omega]
    · rw [if_neg (by omega), if_pos e, ← h1, show off + i = off + i / 3 * 3 + 1 by omega]
    · rw [if_neg (by omega), if_neg (by omega), ← h2, show off + i = off + i / 3 * 3 + 2 by omega]
end
end Go.Proofs.Ytmccplbfggcogaa
