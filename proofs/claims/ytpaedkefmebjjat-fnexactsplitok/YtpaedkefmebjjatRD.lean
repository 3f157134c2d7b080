/-
  Lists of records that a call owns: copied by append to an empty list, and one record more; chapter 13 of the specification by its contracts.
-/
import Derived.Test.YtpaedkefmebjjatRC
import Derived.Test.YtpaedkefmebjjatG0
import Derived.ArgAppend
import Derived.Deep.AppendLies
import Derived.Deep.Upon
namespace Go.Proofs.Ytpaedkefmebjjat
set_option linter.unusedVariables false
set_option linter.unusedSimpArgs false
open Go.ChangeShapes Go.WideShapes Go.ChangeAt Go.RowKit Go.Sort
def recVals (m : Nat) (f : Nat → Int) : List Value := (List.range m).map (fun i => .int .i64 (f i))
theorem recVals_get {m j : Nat} (f : Nat → Int) (hj : j < m) : (recVals m f)[j]? = some (.int .i64 (f j)) := by unfold recVals; simp [hj]
/-- The list of n records that begins a block g, which the call has made. -/
structure RcRow (W : World) (lo g n c : Nat) (f : Nat → Int) : Prop where
  own : W.ownsRow lo 75 3 (.slice (some ⟨g, 0, none⟩) n c) n (recVals (n * 3) f)
  small : n ≤ 1048576
section
variable {R : Nat → Nat → Prop} {W W' : World} {lo g n c : Nat} {f : Nat → Int}
theorem RcRow.parts (h : RcRow W lo g n c f) : lo ≤ g ∧ g < W.heap.size ∧ n ≤ c ∧ ∃ cur, W.heap[g]? = some (.cells cur 75 (0, 0)) ∧ cur.size = c * 3 ∧ ∀ j, j < n * 3 → cur[j]? = some (.int .i64 (f j)) := by
  rcases h.own.2 with ⟨e, _⟩ | ⟨g', cap, cur, hv, hb, hg, h1, h2, h3, h4⟩
  · cases e
  · simp only [Value.slice.injEq, Option.some.injEq, Addr.mk.injEq, and_true, true_and] at hv
    obtain ⟨rfl, rfl⟩ := hv
    refine ⟨hb, boxLt hg, h1, cur, hg, h3, fun j hj => ?_⟩
    have := recVals_get f hj
    rw [← h4, List.getElem?_take, if_pos hj, Array.getElem?_toList] at this
    exact this
theorem RcRow.on (h : RcRow W lo g n c f) {D : Nat → Prop} (hd : D g) : RsOn W D (.slice (some ⟨g, 0, none⟩) n c) n f := by
  obtain ⟨h1, h2, h3, cur, h4, h5, h6⟩ := h.parts
  refine ⟨_, _, rfl, ⟨h.small, h3⟩, fun j hj => ⟨g, 0, rfl, ?_⟩, fun b o hF => ?_, fun b o hF => ?_⟩
  · rw [Nat.zero_add, boxC h4]
    exact h6 j hj
  · obtain ⟨off, e, _, _⟩ := hF
    simp only [Option.some.injEq, Addr.mk.injEq, and_true] at e
    obtain ⟨rfl, rfl⟩ := e
    exact ⟨h2, boxF h4 o⟩
  · obtain ⟨off, e, _, _⟩ := hF
    simp only [Option.some.injEq, Addr.mk.injEq, and_true] at e
    rw [← e.1]
    exact hd
theorem RcRow.keep (h : RcRow W lo g n c f) (hw : Wrote R W W') (hd : ∀ o, ¬ R g o) : RcRow W' lo g n c f := by
  refine ⟨⟨h.own.1, ?_⟩, h.small⟩
  rcases h.own.2 with ⟨e, _⟩ | ⟨g', cap, cur, hv, hb, hg, r⟩
  · cases e
  · have hv' := hv
    simp only [Value.slice.injEq, Option.some.injEq, Addr.mk.injEq, and_true, true_and] at hv'
    obtain ⟨rfl, rfl⟩ := hv'
    exact Or.inr ⟨g, c, cur, rfl, hb, (hw.block g (boxLt hg) hd).trans hg, r⟩
theorem RcRow.below (h : RcRow W lo g n c f) (L : Below W.heap.size W W') : RcRow W' lo g n c f := h.keep (wrote_below L Nowhere) (fun _ x => x)
theorem RcRow.mono {lo' : Nat} (h : RcRow W lo g n c f) (hl : lo' ≤ lo) : RcRow W lo' g n c f := by
  refine ⟨⟨h.own.1, ?_⟩, h.small⟩
  rcases h.own.2 with ⟨e, _⟩ | ⟨g', cap, cur, hv, hb, r⟩
  · cases e
  · exact Or.inr ⟨g', cap, cur, hv, by omega, r⟩
end
end Go.Proofs.Ytpaedkefmebjjat
