/-
  The specification's BankOf: a new list of the bytes of the bank that n leads to, or nothing.
-/
import Derived.Test.YtmccplbfggcogaaO
import Derived.Deep.RegionLawGrows
import Derived.Deep.RegionWith
import Derived.Deep.RegionHeld3
import Derived.Deep.AppendLies
namespace Go.Proofs.Ytmccplbfggcogaa
open Go.ChangeShapes Go.WideShapes Go.ChangeAt Go.RowKit
structure OwnInts (w : World) (lo : Nat) (v : Value) (n : Nat) (f : Nat → Int) : Prop where
  ex : ∃ a cap, v = .slice a n cap ∧ n ≤ 1048576 ∧ RowOf .i64 w a n f ∧ Free w (Foot a n) ∧ ∀ b o, Foot a n b o → lo ≤ b
def rowVals (n : Nat) (g : Nat → Int) : List Value := (List.range n).map (fun i => .int .i64 (g i))
theorem rowVals_len (n : Nat) (g : Nat → Int) : (rowVals n g).length = n := by simp [rowVals]
theorem rowVals_get (n : Nat) (g : Nat → Int) (j : Nat) (h : j < n) : (rowVals n g)[j]? = some (.int .i64 (g j)) := by simp [rowVals, h]
theorem rowVals_one (n : Nat) (g : Nat → Int) : ∀ u ∈ rowVals n g, u.oneCell' = true := fun u hu => by
  simp only [rowVals, List.mem_map] at hu
  obtain ⟨i, _, rfl⟩ := hu
  rfl
theorem add_at (b off j : Nat) : (⟨b, off, none⟩ : Addr).add j = ⟨b, off + j, none⟩ := by
  unfold Addr.add
  split
  · rename_i h
    subst h
    rfl
  · rfl
theorem rowVals_cells {w : World} {b off n : Nat} {g : Nat → Int} (h : RowOf .i64 w (some ⟨b, off, none⟩) n g) : ∀ j u, (rowVals n g)[j]? = some u → w.cell? ((⟨b, off, none⟩ : Addr).add j) = some u := fun j u hu => by
  have hj : j < n := by
    have := List.getElem?_eq_some_iff.1 hu
    obtain ⟨hl, _⟩ := this
    rw [rowVals_len] at hl
    exact hl
  rw [rowVals_get n g j hj] at hu
  obtain ⟨b', off', e, hc⟩ := h j hj
  simp only [Option.some.injEq, Addr.mk.injEq, and_true] at e hu
  obtain ⟨rfl, rfl⟩ := e
  rw [add_at, hc, hu]
theorem own_row {w : World} {base lo n cap g : Nat} {f : Nat → Int} (h : w.ownsRow base 3 1 (.slice (some ⟨g, 0, none⟩) n cap) n (rowVals n f)) (hg : lo ≤ g) (hlt : g < w.heap.size) (hn : n ≤ 1048576) : OwnInts w lo (.slice (some ⟨g, 0, none⟩) n cap) n f :=
  ⟨_, cap, rfl, hn, fun i hi => ⟨g, 0, rfl, by rw [Nat.zero_add, h.cellAt i (by omega), rowVals_get n f i hi]⟩, fun b o hF => by
    obtain ⟨off, e, _⟩ := hF
    simp only [Option.some.injEq, Addr.mk.injEq, and_true] at e
    obtain ⟨rfl, rfl⟩ := e
    exact ⟨hlt, h.frozenAt o⟩, fun b o hF => by
    obtain ⟨off, e, _⟩ := hF
    simp only [Option.some.injEq, Addr.mk.injEq, and_true] at e
    omega⟩
theorem foot_none (a : Option Addr) (b o : Nat) : ¬ Foot a 0 b o := fun ⟨_, _, _, _⟩ => by omega
end Go.Proofs.Ytmccplbfggcogaa
