/-
  The specification's BankOf: a new list of the bytes of the bank that n leads to, or nothing.
-/
import Derived.Test.YteefbbnkfclllaaDoorO
import Derived.Deep.RegionLawGrows
import Derived.Deep.RegionWith
import Derived.Deep.RegionHeld3
import Derived.Deep.AppendLies
namespace Go.Proofs.YteefbbnkfclllaaDoor
open Go.ChangeShapes Go.WideShapes Go.ChangeAt Go.RowKit
def bankIx (m : Nat) (n : Int) : Nat := (n % (m : Int)).toNat
theorem bankIx_lt {m : Nat} (n : Int) (h : 1 ≤ m) : bankIx m n < m := by
  unfold bankIx
  have := Int.emod_nonneg n (show (m : Int) ≠ 0 by omega)
  have := Int.emod_lt_of_pos n (show (0 : Int) < m by omega)
  omega
theorem tmod_cases (n : Int) (m : Int) : (0 ≤ n ∧ n.tmod m = n % m) ∨ (n < 0 ∧ n.tmod m = -((-n) % m)) := by
  by_cases h : 0 ≤ n
  · exact Or.inl ⟨h, Int.tmod_eq_emod_of_nonneg h⟩
  · refine Or.inr ⟨by omega, ?_⟩
    have e : n = -(-n) := by omega
    rw [e, Int.neg_tmod, Int.tmod_eq_emod_of_nonneg (by omega)]
    simp
theorem bankIx_eq {m : Nat} (n : Int) (h : 1 ≤ m) (h8 : m ≤ 8) : -8 < n.tmod m ∧ n.tmod m < 8 ∧ (n.tmod m + m).tmod m = (bankIx m n : Int) := by
  unfold bankIx
  have h1 := Int.emod_nonneg n (show (m : Int) ≠ 0 by omega)
  rw [Int.toNat_of_nonneg h1]
  have hm : m = 1 ∨ m = 2 ∨ m = 3 ∨ m = 4 ∨ m = 5 ∨ m = 6 ∨ m = 7 ∨ m = 8 := by omega
  rcases tmod_cases n m with ⟨h0, e⟩ | ⟨h0, e⟩ <;> rw [e] <;> rcases hm with rfl | rfl | rfl | rfl | rfl | rfl | rfl | rfl <;> refine ⟨by omega, by omega, ?_⟩ <;> rw [Int.tmod_eq_emod_of_nonneg (by omega)] <;> omega
structure OwnInts (w : World) (lo : Nat) (v : Value) (n : Nat) (f : Nat → Int) : Prop where
  ex : ∃ a cap, v = .slice a n cap ∧ n ≤ 1048576 ∧ RowOf .i64 w a n f ∧ Free w (Foot a n) ∧ ∀ b o, Foot a n b o → lo ≤ b
def bankLen (m : Nat) (ln : Nat → Nat) (f : Nat → Nat → Int) : Nat := if okImg m ln f then 256 else 0
theorem okImg_of {m : Nat} {ln : Nat → Nat} {f : Nat → Nat → Int} (h : okImg m ln f = true) : (∀ i, i < m → okBank (ln i) (f i) = true) ∧ 1 ≤ m ∧ m ≤ 8 := of_decide_eq_true h
theorem below_alloc_of {w w' : World} {X : Prop} (h : Below w.heap.size w w' ∧ X) (o : Obj) : Below w.heap.size w (w'.alloc o) := h.1.alloc h.1.size o
theorem below_of {w w' : World} {X : Prop} (h : Below w.heap.size w w' ∧ X) : Below w.heap.size w w' := h.1
theorem below_grown_of {w w' w'' : World} {X : Prop} (h : Below w.heap.size w w' ∧ X) (hg : w'.grownBy w'' none) : Below w.heap.size w w'' := h.1.grown hg h.1.size (fun _ e => by cases e)
def rowVals (n : Nat) (g : Nat → Int) : List Value := (List.range n).map (fun i => .int .i64 (g i))
theorem rowVals_len (n : Nat) (g : Nat → Int) : (rowVals n g).length = n := by simp [rowVals]
theorem rowVals_get (n : Nat) (g : Nat → Int) (j : Nat) (h : j < n) : (rowVals n g)[j]? = some (.int .i64 (g j)) := by simp [rowVals, h]
theorem rowVals_one (n : Nat) (g : Nat → Int) : ∀ u ∈ rowVals n g, u.oneCell' = true := fun u hu => by
  simp only [rowVals, List.mem_map] at hu
  obtain ⟨i, _, rfl⟩ := hu
  rfl
theorem add_at (b off j : Nat) : (⟨b, off, none⟩ : Addr).add j = ⟨b, off + j, none⟩ := by
  unfold Addr.add
  split
  · rename_i h
    subst h
    rfl
  · rfl
theorem rowVals_cells {w : World} {b off n : Nat} {g : Nat → Int} (h : RowOf .i64 w (some ⟨b, off, none⟩) n g) : ∀ j u, (rowVals n g)[j]? = some u → w.cell? ((⟨b, off, none⟩ : Addr).add j) = some u := fun j u hu => by
  have hj : j < n := by
    have := List.getElem?_eq_some_iff.1 hu
    obtain ⟨hl, _⟩ := this
    rw [rowVals_len] at hl
    exact hl
  rw [rowVals_get n g j hj] at hu
  obtain ⟨b', off', e, hc⟩ := h j hj
  simp only [Option.some.injEq, Addr.mk.injEq, and_true] at e hu
  obtain ⟨rfl, rfl⟩ := e
  rw [add_at, hc, hu]
theorem own_row {w : World} {base lo n cap g : Nat} {f : Nat → Int} (h : w.ownsRow base 3 1 (.slice (some ⟨g, 0, none⟩) n cap) n (rowVals n f)) (hg : lo ≤ g) (hlt : g < w.heap.size) (hn : n ≤ 1048576) : OwnInts w lo (.slice (some ⟨g, 0, none⟩) n cap) n f :=
  ⟨_, cap, rfl, hn, fun i hi => ⟨g, 0, rfl, by rw [Nat.zero_add, h.cellAt i (by omega), rowVals_get n f i hi]⟩, fun b o hF => by
    obtain ⟨off, e, _⟩ := hF
    simp only [Option.some.injEq, Addr.mk.injEq, and_true] at e
    obtain ⟨rfl, rfl⟩ := e
    exact ⟨hlt, h.frozenAt o⟩, fun b o hF => by
    obtain ⟨off, e, _⟩ := hF
    simp only [Option.some.injEq, Addr.mk.injEq, and_true] at e
    omega⟩
theorem foot_none (a : Option Addr) (b o : Nat) : ¬ Foot a 0 b o := fun ⟨_, _, _, _⟩ => by omega
end Go.Proofs.YteefbbnkfclllaaDoor
