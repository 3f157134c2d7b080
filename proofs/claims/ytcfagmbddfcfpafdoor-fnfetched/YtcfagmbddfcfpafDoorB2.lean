/-
  The specification's BankOf: a new list of the bytes of the bank that n leads to, or nothing.
-/
import Derived.Test.YtcfagmbddfcfpafDoorO
import Derived.Deep.RegionLawGrows
import Derived.Deep.RegionWith
import Derived.Deep.RegionHeld3
import Derived.Deep.AppendLies
import Derived.Lib.SlBytesConst
namespace Go.Proofs.YtcfagmbddfcfpafDoor
open Go.ChangeShapes Go.WideShapes Go.ChangeAt Go.RowKit
structure OwnInts (w : World) (lo : Nat) (v : Value) (n : Nat) (f : Nat → Int) : Prop where
  ex : ∃ a cap, v = .slice a n cap ∧ n ≤ 1048576 ∧ RowOf .i64 w a n f ∧ Free w (Foot a n) ∧ ∀ b o, Foot a n b o → lo ≤ b
theorem okImg_of {m : Nat} {ln : Nat → Nat} {f : Nat → Nat → Int} (h : okImg m ln f = true) : (∀ i, i < m → okBank (ln i) (f i) = true) ∧ 1 ≤ m ∧ m ≤ 8 := of_decide_eq_true h
def rowVals (n : Nat) (g : Nat → Int) : List Value := (List.range n).map (fun i => .int .i64 (g i))
theorem rowVals_len (n : Nat) (g : Nat → Int) : (rowVals n g).length = n := by simp [rowVals]
theorem rowVals_get (n : Nat) (g : Nat → Int) (j : Nat) (h : j < n) : (rowVals n g)[j]? = some (.int .i64 (g j)) := by simp [rowVals, h]
theorem add_at (b off j : Nat) : (⟨b, off, none⟩ : Addr).add j = ⟨b, off + j, none⟩ := by
  unfold Addr.add
  split
  · rename_i h
    subst h
    rfl
  · rfl
theorem foot_none (a : Option Addr) (b o : Nat) : ¬ Foot a 0 b o := fun ⟨_, _, _, _⟩ => by omega
end Go.Proofs.YtcfagmbddfcfpafDoor
namespace Go.Proofs.YtcfagmbddfcfpafDoor
open Go.ChangeShapes Go.WideShapes Go.ChangeAt Go.RowKit
def vals (k : IntKind) (n : Nat) (g : Nat → Int) : List Value := (List.range n).map (fun i => .int k (g i))
def flat (f : Nat → Nat → Int) (j : Nat) : Int := f (j / 256) (j % 256)
def imgF (m : Nat) (f : Nat → Nat → Int) (s : Int) (j : Nat) : Int := if j = 0 then 50 else if j = 1 then 67 else if j = 2 then 76 else if j = 3 then 75 else if j = 4 then m else if j = 5 then s else flat f (j - 6)
theorem new_row (w : World) (C : Array Value) (t : TypeId) (fr : Nat × Nat) (n : Nat) (hn : n = w.heap.size) : ∀ j u, C.toList[j]? = some u → (w.alloc (.cells C t fr)).cell? ((⟨n, 0, none⟩ : Addr).add j) = some u := by
  subst hn
  exact World.news_of_block (t := t) (fr := fr) (by show (w.heap.push _)[w.heap.size]? = _; simp)
end Go.Proofs.YtcfagmbddfcfpafDoor
