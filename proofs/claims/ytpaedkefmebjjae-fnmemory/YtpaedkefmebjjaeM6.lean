/-
  What is put is there: the numbers of Poke and Peek; where FnMemory stands.
-/
import Derived.Test.YtpaedkefmebjjaeY8
import Derived.Test.YtpaedkefmebjjaeI6d
import Derived.Test.YtpaedkefmebjjaeJ2
import Derived.Test.YtpaedkefmebjjaeV2
namespace Go.Proofs.Ytpaedkefmebjjae
set_option linter.unusedVariables false
open Go.ChangeShapes Go.WideShapes Go.ChangeAt Go.RowKit
theorem poke_no {m : Nat} {ok : Bool} {g : Nat → Int} {bank a y : Int} (h : ok = false) : pokeB ok m bank a y = bank ∧ pokeG ok g a y = g := by
  subst h
  exact ⟨if_neg (by simp), if_neg (by simp)⟩
theorem setAt_same (g : Nat → Int) (k : Nat) (x : Int) : setAt g k x k = x := if_pos rfl
theorem setAt_in {g : Nat → Int} {k : Nat} {x : Int} (h : ∀ j, j < 512 → 0 ≤ g j ∧ g j ≤ 255) (hx : 0 ≤ x ∧ x ≤ 255) : ∀ j, j < 512 → 0 ≤ setAt g k x j ∧ setAt g k x j ≤ 255 := fun j hj => by
  unfold setAt
  split
  · exact hx
  · exact h j hj
theorem poke_ram {m : Nat} {ln : Nat → Nat} {F : Nat → Nat → Int} {n : Nat} {g : Nat → Int} {bank x y : Int} (ok : okMem m ln F n g bank = true) (hr : rgN (x % 65536) = 1) :
    pokeB true m bank (x % 65536) y = bank ∧ pokeG true g (x % 65536) y = setAt g (rgP (x % 65536)).toNat (y % 256) ∧ peekV m ln F n (setAt g (rgP (x % 65536)).toNat (y % 256)) bank x = y % 256 := by
  obtain ⟨hI, hn, hb, hg⟩ := okMem_of ok
  have ok' : okMem m ln F n (setAt g (rgP (x % 65536)).toNat (y % 256)) bank = true := okMem_yes hI hn (inB_yes hb) (setAt_in hg (by omega))
  refine ⟨if_neg (by rw [hr]; simp), if_pos ⟨rfl, hr⟩, ?_⟩
  unfold peekV peekOf
  rw [ok', if_pos rfl, if_pos hr, setAt_same]
theorem poke_bank {m : Nat} {ln : Nat → Nat} {F : Nat → Nat → Int} {n : Nat} {g : Nat → Int} {bank x y : Int} {k : Nat} (ok : okMem m ln F n g bank = true) (hr : rgN (x % 65536) = 5 ∨ rgN (x % 65536) = 6) (hk : k < 256) :
    pokeB true m bank (x % 65536) y = y % 256 % (m : Int) ∧ pokeG true g (x % 65536) y = g ∧ peekV m ln F n g (y % 256 % (m : Int)) (32768 + (k : Int)) = F (bankIx m (y % 256)) k := by
  obtain ⟨hI, hn, hb, hg⟩ := okMem_of ok
  have hm := (okImg_of hI).2.1
  have y0 : 0 ≤ y % 256 % (m : Int) := Int.emod_nonneg _ (by omega)
  have y1 : y % 256 % (m : Int) < (m : Int) := Int.emod_lt_of_pos _ (by omega)
  have ok' : okMem m ln F n g (y % 256 % (m : Int)) = true := okMem_yes hI hn (inB_yes ⟨y0, by omega⟩) hg
  refine ⟨if_pos ⟨rfl, hr⟩, if_neg (by rcases hr with h | h <;> rw [h] <;> simp), ?_⟩
  have e1 : (32768 + (k : Int)) % 65536 = 32768 + (k : Int) := by omega
  have e2 : rgN (32768 + (k : Int)) = 5 ∧ rgP (32768 + (k : Int)) = (32768 + (k : Int)) % 256 := by
    rcases rg_all (32768 + (k : Int)) (by omega) (by omega) with h | h | h | h | h | h | h
    · omega
    · omega
    · omega
    · omega
    · omega
    · exact ⟨h.2.2.1, h.2.2.2⟩
    · omega
  unfold peekV peekOf
  rw [ok', if_pos rfl, e1, e2.1, if_neg (by decide), if_pos rfl, e2.2]
  have e3 : ((32768 + (k : Int)) % 256).toNat = k := by omega
  rw [e3]
  rfl
theorem poke_none {m : Nat} {ln : Nat → Nat} {F : Nat → Nat → Int} {n : Nat} {g : Nat → Int} {bank x y : Int} (hr : rgN (x % 65536) = 2 ∨ rgN (x % 65536) = 3 ∨ rgN (x % 65536) = 4 ∨ rgN (x % 65536) = 7) :
    pokeB true m bank (x % 65536) y = bank ∧ pokeG true g (x % 65536) y = g ∧ peekV m ln F n g bank x = 0 := by
  refine ⟨if_neg (by omega), if_neg (by omega), ?_⟩
  unfold peekV peekOf
  split
  · rw [if_neg (by omega), if_neg (by omega), if_neg (by omega)]
  · rfl
theorem own_intsT {w : World} {lo : Nat} {v : Value} {n : Nat} {f : Nat → Int} (h : OwnInts w lo v n f) : Ints .i64 w (fun _ _ => True) v n f := by
  obtain ⟨a, cap, rfl, hn, hr, hF, hL⟩ := h
  exact ⟨a, cap, rfl, hn, hr, fun b o h => trivial⟩
/-- Where FnMemory stands behind both answers: the boxes of the image, of the three memories, and what they hold. -/
structure MS (W : World) (p P Q : Nat) (va : Option Addr) (m vc : Nat) (qa : Option Addr) (n qc : Nat) (bank : Int) (ya : Option Addr) (yc : Nat) (za : Option Addr) (zc : Nat) (yb : Int) (ln : Nat → Nat) (F : Nat → Nat → Int) (g g' : Nat → Int) : Prop where
  b0 : W.heap[p]? = some (.cells #[.slice va m vc] 34 (0, 0))
  b1 : W.heap[p + 1]? = some (.cells #[.slice qa n qc, .int .i64 bank] 37 (0, 0))
  b7 : W.heap[P]? = some (.cells #[.slice ya n yc, .int .i64 yb] 37 (0, 0))
  b8 : W.heap[Q]? = some (.cells #[.slice za n zc, .int .i64 yb] 37 (0, 0))
  hi : IntSS .i64 W (fun _ _ => True) (.slice va m vc) m ln F
  hx : Ints .i64 W (fun _ _ => True) (.slice qa n qc) n g
  hy : Ints .i64 W (fun _ _ => True) (.slice ya n yc) n g'
  hz : Ints .i64 W (fun _ _ => True) (.slice za n zc) n g'
section
variable {W W' : World} {p P Q : Nat} {va : Option Addr} {m vc : Nat} {qa : Option Addr} {n qc : Nat} {bank : Int} {ya : Option Addr} {yc : Nat} {za : Option Addr} {zc : Nat} {yb : Int} {ln : Nat → Nat} {F : Nat → Nat → Int} {g g' : Nat → Int}
theorem MS.below (D : MS W p P Q va m vc qa n qc bank ya yc za zc yb ln F g g') (L : Below W.heap.size W W') : MS W' p P Q va m vc qa n qc bank ya yc za zc yb ln F g g' :=
  ⟨box_keep D.b0 L (boxLt D.b0), box_keep D.b1 L (boxLt D.b1), box_keep D.b7 L (boxLt D.b7), box_keep D.b8 L (boxLt D.b8), D.hi.keep (wrote_below L Nowhere) (fun _ _ _ x => x), D.hx.keep (wrote_below L Nowhere) (fun _ _ _ x => x), D.hy.keep (wrote_below L Nowhere) (fun _ _ _ x => x), D.hz.keep (wrote_below L Nowhere) (fun _ _ _ x => x)⟩
theorem MS.drew (D : MS W p P Q va m vc qa n qc bank ya yc za zc yb ln F g g') : MS W.drew p P Q va m vc qa n qc bank ya yc za zc yb ln F g g' := D.below ⟨rfl, rfl, rfl, Nat.le_refl _, fun _ _ => rfl⟩
theorem MS.cells (D : MS W p P Q va m vc qa n qc bank ya yc za zc yb ln F g g') : W.cell? ⟨p, 0, none⟩ = some (.slice va m vc) ∧ W.cell? ⟨p + 1, 0, none⟩ = some (.slice qa n qc) ∧ W.cell? ⟨p + 1, 1, none⟩ = some (.int .i64 bank) ∧ W.cell? ⟨P, 0, none⟩ = some (.slice ya n yc) ∧ W.cell? ⟨P, 1, none⟩ = some (.int .i64 yb) ∧ W.cell? ⟨Q, 0, none⟩ = some (.slice za n zc) ∧ W.cell? ⟨Q, 1, none⟩ = some (.int .i64 yb) :=
  ⟨boxC D.b0 0, boxC D.b1 0, boxC D.b1 1, boxC D.b7 0, boxC D.b7 1, boxC D.b8 0, boxC D.b8 1⟩
end
end Go.Proofs.Ytpaedkefmebjjae
