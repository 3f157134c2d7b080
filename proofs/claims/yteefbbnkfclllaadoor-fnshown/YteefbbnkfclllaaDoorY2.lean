/-
  The specification's ImageBytes: the file of an image that is one, in new memory; nothing of others.
-/
import Derived.Test.YteefbbnkfclllaaDoorB2
import Derived.Lib.SlBytesConst
namespace Go.Proofs.YteefbbnkfclllaaDoor
open Go.ChangeShapes Go.WideShapes Go.ChangeAt Go.RowKit
def vals (k : IntKind) (n : Nat) (g : Nat → Int) : List Value := (List.range n).map (fun i => .int k (g i))
theorem vals_len (k : IntKind) (n : Nat) (g : Nat → Int) : (vals k n g).length = n := by simp [vals]
theorem vals_get (k : IntKind) (n : Nat) (g : Nat → Int) (j : Nat) (h : j < n) : (vals k n g)[j]? = some (.int k (g j)) := by simp [vals, h]
theorem vals_succ (k : IntKind) (n : Nat) (g : Nat → Int) : vals k (n + 1) g = vals k n g ++ [.int k (g n)] := by simp [vals, List.range_succ]
theorem vals_congr (k : IntKind) (n : Nat) (g h : Nat → Int) (e : ∀ i, i < n → g i = h i) : vals k n g = vals k n h := by
  unfold vals
  exact List.map_congr_left (fun i hi => by rw [e i (List.mem_range.1 hi)])
def isum (g : Nat → Int) : Nat → Int
  | 0 => 0
  | n + 1 => isum g n + g n
theorem isum_le (g : Nat → Int) (n : Nat) (h : ∀ i, i < n → 0 ≤ g i ∧ g i ≤ 255) : 0 ≤ isum g n ∧ isum g n ≤ 255 * n := by
  induction n with
  | zero => simp [isum]
  | succ n ih =>
    have := ih (fun i hi => h i (by omega))
    have := h n (by omega)
    simp only [isum]
    omega
def flat (f : Nat → Nat → Int) (j : Nat) : Int := f (j / 256) (j % 256)
theorem flat_at (f : Nat → Nat → Int) (i k : Nat) (h : k < 256) : flat f (256 * i + k) = f i k := by
  unfold flat
  rw [show (256 * i + k) / 256 = i by omega, show (256 * i + k) % 256 = k by omega]
def imgF (m : Nat) (f : Nat → Nat → Int) (s : Int) (j : Nat) : Int := if j = 0 then 50 else if j = 1 then 67 else if j = 2 then 76 else if j = 3 then 75 else if j = 4 then m else if j = 5 then s else flat f (j - 6)
theorem vals_head (m : Nat) (f : Nat → Nat → Int) : ([.int .u8 50, .int .u8 67, .int .u8 76, .int .u8 75, .int .u8 m, .int .u8 0] : List Value) = vals .u8 6 (imgF m f 0) := rfl
theorem new_row (w : World) (C : Array Value) (t : TypeId) (fr : Nat × Nat) (n : Nat) (hn : n = w.heap.size) : ∀ j u, C.toList[j]? = some u → (w.alloc (.cells C t fr)).cell? ((⟨n, 0, none⟩ : Addr).add j) = some u := by
  subst hn
  exact World.news_of_block (t := t) (fr := fr) (by show (w.heap.push _)[w.heap.size]? = _; simp)
theorem past_row {w : World} {L : List Value} {n : Nat} (o : Obj) (h : ∀ j u, L[j]? = some u → w.cell? ((⟨n, 0, none⟩ : Addr).add j) = some u) (hn : n < w.heap.size) : ∀ j u, L[j]? = some u → (w.alloc o).cell? ((⟨n, 0, none⟩ : Addr).add j) = some u := fun j u hu => by
  rw [World.cell?_alloc_lt _ _ _ (by rw [add_at]; exact hn)]
  exact h j u hu
theorem flat_ok {m : Nat} {ln : Nat → Nat} {f : Nat → Nat → Int} (h : ∀ i, i < m → okBank (ln i) (f i) = true) (j : Nat) (hj : j < 256 * m) : 0 ≤ flat f j ∧ flat f j ≤ 255 :=
  (okBank_of (h (j / 256) (by omega))).2 (j % 256) (by omega)
theorem isum_step (f : Nat → Nat → Int) (q r : Nat) (h : r < 256) : isum (flat f) (256 * q + (r + 1)) = isum (flat f) (256 * q + r) + f q r := by
  rw [← flat_at f q r h]
  rfl
theorem imgF_at (m : Nat) (f : Nat → Nat → Int) (q r : Nat) (h : r < 256) : imgF m f 0 (6 + 256 * q + r) = f q r := by
  rw [← flat_at f q r h]
  unfold imgF
  rw [if_neg (by omega), if_neg (by omega), if_neg (by omega), if_neg (by omega), if_neg (by omega), if_neg (by omega)]
  congr 1
  omega
theorem own_snoc {w : World} {base e g n cap : Nat} {F : Nat → Int} {x : Int} (h : w.ownsRow base e 1 (.slice (some ⟨g, 0, none⟩) (n + 1) cap) (n + 1) (vals .u8 n F ++ [.int .u8 x])) (hx : F n = x) : w.ownsRow base e 1 (.slice (some ⟨g, 0, none⟩) (n + 1) cap) (n + 1) (vals .u8 (n + 1) F) := by
  rw [vals_succ, hx]
  exact h
theorem own_sum {w : World} {base e g m cap : Nat} {f : Nat → Nat → Int} {s : Int} (h : w.ownsRow base e 1 (.slice (some ⟨g, 0, none⟩) (6 + 256 * m) cap) (6 + 256 * m) (vals .u8 (6 + 256 * m) (imgF m f 0))) : (w.setCell ⟨g, 5, none⟩ (.int .u8 s)).ownsRow base e 1 (.slice (some ⟨g, 0, none⟩) (6 + 256 * m) cap) (6 + 256 * m) (vals .u8 (6 + 256 * m) (imgF m f s)) := by
  have e1 := (h.stored 5 (.int .u8 s)).1
  have e2 : (vals .u8 (6 + 256 * m) (imgF m f 0)).set 5 (.int .u8 s) = vals .u8 (6 + 256 * m) (imgF m f s) := by
    apply List.ext_getElem?
    intro j
    by_cases hj : j < 6 + 256 * m
    · rw [vals_get _ _ _ _ hj, List.getElem?_set]
      by_cases h5 : 5 = j
      · subst h5
        simp [vals_len, imgF]
        omega
      · rw [if_neg h5, vals_get _ _ _ _ hj]
        unfold imgF
        simp only [show ¬ j = 5 from fun h => h5 h.symm, if_false]
    · rw [List.getElem?_eq_none (by simp [vals_len]; omega), List.getElem?_eq_none (by simp [vals_len]; omega)]
  rw [e2] at e1
  exact e1
end Go.Proofs.YteefbbnkfclllaaDoor
