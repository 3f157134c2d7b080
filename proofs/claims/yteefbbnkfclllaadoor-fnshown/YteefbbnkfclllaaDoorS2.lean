/-
  Contracts over images: sizes, copies, comparisons, marks of the struct with its one field.
-/
import Derived.Test.YteefbbnkfclllaaDoorM2
namespace Go.Proofs.YteefbbnkfclllaaDoor
open Go.ChangeShapes Go.WideShapes Go.ChangeAt Go.RowKit
structure RawSS (w : World) (v : Value) (m : Nat) (ra : Nat → Option Addr) (ln rc : Nat → Nat) (f : Nat → Nat → Int) : Prop where
  outer : ∃ a cap, v = .slice a m cap ∧ m ≤ 9223372036854775807 ∧ ∀ i, i < m → ∃ b off, a = some ⟨b, off, none⟩ ∧ w.cell? ⟨b, off + i, none⟩ = some (.slice (ra i) (ln i) (rc i))
  rows : ∀ i, i < m → ln i ≤ 9223372036854775807 ∧ RowOf .i64 w (ra i) (ln i) (f i) ∧ ∀ j, j < ln i → (Lit.int .i64 (f i j)).wf = true
theorem psum_le (ln : Nat → Nat) {i m : Nat} (h : i < m) : ln i ≤ psum ln m := by
  have := psum_mono ln (show i + 1 ≤ m from h)
  have e : psum ln (i + 1) = psum ln i + ln i := rfl
  omega
theorem RawSS.ints {w : World} {v : Value} {m : Nat} {ra : Nat → Option Addr} {ln rc : Nat → Nat} {f : Nat → Nat → Int} (h : RawSS w v m ra ln rc f) (hs : m + psum ln m ≤ 1048576) : IntSS .i64 w (fun b _ => b < w.heap.size) v m ln f := by
  obtain ⟨⟨a, cap, hv, hm, ho⟩, hr⟩ := h
  refine ⟨a, cap, hv, by omega, fun b o hF => ?_, fun i hi => ?_⟩
  · obtain ⟨off, rfl, h1, h2⟩ := hF
    obtain ⟨b', off', e, hcell⟩ := ho (o - off) (by omega)
    simp only [Option.some.injEq, Addr.mk.injEq, and_true] at e
    obtain ⟨rfl, rfl⟩ := e
    exact block_lt_of_cell hcell
  · obtain ⟨b, off, ha, hc⟩ := ho i hi
    exact ⟨b, off, _, ha, hc, ra i, rc i, rfl, by have := psum_le ln hi; omega, (hr i hi).2.1, fun b o h => (hr i hi).2.1.lt h⟩
theorem RawSS.below {w w' : World} {v : Value} {m : Nat} {ra : Nat → Option Addr} {ln rc : Nat → Nat} {f : Nat → Nat → Int} (h : RawSS w v m ra ln rc f) (hb : Below w.heap.size w w') : RawSS w' v m ra ln rc f := by
  obtain ⟨⟨a, cap, hv, hm, ho⟩, hr⟩ := h
  refine ⟨⟨a, cap, hv, hm, fun i hi => ?_⟩, fun i hi => ⟨(hr i hi).1, (hr i hi).2.1.keep (wrote_below hb Nowhere) (fun _ _ _ x => x), (hr i hi).2.2⟩⟩
  obtain ⟨b, off, ha, hc⟩ := ho i hi
  exact ⟨b, off, ha, (hb.cell (p := ⟨b, off + i, none⟩) (block_lt_of_cell hc)).trans hc⟩
theorem Rows2.keep {w w' : World} {R : Nat → Nat → Prop} {b0 m : Nat} {ln : Nat → Nat} {f : Nat → Nat → Int} (h : Rows2 w b0 m ln f) (hw : Wrote R w w') (hd : ∀ b o, b0 ≤ b → b < b0 + 1 + m → ¬ R b o) : Rows2 w' b0 m ln f :=
  ⟨h.outer.of_block (hw.block _ h.outer.lt (fun o => hd _ o (by omega) (by omega))), fun i hi => (h.inner i hi).of_block (hw.block _ (h.inner i hi).lt (fun o => hd _ o (by omega) (by omega)))⟩
theorem Rows2.rowOf {w : World} {b0 m : Nat} {ln : Nat → Nat} {f : Nat → Nat → Int} (h : Rows2 w b0 m ln f) (i : Nat) (hi : i < m) : RowOf .i64 w (some ⟨b0 + 1 + i, 0, none⟩) (ln i) (f i) := fun j hj =>
  ⟨b0 + 1 + i, 0, rfl, by rw [Nat.zero_add]; exact (h.inner i hi).cell hj⟩
theorem Rows2.ints {w : World} {b0 m : Nat} {ln : Nat → Nat} {f : Nat → Nat → Int} (h : Rows2 w b0 m ln f) (hm : m + psum ln m ≤ 1048576) : IntSS .i64 w (fun b _ => b0 ≤ b ∧ b < b0 + 1 + m) (.slice (some ⟨b0, 0, none⟩) m m) m ln f := by
  refine ⟨_, _, rfl, by omega, fun b o hF => ?_, fun i hi => ⟨b0, 0, _, rfl, by rw [Nat.zero_add]; exact h.outer.cell hi, _, _, rfl, by have := psum_le ln hi; omega, h.rowOf i hi, fun b o hF => ?_⟩⟩
  · obtain ⟨off, e, _⟩ := hF
    simp only [Option.some.injEq, Addr.mk.injEq, and_true] at e
    omega
  · obtain ⟨off, e, _⟩ := hF
    simp only [Option.some.injEq, Addr.mk.injEq, and_true] at e
    omega
theorem Rows2.sep {w : World} {b0 m : Nat} {ln : Nat → Nat} {f : Nat → Nat → Int} (h : Rows2 w b0 m ln f) (hm : m + psum ln m ≤ 1048576) : Sep w (.slice (some ⟨b0, 0, none⟩) m m) m (fun i => some ⟨b0 + 1 + i, 0, none⟩) ln ln := by
  refine ⟨⟨_, _, rfl, by omega, fun i hi => ⟨b0, 0, rfl, by rw [Nat.zero_add]; exact h.outer.cell hi, fun j hj hF => ?_⟩⟩, fun i hi b o hF => ?_, fun i j hi hj hij b o hF hG => ?_, by omega⟩
  · obtain ⟨off, e, _⟩ := hF
    simp only [Option.some.injEq, Addr.mk.injEq, and_true] at e
    omega
  · obtain ⟨off, e, _⟩ := hF
    simp only [Option.some.injEq, Addr.mk.injEq, and_true] at e
    obtain ⟨rfl, rfl⟩ := e
    exact ⟨(h.inner i hi).lt, (h.inner i hi).frozen o⟩
  · obtain ⟨off, e, _⟩ := hF
    obtain ⟨off', e', _⟩ := hG
    simp only [Option.some.injEq, Addr.mk.injEq, and_true] at e e'
    omega
def inB (x lo hi : Int) : Bool := decide (lo ≤ x) && decide (x ≤ hi)
theorem inB_iff (x lo hi : Int) : inB x lo hi = true ↔ lo ≤ x ∧ x ≤ hi := by simp [inB]
theorem inB_yes {x lo hi : Int} (h : lo ≤ x ∧ x ≤ hi) : inB x lo hi = true := (inB_iff x lo hi).2 h
theorem inB_no {x lo hi : Int} (h : ¬ (lo ≤ x ∧ x ≤ hi)) : inB x lo hi = false := by
  cases e : inB x lo hi
  · rfl
  · exact absurd ((inB_iff x lo hi).1 e) h
def okBank (n : Nat) (g : Nat → Int) : Bool := decide (n = 256 ∧ ∀ j, j < n → inB (g j) 0 255 = true)
theorem okBank_len {n : Nat} {g : Nat → Int} (h : ¬ n = 256) : okBank n g = false := decide_eq_false (fun x => h x.1)
theorem okBank_byte {n j : Nat} {g : Nat → Int} (hj : j < 256) (h : ¬ (0 ≤ g j ∧ g j ≤ 255)) : okBank n g = false := decide_eq_false (fun x => h ((inB_iff _ _ _).1 (x.2 j (by omega))))
theorem okBank_yes {n : Nat} {g : Nat → Int} (h : n = 256) (h2 : ∀ j, j < 256 → 0 ≤ g j ∧ g j ≤ 255) : okBank n g = true := decide_eq_true ⟨h, fun j hj => inB_yes (h2 j (by omega))⟩
theorem okBank_of {n : Nat} {g : Nat → Int} (h : okBank n g = true) : n = 256 ∧ ∀ j, j < 256 → 0 ≤ g j ∧ g j ≤ 255 :=
  have x := of_decide_eq_true h
  ⟨x.1, fun j hj => (inB_iff _ _ _).1 (x.2 j (by omega))⟩
def okImg (m : Nat) (ln : Nat → Nat) (f : Nat → Nat → Int) : Bool := decide ((∀ i, i < m → okBank (ln i) (f i) = true) ∧ 1 ≤ m ∧ m ≤ 8)
theorem okImg_no {m : Nat} {ln : Nat → Nat} {f : Nat → Nat → Int} {i : Nat} (hi : i < m) (h : okBank (ln i) (f i) = false) : okImg m ln f = false := decide_eq_false (fun x => by have := x.1 i hi; rw [h] at this; cases this)
theorem okImg_end {m : Nat} {ln : Nat → Nat} {f : Nat → Nat → Int} (h : ∀ i, i < m → okBank (ln i) (f i) = true) : okImg m ln f = inB m 1 8 := by
  by_cases c : 1 ≤ m ∧ m ≤ 8
  · rw [inB_yes (by omega)]
    exact decide_eq_true ⟨h, c⟩
  · rw [inB_no (by omega)]
    exact decide_eq_false (fun x => c x.2)
theorem oks_snoc {k : Nat} {ln : Nat → Nat} {f : Nat → Nat → Int} (h : ∀ i, i < k → okBank (ln i) (f i) = true) (hk : okBank (ln k) (f k) = true) : ∀ i, i < k + 1 → okBank (ln i) (f i) = true := fun j hj => by
  by_cases e : j = k
  · rw [e]; exact hk
  · exact h j (by omega)
theorem l1In (x lo hi : Int) (w : World) : Calls Tryd.prog 24 #[.int .i64 x, .int .i64 lo, .int .i64 hi] w fun e w' => e = .returned (.bool (inB x lo hi)) ∧ w' = w := by
  by_cases h1 : lo ≤ x
  · by_cases h2 : x ≤ hi
    · have e := hide (inB_yes ⟨h1, h2⟩)
      go_enter Tryd.func24, Tryd.ntmps24
      go_wp2
      go_ret
      exact ⟨ret_bool (unhide e).symm, rfl⟩
    · have e := hide (inB_no (x := x) (lo := lo) (hi := hi) (by omega))
      go_enter Tryd.func24, Tryd.ntmps24
      go_wp2
      go_ret
      exact ⟨ret_bool (unhide e).symm, rfl⟩
  · have h1' : decide (lo ≤ x) = false := decide_eq_false h1
    have e := hide (inB_no (x := x) (lo := lo) (hi := hi) (by omega))
    go_enter Tryd.func24, Tryd.ntmps24
    go_wp2
    go_ret
    exact ⟨ret_bool (unhide e).symm, rfl⟩
end Go.Proofs.YteefbbnkfclllaaDoor
