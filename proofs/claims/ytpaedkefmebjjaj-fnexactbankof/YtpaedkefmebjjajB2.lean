/-
  The specification's BankOf: a new list of the bytes of the bank that n leads to, or nothing.
-/
import Derived.Test.YtpaedkefmebjjajO
import Derived.Deep.RegionLawGrows
import Derived.Deep.RegionWith
import Derived.Deep.RegionHeld3
import Derived.Deep.AppendLies
namespace Go.Proofs.Ytpaedkefmebjjaj
open Go.ChangeShapes Go.WideShapes Go.ChangeAt Go.RowKit
def bankIx (m : Nat) (n : Int) : Nat := (n % (m : Int)).toNat
theorem bankIx_lt {m : Nat} (n : Int) (h : 1 ≤ m) : bankIx m n < m := by
  unfold bankIx
  have := Int.emod_nonneg n (show (m : Int) ≠ 0 by omega)
  have := Int.emod_lt_of_pos n (show (0 : Int) < m by omega)
  omega
theorem tmod_cases (n : Int) (m : Int) : (0 ≤ n ∧ n.tmod m = n % m) ∨ (n < 0 ∧ n.tmod m = -((-n) % m)) := by
  by_cases h : 0 ≤ n
  · exact Or.inl ⟨h, Int.tmod_eq_emod_of_nonneg h⟩
  · refine Or.inr ⟨by omega, ?_⟩
    have e : n = -(-n) := by omega
    rw [e, Int.neg_tmod, Int.tmod_eq_emod_of_nonneg (by omega)]
    simp
theorem bankIx_eq {m : Nat} (n : Int) (h : 1 ≤ m) (h8 : m ≤ 8) : -8 < n.tmod m ∧ n.tmod m < 8 ∧ (n.tmod m + m).tmod m = (bankIx m n : Int) := by
  unfold bankIx
  have h1 := Int.emod_nonneg n (show (m : Int) ≠ 0 by omega)
  rw [Int.toNat_of_nonneg h1]
  have hm : m = 1 ∨ m = 2 ∨ m = 3 ∨ m = 4 ∨ m = 5 ∨ m = 6 ∨ m = 7 ∨ m = 8 := by omega
  rcases tmod_cases n m with ⟨h0, e⟩ | ⟨h0, e⟩ <;> rw [e] <;> rcases hm with rfl | rfl | rfl | rfl | rfl | rfl | rfl | rfl <;> refine ⟨by omega, by omega, ?_⟩ <;> rw [Int.tmod_eq_emod_of_nonneg (by omega)] <;> omega
structure OwnInts (w : World) (lo : Nat) (v : Value) (n : Nat) (f : Nat → Int) : Prop where
  ex : ∃ a cap, v = .slice a n cap ∧ n ≤ 1048576 ∧ RowOf .i64 w a n f ∧ Free w (Foot a n) ∧ ∀ b o, Foot a n b o → lo ≤ b
theorem l2Bank (w : World) (v : Value) (a : Option Addr) (m cap : Nat) (n : Int) (hv : v = .slice a m cap) (h1 : 1 ≤ m) (h8 : m ≤ 8) :
    Calls Try.prog 35 #[.agg #[v], .int .i64 n] w fun e w' => e = .returned (.int .i64 (bankIx m n)) ∧ w' = w.alloc (.cells #[v] 29) := by
  subst hv
  obtain ⟨t1, t2, he⟩ := bankIx_eq n h1 h8
  go_enter Try.func35, Try.ntmps35
  go_wp2
  go_ret
  exact ⟨ret_int (by first | rfl | exact he), rfl⟩
def bankLen (m : Nat) (ln : Nat → Nat) (f : Nat → Nat → Int) : Nat := if okImg m ln f then 256 else 0
theorem okImg_of {m : Nat} {ln : Nat → Nat} {f : Nat → Nat → Int} (h : okImg m ln f = true) : (∀ i, i < m → okBank (ln i) (f i) = true) ∧ 1 ≤ m ∧ m ≤ 8 := of_decide_eq_true h
theorem below_alloc_of {w w' : World} {X : Prop} (h : Below w.heap.size w w' ∧ X) (o : Obj) : Below w.heap.size w (w'.alloc o) := h.1.alloc h.1.size o
theorem below_of {w w' : World} {X : Prop} (h : Below w.heap.size w w' ∧ X) : Below w.heap.size w w' := h.1
theorem below_grown_of {w w' w'' : World} {X : Prop} (h : Below w.heap.size w w' ∧ X) (hg : w'.grownBy w'' none) : Below w.heap.size w w'' := h.1.grown hg h.1.size (fun _ e => by cases e)
def rowVals (n : Nat) (g : Nat → Int) : List Value := (List.range n).map (fun i => .int .i64 (g i))
theorem rowVals_len (n : Nat) (g : Nat → Int) : (rowVals n g).length = n := by simp [rowVals]
theorem rowVals_get (n : Nat) (g : Nat → Int) (j : Nat) (h : j < n) : (rowVals n g)[j]? = some (.int .i64 (g j)) := by simp [rowVals, h]
theorem rowVals_one (n : Nat) (g : Nat → Int) : ∀ u ∈ rowVals n g, u.oneCell' = true := fun u hu => by
  simp only [rowVals, List.mem_map] at hu
  obtain ⟨i, _, rfl⟩ := hu
  rfl
theorem add_at (b off j : Nat) : (⟨b, off, none⟩ : Addr).add j = ⟨b, off + j, none⟩ := by
  unfold Addr.add
  split
  · rename_i h
    subst h
    rfl
  · rfl
theorem rowVals_cells {w : World} {b off n : Nat} {g : Nat → Int} (h : RowOf .i64 w (some ⟨b, off, none⟩) n g) : ∀ j u, (rowVals n g)[j]? = some u → w.cell? ((⟨b, off, none⟩ : Addr).add j) = some u := fun j u hu => by
  have hj : j < n := by
    have := List.getElem?_eq_some_iff.1 hu
    obtain ⟨hl, _⟩ := this
    rw [rowVals_len] at hl
    exact hl
  rw [rowVals_get n g j hj] at hu
  obtain ⟨b', off', e, hc⟩ := h j hj
  simp only [Option.some.injEq, Addr.mk.injEq, and_true] at e hu
  obtain ⟨rfl, rfl⟩ := e
  rw [add_at, hc, hu]
theorem own_row {w : World} {base lo n cap g : Nat} {f : Nat → Int} (h : w.ownsRow base 3 1 (.slice (some ⟨g, 0, none⟩) n cap) n (rowVals n f)) (hg : lo ≤ g) (hlt : g < w.heap.size) (hn : n ≤ 1048576) : OwnInts w lo (.slice (some ⟨g, 0, none⟩) n cap) n f :=
  ⟨_, cap, rfl, hn, fun i hi => ⟨g, 0, rfl, by rw [Nat.zero_add, h.cellAt i (by omega), rowVals_get n f i hi]⟩, fun b o hF => by
    obtain ⟨off, e, _⟩ := hF
    simp only [Option.some.injEq, Addr.mk.injEq, and_true] at e
    obtain ⟨rfl, rfl⟩ := e
    exact ⟨hlt, h.frozenAt o⟩, fun b o hF => by
    obtain ⟨off, e, _⟩ := hF
    simp only [Option.some.injEq, Addr.mk.injEq, and_true] at e
    omega⟩
theorem foot_none (a : Option Addr) (b o : Nat) : ¬ Foot a 0 b o := fun ⟨_, _, _, _⟩ => by omega
theorem specBankOf (w : World) (F : Nat → Nat → Prop) (v : Value) (m : Nat) (ln : Nat → Nat) (f : Nat → Nat → Int) (n : Int) (H : IntSS .i64 w F v m ln f) :
    Calls Try.prog 20 #[.agg #[v], .int .i64 n] w fun e w' => ∃ u, e = .returned u ∧ OwnInts w' w.heap.size u (bankLen m ln f) (f (bankIx m n)) ∧ Below w.heap.size w w' := by
  have L0 : Below w.heap.size w (w.alloc (.cells #[v] 29)) := (Below.refl _ _).alloc (Nat.le_refl _) _
  have H0 := H.keep (wrote_below L0 Nowhere) (fun _ _ _ x => x)
  cases hok : okImg m ln f
  · have hbl : bankLen m ln f = 0 := by simp [bankLen, hok]
    rw [hbl]
    go_enter Try.func20, Try.ntmps20
    go_wp2_with fail
    refine (specImageOk _ F v m ln f H0).mono ?_
    rintro e w1 ⟨rfl, L1⟩
    rw [hok]
    go_wp2
    go_ret
    exact ⟨_, rfl, ⟨_, _, rfl, by omega, fun i hi => absurd hi (Nat.not_lt_zero _), fun b o hF => absurd hF (foot_none _ _ _), fun b o hF => absurd hF (foot_none _ _ _)⟩, (L0.trans (L1.mono (by simp))).alloc (Nat.le_trans (by simp) L1.size) _⟩
  · have hbl : bankLen m ln f = 256 := by simp [bankLen, hok]
    rw [hbl]
    obtain ⟨hbs, hm1, hm8⟩ := okImg_of hok
    go_enter Try.func20, Try.ntmps20
    go_wp2_with fail
    refine (specImageOk _ F v m ln f H0).mono ?_
    rintro e w1 ⟨rfl, L1⟩
    rw [hok]
    go_wp2_with fail
    have b1 : w1.cell? ⟨w.heap.size, 0, none⟩ = some v := (L1.cell (by simp)).trans (by go_simp)
    obtain ⟨a, cap, rfl, hm, -, hc⟩ := H0.keep (wrote_below L1 Nowhere) (fun _ _ _ x => x)
    obtain ⟨b, off, u, rfl, hcell, a', cap', rfl, hn', hrow, -⟩ := hc (bankIx m n) (bankIx_lt n hm1)
    have hl := (okBank_of (hbs _ (bankIx_lt n hm1))).1
    rw [hl] at hcell hrow
    obtain ⟨rb, ro, rfl, -⟩ := hrow 0 (by omega)
    have hix := bankIx_lt n hm1
    have hix' : (bankIx m n : Int) < (m : Int) := by omega
    have z1 : w.heap.size < w1.heap.size := by have := L1.size; simp at this; omega
    have z2 := block_lt_of_cell hcell
    have mk : ∀ w', Below w1.heap.size w1 w' → Below w1.heap.size w1 w' ∧ w'.cell? ⟨w.heap.size, 0, none⟩ = some (.slice (some ⟨b, off, none⟩) m cap) ∧ w'.cell? ⟨b, off + bankIx m n, none⟩ = some (.slice (some ⟨rb, ro, none⟩) 256 cap') := fun w' h => ⟨h, (h.cell z1).trans b1, (h.cell z2).trans hcell⟩
    have MK := hide mk
    have HR := hide hrow
    clear mk hrow hc hbs H0 H b1 hcell
    obtain ⟨i0, hi, hz0, hz1, hz2⟩ := info_parts info3
    go_region_held3 (fun w' => Below w1.heap.size w1 w' ∧ w'.cell? ⟨w.heap.size, 0, none⟩ = some (.slice (some ⟨b, off, none⟩) m cap) ∧ w'.cell? ⟨b, off + bankIx m n, none⟩ = some (.slice (some ⟨rb, ro, none⟩) 256 cap')) ((refine unhide MK _ ?_; first | assumption | exact below_alloc_of (by assumption) _ | exact (Below.refl _ _).drew)) (first | (refine step_append_grows rfl (.tmp 9) (.tmp 16) 38 rfl 3 i0 (.int .i64 0) 1 8 Try.underlying38 hi hz0 hz1 hz2 rfl (by decide) _ 0 0 [] rfl (fun _ => ⟨rfl, rfl⟩) rfl (fun _ _ j u h => by simp at h) ⟨rb, ro, none⟩ 256 cap' (rowVals 256 (f (bankIx m n))) rfl (by rw [rowVals_len]) (by exact rowVals_cells ((unhide HR).keep (wrote_below (below_of (by assumption)) Nowhere) (fun _ _ _ x => x))) (rowVals_one _ _) (by omega) (by decide) (by omega) ?_; intro v' w2 hown hgrow; obtain ⟨g, cap2, rfl, hg, hlt⟩ := hown.form (by omega); have LL := below_grown_of (w := w1) (by assumption) hgrow) | (go_at_call 35; refine (l2Bank _ _ _ m cap n rfl hm1 hm8).mono ?_; rintro e w' ⟨rfl, rfl⟩) | fail)
    all_goals
      go_wp2
      go_ret
      have hz := L1.size
      have hx := (below_of (by assumption) : Below w1.heap.size w1 w2)
      exact ⟨_, rfl, own_row hown (by simp at hg hz; omega) hlt (by omega), (L0.trans (L1.mono (by simp))).trans (hx.mono (by omega))⟩
end Go.Proofs.Ytpaedkefmebjjaj
