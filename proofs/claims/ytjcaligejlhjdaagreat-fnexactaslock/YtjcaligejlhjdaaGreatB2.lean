/-
  The specification's BankOf: a new list of the bytes of the bank that n leads to, or nothing.
-/
import Derived.Test.YtjcaligejlhjdaaGreatO
import Derived.Test.YtjcaligejlhjdaaGreatS2
import Derived.Deep.RegionLawGrows
import Derived.Deep.RegionWith
import Derived.Deep.RegionHeld3
import Derived.Deep.AppendLies
namespace Go.Proofs.YtjcaligejlhjdaaGreat
open Go.ChangeShapes Go.WideShapes Go.ChangeAt Go.RowKit
def bankIx (m : Nat) (n : Int) : Nat := (n % (m : Int)).toNat
theorem bankIx_lt {m : Nat} (n : Int) (h : 1 ≤ m) : bankIx m n < m := by
  unfold bankIx
  have := Int.emod_nonneg n (show (m : Int) ≠ 0 by omega)
  have := Int.emod_lt_of_pos n (show (0 : Int) < m by omega)
  omega
theorem tmod_cases (n : Int) (m : Int) : (0 ≤ n ∧ n.tmod m = n % m) ∨ (n < 0 ∧ n.tmod m = -((-n) % m)) := by
  by_cases h : 0 ≤ n
  · exact Or.inl ⟨h, Int.tmod_eq_emod_of_nonneg h⟩
  · refine Or.inr ⟨by omega, ?_⟩
    have e : n = -(-n) := by omega
    rw [e, Int.neg_tmod, Int.tmod_eq_emod_of_nonneg (by omega)]
    simp
theorem bankIx_eq {m : Nat} (n : Int) (h : 1 ≤ m) (h8 : m ≤ 8) : -8 < n.tmod m ∧ n.tmod m < 8 ∧ (n.tmod m + m).tmod m = (bankIx m n : Int) := by
  unfold bankIx
  have h1 := Int.emod_nonneg n (show (m : Int) ≠ 0 by omega)
  rw [Int.toNat_of_nonneg h1]
  have hm : m = 1 ∨ m = 2 ∨ m = 3 ∨ m = 4 ∨ m = 5 ∨ m = 6 ∨ m = 7 ∨ m = 8 := by omega
  rcases tmod_cases n m with ⟨h0, e⟩ | ⟨h0, e⟩ <;> rw [e] <;> rcases hm with rfl | rfl | rfl | rfl | rfl | rfl | rfl | rfl <;> refine ⟨by omega, by omega, ?_⟩ <;> rw [Int.tmod_eq_emod_of_nonneg (by omega)] <;> omega
structure OwnInts (w : World) (lo : Nat) (v : Value) (n : Nat) (f : Nat → Int) : Prop where
  ex : ∃ a cap, v = .slice a n cap ∧ n ≤ 1048576 ∧ RowOf .i64 w a n f ∧ Free w (Foot a n) ∧ ∀ b o, Foot a n b o → lo ≤ b
def rowVals (n : Nat) (g : Nat → Int) : List Value := (List.range n).map (fun i => .int .i64 (g i))
theorem rowVals_len (n : Nat) (g : Nat → Int) : (rowVals n g).length = n := by simp [rowVals]
theorem rowVals_get (n : Nat) (g : Nat → Int) (j : Nat) (h : j < n) : (rowVals n g)[j]? = some (.int .i64 (g j)) := by simp [rowVals, h]
theorem rowVals_one (n : Nat) (g : Nat → Int) : ∀ u ∈ rowVals n g, u.oneCell' = true := fun u hu => by
  simp only [rowVals, List.mem_map] at hu
  obtain ⟨i, _, rfl⟩ := hu
  rfl
theorem add_at (b off j : Nat) : (⟨b, off, none⟩ : Addr).add j = ⟨b, off + j, none⟩ := by
  unfold Addr.add
  split
  · rename_i h
    subst h
    rfl
  · rfl
theorem rowVals_cells {w : World} {b off n : Nat} {g : Nat → Int} (h : RowOf .i64 w (some ⟨b, off, none⟩) n g) : ∀ j u, (rowVals n g)[j]? = some u → w.cell? ((⟨b, off, none⟩ : Addr).add j) = some u := fun j u hu => by
  have hj : j < n := by
    have := List.getElem?_eq_some_iff.1 hu
    obtain ⟨hl, _⟩ := this
    rw [rowVals_len] at hl
    exact hl
  rw [rowVals_get n g j hj] at hu
  obtain ⟨b', off', e, hc⟩ := h j hj
  simp only [Option.some.injEq, Addr.mk.injEq, and_true] at e hu
  obtain ⟨rfl, rfl⟩ := e
  rw [add_at, hc, hu]
theorem own_row {w : World} {base lo n cap g : Nat} {f : Nat → Int} (h : w.ownsRow base 3 1 (.slice (some ⟨g, 0, none⟩) n cap) n (rowVals n f)) (hg : lo ≤ g) (hlt : g < w.heap.size) (hn : n ≤ 1048576) : OwnInts w lo (.slice (some ⟨g, 0, none⟩) n cap) n f :=
  ⟨_, cap, rfl, hn, fun i hi => ⟨g, 0, rfl, by rw [Nat.zero_add, h.cellAt i (by omega), rowVals_get n f i hi]⟩, fun b o hF => by
    obtain ⟨off, e, _⟩ := hF
    simp only [Option.some.injEq, Addr.mk.injEq, and_true] at e
    obtain ⟨rfl, rfl⟩ := e
    exact ⟨hlt, h.frozenAt o⟩, fun b o hF => by
    obtain ⟨off, e, _⟩ := hF
    simp only [Option.some.injEq, Addr.mk.injEq, and_true] at e
    omega⟩
theorem foot_none (a : Option Addr) (b o : Nat) : ¬ Foot a 0 b o := fun ⟨_, _, _, _⟩ => by omega
end Go.Proofs.YtjcaligejlhjdaaGreat
namespace Go.Proofs.YtjcaligejlhjdaaGreat
open Go.ChangeShapes Go.WideShapes Go.ChangeAt Go.RowKit
theorem isByte (x : Int) (w : World) : Calls Tryz.prog 96 #[.int .i64 x] w fun e w' => e = .returned (.bool (inB x 0 255)) ∧ w' = w := by
  by_cases h : 0 ≤ x ∧ x ≤ 255
  · have e := hide (inB_yes h)
    go_enter Tryz.func96, Tryz.ntmps96
    go_wp2
    go_ret
    exact ⟨ret_bool ((by first | rfl | (simp; done) | (simp; omega) : _ = true).trans (unhide e).symm), rfl⟩
  · have e := hide (inB_no h)
    go_enter Tryz.func96, Tryz.ntmps96
    go_wp2
    go_ret
    exact ⟨ret_bool ((by simp; omega : _ = false).trans (unhide e).symm), rfl⟩
def allB (n : Nat) (f : Nat → Int) : Bool := decide (∀ j, j < n → inB (f j) 0 255 = true)
theorem allB_no {n j : Nat} {f : Nat → Int} (hj : j < n) (h : inB (f j) 0 255 = false) : allB n f = false := decide_eq_false (fun x => by have := x j hj; rw [h] at this; cases this)
theorem allB_yes {n : Nat} {f : Nat → Int} (h : ∀ j, j < n → inB (f j) 0 255 = true) : allB n f = true := decide_eq_true h
theorem okBank_all {f : Nat → Int} : okBank 256 f = allB 256 f := by
  unfold okBank allB
  simp
theorem allBytes (w : World) (F : Nat → Nat → Prop) (v : Value) (n : Nat) (f : Nat → Int) (H : Ints .i64 w F v n f) :
    Calls Tryz.prog 128 #[v] w fun e w' => e = .returned (.bool (allB n f)) ∧ w' = w := by
  obtain ⟨a, cap, rfl, hn, hrow, -⟩ := H
  go_enter Tryz.func128, Tryz.ntmps128
  go_wp2
  go_loop [7] (fun i => ∃ q : Nat, q ≤ n ∧ i = .int .i64 q ∧ ∀ j, j < q → inB (f j) 0 255 = true) (fun i => n - (intOf i).toNat)
  case atStart => exact ⟨0, Nat.zero_le _, rfl, fun i hi => absurd hi (Nat.not_lt_zero _)⟩
  case round =>
    obtain ⟨q, hq, rfl, hok⟩ := hrel
    have HO := hide hok
    clear hok
    by_cases hlt : q < n
    · obtain ⟨b, off, rfl, hcell⟩ := hrow q hlt
      have hlt' : (q : Int) < (n : Int) := by omega
      cases hin : inB (f q) 0 255
      · go_wp2_with fail
        refine (isByte _ _).mono ?_
        rintro e w1 ⟨rfl, rfl⟩
        rw [hin]
        go_wp2
        go_ret
        exact ⟨ret_bool (allB_no hlt hin).symm, rfl⟩
      · go_wp2_with fail
        refine (isByte _ _).mono ?_
        rintro e w1 ⟨rfl, rfl⟩
        rw [hin]
        go_wp2
        go_round
        case rel =>
          refine ⟨q + 1, by omega, by go_num, fun j hj => ?_⟩
          by_cases e : j = q
          · rw [e]; exact hin
          · exact unhide HO j (by omega)
        case measure => simp [intOf]; omega
    · have hlt' : ¬ (q : Int) < (n : Int) := by omega
      go_wp2
      go_ret
      exact ⟨ret_bool (allB_yes (fun j hj => unhide HO j (by omega))).symm, rfl⟩
def isRow (n : Nat) (f : Nat → Int) (many : Int) : Bool := decide ((n : Int) = many) && allB n f
theorem isRow_no {n : Nat} {f : Nat → Int} {many : Int} (h : ¬ (n : Int) = many) : isRow n f many = false := by unfold isRow; rw [decide_eq_false h]; rfl
theorem isRow_yes {n : Nat} {f : Nat → Int} {many : Int} (h : (n : Int) = many) : isRow n f many = allB n f := by unfold isRow; rw [decide_eq_true h]; rfl
theorem okBank_isRow {n : Nat} {f : Nat → Int} : okBank n f = isRow n f 256 := by
  by_cases h : n = 256
  · subst h
    rw [isRow_yes (by rfl)]
    exact okBank_all
  · rw [isRow_no (by omega), okBank_len h]
theorem isBytes (w : World) (F : Nat → Nat → Prop) (v : Value) (n : Nat) (f : Nat → Int) (many : Int) (H : Ints .i64 w F v n f) :
    Calls Tryz.prog 127 #[v, .int .i64 many] w fun e w' => e = .returned (.bool (isRow n f many)) ∧ w' = w := by
  have H0 := H
  obtain ⟨a, cap, rfl, hn, -, -⟩ := H
  by_cases h : (n : Int) = many
  · have h' : ((n : Int) == many) = true := by simpa using h
    have HE := hide (isRow_yes (f := f) h)
    clear h
    go_enter Tryz.func127, Tryz.ntmps127
    go_wp2_with fail
    refine (allBytes _ F _ n f H0).mono ?_
    rintro e w1 ⟨rfl, rfl⟩
    go_wp2
    go_ret
    exact ⟨ret_bool HE.out.symm, rfl⟩
  · have h' : ((n : Int) == many) = false := by simpa using h
    have HE := hide (isRow_no (f := f) h)
    clear h
    go_enter Tryz.func127, Tryz.ntmps127
    go_wp2
    go_ret
    exact ⟨ret_bool HE.out.symm, rfl⟩
theorem okImg_size {m : Nat} {ln : Nat → Nat} {f : Nat → Nat → Int} (h : ¬ (1 ≤ m ∧ m ≤ 8)) : okImg m ln f = false := decide_eq_false (fun x => h x.2)
theorem okImg_yes {m : Nat} {ln : Nat → Nat} {f : Nat → Nat → Int} (h : ∀ i, i < m → okBank (ln i) (f i) = true) (h1 : 1 ≤ m) (h8 : m ≤ 8) : okImg m ln f = true := decide_eq_true ⟨h, h1, h8⟩
theorem implImageOk (w : World) (F : Nat → Nat → Prop) (v : Value) (m : Nat) (ln : Nat → Nat) (f : Nat → Nat → Int) (H : IntSS .i64 w F v m ln f) :
    Calls Tryz.prog 126 #[.agg #[v]] w fun e w' => e = .returned (.bool (okImg m ln f)) ∧ Below w.heap.size w w' := by
  have L0 : Below w.heap.size w (w.alloc (.cells #[v] 27)) := (Below.refl _ _).alloc (Nat.le_refl _) _
  have H0 := H.keep (wrote_below L0 Nowhere) (fun _ _ _ x => x)
  obtain ⟨a, cap, rfl, hm, -, hc⟩ := H0
  by_cases h1 : 1 ≤ m
  · by_cases h8 : m ≤ 8
    · go_enter Tryz.func126, Tryz.ntmps126
      have h1' : ¬ (m : Int) < 1 := by omega
      have h8' : ¬ (8 : Int) < m := by omega
      go_wp2
      go_loop [18] (fun i => ∃ q : Nat, q ≤ m ∧ i = .int .i64 q ∧ ∀ i, i < q → okBank (ln i) (f i) = true) (fun i => m - (intOf i).toNat)
      case atStart => exact ⟨0, Nat.zero_le _, rfl, fun i hi => absurd hi (Nat.not_lt_zero _)⟩
      case round =>
        obtain ⟨q, hq, rfl, hok⟩ := hrel
        have HO := hide hok
        clear hok
        by_cases hlt : q < m
        · obtain ⟨b, off, u, rfl, hcell, a', cap', rfl, hn', hrow, -⟩ := hc q hlt
          have hlt' : (q : Int) < (m : Int) := by omega
          have EA := hide (okBank_isRow (n := ln q) (f := f q))
          cases hin : isRow (ln q) (f q) 256
          · go_wp2_with fail
            refine (isBytes _ (fun _ _ => True) _ (ln q) (f q) 256 ⟨_, _, rfl, hn', hrow, fun _ _ _ => trivial⟩).mono ?_
            rintro e w1 ⟨rfl, rfl⟩
            rw [hin]
            go_wp2
            go_ret
            exact ⟨ret_bool (okImg_no hlt ((unhide EA).trans hin)).symm, L0⟩
          · go_wp2_with fail
            refine (isBytes _ (fun _ _ => True) _ (ln q) (f q) 256 ⟨_, _, rfl, hn', hrow, fun _ _ _ => trivial⟩).mono ?_
            rintro e w1 ⟨rfl, rfl⟩
            rw [hin]
            go_wp2
            go_round
            case rel => exact ⟨q + 1, by omega, by go_num, oks_snoc (unhide HO) ((unhide EA).trans hin)⟩
            case measure => simp [intOf]; omega
        · have hlt' : ¬ (q : Int) < (m : Int) := by omega
          have e : q = m := by omega
          subst e
          go_wp2
          go_ret
          exact ⟨ret_bool (okImg_yes (unhide HO) (by omega) (by omega)).symm, L0⟩
    · have HI := hide (okImg_size (ln := ln) (f := f) (m := m) (by omega))
      have h1' : ¬ (m : Int) < 1 := by omega
      have h8' : (8 : Int) < m := by omega
      go_enter Tryz.func126, Tryz.ntmps126
      go_wp2
      go_ret
      exact ⟨ret_bool (unhide HI).symm, L0⟩
  · have HI := hide (okImg_size (ln := ln) (f := f) (m := m) (by omega))
    have h1' : (m : Int) < 1 := by omega
    go_enter Tryz.func126, Tryz.ntmps126
    go_wp2
    go_ret
    exact ⟨ret_bool (unhide HI).symm, L0⟩
end Go.Proofs.YtjcaligejlhjdaaGreat
