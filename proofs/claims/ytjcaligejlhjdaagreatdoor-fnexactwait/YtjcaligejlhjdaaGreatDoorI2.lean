/-
  Contracts of chapter 2's functions of the program: what an image is.
-/
import Derived.Test.YtjcaligejlhjdaaGreatDoorS2
namespace Go.Proofs.YtjcaligejlhjdaaGreatDoor
open Go.ChangeShapes Go.WideShapes Go.ChangeAt Go.RowKit
theorem isByte (x : Int) (w : World) : Calls Tryz.prog 62 #[.int .i64 x] w fun e w' => e = .returned (.bool (inB x 0 255)) ∧ w' = w := by
  by_cases h : 0 ≤ x ∧ x ≤ 255
  · have e := hide (inB_yes h)
    go_enter Tryz.func62, Tryz.ntmps62
    go_wp2
    go_ret
    exact ⟨ret_bool ((by first | rfl | (simp; done) | (simp; omega) : _ = true).trans (unhide e).symm), rfl⟩
  · have e := hide (inB_no h)
    go_enter Tryz.func62, Tryz.ntmps62
    go_wp2
    go_ret
    exact ⟨ret_bool ((by simp; omega : _ = false).trans (unhide e).symm), rfl⟩
def allB (n : Nat) (f : Nat → Int) : Bool := decide (∀ j, j < n → inB (f j) 0 255 = true)
theorem allB_no {n j : Nat} {f : Nat → Int} (hj : j < n) (h : inB (f j) 0 255 = false) : allB n f = false := decide_eq_false (fun x => by have := x j hj; rw [h] at this; cases this)
theorem allB_yes {n : Nat} {f : Nat → Int} (h : ∀ j, j < n → inB (f j) 0 255 = true) : allB n f = true := decide_eq_true h
theorem okBank_all {f : Nat → Int} : okBank 256 f = allB 256 f := by
  unfold okBank allB
  simp
theorem allBytes (w : World) (F : Nat → Nat → Prop) (v : Value) (n : Nat) (f : Nat → Int) (H : Ints .i64 w F v n f) :
    Calls Tryz.prog 90 #[v] w fun e w' => e = .returned (.bool (allB n f)) ∧ w' = w := by
  obtain ⟨a, cap, rfl, hn, hrow, -⟩ := H
  go_enter Tryz.func90, Tryz.ntmps90
  go_wp2
  go_loop [7] (fun i => ∃ q : Nat, q ≤ n ∧ i = .int .i64 q ∧ ∀ j, j < q → inB (f j) 0 255 = true) (fun i => n - (intOf i).toNat)
  case atStart => exact ⟨0, Nat.zero_le _, rfl, fun i hi => absurd hi (Nat.not_lt_zero _)⟩
  case round =>
    obtain ⟨q, hq, rfl, hok⟩ := hrel
    have HO := hide hok
    clear hok
    by_cases hlt : q < n
    · obtain ⟨b, off, rfl, hcell⟩ := hrow q hlt
      have hlt' : (q : Int) < (n : Int) := by omega
      cases hin : inB (f q) 0 255
      · go_wp2_with fail
        refine (isByte _ _).mono ?_
        rintro e w1 ⟨rfl, rfl⟩
        rw [hin]
        go_wp2
        go_ret
        exact ⟨ret_bool (allB_no hlt hin).symm, rfl⟩
      · go_wp2_with fail
        refine (isByte _ _).mono ?_
        rintro e w1 ⟨rfl, rfl⟩
        rw [hin]
        go_wp2
        go_round
        case rel =>
          refine ⟨q + 1, by omega, by go_num, fun j hj => ?_⟩
          by_cases e : j = q
          · rw [e]; exact hin
          · exact unhide HO j (by omega)
        case measure => simp [intOf]; omega
    · have hlt' : ¬ (q : Int) < (n : Int) := by omega
      go_wp2
      go_ret
      exact ⟨ret_bool (allB_yes (fun j hj => unhide HO j (by omega))).symm, rfl⟩
def isRow (n : Nat) (f : Nat → Int) (many : Int) : Bool := decide ((n : Int) = many) && allB n f
theorem isRow_no {n : Nat} {f : Nat → Int} {many : Int} (h : ¬ (n : Int) = many) : isRow n f many = false := by unfold isRow; rw [decide_eq_false h]; rfl
theorem isRow_yes {n : Nat} {f : Nat → Int} {many : Int} (h : (n : Int) = many) : isRow n f many = allB n f := by unfold isRow; rw [decide_eq_true h]; rfl
theorem okBank_isRow {n : Nat} {f : Nat → Int} : okBank n f = isRow n f 256 := by
  by_cases h : n = 256
  · subst h
    rw [isRow_yes (by rfl)]
    exact okBank_all
  · rw [isRow_no (by omega), okBank_len h]
theorem isBytes (w : World) (F : Nat → Nat → Prop) (v : Value) (n : Nat) (f : Nat → Int) (many : Int) (H : Ints .i64 w F v n f) :
    Calls Tryz.prog 89 #[v, .int .i64 many] w fun e w' => e = .returned (.bool (isRow n f many)) ∧ w' = w := by
  have H0 := H
  obtain ⟨a, cap, rfl, hn, -, -⟩ := H
  by_cases h : (n : Int) = many
  · have h' : ((n : Int) == many) = true := by simpa using h
    have HE := hide (isRow_yes (f := f) h)
    clear h
    go_enter Tryz.func89, Tryz.ntmps89
    go_wp2_with fail
    refine (allBytes _ F _ n f H0).mono ?_
    rintro e w1 ⟨rfl, rfl⟩
    go_wp2
    go_ret
    exact ⟨ret_bool HE.out.symm, rfl⟩
  · have h' : ((n : Int) == many) = false := by simpa using h
    have HE := hide (isRow_no (f := f) h)
    clear h
    go_enter Tryz.func89, Tryz.ntmps89
    go_wp2
    go_ret
    exact ⟨ret_bool HE.out.symm, rfl⟩
theorem okImg_size {m : Nat} {ln : Nat → Nat} {f : Nat → Nat → Int} (h : ¬ (1 ≤ m ∧ m ≤ 8)) : okImg m ln f = false := decide_eq_false (fun x => h x.2)
theorem okImg_yes {m : Nat} {ln : Nat → Nat} {f : Nat → Nat → Int} (h : ∀ i, i < m → okBank (ln i) (f i) = true) (h1 : 1 ≤ m) (h8 : m ≤ 8) : okImg m ln f = true := decide_eq_true ⟨h, h1, h8⟩
theorem implImageOk (w : World) (F : Nat → Nat → Prop) (v : Value) (m : Nat) (ln : Nat → Nat) (f : Nat → Nat → Int) (H : IntSS .i64 w F v m ln f) :
    Calls Tryz.prog 88 #[.agg #[v]] w fun e w' => e = .returned (.bool (okImg m ln f)) ∧ Below w.heap.size w w' := by
  have L0 : Below w.heap.size w (w.alloc (.cells #[v] 47)) := (Below.refl _ _).alloc (Nat.le_refl _) _
  have H0 := H.keep (wrote_below L0 Nowhere) (fun _ _ _ x => x)
  obtain ⟨a, cap, rfl, hm, -, hc⟩ := H0
  by_cases h1 : 1 ≤ m
  · by_cases h8 : m ≤ 8
    · go_enter Tryz.func88, Tryz.ntmps88
      have h1' : ¬ (m : Int) < 1 := by omega
      have h8' : ¬ (8 : Int) < m := by omega
      go_wp2
      go_loop [18] (fun i => ∃ q : Nat, q ≤ m ∧ i = .int .i64 q ∧ ∀ i, i < q → okBank (ln i) (f i) = true) (fun i => m - (intOf i).toNat)
      case atStart => exact ⟨0, Nat.zero_le _, rfl, fun i hi => absurd hi (Nat.not_lt_zero _)⟩
      case round =>
        obtain ⟨q, hq, rfl, hok⟩ := hrel
        have HO := hide hok
        clear hok
        by_cases hlt : q < m
        · obtain ⟨b, off, u, rfl, hcell, a', cap', rfl, hn', hrow, -⟩ := hc q hlt
          have hlt' : (q : Int) < (m : Int) := by omega
          have EA := hide (okBank_isRow (n := ln q) (f := f q))
          cases hin : isRow (ln q) (f q) 256
          · go_wp2_with fail
            refine (isBytes _ (fun _ _ => True) _ (ln q) (f q) 256 ⟨_, _, rfl, hn', hrow, fun _ _ _ => trivial⟩).mono ?_
            rintro e w1 ⟨rfl, rfl⟩
            rw [hin]
            go_wp2
            go_ret
            exact ⟨ret_bool (okImg_no hlt ((unhide EA).trans hin)).symm, L0⟩
          · go_wp2_with fail
            refine (isBytes _ (fun _ _ => True) _ (ln q) (f q) 256 ⟨_, _, rfl, hn', hrow, fun _ _ _ => trivial⟩).mono ?_
            rintro e w1 ⟨rfl, rfl⟩
            rw [hin]
            go_wp2
            go_round
            case rel => exact ⟨q + 1, by omega, by go_num, oks_snoc (unhide HO) ((unhide EA).trans hin)⟩
            case measure => simp [intOf]; omega
        · have hlt' : ¬ (q : Int) < (m : Int) := by omega
          have e : q = m := by omega
          subst e
          go_wp2
          go_ret
          exact ⟨ret_bool (okImg_yes (unhide HO) (by omega) (by omega)).symm, L0⟩
    · have HI := hide (okImg_size (ln := ln) (f := f) (m := m) (by omega))
      have h1' : ¬ (m : Int) < 1 := by omega
      have h8' : (8 : Int) < m := by omega
      go_enter Tryz.func88, Tryz.ntmps88
      go_wp2
      go_ret
      exact ⟨ret_bool (unhide HI).symm, L0⟩
  · have HI := hide (okImg_size (ln := ln) (f := f) (m := m) (by omega))
    have h1' : (m : Int) < 1 := by omega
    go_enter Tryz.func88, Tryz.ntmps88
    go_wp2
    go_ret
    exact ⟨ret_bool (unhide HI).symm, L0⟩
end Go.Proofs.YtjcaligejlhjdaaGreatDoor
