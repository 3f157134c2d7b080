/-
  Chapter 17: lists held against each other, by the specification and by the program.
-/
import Derived.Test.YtmccplbfggcogaaE2
import Derived.BigQuiet
import Derived.Deep.RegionHeld3
namespace Go.Proofs.Ytmccplbfggcogaa
set_option linter.unusedVariables false
set_option linter.unusedSimpArgs false
open Go.ChangeShapes Go.WideShapes Go.ChangeAt Go.RowKit
def begI (n m : Nat) (f g : Nat → Int) : Bool := decide (n ≤ m ∧ ∀ i, i < n → f i = g i)
theorem begI_no {n m k : Nat} {f g : Nat → Int} (hk : k < n) (h : ¬ f k = g k) : begI n m f g = false := decide_eq_false (fun x => h (x.2 k hk))
theorem begI_long {n m : Nat} {f g : Nat → Int} (h : m < n) : begI n m f g = false := decide_eq_false (fun x => by omega)
theorem begI_yes {n m : Nat} {f g : Nat → Int} (h : n ≤ m) (e : ∀ i, i < n → f i = g i) : begI n m f g = true := decide_eq_true ⟨h, e⟩
theorem begI_same {n : Nat} {f g : Nat → Int} : begI n n f g = eqInts n n f g := by
  unfold begI eqInts
  congr 1
  simp
theorem begI_two {n m : Nat} {f g : Nat → Int} : (begI n m f g && begI m n g f) = eqInts n m f g := by
  unfold begI eqInts
  rw [← Bool.decide_and]
  congr 1
  apply propext
  constructor
  · rintro ⟨⟨a, b⟩, c, d⟩
    exact ⟨by omega, b⟩
  · rintro ⟨rfl, b⟩
    exact ⟨⟨Nat.le_refl _, b⟩, Nat.le_refl _, fun i hi => (b i hi).symm⟩
def begSS (m n : Nat) (ln lg : Nat → Nat) (f g : Nat → Nat → Int) : Bool := decide (m ≤ n ∧ ∀ i, i < m → eqInts (ln i) (lg i) (f i) (g i) = true)
theorem begSS_no {m n k : Nat} {ln lg : Nat → Nat} {f g : Nat → Nat → Int} (hk : k < m) (h : eqInts (ln k) (lg k) (f k) (g k) = false) : begSS m n ln lg f g = false :=
  decide_eq_false (fun x => by have := x.2 k hk; rw [h] at this; cases this)
theorem begSS_long {m n : Nat} {ln lg : Nat → Nat} {f g : Nat → Nat → Int} (h : n < m) : begSS m n ln lg f g = false := decide_eq_false (fun x => by omega)
theorem begSS_yes {m n : Nat} {ln lg : Nat → Nat} {f g : Nat → Nat → Int} (h : m ≤ n) (e : ∀ i, i < m → eqInts (ln i) (lg i) (f i) (g i) = true) : begSS m n ln lg f g = true := decide_eq_true ⟨h, e⟩
theorem begSS_same {m : Nat} {ln lg : Nat → Nat} {f g : Nat → Nat → Int} : begSS m m ln lg f g = eqIntss m m ln lg f g := by
  unfold begSS eqIntss
  congr 1
  simp
theorem eqInts_symm {n m : Nat} {f g : Nat → Int} (h : eqInts n m f g = true) : eqInts m n g f = true := by
  obtain ⟨rfl, e⟩ := of_decide_eq_true h
  exact eqInts_yes (fun i hi => (e i hi).symm)
theorem begSS_two {m n : Nat} {ln lg : Nat → Nat} {f g : Nat → Nat → Int} : (begSS m n ln lg f g && begSS n m lg ln g f) = eqIntss m n ln lg f g := by
  unfold begSS eqIntss
  rw [← Bool.decide_and]
  congr 1
  apply propext
  constructor
  · rintro ⟨⟨a, b⟩, c, d⟩
    exact ⟨by omega, b⟩
  · rintro ⟨rfl, b⟩
    exact ⟨⟨Nat.le_refl _, b⟩, Nat.le_refl _, fun i hi => eqInts_symm (b i hi)⟩
theorem specBegins (w : World) (F G : Nat → Nat → Prop) (v u : Value) (n m : Nat) (f g : Nat → Int) (H : Ints .i64 w F v n f) (H' : Ints .i64 w G u m g) :
    Calls Try.prog 62 #[v, u] w fun e w' => e = .returned (.bool (begI n m f g)) ∧ ∃ d, w' = w.drewN d := by
  obtain ⟨a, cap, rfl, hn, hc, -⟩ := H
  obtain ⟨a', cap', rfl, hn', hc', -⟩ := H'
  go_enter Try.func62, Try.ntmps62
  go_wp2
  go_loopw [5] (fun i wr => ∃ k : Nat, k ≤ n ∧ k ≤ m ∧ i = .int .i64 k ∧ (∀ j, j < k → f j = g j) ∧ ∃ d, wr = w.drewN d) (fun i _ => n - (intOf i).toNat)
  case atStart => exact ⟨0, Nat.zero_le _, Nat.zero_le _, rfl, fun j hj => absurd hj (Nat.not_lt_zero _), 0, rfl⟩
  case round =>
    obtain ⟨k, hk, hk', rfl, heq, d, rfl⟩ := hrel
    have HQ := hide heq
    clear heq
    by_cases hlt : k < n
    · have hlt1 : (k : Int) < (n : Int) := by omega
      by_cases hlm : k < m
      · have hlm1 : (k : Int) < (m : Int) := by omega
        obtain ⟨b, off, rfl, hcell⟩ := hc k hlt
        obtain ⟨b', off', rfl, hcell'⟩ := hc' k hlm
        by_cases hq : f k = g k
        · have hq' : (f k != g k) = false := by simpa using hq
          have HK := hide hq
          clear hq
          go_wp2
          go_quiet (fail)
          go_wp2
          go_roundw
          case rel => exact ⟨k + 1, by omega, by omega, by go_num, eq_snoc (unhide HQ) (unhide HK), _, rfl⟩
          case measure => simp [intOf]; omega
        · have hq' : (f k != g k) = true := by simpa using hq
          go_wp2
          go_quiet (fail)
          go_wp2
          go_ret
          exact ⟨ret_bool (begI_no hlt hq).symm, drew2 _ _ _⟩
      · have hlm1 : ¬ (k : Int) < (m : Int) := by omega
        have hle : ¬ (n : Int) ≤ (m : Int) := by omega
        go_wp2
        go_ret
        exact ⟨ret_bool (begI_long (by omega)).symm, _, rfl⟩
    · have hlt1 : ¬ (k : Int) < (n : Int) := by omega
      have hle : (n : Int) ≤ (m : Int) := by omega
      go_wp2
      go_ret
      exact ⟨ret_bool (begI_yes (by omega) (fun i hi => unhide HQ i (by omega))).symm, _, rfl⟩
theorem specSame17 (w : World) (F G : Nat → Nat → Prop) (v u : Value) (n m : Nat) (f g : Nat → Int) (H : Ints .i64 w F v n f) (H' : Ints .i64 w G u m g) :
    Calls Try.prog 63 #[v, u] w fun e w' => e = .returned (.bool (eqInts n m f g)) ∧ ∃ d, w' = w.drewN d := by
  obtain ⟨a, cap, hv, hn, -⟩ := id H
  obtain ⟨a', cap', hu, hn', -⟩ := id H'
  subst hv hu
  by_cases e : n = m
  · subst e
    have hne : ((n : Int) == (n : Int)) = true := by simp
    go_enter Try.func63, Try.ntmps63
    go_wp2_with fail
    refine (specBegins _ F G _ _ n n f g H H').mono ?_
    rintro e W ⟨rfl, d, rfl⟩
    rw [begI_same]
    go_wp2
    go_ret
    exact ⟨rfl, d, rfl⟩
  · have hne : ((n : Int) == (m : Int)) = false := by simp; omega
    go_enter Try.func63, Try.ntmps63
    go_wp2
    go_ret
    exact ⟨ret_bool (eqInts_ne e).symm, 0, rfl⟩
theorem implSameNumber (w : World) (x y : Int) : Calls Try.prog 66 #[.int .i64 x, .int .i64 y] w fun e w' => e = .returned (.bool (x == y)) ∧ w' = w := by
  go_enter Try.func66, Try.ntmps66
  go_wp2
  go_ret
  exact ⟨rfl, rfl⟩
theorem implBegins (w : World) (F G : Nat → Nat → Prop) (v u : Value) (n m : Nat) (f g : Nat → Int) (H : Ints .i64 w F v n f) (H' : Ints .i64 w G u m g) :
    Calls Try.prog 65 #[v, u, .func (.func 66) #[] #[]] w fun e w' => e = .returned (.bool (begI n m f g)) ∧ w' = w := by
  obtain ⟨a, cap, rfl, hn, hc, -⟩ := H
  obtain ⟨a', cap', rfl, hn', hc', -⟩ := H'
  by_cases hnm : m < n
  · have h1 : (m : Int) < (n : Int) := by omega
    go_enter Try.func65, Try.ntmps65
    go_wp2
    go_ret
    exact ⟨ret_bool (begI_long hnm).symm, rfl⟩
  have h1 : ¬ (m : Int) < (n : Int) := by omega
  go_enter Try.func65, Try.ntmps65
  go_wp2
  go_loopw [7, 8, 16] (fun x y i wr => ∃ k : Nat, k ≤ n ∧ i = .int .i64 k ∧ (∀ j, j < k → f j = g j) ∧ wr = w) (fun _ _ i _ => n - (intOf i).toNat)
  case atStart => exact ⟨0, Nat.zero_le _, rfl, fun j hj => absurd hj (Nat.not_lt_zero _), rfl⟩
  case round =>
    obtain ⟨k, hk, rfl, heq, rfl⟩ := hrel
    have HQ := hide heq
    clear heq
    by_cases hlt : k < n
    · have hlt1 : (k : Int) < (n : Int) := by omega
      obtain ⟨b, off, rfl, hcell⟩ := hc k hlt
      obtain ⟨b', off', rfl, hcell'⟩ := hc' k (by omega)
      by_cases hq : f k = g k
      · have hq' : (f k == g k) = true := by simpa using hq
        have HK := hide hq
        clear hq
        go_wp2_with fail
        refine (implSameNumber _ (f k) (g k)).mono ?_
        rintro e W ⟨rfl, rfl⟩
        go_wp2
        go_roundw
        case rel => exact ⟨k + 1, by omega, by go_num, eq_snoc (unhide HQ) (unhide HK), trivial⟩
        case measure => simp [intOf]; omega
      · have hq' : (f k == g k) = false := by simpa using hq
        go_wp2_with fail
        refine (implSameNumber _ (f k) (g k)).mono ?_
        rintro e W ⟨rfl, rfl⟩
        go_wp2
        go_ret
        exact ⟨ret_bool (begI_no hlt hq).symm, rfl⟩
    · have hlt1 : ¬ (k : Int) < (n : Int) := by omega
      go_wp2
      go_ret
      exact ⟨ret_bool (begI_yes (by omega) (fun i hi => unhide HQ i (by omega))).symm, rfl⟩
theorem implSameBy (w : World) (F G : Nat → Nat → Prop) (v u : Value) (n m : Nat) (f g : Nat → Int) (H : Ints .i64 w F v n f) (H' : Ints .i64 w G u m g) :
    Calls Try.prog 81 #[v, u, .func (.func 66) #[] #[]] w fun e w' => e = .returned (.bool (eqInts n m f g)) ∧ w' = w := by
  obtain ⟨a, cap, hv, hn, -⟩ := id H
  obtain ⟨a', cap', hu, hn', -⟩ := id H'
  subst hv hu
  by_cases e : n = m
  · subst e
    have hne : ((n : Int) == (n : Int)) = true := by simp
    go_enter Try.func81, Try.ntmps81
    go_wp2_with fail
    refine (implBegins _ F G _ _ n n f g H H').mono ?_
    rintro e W ⟨rfl, rfl⟩
    rw [begI_same]
    go_wp2
    go_ret
    exact ⟨rfl, rfl⟩
  · have hne : ((n : Int) == (m : Int)) = false := by simp; omega
    go_enter Try.func81, Try.ntmps81
    go_wp2
    go_ret
    exact ⟨ret_bool (eqInts_ne e).symm, rfl⟩
theorem implSameList (w : World) (F G : Nat → Nat → Prop) (v u : Value) (n m : Nat) (f g : Nat → Int) (H : Ints .i64 w F v n f) (H' : Ints .i64 w G u m g) :
    Calls Try.prog 61 #[v, u] w fun e w' => e = .returned (.bool (eqInts n m f g)) ∧ w' = w := by
  go_enter Try.func61, Try.ntmps61
  go_wp2_with fail
  refine (implSameBy _ F G _ _ n m f g H H').mono ?_
  rintro e W ⟨rfl, rfl⟩
  go_wp2
  go_ret
  exact ⟨rfl, rfl⟩
theorem implBeginsSS (w : World) (F G : Nat → Nat → Prop) (v u : Value) (m n : Nat) (ln lg : Nat → Nat) (f g : Nat → Nat → Int) (H : IntSS .i64 w F v m ln f) (H' : IntSS .i64 w G u n lg g) :
    Calls Try.prog 64 #[v, u, .func (.func 61) #[] #[]] w fun e w' => e = .returned (.bool (begSS m n ln lg f g)) ∧ w' = w := by
  obtain ⟨a, cap, rfl, hn, -, hc⟩ := H
  obtain ⟨a', cap', rfl, hn', -, hc'⟩ := H'
  by_cases hnm : n < m
  · have h1 : (n : Int) < (m : Int) := by omega
    go_enter Try.func64, Try.ntmps64
    go_wp2
    go_ret
    exact ⟨ret_bool (begSS_long hnm).symm, rfl⟩
  have h1 : ¬ (n : Int) < (m : Int) := by omega
  go_enter Try.func64, Try.ntmps64
  go_wp2
  go_loopw [7, 8, 16] (fun x y i wr => ∃ k : Nat, k ≤ m ∧ i = .int .i64 k ∧ (∀ j, j < k → eqInts (ln j) (lg j) (f j) (g j) = true) ∧ wr = w) (fun _ _ i _ => m - (intOf i).toNat)
  case atStart => exact ⟨0, Nat.zero_le _, rfl, fun j hj => absurd hj (Nat.not_lt_zero _), rfl⟩
  case round =>
    obtain ⟨k, hk, rfl, heq, rfl⟩ := hrel
    have HQ := hide heq
    clear heq
    by_cases hlt : k < m
    · have hlt1 : (k : Int) < (m : Int) := by omega
      obtain ⟨b, off, x0, rfl, hcell, hx0⟩ := hc k hlt
      obtain ⟨b', off', y0, rfl, hcell', hy0⟩ := hc' k (by omega)
      have HC := hide (implSameList wr F G x0 y0 (ln k) (lg k) (f k) (g k) hx0 hy0)
      clear hc hc' hx0 hy0
      cases hq : eqInts (ln k) (lg k) (f k) (g k)
      · rw [hq] at HC
        go_wp2_with fail
        refine HC.out.mono ?_
        rintro e W ⟨rfl, rfl⟩
        go_wp2
        go_ret
        exact ⟨ret_bool (begSS_no hlt hq).symm, rfl⟩
      · rw [hq] at HC
        have HK := hide hq
        clear hq
        go_wp2_with fail
        refine HC.out.mono ?_
        rintro e W ⟨rfl, rfl⟩
        go_wp2
        go_roundw
        case rel => exact ⟨k + 1, by omega, by go_num, eqs_snoc (unhide HQ) (unhide HK), trivial⟩
        case measure => simp [intOf]; omega
    · have hlt1 : ¬ (k : Int) < (m : Int) := by omega
      go_wp2
      go_ret
      exact ⟨ret_bool (begSS_yes (by omega) (fun i hi => unhide HQ i (by omega))).symm, rfl⟩
theorem implSameSS (w : World) (F G : Nat → Nat → Prop) (v u : Value) (m n : Nat) (ln lg : Nat → Nat) (f g : Nat → Nat → Int) (H : IntSS .i64 w F v m ln f) (H' : IntSS .i64 w G u n lg g) :
    Calls Try.prog 60 #[v, u, .func (.func 61) #[] #[]] w fun e w' => e = .returned (.bool (eqIntss m n ln lg f g)) ∧ w' = w := by
  obtain ⟨a, cap, hv, hn, -⟩ := id H
  obtain ⟨a', cap', hu, hn', -⟩ := id H'
  subst hv hu
  by_cases e : m = n
  · subst e
    have hne : ((m : Int) == (m : Int)) = true := by simp
    go_enter Try.func60, Try.ntmps60
    go_wp2_with fail
    refine (implBeginsSS _ F G _ _ m m ln lg f g H H').mono ?_
    rintro e W ⟨rfl, rfl⟩
    rw [begSS_same]
    go_wp2
    go_ret
    exact ⟨rfl, rfl⟩
  · have hne : ((m : Int) == (n : Int)) = false := by simp; omega
    go_enter Try.func60, Try.ntmps60
    go_wp2
    go_ret
    exact ⟨ret_bool (eqIntss_ne e).symm, rfl⟩
end Go.Proofs.Ytmccplbfggcogaa
