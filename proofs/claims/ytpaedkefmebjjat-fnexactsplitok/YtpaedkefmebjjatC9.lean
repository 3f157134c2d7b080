/-
  The specification's Poke (chapter 6), by its contract.
-/
import Derived.Test.YtpaedkefmebjjatC8
import Derived.Test.YtpaedkefmebjjatU0
import Derived.Test.YtpaedkefmebjjatC7
import Derived.Test.YtpaedkefmebjjatI2
import Derived.Deep.RegionHeld3
import Derived.Handy
import Derived.Deep.QuietTactic
namespace Go.Proofs.Ytpaedkefmebjjat
set_option linter.unusedVariables false
open Go.ChangeShapes Go.WideShapes Go.ChangeAt Go.RowKit
def setAt (g : Nat → Int) (k : Nat) (x : Int) : Nat → Int := fun i => if i = k then x else g i
/-- The row of an answer, with one number put. -/
theorem OwnInts.put {w : World} {lo : Nat} {b off cap n : Nat} {f : Nat → Int} (h : OwnInts w lo (.slice (some ⟨b, off, none⟩) n cap) n f) (k : Nat) (hk : k < n) (x : Int) : OwnInts (w.setCell ⟨b, off + k, none⟩ (.int .i64 x)) lo (.slice (some ⟨b, off, none⟩) n cap) n (setAt f k x) := by
  obtain ⟨a, cap', hv, hn, hr, hF, hL⟩ := h
  simp only [Value.slice.injEq] at hv
  obtain ⟨rfl, -, rfl⟩ := hv
  have W1 : Wrote (fun b' o' => b' = b ∧ o' = off + k) w (w.setCell ⟨b, off + k, none⟩ (.int .i64 x)) := Wrote.setCell (Wrote.refl _ w) (fun _ => ⟨rfl, rfl⟩) _
  exact ⟨_, _, rfl, hn, row_marked hr hk, hF.keep W1, hL⟩
end Go.Proofs.Ytpaedkefmebjjat
namespace Go.Proofs.Ytpaedkefmebjjat
set_option linter.unusedVariables false
open Go.ChangeShapes Go.WideShapes Go.ChangeAt Go.RowKit
theorem okMem_row {m : Nat} {ln : Nat → Nat} {f : Nat → Nat → Int} {n : Nat} {g : Nat → Int} {bank : Int} (h : isRow n g 512 = false) : okMem m ln f n g bank = false := by
  by_cases hn : n = 512
  · subst hn
    rw [isRow_yes (by rfl)] at h
    have h' : okRam 512 g = false := h
    unfold okMem
    rw [h']
    simp
  · exact okMem_len hn
theorem isRow_of {n : Nat} {g : Nat → Int} (h : isRow n g 512 = true) : n = 512 ∧ ∀ j, j < 512 → 0 ≤ g j ∧ g j ≤ 255 := by
  by_cases hn : n = 512
  · subst hn
    rw [isRow_yes (by rfl)] at h
    exact ⟨rfl, fun j hj => (inB_iff _ _ _).1 (of_decide_eq_true h j hj)⟩
  · rw [isRow_no (by omega)] at h
    cases h
set_option maxHeartbeats 1000000 in
theorem implMemOk (w : World) (F G : Nat → Nat → Prop) (v u : Value) (m : Nat) (ln : Nat → Nat) (f : Nat → Nat → Int) (n : Nat) (g : Nat → Int) (bank : Int) (H : IntSS .i64 w F v m ln f) (K : Ints .i64 w G u n g) :
    Calls Try.prog 44 #[.agg #[v], .agg #[u, .int .i64 bank]] w fun e w' => e = .returned (.bool (okMem m ln f n g bank)) ∧ Below w.heap.size w w' := by
  have L0 : Below w.heap.size w ((w.alloc (.cells #[v] 58)).alloc (.cells #[u, .int .i64 bank] 59)) := ((Below.refl _ _).alloc (Nat.le_refl _) _).alloc (by simp) _
  have H0 := H.keep (wrote_below L0 Nowhere) (fun _ _ _ x => x)
  have K0 := K.keep (wrote_below L0 Nowhere) (fun _ _ _ x => x)
  obtain ⟨ia, icap, rfl, im, -, -⟩ := H
  obtain ⟨ua, ucap, rfl, un, -, -⟩ := K
  go_enter Try.func44, Try.ntmps44
  go_wp2_with fail
  refine (implImageOk _ F _ m ln f H0).mono ?_
  rintro e w1 ⟨rfl, L1⟩
  have c1 : w1.cell? ⟨w.heap.size, 0, none⟩ = some (.slice ia m icap) := (L1.cell (by simp; omega)).trans (by go_simp)
  have c2 : w1.cell? ⟨w.heap.size + 1, 0, none⟩ = some (.slice ua n ucap) := (L1.cell (by simp)).trans (by go_simp)
  have c3 : w1.cell? ⟨w.heap.size + 1, 1, none⟩ = some (.int .i64 bank) := (L1.cell (by simp)).trans (by go_simp)
  have C1 := L0.trans (L1.mono L0.size)
  have K1 := K0.keep (wrote_below L1 Nowhere) (fun _ _ _ x => x)
  clear L1 L0 H0 K0
  cases hI : okImg m ln f
  · have HE := hide (okMem_img (n := n) (g := g) (bank := bank) hI)
    clear hI
    go_wp2
    go_ret
    exact ⟨ret_bool HE.out.symm, C1⟩
  · have HI := hide hI
    clear hI
    cases hR : isRow n g 512
    · have HE := hide (okMem_row (m := m) (ln := ln) (f := f) (bank := bank) hR)
      go_wp2_with fail
      refine (isBytes _ G _ n g 512 K1).mono ?_
      rintro e wx ⟨rfl, rfl⟩
      rw [hR]
      go_wp2
      go_ret
      exact ⟨ret_bool HE.out.symm, C1⟩
    · obtain ⟨hn, hb⟩ := isRow_of hR
      have HN := hide hn
      have HB := hide hb
      clear hn hb
      by_cases b0 : 0 ≤ bank
      · by_cases b1 : bank < (m : Int)
        · have HE := hide (okMem_yes (bank := bank) (unhide HI) (unhide HN) (inB_yes ⟨b0, by omega⟩) (unhide HB))
          go_wp2_with fail
          refine (isBytes _ G _ n g 512 K1).mono ?_
          rintro e wx ⟨rfl, rfl⟩
          rw [hR]
          go_wp2
          go_ret
          exact ⟨ret_bool HE.out.symm, C1⟩
        · have HE := hide (okMem_bank (m := m) (ln := ln) (f := f) (n := n) (g := g) (inB_no (x := bank) (lo := 0) (hi := (m : Int) - 1) (by omega)))
          go_wp2_with fail
          refine (isBytes _ G _ n g 512 K1).mono ?_
          rintro e wx ⟨rfl, rfl⟩
          rw [hR]
          go_wp2
          go_ret
          exact ⟨ret_bool ((decide_eq_false (by omega)).trans HE.out.symm), C1⟩
      · have b0' : decide (0 ≤ bank) = false := decide_eq_false b0
        have HE := hide (okMem_bank (m := m) (ln := ln) (f := f) (n := n) (g := g) (inB_no (x := bank) (lo := 0) (hi := (m : Int) - 1) (by omega)))
        go_wp2_with fail
        refine (isBytes _ G _ n g 512 K1).mono ?_
        rintro e wx ⟨rfl, rfl⟩
        rw [hR]
        go_wp2
        go_ret
        exact ⟨ret_bool HE.out.symm, C1⟩
end Go.Proofs.Ytpaedkefmebjjat
