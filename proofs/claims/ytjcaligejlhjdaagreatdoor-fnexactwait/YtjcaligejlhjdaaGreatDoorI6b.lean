/-
  The program's memory (chapter 6): what is right, what is read, by their contracts.
-/
import Derived.Test.YtjcaligejlhjdaaGreatDoorC8
import Derived.Test.YtjcaligejlhjdaaGreatDoorI6a
import Derived.Deep.QuietTactic
import Derived.Handy
import Derived.ArgAppend
import Derived.Deep.RegionLaw
import Derived.Deep.RegionHeld3
namespace Go.Proofs.YtjcaligejlhjdaaGreatDoor
set_option linter.unusedVariables false
open Go.ChangeShapes Go.WideShapes Go.ChangeAt Go.RowKit
theorem okMem_row {m : Nat} {ln : Nat → Nat} {f : Nat → Nat → Int} {n : Nat} {g : Nat → Int} {bank : Int} (h : isRow n g 512 = false) : okMem m ln f n g bank = false := by
  by_cases hn : n = 512
  · subst hn
    rw [isRow_yes (by rfl)] at h
    have h' : okRam 512 g = false := h
    unfold okMem
    rw [h']
    simp
  · exact okMem_len hn
theorem isRow_of {n : Nat} {g : Nat → Int} (h : isRow n g 512 = true) : n = 512 ∧ ∀ j, j < 512 → 0 ≤ g j ∧ g j ≤ 255 := by
  by_cases hn : n = 512
  · subst hn
    rw [isRow_yes (by rfl)] at h
    exact ⟨rfl, fun j hj => (inB_iff _ _ _).1 (of_decide_eq_true h j hj)⟩
  · rw [isRow_no (by omega)] at h
    cases h
set_option maxHeartbeats 1000000 in
theorem implMemOk (w : World) (F G : Nat → Nat → Prop) (v u : Value) (m : Nat) (ln : Nat → Nat) (f : Nat → Nat → Int) (n : Nat) (g : Nat → Int) (bank : Int) (H : IntSS .i64 w F v m ln f) (K : Ints .i64 w G u n g) :
    Calls Tryz.prog 57 #[.agg #[v], .agg #[u, .int .i64 bank]] w fun e w' => e = .returned (.bool (okMem m ln f n g bank)) ∧ Below w.heap.size w w' := by
  have L0 : Below w.heap.size w ((w.alloc (.cells #[v] 47)).alloc (.cells #[u, .int .i64 bank] 48)) := ((Below.refl _ _).alloc (Nat.le_refl _) _).alloc (by simp) _
  have H0 := H.keep (wrote_below L0 Nowhere) (fun _ _ _ x => x)
  have K0 := K.keep (wrote_below L0 Nowhere) (fun _ _ _ x => x)
  obtain ⟨ia, icap, rfl, im, -, -⟩ := H
  obtain ⟨ua, ucap, rfl, un, -, -⟩ := K
  go_enter Tryz.func57, Tryz.ntmps57
  go_wp2_with fail
  refine (implImageOk _ F _ m ln f H0).mono ?_
  rintro e w1 ⟨rfl, L1⟩
  have c1 : w1.cell? ⟨w.heap.size, 0, none⟩ = some (.slice ia m icap) := (L1.cell (by simp; omega)).trans (by go_simp)
  have c2 : w1.cell? ⟨w.heap.size + 1, 0, none⟩ = some (.slice ua n ucap) := (L1.cell (by simp)).trans (by go_simp)
  have c3 : w1.cell? ⟨w.heap.size + 1, 1, none⟩ = some (.int .i64 bank) := (L1.cell (by simp)).trans (by go_simp)
  have C1 := L0.trans (L1.mono L0.size)
  have K1 := K0.keep (wrote_below L1 Nowhere) (fun _ _ _ x => x)
  clear L1 L0 H0 K0
  cases hI : okImg m ln f
  · have HE := hide (okMem_img (n := n) (g := g) (bank := bank) hI)
    clear hI
    go_wp2
    go_ret
    exact ⟨ret_bool HE.out.symm, C1⟩
  · have HI := hide hI
    clear hI
    cases hR : isRow n g 512
    · have HE := hide (okMem_row (m := m) (ln := ln) (f := f) (bank := bank) hR)
      go_wp2_with fail
      refine (isBytes _ G _ n g 512 K1).mono ?_
      rintro e wx ⟨rfl, rfl⟩
      rw [hR]
      go_wp2
      go_ret
      exact ⟨ret_bool HE.out.symm, C1⟩
    · obtain ⟨hn, hb⟩ := isRow_of hR
      have HN := hide hn
      have HB := hide hb
      clear hn hb
      by_cases b0 : 0 ≤ bank
      · by_cases b1 : bank < (m : Int)
        · have HE := hide (okMem_yes (bank := bank) (unhide HI) (unhide HN) (inB_yes ⟨b0, by omega⟩) (unhide HB))
          go_wp2_with fail
          refine (isBytes _ G _ n g 512 K1).mono ?_
          rintro e wx ⟨rfl, rfl⟩
          rw [hR]
          go_wp2
          go_ret
          exact ⟨ret_bool HE.out.symm, C1⟩
        · have HE := hide (okMem_bank (m := m) (ln := ln) (f := f) (n := n) (g := g) (inB_no (x := bank) (lo := 0) (hi := (m : Int) - 1) (by omega)))
          go_wp2_with fail
          refine (isBytes _ G _ n g 512 K1).mono ?_
          rintro e wx ⟨rfl, rfl⟩
          rw [hR]
          go_wp2
          go_ret
          exact ⟨ret_bool ((decide_eq_false (by omega)).trans HE.out.symm), C1⟩
      · have b0' : decide (0 ≤ bank) = false := decide_eq_false b0
        have HE := hide (okMem_bank (m := m) (ln := ln) (f := f) (n := n) (g := g) (inB_no (x := bank) (lo := 0) (hi := (m : Int) - 1) (by omega)))
        go_wp2_with fail
        refine (isBytes _ G _ n g 512 K1).mono ?_
        rintro e wx ⟨rfl, rfl⟩
        rw [hR]
        go_wp2
        go_ret
        exact ⟨ret_bool HE.out.symm, C1⟩
set_option maxHeartbeats 1000000 in
theorem readAt (w : World) (F G : Nat → Nat → Prop) (v u : Value) (m : Nat) (ln : Nat → Nat) (f : Nat → Nat → Int) (n : Nat) (g : Nat → Int) (bank a : Int) (a0 : 0 ≤ a) (a1 : a < 65536) (H : IntSS .i64 w F v m ln f) (K : Ints .i64 w G u n g) (ok : okMem m ln f n g bank = true) :
    Calls Tryz.prog 154 #[.agg #[v], .agg #[u, .int .i64 bank], rgV (rgN a) (rgP a)] w fun e w' => e = .returned (.int .i64 (peekOf m f g bank a)) ∧ Below w.heap.size w w' := by
  obtain ⟨hI, hn, ⟨hb0, hb1⟩, hr⟩ := okMem_of ok
  subst hn
  obtain ⟨hbk, hm1, hm8⟩ := okImg_of hI
  have L0 : Below w.heap.size w ((w.alloc (.cells #[v] 47)).alloc (.cells #[u, .int .i64 bank] 48)) := ((Below.refl _ _).alloc (Nat.le_refl _) _).alloc (by simp) _
  have LD : ∀ d, Below w.heap.size w (((w.alloc (.cells #[v] 47)).alloc (.cells #[u, .int .i64 bank] 48)).drewN d) := fun d => L0.trans ⟨rfl, rfl, rfl, Nat.le_refl _, fun _ _ => rfl⟩
  have H0 := H.keep (wrote_below L0 Nowhere) (fun _ _ _ x => x)
  have K0 := K.keep (wrote_below L0 Nowhere) (fun _ _ _ x => x)
  obtain ⟨ia, icap, rfl, im, -, hrows⟩ := H0
  obtain ⟨ua, ucap, rfl, un, hrow, -⟩ := K0
  obtain ⟨bk, rfl⟩ : ∃ bk : Nat, bank = bk := ⟨bank.toNat, by omega⟩
  have hcs := rg_cases _ a0 a1
  have HC := rgN_cases _ a0 a1
  have hbm : bk < m := by omega
  unfold peekOf
  rw [Int.toNat_natCast]
  generalize rgN a = rn at *
  generalize rgP a = rp at *
  clear a0 a1 ok hI hr
  rcases hcs with ⟨rfl, p0, p1⟩ | ⟨rfl, p0, p1⟩ | ⟨rfl, p0, p1⟩ | hrest
  · clear HC
    obtain ⟨k, rfl⟩ : ∃ k : Nat, rp = k := ⟨rp.toNat, by omega⟩
    obtain ⟨b, off, rfl, hc⟩ := hrow k (by omega)
    have hk : (k : Int) < 512 := by omega
    rw [if_pos rfl, Int.toNat_natCast, rgV1]
    have v1 := via1 (k : Int)
    have q1 := as11 (k : Int)
    go_enter Tryz.func154, Tryz.ntmps154
    go_wp2
    go_quiet ((go_at_call 182; exact Calls.quiet_of_same (partOf _ _)))
    go_wp2
    go_ret
    exact ⟨rfl, LD _⟩
  · clear HC
    obtain ⟨k, rfl⟩ : ∃ k : Nat, rp = k := ⟨rp.toNat, by omega⟩
    obtain ⟨b, off, y, rfl, hc, a', cap', rfl, hn', hrw, -⟩ := hrows bk hbm
    have hl : ln bk = 256 := (okBank_of (hbk bk hbm)).1
    obtain ⟨b', off', rfl, hc'⟩ := hrw k (by omega)
    have hk : (k : Int) < (ln bk : Int) := by omega
    have hbm' : (bk : Int) < (m : Int) := by omega
    rw [if_neg (by decide), if_pos rfl, Int.toNat_natCast, rgV5]
    have v1 := via5 (k : Int)
    have q1 := as51 (k : Int)
    have q5 := as55 (k : Int)
    clear hl
    go_enter Tryz.func154, Tryz.ntmps154
    go_wp2
    go_quiet ((go_at_call 182; exact Calls.quiet_of_same (partOf _ _)))
    go_wp2
    go_ret
    exact ⟨rfl, LD _⟩
  · clear HC
    obtain ⟨k, rfl⟩ : ∃ k : Nat, rp = k := ⟨rp.toNat, by omega⟩
    obtain ⟨q, rfl⟩ : ∃ q : Nat, m = q + 1 := ⟨m - 1, by omega⟩
    obtain ⟨b, off, y, rfl, hc, a', cap', rfl, hn', hrw, -⟩ := hrows q (by omega)
    have hl : ln q = 256 := (okBank_of (hbk q (by omega))).1
    obtain ⟨b', off', rfl, hc'⟩ := hrw k (by omega)
    have hk : (k : Int) < (ln q : Int) := by omega
    rw [if_neg (by decide), if_neg (by decide), if_pos rfl, Int.toNat_natCast, Nat.add_sub_cancel, rgV6]
    have v1 := via6 (k : Int)
    have q1 := as61 (k : Int)
    have q5 := as65 (k : Int)
    have q6 := as66 (k : Int)
    clear hl
    go_enter Tryz.func154, Tryz.ntmps154
    go_wp2
    go_quiet ((go_at_call 182; exact Calls.quiet_of_same (partOf _ _)))
    go_wp2
    go_ret
    exact ⟨rfl, LD _⟩
  · rw [if_neg (by omega), if_neg (by omega), if_neg (by omega)]
    rcases hrest with rfl | rfl | rfl | rfl
    · rw [rgV2]
      have q1 := as21 rp
      have q5 := as25 rp
      have q6 := as26 rp
      go_enter Tryz.func154, Tryz.ntmps154
      go_wp2
      go_ret
      exact ⟨rfl, L0⟩
    · rw [rgV3]
      have q1 := as31 rp
      have q5 := as35 rp
      have q6 := as36 rp
      go_enter Tryz.func154, Tryz.ntmps154
      go_wp2
      go_ret
      exact ⟨rfl, L0⟩
    · rw [rgV4]
      have q1 := as41 rp
      have q5 := as45 rp
      have q6 := as46 rp
      go_enter Tryz.func154, Tryz.ntmps154
      go_wp2
      go_ret
      exact ⟨rfl, L0⟩
    · rw [rgV7]
      have q1 := as71 rp
      have q5 := as75 rp
      have q6 := as76 rp
      go_enter Tryz.func154, Tryz.ntmps154
      go_wp2
      go_ret
      exact ⟨rfl, L0⟩
end Go.Proofs.YtjcaligejlhjdaaGreatDoor
namespace Go.Proofs.YtjcaligejlhjdaaGreatDoor
set_option linter.unusedVariables false
open Go.ChangeShapes Go.WideShapes Go.ChangeAt Go.RowKit
set_option maxHeartbeats 1000000 in
theorem implPeek (w : World) (F G : Nat → Nat → Prop) (v u : Value) (m : Nat) (ln : Nat → Nat) (f : Nat → Nat → Int) (n : Nat) (g : Nat → Int) (bank x : Int) (H : IntSS .i64 w F v m ln f) (K : Ints .i64 w G u n g) :
    Calls Tryz.prog 132 #[.agg #[v], .agg #[u, .int .i64 bank], .int .i64 x] w fun e w' => e = .returned (.int .i64 (peekV m ln f n g bank x)) ∧ Below w.heap.size w w' := by
  have L0 : Below w.heap.size w ((w.alloc (.cells #[v] 47)).alloc (.cells #[u, .int .i64 bank] 48)) := ((Below.refl _ _).alloc (Nat.le_refl _) _).alloc (by simp) _
  have H0 := H.keep (wrote_below L0 Nowhere) (fun _ _ _ x => x)
  have K0 := K.keep (wrote_below L0 Nowhere) (fun _ _ _ x => x)
  obtain ⟨ia, icap, rfl, im, -, -⟩ := H
  obtain ⟨ua, ucap, rfl, un, -, -⟩ := K
  have a0 : 0 ≤ x % 65536 := by omega
  have a1 : x % 65536 < 65536 := by omega
  go_enter Tryz.func132, Tryz.ntmps132
  go_wp2_with fail
  refine (implMemOk _ F G _ _ m ln f n g bank H0 K0).mono ?_
  rintro e w1 ⟨rfl, L1⟩
  have c1 : w1.cell? ⟨w.heap.size, 0, none⟩ = some (.slice ia m icap) := (L1.cell (by simp; omega)).trans (by go_simp)
  have c2 : w1.cell? ⟨w.heap.size + 1, 0, none⟩ = some (.slice ua n ucap) := (L1.cell (by simp)).trans (by go_simp)
  have c3 : w1.cell? ⟨w.heap.size + 1, 1, none⟩ = some (.int .i64 bank) := (L1.cell (by simp)).trans (by go_simp)
  have hz : w.heap.size + 2 ≤ w1.heap.size := by have := L1.size; simp at this; omega
  have C1 := L0.trans (L1.mono L0.size)
  have H1 := H0.keep (wrote_below L1 Nowhere) (fun _ _ _ x => x)
  have K1 := K0.keep (wrote_below L1 Nowhere) (fun _ _ _ x => x)
  clear L1 L0 H0 K0
  cases hO : okMem m ln f n g bank
  · have HE : Hid (peekV m ln f n g bank x = 0) := by show _ = _; unfold peekV; rw [hO]; rfl
    clear hO
    go_wp2
    go_ret
    exact ⟨ret_int HE.out.symm, C1⟩
  · have HE : Hid (peekV m ln f n g bank x = peekOf m f g bank (x % 65536)) := by show _ = _; unfold peekV; rw [hO]; rfl
    have HO := hide hO
    clear hO
    have HH := hide (show IntSS .i64 w1.drew F _ m ln f from H1)
    have HK := hide (show Ints .i64 w1.drew G _ n g from K1)
    clear H1 K1
    go_wp2_with fail
    go_region_held3 (fun w' => w'.cell? ⟨w.heap.size, 0, none⟩ = some (.slice ia m icap) ∧ w'.cell? ⟨w.heap.size + 1, 0, none⟩ = some (.slice ua n ucap) ∧ w'.cell? ⟨w.heap.size + 1, 1, none⟩ = some (.int .i64 bank)) (first | assumption | go_keep) (first | (go_at_call 138; refine (regionAt _ _ a0 a1).mono ?_; rintro e w' ⟨rfl, rfl⟩) | (go_at_call 154; refine (readAt _ F G _ _ m ln f n g bank _ a0 a1 (unhide HH) (unhide HK) (unhide HO)).mono ?_; rintro e w2 ⟨rfl, L2⟩; have d1 := (L2.cell (p := ⟨w.heap.size, 0, none⟩) (show w.heap.size < w1.heap.size by omega)).trans c1; have d2 := (L2.cell (p := ⟨w.heap.size + 1, 0, none⟩) (show w.heap.size + 1 < w1.heap.size by omega)).trans c2; have d3 := (L2.cell (p := ⟨w.heap.size + 1, 1, none⟩) (show w.heap.size + 1 < w1.heap.size by omega)).trans c3))
    all_goals
      go_wp2
      go_ret
      exact ⟨ret_int HE.out.symm, C1.trans (Below.trans (⟨rfl, rfl, rfl, Nat.le_refl _, fun _ _ => rfl⟩ : Below w.heap.size w1 w1.drew) (L2.mono C1.size))⟩
end Go.Proofs.YtjcaligejlhjdaaGreatDoor
