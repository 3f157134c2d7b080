/-
  The specification's memory (chapter 6) by its contracts: MemOk, Peek.
-/
import Derived.Test.YtjcaligejlhjdaaGreatDoorC6
namespace Go.Proofs.YtjcaligejlhjdaaGreatDoor
set_option linter.unusedVariables false
open Go.ChangeShapes Go.WideShapes Go.ChangeAt Go.RowKit
def okRam (n : Nat) (g : Nat → Int) : Bool := decide (∀ i, i < n → inB (g i) 0 255 = true)
def okMem (m : Nat) (ln : Nat → Nat) (f : Nat → Nat → Int) (n : Nat) (g : Nat → Int) (bank : Int) : Bool := okImg m ln f && (decide (n = 512) && (inB bank 0 ((m : Int) - 1) && okRam n g))
theorem okMem_img {m : Nat} {ln : Nat → Nat} {f : Nat → Nat → Int} {n : Nat} {g : Nat → Int} {bank : Int} (h : okImg m ln f = false) : okMem m ln f n g bank = false := by unfold okMem; rw [h]; rfl
theorem okMem_len {m : Nat} {ln : Nat → Nat} {f : Nat → Nat → Int} {n : Nat} {g : Nat → Int} {bank : Int} (h : ¬ n = 512) : okMem m ln f n g bank = false := by unfold okMem; rw [decide_eq_false h]; simp
theorem okMem_bank {m : Nat} {ln : Nat → Nat} {f : Nat → Nat → Int} {n : Nat} {g : Nat → Int} {bank : Int} (h : inB bank 0 ((m : Int) - 1) = false) : okMem m ln f n g bank = false := by unfold okMem; rw [h]; simp
theorem okMem_ram {m : Nat} {ln : Nat → Nat} {f : Nat → Nat → Int} {n : Nat} {g : Nat → Int} {bank : Int} {j : Nat} (hj : j < n) (h : ¬ (0 ≤ g j ∧ g j ≤ 255)) : okMem m ln f n g bank = false := by
  have : okRam n g = false := decide_eq_false (fun x => h ((inB_iff _ _ _).1 (x j hj)))
  unfold okMem
  rw [this]
  simp
theorem okMem_yes {m : Nat} {ln : Nat → Nat} {f : Nat → Nat → Int} {n : Nat} {g : Nat → Int} {bank : Int} (h1 : okImg m ln f = true) (h2 : n = 512) (h3 : inB bank 0 ((m : Int) - 1) = true) (h4 : ∀ j, j < 512 → 0 ≤ g j ∧ g j ≤ 255) : okMem m ln f n g bank = true := by
  have : okRam n g = true := decide_eq_true (fun i hi => inB_yes (h4 i (by omega)))
  unfold okMem
  rw [h1, decide_eq_true h2, h3, this]
  rfl
theorem okMem_of {m : Nat} {ln : Nat → Nat} {f : Nat → Nat → Int} {n : Nat} {g : Nat → Int} {bank : Int} (h : okMem m ln f n g bank = true) : okImg m ln f = true ∧ n = 512 ∧ (0 ≤ bank ∧ bank ≤ (m : Int) - 1) ∧ ∀ j, j < 512 → 0 ≤ g j ∧ g j ≤ 255 := by
  unfold okMem at h
  rw [Bool.and_eq_true, Bool.and_eq_true, Bool.and_eq_true] at h
  have hn : n = 512 := of_decide_eq_true h.2.1
  have hr : ∀ i, i < n → inB (g i) 0 255 = true := of_decide_eq_true h.2.2.2
  exact ⟨h.1, hn, (inB_iff _ _ _).1 h.2.2.1, fun j hj => (inB_iff _ _ _).1 (hr j (by omega))⟩
set_option maxHeartbeats 1000000 in
theorem specMemOk (w : World) (F G : Nat → Nat → Prop) (v u : Value) (m : Nat) (ln : Nat → Nat) (f : Nat → Nat → Int) (n : Nat) (g : Nat → Int) (bank : Int) (H : IntSS .i64 w F v m ln f) (K : Ints .i64 w G u n g) :
    Calls Tryz.prog 37 #[.agg #[v], .agg #[u, .int .i64 bank]] w fun e w' => e = .returned (.bool (okMem m ln f n g bank)) ∧ Below w.heap.size w w' := by
  have L0 : Below w.heap.size w ((w.alloc (.cells #[v] 47)).alloc (.cells #[u, .int .i64 bank] 48)) := ((Below.refl _ _).alloc (Nat.le_refl _) _).alloc (by simp) _
  have H0 := H.keep (wrote_below L0 Nowhere) (fun _ _ _ x => x)
  have K0 := K.keep (wrote_below L0 Nowhere) (fun _ _ _ x => x)
  obtain ⟨ia, icap, rfl, im, -, -⟩ := H
  obtain ⟨ua, ucap, rfl, un, -, -⟩ := K
  go_enter Tryz.func37, Tryz.ntmps37
  go_wp2_with fail
  refine (specImageOk _ F _ m ln f H0).mono ?_
  rintro e w1 ⟨rfl, L1⟩
  have c1 : w1.cell? ⟨w.heap.size, 0, none⟩ = some (.slice ia m icap) := (L1.cell (by simp; omega)).trans (by go_simp)
  have c2 : w1.cell? ⟨w.heap.size + 1, 0, none⟩ = some (.slice ua n ucap) := (L1.cell (by simp)).trans (by go_simp)
  have c3 : w1.cell? ⟨w.heap.size + 1, 1, none⟩ = some (.int .i64 bank) := (L1.cell (by simp)).trans (by go_simp)
  have C1 := L0.trans (L1.mono L0.size)
  have K1 := K0.keep (wrote_below L1 Nowhere) (fun _ _ _ x => x)
  clear L1 L0 H0 K0
  cases hI : okImg m ln f
  · have HE := hide (okMem_img (n := n) (g := g) (bank := bank) hI)
    clear hI
    go_wp2
    go_ret
    exact ⟨ret_bool HE.out.symm, C1⟩
  · have HI := hide hI
    clear hI
    by_cases hn : n = 512
    · have hn' : ((n : Int) != 512) = false := by simp; omega
      have HN := hide hn
      have hn5 : 512 ≤ n := by omega
      clear hn
      cases hB : inB bank 0 ((m : Int) - 1)
      · have HE := hide (okMem_bank (ln := ln) (f := f) (n := n) (g := g) hB)
        go_wp2_with fail
        refine (l1In _ _ _ _).mono ?_
        rintro e wx ⟨rfl, rfl⟩
        rw [hB]
        go_wp2
        go_ret
        exact ⟨ret_bool HE.out.symm, C1⟩
      · have HB := hide hB
        go_wp2_with fail
        refine (l1In _ _ _ _).mono ?_
        rintro e wx ⟨rfl, rfl⟩
        rw [hB]
        clear hB
        obtain ⟨a', cap', e', hn', hrow, -⟩ := K1
        simp only [Value.slice.injEq] at e'
        obtain ⟨rfl, -, rfl⟩ := e'
        go_wp2
        go_loop [5] (fun j => ∃ r : Nat, r ≤ 512 ∧ j = .int .i64 r ∧ ∀ i, i < r → 0 ≤ g i ∧ g i ≤ 255) (fun i => 512 - (intOf i).toNat)
        case atStart => exact ⟨0, Nat.zero_le _, rfl, fun i hi => absurd hi (Nat.not_lt_zero _)⟩
        case round =>
          obtain ⟨r, hr, rfl, hby⟩ := hrel
          have HY := hide hby
          clear hby
          by_cases hrt : r < 512
          · obtain ⟨b', off', rfl, hcell'⟩ := hrow r (by omega)
            have hrt' : (r : Int) < 512 := by omega
            have hrl : (r : Int) < (n : Int) := by omega
            by_cases hin : 0 ≤ g r ∧ g r ≤ 255
            · have hin' := inB_yes hin
              have HX := hide hin
              clear hin
              go_wp2_with fail
              refine (l5Byte _ _).mono ?_
              rintro e w1 ⟨rfl, rfl⟩
              go_wp2
              go_round
              case rel =>
                refine ⟨r + 1, by omega, by go_num, fun i hi => ?_⟩
                by_cases e : i = r
                · rw [e]; exact unhide HX
                · exact unhide HY i (by omega)
              case measure => simp [intOf]; omega
            · have hin' := inB_no hin
              have HE := hide (okMem_ram (m := m) (ln := ln) (f := f) (n := n) (bank := bank) (show r < n by omega) hin)
              clear hin
              go_wp2_with fail
              refine (l5Byte _ _).mono ?_
              rintro e w1 ⟨rfl, rfl⟩
              go_wp2
              go_ret
              exact ⟨ret_bool HE.out.symm, C1⟩
          · have hrt' : ¬ (r : Int) < 512 := by omega
            have HE := hide (okMem_yes (unhide HI) (unhide HN) (unhide HB) (fun j hj => unhide HY j (by omega)))
            go_wp2
            go_ret
            exact ⟨ret_bool HE.out.symm, C1⟩
    · have hn' : ((n : Int) != 512) = true := by simp; omega
      have HE := hide (okMem_len (m := m) (ln := ln) (f := f) (g := g) (bank := bank) hn)
      clear hn
      go_wp2
      go_ret
      exact ⟨ret_bool HE.out.symm, C1⟩
def peekOf (m : Nat) (f : Nat → Nat → Int) (g : Nat → Int) (bank a : Int) : Int := if rgN a = 1 then g (rgP a).toNat else if rgN a = 5 then f bank.toNat (rgP a).toNat else if rgN a = 6 then f (m - 1) (rgP a).toNat else 0
theorem rg_cases (a : Int) (h0 : 0 ≤ a) (h1 : a < 65536) : (rgN a = 1 ∧ 0 ≤ rgP a ∧ rgP a < 512) ∨ (rgN a = 5 ∧ 0 ≤ rgP a ∧ rgP a < 256) ∨ (rgN a = 6 ∧ 0 ≤ rgP a ∧ rgP a < 256) ∨ (rgN a = 2 ∨ rgN a = 3 ∨ rgN a = 4 ∨ rgN a = 7) := by
  unfold rgN rgP
  repeat' split
  all_goals omega
set_option maxHeartbeats 1000000 in
theorem l6Peek (w : World) (F G : Nat → Nat → Prop) (v u : Value) (m : Nat) (ln : Nat → Nat) (f : Nat → Nat → Int) (n : Nat) (g : Nat → Int) (bank x : Int) (H : IntSS .i64 w F v m ln f) (K : Ints .i64 w G u n g) (ok : okMem m ln f n g bank = true) :
    Calls Tryz.prog 119 #[.agg #[v], .agg #[u, .int .i64 bank], .int .i64 x] w fun e w' => e = .returned (.int .i64 (peekOf m f g bank (x % 65536))) ∧ Below w.heap.size w w' := by
  obtain ⟨hI, hn, ⟨hb0, hb1⟩, hr⟩ := okMem_of ok
  subst hn
  obtain ⟨hbk, hm1, hm8⟩ := okImg_of hI
  have L0 : Below w.heap.size w ((w.alloc (.cells #[v] 47)).alloc (.cells #[u, .int .i64 bank] 48)) := ((Below.refl _ _).alloc (Nat.le_refl _) _).alloc (by simp) _
  have H0 := H.keep (wrote_below L0 Nowhere) (fun _ _ _ x => x)
  have K0 := K.keep (wrote_below L0 Nowhere) (fun _ _ _ x => x)
  obtain ⟨ia, icap, rfl, im, -, hrows⟩ := H0
  obtain ⟨ua, ucap, rfl, un, hrow, -⟩ := K0
  have a0 : 0 ≤ x % 65536 := by omega
  have a1 : x % 65536 < 65536 := by omega
  obtain ⟨bk, rfl⟩ : ∃ bk : Nat, bank = bk := ⟨bank.toNat, by omega⟩
  have hcs := rg_cases _ a0 a1
  have hbm : bk < m := by omega
  have hreg := specRegion ((w.alloc (.cells #[.slice ia m icap] 47)).alloc (.cells #[.slice ua 512 ucap, .int .i64 (bk : Int)] 48)) x
  unfold peekOf
  rw [Int.toNat_natCast]
  generalize rgN (x % 65536) = rn at *
  generalize rgP (x % 65536) = rp at *
  have HREG := hide hreg
  clear hreg a0 a1 ok hI hr
  rcases hcs with ⟨rfl, p0, p1⟩ | ⟨rfl, p0, p1⟩ | ⟨rfl, p0, p1⟩ | hrest
  · obtain ⟨k, rfl⟩ : ∃ k : Nat, rp = k := ⟨rp.toNat, by omega⟩
    obtain ⟨b, off, rfl, hc⟩ := hrow k (by omega)
    have hk : (k : Int) < 512 := by omega
    rw [if_pos rfl, Int.toNat_natCast]
    go_enter Tryz.func119, Tryz.ntmps119
    go_wp2_with fail
    refine (unhide HREG).mono ?_
    rintro e w1 ⟨rfl, hw1⟩
    rw [hw1]
    go_wp2
    go_ret
    exact ⟨rfl, L0⟩
  · obtain ⟨k, rfl⟩ : ∃ k : Nat, rp = k := ⟨rp.toNat, by omega⟩
    obtain ⟨b, off, y, rfl, hc, a', cap', rfl, hn', hrw, -⟩ := hrows bk hbm
    have hl : ln bk = 256 := (okBank_of (hbk bk hbm)).1
    obtain ⟨b', off', rfl, hc'⟩ := hrw k (by omega)
    have hk : (k : Int) < (ln bk : Int) := by omega
    have hbm' : (bk : Int) < (m : Int) := by omega
    rw [if_neg (by decide), if_pos rfl, Int.toNat_natCast]
    go_enter Tryz.func119, Tryz.ntmps119
    go_wp2_with fail
    refine (unhide HREG).mono ?_
    rintro e w1 ⟨rfl, hw1⟩
    rw [hw1]
    clear hl
    go_wp2
    go_ret
    exact ⟨rfl, L0⟩
  · obtain ⟨k, rfl⟩ : ∃ k : Nat, rp = k := ⟨rp.toNat, by omega⟩
    obtain ⟨q, rfl⟩ : ∃ q : Nat, m = q + 1 := ⟨m - 1, by omega⟩
    obtain ⟨b, off, y, rfl, hc, a', cap', rfl, hn', hrw, -⟩ := hrows q (by omega)
    have hl : ln q = 256 := (okBank_of (hbk q (by omega))).1
    obtain ⟨b', off', rfl, hc'⟩ := hrw k (by omega)
    have hk : (k : Int) < (ln q : Int) := by omega
    rw [if_neg (by decide), if_neg (by decide), if_pos rfl, Int.toNat_natCast, Nat.add_sub_cancel]
    go_enter Tryz.func119, Tryz.ntmps119
    go_wp2_with fail
    refine (unhide HREG).mono ?_
    rintro e w1 ⟨rfl, hw1⟩
    rw [hw1]
    clear hl
    go_wp2
    go_ret
    exact ⟨rfl, L0⟩
  · rw [if_neg (by omega), if_neg (by omega), if_neg (by omega)]
    have e1 : (rn == 1) = false := by simp; omega
    have e5 : (rn == 5) = false := by simp; omega
    have e6 : (rn == 6) = false := by simp; omega
    clear hrest
    go_enter Tryz.func119, Tryz.ntmps119
    go_wp2_with fail
    refine (unhide HREG).mono ?_
    rintro e w1 ⟨rfl, hw1⟩
    rw [hw1]
    go_wp2
    go_ret
    exact ⟨rfl, L0⟩
def peekV (m : Nat) (ln : Nat → Nat) (f : Nat → Nat → Int) (n : Nat) (g : Nat → Int) (bank x : Int) : Int := if okMem m ln f n g bank then peekOf m f g bank (x % 65536) else 0
theorem specPeek (w : World) (F G : Nat → Nat → Prop) (v u : Value) (m : Nat) (ln : Nat → Nat) (f : Nat → Nat → Int) (n : Nat) (g : Nat → Int) (bank x : Int) (H : IntSS .i64 w F v m ln f) (K : Ints .i64 w G u n g) :
    Calls Tryz.prog 81 #[.agg #[v], .agg #[u, .int .i64 bank], .int .i64 x] w fun e w' => e = .returned (.int .i64 (peekV m ln f n g bank x)) ∧ Below w.heap.size w w' := by
  have L0 : Below w.heap.size w ((w.alloc (.cells #[v] 47)).alloc (.cells #[u, .int .i64 bank] 48)) := ((Below.refl _ _).alloc (Nat.le_refl _) _).alloc (by simp) _
  have H0 := H.keep (wrote_below L0 Nowhere) (fun _ _ _ x => x)
  have K0 := K.keep (wrote_below L0 Nowhere) (fun _ _ _ x => x)
  obtain ⟨ia, icap, rfl, im, -, -⟩ := H
  obtain ⟨ua, ucap, rfl, un, -, -⟩ := K
  go_enter Tryz.func81, Tryz.ntmps81
  go_wp2_with fail
  refine (specMemOk _ F G _ _ m ln f n g bank H0 K0).mono ?_
  rintro e w1 ⟨rfl, L1⟩
  have c1 : w1.cell? ⟨w.heap.size, 0, none⟩ = some (.slice ia m icap) := (L1.cell (by simp; omega)).trans (by go_simp)
  have c2 : w1.cell? ⟨w.heap.size + 1, 0, none⟩ = some (.slice ua n ucap) := (L1.cell (by simp)).trans (by go_simp)
  have c3 : w1.cell? ⟨w.heap.size + 1, 1, none⟩ = some (.int .i64 bank) := (L1.cell (by simp)).trans (by go_simp)
  have C1 := L0.trans (L1.mono L0.size)
  have H1 := H0.keep (wrote_below L1 Nowhere) (fun _ _ _ x => x)
  have K1 := K0.keep (wrote_below L1 Nowhere) (fun _ _ _ x => x)
  clear L1 L0 H0 K0
  cases hO : okMem m ln f n g bank
  · have HE : Hid (peekV m ln f n g bank x = 0) := by show _ = _; unfold peekV; rw [hO]; rfl
    clear hO
    go_wp2
    go_ret
    exact ⟨ret_int HE.out.symm, C1⟩
  · have HE : Hid (peekV m ln f n g bank x = peekOf m f g bank (x % 65536)) := by show _ = _; unfold peekV; rw [hO]; rfl
    have HO := hide hO
    clear hO
    go_wp2_with fail
    refine (l6Peek _ F G _ _ m ln f n g bank x H1 K1 (unhide HO)).mono ?_
    rintro e w2 ⟨rfl, L2⟩
    go_wp2
    go_ret
    exact ⟨ret_int HE.out.symm, C1.trans (L2.mono C1.size)⟩
end Go.Proofs.YtjcaligejlhjdaaGreatDoor
