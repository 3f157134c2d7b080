/-
  Chapter 8 of the specification by its contracts: the picture unit.
-/
import Derived.Test.YtjcaligejlhjdaaGreatU8
import Derived.Test.YtjcaligejlhjdaaGreatG0
import Derived.Deep.QuietTactic
import Derived.BigQuiet
namespace Go.Proofs.YtjcaligejlhjdaaGreat
set_option linter.unusedVariables false
open Go.ChangeShapes Go.WideShapes Go.ChangeAt Go.RowKit
def dotsN (t : Int) : Int := if 48 < t % 64 then 0 else t % 64
def allIn (n : Nat) (f : Nat → Int) (lo hi : Int) : Bool := decide (∀ i, i < n → inB (f i) lo hi = true)
def okPpu (t c s ad pl : Int) (n : Nat) (f : Nat → Int) (m : Nat) (g : Nat → Int) : Bool := inB t 0 20000 && (inB c 0 255 && (inB s 0 255 && (inB ad 0 15 && (inB pl 0 63 && (decide (n = 16) && (decide ((m : Int) = dotsN t) && (allIn n f 0 63 && allIn m g 0 63)))))))
section
variable {t c s ad pl : Int} {n : Nat} {f : Nat → Int} {m : Nat} {g : Nat → Int}
theorem allIn_no {n : Nat} {f : Nat → Int} {lo hi : Int} {j : Nat} (hj : j < n) (h : ¬ (lo ≤ f j ∧ f j ≤ hi)) : allIn n f lo hi = false := decide_eq_false (fun x => h ((inB_iff _ _ _).1 (x j hj)))
theorem allIn_yes {n : Nat} {f : Nat → Int} {lo hi : Int} (h : ∀ j, j < n → lo ≤ f j ∧ f j ≤ hi) : allIn n f lo hi = true := decide_eq_true (fun i hi => inB_yes (h i hi))
theorem allIn_of {n : Nat} {f : Nat → Int} {lo hi : Int} (h : allIn n f lo hi = true) : ∀ j, j < n → lo ≤ f j ∧ f j ≤ hi := fun j hj => (inB_iff _ _ _).1 ((of_decide_eq_true h) j hj)
theorem okPpu_t (h : inB t 0 20000 = false) : okPpu t c s ad pl n f m g = false := by unfold okPpu; rw [h]; rfl
theorem okPpu_c (h : inB c 0 255 = false) : okPpu t c s ad pl n f m g = false := by unfold okPpu; rw [h]; simp
theorem okPpu_s (h : inB s 0 255 = false) : okPpu t c s ad pl n f m g = false := by unfold okPpu; rw [h]; simp
theorem okPpu_ad (h : inB ad 0 15 = false) : okPpu t c s ad pl n f m g = false := by unfold okPpu; rw [h]; simp
theorem okPpu_pl (h : inB pl 0 63 = false) : okPpu t c s ad pl n f m g = false := by unfold okPpu; rw [h]; simp
theorem okPpu_n (h : ¬ n = 16) : okPpu t c s ad pl n f m g = false := by unfold okPpu; rw [decide_eq_false h]; simp
theorem okPpu_m (h : ¬ (m : Int) = dotsN t) : okPpu t c s ad pl n f m g = false := by unfold okPpu; rw [decide_eq_false h]; simp
theorem okPpu_f {j : Nat} (hj : j < n) (h : ¬ (0 ≤ f j ∧ f j ≤ 63)) : okPpu t c s ad pl n f m g = false := by unfold okPpu; rw [allIn_no hj h]; simp
theorem okPpu_g {j : Nat} (hj : j < m) (h : ¬ (0 ≤ g j ∧ g j ≤ 63)) : okPpu t c s ad pl n f m g = false := by unfold okPpu; rw [allIn_no hj h]; simp
theorem okPpu_yes (h1 : inB t 0 20000 = true) (h2 : inB c 0 255 = true) (h3 : inB s 0 255 = true) (h4 : inB ad 0 15 = true) (h5 : inB pl 0 63 = true) (h6 : n = 16) (h7 : (m : Int) = dotsN t) (h8 : ∀ j, j < n → 0 ≤ f j ∧ f j ≤ 63) (h9 : ∀ j, j < m → 0 ≤ g j ∧ g j ≤ 63) : okPpu t c s ad pl n f m g = true := by
  unfold okPpu; rw [h1, h2, h3, h4, h5, decide_eq_true h6, decide_eq_true h7, allIn_yes h8, allIn_yes h9]; rfl
end
theorem l8Dots (w : World) (t : Int) (t0 : 0 ≤ t) (t1 : t ≤ 20000) : Calls Tryz.prog 149 #[.int .i64 t] w fun e w' => e = .returned (.int .i64 (dotsN t)) ∧ w' = w := by
  have hm : t.tmod 64 = t % 64 := Int.tmod_eq_emod_of_nonneg t0
  by_cases h : 48 < t % 64
  · have HE : Hid (dotsN t = 0) := if_pos h
    go_enter Tryz.func149, Tryz.ntmps149
    go_wp2
    go_ret
    exact ⟨ret_int HE.out.symm, rfl⟩
  · have HE : Hid (dotsN t = t % 64) := if_neg h
    go_enter Tryz.func149, Tryz.ntmps149
    go_wp2
    go_ret
    exact ⟨ret_int HE.out.symm, rfl⟩
set_option maxHeartbeats 2000000 in
theorem specPpuOk (w : World) (F G : Nat → Nat → Prop) (t c s ad pl : Int) (bl : Bool) (u u' : Value) (n : Nat) (f : Nat → Int) (m : Nat) (g : Nat → Int) (H : Ints .i64 w F u n f) (K : Ints .i64 w G u' m g) :
    Calls Tryz.prog 119 #[.agg #[.int .i64 t, .int .i64 c, .int .i64 s, .int .i64 ad, .int .i64 pl, .bool bl, u, u']] w fun e w' => e = .returned (.bool (okPpu t c s ad pl n f m g)) ∧ Below w.heap.size w w' := by
  obtain ⟨ua, ux, rfl, un, hr, -⟩ := H
  obtain ⟨va, vx, rfl, vn, hr', -⟩ := K
  have L0 : Below w.heap.size w (w.alloc (.cells #[.int .i64 t, .int .i64 c, .int .i64 s, .int .i64 ad, .int .i64 pl, .bool bl, .slice ua n ux, .slice va m vx] 35)) := (Below.refl _ _).alloc (Nat.le_refl _) _
  have k0 := boxC (box_new w #[.int .i64 t, .int .i64 c, .int .i64 s, .int .i64 ad, .int .i64 pl, .bool bl, .slice ua n ux, .slice va m vx] 35)
  have HR := hide (hr.keep (wrote_below L0 Nowhere) (fun _ _ _ x => x))
  have HR' := hide (hr'.keep (wrote_below L0 Nowhere) (fun _ _ _ x => x))
  clear hr hr'
  obtain ⟨b0, h0⟩ : ∃ b, b = inB t 0 20000 := ⟨_, rfl⟩
  have C0 : ∀ W : World, Calls Tryz.prog 87 #[.int .i64 t, .int .i64 0, .int .i64 20000] W fun e w' => e = .returned (.bool b0) ∧ w' = W := fun W => h0 ▸ l1In _ _ _ W
  obtain ⟨b1, h1⟩ : ∃ b, b = inB c 0 255 := ⟨_, rfl⟩
  have C1 : ∀ W : World, Calls Tryz.prog 86 #[.int .i64 c] W fun e w' => e = .returned (.bool b1) ∧ w' = W := fun W => h1 ▸ l5Byte W _
  obtain ⟨b2, h2⟩ : ∃ b, b = inB s 0 255 := ⟨_, rfl⟩
  have C2 : ∀ W : World, Calls Tryz.prog 86 #[.int .i64 s] W fun e w' => e = .returned (.bool b2) ∧ w' = W := fun W => h2 ▸ l5Byte W _
  obtain ⟨b3, h3⟩ : ∃ b, b = inB ad 0 15 := ⟨_, rfl⟩
  have C3 : ∀ W : World, Calls Tryz.prog 87 #[.int .i64 ad, .int .i64 0, .int .i64 15] W fun e w' => e = .returned (.bool b3) ∧ w' = W := fun W => h3 ▸ l1In _ _ _ W
  obtain ⟨b4, h4⟩ : ∃ b, b = inB pl 0 63 := ⟨_, rfl⟩
  have C4 : ∀ W : World, Calls Tryz.prog 87 #[.int .i64 pl, .int .i64 0, .int .i64 63] W fun e w' => e = .returned (.bool b4) ∧ w' = W := fun W => h4 ▸ l1In _ _ _ W
  have hd5 : ((n : Int) != 16) = !decide (n = 16) := by by_cases h : n = 16 <;> simp [h] <;> omega
  obtain ⟨b5, h5⟩ : ∃ b, b = decide (n = 16) := ⟨_, rfl⟩
  obtain ⟨b6, h6⟩ : ∃ b, b = decide ((m : Int) = dotsN t) := ⟨_, rfl⟩
  have hd6 : ((m : Int) != dotsN t) = !b6 := by rw [h6]; by_cases h : (m : Int) = dotsN t <;> simp [h]
  rw [← h5] at hd5
  generalize hdt : dotsN t = dn at *
  have HH := hide (And.intro h0 (And.intro h1 (And.intro h2 (And.intro h3 (And.intro h4 (And.intro h5 h6))))))
  have C6 : b0 = true → ∀ W : World, Calls Tryz.prog 149 #[.int .i64 t] W fun e w' => e = .returned (.int .i64 dn) ∧ w' = W := fun h W => by rw [← hdt]; rw [h0] at h; have hz := (inB_iff _ _ _).1 h; exact l8Dots W t hz.1 hz.2
  have HDT := hide hdt
  clear h0 h1 h2 h3 h4 h5 h6 hdt
  cases b0
  · have HE : Hid (okPpu t c s ad pl n f m g = false) := okPpu_t HH.out.1.symm
    go_enter Tryz.func119, Tryz.ntmps119
    go_upto_region 1 with (fail)
    generalize w.alloc (.cells #[.int .i64 t, .int .i64 c, .int .i64 s, .int .i64 ad, .int .i64 pl, .bool bl, .slice ua n ux, .slice va m vx] 35) = W at *
    go_quiet (first | (go_at_call 87; first | with_reducible exact Calls.quiet_of_same (C0 _) | with_reducible exact Calls.quiet_of_same (C3 _) | with_reducible exact Calls.quiet_of_same (C4 _)) | (go_at_call 86; first | with_reducible exact Calls.quiet_of_same (C1 _) | with_reducible exact Calls.quiet_of_same (C2 _)) | (go_at_call 149; exact Calls.quiet_of_same (C6 rfl _)))
    go_wp2
    go_ret
    exact ⟨ret_bool HE.out.symm, below_drewN L0 _⟩
  cases b1
  · have HE : Hid (okPpu t c s ad pl n f m g = false) := okPpu_c HH.out.2.1.symm
    go_enter Tryz.func119, Tryz.ntmps119
    go_upto_region 1 with (fail)
    generalize w.alloc (.cells #[.int .i64 t, .int .i64 c, .int .i64 s, .int .i64 ad, .int .i64 pl, .bool bl, .slice ua n ux, .slice va m vx] 35) = W at *
    go_quiet (first | (go_at_call 87; first | with_reducible exact Calls.quiet_of_same (C0 _) | with_reducible exact Calls.quiet_of_same (C3 _) | with_reducible exact Calls.quiet_of_same (C4 _)) | (go_at_call 86; first | with_reducible exact Calls.quiet_of_same (C1 _) | with_reducible exact Calls.quiet_of_same (C2 _)) | (go_at_call 149; exact Calls.quiet_of_same (C6 rfl _)))
    go_wp2
    go_ret
    exact ⟨ret_bool HE.out.symm, below_drewN L0 _⟩
  cases b2
  · have HE : Hid (okPpu t c s ad pl n f m g = false) := okPpu_s HH.out.2.2.1.symm
    go_enter Tryz.func119, Tryz.ntmps119
    go_upto_region 1 with (fail)
    generalize w.alloc (.cells #[.int .i64 t, .int .i64 c, .int .i64 s, .int .i64 ad, .int .i64 pl, .bool bl, .slice ua n ux, .slice va m vx] 35) = W at *
    go_quiet (first | (go_at_call 87; first | with_reducible exact Calls.quiet_of_same (C0 _) | with_reducible exact Calls.quiet_of_same (C3 _) | with_reducible exact Calls.quiet_of_same (C4 _)) | (go_at_call 86; first | with_reducible exact Calls.quiet_of_same (C1 _) | with_reducible exact Calls.quiet_of_same (C2 _)) | (go_at_call 149; exact Calls.quiet_of_same (C6 rfl _)))
    go_wp2
    go_ret
    exact ⟨ret_bool HE.out.symm, below_drewN L0 _⟩
  cases b3
  · have HE : Hid (okPpu t c s ad pl n f m g = false) := okPpu_ad HH.out.2.2.2.1.symm
    go_enter Tryz.func119, Tryz.ntmps119
    go_upto_region 1 with (fail)
    generalize w.alloc (.cells #[.int .i64 t, .int .i64 c, .int .i64 s, .int .i64 ad, .int .i64 pl, .bool bl, .slice ua n ux, .slice va m vx] 35) = W at *
    go_quiet (first | (go_at_call 87; first | with_reducible exact Calls.quiet_of_same (C0 _) | with_reducible exact Calls.quiet_of_same (C3 _) | with_reducible exact Calls.quiet_of_same (C4 _)) | (go_at_call 86; first | with_reducible exact Calls.quiet_of_same (C1 _) | with_reducible exact Calls.quiet_of_same (C2 _)) | (go_at_call 149; exact Calls.quiet_of_same (C6 rfl _)))
    go_wp2
    go_ret
    exact ⟨ret_bool HE.out.symm, below_drewN L0 _⟩
  cases b4
  · have HE : Hid (okPpu t c s ad pl n f m g = false) := okPpu_pl HH.out.2.2.2.2.1.symm
    go_enter Tryz.func119, Tryz.ntmps119
    go_upto_region 1 with (fail)
    generalize w.alloc (.cells #[.int .i64 t, .int .i64 c, .int .i64 s, .int .i64 ad, .int .i64 pl, .bool bl, .slice ua n ux, .slice va m vx] 35) = W at *
    go_quiet (first | (go_at_call 87; first | with_reducible exact Calls.quiet_of_same (C0 _) | with_reducible exact Calls.quiet_of_same (C3 _) | with_reducible exact Calls.quiet_of_same (C4 _)) | (go_at_call 86; first | with_reducible exact Calls.quiet_of_same (C1 _) | with_reducible exact Calls.quiet_of_same (C2 _)) | (go_at_call 149; exact Calls.quiet_of_same (C6 rfl _)))
    go_wp2
    go_ret
    exact ⟨ret_bool HE.out.symm, below_drewN L0 _⟩
  cases b5
  · have HE : Hid (okPpu t c s ad pl n f m g = false) := okPpu_n (of_decide_eq_false HH.out.2.2.2.2.2.1.symm)
    go_enter Tryz.func119, Tryz.ntmps119
    go_upto_region 1 with (fail)
    generalize w.alloc (.cells #[.int .i64 t, .int .i64 c, .int .i64 s, .int .i64 ad, .int .i64 pl, .bool bl, .slice ua n ux, .slice va m vx] 35) = W at *
    go_quiet (first | (go_at_call 87; first | with_reducible exact Calls.quiet_of_same (C0 _) | with_reducible exact Calls.quiet_of_same (C3 _) | with_reducible exact Calls.quiet_of_same (C4 _)) | (go_at_call 86; first | with_reducible exact Calls.quiet_of_same (C1 _) | with_reducible exact Calls.quiet_of_same (C2 _)) | (go_at_call 149; exact Calls.quiet_of_same (C6 rfl _)))
    go_wp2
    go_ret
    exact ⟨ret_bool HE.out.symm, below_drewN L0 _⟩
  cases b6
  · have HE : Hid (okPpu t c s ad pl n f m g = false) := okPpu_m (of_decide_eq_false (HDT.out ▸ HH.out.2.2.2.2.2.2.symm))
    go_enter Tryz.func119, Tryz.ntmps119
    go_upto_region 1 with (fail)
    generalize w.alloc (.cells #[.int .i64 t, .int .i64 c, .int .i64 s, .int .i64 ad, .int .i64 pl, .bool bl, .slice ua n ux, .slice va m vx] 35) = W at *
    go_quiet (first | (go_at_call 87; first | with_reducible exact Calls.quiet_of_same (C0 _) | with_reducible exact Calls.quiet_of_same (C3 _) | with_reducible exact Calls.quiet_of_same (C4 _)) | (go_at_call 86; first | with_reducible exact Calls.quiet_of_same (C1 _) | with_reducible exact Calls.quiet_of_same (C2 _)) | (go_at_call 149; exact Calls.quiet_of_same (C6 rfl _)))
    go_wp2
    go_ret
    exact ⟨ret_bool HE.out.symm, below_drewN L0 _⟩
  go_enter Tryz.func119, Tryz.ntmps119
  go_upto_region 1 with (fail)
  generalize w.alloc (.cells #[.int .i64 t, .int .i64 c, .int .i64 s, .int .i64 ad, .int .i64 pl, .bool bl, .slice ua n ux, .slice va m vx] 35) = W at *
  go_quiet (first | (go_at_call 87; first | with_reducible exact Calls.quiet_of_same (C0 _) | with_reducible exact Calls.quiet_of_same (C3 _) | with_reducible exact Calls.quiet_of_same (C4 _)) | (go_at_call 86; first | with_reducible exact Calls.quiet_of_same (C1 _) | with_reducible exact Calls.quiet_of_same (C2 _)) | (go_at_call 149; exact Calls.quiet_of_same (C6 rfl _)))
  have LD := below_drewN L0
  have hn16 : n = 16 := of_decide_eq_true HH.out.2.2.2.2.2.1.symm
  subst hn16
  clear C0 C1 C2 C3 C4 C6 hd5 hd6
  go_wp2
  go_loop [3] (fun j => ∃ r : Nat, r ≤ 16 ∧ j = .int .i64 r ∧ ∀ i, i < r → 0 ≤ f i ∧ f i ≤ 63) (fun i => 16 - (intOf i).toNat)
  case atStart => exact ⟨0, Nat.zero_le _, rfl, fun i hi => absurd hi (Nat.not_lt_zero _)⟩
  case round =>
    obtain ⟨r, hr, rfl, hby⟩ := hrel
    have HY := hide hby
    clear hby
    by_cases hrt : r < 16
    · obtain ⟨b', off', rfl, hcell'⟩ := HR.out r (by omega)
      have hrt' : (r : Int) < 16 := by omega
      by_cases hin : 0 ≤ f r ∧ f r ≤ 63
      · have hin' := inB_yes hin
        have HX := hide hin
        clear hin
        go_wp2_with fail
        refine (l1In _ _ _ _).mono ?_
        rintro e w1 ⟨rfl, rfl⟩
        go_wp2
        go_round
        case rel =>
          refine ⟨r + 1, by omega, by go_num, fun i hi => ?_⟩
          by_cases e : i = r
          · rw [e]; exact unhide HX
          · exact unhide HY i (by omega)
        case measure => simp [intOf]; omega
      · have hin' := inB_no hin
        have HE := hide (okPpu_f (t := t) (c := c) (s := s) (ad := ad) (pl := pl) (m := m) (g := g) hrt hin)
        clear hin
        go_wp2_with fail
        refine (l1In _ _ _ _).mono ?_
        rintro e w1 ⟨rfl, rfl⟩
        go_wp2
        go_ret
        exact ⟨ret_bool HE.out.symm, LD _⟩
    · have hrt' : ¬ (r : Int) < 16 := by omega
      have HT : Hid (∀ j, j < 16 → 0 ≤ f j ∧ f j ≤ 63) := fun j hj => unhide HY j (by omega)
      clear HY hrt
      go_wp2
      go_loop [4] (fun j => ∃ r : Nat, r ≤ m ∧ j = .int .i64 r ∧ ∀ i, i < r → 0 ≤ g i ∧ g i ≤ 63) (fun i => m - (intOf i).toNat)
      case atStart => exact ⟨0, Nat.zero_le _, rfl, fun i hi => absurd hi (Nat.not_lt_zero _)⟩
      case round =>
        obtain ⟨q, hq, rfl, hby⟩ := hrel
        have HY := hide hby
        clear hby
        by_cases hqt : q < m
        · obtain ⟨b', off', rfl, hcell'⟩ := HR'.out q (by omega)
          have hqt' : (q : Int) < (m : Int) := by omega
          by_cases hin : 0 ≤ g q ∧ g q ≤ 63
          · have hin' := inB_yes hin
            have HX := hide hin
            clear hin
            go_wp2_with fail
            refine (l1In _ _ _ _).mono ?_
            rintro e w1 ⟨rfl, rfl⟩
            go_wp2
            go_round
            case rel =>
              refine ⟨q + 1, by omega, by go_num, fun i hi => ?_⟩
              by_cases e : i = q
              · rw [e]; exact unhide HX
              · exact unhide HY i (by omega)
            case measure => simp [intOf]; omega
          · have hin' := inB_no hin
            have HE := hide (okPpu_g (t := t) (c := c) (s := s) (ad := ad) (pl := pl) (n := 16) (f := f) hqt hin)
            clear hin
            go_wp2_with fail
            refine (l1In _ _ _ _).mono ?_
            rintro e w1 ⟨rfl, rfl⟩
            go_wp2
            go_ret
            exact ⟨ret_bool HE.out.symm, LD _⟩
        · have hqt' : ¬ (q : Int) < (m : Int) := by omega
          have HE := hide (okPpu_yes (f := f) (g := g) HH.out.1.symm HH.out.2.1.symm HH.out.2.2.1.symm HH.out.2.2.2.1.symm HH.out.2.2.2.2.1.symm rfl (of_decide_eq_true (HDT.out ▸ HH.out.2.2.2.2.2.2.symm)) HT.out (fun j hj => unhide HY j (by omega)))
          go_wp2
          go_ret
          exact ⟨ret_bool HE.out.symm, LD _⟩
end Go.Proofs.YtjcaligejlhjdaaGreat
