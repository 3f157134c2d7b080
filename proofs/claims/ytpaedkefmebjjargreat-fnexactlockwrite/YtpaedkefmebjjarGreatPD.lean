/-
  Chapter 11 by its contracts: the mirror of a pad, and the specification's functions on it.
-/
import Derived.Test.YtpaedkefmebjjarGreatC5
import Derived.Test.YtpaedkefmebjjarGreatB9
import Derived.Deep.DeepCutAuto
namespace Go.Proofs.YtpaedkefmebjjarGreat
set_option linter.unusedVariables false
set_option linter.unusedSimpArgs false
open Go.ChangeShapes Go.WideShapes Go.ChangeAt Go.RowKit
def okPads (n : Nat) (f : Nat → Int) : Bool := decide ((∀ i, i < n → 0 ≤ f i ∧ f i ≤ 255) ∧ n ≤ 20)
theorem okPads_no {n : Nat} {f : Nat → Int} {j : Nat} (hj : j < n) (h : ¬ (0 ≤ f j ∧ f j ≤ 255)) : okPads n f = false := decide_eq_false (fun x => h (x.1 j hj))
theorem okPads_all {n : Nat} {f : Nat → Int} (h : ∀ j, j < n → 0 ≤ f j ∧ f j ≤ 255) : okPads n f = decide (n ≤ 20) := decide_eq_decide.2 ⟨fun x => x.2, fun x => ⟨h, x⟩⟩
theorem okPads_of {n : Nat} {f : Nat → Int} (h : okPads n f = true) : (∀ j, j < n → 0 ≤ f j ∧ f j ≤ 255) ∧ n ≤ 20 := of_decide_eq_true h
def padAt (n : Nat) (f : Nat → Int) (t : Int) : Int := if okPads n f = true ∧ 0 < n then f ((max t 0 / 64) % n).toNat else 0
theorem padAt_in (n : Nat) (f : Nat → Int) (t : Int) : 0 ≤ padAt n f t ∧ padAt n f t ≤ 255 := by
  unfold padAt
  split
  · rename_i h
    have h2 := h.2
    have hm : max t 0 / 64 % (n : Int) < n := Int.emod_lt_of_pos _ (by omega)
    have hm0 : 0 ≤ max t 0 / 64 % (n : Int) := Int.emod_nonneg _ (by omega)
    exact (okPads_of h.1).1 _ (by omega)
  · omega
/- What is held behind a write, and the byte that is told from then on. -/
def heldW (v : Int) : Bool := v % 2 == 1
def shiftW (H : Bool) (S : Int) (n : Nat) (f : Nat → Int) (t v : Int) : Int := if (H || heldW v) = true then padAt n f t else S
def shiftR (H : Bool) (S : Int) (n : Nat) (f : Nat → Int) (t : Int) : Int := if H = true then padAt n f t else S / 2
def bitR (H : Bool) (S : Int) (n : Nat) (f : Nat → Int) (t : Int) : Int := if H = true then padAt n f t % 2 else S % 2
theorem i64_and1 (v : Int) : bits .and .i64 v 1 = v % 2 := by
  have h := i64_and_byte v 1 (by omega)
  have e : ((v % 256).toNat &&& 1) = (v % 256).toNat % 2 := Nat.and_one_is_mod _
  rw [show ((1 : Nat) : Int) = (1 : Int) from rfl] at h
  rw [h, e]
  omega
theorem toPad (w : World) (H : Bool) (S : Int) : Calls Tryz.prog 28 #[.agg #[.bool H, .int .i64 S]] w
    fun e w' => e = .returned (.agg #[.bool H, .int .i64 S]) ∧ Below w.heap.size w w' := by
  go_enter Tryz.func28, Tryz.ntmps28
  go_wp2
  refine bodyPost_ret (v := .agg #[.bool H, .int .i64 S]) (by simp [results, Tryz.results28, go_sem]) rfl ?_
  exact ⟨rfl, (((Below.refl _ _).alloc (Nat.le_refl _) _).alloc (by simp) _).alloc (by simp; omega) _⟩
theorem eqPad_same (w : World) (H : Bool) (S : Int) : Calls Tryz.prog 39 #[.agg #[.bool H, .int .i64 S], .agg #[.bool H, .int .i64 S]] w
    fun e w' => e = .returned (.bool true) ∧ Below w.heap.size w w' := by
  go_enter Tryz.func39, Tryz.ntmps39
  go_wp2
  go_ret
  exact ⟨rfl, ((Below.refl _ _).alloc (Nat.le_refl _) _).alloc (by simp) _⟩
set_option maxHeartbeats 1000000 in
theorem specPadsOk (w : World) (F : Nat → Nat → Prop) (u : Value) (n : Nat) (f : Nat → Int) (H : Ints .i64 w F u n f) :
    Calls Tryz.prog 58 #[u] w fun e w' => e = .returned (.bool (okPads n f)) ∧ w' = w := by
  obtain ⟨a, cap, rfl, hn, hr, -⟩ := H
  have HR := hide hr
  clear hr
  go_enter Tryz.func58, Tryz.ntmps58
  go_wp2
  go_loopw [3] (fun i wr => wr = w ∧ ∃ k : Nat, k ≤ n ∧ i = .int .i64 k ∧ ∀ j, j < k → 0 ≤ f j ∧ f j ≤ 255) (fun i _ => n - (intOf i).toNat)
  case atStart => exact ⟨rfl, 0, Nat.zero_le _, rfl, fun j hj => absurd hj (Nat.not_lt_zero _)⟩
  case round =>
    obtain ⟨rfl, k, hk, rfl, hall⟩ := hrel
    have HA := hide hall
    clear hall
    by_cases hlt : k < n
    · have hlt' : (k : Int) < (n : Int) := by omega
      obtain ⟨b, o, rfl, hc⟩ := HR.out k hlt
      by_cases hin : 0 ≤ f k ∧ f k ≤ 255
      · have HI := hide (fun W => l5Byte W (f k))
        rw [inB_yes hin] at HI
        go_wp2_with fail
        refine (unhide HI _).mono ?_
        rintro e w1 ⟨rfl, rfl⟩
        go_wp2
        go_round
        case rel => exact ⟨trivial, k + 1, by omega, by go_num, fun j hj => by
          by_cases e : j = k
          · rw [e]; exact hin
          · exact HA.out j (by omega)⟩
        case measure => simp [intOf]; omega
      · have HI := hide (fun W => l5Byte W (f k))
        rw [inB_no hin] at HI
        have HE := hide (okPads_no hlt hin)
        go_wp2_with fail
        refine (unhide HI _).mono ?_
        rintro e w1 ⟨rfl, rfl⟩
        go_wp2
        go_ret
        exact ⟨ret_bool HE.out.symm, rfl⟩
    · have hkn : k = n := by omega
      subst hkn
      have HE := hide (okPads_all HA.out)
      by_cases h20 : k ≤ 20
      · go_wp2
        go_ret
        exact ⟨ret_bool (by rw [HE.out, decide_eq_true h20, decide_eq_true (by omega)]), rfl⟩
      · go_wp2
        go_ret
        exact ⟨ret_bool (by rw [HE.out, decide_eq_false h20, decide_eq_false (by omega)]), rfl⟩
set_option maxHeartbeats 1000000 in
theorem specPadAt (w : World) (F : Nat → Nat → Prop) (u : Value) (n : Nat) (f : Nat → Int) (t : Int) (ht : t ≤ 9223372036854775807) (H : Ints .i64 w F u n f) :
    Calls Tryz.prog 106 #[u, .int .i64 t] w fun e w' => e = .returned (.int .i64 (padAt n f t)) ∧ w' = w := by
  have HO := hide (specPadsOk w F u n f H)
  have HF := hide (fun W => specFrameOf W t ht)
  obtain ⟨a, cap, rfl, hn, hr, -⟩ := H
  obtain ⟨ok, hok⟩ : ∃ ok, Hid (ok = okPads n f) := ⟨_, rfl⟩
  rw [← hok.out] at HO
  have HR := hide hr
  clear hr
  cases ok
  · have HE : Hid (padAt n f t = 0) := if_neg (by rw [← hok.out]; simp)
    go_enter Tryz.func106, Tryz.ntmps106
    go_wp2_with fail
    refine (unhide HO).mono ?_
    rintro e w1 ⟨rfl, rfl⟩
    go_wp2
    go_ret
    exact ⟨ret_int HE.out.symm, rfl⟩
  · by_cases h0 : n = 0
    · have HE : Hid (padAt n f t = 0) := if_neg (by omega)
      subst h0
      go_enter Tryz.func106, Tryz.ntmps106
      go_wp2_with fail
      refine (unhide HO).mono ?_
      rintro e w1 ⟨rfl, rfl⟩
      go_wp2
      go_ret
      exact ⟨ret_int HE.out.symm, rfl⟩
    · have HE : Hid (padAt n f t = f ((max t 0 / 64) % n).toNat) := if_pos ⟨hok.out.symm, by omega⟩
      have h20 := (okPads_of hok.out.symm).2
      obtain ⟨q, hq⟩ : ∃ q, Hid (q = max t 0 / 64) := ⟨_, rfl⟩
      have q0 : 0 ≤ q := by rw [hq.out]; omega
      have q1 : q ≤ 9223372036854775807 := by rw [hq.out]; omega
      rw [← hq.out] at HE HF
      have hm : q.tmod n = q % n := Int.tmod_eq_emod_of_nonneg q0
      have hm1 : q % (n : Int) < n := Int.emod_lt_of_pos _ (by omega)
      have hm0 : 0 ≤ q % (n : Int) := Int.emod_nonneg _ (by omega)
      obtain ⟨i, hi⟩ : ∃ i : Nat, q % (n : Int) = i := ⟨(q % (n : Int)).toNat, by omega⟩
      rw [hi] at hm hm1 hm0 HE
      have hin : i < n := by omega
      obtain ⟨b, o, rfl, hc⟩ := HR.out i hin
      have hz : ¬ (n : Int) = 0 := by omega
      clear hm1 hm0 hi hq h0 HR
      go_enter Tryz.func106, Tryz.ntmps106
      go_wp2_with fail
      refine (unhide HO).mono ?_
      rintro e w1 ⟨rfl, rfl⟩
      go_wp2_with fail
      refine (unhide HF _).mono ?_
      rintro e w1 ⟨rfl, rfl⟩
      go_wp2
      go_ret
      exact ⟨ret_int HE.out.symm, rfl⟩
set_option maxHeartbeats 1000000 in
theorem specPadWrite (w : World) (F : Nat → Nat → Prop) (H : Bool) (S : Int) (u : Value) (n : Nat) (f : Nat → Int) (t v : Int) (ht : t ≤ 9223372036854775807) (K : Ints .i64 w F u n f) :
    Calls Tryz.prog 95 #[.agg #[.bool H, .int .i64 S], u, .int .i64 t, .int .i64 v] w fun e w' => e = .returned (.agg #[.bool (heldW v), .int .i64 (shiftW H S n f t v)]) ∧ Below w.heap.size w w' := by
  have L2 : ∀ o o2 : Obj, Below w.heap.size w ((w.alloc o).alloc o2) := fun o o2 => ((Below.refl _ _).alloc (Nat.le_refl _) _).alloc (by simp) _
  have HP := hide (fun (o o2 : Obj) => specPadAt ((w.alloc o).alloc o2) F u n f t ht (K.keep (wrote_below (L2 o o2) Nowhere) (fun _ _ _ x => x)))
  obtain ⟨a, cap, rfl, hn, hr, -⟩ := K
  clear hr
  have m1 : bits .and .i64 v 1 = v % 2 := i64_and1 v
  obtain ⟨x, hx⟩ : ∃ x, Hid (x = padAt n f t) := ⟨_, rfl⟩
  obtain ⟨h', hh⟩ : ∃ h', Hid (heldW v = h') := ⟨_, rfl⟩
  have hb : (v % 2 == 1) = h' := hh.out
  obtain ⟨s', hs⟩ : ∃ s', Hid (shiftW H S n f t v = s') := ⟨_, rfl⟩
  have e : (if (H || h') = true then x else S) = s' := by rw [← hs.out, shiftW, ← hh.out, ← hx.out]
  rw [← hx.out] at HP
  rw [hh.out, hs.out]
  clear hh hs hx
  cases H <;> cases h'
  · obtain rfl : S = s' := e
    go_enter Tryz.func95, Tryz.ntmps95
    go_wp2
    refine bodyPost_ret (v := .agg #[.bool false, .int .i64 S]) (by simp [results, Tryz.results95, go_sem]) rfl ?_
    exact ⟨rfl, L2 _ _⟩
  all_goals
    obtain rfl : x = s' := e
    go_enter Tryz.func95, Tryz.ntmps95
    go_wp2_with (go_at_call 106; refine (unhide HP _ _).mono ?_; rintro e w1 ⟨rfl, rfl⟩)
    first
      | (refine bodyPost_ret (v := .agg #[.bool true, .int .i64 x]) (by simp [results, Tryz.results95, go_sem]) rfl ?_
         exact ⟨rfl, L2 _ _⟩)
      | (refine bodyPost_ret (v := .agg #[.bool false, .int .i64 x]) (by simp [results, Tryz.results95, go_sem]) rfl ?_
         exact ⟨rfl, L2 _ _⟩)
set_option maxHeartbeats 1000000 in
theorem specPadRead (w : World) (F : Nat → Nat → Prop) (H : Bool) (S : Int) (u : Value) (n : Nat) (f : Nat → Int) (t : Int) (ht : t ≤ 9223372036854775807) (K : Ints .i64 w F u n f) :
    Calls Tryz.prog 69 #[.agg #[.bool H, .int .i64 S], u, .int .i64 t] w fun e w' => e = .returned (.tuple #[.agg #[.bool H, .int .i64 (shiftR H S n f t)], .int .i64 (bitR H S n f t)]) ∧ Below w.heap.size w w' := by
  have L2 : ∀ o o2 : Obj, Below w.heap.size w ((w.alloc o).alloc o2) := fun o o2 => ((Below.refl _ _).alloc (Nat.le_refl _) _).alloc (by simp) _
  have HP := hide (fun (o o2 : Obj) => specPadAt ((w.alloc o).alloc o2) F u n f t ht (K.keep (wrote_below (L2 o o2) Nowhere) (fun _ _ _ x => x)))
  obtain ⟨a, cap, rfl, hn, hr, -⟩ := K
  clear hr
  cases H
  · have HE : Hid (shiftR false S n f t = S / 2 ∧ bitR false S n f t = S % 2) := by show _ ∧ _; simp [shiftR, bitR]
    rw [HE.out.1, HE.out.2]
    have m1 : bits .and .i64 S 1 = S % 2 := i64_and1 S
    clear HE
    go_enter Tryz.func69, Tryz.ntmps69
    go_wp2
    refine bodyPost_ret (v := .tuple #[.agg #[.bool false, .int .i64 (S / 2)], .int .i64 (S % 2)]) (by simp [results, Tryz.results69, go_sem]) rfl ?_
    exact ⟨rfl, L2 _ _⟩
  · obtain ⟨x, hx⟩ : ∃ x, Hid (x = padAt n f t) := ⟨_, rfl⟩
    have HE : Hid (shiftR true S n f t = x ∧ bitR true S n f t = x % 2) := by show _ ∧ _; rw [hx.out]; simp [shiftR, bitR]
    rw [HE.out.1, HE.out.2]
    have m1 : bits .and .i64 x 1 = x % 2 := i64_and1 x
    rw [← hx.out] at HP
    clear HE hx
    go_enter Tryz.func69, Tryz.ntmps69
    go_wp2_with (go_at_call 106; refine (unhide HP _ _).mono ?_; rintro e w1 ⟨rfl, rfl⟩)
    go_region
    all_goals (
      go_wp2
      refine bodyPost_ret (v := .tuple #[.agg #[.bool true, .int .i64 x], .int .i64 (x % 2)]) (by simp [results, Tryz.results69, go_sem]) rfl ?_
      exact ⟨rfl, (L2 _ _).trans ⟨rfl, rfl, rfl, Nat.le_refl _, fun _ _ => rfl⟩⟩)
end Go.Proofs.YtpaedkefmebjjarGreat
