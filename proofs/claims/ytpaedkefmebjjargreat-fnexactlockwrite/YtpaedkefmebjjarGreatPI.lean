/-
  The program's chapter 11, by its contracts: the pad; its bits are told by a closure over a byte.
-/
import Derived.Test.YtpaedkefmebjjarGreatPD
import Derived.Test.YtpaedkefmebjjarGreatI9
import Derived.Test.YtpaedkefmebjjarGreatI2
namespace Go.Proofs.YtpaedkefmebjjarGreat
set_option linter.unusedVariables false
set_option linter.unusedSimpArgs false
open Go.ChangeShapes Go.WideShapes Go.ChangeAt Go.RowKit
theorem okPads_allB {n : Nat} {f : Nat → Int} (h : n ≤ 20) : okPads n f = allB n f := by
  unfold okPads allB
  refine decide_eq_decide.2 ⟨fun x j hj => inB_yes (x.1 j hj), fun x => ⟨fun j hj => ?_, h⟩⟩
  by_cases hc : 0 ≤ f j ∧ f j ≤ 255
  · exact hc
  · have := x j hj
    rw [inB_no hc] at this
    cases this
theorem okPads_long {n : Nat} {f : Nat → Int} (h : ¬ n ≤ 20) : okPads n f = false := decide_eq_false (fun x => h x.2)
theorem implPadsOkS (w : World) (F : Nat → Nat → Prop) (u : Value) (n : Nat) (f : Nat → Int) (H : Ints .i64 w F u n f) :
    Calls Tryz.prog 78 #[u] w fun e w' => e = .returned (.bool (okPads n f)) ∧ w' = w := by
  have HA := hide (allBytes w F u n f H)
  obtain ⟨a, cap, rfl, hn, hr, -⟩ := H
  clear hr
  by_cases h20 : n ≤ 20
  · have HE := hide (okPads_allB (f := f) h20)
    have h20' : (n : Int) ≤ 20 := by omega
    obtain ⟨ok, hok⟩ : ∃ ok, Hid (ok = allB n f) := ⟨_, rfl⟩
    rw [← hok.out] at HA HE
    go_enter Tryz.func78, Tryz.ntmps78
    go_wp2_with fail
    refine (unhide HA).mono ?_
    rintro e w1 ⟨rfl, rfl⟩
    go_wp2
    go_ret
    exact ⟨ret_bool HE.out.symm, rfl⟩
  · have HE := hide (okPads_long (f := f) h20)
    have h20' : ¬ (n : Int) ≤ 20 := by omega
    go_enter Tryz.func78, Tryz.ntmps78
    go_wp2
    go_ret
    exact ⟨ret_bool HE.out.symm, rfl⟩
set_option maxHeartbeats 1000000 in
theorem implPadAtS (w : World) (F : Nat → Nat → Prop) (u : Value) (n : Nat) (f : Nat → Int) (t : Int) (ht : t ≤ 9223372036854775807) (H : Ints .i64 w F u n f) :
    Calls Tryz.prog 122 #[u, .int .i64 t] w fun e w' => e = .returned (.int .i64 (padAt n f t)) ∧ w' = w := by
  have HO := hide (implPadsOkS w F u n f H)
  have HF := hide (fun W => implFrameOf W t ht)
  obtain ⟨a, cap, rfl, hn, hr, -⟩ := H
  obtain ⟨ok, hok⟩ : ∃ ok, Hid (ok = okPads n f) := ⟨_, rfl⟩
  rw [← hok.out] at HO
  have HR := hide hr
  clear hr
  by_cases h0 : n = 0
  · have HE : Hid (padAt n f t = 0) := if_neg (by omega)
    subst h0
    go_enter Tryz.func122, Tryz.ntmps122
    go_wp2
    go_ret
    exact ⟨ret_int HE.out.symm, rfl⟩
  · have hz : ¬ (n : Int) = 0 := by omega
    cases ok
    · have HE : Hid (padAt n f t = 0) := if_neg (by rw [← hok.out]; simp)
      go_enter Tryz.func122, Tryz.ntmps122
      go_wp2_with fail
      refine (unhide HO).mono ?_
      rintro e w1 ⟨rfl, rfl⟩
      go_wp2
      go_ret
      exact ⟨ret_int HE.out.symm, rfl⟩
    · have HE : Hid (padAt n f t = f ((max t 0 / 64) % n).toNat) := if_pos ⟨hok.out.symm, by omega⟩
      have h20 := (okPads_of hok.out.symm).2
      obtain ⟨q, hq⟩ : ∃ q, Hid (q = max t 0 / 64) := ⟨_, rfl⟩
      have q0 : 0 ≤ q := by rw [hq.out]; omega
      have q1 : q ≤ 9223372036854775807 := by rw [hq.out]; omega
      rw [← hq.out] at HE HF
      have hm : q.tmod n = q % n := Int.tmod_eq_emod_of_nonneg q0
      have hm1 : q % (n : Int) < n := Int.emod_lt_of_pos _ (by omega)
      have hm0 : 0 ≤ q % (n : Int) := Int.emod_nonneg _ (by omega)
      obtain ⟨i, hi⟩ : ∃ i : Nat, q % (n : Int) = i := ⟨(q % (n : Int)).toNat, by omega⟩
      rw [hi] at hm hm1 hm0 HE
      have hin : i < n := by omega
      obtain ⟨b, o, rfl, hc⟩ := HR.out i hin
      clear hm1 hm0 hi hq h0 HR
      go_enter Tryz.func122, Tryz.ntmps122
      go_wp2_with fail
      refine (unhide HO).mono ?_
      rintro e w1 ⟨rfl, rfl⟩
      go_wp2_with fail
      refine (unhide HF _).mono ?_
      rintro e w1 ⟨rfl, rfl⟩
      go_wp2
      go_ret
      exact ⟨ret_int HE.out.symm, rfl⟩
theorem heldW_no {v : Int} (h : v % 2 = 0) : v.tmod 2 = 0 ∧ heldW v = false := ⟨Int.tmod_eq_zero_of_dvd (Int.dvd_of_emod_eq_zero h), by unfold heldW; rw [h]; rfl⟩
theorem heldW_yes {v : Int} (h : ¬ v % 2 = 0) : ¬ v.tmod 2 = 0 ∧ heldW v = true := ⟨fun e => h (Int.emod_eq_zero_of_dvd (Int.dvd_of_tmod_eq_zero e)), by unfold heldW; rw [show v % 2 = 1 by omega]; rfl⟩
set_option maxHeartbeats 1000000 in
theorem implPadWrite (w : World) (F : Nat → Nat → Prop) (H : Bool) (S : Int) (u : Value) (n : Nat) (f : Nat → Int) (t v : Int) (ht : t ≤ 9223372036854775807) (K : Ints .i64 w F u n f) :
    Calls Tryz.prog 99 #[.agg #[.bool H, .int .i64 S], u, .int .i64 t, .int .i64 v] w fun e w' => e = .returned (.agg #[.bool (heldW v), .int .i64 (shiftW H S n f t v)]) ∧ Below w.heap.size w w' := by
  have L2 : ∀ o o2 : Obj, Below w.heap.size w ((w.alloc o).alloc o2) := fun o o2 => ((Below.refl _ _).alloc (Nat.le_refl _) _).alloc (by simp) _
  have HP := hide (fun (W : World) (L : Below w.heap.size w W) => implPadAtS W F u n f t ht (K.keep (wrote_below L Nowhere) (fun _ _ _ x => x)))
  obtain ⟨a, cap, rfl, hn, hr, -⟩ := K
  clear hr
  obtain ⟨x, hx⟩ : ∃ x, Hid (x = padAt n f t) := ⟨_, rfl⟩
  by_cases hv : v % 2 = 0
  · obtain ⟨h1, h2⟩ := heldW_no hv
    have hs : Hid (shiftW H S n f t v = if H = true then x else S) := by show _ = _; rw [hx.out, shiftW, h2]; simp
    rw [hs.out, h2]
    rw [← hx.out] at HP
    clear hs hx hv h2
    cases H
    · have hs2 : ¬ (false = true) := by decide
      go_enter Tryz.func99, Tryz.ntmps99
      go_wp2_with (go_at_call 122; refine (unhide HP _ (L2 _ _)).mono ?_; rintro e w1 ⟨rfl, rfl⟩)
      refine bodyPost_ret (v := .agg #[.bool false, .int .i64 S]) (by simp [results, Tryz.results99, go_sem]) rfl ?_
      exact ⟨rfl, L2 _ _⟩
    · have hs2 : True := trivial
      go_enter Tryz.func99, Tryz.ntmps99
      go_wp2_with (go_at_call 122; refine (unhide HP _ (L2 _ _)).mono ?_; rintro e w1 ⟨rfl, rfl⟩)
      refine bodyPost_ret (v := .agg #[.bool false, .int .i64 x]) (by simp [results, Tryz.results99, go_sem]) rfl ?_
      exact ⟨rfl, L2 _ _⟩
  · obtain ⟨h1, h2⟩ := heldW_yes hv
    have hs : Hid (shiftW H S n f t v = x) := by show _ = _; rw [hx.out, shiftW, h2]; simp
    rw [hs.out, h2]
    rw [← hx.out] at HP
    clear hs hx hv h2
    go_enter Tryz.func99, Tryz.ntmps99
    go_wp2_with (go_at_call 122; refine (unhide HP _ (L2 _ _)).mono ?_; rintro e w1 ⟨rfl, rfl⟩)
    refine bodyPost_ret (v := .agg #[.bool true, .int .i64 x]) (by simp [results, Tryz.results99, go_sem, h1]) rfl ?_
    exact ⟨rfl, L2 _ _⟩
theorem padBits1 (w : World) (b c : Nat) (H : Bool) (S : Int) (hb : w.heap[b]? = some (.cells #[.int .i64 S] 3 (0, 0))) (hc : w.heap[c]? = some (.cells #[.bool H, .int .i64 S] 46 (0, 0))) (m : Nat) (hm : m ≤ b) :
    Calls Tryz.prog 136 #[.pointer (some ⟨b, 0, none⟩), .pointer (some ⟨c, 0, none⟩)] w fun e w' => e = .returned (.tuple #[.int .i64 (S % 2), .int .i64 (if H then S else S / 2)]) ∧ Below m w w' := by
  have m1 : bits .and .i64 S 1 = S % 2 := i64_and1 S
  have cb := boxC hb
  have fb := boxF hb
  have cc := boxC hc
  clear hb hc
  cases H
  · go_enter Tryz.func136, Tryz.ntmps136
    go_wp2
    go_region
    all_goals (
      go_wp2
      refine bodyPost_ret (v := .tuple #[.int .i64 (S % 2), .int .i64 (S / 2)]) (by simp [results, Tryz.results136, go_sem]) rfl ?_
      exact ⟨rfl, (((Below.refl m w).setCell hm _).trans ⟨rfl, rfl, rfl, Nat.le_refl _, fun _ _ => rfl⟩)⟩)
  · go_enter Tryz.func136, Tryz.ntmps136
    go_wp2
    go_region
    all_goals (
      go_wp2
      refine bodyPost_ret (v := .tuple #[.int .i64 (S % 2), .int .i64 S]) (by simp [results, Tryz.results136, go_sem]) rfl ?_
      exact ⟨rfl, ⟨rfl, rfl, rfl, Nat.le_refl _, fun _ _ => rfl⟩⟩)
theorem padBits (w : World) (H : Bool) (S : Int) :
    Calls Tryz.prog 123 #[.agg #[.bool H, .int .i64 S]] w fun e w' => e = .returned (.func (.func 136) #[] #[.pointer (some ⟨w.heap.size + 1, 0, none⟩), .pointer (some ⟨w.heap.size, 0, none⟩)]) ∧ w'.heap[w.heap.size]? = some (.cells #[.bool H, .int .i64 S] 46 (0, 0)) ∧ w'.heap[w.heap.size + 1]? = some (.cells #[.int .i64 S] 3 (0, 0)) ∧ Below w.heap.size w w' := by
  have hmf : ∀ (fn : Fn) (first cap : Array Value) (w : World), (Instr.makeFunc fn first cap).run Tryz.prog w = .ok (.func fn first cap) w := fun _ _ _ _ => rfl
  have k1 : ((w.alloc (.cells #[.bool H, .int .i64 S] 46)).alloc (.cells #[.int .i64 S] 3)).heap[w.heap.size + 1]? = some (.cells #[.int .i64 S] 3 (0, 0)) := by simpa using box_new (w.alloc (.cells #[.bool H, .int .i64 S] 46)) #[.int .i64 S] 3
  go_enter Tryz.func123, Tryz.ntmps123
  go_wp2
  go_ret
  exact ⟨rfl, boxA (box_new w _ _) _, k1, ((Below.refl _ _).alloc (Nat.le_refl _) _).alloc (by simp) _⟩
set_option maxHeartbeats 1000000 in
theorem implPadRead (w : World) (F : Nat → Nat → Prop) (H : Bool) (S : Int) (u : Value) (n : Nat) (f : Nat → Int) (t : Int) (ht : t ≤ 9223372036854775807) (K : Ints .i64 w F u n f) :
    Calls Tryz.prog 88 #[.agg #[.bool H, .int .i64 S], u, .int .i64 t] w fun e w' => e = .returned (.tuple #[.agg #[.bool H, .int .i64 (shiftR H S n f t)], .int .i64 (bitR H S n f t)]) ∧ Below w.heap.size w w' := by
  have L2 : ∀ o o2 : Obj, Below w.heap.size w ((w.alloc o).alloc o2) := fun o o2 => ((Below.refl _ _).alloc (Nat.le_refl _) _).alloc (by simp) _
  have HP := hide (fun (W : World) (L : Below w.heap.size w W) => implPadAtS W F u n f t ht (K.keep (wrote_below L Nowhere) (fun _ _ _ x => x)))
  obtain ⟨a, cap, rfl, hn, hr, -⟩ := K
  clear hr
  have L0 : ∀ s : Int, Below w.heap.size w ((w.alloc (.cells #[.bool H, .int .i64 s] 46)).alloc (.cells #[.bool false, .int .i64 0] 46)) := fun s => L2 _ _
  have k0 : ∀ s : Int, ((w.alloc (.cells #[.bool H, .int .i64 s] 46)).alloc (.cells #[.bool false, .int .i64 0] 46)).heap[w.heap.size]? = some (.cells #[.bool H, .int .i64 s] 46 (0, 0)) := fun s => boxA (box_new w _ _) _
  have k1 : ∀ s : Int, ((w.alloc (.cells #[.bool H, .int .i64 s] 46)).alloc (.cells #[.bool false, .int .i64 0] 46)).heap[w.heap.size + 1]? = some (.cells #[.bool false, .int .i64 0] 46 (0, 0)) := fun s => by simpa using box_new (w.alloc (.cells #[.bool H, .int .i64 s] 46)) #[.bool false, .int .i64 0] 46
  have hW0 : ∀ s : Int, w.heap.size + 2 ≤ ((w.alloc (.cells #[.bool H, .int .i64 s] 46)).alloc (.cells #[.bool false, .int .i64 0] 46)).heap.size := fun s => by simp
  cases H
  · have HE : Hid (shiftR false S n f t = S / 2 ∧ bitR false S n f t = S % 2) := by show _ ∧ _; simp [shiftR, bitR]
    rw [HE.out.1, HE.out.2]
    replace L0 := L0 S
    replace k0 := k0 S
    replace k1 := k1 S
    replace hW0 := hW0 S
    clear HE HP L2
    go_enter Tryz.func88, Tryz.ntmps88
    go_wp2_with fail
    generalize ((w.alloc (.cells #[.bool false, .int .i64 S] 46)).alloc (.cells #[.bool false, .int .i64 0] 46)) = W0 at *
    refine (padBits W0 false S).mono ?_
    rintro e W1 ⟨rfl, b0, b1, L1⟩
    have C1 := below_snoc L0 L1
    replace k0 := box_keep k0 L1 (boxLt k0)
    replace k1 := box_keep k1 L1 (boxLt k1)
    clear L0 L1
    go_wp2_with fail
    refine (padBits1 W1 (W0.heap.size + 1) W0.heap.size false S b1 b0 (w.heap.size + 2) (by omega)).mono ?_
    rintro e W2 ⟨rfl, L2⟩
    have C2 : Below w.heap.size w W2 := C1.trans (L2.mono (by omega))
    replace k0 := box_keep k0 L2 (by omega)
    replace k1 := box_keep k1 L2 (by omega)
    have c0 := boxC k0
    have c1 := boxC k1
    have f1 := boxF k1
    clear L2 C1 b0 b1 hW0
    go_wp2
    refine bodyPost_ret (v := .tuple #[.agg #[.bool false, .int .i64 (S / 2)], .int .i64 (S % 2)]) (by simp [results, Tryz.results88, go_sem, c1]) rfl ?_
    exact ⟨rfl, (C2.setCell (by simp) _).setCell (by simp) _⟩
  · obtain ⟨x, hx⟩ : ∃ x, Hid (x = padAt n f t) := ⟨_, rfl⟩
    have HE : Hid (shiftR true S n f t = x ∧ bitR true S n f t = x % 2) := by show _ ∧ _; rw [hx.out]; simp [shiftR, bitR]
    rw [HE.out.1, HE.out.2]
    rw [← hx.out] at HP
    replace L0 := L0 x
    replace k0 := k0 x
    replace k1 := k1 x
    replace hW0 := hW0 x
    clear HE hx
    go_enter Tryz.func88, Tryz.ntmps88
    go_wp2_with fail
    refine (unhide HP _ (L2 _ _)).mono ?_
    rintro e w1 ⟨rfl, rfl⟩
    clear L2 HP
    go_wp2_with fail
    generalize ((w.alloc (.cells #[.bool true, .int .i64 x] 46)).alloc (.cells #[.bool false, .int .i64 0] 46)) = W0 at *
    refine (padBits W0 true x).mono ?_
    rintro e W1 ⟨rfl, b0, b1, L1⟩
    have C1 := below_snoc L0 L1
    replace k0 := box_keep k0 L1 (boxLt k0)
    replace k1 := box_keep k1 L1 (boxLt k1)
    clear L0 L1
    go_wp2_with fail
    refine (padBits1 W1 (W0.heap.size + 1) W0.heap.size true x b1 b0 (w.heap.size + 2) (by omega)).mono ?_
    rintro e W2 ⟨rfl, L2⟩
    have C2 : Below w.heap.size w W2 := C1.trans (L2.mono (by omega))
    replace k0 := box_keep k0 L2 (by omega)
    replace k1 := box_keep k1 L2 (by omega)
    have c0 := boxC k0
    have c1 := boxC k1
    have f1 := boxF k1
    clear L2 C1 b0 b1 hW0
    go_wp2
    refine bodyPost_ret (v := .tuple #[.agg #[.bool true, .int .i64 x], .int .i64 (x % 2)]) (by simp [results, Tryz.results88, go_sem, c1]) rfl ?_
    exact ⟨rfl, (C2.setCell (by simp) _).setCell (by simp) _⟩
theorem implPadsOk (w : World) (F : Nat → Nat → Prop) (u : Value) (n : Nat) (f : Nat → Int) (H : Ints .i64 w F u n f) :
    Calls Tryz.prog 78 #[u] w fun e w' => e = .returned (.bool (okPads n f)) ∧ Below w.heap.size w w' := (implPadsOkS w F u n f H).mono (fun e w' h => ⟨h.1, by rw [h.2]; exact Below.refl _ _⟩)
theorem implPadAt (w : World) (F : Nat → Nat → Prop) (u : Value) (n : Nat) (f : Nat → Int) (t : Int) (ht : t ≤ 9223372036854775807) (H : Ints .i64 w F u n f) :
    Calls Tryz.prog 122 #[u, .int .i64 t] w fun e w' => e = .returned (.int .i64 (padAt n f t)) ∧ Below w.heap.size w w' := (implPadAtS w F u n f t ht H).mono (fun e w' h => ⟨h.1, by rw [h.2]; exact Below.refl _ _⟩)
end Go.Proofs.YtpaedkefmebjjarGreat
