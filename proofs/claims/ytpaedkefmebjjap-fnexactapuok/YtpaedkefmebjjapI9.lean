/-
  The program's chapter 9 by its contracts: when it is blank (a loop over an iterator of its own).
-/
import Derived.RangeFuncNested
import Derived.RangeFuncBound
import Derived.RangeFuncCalls
import Derived.RangeFuncLeaves
import Derived.Shelf.Abstract
import Derived.WalkKit
import Derived.OwnWalkIn
import Derived.TacticsInMore
import Derived.LoopNIn
import Derived.LoopIn
import Derived.Test.YtpaedkefmebjjapB9
namespace Go.Proofs.Ytpaedkefmebjjap
set_option linter.unusedVariables false
set_option linter.unusedSimpArgs false
open Go.RowKit Go.Shelf
attribute [local go_sem] Oper.semAt_some
def blank9 (u : Int) (k : Nat) : Int := u / 64 * 64 + 48 + 64 * k
def blanks9 (u : Int) (k : Nat) : List Int := (List.range k).map (blank9 u)
theorem blanks9_succ (u : Int) (k : Nat) : blanks9 u (k + 1) = blanks9 u k ++ [blank9 u k] := by
  unfold blanks9
  rw [List.range_succ, List.map_append]
  rfl
theorem blanks9_mem (u : Int) {i k : Nat} (h : i < k) : blank9 u i ∈ blanks9 u k := List.mem_map.2 ⟨i, List.mem_range.2 h, rfl⟩
theorem implInTime (w : World) (t : Int) : Calls Try.prog 21 #[.int .i64 t] w fun e w' => e = .returned (.int .i64 (min (max t 0) 20000)) ∧ w' = w := by
  go_enter Try.func21, Try.ntmps21
  go_wp2
  all_goals (go_ret; exact ⟨ret_int (by omega), rfl⟩)
theorem implFrameOf (w : World) (t : Int) (h : t ≤ 9223372036854775807) : Calls Try.prog 11 #[.int .i64 t] w fun e w' => e = .returned (.int .i64 (max t 0 / 64)) ∧ w' = w := by
  by_cases ht : 0 ≤ t
  · have d64 : t.tdiv 64 = t / 64 := Int.tdiv_eq_ediv_of_nonneg ht
    go_enter Try.func11, Try.ntmps11
    go_wp2
    all_goals (go_ret; exact ⟨ret_int (by omega), rfl⟩)
  · go_enter Try.func11, Try.ntmps11
    go_wp2
    all_goals (go_ret; exact ⟨ret_int (by omega), rfl⟩)
set_option maxRecDepth 100000 in
set_option maxHeartbeats 1000000 in
theorem blanks1_in (n : Nat) (hn : 1 ≤ n) (l Bn : Nat) (u : Int) (u0 : 0 ≤ u) (u1 : u ≤ 20000) (J Jx : List Int → World → Prop)
    (hY : ∀ pre x W, J pre W → pre.length < 400 → YieldAt Fence.wide (n - 1) Try.prog l #[.int .i64 x] W fun e W' =>
      (e = .returned (.bool true) ∧ J (pre ++ [x]) W' ∧ KeepsWalks W W') ∨ (e = .returned (.bool false) ∧ Jx (pre ++ [x]) W'))
    (W : World) (hBn : W.cell? ⟨Bn, 0, none⟩ = some (.int .i64 u)) (h0 : J [] W) :
    CallsIn Fence.wide n Try.prog 31 #[.func (.yield l) #[] #[], .pointer (some ⟨Bn, 0, none⟩)] W fun e W' => (∃ v, e = .returned v) ∧
      ((∃ ys, (∃ k, ys = blanks9 u k ∧ 20064 ≤ blank9 u k) ∧ J ys W') ∨ (∃ pre, (∃ k, pre = blanks9 u k) ∧ Jx pre W')) := by
  have hm : max u 0 = u := by omega
  have FR := hide (implFrameOf W u (by omega))
  rw [hm] at FR
  refine callsIn_of_wp Try.func31 rfl trivial ?_ rfl
  simp only [Try.ntmps31, List.size_toArray, List.length_cons, List.length_nil, Nat.reduceAdd, Nat.reduceSub, Array.replicate_succ, Array.replicate_zero, List.push_toArray, List.append_toArray, List.nil_append, List.cons_append]
  gi_wp2_with (refine ⟨trivial, ?_⟩; gi_at_call 11; refine (callsIn_wide.2 (unhide FR)).mono ?_; rintro e w' ⟨rfl, rfl⟩)
  gi_loopw [3] (fun p wr => ∃ k : Nat, p = .int .i64 (blank9 u k) ∧ J (blanks9 u k) wr) (fun p wr => (30000 - intOf p).toNat)
  case atStart => exact ⟨0, by unfold blank9; congr 1; omega, h0⟩
  case round =>
    obtain ⟨k, rfl, hJ⟩ := hrel
    have hk0 : 0 ≤ blank9 u k := by unfold blank9; omega
    by_cases hlt : blank9 u k < 20064
    · have hk4 : k < 400 := by unfold blank9 at hlt; omega
      have hnx : blank9 u (k + 1) = blank9 u k + 64 := by unfold blank9; omega
      obtain ⟨fn, tmps, assign, body, hy, hR⟩ := hY (blanks9 u k) (blank9 u k) wr hJ (by unfold blanks9; simpa using hk4)
      rw [← blanks9_succ] at hR
      have HN := hide hnx
      clear hnx
      gi_wp2
      refine hR.mono ?_
      rintro e W3 (⟨rfl, hJ3, hk3⟩ | ⟨rfl, hJx3⟩)
      · gi_wp2
        go_roundw
        case rel => exact ⟨k + 1, by rw [HN.out], hJ3⟩
        case measure => simp [intOf]; omega
      · gi_wp2
        refine bodyPost_ret (results_none rfl _ _ _) rfl ?_
        exact ⟨⟨_, rfl⟩, .inr ⟨_, ⟨k + 1, rfl⟩, hJx3⟩⟩
    · gi_wp2
      go_end0
      exact ⟨⟨_, rfl⟩, .inl ⟨_, ⟨k, rfl, by omega⟩, hJ⟩⟩
theorem blanks_stops (n : Nat) (hn : 1 ≤ n) (Bn : Nat) (u : Int) (u0 : 0 ≤ u) (u1 : u ≤ 20000) (w : World) (hBn : Bn < w.heap.size) (hc : w.cell? ⟨Bn, 0, none⟩ = some (.int .i64 u)) :
    SeqStopsK Fence.wide n Try.prog 31 #[.pointer (some ⟨Bn, 0, none⟩)] (fun x : Int => #[Value.int .i64 x]) KeepsWalks (fun ys => ∃ k, ys = blanks9 u k ∧ 20064 ≤ blank9 u k) (fun pre => ∃ k, pre = blanks9 u k) 400 w := fun l J Jx W hW _ _ hY h0 =>
  blanks1_in n hn l Bn u u0 u1 J Jx hY W ((hW.cell (p := ⟨Bn, 0, none⟩) hBn).trans hc) h0
theorem implBlanksFrom (w : World) (u : Int) : Calls Try.prog 24 #[.int .i64 u] w fun e w' => e = .returned (.func (.func 31) #[] #[.pointer (some ⟨w.heap.size, 0, none⟩)]) ∧ w' = w.alloc (.cells #[.int .i64 u] 3) := by
  go_enter Try.func24, Try.ntmps24
  go_wp2
  go_ret
  exact ⟨rfl, rfl⟩
set_option maxRecDepth 100000 in
set_option maxHeartbeats 2000000 in
theorem implNextBlank (w : World) (t : Int) : Calls Try.prog 13 #[.int .i64 t] w fun e w' => e = .returned (.int .i64 (next9 t)) ∧ Below w.heap.size w w' := by
  obtain ⟨u, hu⟩ : ∃ u, Hid (u = min (max t 0) 20000) := ⟨_, rfl⟩
  have u0 : 0 ≤ u := by rw [hu.out]; omega
  have u1 : u ≤ 20000 := by rw [hu.out]; omega
  have HT := hide (fun W => implInTime W t)
  rw [← hu.out] at HT
  refine (callsIn_wide (n := 3)).1 ?_
  refine callsIn_of_wp_marks Try.func13 rfl trivial ?_ rfl
  simp only [Try.ntmps13, List.size_toArray, List.length_cons, List.length_nil, Nat.reduceAdd, Nat.reduceSub, Array.replicate_succ, Array.replicate_zero, List.push_toArray, List.append_toArray, List.nil_append, List.cons_append]
  gi_wp2_with (first | (refine ⟨trivial, ?_⟩; gi_at_call 21; refine (callsIn_wide.2 (unhide HT _)).mono ?_; rintro e w' ⟨rfl, rfl⟩) | (refine ⟨trivial, ?_⟩; gi_at_call 24; refine (callsIn_wide.2 (implBlanksFrom _ u)).mono ?_; rintro e w' ⟨rfl, rfl⟩))
  have b0 := ((Boxed.new w 3 (.int .i64 u)).alloc (.cells #[.int .i64 0] 3)).alloc (.cells #[.int .i64 u] 3)
  have b1 := (Boxed.new (w.alloc (.cells #[.int .i64 u] 3)) 3 (.int .i64 0)).alloc (.cells #[.int .i64 u] 3)
  have b2 := Boxed.new ((w.alloc (.cells #[.int .i64 u] 3)).alloc (.cells #[.int .i64 0] 3)) 3 (.int .i64 u)
  simp only [World.size_alloc] at b1 b2
  have hB0 : Below w.heap.size w (((w.alloc (.cells #[.int .i64 u] 3)).alloc (.cells #[.int .i64 0] 3)).alloc (.cells #[.int .i64 u] 3)) := (((Below.refl _ w).alloc (Nat.le_refl _) _).alloc (by simp) _).alloc (by simp; omega) _
  have hsz : w.heap.size ≤ (((w.alloc (.cells #[.int .i64 u] 3)).alloc (.cells #[.int .i64 0] 3)).alloc (.cells #[.int .i64 u] 3)).heap.size := by simp; omega
  generalize ((w.alloc (.cells #[.int .i64 u] 3)).alloc (.cells #[.int .i64 0] 3)).alloc (.cells #[.int .i64 u] 3) = W0 at *
  refine wpIn_rangeFunc_ownH rfl (by omega) (gf := 31) (lb := #[.pointer (some ⟨w.heap.size + 1 + 1, 0, none⟩)]) rfl trivial (enters_of Try.func31 (by kernel_rfl) rfl)
    (blanks_stops 2 (by omega) (w.heap.size + 1 + 1) u u0 u1 W0 b2.lt b2.cell) walksK_t walksK_b (Below.refl _ _) (fun _ => rfl)
    (fun pre W => ((∀ y ∈ pre, y < u) ∧ Boxed W w.heap.size 3 (.int .i64 u) ∧ ∃ v, Boxed W (w.heap.size + 1) 3 (.int .i64 v)) ∧ Below w.heap.size w W)
    (fun c pre W => (c = .exit 0 ∧ ∃ ini x, pre = ini ++ [x] ∧ (∀ y ∈ ini, y < u) ∧ u ≤ x ∧ Boxed W (w.heap.size + 1) 3 (.int .i64 x)) ∧ Below w.heap.size w W)
    (OwnFrom.and (Own.from (fun s A B row hs hg hr => ⟨hs.1, boxed_own w.heap.size 3 (fun _ : Unit => .int .i64 u) () A B row hs.2.1 hg hr, by obtain ⟨v, hv⟩ := hs.2.2; exact ⟨v, boxed_own (w.heap.size + 1) 3 (fun _ : Unit => .int .i64 v) () A B row hv hg hr⟩⟩) _) (ownFrom_below (Nat.le_refl _) hsz))
    (fun c => OwnFrom.and (Own.from (fun s A B row hs hg hr => by
      obtain ⟨h1, ini, x, h2, h3, h4, hv⟩ := hs
      exact ⟨h1, ini, x, h2, h3, h4, boxed_own (w.heap.size + 1) 3 (fun _ : Unit => .int .i64 x) () A B row hv hg hr⟩) _) (ownFrom_below (Nat.le_refl _) hsz))
    ⟨⟨by simp, b0, 0, b1⟩, hB0⟩
    (fun x a' W => a' = { tmps := #[.int .i64 t, .pointer (some ⟨w.heap.size, 0, none⟩), .int .i64 0, .pointer (some ⟨w.heap.size + 1, 0, none⟩), .int .i64 t, .int .i64 u, .int .i64 u, .func (.func 31) #[] #[.pointer (some ⟨w.heap.size + 1 + 1, 0, none⟩)], .int .i64 x, undef, undef, undef, undef], defers := [] } ∧ Boxed W (w.heap.size + 1) 3 (.int .i64 x))
    (fun x a' => Own.from (fun s A B row hs hg hr => ⟨hs.1, boxed_own (w.heap.size + 1) 3 (fun _ : Unit => .int .i64 x) () A B row hs.2 hg hr⟩) _) ?assign ?body ?done ?stop
  case assign =>
    rintro l pre x W K ⟨⟨hy, k0, v, k1⟩, hB⟩ hK
    have c1 := k1.cell
    have f1 := k1.frozen
    gi_wp2
    exact hK _ _ ((KeepsOthers.setCell _ _ _).from _) (KeepsWalks.setCell _ _ _) ⟨⟨hy, k0.other (by omega) _, _, k1.set _⟩, hB.setCell (p := ⟨w.heap.size + 1, 0, none⟩) (by simp) _⟩ ⟨rfl, k1.set _⟩
  case body =>
    rintro l pre x a' W hl - ⟨⟨hy, k0, -⟩, hB⟩ ⟨rfl, k1⟩ hlt
    have c0 := k0.cell
    have c1 := k1.cell
    by_cases hx : u ≤ x
    · gi_wp2
      exact ⟨KeepsFrom.refl _ _, ⟨rfl, pre, x, rfl, hy, hx, k1⟩, hB⟩
    · gi_wp2
      exact ⟨KeepsFrom.refl _ _, KeepsWalks.refl _, ⟨fun y h => (List.mem_append.1 h).elim (hy y) (fun e => by simp at e; subst e; omega), k0, x, k1⟩, hB⟩
  case done =>
    rintro D ys W hD ⟨k, rfl, hk⟩ ⟨⟨hy, -, -⟩, hB⟩ hK
    exfalso
    have y0 : 0 < k := by
      by_cases h0 : 0 < k
      · exact h0
      · obtain rfl : k = 0 := by omega
        unfold blank9 at hk
        omega
    by_cases h1 : 1 < k
    · have := hy _ (blanks9_mem u h1)
      unfold blank9 at this
      omega
    · obtain rfl : k = 1 := by omega
      have := hy _ (blanks9_mem u y0)
      unfold blank9 at this hk
      omega
  case stop =>
    rintro D c pre W hD ⟨k, hp⟩ ⟨⟨rfl, ini, x, rfl, hy, hx, k1⟩, hB⟩ hK
    have hnx : x = next9 t := by
      cases k with
      | zero => simp [blanks9] at hp
      | succ k =>
        rw [blanks9_succ] at hp
        obtain ⟨rfl, e⟩ := List.append_inj' hp rfl
        obtain rfl : x = blank9 u k := by simpa using e
        have hk : k < 2 := by
          by_cases h : 1 < k
          · have := hy _ (blanks9_mem u h)
            unfold blank9 at this
            omega
          · omega
        unfold next9
        rw [← hu.out]
        by_cases h : 0 < k
        · have := hy _ (blanks9_mem u h)
          obtain rfl : k = 1 := by omega
          unfold blank9 at this ⊢
          omega
        · obtain rfl : k = 0 := by omega
          unfold blank9 at hx ⊢
          omega
    have c1 := k1.cell
    gi_wp2
    refine ⟨by simp, .inl ⟨_, _, rfl, run_takeDeferred hK, ?_⟩⟩
    exact ⟨_, results_tmp rfl _ _ _, rfl, hB.trans (belowK_b (w := w) (Nat.le_refl _) W D _ _ (by omega) hK rfl rfl)⟩
theorem implBlankIn (w : World) (a b : Int) : Calls Try.prog 9 #[.int .i64 a, .int .i64 b] w fun e w' => e = .returned (.bool (in9 a b 48 64)) ∧ Below w.heap.size w w' := by
  obtain ⟨x, hx⟩ : ∃ x, Hid (x = next9 a) := ⟨_, rfl⟩
  obtain ⟨y, hy⟩ : ∃ y, Hid (y = min (max b 0) 20000) := ⟨_, rfl⟩
  have HD : Hid (in9 a b 48 64 = decide (x < y)) := by
    show _ = _
    rw [hx.out, hy.out]
    unfold in9 next9
    apply decide_eq_decide.2
    constructor <;> intro h <;> omega
  have HN := hide (fun W => implNextBlank W a)
  rw [← hx.out] at HN
  have HT := hide (fun W => implInTime W b)
  rw [← hy.out] at HT
  rw [HD.out]
  clear HD hx hy
  go_enter Try.func9, Try.ntmps9
  go_wp2_with (first | (go_at_call 13; refine (unhide HN _).mono ?_; rintro e w1 ⟨rfl, L1⟩) | (go_at_call 21; refine (unhide HT _).mono ?_; rintro e w2 ⟨rfl, rfl⟩))
  go_ret
  exact ⟨rfl, L1⟩
end Go.Proofs.Ytpaedkefmebjjap
