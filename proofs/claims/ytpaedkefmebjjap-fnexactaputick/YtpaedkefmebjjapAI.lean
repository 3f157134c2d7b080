/-
  The program's chapter 10 by its contracts: the sound unit.
-/
import Derived.Test.YtpaedkefmebjjapAIc
import Derived.Laws.EntriesVeiled
import Derived.Deep.RegionHeld3
namespace Go.Proofs.Ytpaedkefmebjjap
set_option linter.unusedVariables false
set_option linter.unusedSimpArgs false
open Go.ChangeShapes Go.WideShapes Go.ChangeAt Go.RowKit Go.Sort
theorem below_drew10 {n : Nat} {u w : World} (h : Below n u w) : Below n u w.drew := ⟨h.os, h.tape, h.output, h.size, h.block⟩
set_option maxHeartbeats 2000000 in
theorem implApuTick (w : World) (T P C B L : Int) (S Q : Bool) : Calls Try.prog 18 #[.agg #[.int .i64 T, .int .i64 P, .int .i64 C, .int .i64 B, .int .i64 L, .bool S, .bool Q]] w
    fun e w' => e = .returned (tickA T P C B L S Q) ∧ Below w.heap.size w w' := by
  have k0 : ((w.alloc (.cells #[.int .i64 T, .int .i64 P, .int .i64 C, .int .i64 B, .int .i64 L, .bool S, .bool Q] 28)).alloc (.cells #[.int .i64 0, .int .i64 0, .int .i64 0, .int .i64 0, .int .i64 0, .bool false, .bool false] 28)).heap[w.heap.size]? = some (.cells #[.int .i64 T, .int .i64 P, .int .i64 C, .int .i64 B, .int .i64 L, .bool S, .bool Q] 28 (0, 0)) := boxA (box_new w #[.int .i64 T, .int .i64 P, .int .i64 C, .int .i64 B, .int .i64 L, .bool S, .bool Q] 28) _
  have k1 : ((w.alloc (.cells #[.int .i64 T, .int .i64 P, .int .i64 C, .int .i64 B, .int .i64 L, .bool S, .bool Q] 28)).alloc (.cells #[.int .i64 0, .int .i64 0, .int .i64 0, .int .i64 0, .int .i64 0, .bool false, .bool false] 28)).heap[w.heap.size + 1]? = some (.cells #[.int .i64 0, .int .i64 0, .int .i64 0, .int .i64 0, .int .i64 0, .bool false, .bool false] 28 (0, 0)) := by simpa using box_new (w.alloc (.cells #[.int .i64 T, .int .i64 P, .int .i64 C, .int .i64 B, .int .i64 L, .bool S, .bool Q] 28)) #[.int .i64 0, .int .i64 0, .int .i64 0, .int .i64 0, .int .i64 0, .bool false, .bool false] 28
  have C0 : Below w.heap.size w ((w.alloc (.cells #[.int .i64 T, .int .i64 P, .int .i64 C, .int .i64 B, .int .i64 L, .bool S, .bool Q] 28)).alloc (.cells #[.int .i64 0, .int .i64 0, .int .i64 0, .int .i64 0, .int .i64 0, .bool false, .bool false] 28)) := ((Below.refl _ _).alloc (Nat.le_refl _) _).alloc (by simp) _
  cases hok : okApu T P C B L
  · have HT := hide (tickA_no hok S Q)
    rw [HT.out]
    clear HT
    go_enter Try.func18, Try.ntmps18
    go_wp2_with fail
    generalize (w.alloc (.cells #[.int .i64 T, .int .i64 P, .int .i64 C, .int .i64 B, .int .i64 L, .bool S, .bool Q] 28)).alloc (.cells #[.int .i64 0, .int .i64 0, .int .i64 0, .int .i64 0, .int .i64 0, .bool false, .bool false] 28) = W0 at *
    refine (implApuOk _ T P C B L S Q).mono ?_
    rintro e W1 ⟨rfl, L1⟩
    rw [hok]
    replace k0 := box_keep k0 L1 (boxLt k0)
    replace k1 := box_keep k1 L1 (boxLt k1)
    have C1 := below_snoc C0 L1
    have c1 := boxC k1
    have f1 := boxF k1
    go_wp2
    have r1 := boxC (put7_box k1 (.int .i64 0) (.int .i64 0) (.int .i64 0) (.int .i64 0) (.int .i64 0) (.bool false) (.bool false))
    refine bodyPost_ret (v := .tuple #[.agg #[.int .i64 0, .int .i64 0, .int .i64 0, .int .i64 0, .int .i64 0, .bool false, .bool false], .int .i64 0, .bool false]) (by simp [results, Try.results18, go_sem, r1]) rfl ?_
    exact ⟨rfl, C1.trans ((put7 W1 _ _ _ _ _ _ _ _).mono (by omega))⟩
  · by_cases hT : T = 20000
    · subst hT
      have HT := hide (tickA_end (okApu_of hok) rfl S Q)
      rw [HT.out]
      clear HT
      go_enter Try.func18, Try.ntmps18
      go_wp2_with fail
      generalize (w.alloc (.cells #[.int .i64 20000, .int .i64 P, .int .i64 C, .int .i64 B, .int .i64 L, .bool S, .bool Q] 28)).alloc (.cells #[.int .i64 0, .int .i64 0, .int .i64 0, .int .i64 0, .int .i64 0, .bool false, .bool false] 28) = W0 at *
      refine (implApuOk _ 20000 P C B L S Q).mono ?_
      rintro e W1 ⟨rfl, L1⟩
      rw [hok]
      replace k0 := box_keep k0 L1 (boxLt k0)
      replace k1 := box_keep k1 L1 (boxLt k1)
      have C1 := below_snoc C0 L1
      have c0 := boxC k0
      have c1 := boxC k1
      have f1 := boxF k1
      clear hok
      go_wp2
      refine bodyPost_ret (v := .tuple #[.agg #[.int .i64 20000, .int .i64 P, .int .i64 C, .int .i64 B, .int .i64 L, .bool S, .bool Q], .int .i64 0, .bool false]) (by simp [results, Try.results18, go_sem, fun (x0 x1 x2 x3 x4 x5 x6 : Value) => boxC (put7_box k1 x0 x1 x2 x3 x4 x5 x6)]) rfl ?_
      exact ⟨rfl, C1.trans ((put7 W1 _ _ _ _ _ _ _ _).mono (by omega))⟩
    · have HA := hide (okApu_of hok)
      have HT := hide (tickA_on (okApu_of hok) hT S Q)
      rw [HT.out]
      clear HT
      obtain ⟨c', hc'⟩ : ∃ x, Hid (x = tcA P C) := ⟨_, rfl⟩
      obtain ⟨b', hb'⟩ : ∃ x, Hid (x = tbA C B L) := ⟨_, rfl⟩
      obtain ⟨l', hl'⟩ : ∃ x, Hid (x = tlA T L) := ⟨_, rfl⟩
      obtain ⟨q', hq'⟩ : ∃ x, Hid (x = tqA T L S Q) := ⟨_, rfl⟩
      obtain ⟨v', hv'⟩ : ∃ x, Hid (x = tvA T C B L) := ⟨_, rfl⟩
      obtain ⟨d', hd'⟩ : ∃ x, Hid (x = toldA T) := ⟨_, rfl⟩
      have HP := hide (fun W k => apuTickP W w.heap.size T P C B L S Q k HA.out hT)
      rw [← hc'.out, ← hb'.out, ← hl'.out, ← hq'.out, ← hv'.out, ← hd'.out] at HP
      rw [← hc'.out, ← hb'.out, ← hl'.out, ← hq'.out, ← hv'.out, ← hd'.out]
      clear hc' hb' hl' hq' hv' hd' HA
      go_enter Try.func18, Try.ntmps18
      go_wp2_with fail
      generalize (w.alloc (.cells #[.int .i64 T, .int .i64 P, .int .i64 C, .int .i64 B, .int .i64 L, .bool S, .bool Q] 28)).alloc (.cells #[.int .i64 0, .int .i64 0, .int .i64 0, .int .i64 0, .int .i64 0, .bool false, .bool false] 28) = W0 at *
      refine (implApuOk _ T P C B L S Q).mono ?_
      rintro e W1 ⟨rfl, L1⟩
      rw [hok]
      replace k0 := box_keep k0 L1 (boxLt k0)
      replace k1 := box_keep k1 L1 (boxLt k1)
      have C1 := below_snoc C0 L1
      have c0 := boxC k0
      clear hok L1 C0
      have hT' : (T == 20000) = false := beq_eq_false_iff_ne.2 hT
      go_wp2_with fail
      clear c0
      refine (HP.out _ k0).mono ?_
      rintro e W2 ⟨rfl, k2, L2⟩
      have C2 : Below w.heap.size w W2 := C1.trans (L2.below C1.size (fun b o hb e => by omega))
      have k3 : W2.heap[w.heap.size + 1]? = some (.cells #[.int .i64 0, .int .i64 0, .int .i64 0, .int .i64 0, .int .i64 0, .bool false, .bool false] 28 (0, 0)) := (L2.block _ (boxLt k1) (fun o e => by omega)).trans k1
      have c2 := boxC k2
      have c3 := boxC k3
      have f3 := boxF k3
      clear k0 k1 C1 L2 hT hT' HP
      go_wp2
      refine bodyPost_ret (v := .tuple #[.agg #[.int .i64 (T + 1), .int .i64 P, .int .i64 c', .int .i64 b', .int .i64 l', .bool S, .bool q'], .int .i64 v', .bool d']) (by simp [results, Try.results18, go_sem, fun (x0 x1 x2 x3 x4 x5 x6 : Value) => boxC (put7_box k3 x0 x1 x2 x3 x4 x5 x6)]) rfl ?_
      exact ⟨rfl, C2.trans ((put7 W2 _ _ _ _ _ _ _ _).mono (by omega))⟩
end Go.Proofs.Ytpaedkefmebjjap
