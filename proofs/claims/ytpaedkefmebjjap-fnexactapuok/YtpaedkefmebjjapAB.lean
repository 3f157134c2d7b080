/-
  Chapter 10: the specification's cycle, write and read of a sound unit.
-/
import Derived.Test.YtpaedkefmebjjapAA
namespace Go.Proofs.Ytpaedkefmebjjap
set_option linter.unusedVariables false
set_option linter.unusedSimpArgs false
open Go.ChangeShapes Go.WideShapes Go.ChangeAt Go.RowKit
theorem tickA_end {T P C B L : Int} (h : IsApu T P C B L) (hT : T = 20000) (S Q : Bool) : tickA T P C B L S Q = .tuple #[.agg #[.int .i64 T, .int .i64 P, .int .i64 C, .int .i64 B, .int .i64 L, .bool S, .bool Q], .int .i64 0, .bool false] := by
  unfold tickA
  rw [if_pos ((okApu_iff _ _ _ _ _).2 h), if_pos hT]
theorem tickA_on {T P C B L : Int} (h : IsApu T P C B L) (hT : T ≠ 20000) (S Q : Bool) : tickA T P C B L S Q = .tuple #[.agg #[.int .i64 (T + 1), .int .i64 P, .int .i64 (tcA P C), .int .i64 (tbA C B L), .int .i64 (tlA T L), .bool S, .bool (tqA T L S Q)], .int .i64 (tvA T C B L), .bool (toldA T)] := by
  unfold tickA
  rw [if_pos ((okApu_iff _ _ _ _ _).2 h), if_neg hT]
theorem tickA_no {T P C B L : Int} (h : okApu T P C B L = false) (S Q : Bool) : tickA T P C B L S Q = .tuple #[.agg #[.int .i64 0, .int .i64 0, .int .i64 0, .int .i64 0, .int .i64 0, .bool false, .bool false], .int .i64 0, .bool false] := by
  unfold tickA
  rw [if_neg (by simp [h])]
set_option maxHeartbeats 4000000 in
theorem specL10Tick (w : World) (T P C B L : Int) (S Q : Bool) (h : IsApu T P C B L) : Calls Try.prog 29 #[.agg #[.int .i64 T, .int .i64 P, .int .i64 C, .int .i64 B, .int .i64 L, .bool S, .bool Q]] w
    fun e w' => e = .returned (tickA T P C B L S Q) ∧ Below w.heap.size w w' := by
  have L0 : ∀ (o o2 : Obj), Below w.heap.size w ((w.alloc o).alloc o2) := fun o o2 => ((Below.refl _ _).alloc (Nat.le_refl _) _).alloc (by simp) _
  by_cases hT : T = 20000
  · have HT := hide (tickA_end h hT S Q)
    subst hT
    rw [HT.out]
    clear HT h
    go_enter Try.func29, Try.ntmps29
    go_wp2
    refine bodyPost_ret (v := .tuple #[.agg #[.int .i64 20000, .int .i64 P, .int .i64 C, .int .i64 B, .int .i64 L, .bool S, .bool Q], .int .i64 0, .bool false]) (by simp [results, Try.results29, go_sem]) rfl ?_
    exact ⟨rfl, L0 _ _⟩
  · have HT := hide (tickA_on h hT S Q)
    obtain ⟨v, hv⟩ : ∃ v, Hid (tickA T P C B L S Q = v) := ⟨_, rfl⟩
    rw [hv.out] at HT ⊢
    clear hv
    have t0 := h.t0
    have t1 := h.t1
    have c0 := h.c0
    have c1 := h.c1
    have b0 := h.b0
    have b1 := h.b1
    have l0 := h.l0
    have l1 := h.l1
    have m32 : T.tmod 32 = T % 32 := Int.tmod_eq_emod_of_nonneg t0
    have m16 : T.tmod 16 = T % 16 := Int.tmod_eq_emod_of_nonneg t0
    clear h
    by_cases hC : C = 0 <;> by_cases hL : 0 < L <;> by_cases hb : T % 32 = 0 <;> by_cases ht : T % 16 = 15
    all_goals first
      | (exfalso; omega)
      | (go_enter Try.func29, Try.ntmps29
         go_wp2
         all_goals (refine bodyPost_ret (v := .tuple #[.agg #[.int .i64 (T + 1), .int .i64 P, .int .i64 (tcA P C), .int .i64 (tbA C B L), .int .i64 (tlA T L), .bool S, .bool (tqA T L S Q)], .int .i64 (tvA T C B L), .bool (toldA T)]) (by first | (have hL' : 0 < L := (by omega); simp [results, Try.results29, go_sem, tcA, tbA, tlA, tqA, tvA, toldA, *]) | (have hL' : ¬ 0 < L := (by omega); simp [results, Try.results29, go_sem, tcA, tbA, tlA, tqA, tvA, toldA, *])) rfl ?_
                    exact ⟨by rw [HT.out], L0 _ _⟩))
end Go.Proofs.Ytpaedkefmebjjap
