/-
  Chapter 10's draws: sound units of all kinds, with a register's number and a value.
-/
import Derived.Test.YtpaedkefmebjjagAD
namespace Go.Proofs.Ytpaedkefmebjjag
set_option linter.unusedVariables false
set_option linter.unusedSimpArgs false
open Go.ChangeShapes Go.WideShapes Go.ChangeAt Go.RowKit
theorem LA.one {w W : World} {B c : Nat} {a : Option Addr} {len cap z : Nat} {T P C X L : Int} {S Q : Bool} (h : LA w W B c a len cap z T P C X L S Q) (hc : c < w.heap.size) (o : Nat) (x : Value) {T' P' C' X' L' : Int} {S' Q' : Bool} (e : (#[.int .i64 T, .int .i64 P, .int .i64 C, .int .i64 X, .int .i64 L, .bool S, .bool Q].setIfInBounds o x : Array Value) = #[.int .i64 T', .int .i64 P', .int .i64 C', .int .i64 X', .int .i64 L', .bool S', .bool Q']) :
    LA w (W.setCell ⟨z, o, none⟩ x) B c a len cap z T' P' C' X' L' S' Q' := by
  have hf := h.far
  have O : OnlyAt z W (W.setCell ⟨z, o, none⟩ x) := (OnlyAt.refl z W).setCell _
  have hB : B ≤ z := by have := h.cur.up; omega
  refine ⟨(O.block _ (by omega)).trans h.res, ?_, hf, h.cur.only O (by omega) hB, h.step.only O (by omega)⟩
  have := box_set7 h.box o x
  rw [e] at this
  exact this
def pickT (j : Nat) : Int := [-1, 20000, 20001].getD j 0
def pickL (j : Nat) : Int := [-1, 31, 32].getD j 0
set_option maxRecDepth 20000 in
set_option maxHeartbeats 2000000 in
theorem l10Draw (w : World) (B c : Nat) (a : Option Addr) (len cap : Nat) (H : Cur w B c a len cap) (hc : c < w.heap.size) :
    Calls Try.prog 42 #[.pointer (some ⟨c, 0, none⟩)] w fun e w' => (∃ (T P C X L : Int) (S Q : Bool), e = .returned (.agg #[.int .i64 T, .int .i64 P, .int .i64 C, .int .i64 X, .int .i64 L, .bool S, .bool Q])) ∧ Cur w' B c a len cap ∧ Step c w w' := by
  have r0 := box_new w #[.int .i64 0, .int .i64 0, .int .i64 0, .int .i64 0, .int .i64 0, .bool false, .bool false] 33
  have S0 := (Step.refl c w).alloc (.cells #[.int .i64 0, .int .i64 0, .int .i64 0, .int .i64 0, .int .i64 0, .bool false, .bool false] 33)
  have H0 := H.alloc (.cells #[.int .i64 0, .int .i64 0, .int .i64 0, .int .i64 0, .int .i64 0, .bool false, .bool false] 33) hc
  have FIN : ∀ (W : World) (z : Nat) (T P C X L : Int) (S Q : Bool), LA w W B c a len cap z T P C X L S Q → Cur (((((((W.setCell ⟨w.heap.size, 0, none⟩ (.int .i64 T)).setCell ⟨w.heap.size, 1, none⟩ (.int .i64 P)).setCell ⟨w.heap.size, 2, none⟩ (.int .i64 C)).setCell ⟨w.heap.size, 3, none⟩ (.int .i64 X)).setCell ⟨w.heap.size, 4, none⟩ (.int .i64 L)).setCell ⟨w.heap.size, 5, none⟩ (.bool S)).setCell ⟨w.heap.size, 6, none⟩ (.bool Q)) B c a len cap ∧ Step c w (((((((W.setCell ⟨w.heap.size, 0, none⟩ (.int .i64 T)).setCell ⟨w.heap.size, 1, none⟩ (.int .i64 P)).setCell ⟨w.heap.size, 2, none⟩ (.int .i64 C)).setCell ⟨w.heap.size, 3, none⟩ (.int .i64 X)).setCell ⟨w.heap.size, 4, none⟩ (.int .i64 L)).setCell ⟨w.heap.size, 5, none⟩ (.bool S)).setCell ⟨w.heap.size, 6, none⟩ (.bool Q)) := fun W z T P C X L S Q M => ⟨M.cur.only (only7 _ _ _ _ _ _ _ _ _) (by omega) (by have := H.up; omega), M.step.only (only7 _ _ _ _ _ _ _ _ _) (Nat.le_refl _)⟩
  go_enter Try.func42, Try.ntmps42
  go_wp2_with fail
  generalize hW0 : w.alloc (.cells #[.int .i64 0, .int .i64 0, .int .i64 0, .int .i64 0, .int .i64 0, .bool false, .bool false] 33) = W0 at *
  have hs0 : c < W0.heap.size := Nat.lt_of_lt_of_le hc S0.size
  refine (l10DrawRight _ B c a len cap H0 hs0).mono ?_
  rintro e W1 ⟨⟨T, P, C, X, L, S, Q, rfl⟩, H1, S1⟩
  have r1 := S1.box r0 (by omega)
  have M2 : LA w (W1.alloc (.cells #[.int .i64 T, .int .i64 P, .int .i64 C, .int .i64 X, .int .i64 L, .bool S, .bool Q] 33)) B c a len cap W1.heap.size T P C X L S Q :=
    ⟨boxA r1 _, box_new _ _ _, boxLt r1, H1.alloc _ (Nat.lt_of_lt_of_le hs0 S1.size), (S0.trans S1).alloc _⟩
  clear r0 r1 S0 S1 H0 H1 hW0 hs0
  go_upto_region 2 with (fail)
  obtain ⟨z, hz⟩ : ∃ z, Hid (z = W1.heap.size) := ⟨_, rfl⟩
  generalize W1.alloc (.cells #[.int .i64 T, .int .i64 P, .int .i64 C, .int .i64 X, .int .i64 L, .bool S, .bool Q] 33) = W2 at *
  rw [← hz.out] at M2 ⊢
  clear hz
  go_wp2_with fail
  refine (l1Below _ B c a len cap M2.cur 20).mono ?_
  rintro e W3 ⟨y, rfl, y0, y1, H3, O3⟩
  have M3 := M2.moved hc O3.step H3
  clear M2 O3 H3
  by_cases hy0 : y = 0
  · subst hy0
    have hn : W3.heap.size ≠ c := by have := M3.apu hc; omega
    go_wp2_with fail
    refine (l1PickInt _ B c a len cap (M3.cur.alloc _ (M3.apu hc)) W3.heap.size 3 (by omega) (by omega) hn pickT ?_).mono ?_
    · intro j hj
      rw [World.cell?_alloc_new]
      rcases j with _ | _ | _ | j <;> first | rfl | omega
    rintro e W4 ⟨j4, rfl, hj4, H4, O4⟩
    generalize pickT j4 = v at *
    have M4 := (M3.below hc ((Below.refl W3.heap.size W3).alloc (Nat.le_refl _) _)).moved hc O4.step H4
    clear M3 H4 O4
    have M5 := M4.one (T' := v) (P' := P) (C' := C) (X' := X) (L' := L) (S' := S) (Q' := Q) hc 0 (.int .i64 v) rfl
    have cz := boxC M4.box
    have fz := boxF M4.box
    have cr := boxC M4.res
    have fr := boxF M4.res
    have hf := M4.far
    have r5 := fun (x0 x1 x2 x3 x4 x5 x6 : Value) => boxC (put7_box M5.res x0 x1 x2 x3 x4 x5 x6)
    have HM := hide M5
    clear M4 M5
    go_wp2
    refine bodyPost_ret (v := .agg #[.int .i64 v, .int .i64 P, .int .i64 C, .int .i64 X, .int .i64 L, .bool S, .bool Q]) (by simp [results, Try.results42, go_sem, r5]) rfl ?_
    exact ⟨⟨_, _, _, _, _, _, _, rfl⟩, FIN _ _ _ _ _ _ _ _ _ HM.out⟩
  by_cases hy1 : y = 1
  · subst hy1
    have hn : W3.heap.size ≠ c := by have := M3.apu hc; omega
    go_wp2_with fail
    refine (l1PickInt _ B c a len cap (M3.cur.alloc _ (M3.apu hc)) W3.heap.size 3 (by omega) (by omega) hn pickL ?_).mono ?_
    · intro j hj
      rw [World.cell?_alloc_new]
      rcases j with _ | _ | _ | j <;> first | rfl | omega
    rintro e W4 ⟨j4, rfl, hj4, H4, O4⟩
    generalize pickL j4 = v at *
    have M4 := (M3.below hc ((Below.refl W3.heap.size W3).alloc (Nat.le_refl _) _)).moved hc O4.step H4
    clear M3 H4 O4
    have M5 := M4.one (T' := T) (P' := P) (C' := C) (X' := X) (L' := v) (S' := S) (Q' := Q) hc 4 (.int .i64 v) rfl
    have cz := boxC M4.box
    have fz := boxF M4.box
    have cr := boxC M4.res
    have fr := boxF M4.res
    have hf := M4.far
    have r5 := fun (x0 x1 x2 x3 x4 x5 x6 : Value) => boxC (put7_box M5.res x0 x1 x2 x3 x4 x5 x6)
    have HM := hide M5
    clear M4 M5
    go_wp2
    refine bodyPost_ret (v := .agg #[.int .i64 T, .int .i64 P, .int .i64 C, .int .i64 X, .int .i64 v, .bool S, .bool Q]) (by simp [results, Try.results42, go_sem, r5]) rfl ?_
    exact ⟨⟨_, _, _, _, _, _, _, rfl⟩, FIN _ _ _ _ _ _ _ _ _ HM.out⟩
  by_cases hy2 : y = 2
  · subst hy2
    have M5 := M3.one (T' := T) (P' := P) (C' := C) (X' := 2) (L' := L) (S' := S) (Q' := Q) hc 3 (.int .i64 2) rfl
    have cz := boxC M3.box
    have fz := boxF M3.box
    have cr := boxC M3.res
    have fr := boxF M3.res
    have hf := M3.far
    have r5 := fun (x0 x1 x2 x3 x4 x5 x6 : Value) => boxC (put7_box M5.res x0 x1 x2 x3 x4 x5 x6)
    have HM := hide M5
    clear M3 M5
    go_wp2
    refine bodyPost_ret (v := .agg #[.int .i64 T, .int .i64 P, .int .i64 C, .int .i64 2, .int .i64 L, .bool S, .bool Q]) (by simp [results, Try.results42, go_sem, r5]) rfl ?_
    exact ⟨⟨_, _, _, _, _, _, _, rfl⟩, FIN _ _ _ _ _ _ _ _ _ HM.out⟩
  by_cases hy3 : y = 3
  · subst hy3
    have M5 := M3.one (T' := T) (P' := P) (C' := 256) (X' := X) (L' := L) (S' := S) (Q' := Q) hc 2 (.int .i64 256) rfl
    have cz := boxC M3.box
    have fz := boxF M3.box
    have cr := boxC M3.res
    have fr := boxF M3.res
    have hf := M3.far
    have r5 := fun (x0 x1 x2 x3 x4 x5 x6 : Value) => boxC (put7_box M5.res x0 x1 x2 x3 x4 x5 x6)
    have HM := hide M5
    clear M3 M5
    go_wp2
    refine bodyPost_ret (v := .agg #[.int .i64 T, .int .i64 P, .int .i64 256, .int .i64 X, .int .i64 L, .bool S, .bool Q]) (by simp [results, Try.results42, go_sem, r5]) rfl ?_
    exact ⟨⟨_, _, _, _, _, _, _, rfl⟩, FIN _ _ _ _ _ _ _ _ _ HM.out⟩
  · have cz := boxC M3.box
    have fz := boxF M3.box
    have cr := boxC M3.res
    have fr := boxF M3.res
    have hf := M3.far
    have r5 := fun (x0 x1 x2 x3 x4 x5 x6 : Value) => boxC (put7_box M3.res x0 x1 x2 x3 x4 x5 x6)
    have HM := hide M3
    clear M3
    go_wp2
    refine bodyPost_ret (v := .agg #[.int .i64 T, .int .i64 P, .int .i64 C, .int .i64 X, .int .i64 L, .bool S, .bool Q]) (by simp [results, Try.results42, go_sem, r5]) rfl ?_
    exact ⟨⟨_, _, _, _, _, _, _, rfl⟩, FIN _ _ _ _ _ _ _ _ _ HM.out⟩
set_option maxHeartbeats 1000000 in
theorem drawApuTick (w : World) (B : Nat) (a : Option Addr) (len cap : Nat) (hB : B ≤ w.heap.size) (H : Code w B a len) :
    Calls Try.prog 13 #[.slice a len cap] w fun e w' => ∃ (T P C X L : Int) (S Q : Bool), e = .returned (.agg #[.int .i64 T, .int .i64 P, .int .i64 C, .int .i64 X, .int .i64 L, .bool S, .bool Q]) ∧ Below w.heap.size w w' := by
  have r0 := box_new w #[.int .i64 0, .int .i64 0, .int .i64 0, .int .i64 0, .int .i64 0, .bool false, .bool false] 33
  have L0 : Below w.heap.size w (w.alloc (.cells #[.int .i64 0, .int .i64 0, .int .i64 0, .int .i64 0, .int .i64 0, .bool false, .bool false] 33)) := (Below.refl _ _).alloc (Nat.le_refl _) _
  go_enter Try.func13, Try.ntmps13
  go_wp2_with fail
  generalize w.alloc (.cells #[.int .i64 0, .int .i64 0, .int .i64 0, .int .i64 0, .int .i64 0, .bool false, .bool false] 33) = W0 at *
  refine (l1New _ B a len cap (Nat.le_trans hB L0.size) (H.keep (L0.mono hB))).mono ?_
  rintro e W1 ⟨rfl, H1, L1, s1⟩
  obtain ⟨c, hc⟩ : ∃ c, c = W0.heap.size := ⟨_, rfl⟩
  rw [← hc] at H1 ⊢
  have hc1 : c < W1.heap.size := by omega
  have hwc : w.heap.size < c := by have := boxLt r0; omega
  have r1 := box_keep r0 L1 (boxLt r0)
  have C1 := below_snoc L0 L1
  clear L0 L1 r0 s1 hc
  go_wp2_with fail
  refine (l10Draw _ B c a len cap H1 hc1).mono ?_
  rintro e W2 ⟨⟨T, P, C, X, L, S, Q, rfl⟩, H2, S2⟩
  have r2 := S2.box r1 (by omega)
  have C2 : Below w.heap.size w W2 := C1.trans (S2.below (by omega) C1.size)
  have hc2 : c < W2.heap.size := Nat.lt_of_lt_of_le hc1 S2.size
  clear C1 S2 r1 H1
  have cr := boxC r2
  have fr := boxF r2
  have r5 := fun (x0 x1 x2 x3 x4 x5 x6 : Value) => boxC (put7_box r2 x0 x1 x2 x3 x4 x5 x6)
  go_wp2
  refine bodyPost_ret (v := .agg #[.int .i64 T, .int .i64 P, .int .i64 C, .int .i64 X, .int .i64 L, .bool S, .bool Q]) (by simp [results, Try.results13, go_sem, r5]) rfl ?_
  exact ⟨_, _, _, _, _, _, _, rfl, C2.trans (put7 W2 _ _ _ _ _ _ _ _)⟩
end Go.Proofs.Ytpaedkefmebjjag
