/-
  Chapter 11's draws: a pad, a row of what is pressed, a time; they turn nothing that was there but the cursor.
-/
import Derived.Test.YtpaedkefmebjjagPD
import Derived.Test.YtpaedkefmebjjagD9
import Derived.Test.YtpaedkefmebjjagD5
import Derived.Test.YtpaedkefmebjjagA8
namespace Go.Proofs.Ytpaedkefmebjjag
set_option linter.unusedVariables false
set_option linter.unusedSimpArgs false
open Go.ChangeShapes Go.WideShapes Go.ChangeAt Go.RowKit
/- Where the drawing of a row stands: the row in a block of its own, the cursor. -/
structure LP (w W : World) (B c : Nat) (a : Option Addr) (len cap g n x : Nat) (f : Nat → Int) : Prop where
  row : Row W w.heap.size g n x f
  cur : Cur W B c a len cap
  step : Step c w W
theorem LP.lt {w W : World} {B c : Nat} {a : Option Addr} {len cap g n x : Nat} {f : Nat → Int} (h : LP w W B c a len cap g n x f) (hc : c < w.heap.size) : c < W.heap.size := Nat.lt_of_lt_of_le hc h.step.size
theorem LP.moved {w W W' : World} {B c : Nat} {a : Option Addr} {len cap g n x : Nat} {f : Nat → Int} (h : LP w W B c a len cap g n x f) (hc : c < w.heap.size) (M : Step c W W') (H : Cur W' B c a len cap) : LP w W' B c a len cap g n x f :=
  ⟨h.row.block (M.block g h.row.parts.2.1 (by have := h.row.parts.1; omega)), H, h.step.trans M⟩
theorem LP.below {w W W' : World} {B c : Nat} {a : Option Addr} {len cap g n x : Nat} {f : Nat → Int} (h : LP w W B c a len cap g n x f) (hc : c < w.heap.size) (M : Below W.heap.size W W') : LP w W' B c a len cap g n x f :=
  h.moved hc (below_step M (Nat.le_refl _)) (h.cur.below M (h.lt hc))
theorem LP.push {w W W' : World} {B c : Nat} {a : Option Addr} {len cap g n x : Nat} {f : Nat → Int} (h : LP w W B c a len cap g n x f) (hc : c < w.heap.size) {g' n' x' : Nat} {f' : Nat → Int} (R : Row W' w.heap.size g' n' x' f') (WW : Wrote (fun b _ => b = g) W W') : LP w W' B c a len cap g' n' x' f' := by
  have hg := h.row.parts.1
  exact ⟨R, h.cur.below (WW.below (B := w.heap.size) h.step.size (fun b o hb e => by omega)) hc, ⟨WW.os.trans h.step.os, WW.tape.trans h.step.tape, WW.output.trans h.step.output, Nat.le_trans h.step.size WW.size, fun k hk hkc => (WW.block k (Nat.lt_of_lt_of_le hk h.step.size) (fun o e => by omega)).trans (h.step.block k hk hkc)⟩⟩
def pickB (j : Nat) : Int := [-1, 256].getD j 0
set_option maxRecDepth 20000 in
set_option maxHeartbeats 2000000 in
theorem l11DrawPads (w : World) (B c : Nat) (a : Option Addr) (len cap : Nat) (H : Cur w B c a len cap) (hc : c < w.heap.size) :
    Calls Try.prog 51 #[.pointer (some ⟨c, 0, none⟩)] w fun e w' => ∃ (g n x : Nat) (f : Nat → Int), e = .returned (.slice (some ⟨g, 0, none⟩) n x) ∧ LP w w' B c a len cap g n x f := by
  have M0 : LP w (w.alloc (.cells #[] 3)) B c a len cap w.heap.size 0 0 (fun _ => 0) :=
    ⟨Row.empty _ (box_new w #[] 3) (Nat.le_refl _), H.alloc _ hc, (Step.refl c w).alloc _⟩
  have hmk := fun (n : Nat) (hn : n ≤ 1048576) => run_make_row' (P := Try.prog) 24 3 (.int .i64 0) 8 Try.underlying24 info3 rfl .i64 .i64 n (by omega) (by omega)
  go_enter Try.func51, Try.ntmps51
  go_wp2
  generalize w.alloc (.cells #[] 3) = W0 at *
  go_loopw [3, 4] (fun o i wr => ∃ (j g x : Nat) (f : Nat → Int), j ≤ 5 ∧ i = .int .i64 j ∧ o = .slice (some ⟨g, 0, none⟩) j x ∧ LP w wr B c a len cap g j x f) (fun _ i _ => 6 - (intOf i).toNat)
  case atStart => exact ⟨0, w.heap.size, 0, fun _ => 0, by omega, rfl, rfl, M0⟩
  case round =>
    obtain ⟨j, g, x, f, hj, rfl, rfl, M⟩ := hrel
    clear M0
    go_wp2_with fail
    refine (l1Below _ B c a len cap M.cur 5).mono ?_
    rintro e W1 ⟨y, rfl, y0, y1, H1, O1⟩
    have M1 := M.moved hc O1.step H1
    clear M O1 H1
    by_cases hlt : (j : Int) < y
    · clear hmk
      go_wp2_with fail
      refine (l1Below _ B c a len cap M1.cur 256).mono ?_
      rintro e W2 ⟨v, rfl, v0, v1, H2, O2⟩
      have M2 := M1.moved hc O2.step H2
      clear M1 O2 H2
      have k3 := box_new W2 #[.int .i64 v] 3
      have M3 := M2.below hc ((Below.refl W2.heap.size W2).alloc (Nat.le_refl _) (.cells #[.int .i64 v] 3))
      have HM3 := hide M3
      have HK3 := hide k3
      clear M2 M3 k3
      go_wp2_with (at_builtin; refine wpList_push _ rfl _ _ rfl w.heap.size g j x f rfl HM3.out.row (by omega) W2.heap.size v rfl (boxC HK3.out 0) ?_)
      intro g' x' W4 R4 T4 h4
      have HM4 := hide (HM3.out.push hc R4 T4)
      clear R4 T4 h4 HM3 HK3
      go_wp2
      go_round
      case rel => exact ⟨j + 1, g', x', _, by omega, by go_num, by go_num, HM4.out⟩
      case measure => simp [intOf]; omega
    · go_wp2_with fail
      refine (l1Once _ B c a len cap M1.cur 30).mono ?_
      rintro e W2 ⟨ba, rfl, H2, O2⟩
      have M2 := M1.moved hc O2.step H2
      clear M1 O2 H2
      cases ba
      · skip
        have hs2 := M2.lt hc
        go_wp2_with fail
        refine (l1Once _ B c a len cap M2.cur 40).mono ?_
        rintro e W3 ⟨bb, rfl, H3, O3⟩
        have M3 := M2.moved hc O3.step H3
        clear M2 O3 H3 hs2
        cases bb
        · go_wp2
          go_ret
          exact ⟨_, _, _, _, rfl, M3⟩
        · go_wp2_with fail
          refine (l1Below _ B c a len cap M3.cur 2).mono ?_
          rintro e W4 ⟨z, rfl, z0, z1, H4, O4⟩
          have M4 := M3.moved hc O4.step H4
          clear M3 O4 H4
          obtain ⟨N, rfl⟩ : ∃ N : Nat, z = N := ⟨z.toNat, by omega⟩
          have hN : N < 2 := by omega
          have hN1 : 20 + N ≤ 1048576 := by omega
          have hk := hmk (20 + N) hN1
          have hcast : (20 : Int) + (N : Int) = ((20 + N : Nat) : Int) := by omega
          generalize 20 + N = K at *
          go_wp2
          go_ret
          have RK := Row.fresh (lo := w.heap.size) (f := fun _ => 0) ((World.rowIs_made W4 (.int .i64 0) K 3).congr (fun i _ => rfl)) hN1 M4.step.size
          exact ⟨_, _, _, _, rfl, RK, (M4.below hc ((Below.refl W4.heap.size W4).alloc (Nat.le_refl _) _)).cur, (M4.below hc ((Below.refl W4.heap.size W4).alloc (Nat.le_refl _) _)).step⟩
      · have hn2 : W2.heap.size ≠ c := by have := M2.lt hc; omega
        go_wp2_with fail
        refine (l1PickInt _ B c a len cap (M2.cur.alloc _ (M2.lt hc)) W2.heap.size 2 (by omega) (by omega) hn2 pickB ?_).mono ?_
        · intro j hj
          rw [World.cell?_alloc_new]
          rcases j with _ | _ | j <;> first | rfl | omega
        rintro e W3 ⟨j3, rfl, hj3, H3, O3⟩
        generalize pickB j3 = v at *
        have M3 := (M2.below hc ((Below.refl W2.heap.size W2).alloc (Nat.le_refl _) _)).moved hc O3.step H3
        clear M2 H3 O3 hj3
        have k4 := box_new W3 #[.int .i64 v] 3
        have M4 := M3.below hc ((Below.refl W3.heap.size W3).alloc (Nat.le_refl _) (.cells #[.int .i64 v] 3))
        have HM4 := hide M4
        have HK4 := hide k4
        clear M3 M4 k4
        go_wp2_with (at_builtin; refine wpList_push _ rfl _ _ rfl w.heap.size g j x f rfl HM4.out.row (by omega) W3.heap.size v rfl (boxC HK4.out 0) ?_)
        intro g' x' W5 R5 T5 h5
        have M5 := HM4.out.push hc R5 T5
        clear R5 T5 h5 HM4 HK4
        have hs5 := M5.lt hc
        go_wp2_with fail
        refine (l1Once _ B c a len cap M5.cur 40).mono ?_
        rintro e W6 ⟨bb, rfl, H6, O6⟩
        have M6 := M5.moved hc O6.step H6
        clear M5 O6 H6 hs5
        cases bb
        · go_wp2
          go_ret
          exact ⟨_, _, _, _, rfl, M6⟩
        · go_wp2_with fail
          refine (l1Below _ B c a len cap M6.cur 2).mono ?_
          rintro e W7 ⟨z, rfl, z0, z1, H7, O7⟩
          have M7 := M6.moved hc O7.step H7
          clear M6 O7 H7
          obtain ⟨N, rfl⟩ : ∃ N : Nat, z = N := ⟨z.toNat, by omega⟩
          have hN : N < 2 := by omega
          have hN1 : 20 + N ≤ 1048576 := by omega
          have hk := hmk (20 + N) hN1
          have hcast : (20 : Int) + (N : Int) = ((20 + N : Nat) : Int) := by omega
          generalize 20 + N = K at *
          go_wp2
          go_ret
          have RK := Row.fresh (lo := w.heap.size) (f := fun _ => 0) ((World.rowIs_made W7 (.int .i64 0) K 3).congr (fun i _ => rfl)) hN1 M7.step.size
          exact ⟨_, _, _, _, rfl, RK, (M7.below hc ((Below.refl W7.heap.size W7).alloc (Nat.le_refl _) _)).cur, (M7.below hc ((Below.refl W7.heap.size W7).alloc (Nat.le_refl _) _)).step⟩
end Go.Proofs.Ytpaedkefmebjjag
