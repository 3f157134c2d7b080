/-
  Chapter 10's draws: a sound unit of whatever numbers; they turn nothing that was there but the cursor.
-/
import Derived.Test.YtpaedkefmebjjagD5
import Derived.Test.YtpaedkefmebjjagAC
import Derived.Deep.RegionHeld3
namespace Go.Proofs.Ytpaedkefmebjjag
set_option linter.unusedVariables false
set_option linter.unusedSimpArgs false
open Go.ChangeShapes Go.WideShapes Go.ChangeAt Go.RowKit
theorem only7 (w : World) (d : Nat) (v0 v1 v2 v3 v4 v5 v6 : Value) : OnlyAt d w (((((((w.setCell ⟨d, 0, none⟩ v0).setCell ⟨d, 1, none⟩ v1).setCell ⟨d, 2, none⟩ v2).setCell ⟨d, 3, none⟩ v3).setCell ⟨d, 4, none⟩ v4).setCell ⟨d, 5, none⟩ v5).setCell ⟨d, 6, none⟩ v6) :=
  (((((((OnlyAt.refl d w).setCell _).setCell _).setCell _).setCell _).setCell _).setCell _).setCell _
/- Where the drawing stands: the box of its answer, the box z of the unit, the cursor. -/
structure LA (w W : World) (B c : Nat) (a : Option Addr) (len cap z : Nat) (T P C X L : Int) (S Q : Bool) : Prop where
  res : W.heap[w.heap.size]? = some (.cells #[.int .i64 0, .int .i64 0, .int .i64 0, .int .i64 0, .int .i64 0, .bool false, .bool false] 33 (0, 0))
  box : W.heap[z]? = some (.cells #[.int .i64 T, .int .i64 P, .int .i64 C, .int .i64 X, .int .i64 L, .bool S, .bool Q] 33 (0, 0))
  far : w.heap.size < z
  cur : Cur W B c a len cap
  step : Step c w W
theorem LA.moved {w W W' : World} {B c : Nat} {a : Option Addr} {len cap z : Nat} {T P C X L : Int} {S Q : Bool} (h : LA w W B c a len cap z T P C X L S Q) (hc : c < w.heap.size) (M : Step c W W') (H : Cur W' B c a len cap) : LA w W' B c a len cap z T P C X L S Q := by
  have hf := h.far
  exact ⟨M.box h.res (by omega), M.box h.box (by omega), hf, H, h.step.trans M⟩
theorem LA.below {w W W' : World} {B c : Nat} {a : Option Addr} {len cap z : Nat} {T P C X L : Int} {S Q : Bool} (h : LA w W B c a len cap z T P C X L S Q) (hc : c < w.heap.size) (M : Below W.heap.size W W') : LA w W' B c a len cap z T P C X L S Q :=
  h.moved hc (below_step M (Nat.le_refl _)) (h.cur.below M (Nat.lt_of_lt_of_le hc h.step.size))
theorem LA.put {w W : World} {B c : Nat} {a : Option Addr} {len cap z : Nat} {T P C X L : Int} {S Q : Bool} (h : LA w W B c a len cap z T P C X L S Q) (hc : c < w.heap.size) (T' P' C' X' L' : Int) (S' Q' : Bool) :
    LA w (((((((W.setCell ⟨z, 0, none⟩ (.int .i64 T')).setCell ⟨z, 1, none⟩ (.int .i64 P')).setCell ⟨z, 2, none⟩ (.int .i64 C')).setCell ⟨z, 3, none⟩ (.int .i64 X')).setCell ⟨z, 4, none⟩ (.int .i64 L')).setCell ⟨z, 5, none⟩ (.bool S')).setCell ⟨z, 6, none⟩ (.bool Q')) B c a len cap z T' P' C' X' L' S' Q' := by
  have hf := h.far
  have O := only7 W z (.int .i64 T') (.int .i64 P') (.int .i64 C') (.int .i64 X') (.int .i64 L') (.bool S') (.bool Q')
  have hB : B ≤ z := by have := h.cur.up; omega
  exact ⟨(O.block _ (by omega)).trans h.res, put7_box h.box _ _ _ _ _ _ _, hf, h.cur.only O (by omega) hB, h.step.only O (by omega)⟩
theorem LA.apu {w W : World} {B c : Nat} {a : Option Addr} {len cap z : Nat} {T P C X L : Int} {S Q : Bool} (h : LA w W B c a len cap z T P C X L S Q) : c < w.heap.size → c < W.heap.size := fun hc => Nat.lt_of_lt_of_le hc h.step.size
def pickA (j : Nat) : Int := [0, 1, 2, 3, 33, 255, 9].getD j 0
set_option maxRecDepth 20000 in
set_option maxHeartbeats 4000000 in
theorem l10DrawRight (w : World) (B c : Nat) (a : Option Addr) (len cap : Nat) (H : Cur w B c a len cap) (hc : c < w.heap.size) :
    Calls Try.prog 67 #[.pointer (some ⟨c, 0, none⟩)] w fun e w' => (∃ (T P C X L : Int) (S Q : Bool), e = .returned (.agg #[.int .i64 T, .int .i64 P, .int .i64 C, .int .i64 X, .int .i64 L, .bool S, .bool Q])) ∧ Cur w' B c a len cap ∧ Step c w w' := by
  have M0 : LA w ((w.alloc (.cells #[.int .i64 0, .int .i64 0, .int .i64 0, .int .i64 0, .int .i64 0, .bool false, .bool false] 33)).alloc (.cells #[.int .i64 0, .int .i64 0, .int .i64 0, .int .i64 0, .int .i64 0, .bool false, .bool false] 33)) B c a len cap (w.heap.size + 1) 0 0 0 0 0 false false := by
    have L0 : Below w.heap.size w ((w.alloc (.cells #[.int .i64 0, .int .i64 0, .int .i64 0, .int .i64 0, .int .i64 0, .bool false, .bool false] 33)).alloc (.cells #[.int .i64 0, .int .i64 0, .int .i64 0, .int .i64 0, .int .i64 0, .bool false, .bool false] 33)) := ((Below.refl _ _).alloc (Nat.le_refl _) _).alloc (by simp) _
    exact ⟨boxA (box_new w _ _) _, by simpa using box_new (w.alloc (.cells #[.int .i64 0, .int .i64 0, .int .i64 0, .int .i64 0, .int .i64 0, .bool false, .bool false] 33)) #[.int .i64 0, .int .i64 0, .int .i64 0, .int .i64 0, .int .i64 0, .bool false, .bool false] 33, by omega, H.below L0 hc, below_step L0 (Nat.le_refl _)⟩
  go_enter Try.func67, Try.ntmps67
  go_wp2_with fail
  obtain ⟨z, hz⟩ : ∃ z, Hid (z = w.heap.size + 1) := ⟨_, rfl⟩
  generalize (w.alloc (.cells #[.int .i64 0, .int .i64 0, .int .i64 0, .int .i64 0, .int .i64 0, .bool false, .bool false] 33)).alloc (.cells #[.int .i64 0, .int .i64 0, .int .i64 0, .int .i64 0, .int .i64 0, .bool false, .bool false] 33) = W2 at *
  rw [← hz.out] at M0 ⊢
  clear hz
  refine (l1Below _ B c a len cap M0.cur 150).mono ?_
  rintro e W3 ⟨nn, rfl, n0, n1, H3, O3⟩
  have M3 := M0.moved hc O3.step H3
  clear M0 O3 H3
  obtain ⟨N, rfl⟩ : ∃ N : Nat, nn = N := ⟨nn.toNat, by omega⟩
  have hN : N ≤ 150 := by omega
  clear n0 n1
  go_wp2
  go_loopw [5] (fun i wr => ∃ j : Nat, j ≤ N ∧ i = .int .i64 j ∧ ∃ T P C X L S Q, LA w wr B c a len cap z T P C X L S Q) (fun i _ => N - (intOf i).toNat)
  case atStart => exact ⟨0, Nat.zero_le _, rfl, _, _, _, _, _, _, _, M3⟩
  case round =>
    obtain ⟨j, hj, rfl, T, P, C, X, L, S, Q, M⟩ := hrel
    clear M3
    by_cases hlt : j < N
    · have hlt' : (j : Int) < (N : Int) := by omega
      go_wp2_with fail
      refine (l1Once _ B c a len cap M.cur 8).mono ?_
      rintro e W4 ⟨b4, rfl, H4, O4⟩
      have M4 := M.moved hc O4.step H4
      clear M O4 H4
      cases b4
      · obtain ⟨t, p, cc, x, l, s, q, vv, d, hE⟩ := tickA_flat T P C X L S Q
        have HS := hide (fun W => specApuTick W T P C X L S Q)
        rw [hE] at HS
        clear hE
        have cz := boxC M4.box
        go_wp2_with fail
        clear cz
        refine (unhide HS _).mono ?_
        rintro e W5 ⟨rfl, L5⟩
        have M5 := M4.below hc L5
        have c5 := boxC M5.box
        have f5 := boxF M5.box
        have HM := hide (M5.put hc t p cc x l s q)
        clear M4 L5 M5
        go_wp2
        go_round
        case rel => exact ⟨j + 1, by omega, by go_num, _, _, _, _, _, _, _, HM.out⟩
        case measure => simp [intOf]; omega
      · have hz4 : W4.drew.heap.size = W4.heap.size := rfl
        have ST4 : Step c W4 W4.drew := ⟨rfl, rfl, rfl, Nat.le_refl _, fun _ _ _ => rfl⟩
        have M4d := M4.moved hc ST4 (M4.cur.drewN 1)
        have hn4 : W4.heap.size ≠ c := by have := M4.apu hc; omega
        have LB4 : Below W4.drew.heap.size W4.drew ((W4.alloc (.cells #[.int .i64 0, .int .i64 1, .int .i64 2, .int .i64 3, .int .i64 33, .int .i64 255, .int .i64 9] 3)).drew) := (Below.refl W4.drew.heap.size W4.drew).alloc (Nat.le_refl _) _
        have M4a := M4d.below hc LB4
        have HM4 := hide M4d
        have HA4 := hide M4a
        have HR4 : Hid (∀ j, j < 7 → ((W4.alloc (.cells #[.int .i64 0, .int .i64 1, .int .i64 2, .int .i64 3, .int .i64 33, .int .i64 255, .int .i64 9] 3)).drew).cell? ⟨W4.heap.size, j, none⟩ = some (.int .i64 (pickA j))) := fun j hj => by
          show (W4.alloc _).cell? ⟨W4.heap.size, j, none⟩ = _
          rw [World.cell?_alloc_new]
          rcases j with _ | _ | _ | _ | _ | _ | _ | j <;> first | rfl | omega
        have c4 := boxC M4d.box
        have c4a := boxC M4a.box
        clear M4 M4d M4a ST4 LB4 hz4
        go_upto_region 7 with (fail)
        go_region_with (first
          | (go_at_call 84; refine (specApuWrite _ T P C X L S Q x5 x6).mono ?_; rintro e W7 ⟨rfl, L7⟩; have M7 := (unhide HM6).below hc L7; have c7 := boxC M7.box; have f7 := boxF M7.box; have HM7 := hide (M7.put hc T (wpA (okApu T P C X L) P x5 x6) C X (wlA (okApu T P C X L) L x5 x6) (wsA (okApu T P C X L) S x5 x6) (wqA (okApu T P C X L) Q x5 x6)); clear M7 L7)
          | (go_at_call 59; refine (l1PickInt W5 B c a len cap (unhide HM5).cur W4.heap.size 7 (by omega) (by omega) hn4 pickA (unhide HR5)).mono ?_; rintro e W6 ⟨j6, rfl, hj6, H6, O6⟩; obtain ⟨x6, hx6⟩ : ∃ x6, pickA j6 = x6 := ⟨_, rfl⟩; rw [hx6]; clear hx6; have HM6 := hide ((unhide HM5).moved hc O6.step H6); have c6 := boxC (unhide HM6).box; clear H6 O6)
          | (go_at_call 59; refine (l1PickInt _ B c a len cap (unhide HA5).cur W5.heap.size 7 (by omega) (by omega) hn5 pickA (unhide HR5)).mono ?_; rintro e W6 ⟨j6, rfl, hj6, H6, O6⟩; obtain ⟨x6, hx6⟩ : ∃ x6, pickA j6 = x6 := ⟨_, rfl⟩; rw [hx6]; clear hx6; have HM6 := hide ((unhide HA5).moved hc O6.step H6); have c6 := boxC (unhide HM6).box; clear H6 O6)
          | (go_at_call 58; refine (l1Below ((W4.alloc (.cells #[.int .i64 0, .int .i64 1, .int .i64 2, .int .i64 3, .int .i64 33, .int .i64 255, .int .i64 9] 3)).drew) B c a len cap (unhide HA4).cur 4).mono ?_; rintro e W5 ⟨x5, rfl, y50, y51, H5, O5⟩; have HM5 := hide ((unhide HA4).moved hc O5.step H5); have HR5 : Hid (∀ j, j < 7 → W5.cell? ⟨W4.heap.size, j, none⟩ = some (.int .i64 (pickA j))) := fun j hj => (O5.cell (p := ⟨W4.heap.size, j, none⟩) hn4).trans (HR4.out j hj); have c5 := boxC (unhide HM5).box; clear H5 O5)
          | (go_at_call 58; refine (l1Below W4.drew B c a len cap (unhide HM4).cur 4).mono ?_; rintro e W5 ⟨x5, rfl, y50, y51, H5, O5⟩; have M5 := (unhide HM4).moved hc O5.step H5; have hn5 : W5.heap.size ≠ c := (by have := M5.apu hc; omega); have HA5 := hide (M5.below hc ((Below.refl W5.heap.size W5).alloc (Nat.le_refl _) (.cells #[.int .i64 0, .int .i64 1, .int .i64 2, .int .i64 3, .int .i64 33, .int .i64 255, .int .i64 9] 3))); have HR5 : Hid (∀ j, j < 7 → (W5.alloc (.cells #[.int .i64 0, .int .i64 1, .int .i64 2, .int .i64 3, .int .i64 33, .int .i64 255, .int .i64 9] 3)).cell? ⟨W5.heap.size, j, none⟩ = some (.int .i64 (pickA j))) := (fun j hj => by rw [World.cell?_alloc_new]; rcases j with _ | _ | _ | _ | _ | _ | _ | j <;> first | rfl | omega); have c5 := boxC M5.box; have c5a := boxC (unhide HA5).box; clear M5 H5 O5))
        all_goals
          have M8 := unhide HM7
          generalize (((((((W7.setCell ⟨z, 0, none⟩ (.int .i64 T)).setCell ⟨z, 1, none⟩ (.int .i64 (wpA (okApu T P C X L) P x5 x6))).setCell ⟨z, 2, none⟩ (.int .i64 C)).setCell ⟨z, 3, none⟩ (.int .i64 X)).setCell ⟨z, 4, none⟩ (.int .i64 (wlA (okApu T P C X L) L x5 x6))).setCell ⟨z, 5, none⟩ (.bool (wsA (okApu T P C X L) S x5 x6))).setCell ⟨z, 6, none⟩ (.bool (wqA (okApu T P C X L) Q x5 x6))) = W8 at *
          clear HM7 HM6 HM4 HA4 HR4 HR5 c4 c4a c6 c7 f7
          generalize (wpA (okApu T P C X L) P x5 x6) = P8 at *
          generalize (wlA (okApu T P C X L) L x5 x6) = L8 at *
          generalize (wsA (okApu T P C X L) S x5 x6) = S8 at *
          generalize (wqA (okApu T P C X L) Q x5 x6) = Q8 at *
          obtain ⟨t, p, cc, x, l, s, q, vv, d, hE⟩ := tickA_flat T P8 C X L8 S8 Q8
          have HS := hide (fun W => specApuTick W T P8 C X L8 S8 Q8)
          rw [hE] at HS
          clear hE
          have cz := boxC M8.box
          go_wp2_with fail
          clear cz
          refine (unhide HS _).mono ?_
          rintro e W9 ⟨rfl, L9⟩
          have M9 := M8.below hc L9
          have c9 := boxC M9.box
          have f9 := boxF M9.box
          have HM := hide (M9.put hc t p cc x l s q)
          clear M8 L9 M9
          go_wp2
          go_round
          case rel => exact ⟨j + 1, by omega, by go_num, _, _, _, _, _, _, _, HM.out⟩
          case measure => simp [intOf]; omega
    · have hjN : j = N := by omega
      have cz := boxC M.box
      have cr := boxC M.res
      have fr := boxF M.res
      have hf := M.far
      go_wp2
      have r1 := fun (x0 x1 x2 x3 x4 x5 x6 : Value) => boxC (put7_box M.res x0 x1 x2 x3 x4 x5 x6)
      refine bodyPost_ret (v := .agg #[.int .i64 T, .int .i64 P, .int .i64 C, .int .i64 X, .int .i64 L, .bool S, .bool Q]) (by simp [results, Try.results67, go_sem, r1]) rfl ?_
      exact ⟨⟨_, _, _, _, _, _, _, rfl⟩, M.cur.only (only7 _ _ _ _ _ _ _ _ _) (by omega) (by have := H.up; omega), M.step.only (only7 _ _ _ _ _ _ _ _ _) (Nat.le_refl _)⟩
end Go.Proofs.Ytpaedkefmebjjag
