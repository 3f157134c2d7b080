/-
  Draws of addresses, of images with their memories, from the bytes of the code.
-/
import Derived.Test.YtpaedkefmebjjafDoorY6
import Derived.Test.YtpaedkefmebjjafDoorX5
import Derived.Test.YtpaedkefmebjjafDoorX6
namespace Go.Proofs.YtpaedkefmebjjafDoor
set_option linter.unusedVariables false
open Go.ChangeShapes Go.WideShapes Go.ChangeAt Go.RowKit
theorem l6DrawAddr (w : World) (B c : Nat) (a : Option Addr) (len cap : Nat) (H : Cur w B c a len cap) :
    Calls Tryd.prog 20 #[.pointer (some ⟨c, 0, none⟩)] w fun e w' => ∃ x : Int, e = .returned (.int .i64 x) ∧ Cur w' B c a len cap ∧ Step c w w' := by
  have hcw := H.lt
  have HZ := hide (lit_cells w [0, 1, 255, 256, 511, 512, 8191, 8192, 8194, 8199, 16383, 16384, 16387, 16388, 16406, 20000, 32767, 32768, 33000, 49151, 49152, 49200, 65530, 65535, 65536, -1] 3)
  have HA := H.alloc (.cells ([0, 1, 255, 256, 511, 512, 8191, 8192, 8194, 8199, 16383, 16384, 16387, 16388, 16406, 20000, 32767, 32768, 33000, 49151, 49152, 49200, 65530, 65535, 65536, -1].map (Value.int .i64)).toArray 3) hcw
  have SA := (Step.refl c w).alloc (.cells ([0, 1, 255, 256, 511, 512, 8191, 8192, 8194, 8199, 16383, 16384, 16387, 16388, 16406, 20000, 32767, 32768, 33000, 49151, 49152, 49200, 65530, 65535, 65536, -1].map (Value.int .i64)).toArray 3)
  go_enter Tryd.func20, Tryd.ntmps20
  go_wp2_with fail
  refine (l1PickInt _ B c a len cap HA w.heap.size 26 (by omega) (by omega) (by omega) (ix [0, 1, 255, 256, 511, 512, 8191, 8192, 8194, 8199, 16383, 16384, 16387, 16388, 16406, 20000, 32767, 32768, 33000, 49151, 49152, 49200, 65530, 65535, 65536, -1]) (unhide HZ)).mono ?_
  rintro e w2 ⟨j0, rfl, hj0, H2, O2⟩
  generalize ix [0, 1, 255, 256, 511, 512, 8191, 8192, 8194, 8199, 16383, 16384, 16387, 16388, 16406, 20000, 32767, 32768, 33000, 49151, 49152, 49200, 65530, 65535, 65536, -1] j0 = x at *
  clear HZ
  go_wp2
  go_ret
  exact ⟨x, rfl, H2, SA.trans O2.step⟩
/-- Where l6Draw stands ahead of its last statement. -/
structure DI (w : World) (B c : Nat) (a : Option Addr) (len cap : Nat) (W : World) (p : Nat) (va : Option Addr) (m vc : Nat) (ra : Nat → Option Addr) (ln rc : Nat → Nat) (F : Nat → Nat → Int) : Prop where
  r0 : W.heap[w.heap.size]? = some (.cells #[.slice none 0 0] 26 (0, 0))
  r1 : W.heap[w.heap.size + 1]? = some (.cells #[.slice none 0 0, .int .i64 0] 29 (0, 0))
  bx : W.heap[p]? = some (.cells #[.slice va m vc] 26 (0, 0))
  far : w.heap.size + 1 < p
  ss : OwnSS W (w.heap.size + 2) (.slice va m vc) m ra ln rc F
  le : m ≤ 3
  lt : c < w.heap.size
  cur : Cur W B c a len cap
  st : Step c w W
theorem DI.step {w : World} {B c : Nat} {a : Option Addr} {len cap : Nat} {W W' : World} {p : Nat} {va : Option Addr} {m vc : Nat} {ra : Nat → Option Addr} {ln rc : Nat → Nat} {F : Nat → Nat → Int} (D : DI w B c a len cap W p va m vc ra ln rc F) (S : Step c W W') (H : Cur W' B c a len cap) : DI w B c a len cap W' p va m vc ra ln rc F := by
  have hl := D.lt
  have hf := D.far
  exact ⟨(S.block _ (boxLt D.r0) (by omega)).trans D.r0, (S.block _ (boxLt D.r1) (by omega)).trans D.r1, (S.block _ (boxLt D.bx) (by omega)).trans D.bx, D.far, D.ss.blocks S.size (fun k hk hk' => S.block k hk' (by omega)), D.le, D.lt, H, D.st.trans S⟩
theorem below_stepO {c : Nat} {w w' : World} (h : OnlyAt c w w') : Step c w w' := h.step
theorem OwnSS.low3 {w : World} {lo b : Nat} {v x y z : Value} {m : Nat} {ra : Nat → Option Addr} {ln rc : Nat → Nat} {f : Nat → Nat → Int} (h : OwnSS w (b + 2) v m ra ln rc f) : OwnSS (((w.setCell ⟨b, 0, none⟩ x).setCell ⟨b + 1, 0, none⟩ y).setCell ⟨b + 1, 1, none⟩ z) b v m ra ln rc f := by
  have h2 := h.blocks (w' := ((w.setCell ⟨b, 0, none⟩ x).setCell ⟨b + 1, 0, none⟩ y).setCell ⟨b + 1, 1, none⟩ z) (by simp) (fun k hk _ => by rw [Below.heap_setCell _ _ _ _ (by show k ≠ b + 1; omega), Below.heap_setCell _ _ _ _ (by show k ≠ b + 1; omega), Below.heap_setCell _ _ _ _ (by show k ≠ b; omega)])
  exact h2.lower (by omega)
set_option maxRecDepth 20000 in
set_option maxHeartbeats 4000000 in
theorem l6Draw (w : World) (B c : Nat) (a : Option Addr) (len cap : Nat) (H : Cur w B c a len cap) :
    Calls Tryd.prog 19 #[.pointer (some ⟨c, 0, none⟩)] w fun e w' => (∃ v m ra ln rc F q n g bank, e = .returned (.tuple #[.agg #[v], .agg #[q, .int .i64 bank]]) ∧ m ≤ 3 ∧ OwnSS w' w.heap.size v m ra ln rc F ∧ OwnInts w' w.heap.size q n g) ∧ Cur w' B c a len cap ∧ Step c w w' := by
  have hcl := H.lt
  have C0 : Below w.heap.size w ((w.alloc (.cells #[.slice none 0 0] 26)).alloc (.cells #[.slice none 0 0, .int .i64 0] 29)) := ((Below.refl _ _).alloc (Nat.le_refl _) _).alloc (by simp) _
  have k0 : ((w.alloc (.cells #[.slice none 0 0] 26)).alloc (.cells #[.slice none 0 0, .int .i64 0] 29)).heap[w.heap.size]? = some (.cells #[.slice none 0 0] 26 (0, 0)) := boxA (box_new w _ _) _
  have k1 : ((w.alloc (.cells #[.slice none 0 0] 26)).alloc (.cells #[.slice none 0 0, .int .i64 0] 29)).heap[w.heap.size + 1]? = some (.cells #[.slice none 0 0, .int .i64 0] 29 (0, 0)) := by simpa using box_new (w.alloc (.cells #[.slice none 0 0] 26)) #[.slice none 0 0, .int .i64 0] 29
  have zz : ((w.alloc (.cells #[.slice none 0 0] 26)).alloc (.cells #[.slice none 0 0, .int .i64 0] 29)).heap.size = w.heap.size + 2 := by simp
  go_enter Tryd.func19, Tryd.ntmps19
  go_wp2_with fail
  generalize ((w.alloc (.cells #[.slice none 0 0] 26)).alloc (.cells #[.slice none 0 0, .int .i64 0] 29)) = W0 at *
  refine (l2DrawRight _ B c a len cap (H.below C0 hcl)).mono ?_
  rintro e w1 ⟨⟨v, m, ra, rc, F, rfl, hm1, hm3, hS, -, -⟩, H1, S1⟩
  obtain ⟨va, vc, hv, -, -⟩ := hS.sep.outer
  subst hv
  have hz1 := S1.size
  rw [zz] at hS hz1
  have D1 : DI w B c a len cap (w1.alloc (.cells #[.slice va m vc] 26)) w1.heap.size va m vc ra (fun _ => 256) rc F := by
    refine ⟨boxA ((S1.block _ (boxLt k0) (by omega)).trans k0) _, boxA ((S1.block _ (boxLt k1) (by omega)).trans k1) _, box_new _ _ _, by omega, hS.blocks (by simp) (fun k _ hk => Below.heap_alloc _ _ k hk), hm3, hcl, H1.alloc _ H1.lt, ((below_step C0 (Nat.le_refl _)).trans S1).alloc _⟩
  clear hS S1 H1 k0 k1 C0 hm1 hm3
  go_wp2_with fail
  generalize hp : w1.heap.size = p at *
  generalize (w1.alloc (.cells #[.slice va m vc] 26)) = W1 at *
  clear hp
  refine (l1Once _ B c a len cap D1.cur 20).mono ?_
  rintro e W2 ⟨z, rfl, H2, O2⟩
  have D2 := D1.step O2.step H2
  clear D1 O2
  go_upto_if 8 with (fail)
  go_cut [] (fun wc => ∃ va m vc ra ln rc F, DI w B c a len cap wc p va m vc ra ln rc F)
  case first =>
    cases z
    · go_wp2_with fail
      go_meet
      exact ⟨_, _, _, _, _, _, _, D2⟩
    · go_wp2_with fail
      refine (l2Draw _ B c a len cap D2.cur).mono ?_
      rintro e W3 ⟨⟨v', m', ra', ln', rc', F', rfl, hm3, hS⟩, H3, S3⟩
      obtain ⟨va', vc', hv, -, -⟩ := hS.sep.outer
      subst hv
      have D3 := D2.step S3 H3
      have cp := boxC D3.bx
      have fp := boxF D3.bx
      have hl := D3.lt
      have hf := D3.far
      have hup := D3.cur.up
      have hz2 := boxLt D2.bx
      have D4 : DI w B c a len cap (W3.setCell ⟨p, 0, none⟩ (.slice va' m' vc')) p va' m' vc' ra' ln' rc' F' := by
        refine ⟨box_set_ne D3.r0 (by omega), box_set_ne D3.r1 (by omega), box_set D3.bx _, hf, ?_, hm3, hl, D3.cur.only ((OnlyAt.refl p W3).setCell (o := 0) (s := none) _) (by omega) (by omega), D3.st.setCell (by omega) _⟩
        exact (hS.blocks (w' := W3.setCell ⟨p, 0, none⟩ (.slice va' m' vc')) (by simp) (fun k hk _ => Below.heap_setCell _ _ _ _ (by show k ≠ p; omega))).lower (by omega)
      go_wp2_with fail
      go_meet
      exact ⟨_, _, _, _, _, _, _, D4⟩
  case rest =>
    obtain ⟨va, m, vc, ra, ln, rc, F, D⟩ := hcut
    have cp := boxC D.bx
    have hf := D.far
    have hl := D.lt
    have HD := hide D
    have HC := hide (D.cur.drewN 1)
    have hm3 := D.le
    have hbx := boxLt D.bx
    have hp0 : p ≠ w.heap.size := by omega
    have hp1 : p ≠ w.heap.size + 1 := by omega
    clear D D2 H2
    go_wp2_with fail
    go_region_held3 (fun w' => w'.cell? ⟨p, 0, none⟩ = some (.slice va m vc)) (first | assumption | go_keep) ((go_at_call 44; refine (l6DrawMem _ B c a len cap (unhide HC) va m vc (by omega)).mono ?_; rintro e W5 ⟨⟨q, n, g, bank, rfl, hO⟩, H5, S5⟩; obtain ⟨qa, qc, hq, -, -, -, -⟩ := id hO; subst hq; have D5 := (unhide HD).step (⟨S5.os, S5.tape, S5.output, S5.size, S5.block⟩ : Step c wc W5) H5; have cp5 : W5.cell? ⟨p, 0, none⟩ = some (.slice va m vc) := boxC D5.bx 0; have c0 := boxC D5.r0; have f0 := boxF D5.r0; have c1 := boxC D5.r1; have f1 := boxF D5.r1; have q5 : (W5.setCell ⟨w.heap.size, 0, none⟩ (.slice va m vc)).cell? ⟨p, 0, none⟩ = some (.slice va m vc) := (World.cell?_setCell_other _ _ _ _ (fun h => hp0 (congrArg Addr.block h).symm)).trans cp5; have q6 : (((W5.setCell ⟨w.heap.size, 0, none⟩ (.slice va m vc)).setCell ⟨w.heap.size + 1, 0, none⟩ (.slice qa n qc)).setCell ⟨w.heap.size + 1, 1, none⟩ (.int .i64 bank)).cell? ⟨p, 0, none⟩ = some (.slice va m vc) := (World.cell?_setCell_other _ _ _ _ (fun h => hp1 (congrArg Addr.block h).symm)).trans ((World.cell?_setCell_other _ _ _ _ (fun h => hp1 (congrArg Addr.block h).symm)).trans q5); have HD5 := hide D5; have HO := hide hO; clear D5 hO S5))
    all_goals
      go_wp2
      refine bodyPost_ret (v := .tuple #[.agg #[.slice va m vc], .agg #[.slice qa n qc, .int .i64 bank]]) (by simp [results, Tryd.results19, go_sem, c0, c1]) rfl ?_
      have D5 := unhide HD5
      have hup := D5.cur.up
      have hO := (unhide HO).mono (show w.heap.size + 2 ≤ wc.heap.size by omega)
      exact ⟨⟨_, m, _, _, _, _, _, n, _, _, rfl, hm3, OwnSS.low3 (lo := 0) D5.ss, (((hO.setLow (by omega) _).setLow (by omega) _).setLow (by omega) _).mono (by omega)⟩, ((D5.cur.only ((OnlyAt.refl w.heap.size W5).setCell (o := 0) (s := none) _) (by omega) (by omega)).only (((OnlyAt.refl (w.heap.size + 1) _).setCell (o := 0) (s := none) _).setCell (o := 1) (s := none) _) (by omega) (by omega)), (((D5.st.setCell (by omega) _).setCell (by omega) _).setCell (by omega) _)⟩
end Go.Proofs.YtpaedkefmebjjafDoor
