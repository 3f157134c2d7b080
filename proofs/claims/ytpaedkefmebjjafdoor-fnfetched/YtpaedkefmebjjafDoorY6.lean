/-
  Draws of memories: in new memory, the cursor alone turned.
-/
import Derived.Test.YtpaedkefmebjjafDoorX3
import Derived.Test.YtpaedkefmebjjafDoorCA
import Derived.Test.YtpaedkefmebjjafDoorC9
import Derived.Deep.RegionHeld3
namespace Go.Proofs.YtpaedkefmebjjafDoor
set_option linter.unusedVariables false
open Go.ChangeShapes Go.WideShapes Go.ChangeAt Go.RowKit
theorem OwnInts.blocks {w w' : World} {lo : Nat} {v : Value} {n : Nat} {f : Nat → Int} (h : OwnInts w lo v n f) (hs : w.heap.size ≤ w'.heap.size) (hb : ∀ k, lo ≤ k → k < w.heap.size → w'.heap[k]? = w.heap[k]?) : OwnInts w' lo v n f := by
  obtain ⟨a, cap, hv, hn, hr, hF, hL⟩ := h
  refine ⟨a, cap, hv, hn, fun i hi => ?_, fun b o hf => ?_, hL⟩
  · obtain ⟨b, off, ha, hc⟩ := hr i hi
    exact ⟨b, off, ha, (World.cell?_of_block (a := ⟨b, off + i, none⟩) (hb b (hL b (off + i) (by rw [ha]; exact foot_at hi)) (block_lt_of_cell hc))).trans hc⟩
  · obtain ⟨h1, h2⟩ := hF b o hf
    exact ⟨Nat.lt_of_lt_of_le h1 hs, (World.frozen?_of_block (a := ⟨b, o, none⟩) (hb b (hL b o hf) h1)).trans h2⟩
theorem specMemNewC (w : World) : Calls Tryd.prog 42 #[] w fun e w' => ∃ b, e = .returned (.agg #[.slice (some ⟨b, 0, none⟩) 512 512, .int .i64 0]) ∧ OwnInts w' w.heap.size (.slice (some ⟨b, 0, none⟩) 512 512) 512 (fun _ => 0) ∧ Below w.heap.size w w' := by
  obtain ⟨ob, hmk, hrow⟩ : ∃ ob : Obj, (∀ W : World, (Instr.makeSlice 27 (.int .i64 512) (.int .i64 512)).run Tryd.prog W = .ok (.slice (some ⟨W.heap.size, 0, none⟩) 512 512) (W.alloc ob)) ∧ Hid (∀ W : World, (W.alloc ob).rowIs W.heap.size 3 512 (fun _ => .int .i64 0)) :=
    ⟨_, run_make_row' (P := Tryd.prog) 27 3 (.int .i64 0) 8 Tryd.underlying27 info3 rfl .i64 .i64 512 (by omega) (by omega), fun W => World.rowIs_made W _ _ _⟩
  have hr := hide (hrow.out (w.alloc (.cells #[.slice (some ⟨w.heap.size + 1, 0, none⟩) 512 512, .int .i64 0] 29)))
  have L0 : Below w.heap.size w ((w.alloc (.cells #[.slice (some ⟨w.heap.size + 1, 0, none⟩) 512 512, .int .i64 0] 29)).alloc ob) := ((Below.refl _ _).alloc (Nat.le_refl _) _).alloc (by simp) _
  go_enter Tryd.func42, Tryd.ntmps42
  go_wp2
  have hr' := unhide hr
  simp only [World.size_alloc] at hr'
  have O0 : OwnInts ((w.alloc (.cells #[.slice (some ⟨w.heap.size + 1, 0, none⟩) 512 512, .int .i64 0] 29)).alloc ob) (w.heap.size + 1) (.slice (some ⟨w.heap.size + 1, 0, none⟩) 512 512) 512 (fun _ => 0) := by
    refine ⟨_, _, rfl, by omega, rowOf_row hr', fun b o ⟨off, e, _, _⟩ => ?_, fun b o ⟨off, e, _, _⟩ => ?_⟩
    · simp only [Option.some.injEq, Addr.mk.injEq] at e
      obtain ⟨rfl, -, -⟩ := e
      exact ⟨hr'.lt, hr'.frozen _⟩
    · simp only [Option.some.injEq, Addr.mk.injEq] at e
      obtain ⟨rfl, -, -⟩ := e
      omega
  refine bodyPost_ret (v := .agg #[.slice (some ⟨w.heap.size + 1, 0, none⟩) 512 512, .int .i64 0]) (by simp [results, Tryd.results42, go_sem]) rfl ?_
  exact ⟨_, rfl, O0.mono (by omega), L0⟩
theorem specMax (w : World) (x y : Int) : Calls Tryd.prog 59 #[.int .i64 x, .int .i64 y] w fun e w' => (∃ z : Int, e = .returned (.int .i64 z)) ∧ w' = w := by
  by_cases h : y < x
  · go_enter Tryd.func59, Tryd.ntmps59
    go_wp2
    go_ret
    exact ⟨⟨_, rfl⟩, rfl⟩
  · have h' : ¬ y < x := h
    go_enter Tryd.func59, Tryd.ntmps59
    go_wp2
    go_ret
    exact ⟨⟨_, rfl⟩, rfl⟩
structure DM (w : World) (B c : Nat) (a : Option Addr) (len cap : Nat) (W : World) (p : Nat) (ia : Option Addr) (mm icap : Nat) (oa : Option Addr) (n oc : Nat) (bank : Int) (g : Nat → Int) : Prop where
  img : W.heap[w.heap.size]? = some (.cells #[.slice ia mm icap] 26 (0, 0))
  res : W.heap[w.heap.size + 1]? = some (.cells #[.slice none 0 0, .int .i64 0] 29 (0, 0))
  out : W.heap[p]? = some (.cells #[.slice oa n oc, .int .i64 bank] 29 (0, 0))
  far : w.heap.size + 1 < p
  own : OwnInts W (w.heap.size + 2) (.slice oa n oc) n g
  apart : ∀ b o, Foot oa n b o → b < p
  lt : c < w.heap.size
  cur : Cur W B c a len cap
  st : Step c w W
section
variable {w : World} {B c : Nat} {a : Option Addr} {len cap : Nat} {W W' : World} {p : Nat} {ia : Option Addr} {mm icap : Nat} {oa : Option Addr} {n oc : Nat} {bank : Int} {g : Nat → Int}
theorem DM.step (D : DM w B c a len cap W p ia mm icap oa n oc bank g) (S : Step c W W') (H : Cur W' B c a len cap) : DM w B c a len cap W' p ia mm icap oa n oc bank g := by
  have hl := D.lt
  have hf := D.far
  exact ⟨(S.block _ (boxLt D.img) (by omega)).trans D.img, (S.block _ (boxLt D.res) (by omega)).trans D.res, (S.block _ (boxLt D.out) (by omega)).trans D.out, D.far, D.own.blocks S.size (fun k hk hk' => S.block k hk' (by omega)), D.apart, D.lt, H, D.st.trans S⟩
theorem DM.ram {b off : Nat} (D : DM w B c a len cap W p ia mm icap (some ⟨b, off, none⟩) n oc bank g) (k : Nat) (hk : k < n) (x : Int) : DM w B c a len cap (W.setCell ⟨b, off + k, none⟩ (.int .i64 x)) p ia mm icap (some ⟨b, off, none⟩) n oc bank (setAt g k x) := by
  have hb := D.apart b (off + k) (foot_at hk)
  obtain ⟨-, -, hl, -⟩ := D.own.cellAt k hk
  have hlt := D.lt
  have hup := D.cur.up
  exact ⟨box_set_ne D.img (by omega), box_set_ne D.res (by omega), box_set_ne D.out (by omega), D.far, D.own.put k hk x, D.apart, D.lt, D.cur.only ((OnlyAt.refl b W).setCell (o := off + k) (s := none) (.int .i64 x)) (by omega) (by omega), D.st.setCell (by omega) _⟩
theorem own_out {R : Nat → Nat → Prop} {lo : Nat} (h : OwnInts W lo (.slice oa n oc) n g) (hw : Wrote R W W') (hd : ∀ b o, Foot oa n b o → ¬ R b o) : OwnInts W' lo (.slice oa n oc) n g := by
  obtain ⟨a, cap, hv, hn, hr, hF, hL⟩ := h
  simp only [Value.slice.injEq] at hv
  obtain ⟨rfl, -, rfl⟩ := hv
  exact ⟨_, _, rfl, hn, hr.keep hw hd, hF.keep hw, hL⟩
theorem DM.setBank (D : DM w B c a len cap W p ia mm icap oa n oc bank g) (x : Int) : DM w B c a len cap (W.setCell ⟨p, 1, none⟩ (.int .i64 x)) p ia mm icap oa n oc x g := by
  have hf := D.far
  have hlt := D.lt
  have hup := D.cur.up
  exact ⟨box_set_ne D.img (by omega), box_set_ne D.res (by omega), box_set D.out _, D.far, own_out D.own (Wrote.setCell (R := fun b' _ => b' = p) (Wrote.refl _ W) (fun _ => rfl) _) (fun b o hF e => by have := D.apart b o hF; omega), D.apart, D.lt, D.cur.only ((OnlyAt.refl p W).setCell (o := 1) (s := none) (.int .i64 x)) (by omega) (by omega), D.st.setCell (by omega) _⟩
theorem foot_tail {b off n : Nat} {b' o' : Nat} (h : Foot (some ⟨b, off + 1, none⟩) n b' o') : Foot (some ⟨b, off, none⟩) (n + 1) b' o' := by
  obtain ⟨f, e, h1, h2⟩ := h
  simp only [Option.some.injEq, Addr.mk.injEq] at e
  obtain ⟨rfl, rfl, -⟩ := e
  exact ⟨off, rfl, by omega, by omega⟩
theorem DM.cut {b off : Nat} (D : DM w B c a len cap W p ia mm icap (some ⟨b, off, none⟩) (n + 1) oc bank g) (oc' : Nat) : DM w B c a len cap (W.setCell ⟨p, 0, none⟩ (.slice (some ⟨b, off + 1, none⟩) n oc')) p ia mm icap (some ⟨b, off + 1, none⟩) n oc' bank (fun i => g (1 + i)) := by
  have hf := D.far
  have hlt := D.lt
  have hup := D.cur.up
  have O1 : OwnInts W (w.heap.size + 2) (.slice (some ⟨b, off + 1, none⟩) n oc') n (fun i => g (1 + i)) := by
    obtain ⟨a, cap, hv, hn, hr, hF, hL⟩ := D.own
    simp only [Value.slice.injEq] at hv
    obtain ⟨rfl, -, rfl⟩ := hv
    exact ⟨_, _, rfl, by omega, hr.tail 1 n (by omega), fun b' o' h => hF b' o' (foot_tail h), fun b' o' h => hL b' o' (foot_tail h)⟩
  have A1 : ∀ b' o', Foot (some ⟨b, off + 1, none⟩) n b' o' → b' < p := fun b' o' h => D.apart b' o' (foot_tail h)
  exact ⟨box_set_ne D.img (by omega), box_set_ne D.res (by omega), box_set D.out _, D.far, own_out O1 (Wrote.setCell (R := fun b' _ => b' = p) (Wrote.refl _ W) (fun _ => rfl) _) (fun b o hF e => by have := A1 b o hF; omega), A1, D.lt, D.cur.only ((OnlyAt.refl p W).setCell (o := 0) (s := none) _) (by omega) (by omega), D.st.setCell (by omega) _⟩
theorem DM.end (D : DM w B c a len cap W p ia mm icap oa n oc bank g) (x y : Value) : OwnInts ((W.setCell ⟨w.heap.size + 1, 0, none⟩ x).setCell ⟨w.heap.size + 1, 1, none⟩ y) w.heap.size (.slice oa n oc) n g ∧ Cur ((W.setCell ⟨w.heap.size + 1, 0, none⟩ x).setCell ⟨w.heap.size + 1, 1, none⟩ y) B c a len cap ∧ Step c w ((W.setCell ⟨w.heap.size + 1, 0, none⟩ x).setCell ⟨w.heap.size + 1, 1, none⟩ y) := by
  have hlt := D.lt
  have hup := D.cur.up
  exact ⟨((D.own.setLow (by omega) _).setLow (by omega) _).mono (by omega), D.cur.only (((OnlyAt.refl (w.heap.size + 1) W).setCell (o := 0) (s := none) x).setCell (o := 1) (s := none) y) (by omega) (by omega), (D.st.setCell (by omega) _).setCell (by omega) _⟩
end
def ramPicks : List Int := [0, 1, 16, 255, 256, 257, 510, 511, 258, 300]
theorem ramPick_ok (j : Nat) : 0 ≤ ix [0, 1, 16, 255, 256, 257, 510, 511, 258, 300] j ∧ ix [0, 1, 16, 255, 256, 257, 510, 511, 258, 300] j < 512 := by
  unfold ix
  rcases j with _ | _ | _ | _ | _ | _ | _ | _ | _ | _ | j <;> simp
set_option maxRecDepth 20000 in
set_option maxHeartbeats 4000000 in
theorem l6DrawMem (w : World) (B c : Nat) (a : Option Addr) (len cap : Nat) (H : Cur w B c a len cap) (ia : Option Addr) (mm icap : Nat) (hm : mm ≤ 1048576) :
    Calls Tryd.prog 44 #[.pointer (some ⟨c, 0, none⟩), .agg #[.slice ia mm icap]] w fun e w' => (∃ q n g bank, e = .returned (.agg #[q, .int .i64 bank]) ∧ OwnInts w' w.heap.size q n g) ∧ Cur w' B c a len cap ∧ Step c w w' := by
  have hcl := H.lt
  have C0 : Below w.heap.size w ((w.alloc (.cells #[.slice ia mm icap] 26)).alloc (.cells #[.slice none 0 0, .int .i64 0] 29)) := ((Below.refl _ _).alloc (Nat.le_refl _) _).alloc (by simp) _
  have k0 : ((w.alloc (.cells #[.slice ia mm icap] 26)).alloc (.cells #[.slice none 0 0, .int .i64 0] 29)).heap[w.heap.size]? = some (.cells #[.slice ia mm icap] 26 (0, 0)) := boxA (box_new w _ _) _
  have k1 : ((w.alloc (.cells #[.slice ia mm icap] 26)).alloc (.cells #[.slice none 0 0, .int .i64 0] 29)).heap[w.heap.size + 1]? = some (.cells #[.slice none 0 0, .int .i64 0] 29 (0, 0)) := by simpa using box_new (w.alloc (.cells #[.slice ia mm icap] 26)) #[.slice none 0 0, .int .i64 0] 29
  go_enter Tryd.func44, Tryd.ntmps44
  go_wp2_with fail
  generalize ((w.alloc (.cells #[.slice ia mm icap] 26)).alloc (.cells #[.slice none 0 0, .int .i64 0] 29)) = W0 at *
  refine (specMemNewC _).mono ?_
  rintro e W1 ⟨b, rfl, O1, L⟩
  have z1 := boxLt k1
  have D1 : DM w B c a len cap (W1.alloc (.cells #[.slice (some ⟨b, 0, none⟩) 512 512, .int .i64 0] 29)) W1.heap.size ia mm icap (some ⟨b, 0, none⟩) 512 512 0 (fun _ => 0) := by
    have C1 := below_snoc C0 L
    have s1 := L.size
    have C2 := C1.alloc C1.size (.cells #[.slice (some ⟨b, 0, none⟩) 512 512, .int .i64 0] 29)
    refine ⟨boxA (box_keep k0 L (boxLt k0)) _, boxA (box_keep k1 L (boxLt k1)) _, box_new _ _ _, by omega, (O1.mono (by omega)).keepL ((Below.refl _ _).alloc (Nat.le_refl _) _), fun b' o' h => ?_, hcl, H.below C2 hcl, below_step C2 (Nat.le_refl _)⟩
    obtain ⟨_, _, e, -, -, hF, -⟩ := O1
    simp only [Value.slice.injEq] at e
    obtain ⟨rfl, -, rfl⟩ := e
    exact (hF b' o' h).1
  clear C0 k0 k1 O1 L z1
  go_wp2_with fail
  generalize hp : W1.heap.size = p at *
  generalize (W1.alloc (.cells #[.slice (some ⟨b, 0, none⟩) 512 512, .int .i64 0] 29)) = W2 at *
  clear hp
  go_loopw [6] (fun i wr => ∃ (q : Nat) (g : Nat → Int), q ≤ 20 ∧ i = .int .i64 q ∧ DM w B c a len cap wr p ia mm icap (some ⟨b, 0, none⟩) 512 512 0 g) (fun i _ => 20 - (intOf i).toNat)
  case atStart => exact ⟨0, _, by omega, rfl, D1⟩
  case round =>
    obtain ⟨q, g, hq, rfl, hD⟩ := hrel
    clear D1
    have HD := hide hD
    by_cases hq20 : q < 20
    · have hq' : (q : Int) < 20 := by omega
      have cp := boxC hD.out
      have hpl := boxLt hD.out
      have hcw := hD.cur.lt
      have hpc : p ≠ c := by have := hD.far; omega
      have HZ := hide (lit_cells wr [0, 1, 16, 255, 256, 257, 510, 511, 258, 300] 3)
      have HAl := hide ((hD.cur.alloc (.cells ([0, 1, 16, 255, 256, 257, 510, 511, 258, 300].map (Value.int .i64)).toArray 3) hcw).drewN 1)
      have HSA := hide (((Step.refl c wr).alloc (.cells ([0, 1, 16, 255, 256, 257, 510, 511, 258, 300].map (Value.int .i64)).toArray 3)).drewN 1)
      clear hD
      go_wp2_with fail
      go_region_held3 (fun w' => w'.cell? ⟨p, 0, none⟩ = some (.slice (some ⟨b, 0, none⟩) 512 512)) (first | assumption | go_keep) (first
        | (go_at_call 32
           refine (l1PickInt _ B c a len cap (unhide HAl) wr.heap.size 10 (by omega) (by omega) (by omega) (ix [0, 1, 16, 255, 256, 257, 510, 511, 258, 300]) (unhide HZ)).mono ?_; rintro e w2 ⟨j0, rfl, hj0, H2, O2⟩; have hD2 := (unhide HD).step ((unhide HSA).trans O2.step) H2; have hy := ramPick_ok j0; obtain ⟨y, hy'⟩ : ∃ y : Nat, ix [0, 1, 16, 255, 256, 257, 510, 511, 258, 300] j0 = y := ⟨(ix [0, 1, 16, 255, 256, 257, 510, 511, 258, 300] j0).toNat, by omega⟩; rw [hy'] at hy ⊢; obtain ⟨hy0, hy1⟩ := hy; have hwk : IntKind.i64.wrap (y : Int) = (y : Int) := by rw [IntKind.wrap_i64]; omega
           have cp2 : w2.cell? ⟨p, 0, none⟩ = some (.slice (some ⟨b, 0, none⟩) 512 512) := boxC hD2.out 0; have HD2 := hide hD2; clear hD2 O2 hy')
        | (go_at_call 22; refine (l1Below _ B c a len cap H2 256).mono ?_; rintro e w3 ⟨x3, rfl, x0, x1, H3, O3⟩; have hD3 := (unhide HD2).step O3.step H3; have cp3 : w3.cell? ⟨p, 0, none⟩ = some (.slice (some ⟨b, 0, none⟩) 512 512) := boxC hD3.out 0; obtain ⟨u1, u2, -, -⟩ := hD3.own.cellAt y (by omega); have hD3' := hD3.ram y (by omega) x3; rw [Nat.zero_add] at u1 u2 hD3'; have cp4 : (w3.setCell ⟨b, y, none⟩ (.int .i64 x3)).cell? ⟨p, 0, none⟩ = some (.slice (some ⟨b, 0, none⟩) 512 512) := boxC hD3'.out 0; have HD3 := hide hD3'; clear hD3 hD3' O3))
      all_goals
        go_wp2
        go_roundw
        case rel => exact ⟨q + 1, _, by omega, by go_num, unhide HD3⟩
        case measure => simp [intOf]; omega
    · have hq' : ¬ (q : Int) < 20 := by omega
      have ci := boxC hD.img
      clear hq hq20
      go_wp2_with fail
      refine (specMax _ _ _).mono ?_
      rintro e wz ⟨⟨z, rfl⟩, rfl⟩
      go_wp2_with fail
      refine (l1Below _ B c a len cap hD.cur z).mono ?_
      rintro e w2 ⟨x2, rfl, -, -, H2, O2⟩
      have hD2 := hD.step O2.step H2
      have cp := boxC hD2.out
      have fp := boxF hD2.out
      have hD3 := hD2.setBank x2
      clear ci hD O2 HD
      go_wp2_with fail
      generalize w2.setCell ⟨p, 1, none⟩ (.int .i64 x2) = w3 at *
      clear cp fp hD2 H2
      refine (l1Below _ B c a len cap hD3.cur 30).mono ?_
      rintro e w4 ⟨x4, rfl, y0, y1, H4, O4⟩
      have hD4 := hD3.step O4.step H4
      clear hD3 O4
      have hfar := hD4.far
      have hpn : p ≠ w.heap.size + 1 := by omega
      by_cases e0 : x4 = 0
      · subst e0
        have hcw := hD4.cur.lt
        have hpl := boxLt hD4.out
        have HZ := hide (lit_cells w4 [-1, 8] 3)
        have hDA := hD4.step ((Step.refl c w4).alloc (.cells ([-1, 8].map (Value.int .i64)).toArray 3)) (hD4.cur.alloc _ hcw)
        go_wp2_with fail
        refine (l1PickInt _ B c a len cap hDA.cur w4.heap.size 2 (by omega) (by omega) (by omega) (ix [-1, 8]) (unhide HZ)).mono ?_
        rintro e w5 ⟨j0, rfl, -, H5, O5⟩
        have hD5 := hDA.step O5.step H5
        generalize ix [-1, 8] j0 = x5 at *
        have cp := boxC hD5.out
        have fp := boxF hD5.out
        have hD6 := hD5.setBank x5
        clear hDA hD4 O5 HZ
        go_upto_region 14 with (fail)
        generalize w5.setCell ⟨p, 1, none⟩ (.int .i64 x5) = w6 at *
        clear cp fp hD5
        have d1 := boxC hD6.res
        have d2 := boxC hD6.out
        have d3 := boxF hD6.res
        go_wp2
        refine bodyPost_ret (v := .agg #[.slice (some ⟨b, 0, none⟩) 512 512, .int .i64 x5]) (by simp [results, Tryd.results44, go_sem, d1]) rfl ?_
        exact ⟨⟨_, _, _, _, rfl, (hD6.end _ _).1⟩, (hD6.end _ _).2⟩
      · have e0' : (x4 == 0) = false := by simpa using e0
        by_cases e1 : x4 = 1
        · subst e1
          have cp := boxC hD4.out
          have fp := boxF hD4.out
          have hD6 := hD4.cut 511
          go_upto_region 14 with (fail)
          generalize w4.setCell ⟨p, 0, none⟩ (.slice (some ⟨b, 0 + 1, none⟩) 511 511) = w6 at *
          clear cp fp hD4
          have d1 := boxC hD6.res
          have d2 := boxC hD6.out
          have d3 := boxF hD6.res
          go_wp2
          refine bodyPost_ret (v := .agg #[.slice (some ⟨b, 0 + 1, none⟩) 511 511, .int .i64 x2]) (by simp [results, Tryd.results44, go_sem, d1]) rfl ?_
          exact ⟨⟨_, _, _, _, rfl, (hD6.end _ _).1⟩, (hD6.end _ _).2⟩
        · have e1' : (x4 == 1) = false := by simpa using e1
          by_cases e2 : x4 = 2
          · subst e2
            have cp := boxC hD4.out
            obtain ⟨u1, u2, -, -⟩ := hD4.own.cellAt 256 (by omega)
            have hD6 := hD4.ram 256 (by omega) 256
            rw [Nat.zero_add] at u1 u2 hD6
            go_upto_region 14 with (fail)
            generalize w4.setCell ⟨b, 256, none⟩ (.int .i64 256) = w6 at *
            clear cp u1 u2 hD4
            have d1 := boxC hD6.res
            have d2 := boxC hD6.out
            have d3 := boxF hD6.res
            go_wp2
            refine bodyPost_ret (v := .agg #[.slice (some ⟨b, 0, none⟩) 512 512, .int .i64 x2]) (by simp [results, Tryd.results44, go_sem, d1]) rfl ?_
            exact ⟨⟨_, _, _, _, rfl, (hD6.end _ _).1⟩, (hD6.end _ _).2⟩
          · have e2' : (x4 == 2) = false := by simpa using e2
            clear e0 e1 e2
            have d1 := boxC hD4.res
            have d2 := boxC hD4.out
            have d3 := boxF hD4.res
            go_wp2
            refine bodyPost_ret (v := .agg #[.slice (some ⟨b, 0, none⟩) 512 512, .int .i64 x2]) (by simp [results, Tryd.results44, go_sem, d1]) rfl ?_
            exact ⟨⟨_, _, _, _, rfl, (hD4.end _ _).1⟩, (hD4.end _ _).2⟩
end Go.Proofs.YtpaedkefmebjjafDoor
