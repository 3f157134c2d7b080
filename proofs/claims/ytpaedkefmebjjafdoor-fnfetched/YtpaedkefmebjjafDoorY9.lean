/-
  Draws of chapter 7: what is fetched, what is accessed, an image for a new processor.
-/
import Derived.Test.YtpaedkefmebjjafDoorY8
import Derived.Test.YtpaedkefmebjjafDoorD5
namespace Go.Proofs.YtpaedkefmebjjafDoor
set_option linter.unusedVariables false
open Go.ChangeShapes Go.WideShapes Go.ChangeAt Go.RowKit
set_option maxRecDepth 20000 in
set_option maxHeartbeats 4000000 in
theorem drawFetch (w : World) (a : Option Addr) (len cap : Nat) (H : Code w w.heap.size a len) :
    Calls Tryd.prog 5 #[.slice a len cap] w fun e w' => ∃ v m ra ln rc F q n g bank x, e = .returned (.tuple #[.agg #[v], .agg #[q, .int .i64 bank], .int .i64 x]) ∧ m ≤ 3 ∧ OwnSS w' w.heap.size v m ra ln rc F ∧ OwnInts w' w.heap.size q n g ∧ Below w.heap.size w w' := by
  have C0 : Below w.heap.size w ((w.alloc (.cells #[.slice none 0 0] 26)).alloc (.cells #[.slice none 0 0, .int .i64 0] 29)) := ((Below.refl _ _).alloc (Nat.le_refl _) _).alloc (by simp) _
  have k0 : ((w.alloc (.cells #[.slice none 0 0] 26)).alloc (.cells #[.slice none 0 0, .int .i64 0] 29)).heap[w.heap.size]? = some (.cells #[.slice none 0 0] 26 (0, 0)) := boxA (box_new w _ _) _
  have k1 : ((w.alloc (.cells #[.slice none 0 0] 26)).alloc (.cells #[.slice none 0 0, .int .i64 0] 29)).heap[w.heap.size + 1]? = some (.cells #[.slice none 0 0, .int .i64 0] 29 (0, 0)) := by simpa using box_new (w.alloc (.cells #[.slice none 0 0] 26)) #[.slice none 0 0, .int .i64 0] 29
  have zz : ((w.alloc (.cells #[.slice none 0 0] 26)).alloc (.cells #[.slice none 0 0, .int .i64 0] 29)).heap.size = w.heap.size + 2 := by simp
  go_enter Tryd.func5, Tryd.ntmps5
  go_wp2_with fail
  generalize ((w.alloc (.cells #[.slice none 0 0] 26)).alloc (.cells #[.slice none 0 0, .int .i64 0] 29)) = W0 at *
  refine (l1New _ w.heap.size a len cap (by omega) (H.keep C0)).mono ?_
  rintro e W1 ⟨rfl, H1, L1, z1⟩
  rw [zz] at H1 L1 z1
  rw [zz]
  go_wp2_with fail
  refine (l6Draw _ w.heap.size (w.heap.size + 2) a len cap H1).mono ?_
  rintro e W2 ⟨⟨v, m, ra, ln, rc, F, q, n, g, bank, rfl, hm, hS, hO⟩, H2, S2⟩
  obtain ⟨va, vc, hv, -, -⟩ := hS.sep.outer
  subst hv
  obtain ⟨qa, qc, hq, -, -, -, -⟩ := id hO
  subst hq
  have hz2 := S2.size
  have D1 : DP w w.heap.size (w.heap.size + 2) a len cap ((W2.alloc (.cells #[.slice va m vc] 26)).alloc (.cells #[.slice qa n qc, .int .i64 bank] 29)) W2.heap.size va m vc qa n qc bank ra ln rc F g := by
    have L2 : Below (w.heap.size + 2) W1 W2 := S2.below (by omega) (by omega)
    have LA : Below (w.heap.size + 2) W0 W2 := L1.trans L2
    have LB : Below W2.heap.size W2 ((W2.alloc (.cells #[.slice va m vc] 26)).alloc (.cells #[.slice qa n qc, .int .i64 bank] 29)) := ((Below.refl _ _).alloc (Nat.le_refl _) _).alloc (by simp) _
    refine ⟨box_keep (box_keep k0 LA (by omega)) LB (by omega), box_keep (box_keep k1 LA (by omega)) LB (by omega), boxA (box_new W2 _ _) _, by simpa using box_new (W2.alloc (.cells #[.slice va m vc] 26)) #[.slice qa n qc, .int .i64 bank] 29, rfl, by omega, (hS.blocks LB.size (fun k _ hk => LB.block k hk)).lower (by omega), (hO.blocks LB.size (fun k _ hk => LB.block k hk)).mono (by omega), hm, H2.below LB H2.lt, (C0.trans (LA.mono (by omega))).trans (LB.mono (by omega))⟩
  clear hS hO S2 H2 H1 L1 k0 k1 C0 zz
  go_upto_region 3 with (fail)
  generalize hp : W2.heap.size = p at *
  generalize ((W2.alloc (.cells #[.slice va m vc] 26)).alloc (.cells #[.slice qa n qc, .int .i64 bank] 29)) = W3 at *
  go_wp2_with fail
  refine (l6DrawAddr _ _ _ a len cap D1.cur).mono ?_
  rintro e W4 ⟨x, rfl, H4, S4⟩
  have D2 := D1.step S4 H4
  clear D1 S4 H4
  go_wp2_with fail
  refine (l1Once _ _ _ a len cap D2.cur 2).mono ?_
  rintro e W5 ⟨z, rfl, H5, O5⟩
  have D3 := D2.step O5.step H5
  clear D2 O5 H5
  cases z
  · obtain ⟨D⟩ : Nonempty (PLift (DP w w.heap.size (w.heap.size + 2) a len cap W5 p va m vc qa n qc bank ra ln rc F g)) := ⟨⟨D3⟩⟩
    replace D := D.down
    clear D3
    have cb0 := boxC D.b0
    have cb1 := boxC D.b1
    have c0 := boxC D.r0
    have f0 := boxF D.r0
    have c1 := boxC D.r1
    have f1 := boxF D.r1
    have hf := D.far
    have hm3 := D.le
    have hp0 : p ≠ w.heap.size := by omega
    have hp1 : p ≠ w.heap.size + 1 := by omega
    have hq0 : p + 1 ≠ w.heap.size := by omega
    have hq1 : p + 1 ≠ w.heap.size + 1 := by omega
    have HE := hide (D.end (.slice va m vc) (.slice qa n qc) (.int .i64 bank))
    clear D
    go_upto_region 6 with (fail)
    go_region
    all_goals
      go_wp2
      refine bodyPost_ret (v := .tuple #[.agg #[.slice va m vc], .agg #[.slice qa n qc, .int .i64 bank], .int .i64 x]) (by simp [results, Tryd.results5, go_sem, c0, c1]) rfl ?_
      obtain ⟨e1, e2, e3⟩ := unhide HE
      exact ⟨_, m, _, _, _, _, _, n, _, _, _, rfl, hm3, e1.blocks (Nat.le_refl _) (fun _ _ _ => rfl), e2.blocks (Nat.le_refl _) (fun _ _ _ => rfl), e3.trans ⟨rfl, rfl, rfl, Nat.le_refl _, fun _ _ => rfl⟩⟩
  · go_wp2_with fail
    refine (l1Below _ _ _ a len cap D3.cur 256).mono ?_
    rintro e W6 ⟨y, rfl, y0, y1, H6, O6⟩
    have hw : wrap64 (49152 + y) = 49152 + y := by unfold wrap64; omega
    have D := D3.step O6.step H6
    clear D3 O6 H6
    have cb0 := boxC D.b0
    have cb1 := boxC D.b1
    have c0 := boxC D.r0
    have f0 := boxF D.r0
    have c1 := boxC D.r1
    have f1 := boxF D.r1
    have hf := D.far
    have hm3 := D.le
    have hp0 : p ≠ w.heap.size := by omega
    have hp1 : p ≠ w.heap.size + 1 := by omega
    have hq0 : p + 1 ≠ w.heap.size := by omega
    have hq1 : p + 1 ≠ w.heap.size + 1 := by omega
    have HE := hide (D.end (.slice va m vc) (.slice qa n qc) (.int .i64 bank))
    clear D
    go_upto_region 6 with (fail)
    go_region
    all_goals
      go_wp2
      refine bodyPost_ret (v := .tuple #[.agg #[.slice va m vc], .agg #[.slice qa n qc, .int .i64 bank], .int .i64 (49152 + y)]) (by simp [results, Tryd.results5, go_sem, c0, c1]) rfl ?_
      obtain ⟨e1, e2, e3⟩ := unhide HE
      exact ⟨_, m, _, _, _, _, _, n, _, _, _, rfl, hm3, e1.blocks (Nat.le_refl _) (fun _ _ _ => rfl), e2.blocks (Nat.le_refl _) (fun _ _ _ => rfl), e3.trans ⟨rfl, rfl, rfl, Nat.le_refl _, fun _ _ => rfl⟩⟩
theorem l7DrawInstr (w : World) (B c : Nat) (a : Option Addr) (len cap : Nat) (H : Cur w B c a len cap) :
    Calls Tryd.prog 31 #[.pointer (some ⟨c, 0, none⟩)] w fun e w' => (∃ o x : Int, e = .returned (.agg #[.int .i64 o, .int .i64 x])) ∧ Cur w' B c a len cap ∧ Step c w w' := by
  have hcw := H.lt
  have r0 := box_new w #[.int .i64 0, .int .i64 0] 33
  have S0 := (Step.refl c w).alloc (.cells #[.int .i64 0, .int .i64 0] 33)
  have H0 := H.alloc (.cells #[.int .i64 0, .int .i64 0] 33) hcw
  go_enter Tryd.func31, Tryd.ntmps31
  go_wp2_with fail
  generalize w.alloc (.cells #[.int .i64 0, .int .i64 0] 33) = W0 at *
  refine (l1Below _ B c a len cap H0 31).mono ?_
  rintro e W1 ⟨o, rfl, -, -, H1, O1⟩
  have S1 := S0.trans O1.step
  replace r0 := O1.step.box r0 (by omega)
  go_wp2_with fail
  refine (l1Below _ B c a len cap H1 256).mono ?_
  rintro e W2 ⟨y, rfl, -, -, H2, O2⟩
  have S2 := S1.trans O2.step
  replace r0 := O2.step.box r0 (by omega)
  clear S0 S1 O1 O2 H0 H1
  have hc2 := H2.lt
  have HZ := hide (lit_cells W2 [0, 1, 5, 127, 128, 255, 256, 8192, 49152, 65535, y] 3)
  have HA := H2.alloc (.cells ([0, 1, 5, 127, 128, 255, 256, 8192, 49152, 65535, y].map (Value.int .i64)).toArray 3) hc2
  have SA := S2.alloc (.cells ([0, 1, 5, 127, 128, 255, 256, 8192, 49152, 65535, y].map (Value.int .i64)).toArray 3)
  replace r0 := boxA r0 (.cells ([0, 1, 5, 127, 128, 255, 256, 8192, 49152, 65535, y].map (Value.int .i64)).toArray 3)
  go_wp2_with fail
  refine (l1PickInt _ B c a len cap HA W2.heap.size 11 (by omega) (by omega) (by omega) (ix [0, 1, 5, 127, 128, 255, 256, 8192, 49152, 65535, y]) (unhide HZ)).mono ?_
  rintro e W3 ⟨j0, rfl, -, H3, O3⟩
  generalize ix [0, 1, 5, 127, 128, 255, 256, 8192, 49152, 65535, y] j0 = x at *
  have S3 := SA.trans O3.step
  replace r0 := O3.step.box r0 (by omega)
  clear HZ HA SA O3 S2
  have c0 := boxC r0
  have f0 := boxF r0
  have hup := H3.up
  go_wp2
  refine bodyPost_ret (v := .agg #[.int .i64 o, .int .i64 x]) (by simp [results, Tryd.results31, go_sem, c0]) rfl ?_
  exact ⟨⟨o, x, rfl⟩, H3.only (((OnlyAt.refl w.heap.size W3).setCell (o := 0) (s := none) _).setCell (o := 1) (s := none) _) (by omega) (by omega), (S3.setCell (by omega) _).setCell (by omega) _⟩
structure DJ (w W : World) (B : Nat) (a : Option Addr) (len cap p : Nat) (o x : Int) : Prop where
  r0 : W.heap[w.heap.size]? = some (.cells #[.int .i64 0, .int .i64 0] 33 (0, 0))
  r1 : W.heap[w.heap.size + 1]? = some (.cells #[.int .i64 0, .int .i64 0, .int .i64 0, .int .i64 0, .bool false, .bool false, .bool false, .bool false] 39 (0, 0))
  bi : W.heap[p]? = some (.cells #[.int .i64 o, .int .i64 x] 33 (0, 0))
  far : w.heap.size + 2 < p
  cur : Cur W B (w.heap.size + 2) a len cap
  low : Below w.heap.size w W
theorem DJ.step {w W W' : World} {B : Nat} {a : Option Addr} {len cap p : Nat} {o x : Int} (D : DJ w W B a len cap p o x) (S : Step (w.heap.size + 2) W W') (H : Cur W' B (w.heap.size + 2) a len cap) : DJ w W' B a len cap p o x := by
  have hf := D.far
  have hz := boxLt D.r0
  exact ⟨(S.block _ (boxLt D.r0) (by omega)).trans D.r0, (S.block _ (boxLt D.r1) (by omega)).trans D.r1, (S.block _ (boxLt D.bi) (by omega)).trans D.bi, hf, H, D.low.trans (S.below (by omega) (by omega))⟩
theorem DJ.put {w W : World} {B : Nat} {a : Option Addr} {len cap p : Nat} {o x : Int} (D : DJ w W B a len cap p o x) (y : Int) : DJ w (W.setCell ⟨p, 0, none⟩ (.int .i64 y)) B a len cap p y x := by
  have hf := D.far
  have hup := D.cur.up
  exact ⟨box_set_ne D.r0 (by omega), box_set_ne D.r1 (by omega), box_set D.bi _, hf, D.cur.only ((OnlyAt.refl p W).setCell (o := 0) (s := none) _) (by omega) (by omega), D.low.setCell (by show w.heap.size ≤ p; omega) _⟩
theorem put8_far (w : World) (d : Nat) (v0 v1 v2 v3 v4 v5 v6 v7 : Value) {b o : Nat} (h : b ≠ d) : ((((((((w.setCell ⟨d, 0, none⟩ v0).setCell ⟨d, 1, none⟩ v1).setCell ⟨d, 2, none⟩ v2).setCell ⟨d, 3, none⟩ v3).setCell ⟨d, 4, none⟩ v4).setCell ⟨d, 5, none⟩ v5).setCell ⟨d, 6, none⟩ v6).setCell ⟨d, 7, none⟩ v7).cell? ⟨b, o, none⟩ = w.cell? ⟨b, o, none⟩ := by
  have e : ∀ (W : World) (k : Nat) (v : Value), (W.setCell ⟨d, k, none⟩ v).cell? ⟨b, o, none⟩ = W.cell? ⟨b, o, none⟩ := fun W k v => World.cell?_setCell_other _ _ _ _ (fun e => h (congrArg Addr.block e).symm)
  rw [e, e, e, e, e, e, e, e]
set_option maxRecDepth 20000 in
set_option maxHeartbeats 4000000 in
theorem drawAccess (w : World) (a : Option Addr) (len cap : Nat) (H : Code w w.heap.size a len) :
    Calls Tryd.prog 11 #[.slice a len cap] w fun e w' => (∃ (o x A X S Pc : Int) (Z N C I : Bool), e = .returned (.tuple #[.agg #[.int .i64 o, .int .i64 x], .agg #[.int .i64 A, .int .i64 X, .int .i64 S, .int .i64 Pc, .bool Z, .bool N, .bool C, .bool I]])) ∧ Below w.heap.size w w' := by
  have C0 : Below w.heap.size w ((w.alloc (.cells #[.int .i64 0, .int .i64 0] 33)).alloc (.cells #[.int .i64 0, .int .i64 0, .int .i64 0, .int .i64 0, .bool false, .bool false, .bool false, .bool false] 39)) := ((Below.refl _ _).alloc (Nat.le_refl _) _).alloc (by simp) _
  have k0 : ((w.alloc (.cells #[.int .i64 0, .int .i64 0] 33)).alloc (.cells #[.int .i64 0, .int .i64 0, .int .i64 0, .int .i64 0, .bool false, .bool false, .bool false, .bool false] 39)).heap[w.heap.size]? = some (.cells #[.int .i64 0, .int .i64 0] 33 (0, 0)) := boxA (box_new w _ _) _
  have k1 : ((w.alloc (.cells #[.int .i64 0, .int .i64 0] 33)).alloc (.cells #[.int .i64 0, .int .i64 0, .int .i64 0, .int .i64 0, .bool false, .bool false, .bool false, .bool false] 39)).heap[w.heap.size + 1]? = some (.cells #[.int .i64 0, .int .i64 0, .int .i64 0, .int .i64 0, .bool false, .bool false, .bool false, .bool false] 39 (0, 0)) := by simpa using box_new (w.alloc (.cells #[.int .i64 0, .int .i64 0] 33)) #[.int .i64 0, .int .i64 0, .int .i64 0, .int .i64 0, .bool false, .bool false, .bool false, .bool false] 39
  have zz : ((w.alloc (.cells #[.int .i64 0, .int .i64 0] 33)).alloc (.cells #[.int .i64 0, .int .i64 0, .int .i64 0, .int .i64 0, .bool false, .bool false, .bool false, .bool false] 39)).heap.size = w.heap.size + 2 := by simp
  go_enter Tryd.func11, Tryd.ntmps11
  go_wp2_with fail
  generalize ((w.alloc (.cells #[.int .i64 0, .int .i64 0] 33)).alloc (.cells #[.int .i64 0, .int .i64 0, .int .i64 0, .int .i64 0, .bool false, .bool false, .bool false, .bool false] 39)) = W0 at *
  refine (l1New _ w.heap.size a len cap (by omega) (H.keep C0)).mono ?_
  rintro e W1 ⟨rfl, H1, L1, z1⟩
  rw [zz] at H1 L1 z1
  rw [zz]
  go_wp2_with fail
  refine (l7DrawInstr _ w.heap.size (w.heap.size + 2) a len cap H1).mono ?_
  rintro e W2 ⟨⟨o, x, rfl⟩, H2, S2⟩
  have hz2 := S2.size
  have D1 : DJ w (W2.alloc (.cells #[.int .i64 o, .int .i64 x] 33)) w.heap.size a len cap W2.heap.size o x := by
    have L2 : Below (w.heap.size + 2) W1 W2 := S2.below (by omega) (by omega)
    have LA : Below (w.heap.size + 2) W0 W2 := L1.trans L2
    exact ⟨boxA (box_keep k0 LA (by omega)) _, boxA (box_keep k1 LA (by omega)) _, box_new _ _ _, by omega, H2.alloc _ H2.lt, (C0.trans (LA.mono (by omega))).alloc (by omega) _⟩
  clear H2 S2 H1 L1 k0 k1 C0 zz
  go_wp2_with fail
  generalize hp : W2.heap.size = p at *
  generalize (W2.alloc (.cells #[.int .i64 o, .int .i64 x] 33)) = W3 at *
  clear hp
  refine (l1Once _ _ _ a len cap D1.cur 2).mono ?_
  rintro e W4 ⟨z, rfl, H4, O4⟩
  have D2 := D1.step O4.step H4
  clear D1 O4 H4
  go_upto_if 11 with (fail)
  go_cut [] (fun wc => ∃ o, DJ w wc w.heap.size a len cap p o x)
  case first =>
    cases z
    · go_wp2_with fail
      go_meet
      exact ⟨_, D2⟩
    · have hcw := D2.cur.lt
      have hpl := boxLt D2.bi
      have HZ := hide (lit_cells W4 [2, 3, 14, 15, 29] 3)
      have DA := D2.step ((Step.refl (w.heap.size + 2) W4).alloc (.cells ([2, 3, 14, 15, 29].map (Value.int .i64)).toArray 3)) (D2.cur.alloc _ hcw)
      go_wp2_with fail
      refine (l1PickInt _ _ _ a len cap DA.cur W4.heap.size 5 (by omega) (by omega) (by omega) (ix [2, 3, 14, 15, 29]) (unhide HZ)).mono ?_
      rintro e W5 ⟨j0, rfl, -, H5, O5⟩
      have D5 := DA.step O5.step H5
      generalize ix [2, 3, 14, 15, 29] j0 = y at *
      have cp := boxC D5.bi
      have fp := boxF D5.bi
      have D6 := D5.put y
      clear DA D2 O5 HZ
      go_wp2_with fail
      go_meet
      exact ⟨_, D6⟩
  case rest =>
    obtain ⟨o, D⟩ := hcut
    have hf := D.far
    have hp0 : p ≠ w.heap.size := by omega
    have hp1 : p ≠ w.heap.size + 1 := by omega
    have cb := boxC D.bi
    have HD := hide D
    have HC := hide (D.cur.drewN 1)
    clear D D2
    go_wp2_with fail
    go_region_held3 (fun w' => w'.cell? ⟨p, 0, none⟩ = some (.int .i64 o) ∧ w'.cell? ⟨p, 1, none⟩ = some (.int .i64 x)) (first | (with_reducible assumption) | (refine ⟨?_, ?_⟩ <;> with_reducible assumption) | go_keep) ((go_at_call 33; refine (l5Draw _ _ _ a len cap (unhide HC) (by have := (unhide HC).lt; exact this)).mono ?_; rintro e W6 ⟨⟨A, X, S, Pc, Z, N, C, I, rfl⟩, H6, S6'⟩; have S6 : Step (w.heap.size + 2) wc W6 := ⟨S6'.os, S6'.tape, S6'.output, S6'.size, S6'.block⟩; have D6 := (unhide HD).step S6 H6; have B6 := And.intro D6.r0 (And.intro D6.r1 D6.bi); have c0 := boxC D6.r0; have f0 := boxF D6.r0; have c1 := boxC D6.r1; have f1 := boxF D6.r1; have g0 : W6.cell? ⟨p, 0, none⟩ = some (.int .i64 o) := boxC B6.2.2 0; have g0' : ((W6.setCell ⟨w.heap.size, 0, none⟩ (.int .i64 o)).setCell ⟨w.heap.size, 1, none⟩ (.int .i64 x)).cell? ⟨p, 0, none⟩ = some (.int .i64 o) := (World.cell?_setCell_other _ _ _ _ (fun h => hp0 (congrArg Addr.block h).symm)).trans ((World.cell?_setCell_other _ _ _ _ (fun h => hp0 (congrArg Addr.block h).symm)).trans g0); have g0'' : ((((((((((W6.setCell ⟨w.heap.size, 0, none⟩ (.int .i64 o)).setCell ⟨w.heap.size, 1, none⟩ (.int .i64 x)).setCell ⟨w.heap.size + 1, 0, none⟩ (.int .i64 A)).setCell ⟨w.heap.size + 1, 1, none⟩ (.int .i64 X)).setCell ⟨w.heap.size + 1, 2, none⟩ (.int .i64 S)).setCell ⟨w.heap.size + 1, 3, none⟩ (.int .i64 Pc)).setCell ⟨w.heap.size + 1, 4, none⟩ (.bool Z)).setCell ⟨w.heap.size + 1, 5, none⟩ (.bool N)).setCell ⟨w.heap.size + 1, 6, none⟩ (.bool C)).setCell ⟨w.heap.size + 1, 7, none⟩ (.bool I)).cell? ⟨p, 0, none⟩ = some (.int .i64 o) := (put8_far _ (w.heap.size + 1) _ _ _ _ _ _ _ _ hp1).trans g0'; have g1 : W6.cell? ⟨p, 1, none⟩ = some (.int .i64 x) := boxC B6.2.2 1; have g1' : ((W6.setCell ⟨w.heap.size, 0, none⟩ (.int .i64 o)).setCell ⟨w.heap.size, 1, none⟩ (.int .i64 x)).cell? ⟨p, 1, none⟩ = some (.int .i64 x) := (World.cell?_setCell_other _ _ _ _ (fun h => hp0 (congrArg Addr.block h).symm)).trans ((World.cell?_setCell_other _ _ _ _ (fun h => hp0 (congrArg Addr.block h).symm)).trans g1); have g1'' : ((((((((((W6.setCell ⟨w.heap.size, 0, none⟩ (.int .i64 o)).setCell ⟨w.heap.size, 1, none⟩ (.int .i64 x)).setCell ⟨w.heap.size + 1, 0, none⟩ (.int .i64 A)).setCell ⟨w.heap.size + 1, 1, none⟩ (.int .i64 X)).setCell ⟨w.heap.size + 1, 2, none⟩ (.int .i64 S)).setCell ⟨w.heap.size + 1, 3, none⟩ (.int .i64 Pc)).setCell ⟨w.heap.size + 1, 4, none⟩ (.bool Z)).setCell ⟨w.heap.size + 1, 5, none⟩ (.bool N)).setCell ⟨w.heap.size + 1, 6, none⟩ (.bool C)).setCell ⟨w.heap.size + 1, 7, none⟩ (.bool I)).cell? ⟨p, 1, none⟩ = some (.int .i64 x) := (put8_far _ (w.heap.size + 1) _ _ _ _ _ _ _ _ hp1).trans g1'; have HL := hide D6.low; clear D6 S6 S6' B6))
    all_goals
      go_wp2
      refine bodyPost_ret (v := .tuple #[.agg #[.int .i64 o, .int .i64 x], .agg #[.int .i64 A, .int .i64 X, .int .i64 S, .int .i64 Pc, .bool Z, .bool N, .bool C, .bool I]]) (by simp [results, Tryd.results11, go_sem, c0, c1]) rfl ?_
      refine ⟨⟨o, x, A, X, S, Pc, Z, N, C, I, rfl⟩, ?_⟩
      have L6 := ((unhide HL).setCell (p := ⟨w.heap.size, 0, none⟩) (Nat.le_refl _) (.int .i64 o)).setCell (p := ⟨w.heap.size, 1, none⟩) (Nat.le_refl _) (.int .i64 x)
      exact ((((((((L6.setCell (by simp) _).setCell (by simp) _).setCell (by simp) _).setCell (by simp) _).setCell (by simp) _).setCell (by simp) _).setCell (by simp) _).setCell (by simp) _)
set_option maxRecDepth 20000 in
set_option maxHeartbeats 4000000 in
theorem drawCpuNew (w : World) (a : Option Addr) (len cap : Nat) (H : Code w w.heap.size a len) :
    Calls Tryd.prog 14 #[.slice a len cap] w fun e w' => ∃ v m ra ln rc F, e = .returned (.agg #[v]) ∧ m ≤ 3 ∧ OwnSS w' w.heap.size v m ra ln rc F ∧ Below w.heap.size w w' := by
  have L0 : Below w.heap.size w (w.alloc (.cells #[.slice none 0 0] 26)) := (Below.refl _ _).alloc (Nat.le_refl _) _
  have x0 : (w.alloc (.cells #[.slice none 0 0] 26)).cell? ⟨w.heap.size, 0, none⟩ = some (.slice none 0 0) := by rw [World.cell?_alloc_at _ _ _ _ rfl]; rfl
  have f0 : (w.alloc (.cells #[.slice none 0 0] 26)).frozen? ⟨w.heap.size, 0, none⟩ = false := by go_simp
  have e0 : (w.alloc (.cells #[.slice none 0 0] 26)).heap.size = w.heap.size + 1 := by simp
  go_enter Tryd.func14, Tryd.ntmps14
  go_wp2_with fail
  generalize w.alloc (.cells #[.slice none 0 0] 26) = wa at *
  refine (l1New _ w.heap.size a len cap (by omega) (H.keep L0)).mono ?_
  rintro e w1 ⟨rfl, H1, L1, z1⟩
  rw [e0] at H1 L1 z1
  go_wp2_with fail
  refine (l2Draw _ w.heap.size (w.heap.size + 1) a len cap H1).mono ?_
  rintro e w2 ⟨⟨v, m, ra, ln, rc, F, rfl, hm, hS⟩, H2, S2⟩
  obtain ⟨ov, cv, hv, -, -⟩ := hS.sep.outer
  subst hv
  have L2 : Below (w.heap.size + 1) w1 w2 := S2.below (by omega) (by omega)
  have LA : Below (w.heap.size + 1) wa w2 := L1.trans L2
  have x2 := (LA.cell (p := ⟨w.heap.size, 0, none⟩) (Nat.lt_succ_self _)).trans x0
  have f2 := (LA.frozen (p := ⟨w.heap.size, 0, none⟩) (Nat.lt_succ_self _)).trans f0
  go_wp2
  have xr := World.cell?_setCell_same _ _ (.slice ov m cv) x2
  refine bodyPost_ret (v := .agg #[.slice ov m cv]) (by simp [results, Tryd.results14, go_sem, xr]) rfl ?_
  exact ⟨_, m, _, _, _, _, rfl, hm, hS.box (by omega) (Nat.le_refl _), (L0.trans (LA.mono (Nat.le_succ _))).setCell (Nat.le_refl _) _⟩
end Go.Proofs.YtpaedkefmebjjafDoor
