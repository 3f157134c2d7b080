/-
  Draws of what Peek and Poke are asked.
-/
import Derived.Test.YtpaedkefmebjjaeY7
import Derived.Test.YtpaedkefmebjjaeD1
namespace Go.Proofs.Ytpaedkefmebjjae
set_option linter.unusedVariables false
open Go.ChangeShapes Go.WideShapes Go.ChangeAt Go.RowKit
/-- Where a draw of an image and a memory stands ahead of its last statement: the results' boxes, its own boxes, what lies in new memory. -/
structure DP (w : World) (B c : Nat) (a : Option Addr) (len cap : Nat) (W : World) (p : Nat) (va : Option Addr) (m vc : Nat) (qa : Option Addr) (n qc : Nat) (bank : Int) (ra : Nat → Option Addr) (ln rc : Nat → Nat) (F : Nat → Nat → Int) (g : Nat → Int) : Prop where
  r0 : W.heap[w.heap.size]? = some (.cells #[.slice none 0 0] 34 (0, 0))
  r1 : W.heap[w.heap.size + 1]? = some (.cells #[.slice none 0 0, .int .i64 0] 37 (0, 0))
  b0 : W.heap[p]? = some (.cells #[.slice va m vc] 34 (0, 0))
  b1 : W.heap[p + 1]? = some (.cells #[.slice qa n qc, .int .i64 bank] 37 (0, 0))
  hc : c = w.heap.size + 2
  far : c < p
  ss : OwnSS W (w.heap.size + 3) (.slice va m vc) m ra ln rc F
  own : OwnInts W (w.heap.size + 3) (.slice qa n qc) n g
  le : m ≤ 3
  cur : Cur W B c a len cap
  low : Below w.heap.size w W
section
variable {w : World} {B c : Nat} {a : Option Addr} {len cap : Nat} {W W' : World} {p : Nat} {va : Option Addr} {m vc : Nat} {qa : Option Addr} {n qc : Nat} {bank : Int} {ra : Nat → Option Addr} {ln rc : Nat → Nat} {F : Nat → Nat → Int} {g : Nat → Int}
theorem DP.step (D : DP w B c a len cap W p va m vc qa n qc bank ra ln rc F g) (S : Step c W W') (H : Cur W' B c a len cap) : DP w B c a len cap W' p va m vc qa n qc bank ra ln rc F g := by
  have hc := D.hc
  have hf := D.far
  have hz := boxLt D.r0
  exact ⟨(S.block _ (boxLt D.r0) (by omega)).trans D.r0, (S.block _ (boxLt D.r1) (by omega)).trans D.r1, (S.block _ (boxLt D.b0) (by omega)).trans D.b0, (S.block _ (boxLt D.b1) (by omega)).trans D.b1, D.hc, D.far, D.ss.blocks S.size (fun k hk hk' => S.block k hk' (by omega)), D.own.blocks S.size (fun k hk hk' => S.block k hk' (by omega)), D.le, H, D.low.trans (S.below (by omega) (by omega))⟩
theorem DP.end (D : DP w B c a len cap W p va m vc qa n qc bank ra ln rc F g) (x y z : Value) : OwnSS (((W.setCell ⟨w.heap.size, 0, none⟩ x).setCell ⟨w.heap.size + 1, 0, none⟩ y).setCell ⟨w.heap.size + 1, 1, none⟩ z) w.heap.size (.slice va m vc) m ra ln rc F ∧ OwnInts (((W.setCell ⟨w.heap.size, 0, none⟩ x).setCell ⟨w.heap.size + 1, 0, none⟩ y).setCell ⟨w.heap.size + 1, 1, none⟩ z) w.heap.size (.slice qa n qc) n g ∧ Below w.heap.size w (((W.setCell ⟨w.heap.size, 0, none⟩ x).setCell ⟨w.heap.size + 1, 0, none⟩ y).setCell ⟨w.heap.size + 1, 1, none⟩ z) :=
  ⟨OwnSS.low3 (lo := 0) (D.ss.lower (by omega)), (((D.own.setLow (by omega) _).setLow (by omega) _).setLow (by omega) _).mono (by omega), ((D.low.setCell (Nat.le_refl _) _).setCell (by simp) _).setCell (by simp) _⟩
end
set_option maxRecDepth 20000 in
set_option maxHeartbeats 4000000 in
theorem drawPeek (w : World) (a : Option Addr) (len cap : Nat) (H : Code w w.heap.size a len) :
    Calls Try.prog 28 #[.slice a len cap] w fun e w' => ∃ v m ra ln rc F q n g bank x, e = .returned (.tuple #[.agg #[v], .agg #[q, .int .i64 bank], .int .i64 x]) ∧ m ≤ 3 ∧ OwnSS w' w.heap.size v m ra ln rc F ∧ OwnInts w' w.heap.size q n g ∧ Below w.heap.size w w' := by
  have C0 : Below w.heap.size w ((w.alloc (.cells #[.slice none 0 0] 34)).alloc (.cells #[.slice none 0 0, .int .i64 0] 37)) := ((Below.refl _ _).alloc (Nat.le_refl _) _).alloc (by simp) _
  have k0 : ((w.alloc (.cells #[.slice none 0 0] 34)).alloc (.cells #[.slice none 0 0, .int .i64 0] 37)).heap[w.heap.size]? = some (.cells #[.slice none 0 0] 34 (0, 0)) := boxA (box_new w _ _) _
  have k1 : ((w.alloc (.cells #[.slice none 0 0] 34)).alloc (.cells #[.slice none 0 0, .int .i64 0] 37)).heap[w.heap.size + 1]? = some (.cells #[.slice none 0 0, .int .i64 0] 37 (0, 0)) := by simpa using box_new (w.alloc (.cells #[.slice none 0 0] 34)) #[.slice none 0 0, .int .i64 0] 37
  have zz : ((w.alloc (.cells #[.slice none 0 0] 34)).alloc (.cells #[.slice none 0 0, .int .i64 0] 37)).heap.size = w.heap.size + 2 := by simp
  go_enter Try.func28, Try.ntmps28
  go_wp2_with fail
  generalize ((w.alloc (.cells #[.slice none 0 0] 34)).alloc (.cells #[.slice none 0 0, .int .i64 0] 37)) = W0 at *
  refine (l1New _ w.heap.size a len cap (by omega) (H.keep C0)).mono ?_
  rintro e W1 ⟨rfl, H1, L1, z1⟩
  rw [zz] at H1 L1 z1
  rw [zz]
  go_wp2_with fail
  refine (l6Draw _ w.heap.size (w.heap.size + 2) a len cap H1).mono ?_
  rintro e W2 ⟨⟨v, m, ra, ln, rc, F, q, n, g, bank, rfl, hm, hS, hO⟩, H2, S2⟩
  obtain ⟨va, vc, hv, -, -⟩ := hS.sep.outer
  subst hv
  obtain ⟨qa, qc, hq, -, -, -, -⟩ := id hO
  subst hq
  have hz2 := S2.size
  have D1 : DP w w.heap.size (w.heap.size + 2) a len cap ((W2.alloc (.cells #[.slice va m vc] 34)).alloc (.cells #[.slice qa n qc, .int .i64 bank] 37)) W2.heap.size va m vc qa n qc bank ra ln rc F g := by
    have L2 : Below (w.heap.size + 2) W1 W2 := S2.below (by omega) (by omega)
    have LA : Below (w.heap.size + 2) W0 W2 := L1.trans L2
    have LB : Below W2.heap.size W2 ((W2.alloc (.cells #[.slice va m vc] 34)).alloc (.cells #[.slice qa n qc, .int .i64 bank] 37)) := ((Below.refl _ _).alloc (Nat.le_refl _) _).alloc (by simp) _
    refine ⟨box_keep (box_keep k0 LA (by omega)) LB (by omega), box_keep (box_keep k1 LA (by omega)) LB (by omega), boxA (box_new W2 _ _) _, by simpa using box_new (W2.alloc (.cells #[.slice va m vc] 34)) #[.slice qa n qc, .int .i64 bank] 37, rfl, by omega, (hS.blocks LB.size (fun k _ hk => LB.block k hk)).lower (by omega), (hO.blocks LB.size (fun k _ hk => LB.block k hk)).mono (by omega), hm, H2.below LB H2.lt, (C0.trans (LA.mono (by omega))).trans (LB.mono (by omega))⟩
  clear hS hO S2 H2 H1 L1 k0 k1 C0 zz
  go_upto_region 3 with (fail)
  generalize hp : W2.heap.size = p at *
  generalize ((W2.alloc (.cells #[.slice va m vc] 34)).alloc (.cells #[.slice qa n qc, .int .i64 bank] 37)) = W3 at *
  have hf := D1.far
  have hp0 : p ≠ w.heap.size := by omega
  have hp1 : p ≠ w.heap.size + 1 := by omega
  have hq0 : p + 1 ≠ w.heap.size := by omega
  have hq1 : p + 1 ≠ w.heap.size + 1 := by omega
  have cb0 := boxC D1.b0
  have cb1 := boxC D1.b1
  have HD := hide D1
  have HC := hide (D1.cur.drewN 1)
  have hm3 := D1.le
  clear D1
  go_region_held3 (fun w' => w'.cell? ⟨p, 0, none⟩ = some (.slice va m vc) ∧ w'.cell? ⟨p + 1, 0, none⟩ = some (.slice qa n qc) ∧ w'.cell? ⟨p + 1, 1, none⟩ = some (.int .i64 bank)) (first | assumption | go_keep) ((go_at_call 40; refine (l6DrawAddr _ _ _ a len cap (unhide HC)).mono ?_; rintro e W5 ⟨x, rfl, H5, S5'⟩; have S5 : Step (w.heap.size + 2) W3 W5 := ⟨S5'.os, S5'.tape, S5'.output, S5'.size, S5'.block⟩; have D5 := (unhide HD).step S5 H5; have c0 := boxC D5.r0; have f0 := boxF D5.r0; have c1 := boxC D5.r1; have f1 := boxF D5.r1; have e0 : W5.cell? ⟨p, 0, none⟩ = some (.slice va m vc) := boxC D5.b0 0; have e0' : (W5.setCell ⟨w.heap.size, 0, none⟩ (.slice va m vc)).cell? ⟨p, 0, none⟩ = some (.slice va m vc) := (World.cell?_setCell_other _ _ _ _ (fun h => hp0 (congrArg Addr.block h).symm)).trans e0; have e0'' : (((W5.setCell ⟨w.heap.size, 0, none⟩ (.slice va m vc)).setCell ⟨w.heap.size + 1, 0, none⟩ (.slice qa n qc)).setCell ⟨w.heap.size + 1, 1, none⟩ (.int .i64 bank)).cell? ⟨p, 0, none⟩ = some (.slice va m vc) := (World.cell?_setCell_other _ _ _ _ (fun h => hp1 (congrArg Addr.block h).symm)).trans ((World.cell?_setCell_other _ _ _ _ (fun h => hp1 (congrArg Addr.block h).symm)).trans e0'); have e1 : W5.cell? ⟨p + 1, 0, none⟩ = some (.slice qa n qc) := boxC D5.b1 0; have e1' : (W5.setCell ⟨w.heap.size, 0, none⟩ (.slice va m vc)).cell? ⟨p + 1, 0, none⟩ = some (.slice qa n qc) := (World.cell?_setCell_other _ _ _ _ (fun h => hq0 (congrArg Addr.block h).symm)).trans e1; have e1'' : (((W5.setCell ⟨w.heap.size, 0, none⟩ (.slice va m vc)).setCell ⟨w.heap.size + 1, 0, none⟩ (.slice qa n qc)).setCell ⟨w.heap.size + 1, 1, none⟩ (.int .i64 bank)).cell? ⟨p + 1, 0, none⟩ = some (.slice qa n qc) := (World.cell?_setCell_other _ _ _ _ (fun h => hq1 (congrArg Addr.block h).symm)).trans ((World.cell?_setCell_other _ _ _ _ (fun h => hq1 (congrArg Addr.block h).symm)).trans e1'); have e2 : W5.cell? ⟨p + 1, 1, none⟩ = some (.int .i64 bank) := boxC D5.b1 1; have e2' : (W5.setCell ⟨w.heap.size, 0, none⟩ (.slice va m vc)).cell? ⟨p + 1, 1, none⟩ = some (.int .i64 bank) := (World.cell?_setCell_other _ _ _ _ (fun h => hq0 (congrArg Addr.block h).symm)).trans e2; have e2'' : (((W5.setCell ⟨w.heap.size, 0, none⟩ (.slice va m vc)).setCell ⟨w.heap.size + 1, 0, none⟩ (.slice qa n qc)).setCell ⟨w.heap.size + 1, 1, none⟩ (.int .i64 bank)).cell? ⟨p + 1, 1, none⟩ = some (.int .i64 bank) := (World.cell?_setCell_other _ _ _ _ (fun h => hq1 (congrArg Addr.block h).symm)).trans ((World.cell?_setCell_other _ _ _ _ (fun h => hq1 (congrArg Addr.block h).symm)).trans e2'); have HD5 := hide D5; clear D5 S5 S5'))
  all_goals
    go_wp2
    refine bodyPost_ret (v := .tuple #[.agg #[.slice va m vc], .agg #[.slice qa n qc, .int .i64 bank], .int .i64 x]) (by simp [results, Try.results28, go_sem, c0, c1]) rfl ?_
    exact ⟨_, m, _, _, _, _, _, n, _, _, x, rfl, hm3, (unhide HD5).end _ _ _⟩
set_option maxRecDepth 20000 in
set_option maxHeartbeats 4000000 in
theorem drawPoke (w : World) (a : Option Addr) (len cap : Nat) (H : Code w w.heap.size a len) :
    Calls Try.prog 17 #[.slice a len cap] w fun e w' => ∃ v m ra ln rc F q n g bank x y, e = .returned (.tuple #[.agg #[v], .agg #[q, .int .i64 bank], .int .i64 x, .int .i64 y]) ∧ m ≤ 3 ∧ OwnSS w' w.heap.size v m ra ln rc F ∧ OwnInts w' w.heap.size q n g ∧ Below w.heap.size w w' := by
  have C0 : Below w.heap.size w ((w.alloc (.cells #[.slice none 0 0] 34)).alloc (.cells #[.slice none 0 0, .int .i64 0] 37)) := ((Below.refl _ _).alloc (Nat.le_refl _) _).alloc (by simp) _
  have k0 : ((w.alloc (.cells #[.slice none 0 0] 34)).alloc (.cells #[.slice none 0 0, .int .i64 0] 37)).heap[w.heap.size]? = some (.cells #[.slice none 0 0] 34 (0, 0)) := boxA (box_new w _ _) _
  have k1 : ((w.alloc (.cells #[.slice none 0 0] 34)).alloc (.cells #[.slice none 0 0, .int .i64 0] 37)).heap[w.heap.size + 1]? = some (.cells #[.slice none 0 0, .int .i64 0] 37 (0, 0)) := by simpa using box_new (w.alloc (.cells #[.slice none 0 0] 34)) #[.slice none 0 0, .int .i64 0] 37
  have zz : ((w.alloc (.cells #[.slice none 0 0] 34)).alloc (.cells #[.slice none 0 0, .int .i64 0] 37)).heap.size = w.heap.size + 2 := by simp
  go_enter Try.func17, Try.ntmps17
  go_wp2_with fail
  generalize ((w.alloc (.cells #[.slice none 0 0] 34)).alloc (.cells #[.slice none 0 0, .int .i64 0] 37)) = W0 at *
  refine (l1New _ w.heap.size a len cap (by omega) (H.keep C0)).mono ?_
  rintro e W1 ⟨rfl, H1, L1, z1⟩
  rw [zz] at H1 L1 z1
  rw [zz]
  go_wp2_with fail
  refine (l6Draw _ w.heap.size (w.heap.size + 2) a len cap H1).mono ?_
  rintro e W2 ⟨⟨v, m, ra, ln, rc, F, q, n, g, bank, rfl, hm, hS, hO⟩, H2, S2⟩
  obtain ⟨va, vc, hv, -, -⟩ := hS.sep.outer
  subst hv
  obtain ⟨qa, qc, hq, -, -, -, -⟩ := id hO
  subst hq
  have hz2 := S2.size
  have D1 : DP w w.heap.size (w.heap.size + 2) a len cap ((W2.alloc (.cells #[.slice va m vc] 34)).alloc (.cells #[.slice qa n qc, .int .i64 bank] 37)) W2.heap.size va m vc qa n qc bank ra ln rc F g := by
    have L2 : Below (w.heap.size + 2) W1 W2 := S2.below (by omega) (by omega)
    have LA : Below (w.heap.size + 2) W0 W2 := L1.trans L2
    have LB : Below W2.heap.size W2 ((W2.alloc (.cells #[.slice va m vc] 34)).alloc (.cells #[.slice qa n qc, .int .i64 bank] 37)) := ((Below.refl _ _).alloc (Nat.le_refl _) _).alloc (by simp) _
    refine ⟨box_keep (box_keep k0 LA (by omega)) LB (by omega), box_keep (box_keep k1 LA (by omega)) LB (by omega), boxA (box_new W2 _ _) _, by simpa using box_new (W2.alloc (.cells #[.slice va m vc] 34)) #[.slice qa n qc, .int .i64 bank] 37, rfl, by omega, (hS.blocks LB.size (fun k _ hk => LB.block k hk)).lower (by omega), (hO.blocks LB.size (fun k _ hk => LB.block k hk)).mono (by omega), hm, H2.below LB H2.lt, (C0.trans (LA.mono (by omega))).trans (LB.mono (by omega))⟩
  clear hS hO S2 H2 H1 L1 k0 k1 C0 zz
  go_upto_region 3 with (fail)
  generalize hp : W2.heap.size = p at *
  generalize ((W2.alloc (.cells #[.slice va m vc] 34)).alloc (.cells #[.slice qa n qc, .int .i64 bank] 37)) = W3 at *
  go_wp2_with fail
  refine (l6DrawAddr _ _ _ a len cap D1.cur).mono ?_
  rintro e W4 ⟨x, rfl, H4, S4⟩
  have D2 := D1.step S4 H4
  clear D1 S4 H4
  go_upto_region 4 with (fail)
  have hf := D2.far
  have hp0 : p ≠ w.heap.size := by omega
  have hp1 : p ≠ w.heap.size + 1 := by omega
  have hq0 : p + 1 ≠ w.heap.size := by omega
  have hq1 : p + 1 ≠ w.heap.size + 1 := by omega
  have cb0 := boxC D2.b0
  have cb1 := boxC D2.b1
  have HD := hide D2
  have HC := hide (D2.cur.drewN 1)
  have hm3 := D2.le
  clear D2
  go_region_held3 (fun w' => w'.cell? ⟨p, 0, none⟩ = some (.slice va m vc) ∧ w'.cell? ⟨p + 1, 0, none⟩ = some (.slice qa n qc) ∧ w'.cell? ⟨p + 1, 1, none⟩ = some (.int .i64 bank)) (first | assumption | go_keep) ((go_at_call 41; refine (l1DrawInt _ _ _ a len cap (unhide HC) (by have := (unhide HC).lt; exact this)).mono ?_; rintro e W5 ⟨y, rfl, -, -, H5, S5'⟩; have S5 : Step (w.heap.size + 2) W4 W5 := ⟨S5'.os, S5'.tape, S5'.output, S5'.size, S5'.block⟩; have D5 := (unhide HD).step S5 H5; have c0 := boxC D5.r0; have f0 := boxF D5.r0; have c1 := boxC D5.r1; have f1 := boxF D5.r1; have e0 : W5.cell? ⟨p, 0, none⟩ = some (.slice va m vc) := boxC D5.b0 0; have e0' : (W5.setCell ⟨w.heap.size, 0, none⟩ (.slice va m vc)).cell? ⟨p, 0, none⟩ = some (.slice va m vc) := (World.cell?_setCell_other _ _ _ _ (fun h => hp0 (congrArg Addr.block h).symm)).trans e0; have e0'' : (((W5.setCell ⟨w.heap.size, 0, none⟩ (.slice va m vc)).setCell ⟨w.heap.size + 1, 0, none⟩ (.slice qa n qc)).setCell ⟨w.heap.size + 1, 1, none⟩ (.int .i64 bank)).cell? ⟨p, 0, none⟩ = some (.slice va m vc) := (World.cell?_setCell_other _ _ _ _ (fun h => hp1 (congrArg Addr.block h).symm)).trans ((World.cell?_setCell_other _ _ _ _ (fun h => hp1 (congrArg Addr.block h).symm)).trans e0'); have e1 : W5.cell? ⟨p + 1, 0, none⟩ = some (.slice qa n qc) := boxC D5.b1 0; have e1' : (W5.setCell ⟨w.heap.size, 0, none⟩ (.slice va m vc)).cell? ⟨p + 1, 0, none⟩ = some (.slice qa n qc) := (World.cell?_setCell_other _ _ _ _ (fun h => hq0 (congrArg Addr.block h).symm)).trans e1; have e1'' : (((W5.setCell ⟨w.heap.size, 0, none⟩ (.slice va m vc)).setCell ⟨w.heap.size + 1, 0, none⟩ (.slice qa n qc)).setCell ⟨w.heap.size + 1, 1, none⟩ (.int .i64 bank)).cell? ⟨p + 1, 0, none⟩ = some (.slice qa n qc) := (World.cell?_setCell_other _ _ _ _ (fun h => hq1 (congrArg Addr.block h).symm)).trans ((World.cell?_setCell_other _ _ _ _ (fun h => hq1 (congrArg Addr.block h).symm)).trans e1'); have e2 : W5.cell? ⟨p + 1, 1, none⟩ = some (.int .i64 bank) := boxC D5.b1 1; have e2' : (W5.setCell ⟨w.heap.size, 0, none⟩ (.slice va m vc)).cell? ⟨p + 1, 1, none⟩ = some (.int .i64 bank) := (World.cell?_setCell_other _ _ _ _ (fun h => hq0 (congrArg Addr.block h).symm)).trans e2; have e2'' : (((W5.setCell ⟨w.heap.size, 0, none⟩ (.slice va m vc)).setCell ⟨w.heap.size + 1, 0, none⟩ (.slice qa n qc)).setCell ⟨w.heap.size + 1, 1, none⟩ (.int .i64 bank)).cell? ⟨p + 1, 1, none⟩ = some (.int .i64 bank) := (World.cell?_setCell_other _ _ _ _ (fun h => hq1 (congrArg Addr.block h).symm)).trans ((World.cell?_setCell_other _ _ _ _ (fun h => hq1 (congrArg Addr.block h).symm)).trans e2'); have HD5 := hide D5; clear D5 S5 S5'))
  all_goals
    go_wp2
    refine bodyPost_ret (v := .tuple #[.agg #[.slice va m vc], .agg #[.slice qa n qc, .int .i64 bank], .int .i64 x, .int .i64 y]) (by simp [results, Try.results17, go_sem, c0, c1]) rfl ?_
    exact ⟨_, m, _, _, _, _, _, n, _, _, x, y, rfl, hm3, (unhide HD5).end _ _ _⟩
end Go.Proofs.Ytpaedkefmebjjae
