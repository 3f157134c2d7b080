/-
  Draws of images, of files, of images and banks, from the bytes of the code.
-/
import Derived.Test.YtpaedkefmebjjadDoorX5
namespace Go.Proofs.YtpaedkefmebjjadDoor
open Go.ChangeShapes Go.WideShapes Go.ChangeAt Go.RowKit
theorem Code.up {w w' : World} {B : Nat} {a : Option Addr} {len : Nat} (H : Code w B a len) (hb : Below B w w') {B' : Nat} (h : B ≤ B') : Code w' B' a len :=
  ⟨H.le, fun i hi => by
    obtain ⟨b, off, ha, hlt, n, hc, h0, h1⟩ := H.at_ i hi
    exact ⟨b, off, ha, by omega, n, (hb.cell (p := ⟨b, off + i, none⟩) hlt).trans hc, h0, h1⟩⟩
theorem OwnSS.box {w : World} {lo lo' b : Nat} {v x : Value} {m : Nat} {ra : Nat → Option Addr} {ln rc : Nat → Nat} {f : Nat → Nat → Int} (h : OwnSS w lo v m ra ln rc f) (hb : b < lo) (hl : lo' ≤ b) : OwnSS (w.setCell ⟨b, 0, none⟩ x) lo' v m ra ln rc f :=
  (h.lower (by omega : b + 1 ≤ lo)).set_low hl
set_option maxRecDepth 20000 in
set_option maxHeartbeats 4000000 in
theorem drawImageBytes (w : World) (a : Option Addr) (len cap : Nat) (H : Code w w.heap.size a len) :
    Calls Tryd.prog 5 #[.slice a len cap] w fun e w' => ∃ v m ra ln rc F, e = .returned (.agg #[v]) ∧ m ≤ 3 ∧ OwnSS w' w.heap.size v m ra ln rc F ∧ Below w.heap.size w w' := by
  have L0 : Below w.heap.size w (w.alloc (.cells #[.slice none 0 0] 26)) := (Below.refl _ _).alloc (Nat.le_refl _) _
  have x0 : (w.alloc (.cells #[.slice none 0 0] 26)).cell? ⟨w.heap.size, 0, none⟩ = some (.slice none 0 0) := by rw [World.cell?_alloc_at _ _ _ _ rfl]; rfl
  have f0 : (w.alloc (.cells #[.slice none 0 0] 26)).frozen? ⟨w.heap.size, 0, none⟩ = false := by go_simp
  have e0 : (w.alloc (.cells #[.slice none 0 0] 26)).heap.size = w.heap.size + 1 := by simp
  go_enter Tryd.func5, Tryd.ntmps5
  go_wp2_with fail
  generalize w.alloc (.cells #[.slice none 0 0] 26) = wa at *
  refine (l1New _ w.heap.size a len cap (by omega) (H.keep L0)).mono ?_
  rintro e w1 ⟨rfl, H1, L1, z1⟩
  rw [e0] at H1 L1 z1
  go_wp2_with fail
  refine (l2Draw _ w.heap.size (w.heap.size + 1) a len cap H1).mono ?_
  rintro e w2 ⟨⟨v, m, ra, ln, rc, F, rfl, hm, hS⟩, H2, S2⟩
  obtain ⟨ov, cv, hv, -, -⟩ := hS.sep.outer
  subst hv
  have L2 : Below (w.heap.size + 1) w1 w2 := S2.below (by omega) (by omega)
  have LA : Below (w.heap.size + 1) wa w2 := L1.trans L2
  have x2 := (LA.cell (p := ⟨w.heap.size, 0, none⟩) (Nat.lt_succ_self _)).trans x0
  have f2 := (LA.frozen (p := ⟨w.heap.size, 0, none⟩) (Nat.lt_succ_self _)).trans f0
  go_wp2
  have xr := World.cell?_setCell_same _ _ (.slice ov m cv) x2
  refine bodyPost_ret (v := .agg #[.slice ov m cv]) (by simp [results, Tryd.results5, go_sem, xr]) rfl ?_
  exact ⟨_, m, _, _, _, _, rfl, hm, hS.box (by omega) (Nat.le_refl _), (L0.trans (LA.mono (Nat.le_succ _))).setCell (Nat.le_refl _) _⟩
set_option maxRecDepth 20000 in
set_option maxHeartbeats 4000000 in
theorem drawBankOf (w : World) (a : Option Addr) (len cap : Nat) (H : Code w w.heap.size a len) :
    Calls Tryd.prog 14 #[.slice a len cap] w fun e w' => ∃ v m ra ln rc F n, e = .returned (.tuple #[.agg #[v], .int .i64 n]) ∧ m ≤ 3 ∧ OwnSS w' w.heap.size v m ra ln rc F ∧ Below w.heap.size w w' := by
  have L0 : Below w.heap.size w (w.alloc (.cells #[.slice none 0 0] 26)) := (Below.refl _ _).alloc (Nat.le_refl _) _
  have x0 : (w.alloc (.cells #[.slice none 0 0] 26)).cell? ⟨w.heap.size, 0, none⟩ = some (.slice none 0 0) := by rw [World.cell?_alloc_at _ _ _ _ rfl]; rfl
  have f0 : (w.alloc (.cells #[.slice none 0 0] 26)).frozen? ⟨w.heap.size, 0, none⟩ = false := by go_simp
  have e0 : (w.alloc (.cells #[.slice none 0 0] 26)).heap.size = w.heap.size + 1 := by simp
  go_enter Tryd.func14, Tryd.ntmps14
  go_wp2_with fail
  generalize w.alloc (.cells #[.slice none 0 0] 26) = wa at *
  refine (l1New _ w.heap.size a len cap (by omega) (H.keep L0)).mono ?_
  rintro e w1 ⟨rfl, H1, L1, z1⟩
  rw [e0] at H1 L1 z1
  go_wp2_with fail
  refine (l2Draw _ w.heap.size (w.heap.size + 1) a len cap H1).mono ?_
  rintro e w2 ⟨⟨v, m, ra, ln, rc, F, rfl, hm, hS⟩, H2, S2⟩
  obtain ⟨ov, cv, hv, -, -⟩ := hS.sep.outer
  subst hv
  have L2 : Below (w.heap.size + 1) w1 w2 := S2.below (by omega) (by omega)
  have LA : Below (w.heap.size + 1) wa w2 := L1.trans L2
  have x2 := (LA.cell (p := ⟨w.heap.size, 0, none⟩) (Nat.lt_succ_self _)).trans x0
  have f2 := (LA.frozen (p := ⟨w.heap.size, 0, none⟩) (Nat.lt_succ_self _)).trans f0
  have hz2 : w.heap.size + 2 ≤ w2.heap.size := by have := S2.size; omega
  have HB := H2.alloc (.cells #[.slice ov m cv] 26) H2.lt
  have AB := hS.blocks (w' := w2.alloc (.cells #[.slice ov m cv] 26)) (by simp) (fun k _ hk => Below.heap_alloc _ _ k hk)
  have LB : Below (w.heap.size + 1) wa (w2.alloc (.cells #[.slice ov m cv] 26)) := LA.alloc (by omega) _
  have xB := (LB.cell (p := ⟨w.heap.size, 0, none⟩) (Nat.lt_succ_self _)).trans x0
  have fB := (LB.frozen (p := ⟨w.heap.size, 0, none⟩) (Nat.lt_succ_self _)).trans f0
  have cB : (w2.alloc (.cells #[.slice ov m cv] 26)).cell? ⟨w2.heap.size, 0, none⟩ = some (.slice ov m cv) := by rw [World.cell?_alloc_at _ _ _ _ rfl]; rfl
  have zB : (w2.alloc (.cells #[.slice ov m cv] 26)).heap.size = w2.heap.size + 1 := by simp
  have hlo : w.heap.size + 1 ≤ w1.heap.size := by omega
  have HAB := hide AB
  clear hS AB x2 f2 LA L2 S2 H2
  go_wp2
  generalize w2.alloc (.cells #[.slice ov m cv] 26) = wb at *
  have hzl := HB.lt
  have HZ := hide (lit_cells wb [0, 1, 2, 7, -1, 255, -9223372036854775808] 3)
  have HAl := hide ((HB.alloc (.cells ([0, 1, 2, 7, -1, 255, -9223372036854775808].map (Value.int .i64)).toArray 3) hzl).drewN 1)
  have hx2l : w2.heap.size < wb.heap.size := by omega
  have hxRl : w.heap.size < wb.heap.size := by omega
  go_region_law (first
    | (refine step_call rfl 28 #[.pointer (some ⟨w.heap.size + 1, 0, none⟩), .slice (some ⟨wb.heap.size, 0, none⟩) 7 7] (by go_simp) ((l1PickInt _ w.heap.size (w.heap.size + 1) a len cap (unhide HAl) wb.heap.size 7 (by omega) (by omega) (by omega) (ix [0, 1, 2, 7, -1, 255, -9223372036854775808]) (unhide HZ)).mono ?_)
       rintro e w3 ⟨j0, rfl, hj0, H3, O3⟩
       have hb3 : ∀ k, k < wb.heap.size → k ≠ w.heap.size + 1 → w3.heap[k]? = wb.heap[k]? := fun k hk hne => (O3.block k hne).trans (Below.heap_alloc _ _ k hk)
       have hz3 : w3.heap.size = wb.heap.size + 1 := O3.size.trans (by show (wb.alloc _).heap.size = _; simp)
       have cB3 : w3.cell? ⟨w2.heap.size, 0, none⟩ = some (.slice ov m cv) := (World.cell?_of_block (a := ⟨w2.heap.size, 0, none⟩) (hb3 w2.heap.size (by omega) (by omega))).trans cB
       have x3 : w3.cell? ⟨w.heap.size, 0, none⟩ = some (.slice none 0 0) := (World.cell?_of_block (a := ⟨w.heap.size, 0, none⟩) (hb3 w.heap.size (by omega) (by omega))).trans xB
       have f3 : w3.frozen? ⟨w.heap.size, 0, none⟩ = false := (World.frozen?_of_block (a := ⟨w.heap.size, 0, none⟩) (hb3 w.heap.size (by omega) (by omega))).trans fB
       have L3 : Below w.heap.size wb w3 := ⟨O3.os, O3.tape, O3.output, by omega, fun k hk => hb3 k (by omega) (by omega)⟩
       have HL3 := hide L3
       have Hb3 := hide hb3
       clear O3 H3 L3 hb3
       refine ⟨_, rfl, ?_⟩))
  all_goals
    have xr := World.cell?_setCell_same _ _ (.slice ov m cv) x3
    go_wp2
    refine bodyPost_ret (v := .tuple #[.agg #[.slice ov m cv], .int .i64 (ix [0, 1, 2, 7, -1, 255, -9223372036854775808] j0)]) (by simp [results, Tryd.results14, go_sem, xr]) rfl ?_
    exact ⟨_, m, _, _, _, _, _, rfl, hm, ((unhide HAB).blocks (w' := w3) (by omega) (fun k hk hk' => unhide Hb3 k hk' (by omega))).box (by omega) (Nat.le_refl _), ((L0.trans (LB.mono (Nat.le_succ _))).trans (unhide HL3)).setCell (Nat.le_refl _) _⟩
end Go.Proofs.YtpaedkefmebjjadDoor
