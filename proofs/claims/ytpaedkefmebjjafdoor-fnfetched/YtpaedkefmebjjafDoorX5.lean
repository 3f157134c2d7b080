/-
  Draws of images that may be none; of files; of images and banks.
-/
import Derived.Test.YtpaedkefmebjjafDoorX4
namespace Go.Proofs.YtpaedkefmebjjafDoor
open Go.ChangeShapes Go.WideShapes Go.ChangeAt Go.RowKit
theorem OwnSS.third {w : World} {lo : Nat} {v : Value} {m b off : Nat} {ra : Nat → Option Addr} {rc : Nat → Nat} {F : Nat → Nat → Int} (h : OwnSS w lo v m ra (fun _ => 256) rc F) (hm : 0 < m) (ha : ra 0 = some ⟨b, off, none⟩) (x : Int) :
    ∃ y, w.cell? ⟨b, off + 3, none⟩ = some (.int .i64 y) ∧ w.frozen? ⟨b, off + 3, none⟩ = false ∧ OwnSS (w.setCell ⟨b, off + 3, none⟩ (.int .i64 x)) lo v m ra (fun _ => 256) rc (fun p q => if p = 0 ∧ q = 3 then x else F p q) := by
  obtain ⟨b', off', ha', hc⟩ := h.rows 0 hm 3 (by decide)
  rw [ha] at ha'
  simp only [Option.some.injEq, Addr.mk.injEq, and_true] at ha'
  obtain ⟨rfl, rfl⟩ := ha'
  exact ⟨_, hc, (h.sep.free 0 hm b (off + 3) (by rw [ha]; exact foot_at (by decide))).2, h.setInner 0 3 b off hm (by decide) ha x⟩
theorem drawEnd {w W : World} {B c : Nat} {a : Option Addr} {len cap : Nat} {v : Value} {m : Nat} {ra : Nat → Option Addr} {ln rc : Nat → Nat} {F : Nat → Nat → Int} (hcl : c < w.heap.size) (hm : m ≤ 3) (A : OwnSS W (w.heap.size + 1) v m ra ln rc F) (H : Cur W B c a len cap) (S : Step c w W) :
    (∃ v' m ra ln rc F, Ending.returned (.agg #[v]) = .returned (.agg #[v']) ∧ m ≤ 3 ∧ OwnSS (W.setCell ⟨w.heap.size, 0, none⟩ v) w.heap.size v' m ra ln rc F) ∧ Cur (W.setCell ⟨w.heap.size, 0, none⟩ v) B c a len cap ∧ Step c w (W.setCell ⟨w.heap.size, 0, none⟩ v) := by
  have hbel : Below w.heap.size W (W.setCell ⟨w.heap.size, 0, none⟩ v) := (Below.refl w.heap.size W).setCell (p := ⟨w.heap.size, 0, none⟩) (Nat.le_refl _) _
  exact ⟨⟨_, m, _, _, _, _, rfl, hm, A.set_low (Nat.le_refl _)⟩, H.below hbel hcl, S.low hbel⟩
theorem drawEndD {w W : World} {B c : Nat} {a : Option Addr} {len cap : Nat} {v : Value} {m : Nat} {ra : Nat → Option Addr} {ln rc : Nat → Nat} {F : Nat → Nat → Int} (hcl : c < w.heap.size) (hm : m ≤ 3) (A : OwnSS W (w.heap.size + 1) v m ra ln rc F) (H : Cur W B c a len cap) (S : Step c w W) :
    (∃ v' m ra ln rc F, Ending.returned (.agg #[v]) = .returned (.agg #[v']) ∧ m ≤ 3 ∧ OwnSS (W.setCell ⟨w.heap.size, 0, none⟩ v).drew w.heap.size v' m ra ln rc F) ∧ Cur (W.setCell ⟨w.heap.size, 0, none⟩ v).drew B c a len cap ∧ Step c w (W.setCell ⟨w.heap.size, 0, none⟩ v).drew := by
  obtain ⟨⟨v', m', ra', ln', rc', F', e, h1, h2⟩, h3, h4⟩ := drawEnd hcl hm A H S
  exact ⟨⟨v', m', ra', ln', rc', F', e, h1, h2.blocks (Nat.le_refl _) (fun _ _ _ => rfl)⟩, h3.drewN 1, h4.drewN 1⟩
set_option maxRecDepth 20000 in
set_option maxHeartbeats 4000000 in
theorem l2Draw (w : World) (B c : Nat) (a : Option Addr) (len cap : Nat) (H : Cur w B c a len cap) :
    Calls Tryd.prog 39 #[.pointer (some ⟨c, 0, none⟩)] w fun e w' => (∃ v m ra ln rc F, e = .returned (.agg #[v]) ∧ m ≤ 3 ∧ OwnSS w' w.heap.size v m ra ln rc F) ∧ Cur w' B c a len cap ∧ Step c w w' := by
  have hcl := H.lt
  go_enter Tryd.func39, Tryd.ntmps39
  go_wp2_with fail
  refine (l2DrawRight _ B c a len cap (H.alloc _ hcl)).mono ?_
  rintro e w1 ⟨⟨v, m, ra, rc, F, rfl, hm1, hm3, hS, hO, -⟩, H1, S1⟩
  have S0 : Step c w w1 := ((Step.refl c w).alloc _).trans S1
  have zz : w.heap.size + 1 ≤ w1.heap.size := by have := S1.size; simpa using this
  have xR : w1.cell? ⟨w.heap.size, 0, none⟩ = some (.slice none 0 0) := (World.cell?_of_block (a := ⟨w.heap.size, 0, none⟩) (S1.block w.heap.size (by simp) (by omega))).trans (by rw [World.cell?_alloc_at _ _ _ _ rfl]; rfl)
  have fR : w1.frozen? ⟨w.heap.size, 0, none⟩ = false := (World.frozen?_of_block (a := ⟨w.heap.size, 0, none⟩) (S1.block w.heap.size (by simp) (by omega))).trans (by go_simp)
  have e2 : (w.alloc (.cells #[.slice none 0 0] 26)).heap.size = w.heap.size + 1 := by simp
  rw [e2] at hS
  clear S1 e2
  obtain ⟨ov, cv, hv, hmz, hov⟩ := hS.sep.outer
  obtain ⟨go, oo, rfl, hg0, -⟩ := hov 0 (by omega)
  subst hv
  obtain ⟨b, off, ha, hc3⟩ := hS.rows 0 (by omega) 3 (by decide)
  rw [ha] at hg0
  have A1 := hS.blocks (w' := w1.alloc (.cells #[.slice (some ⟨go, oo, none⟩) m cv] 26)) (by simp) (fun k _ hk => Below.heap_alloc _ _ k hk)
  have hgl := block_lt_of_cell hg0
  have hbl := block_lt_of_cell hc3
  have H1a := H1.alloc (.cells #[.slice (some ⟨go, oo, none⟩) m cv] 26) H1.lt
  have S1a := S0.alloc (.cells #[.slice (some ⟨go, oo, none⟩) m cv] 26)
  have cx : (w1.alloc (.cells #[.slice (some ⟨go, oo, none⟩) m cv] 26)).cell? ⟨w1.heap.size, 0, none⟩ = some (.slice (some ⟨go, oo, none⟩) m cv) := by rw [World.cell?_alloc_at _ _ _ _ rfl]; rfl
  have fx : (w1.alloc (.cells #[.slice (some ⟨go, oo, none⟩) m cv] 26)).frozen? ⟨w1.heap.size, 0, none⟩ = false := by go_simp
  have xR1 : (w1.alloc (.cells #[.slice (some ⟨go, oo, none⟩) m cv] 26)).cell? ⟨w.heap.size, 0, none⟩ = some (.slice none 0 0) := by rw [World.cell?_alloc_lt _ _ ⟨w.heap.size, 0, none⟩ (by show w.heap.size < _; omega)]; exact xR
  have fR1 : (w1.alloc (.cells #[.slice (some ⟨go, oo, none⟩) m cv] 26)).frozen? ⟨w.heap.size, 0, none⟩ = false := by rw [World.frozen?_alloc_old _ _ _ (by show ¬ w.heap.size = w1.heap.size; omega)]; exact fR
  have O1 : OutFree (w1.alloc (.cells #[.slice (some ⟨go, oo, none⟩) m cv] 26)) (.slice (some ⟨go, oo, none⟩) m cv) m := hO.keep (wrote_below ((Below.refl _ _).alloc (Nat.le_refl _) _) Nowhere)
  have hz1 : (w1.alloc (.cells #[.slice (some ⟨go, oo, none⟩) m cv] 26)).heap.size = w1.heap.size + 1 := by simp
  clear hov
  go_wp2_with fail
  generalize w1.alloc (.cells #[.slice (some ⟨go, oo, none⟩) m cv] 26) = wa at *
  refine (l1Below _ B c a len cap H1a 15).mono ?_
  rintro e w2 ⟨x, rfl, x0, x1, H2, O2⟩
  have hc1 := H1.lt
  have hzw : w2.heap.size = w1.heap.size + 1 := O2.size.trans hz1
  have hgo : w.heap.size + 1 ≤ go := hS.outer _ _ rfl go oo ⟨oo, rfl, Nat.le_refl _, by omega⟩
  have hbo : w.heap.size + 1 ≤ b := hS.inner 0 (by omega) b off (by rw [ha]; exact ⟨off, rfl, Nat.le_refl _, by omega⟩)
  have A2 := A1.blocks (w' := w2) (Nat.le_of_eq O2.size.symm) (fun k hk _ => O2.block k (by omega))
  have cx2 : w2.cell? ⟨w1.heap.size, 0, none⟩ = some (.slice (some ⟨go, oo, none⟩) m cv) := (O2.cell (by show w1.heap.size ≠ c; omega)).trans cx
  have fx2 : w2.frozen? ⟨w1.heap.size, 0, none⟩ = false := (O2.frozen (by show w1.heap.size ≠ c; omega)).trans fx
  have xR2 : w2.cell? ⟨w.heap.size, 0, none⟩ = some (.slice none 0 0) := (O2.cell (by show w.heap.size ≠ c; omega)).trans xR1
  have fR2 : w2.frozen? ⟨w.heap.size, 0, none⟩ = false := (O2.frozen (by show w.heap.size ≠ c; omega)).trans fR1
  have S2 := S1a.trans O2.step
  have fg2 : w2.frozen? ⟨go, oo, none⟩ = false := (O2.frozen (by show go ≠ c; omega)).trans (O1 _ _ rfl go oo ⟨oo, rfl, Nat.le_refl _, by omega⟩).2
  have hg2 : w2.cell? ⟨go, oo, none⟩ = some (.slice (some ⟨b, off, none⟩) 256 (rc 0)) := by
    obtain ⟨a2, cap2, e2, _, ho⟩ := A2.sep.outer
    obtain ⟨b3, off3, e3, hc3, hn3⟩ := ho 0 (by omega)
    simp only [Value.slice.injEq] at e2
    obtain ⟨e2, _, _⟩ := e2
    rw [← e2] at e3
    simp only [Option.some.injEq, Addr.mk.injEq, and_true] at e3
    obtain ⟨rfl, rfl⟩ := e3
    rw [← ha]
    simpa using hc3
  have hm0 : (0 : Int) < (m : Int) := by omega
  clear cx fx xR1 fR1 S1a O1 A1 H1a xR fR hS hO hc3 hg0 hz1
  have HA2 := hide A2
  have HS2 := hide S2
  have HH2 := hide H2
  clear A2 S2 H2 H1 S0 O2
  have zw : w.heap.size < w1.heap.size := by omega
  have hm00 : 0 < m := by omega
  have hgl2 : go < w2.heap.size := by omega
  have hxl2 : w1.heap.size < w2.heap.size := by omega
  by_cases e0 : x = 0
  · subst e0
    obtain ⟨d, hd, hif⟩ : ∃ d : Nat, d ≤ 1 ∧ (if rc 0 = 1 then some (⟨b, off, none⟩ : Addr) else some ⟨b, off + 1, none⟩) = some ⟨b, off + d, none⟩ := by
      by_cases h : rc 0 = 1
      · exact ⟨0, by omega, if_pos h⟩
      · exact ⟨1, by omega, if_neg h⟩
    obtain ⟨ra', ln', rc', F', A3⟩ := (unhide HA2).cutFirst (by omega) ha d hd (rc 0 - 1)
    have hgx : go ≠ w1.heap.size := by omega
    have hgR : go ≠ w.heap.size := by omega
    have bel : Below (w.heap.size + 1) w2 (w2.setCell ⟨go, oo, none⟩ (.slice (some ⟨b, off + d, none⟩) 255 (rc 0 - 1))) := (Below.refl (w.heap.size + 1) w2).setCell (p := ⟨go, oo, none⟩) hgo _
    have cx3 : (w2.setCell ⟨go, oo, none⟩ (.slice (some ⟨b, off + d, none⟩) 255 (rc 0 - 1))).cell? ⟨w1.heap.size, 0, none⟩ = some (.slice (some ⟨go, oo, none⟩) m cv) := (World.cell?_setCell_other _ _ _ _ (by intro h; simp only [Addr.mk.injEq] at h; omega)).trans cx2
    have cR3 := (bel.cell (p := ⟨w.heap.size, 0, none⟩) (Nat.lt_succ_self _)).trans xR2
    have fR3 := (bel.frozen (p := ⟨w.heap.size, 0, none⟩) (Nat.lt_succ_self _)).trans fR2
    go_wp2
    go_region
    have H3 := (unhide HH2).below bel (by omega)
    have S3 := (unhide HS2).low (bel.mono (Nat.le_succ _))
    generalize w2.setCell ⟨go, oo, none⟩ (.slice (some ⟨b, off + d, none⟩) 255 (rc 0 - 1)) = w3 at *
    go_wp2
    have xr := World.cell?_setCell_same _ _ (.slice (some ⟨go, oo, none⟩) m cv) cR3
    refine bodyPost_ret (v := .agg #[.slice (some ⟨go, oo, none⟩) m cv]) (by simp [results, Tryd.results39, go_sem, xr]) rfl ?_
    exact drawEndD hcl hm3 A3 H3 S3
  · by_cases e1 : x = 1
    · subst e1
      have hzl := (unhide HH2).lt
      have HZ := hide (lit_cells w2 [-1, 256] 3)
      have HA := hide (((unhide HH2).alloc (.cells ([-1, 256].map (Value.int .i64)).toArray 3) hzl).drewN 1)
      have cxa : (w2.alloc (.cells #[.int .i64 (-1), .int .i64 256] 3)).cell? ⟨w1.heap.size, 0, none⟩ = some (.slice (some ⟨go, oo, none⟩) m cv) := (World.cell?_alloc_past _ _ _ (by omega)).trans cx2
      go_wp2
      go_region_law (first
        | (refine step_call rfl 32 #[.pointer (some ⟨c, 0, none⟩), .slice (some ⟨w2.heap.size, 0, none⟩) 2 2] (by go_simp) ((l1PickInt _ B c a len cap (unhide HA) w2.heap.size 2 (by omega) (by omega) (by omega) (ix [-1, 256]) (unhide HZ)).mono ?_)
           rintro e w3 ⟨j0, rfl, hj0, H3, O3⟩
           have hb3 : ∀ k, k < w2.heap.size → k ≠ c → w3.heap[k]? = w2.heap[k]? := fun k hk hne => (O3.block k hne).trans (Below.heap_alloc _ _ k hk)
           have hz3 : w3.heap.size = w2.heap.size + 1 := O3.size.trans (by show (w2.alloc _).heap.size = _; simp)
           have A3 := (unhide HA2).blocks (w' := w3) (by omega) (fun k hk hk' => hb3 k hk' (by omega))
           obtain ⟨y, c3, f3, A4⟩ := A3.third hm00 ha (ix [-1, 256] j0)
           have HA4 := hide A4
           have cx3 : w3.cell? ⟨w1.heap.size, 0, none⟩ = some (.slice (some ⟨go, oo, none⟩) m cv) := (World.cell?_of_block (a := ⟨w1.heap.size, 0, none⟩) (hb3 w1.heap.size (by omega) (by omega))).trans cx2
           have hg3 : w3.cell? ⟨go, oo, none⟩ = some (.slice (some ⟨b, off, none⟩) 256 (rc 0)) := (World.cell?_of_block (a := ⟨go, oo, none⟩) (hb3 go (by omega) (by omega))).trans hg2
           have cR3 : w3.cell? ⟨w.heap.size, 0, none⟩ = some (.slice none 0 0) := (World.cell?_of_block (a := ⟨w.heap.size, 0, none⟩) (hb3 w.heap.size (by omega) (by omega))).trans xR2
           have fR3 : w3.frozen? ⟨w.heap.size, 0, none⟩ = false := (World.frozen?_of_block (a := ⟨w.heap.size, 0, none⟩) (hb3 w.heap.size (by omega) (by omega))).trans fR2
           have S3 : Step c w w3 := (((unhide HS2).alloc _).drewN 1).trans O3.step
           have bel : Below (w.heap.size + 1) w3 (w3.setCell ⟨b, off + 3, none⟩ (.int .i64 (ix [-1, 256] j0))) := (Below.refl (w.heap.size + 1) w3).setCell (p := ⟨b, off + 3, none⟩) hbo _
           have HBL := hide bel
           have HS3 := hide S3
           have HH3 := hide H3
           clear A3 A4 O3 bel S3 H3
           refine ⟨_, rfl, ?_⟩))
      all_goals
        have cR4 := ((unhide HBL).cell (p := ⟨w.heap.size, 0, none⟩) (Nat.lt_succ_self _)).trans cR3
        have fR4 := ((unhide HBL).frozen (p := ⟨w.heap.size, 0, none⟩) (Nat.lt_succ_self _)).trans fR3
        have hbx : b ≠ w1.heap.size := by omega
        have cx4 : (w3.setCell ⟨b, off + 3, none⟩ (.int .i64 (ix [-1, 256] j0))).cell? ⟨w1.heap.size, 0, none⟩ = some (.slice (some ⟨go, oo, none⟩) m cv) := (World.cell?_setCell_other _ _ _ _ (by intro h; simp only [Addr.mk.injEq] at h; omega)).trans cx3
        have H4 := (unhide HH3).below (unhide HBL) (by omega)
        have S4 := (unhide HS3).low ((unhide HBL).mono (Nat.le_succ _))
        have A4 := unhide HA4
        clear HBL HA4 c3 f3
        generalize w3.setCell ⟨b, off + 3, none⟩ (.int .i64 (ix [-1, 256] j0)) = w4 at *
        go_wp2
        have xr := World.cell?_setCell_same _ _ (.slice (some ⟨go, oo, none⟩) m cv) cR4
        refine bodyPost_ret (v := .agg #[.slice (some ⟨go, oo, none⟩) m cv]) (by simp [results, Tryd.results39, go_sem, xr]) rfl ?_
        exact drawEnd hcl hm3 A4 H4 S4
    · by_cases e2 : x = 2
      · subst e2
        have bel : Below (w.heap.size + 1) w2 (w2.setCell ⟨w1.heap.size, 0, none⟩ (.slice none 0 0)) := (Below.refl (w.heap.size + 1) w2).setCell (p := ⟨w1.heap.size, 0, none⟩) (by show _ ≤ w1.heap.size; omega) _
        have cR3 := (bel.cell (p := ⟨w.heap.size, 0, none⟩) (Nat.lt_succ_self _)).trans xR2
        go_wp2
        have xr := World.cell?_setCell_same _ _ (.slice none 0 0) cR3
        refine bodyPost_ret (v := .agg #[.slice none 0 0]) (by simp [results, Tryd.results39, go_sem, xr]) rfl ?_
        exact drawEnd hcl (Nat.zero_le _) (OwnSS.nil0 _ _ (fun _ => none) (fun _ => 0) (fun _ => 0) (fun _ _ => 0)) ((unhide HH2).below bel (by omega)) ((unhide HS2).low (bel.mono (Nat.le_succ _)))
      · go_wp2
        all_goals first | (exfalso; omega) | skip
        have xr := World.cell?_setCell_same _ _ (.slice (some ⟨go, oo, none⟩) m cv) xR2
        refine bodyPost_ret (v := .agg #[.slice (some ⟨go, oo, none⟩) m cv]) (by simp [results, Tryd.results39, go_sem, xr]) rfl ?_
        exact drawEnd hcl hm3 (unhide HA2) (unhide HH2) (unhide HS2)
end Go.Proofs.YtpaedkefmebjjafDoor
