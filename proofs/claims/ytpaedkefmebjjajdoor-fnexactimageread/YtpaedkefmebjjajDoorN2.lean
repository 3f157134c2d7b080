/-
  The program's ImageRead by its contract.
-/
import Derived.Test.YtpaedkefmebjjajDoorG2
namespace Go.Proofs.YtpaedkefmebjjajDoor
open Go.ChangeShapes Go.WideShapes Go.ChangeAt Go.RowKit
def handleV : Value := .iface 77 (.agg #[.pointer (some ⟨2, 40, none⟩)])
theorem OwnSS.lower {w : World} {lo lo' : Nat} {v : Value} {m : Nat} {ra : Nat → Option Addr} {ln rc : Nat → Nat} {f : Nat → Nat → Int} (h : OwnSS w lo v m ra ln rc f) (hl : lo' ≤ lo) : OwnSS w lo' v m ra ln rc f :=
  ⟨h.sep, h.rows, fun i hi b o hF => Nat.le_trans hl (h.inner i hi b o hF), fun a cap e b o hF => Nat.le_trans hl (h.outer a cap e b o hF), h.len⟩
theorem as_fault (tb : Nat) (c d : Int) (o1 o2 : Value) (w : World) (hg : w.cell? ⟨0, 0, none⟩ = some handleV)
    (t1 : w.cell? ⟨tb, 0, none⟩ = some o1) (t2 : w.cell? ⟨tb, 1, none⟩ = some o2) (f1 : w.frozen? ⟨tb, 0, none⟩ = false) (f2 : w.frozen? ⟨tb, 1, none⟩ = false) :
    Calls Tryd.prog 18 #[.iface 44 (.agg #[.int .i64 c, .int .i64 d]), .iface 46 (.pointer (some ⟨tb, 0, none⟩))] w fun ev w' => ev = .returned (.bool true) ∧ w'.cell? ⟨tb, 0, none⟩ = some (.int .i64 c) ∧ Below tb w w' := by
  have htl : tb < w.heap.size := block_lt_of_cell t1
  refine (as_hit tb c d o1 o2 w hg t1 t2 f1 f2).mono ?_
  rintro e w' ⟨rfl, rfl⟩
  refine ⟨rfl, ?_, ?_⟩
  · rw [World.cell?_setCell_other _ _ _ _ (by intro h; cases h)]
    refine World.cell?_setCell_same _ _ _ (u := o1) ?_
    rw [World.cell?_alloc_lt _ _ ⟨tb, 0, none⟩ (by simp; omega), World.cell?_alloc_lt _ _ ⟨tb, 0, none⟩ (by simp; omega), World.cell?_alloc_lt _ _ ⟨tb, 0, none⟩ (by simp; omega), World.cell?_alloc_lt _ _ ⟨tb, 0, none⟩ htl]
    exact t1
  · exact (((((((Below.refl _ _).alloc (Nat.le_of_lt htl) _).alloc (by simp; omega) _).alloc (by simp; omega) _).alloc (by simp; omega) _).setCell (Nat.le_refl _) _).setCell (Nat.le_refl _) _)
theorem OwnSS.set_low {w : World} {lo b : Nat} {v x : Value} {m : Nat} {ra : Nat → Option Addr} {ln rc : Nat → Nat} {f : Nat → Nat → Int} (h : OwnSS w (b + 1) v m ra ln rc f) (hb : lo ≤ b) : OwnSS (w.setCell ⟨b, 0, none⟩ x) lo v m ra ln rc f :=
  by
  have W : Wrote (fun k _ => k = b) w (w.setCell ⟨b, 0, none⟩ x) := Wrote.setCell (R := fun k _ => k = b) (b := b) (o := 0) (Wrote.refl _ w) (fun _ => rfl) x
  exact (h.keep W (fun k o e => by omega)).lower (by omega)
set_option maxHeartbeats 1000000 in
theorem implImageRead (w : World) (a : Option Addr) (n cap : Nat) (f : Nat → Int) (H : Bytes w a n f) (hcap : n ≤ cap) (hg : w.cell? ⟨0, 0, none⟩ = some handleV) :
    Calls Tryd.prog 7 #[.slice a n cap] w fun e w' => ∃ v ra rc, e = .returned (.tuple #[.agg #[v], .int .i64 (rdC n f)]) ∧ OwnSS w' w.heap.size v (rdM n f) ra (fun _ => 256) rc (rdF f) ∧ Below w.heap.size w w' := by
  have hg0 := block_lt_of_cell hg
  go_enter Tryd.func7, Tryd.ntmps7
  go_wp2_with fail
  have L0 : Below w.heap.size w (w.alloc (.cells #[.slice none 0 0] 25)) := (Below.refl _ _).alloc (Nat.le_refl _) _
  have H0 := H.keep (wrote_below L0 Nowhere) (fun _ _ _ x => x)
  have x0 : (w.alloc (.cells #[.slice none 0 0] 25)).cell? ⟨w.heap.size, 0, none⟩ = some (.slice none 0 0) := by go_simp
  have g0 : (w.alloc (.cells #[.slice none 0 0] 25)).frozen? ⟨w.heap.size, 0, none⟩ = false := by go_simp
  have z0 : w.heap.size < (w.alloc (.cells #[.slice none 0 0] 25)).heap.size := by simp
  have hg1 : (w.alloc (.cells #[.slice none 0 0] 25)).cell? ⟨0, 0, none⟩ = some handleV := (L0.cell hg0).trans hg
  refine (readFile _ _ n cap f H0 hcap).mono ?_
  rintro e w1 ⟨v, d, ra, rc, rfl, O1, L1⟩
  have C1 := L0.trans (L1.mono (Nat.le_of_lt z0))
  have z1 : w.heap.size < w1.heap.size := Nat.lt_of_lt_of_le z0 L1.size
  have x1 : w1.cell? ⟨w.heap.size, 0, none⟩ = some (.slice none 0 0) := (L1.cell z0).trans x0
  have g1 : w1.frozen? ⟨w.heap.size, 0, none⟩ = false := (L1.frozen z0).trans g0
  have hg2 : w1.cell? ⟨0, 0, none⟩ = some handleV := (L1.cell (by show 0 < _; simp)).trans hg1
  have O2 : OwnSS w1 (w.heap.size + 1) v (rdM n f) ra (fun _ => 256) rc (rdF f) := O1.lower (by simp)
  obtain ⟨va, vc, rfl, -, -⟩ := O2.sep.outer
  have HO2 := hide O2
  clear O1 L1 x0 g0 hg1 O2
  have LB : Below w1.heap.size w1 ((w1.alloc (.cells #[.slice va (rdM n f) vc] 25)).alloc (.cells #[.int .i64 0, .int .i64 0] 44)) := ((Below.refl _ _).alloc (Nat.le_refl _) _).alloc (by simp) _
  have xb : ((w1.alloc (.cells #[.slice va (rdM n f) vc] 25)).alloc (.cells #[.int .i64 0, .int .i64 0] 44)).cell? ⟨w.heap.size, 0, none⟩ = some (.slice none 0 0) := (LB.cell z1).trans x1
  have gb : ((w1.alloc (.cells #[.slice va (rdM n f) vc] 25)).alloc (.cells #[.int .i64 0, .int .i64 0] 44)).frozen? ⟨w.heap.size, 0, none⟩ = false := (LB.frozen z1).trans g1
  have hgb : ((w1.alloc (.cells #[.slice va (rdM n f) vc] 25)).alloc (.cells #[.int .i64 0, .int .i64 0] 44)).cell? ⟨0, 0, none⟩ = some handleV := (LB.cell (by show 0 < w1.heap.size; omega)).trans hg2
  have mb : ((w1.alloc (.cells #[.slice va (rdM n f) vc] 25)).alloc (.cells #[.int .i64 0, .int .i64 0] 44)).cell? ⟨w1.heap.size, 0, none⟩ = some (.slice va (rdM n f) vc) := by
    rw [World.cell?_alloc_lt _ _ ⟨w1.heap.size, 0, none⟩ (by simp), World.cell?_alloc_at _ _ _ _ rfl]; rfl
  have t1 : ((w1.alloc (.cells #[.slice va (rdM n f) vc] 25)).alloc (.cells #[.int .i64 0, .int .i64 0] 44)).cell? ⟨w1.heap.size + 1, 0, none⟩ = some (.int .i64 0) := by rw [World.cell?_alloc_at _ _ _ _ (by simp)]; rfl
  have t2 : ((w1.alloc (.cells #[.slice va (rdM n f) vc] 25)).alloc (.cells #[.int .i64 0, .int .i64 0] 44)).cell? ⟨w1.heap.size + 1, 1, none⟩ = some (.int .i64 0) := by rw [World.cell?_alloc_at _ _ _ _ (by simp)]; rfl
  have f1 : ((w1.alloc (.cells #[.slice va (rdM n f) vc] 25)).alloc (.cells #[.int .i64 0, .int .i64 0] 44)).frozen? ⟨w1.heap.size + 1, 0, none⟩ = false := by go_simp
  have f2 : ((w1.alloc (.cells #[.slice va (rdM n f) vc] 25)).alloc (.cells #[.int .i64 0, .int .i64 0] 44)).frozen? ⟨w1.heap.size + 1, 1, none⟩ = false := by go_simp
  by_cases hc : rdC n f = 0
  · rw [errV_no hc]
    have HC := hide hc
    clear hc
    go_wp2_with fail
    refine (as_nil _ _).mono ?_
    rintro e wx ⟨rfl, rfl⟩
    have HO3 := hide ((unhide HO2).keep (wrote_below LB Nowhere) (fun _ _ x => absurd x id))
    have CB := C1.trans (LB.mono (by omega))
    generalize ((w1.alloc (.cells #[.slice va (rdM n f) vc] 25)).alloc (.cells #[.int .i64 0, .int .i64 0] 44)) = wb at *
    go_wp2
    refine bodyPost_ret (v := .tuple #[.agg #[.slice va (rdM n f) vc], .int .i64 0]) (by simp [results, Tryd.results7, go_sem, xb]) rfl ?_
    have hE : Hid (Ending.returned (.tuple #[.agg #[.slice va (rdM n f) vc], .int .i64 0]) = .returned (.tuple #[.agg #[.slice va (rdM n f) vc], .int .i64 (rdC n f)])) := by show _ = _; rw [unhide HC]
    exact ⟨_, ra, rc, hE.out, (unhide HO3).set_low (Nat.le_refl _), CB.setCell (Nat.le_refl _) _⟩
  · rw [errV_yes hc]
    have HM0 : Hid (rdM n f = 0) := by show _ = _; unfold rdM; rw [if_neg hc]
    clear hc
    go_wp2_with fail
    refine (as_fault (w1.heap.size + 1) (rdC n f) d _ _ _ hgb t1 t2 f1 f2).mono ?_
    rintro e w3 ⟨rfl, hcode, L3⟩
    have LC : Below w1.heap.size w1 w3 := LB.trans (L3.mono (by omega))
    have xc : w3.cell? ⟨w.heap.size, 0, none⟩ = some (.slice none 0 0) := (LC.cell z1).trans x1
    have gc : w3.frozen? ⟨w.heap.size, 0, none⟩ = false := (LC.frozen z1).trans g1
    have CB := C1.trans (LC.mono (by omega))
    go_wp2_with fail
    have hne : ¬ (w.heap.size = w1.heap.size + 1) := by omega
    have hcs : (w3.drew.setCell ⟨w.heap.size, 0, none⟩ (.slice none 0 0)).cell? ⟨w1.heap.size + 1, 0, none⟩ = some (.int .i64 (rdC n f)) := (World.cell?_setCell_other _ _ _ _ (by intro h; simp only [Addr.mk.injEq] at h; omega)).trans hcode
    have xs : (w3.drew.setCell ⟨w.heap.size, 0, none⟩ (.slice none 0 0)).cell? ⟨w.heap.size, 0, none⟩ = some (.slice none 0 0) := World.cell?_setCell_same _ _ _ xc
    have CD : Below w.heap.size w (w3.drew.setCell ⟨w.heap.size, 0, none⟩ (.slice none 0 0)) := CB.drew.setCell (Nat.le_refl _) _
    go_region
    all_goals
      go_wp2
      refine bodyPost_ret (v := .tuple #[.agg #[.slice none 0 0], .int .i64 (rdC n f)]) (by simp [results, Tryd.results7, go_sem, xc]) rfl ?_
      have hO : OwnSS (w3.drew.setCell ⟨w.heap.size, 0, none⟩ (.slice none 0 0)) w.heap.size (.slice none 0 0) (rdM n f) ra (fun _ => 256) rc (rdF f) := by rw [HM0.out]; exact OwnSS.nil0 _ _ _ _ _ _
      first
        | exact ⟨_, ra, rc, rfl, hO, CD⟩
        | exact ⟨_, rfl, ⟨_, _, hO⟩, CD⟩
end Go.Proofs.YtpaedkefmebjjajDoor
