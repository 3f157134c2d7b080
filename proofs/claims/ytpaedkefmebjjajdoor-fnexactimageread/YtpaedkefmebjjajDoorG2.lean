/-
  The program's ImageRead: a file that is an image's is read, others lead to the first fault.
-/
import Derived.Test.YtpaedkefmebjjajDoorF2
namespace Go.Proofs.YtpaedkefmebjjajDoor
open Go.ChangeShapes Go.WideShapes Go.ChangeAt Go.RowKit
def body (f : Nat → Int) (j : Nat) : Int := f (6 + j)
def sumC (n : Nat) (f : Nat → Int) : Int := if isum (body f) (n - 6) % 256 = f 5 then 0 else 5
def rdC (n : Nat) (f : Nat → Int) : Int := if headC n f = 0 then (if sizeC n (f 4) = 0 then sumC n f else sizeC n (f 4)) else headC n f
def rdM (n : Nat) (f : Nat → Int) : Nat := if rdC n f = 0 then (f 4).toNat else 0
def rdF (f : Nat → Int) (i j : Nat) : Int := f (6 + 256 * i + j)
theorem sizeC_zero {n : Nat} {c : Int} (h : sizeC n c = 0) : 1 ≤ c ∧ c ≤ 8 ∧ (n : Int) = 6 + c * 256 := by
  unfold sizeC at h
  split at h
  · cases h
  · split at h
    · cases h
    · split at h
      · cases h
      · omega
structure OwnSS (w : World) (lo : Nat) (v : Value) (m : Nat) (ra : Nat → Option Addr) (ln rc : Nat → Nat) (f : Nat → Nat → Int) : Prop where
  sep : Sep w v m ra ln rc
  rows : ∀ i, i < m → RowOf .i64 w (ra i) (ln i) (f i)
  inner : ∀ i, i < m → ∀ b o, Foot (ra i) (ln i) b o → lo ≤ b
  outer : ∀ a cap, v = .slice a m cap → ∀ b o, Foot a m b o → lo ≤ b
  len : ∀ i, i < m → ln i ≤ 1048576
theorem OwnSS.keep {w w' : World} {lo : Nat} {v : Value} {m : Nat} {ra : Nat → Option Addr} {ln rc : Nat → Nat} {f : Nat → Nat → Int} {R : Nat → Nat → Prop} (h : OwnSS w lo v m ra ln rc f) (hw : Wrote R w w') (hd : ∀ b o, R b o → b < lo) : OwnSS w' lo v m ra ln rc f := by
  obtain ⟨⟨⟨a, cap, hv, hm, ho⟩, hf, hdj, hs⟩, hr, hi, hou, hl⟩ := h
  refine ⟨⟨⟨a, cap, hv, hm, fun i hi' => ?_⟩, fun i hi' => (hf i hi').keep hw, hdj, hs⟩, fun i hi' => (hr i hi').keep hw (fun b o hF hR => ?_), hi, hou, hl⟩
  · obtain ⟨b, off, ha, hc, hn⟩ := ho i hi'
    refine ⟨b, off, ha, ?_, hn⟩
    rw [hw.cell b (off + i) (block_lt_of_cell hc) (fun hR => by have := hd _ _ hR; have := hou a cap hv b (off + i) (by rw [ha]; exact foot_at hi'); omega)]
    exact hc
  · have := hd _ _ hR
    have := hi i hi' b o hF
    omega
theorem OwnSS.ints {w : World} {lo : Nat} {v : Value} {m : Nat} {ra : Nat → Option Addr} {ln rc : Nat → Nat} {f : Nat → Nat → Int} (h : OwnSS w lo v m ra ln rc f) : IntSS .i64 w (fun b _ => lo ≤ b) v m ln f := by
  obtain ⟨⟨⟨a, cap, hv, hm, ho⟩, hf, hdj, hs⟩, hr, hi, hou, hl⟩ := h
  refine ⟨a, cap, hv, hm, fun b o hF => hou a cap hv b o hF, fun i hi' => ?_⟩
  obtain ⟨b, off, ha, hc, hn⟩ := ho i hi'
  exact ⟨b, off, _, ha, hc, ra i, rc i, rfl, hl i hi', hr i hi', fun b o hF => hi i hi' b o hF⟩
theorem OwnSS.nil0 (w : World) (lo : Nat) (ra : Nat → Option Addr) (ln rc : Nat → Nat) (f : Nat → Nat → Int) : OwnSS w lo (.slice none 0 0) 0 ra ln rc f :=
  ⟨⟨⟨_, _, rfl, by omega, fun i hi => absurd hi (Nat.not_lt_zero _)⟩, fun i hi => absurd hi (Nat.not_lt_zero _), fun i j hi => absurd hi (Nat.not_lt_zero _), by simp [psum]⟩, fun i hi => absurd hi (Nat.not_lt_zero _), fun i hi => absurd hi (Nat.not_lt_zero _), fun a cap h b o hF => absurd hF (foot_none _ _ _), fun i hi => absurd hi (Nat.not_lt_zero _)⟩
theorem Bytes.keep {w w' : World} {R : Nat → Nat → Prop} {a : Option Addr} {n : Nat} {f : Nat → Int} (h : Bytes w a n f) (hw : Wrote R w w') (hd : ∀ b o, Foot a n b o → ¬ R b o) : Bytes w' a n f := ⟨h.row.keep hw hd, h.len, h.byte⟩
theorem below_drewN (w : World) (d : Nat) : Below w.heap.size w (w.drewN d) := ⟨rfl, rfl, rfl, Nat.le_refl _, fun _ _ => rfl⟩
theorem quiet_same {P : Program} {f : FuncId} {args : Array Value} {w : World} {n : Nat} {v : Value} (h : Calls P f args (w.drewN n) fun e w' => e = .returned v ∧ w' = w.drewN n) : Calls P f args (w.drewN n) fun e w'' => e = .returned v ∧ ∃ m, w'' = w.drewN m :=
  h.mono fun _ _ ⟨he, hw⟩ => ⟨he, n, hw⟩
theorem RowOf.tail {k : IntKind} {w : World} {b off n : Nat} {f : Nat → Int} (h : RowOf k w (some ⟨b, off, none⟩) n f) (q m : Nat) (hq : q + m ≤ n) : RowOf k w (some ⟨b, off + q, none⟩) m (fun j => f (q + j)) := fun i hi => by
  obtain ⟨b', off', e, hc⟩ := h (q + i) (by omega)
  simp only [Option.some.injEq, Addr.mk.injEq, and_true] at e
  obtain ⟨rfl, rfl⟩ := e
  exact ⟨b, off + q, rfl, by rw [Nat.add_assoc]; exact hc⟩
theorem numbersOf_at (w : World) (g : Nat) (hg : w.heap.size = g) (a : Option Addr) (n cap : Nat) (f : Nat → Int) (H : RowOf .u8 w a n f) (hn : n ≤ 1048576) (hb : ∀ i, i < n → 0 ≤ f i ∧ f i ≤ 255) :
    Calls Tryd.prog 27 #[.slice a n cap] w fun e w' => e = .returned (.slice (some ⟨g, 0, none⟩) n n) ∧ w'.rowIs g 3 n (fun i => .int .i64 (f i)) ∧ w'.heap.size = g + 1 ∧ Below g w w' := by
  subst hg
  exact numbersOf w a n cap f H hn hb
theorem step_if3 (G k j : Nat) : (if j = k then Value.slice (some ⟨G + 2 + k, 0, none⟩) 256 256 else (if j < k then .slice (some ⟨G + 2 + j, 0, none⟩) 256 256 else .slice none 0 0)) = if j < k + 1 then .slice (some ⟨G + 2 + j, 0, none⟩) 256 256 else .slice none 0 0 := by
  by_cases h : j = k
  · subst h; simp
  · by_cases h2 : j < k
    · rw [if_neg h, if_pos h2, if_pos (by omega)]
    · rw [if_neg h, if_neg h2, if_neg (by omega)]
theorem psum_256 (k : Nat) : psum (fun _ => 256) k = 256 * k := by
  induction k with
  | zero => rfl
  | succ k ih => simp only [psum, ih]; omega
theorem own_two {w : World} {lo G m : Nat} {t : TypeId} {f : Nat → Nat → Int} (h : w.rowIs G t m (fun j => if j < m then .slice (some ⟨G + 2 + j, 0, none⟩) 256 256 else .slice none 0 0)) (hi : ∀ i, i < m → w.rowIs (G + 2 + i) 3 256 (fun j => .int .i64 (f i j))) (hlo : lo ≤ G) (hm : m ≤ 8) :
    OwnSS w lo (.slice (some ⟨G, 0, none⟩) m m) m (fun i => some ⟨G + 2 + i, 0, none⟩) (fun _ => 256) (fun _ => 256) f := by
  have hF : ∀ i b o, Foot (some ⟨G + 2 + i, 0, none⟩) 256 b o → b = G + 2 + i := fun i b o hF => by
    obtain ⟨off, e, _⟩ := hF
    simp only [Option.some.injEq, Addr.mk.injEq, and_true] at e
    exact e.1.symm
  refine ⟨⟨⟨_, _, rfl, by omega, fun i hi' => ⟨G, 0, rfl, ?_, fun j hj hf => ?_⟩⟩, fun i hi' b o hf => ?_, fun i j hi' hj hij b o h1 h2 => ?_, by rw [psum_256]; omega⟩, fun i hi' j hj => ⟨_, _, rfl, by rw [Nat.zero_add]; exact (hi i hi').cell hj⟩, fun i hi' b o hf => ?_, fun a cap e b o hf => ?_, fun i hi' => by omega⟩
  · rw [Nat.zero_add, h.cell hi', if_pos hi']
  · have := hF j _ _ hf
    omega
  · have e := hF i _ _ hf
    subst e
    exact ⟨(hi i hi').lt, (hi i hi').frozen o⟩
  · have := hF i _ _ h1
    have := hF j _ _ h2
    omega
  · have := hF i _ _ hf
    omega
  · cases e
    obtain ⟨off, e, _⟩ := hf
    simp only [Option.some.injEq, Addr.mk.injEq, and_true] at e
    omega
set_option maxHeartbeats 1000000 in
theorem readFile (w : World) (a : Option Addr) (n cap : Nat) (f : Nat → Int) (H : Bytes w a n f) (hcap : n ≤ cap) :
    Calls Tryd.prog 17 #[.slice a n cap] w fun e w' => ∃ v d ra rc, e = .returned (.tuple #[.agg #[v], errV (rdC n f) d]) ∧ OwnSS w' w.heap.size v (rdM n f) ra (fun _ => 256) rc (rdF f) ∧ Below w.heap.size w w' := by
  have L0 : Below w.heap.size w (w.alloc (.cells #[.slice none 0 0] 25)) := (Below.refl _ _).alloc (Nat.le_refl _) _
  have H0 := H.keep (wrote_below L0 Nowhere) (fun _ _ _ x => x)
  have x0 : (w.alloc (.cells #[.slice none 0 0] 25)).cell? ⟨w.heap.size, 0, none⟩ = some (.slice none 0 0) := by go_simp
  have g0 : (w.alloc (.cells #[.slice none 0 0] 25)).frozen? ⟨w.heap.size, 0, none⟩ = false := by go_simp
  have z0 : w.heap.size < (w.alloc (.cells #[.slice none 0 0] 25)).heap.size := by simp
  by_cases hh : headC n f = 0
  · have hn6 : 6 ≤ n := by
      unfold headC headB at hh
      by_cases h6 : 6 ≤ n
      · exact h6
      · simp [h6] at hh
    have hr4 : rdC n f = if sizeC n (f 4) = 0 then sumC n f else sizeC n (f 4) := by unfold rdC; rw [if_pos hh]
    obtain ⟨b, off, rfl, hc4⟩ := H0.row 4 (by omega)
    obtain ⟨h40, h41⟩ := H.byte 4 (by omega)
    by_cases hz : sizeC n (f 4) = 0
    · obtain ⟨hm1, hm8, hnm⟩ := sizeC_zero hz
      rw [if_pos hz] at hr4
      go_enter Tryd.func17, Tryd.ntmps17
      go_wp2_with fail
      refine (checkHead _ _ n cap f H0).mono ?_
      rintro e w1 ⟨⟨d1, rfl⟩, dd, hw1⟩
      have LD : Below _ (w.alloc (.cells #[.slice none 0 0] 25)) w1 := hw1 ▸ below_drewN _ dd
      have H1 := H0.keep (wrote_below LD Nowhere) (fun _ _ _ x => x)
      have x1 : w1.cell? ⟨w.heap.size, 0, none⟩ = some (.slice none 0 0) := (LD.cell z0).trans x0
      have g1 : w1.frozen? ⟨w.heap.size, 0, none⟩ = false := (LD.frozen z0).trans g0
      have hc4' : w1.cell? ⟨b, off + 4, none⟩ = some (.int .u8 (f 4)) := (LD.cell (block_lt_of_cell hc4)).trans hc4
      have C1 := L0.trans (LD.mono (Nat.le_of_lt z0))
      have z1 : w.heap.size < w1.heap.size := Nat.lt_of_lt_of_le z0 LD.size
      clear hw1
      rw [errV_no hh]
      go_wp2_with fail
      refine (checkSize _ _ n cap (f 4) h40 h41).mono ?_
      rintro e wx ⟨⟨d2, rfl⟩, rfl⟩
      rw [errV_no hz]
      go_wp2_with fail
      have hR6 := hide (H1.row.tail 6 (n - 6) (by omega))
      have hB6 : Hid (∀ i, i < n - 6 → 0 ≤ body f i ∧ body f i ≤ 255) := fun i hi => H.byte (6 + i) (by omega)
      have hc5 : wx.cell? ⟨b, off + 5, none⟩ = some (.int .u8 (f 5)) := by
        obtain ⟨b', off', e, hc⟩ := H1.row 5 (by omega)
        simp only [Option.some.injEq, Addr.mk.injEq, and_true] at e
        obtain ⟨rfl, rfl⟩ := e
        exact hc
      have h5l : (5 : Int) < (n : Int) := by omega
      have h6l : (6 : Int) ≤ (n : Int) := by omega
      by_cases hs : isum (body f) (n - 6) % 256 = f 5
      · have hs' : (isum (body f) (n - 6) % 256 != f 5) = false := by simpa using hs
        have hr0 : rdC n f = 0 := by rw [hr4]; unfold sumC; rw [if_pos hs]
        have hM : rdM n f = (f 4).toNat := by unfold rdM; rw [hr0, if_pos rfl]
        have HR0 := hide hr0
        have HM := hide hM
        clear hs hr4 hr0 hM
        obtain ⟨m, hm⟩ : ∃ m : Nat, f 4 = m := ⟨(f 4).toNat, by omega⟩
        have hnb : n ≤ 1048576 := H.len
        have hc6 : ¬ cap = 6 := by omega
        have hn1 : 1 ≤ m := by omega
        have hn8 : m ≤ 8 := by omega
        have HN : Hid (n = 6 + m * 256) := by show _ = _; omega
        have HMM : Hid (rdM n f = m) := by show _ = _; rw [unhide HM, hm]; rfl
        rw [hm]
        have hmk := run_make_row' (P := Tryd.prog) 23 37 (.slice none 0 0) 24 Tryd.underlying23 infoInts rfl .i64 .i64 m (by omega) (by omega)
        clear hnm hm1 hm8 hm HM h40 h41 hc4 hc4' hz
        go_quiet ((go_at_call 26; exact quiet_same (fileSum _ _ _ _ (body f) (unhide hR6) (by omega) (unhide hB6))))
        go_wp2_with fail
        have hX : Hid (wx.heap.size = wx.heap.size) := rfl
        generalize hG : wx.heap.size = G at *
        have RA : (((wx.drewN nq).alloc (.cells (madeCells #[.slice none 0 0] m) 37)).alloc (.cells #[.slice (some ⟨G, 0, none⟩) m m] 25)).rowIs G 37 m (fun _ => .slice none 0 0) := by
          rw [← hG]
          exact (World.rowIs_made (wx.drewN nq) (.slice none 0 0) m 37).alloc _
        have BA : Below G wx (((wx.drewN nq).alloc (.cells (madeCells #[.slice none 0 0] m) 37)).alloc (.cells #[.slice (some ⟨G, 0, none⟩) m m] 25)) := by
          rw [← hG]
          exact ((below_drewN wx nq).alloc (Nat.le_refl _) _).alloc (by simp [World.drewN]) _
        have SA : (((wx.drewN nq).alloc (.cells (madeCells #[.slice none 0 0] m) 37)).alloc (.cells #[.slice (some ⟨G, 0, none⟩) m m] 25)).heap.size = G + 2 := by
          rw [← hG]; simp [World.drewN]
        have XA : (((wx.drewN nq).alloc (.cells (madeCells #[.slice none 0 0] m) 37)).alloc (.cells #[.slice (some ⟨G, 0, none⟩) m m] 25)).cell? ⟨G + 1, 0, none⟩ = some (.slice (some ⟨G, 0, none⟩) m m) := by
          rw [← hG]
          rw [World.cell?_alloc_at _ _ _ _ (by simp [World.drewN])]; rfl
        generalize ((wx.drewN nq).alloc (.cells (madeCells #[.slice none 0 0] m) 37)).alloc (.cells #[.slice (some ⟨G, 0, none⟩) m m] 25) = wa at *
        go_loopw [42] (fun i wr => ∃ k : Nat, k ≤ m ∧ i = .int .i64 k ∧ wr.rowIs G 37 m (fun j => if j < k then .slice (some ⟨G + 2 + j, 0, none⟩) 256 256 else .slice none 0 0) ∧ (∀ i, i < k → wr.rowIs (G + 2 + i) 3 256 (fun j => .int .i64 (rdF f i j))) ∧ Hid (wr.heap.size = G + 2 + k) ∧ Below G wx wr ∧ wr.cell? ⟨G + 1, 0, none⟩ = some (.slice (some ⟨G, 0, none⟩) m m)) (fun i _ => m - (intOf i).toNat)
        case atStart => exact ⟨0, Nat.zero_le _, rfl, RA.congr (fun i _ => by simp), fun i hi => absurd hi (Nat.not_lt_zero _), SA, BA, XA⟩
        case round =>
          obtain ⟨k, hk, rfl, hrow, hin, hsz, hbel, hbx⟩ := hrel
          have HRow := hide hrow
          have HIn := hide hin
          clear hrow hin
          by_cases hlt : k < m
          · have hlt' : (k : Int) < (m : Int) := by omega
            have hdst := (unhide HRow).cell hlt
            have hfz := (unhide HRow).frozen k
            have HBk := hide ((H1.keep (wrote_below (hG.symm ▸ hbel) Nowhere) (fun _ _ _ x => x)).row.tail (6 + 256 * k) 256 (by have := HN.out; omega))
            have HBb : Hid (∀ i, i < 256 → 0 ≤ f (6 + 256 * k + i) ∧ f (6 + 256 * k + i) ≤ 255) := fun i hi => H.byte _ (by have := HN.out; omega)
            have hks : Hid (6 + 256 * (k + 1) ≤ n) := by show _ ≤ _; have := HN.out; omega
            have HRS := hide ((unhide HRow))
            go_wp2_with fail
            go_region_with (first | (go_at_call 28; refine (cutBank _ _ _ _ _ k hks.out hcap hnb).mono ?_; rintro e w' ⟨rfl, rfl⟩) | (go_at_call 27; refine (numbersOf_at wr.drew (G + 2 + k) hsz.out _ 256 256 _ (unhide HBk) (by omega) (unhide HBb)).mono ?_; rintro e w2 ⟨rfl, hnew, hs1, hb1⟩; have hbx2 : w2.cell? ⟨G + 1, 0, none⟩ = some (.slice (some ⟨G, 0, none⟩) m m) := (hb1.cell (by show G + 1 < _; omega)).trans hbx; have hdst2 := ((unhide HRow).of_block (hb1.block G (by omega))).cell hlt; have hfz2 := ((unhide HRow).of_block (hb1.block G (by omega))).frozen k; have HN2 := hide hnew; have HS2 := hide hs1; clear hnew hs1))
            all_goals
              have R2 := (((unhide HRow).of_block (hb1.block G (by omega))).set k (.slice (some ⟨G + 2 + k, 0, none⟩) 256 256)).congr (g := fun j => if j < k + 1 then .slice (some ⟨G + 2 + j, 0, none⟩) 256 256 else .slice none 0 0) (fun j _ => step_if3 G k j)
              have HR2 := hide R2
              have hbb : Below G wx w2 := (hbel.drew).trans (hb1.mono (by omega))
              clear R2
              go_wp2
              go_roundw
              case rel =>
                refine ⟨k + 1, by omega, by go_num, unhide HR2, fun i hi => ?_, by show _ = _; have := unhide HS2; simp; omega, hbb.setCell (Nat.le_refl _) _, (World.cell?_setCell_other _ _ _ _ (by intro h; simp only [Addr.mk.injEq] at h; omega)).trans hbx2⟩
                by_cases e : i = k
                · subst e
                  exact (unhide HN2).setOther (by simp; omega) _
                · exact ((unhide HIn i (by omega)).of_block (hb1.block _ (by omega))).setOther (by simp; omega) _
              case measure => simp [intOf]; omega
          · have hlt' : ¬ (k : Int) < (m : Int) := by omega
            have ek : k = m := by omega
            subst ek
            have xr : wr.cell? ⟨w.heap.size, 0, none⟩ = some (.slice none 0 0) := (hbel.cell (by show w.heap.size < G; omega)).trans x1
            have gr : wr.frozen? ⟨w.heap.size, 0, none⟩ = false := (hbel.frozen (by show w.heap.size < G; omega)).trans g1
            go_wp2
            refine bodyPost_ret (v := .tuple #[.agg #[.slice (some ⟨G, 0, none⟩) k k], .nilIface]) (by simp [results, Tryd.results17, go_sem, xr]) rfl ?_
            have hzc : Below w.heap.size w (wr.setCell ⟨w.heap.size, 0, none⟩ (.slice (some ⟨G, 0, none⟩) k k)) := (C1.trans (hbel.mono (by omega))).setCell (Nat.le_refl _) _
            have hE : Hid (Ending.returned (.tuple #[.agg #[.slice (some ⟨G, 0, none⟩) k k], .nilIface]) = .returned (.tuple #[.agg #[.slice (some ⟨G, 0, none⟩) k k], errV (rdC n f) 0])) := by show _ = _; rw [unhide HR0, errV_no rfl]
            have hO : OwnSS (wr.setCell ⟨w.heap.size, 0, none⟩ (.slice (some ⟨G, 0, none⟩) k k)) w.heap.size (.slice (some ⟨G, 0, none⟩) k k) (rdM n f) (fun i => some ⟨G + 2 + i, 0, none⟩) (fun _ => 256) (fun _ => 256) (rdF f) := by
              rw [HMM.out]
              exact own_two ((unhide HRow).setOther (by simp; omega) _) (fun i hi => (unhide HIn i hi).setOther (by simp; omega) _) (by omega) (by omega)
            first
              | exact ⟨_, 0, _, _, hE.out, hO, hzc⟩
              | exact ⟨_, ⟨0, hE.out⟩, ⟨_, _, hO⟩, hzc⟩
      · have hs' : (isum (body f) (n - 6) % 256 != f 5) = true := by simpa using hs
        have hr0 : rdC n f = 5 := by rw [hr4]; unfold sumC; rw [if_neg hs]
        have hM : rdM n f = 0 := by unfold rdM; rw [hr0, if_neg (by decide)]
        have HR0 := hide hr0
        have HM := hide hM
        clear hs hr4 hr0 hM
        go_quiet ((go_at_call 26; exact quiet_same (fileSum _ _ _ _ (body f) (unhide hR6) (by omega) (unhide hB6))))
        go_wp2
        refine bodyPost_ret (v := .tuple #[.agg #[.slice none 0 0], .iface 44 (.agg #[.int .i64 5, .int .i64 5])]) (by simp [results, Tryd.results17, go_sem, x1]) rfl ?_
        exact ⟨_, 5, fun _ => none, fun _ => 0, by rw [unhide HR0, errV_yes (by decide)], by rw [unhide HM]; exact OwnSS.nil0 _ _ _ _ _ _, by first | exact C1.drewN _ | exact (C1.trans ((below_drewN _ _).mono C1.size)).setCell (Nat.le_refl _) _ | exact (C1.trans ((below_drewN _ _).mono C1.size))⟩
    · rw [if_neg hz] at hr4
      have hM : rdM n f = 0 := by unfold rdM; rw [hr4, if_neg hz]
      rw [hM]
      have HR := hide hr4
      clear hr4
      go_enter Tryd.func17, Tryd.ntmps17
      go_wp2_with fail
      refine (checkHead _ _ n cap f H0).mono ?_
      rintro e w1 ⟨⟨d1, rfl⟩, dd, hw1⟩
      have LD : Below _ (w.alloc (.cells #[.slice none 0 0] 25)) w1 := hw1 ▸ below_drewN _ dd
      have H1 := H0.keep (wrote_below LD Nowhere) (fun _ _ _ x => x)
      have x1 : w1.cell? ⟨w.heap.size, 0, none⟩ = some (.slice none 0 0) := (LD.cell z0).trans x0
      have g1 : w1.frozen? ⟨w.heap.size, 0, none⟩ = false := (LD.frozen z0).trans g0
      have hc4' : w1.cell? ⟨b, off + 4, none⟩ = some (.int .u8 (f 4)) := (LD.cell (block_lt_of_cell hc4)).trans hc4
      have C1 := L0.trans (LD.mono (Nat.le_of_lt z0))
      have z1 : w.heap.size < w1.heap.size := Nat.lt_of_lt_of_le z0 LD.size
      clear hw1
      rw [errV_no hh]
      go_wp2_with fail
      refine (checkSize _ _ n cap (f 4) h40 h41).mono ?_
      rintro e wx ⟨⟨d2, rfl⟩, rfl⟩
      rw [errV_yes hz]
      go_wp2
      refine bodyPost_ret (v := .tuple #[.agg #[.slice none 0 0], .iface 44 (.agg #[.int .i64 (sizeC n (f 4)), .int .i64 d2])]) (by simp [results, Tryd.results17, go_sem, x1]) rfl ?_
      exact ⟨_, d2, fun _ => none, fun _ => 0, by rw [unhide HR, errV_yes hz], OwnSS.nil0 _ _ _ _ _ _, by first | exact C1 | exact C1.setCell (Nat.le_refl _) _⟩
  · have hr4 : rdC n f = headC n f := by unfold rdC; rw [if_neg hh]
    have hM : rdM n f = 0 := by unfold rdM; rw [hr4, if_neg hh]
    rw [hM]
    have HR := hide hr4
    clear hr4
    go_enter Tryd.func17, Tryd.ntmps17
    go_wp2_with fail
    refine (checkHead _ _ n cap f H0).mono ?_
    rintro e w1 ⟨⟨d1, rfl⟩, dd, hw1⟩
    have LD : Below _ (w.alloc (.cells #[.slice none 0 0] 25)) w1 := hw1 ▸ below_drewN _ dd
    have x1 : w1.cell? ⟨w.heap.size, 0, none⟩ = some (.slice none 0 0) := (LD.cell z0).trans x0
    have g1 : w1.frozen? ⟨w.heap.size, 0, none⟩ = false := (LD.frozen z0).trans g0
    have C1 := L0.trans (LD.mono (Nat.le_of_lt z0))
    clear hw1
    rw [errV_yes hh]
    go_wp2
    refine bodyPost_ret (v := .tuple #[.agg #[.slice none 0 0], .iface 44 (.agg #[.int .i64 (headC n f), .int .i64 d1])]) (by simp [results, Tryd.results17, go_sem, x1]) rfl ?_
    exact ⟨_, d1, fun _ => none, fun _ => 0, by rw [unhide HR, errV_yes hh], OwnSS.nil0 _ _ _ _ _ _, by first | exact C1 | exact C1.setCell (Nat.le_refl _) _⟩
end Go.Proofs.YtpaedkefmebjjajDoor
