/- At every row of bytes: the image that is drawn from them is read from its file as it was, the file that is drawn is read as the specification reads it and is the file of what was read, and the bank that is drawn is the specification's. -/
import Derived.Test.YtpaedkefmebjjadDoorRows
import Derived.Test.YtpaedkefmebjjadDoorX7
import Derived.Test.YtpaedkefmebjjadDoorR2
import Derived.Test.YtpaedkefmebjjadDoorV2
import Derived.Test.YtpaedkefmebjjadDoorD1
import Derived.Test.YtpaedkefmebjjadDoorQ2
import Derived.Test.YtpaedkefmebjjadDoorCards
import Derived.Test.YtpaedkefmebjjadDoorTie
import Derived.ChangeSame
import Derived.ChangeVars
import Derived.JoinedOf
import Derived.RowKit
import Derived.RowKitTokens
import Derived.LaidLaws
import Derived.LaidHandle
import Derived.Stop.Joined
import Derived.SevenTiedAt
import Derived.OpenVars
import Derived.WalkKit
import Derived.ProofKit
import Derived.OpenShut
import Derived.ShutString
import Derived.ChangeOld
import Derived.Below
import Derived.Deep.RegionWith
namespace Go.Proofs.YtpaedkefmebjjadDoor.fnImage
open Go.ChangeShapes Go.WideShapes Go.ChangeAt Go.RowKit
open Go.ChangeMaps (open_string shut_string)
set_option linter.unusedVariables false
theorem own : ownKnob Tryd.prog.godebug = none := by kernel_rfl
theorem laidOut : laidOutB Tryd.prog = true := by kernel_rfl
theorem below_step {w w' w'' : World} (h : Below w.heap.size w w') (k : Below w'.heap.size w' w'') : Below w.heap.size w w'' := h.trans (k.mono h.size)
/-- A guarded call of a Go function, by its contract, as one step of a region that draws its order. -/
theorem step_callG {P : Program} {ops : Array Oper} {o : Oper} {a : Act} {w : World} {K : Act → World → Prop} {Q : Exit → Act → World → Prop} {E : Prop} (hw : Region.wanted o (yielded ops a.tmps) = true) (f : FuncId) (vs : Array Value)
    (hE : (execOp a.eval o).run P w = .ok (.enter f vs) w)
    (h : Calls P f vs w fun e w' => ∃ v, e = .returned v ∧ K (a.put o.dst v) w') : if Region.wanted o (yielded ops a.tmps) = true then Oper.wp P o a w K Q else E := by
  rw [if_pos hw]
  unfold Oper.wp
  rw [hE, Oper.upon_enter]
  exact h.mono (by rintro e w' ⟨v, rfl, hk⟩; exact hk)
def strN (n : Nat) (f : Nat → Int) : ByteArray := ((List.range n).map f).foldl (fun r n => r.push (UInt8.ofNat n.toNat)) ByteArray.empty
theorem convN (W : World) (b off n cap : Nat) (f : Nat → Int) (H : RowOf .u8 W (some ⟨b, off, none⟩) n f) :
    (convert 22 9 (.slice (some ⟨b, off, none⟩) n cap)).run Tryd.prog W = .ok (.string (strN n f)) W := by
  rw [run_convert_bytes_string W 22 9 5 _ _ _ Tryd.underlying22 Tryd.underlying5 Tryd.underlying9]
  have hl := run_loadCells_list (P := Tryd.prog) W ⟨b, off, none⟩ (((List.range n).map f).map (Value.int .u8)) (fun j v hj => by
    rw [List.map_map, List.getElem?_map, Option.map_eq_some_iff] at hj
    obtain ⟨k, hk, rfl⟩ := hj
    obtain ⟨hj, rfl⟩ := List.getElem?_eq_some_iff.1 hk
    have hjn : j < n := by simpa using hj
    obtain ⟨b', off', e, h⟩ := H j hjn
    simp only [Option.some.injEq, Addr.mk.injEq, and_true] at e
    obtain ⟨rfl, rfl⟩ := e
    rw [add_at]
    simpa using h)
  simp only [List.length_map, List.length_range] at hl
  rw [run_bytesToString W ⟨b, off, none⟩ n cap ((List.range n).map f) hl]
  rfl
theorem conv_file {W : World} {a : Option Addr} {cap n m : Nat} {f : Nat → Int} {F : Nat → Nat → Int} (e : fileLen m (fun _ => 256) F = n) (h : ∀ j, j < n → fileOf m F j = f j) (hn : 262 ≤ n) (H : RowOf .u8 W a (fileLen m (fun _ => 256) F) (fileOf m F)) :
    (convert 22 9 (.slice a (fileLen m (fun _ => 256) F) cap)).run Tryd.prog W = .ok (.string (strN n f)) W := by
  rw [e] at H ⊢
  obtain ⟨b, off, rfl, -⟩ := H 0 (by omega)
  have := convN W b off n cap (fileOf m F) H
  rw [this]
  unfold strN
  rw [List.map_congr_left (fun i hi => h i (List.mem_range.1 hi))]
theorem below_drewN' {w w' : World} (h : Below w.heap.size w w') (d : Nat) : Below w.heap.size w (w'.drewN d) := ⟨h.os, h.tape, h.output, h.size, h.block⟩
theorem file_byte2 {m : Nat} {ln : Nat → Nat} {F : Nat → Nat → Int} (h : okImg m ln F = true) : ∀ i, i < fileLen m ln F → 0 ≤ fileOf m F i ∧ fileOf m F i ≤ 255 := fun i hi => by
  obtain ⟨hb, h1, h8⟩ := okImg_parts h
  have hl : fileLen m ln F = 6 + 256 * m := by unfold fileLen; rw [if_pos h]
  rw [hl] at hi
  have hs : 0 ≤ isum (flat F) (256 * m) % 256 ∧ isum (flat F) (256 * m) % 256 ≤ 255 := by omega
  unfold fileOf imgF
  repeat' split
  all_goals first | omega | skip
  have hk := hb ((i - 6) / 256) (by omega)
  obtain ⟨hl', hj⟩ : ln ((i - 6) / 256) = 256 ∧ ∀ j, j < ln ((i - 6) / 256) → inB (F ((i - 6) / 256) j) 0 255 = true := of_decide_eq_true hk
  exact (inB_iff _ _ _).1 (hj ((i - 6) % 256) (by rw [hl']; exact Nat.mod_lt _ (by decide)))
theorem IntSS.lens {w : World} {G : Nat → Nat → Prop} {v : Value} {m : Nat} {ln : Nat → Nat} {f : Nat → Nat → Int} (H : IntSS .i64 w G v m ln f) (h : ∀ i, i < m → ln i = 256) : IntSS .i64 w G v m (fun _ => 256) f := by
  obtain ⟨a, cap, hv, hm, hF, hr⟩ := H
  refine ⟨a, cap, hv, hm, hF, fun i hi => ?_⟩
  have := hr i hi
  rw [h i hi] at this
  exact this
set_option maxRecDepth 20000
set_option maxHeartbeats 8000000
set_option maxHeartbeats 8000000 in
theorem walk (s0 : Option Addr) (n0 c0 : Nat) (f0 : Nat → Int) (w : World) (w0 : n0 ≤ 9223372036854775807 ∧ RowOf .u8 w s0 n0 f0 ∧ ∀ i, i < n0 → (Lit.int .u8 (f0 i)).wf = true) (hg : w.cell? ⟨0, 0, none⟩ = some handleV) :
    Calls Tryd.prog 3 #[.slice s0 n0 c0] w fun e w' => e = .returned (.bool true) ∧ Below w.heap.size w w' := by
  obtain ⟨hn63, hrow, hwf⟩ := w0
  by_cases hbig : (1048576 : Int) < (n0 : Int)
  · have hb' : decide ((1048576 : Int) < (n0 : Int)) = true := decide_eq_true hbig
    go_enter Tryd.func3, Tryd.ntmps3
    go_wp2_with fail
    refine (lawsBig _ s0 n0 c0).mono ?_
    rintro e w' ⟨rfl, rfl⟩
    rw [hb']
    go_wp2
    go_ret
    exact ⟨rfl, Below.refl _ _⟩
  · have hb' : decide ((1048576 : Int) < (n0 : Int)) = false := decide_eq_false hbig
    have hn : n0 ≤ 1048576 := by omega
    have hby : ∀ i, i < n0 → 0 ≤ f0 i ∧ f0 i ≤ 255 := fun i hi => by
      have h : IntKind.u8.min ≤ f0 i ∧ f0 i ≤ IntKind.u8.max := by simpa [Lit.wf] using hwf i hi
      exact ⟨h.1, h.2⟩
    have code : Code w w.heap.size s0 n0 := ⟨hn, fun i hi => by
      obtain ⟨b, off, e, hc⟩ := hrow i hi
      have := hby i hi
      exact ⟨b, off, e, block_lt_of_cell hc, _, hc, this.1, by omega⟩⟩
    have hg0 : 0 < w.heap.size := block_lt_of_cell hg
    have HCO := hide code
    clear hwf hby hrow hbig code
    go_enter Tryd.func3, Tryd.ntmps3
    go_wp2_with fail
    refine (lawsBig _ s0 n0 c0).mono ?_
    rintro e w' ⟨rfl, hw'⟩
    rw [hw', hb']
    clear hw' w'
    go_wp2_with fail
    refine (drawImageBytes _ s0 n0 c0 (unhide HCO)).mono ?_
    rintro e w1 ⟨v, m, ra, ln, rc, F, rfl, hm, O1, L1⟩
    obtain ⟨va, vc, hv, -, -⟩ := O1.sep.outer
    subst hv
    have A1 := O1.blocks (w' := w1.alloc (.cells #[.slice va m vc] 26)) (by simp) (fun k _ hk => Below.heap_alloc _ _ k hk)
    have C1 : Below w.heap.size w (w1.alloc (.cells #[.slice va m vc] 26)) := L1.alloc L1.size _
    have xm : (w1.alloc (.cells #[.slice va m vc] 26)).cell? ⟨w1.heap.size, 0, none⟩ = some (.slice va m vc) := by rw [World.cell?_alloc_at _ _ _ _ rfl]; rfl
    have z1 : (w1.alloc (.cells #[.slice va m vc] 26)).heap.size = w1.heap.size + 1 := by simp
    clear O1 L1
    go_wp2_with fail
    generalize w1.alloc (.cells #[.slice va m vc] 26) = wa at *
    refine (implImageBytes _ _ _ m ln F A1.ints).mono ?_
    rintro e w2 ⟨u2, rfl, ⟨ba, bc, rfl, hbn, bR, bF, bL⟩, L2⟩
    have A2 := A1.blocks (w' := w2) L2.size (fun k _ hk => L2.block k hk)
    have C2 : Below w.heap.size w w2 := C1.trans (L2.mono C1.size)
    have xm2 : w2.cell? ⟨w1.heap.size, 0, none⟩ = some (.slice va m vc) := (L2.cell (by show w1.heap.size < _; omega)).trans xm
    have hx2 : w1.heap.size < w2.heap.size := by have := L2.size; omega
    have MK : Hid (∀ w', Below w2.heap.size w2 w' → Below w2.heap.size w2 w' ∧ w'.cell? ⟨w1.heap.size, 0, none⟩ = some (.slice va m vc)) := fun w' h => ⟨h, (h.cell hx2).trans xm2⟩
    have IK : Hid (∀ w', Below w2.heap.size w2 w' → IntSS .i64 w' (fun b _ => w.heap.size ≤ b) (.slice va m vc) m ln F) := fun w' h => A2.ints.keep (wrote_below h Nowhere) (fun _ _ _ x => x)
    have HBR := hide (show RowOf .u8 w2 ba (fileLen m ln F) (fileOf m F) from bR)
    have HA2 := hide A2
    have HC2 := hide C2
    obtain ⟨hbn1, hbn2⟩ := hbn
    have hN := read_file (m := m) (ln := ln) (f := F)
    have HN := hide hN
    obtain ⟨N, hNe⟩ : ∃ N, N = fileLen m ln F := ⟨_, rfl⟩
    rw [← hNe]
    rw [← hNe] at hbn1 hbn2
    have HNe := hide hNe
    have hne : ((N : Int) != (N : Int)) = false := by simp
    clear hNe hN A2 C2 bR bF bL L2 A1 C1 xm xm2 z1
    obtain ⟨ok, hok⟩ : ∃ ok, okImg m ln F = ok := ⟨_, rfl⟩
    have HOK := hide hok
    have hbb : (ok != ok) = false := by cases ok <;> rfl
    clear hok
    go_wp2
    go_region_held3 (fun w' => Below w2.heap.size w2 w' ∧ w'.cell? ⟨w1.heap.size, 0, none⟩ = some (.slice va m vc)) ((refine unhide MK _ ?_; first | assumption | exact (Below.refl _ _).drew)) (first | (go_at_call 7; refine (specBytes _ _ _ m ln F (unhide IK _ (below_of (by assumption)))).mono ?_; rintro e w3 ⟨u3, rfl, ⟨sa, sc, rfl, -, -, -, -⟩, L3⟩; rw [← HNe.out]; have LL := below_step (below_of (by assumption)) L3) | (go_at_call 8; refine (implImageOk _ _ _ m ln F (unhide IK _ (below_of (by assumption)))).mono ?_; rintro e w4 ⟨rfl, L4⟩; rw [HOK.out]; have LL := below_step (below_of (by assumption)) L4) | (go_at_call 9; refine (specImageOk _ _ _ m ln F (unhide IK _ (below_of (by assumption)))).mono ?_; rintro e w5 ⟨rfl, L5⟩; rw [HOK.out]; have LL := below_step (below_of (by assumption)) L5) | fail)
    have B5 : Below w2.heap.size w2 w5 := below_of (by assumption)
    have xm5 : w5.cell? ⟨w1.heap.size, 0, none⟩ = some (.slice va m vc) := (unhide MK _ B5).2
    have C5 : Below w.heap.size w w5 := (unhide HC2).trans (B5.mono (unhide HC2).size)
    have HB5 := hide B5
    have HC5 := hide C5
    clear B5 C5
    go_upto_if 34 with ((go_at_call 9; refine (specImageOk _ _ _ m ln F (unhide IK _ (unhide HB5))).mono ?_; rintro e w6 ⟨rfl, L6⟩; rw [HOK.out]))
    have B6 : Below w2.heap.size w2 w6 := below_step (unhide HB5) L6
    have C6 : Below w.heap.size w w6 := below_step (unhide HC5) L6
    have xm6 : w6.cell? ⟨w1.heap.size, 0, none⟩ = some (.slice va m vc) := (unhide MK _ B6).2
    have HB6 := hide B6
    have HC6 := hide C6
    clear B6 C6 L6 HB5 HC5
    go_cut [5, 6] (fun bb hh wc => Below w.heap.size w wc)
    case first =>
      cases ok
      · go_wp2
        go_meet
        case rel => exact unhide HC6
      · obtain ⟨r1, r2, r3⟩ := unhide HN HOK.out
        have hbk : Bytes w6 ba N (fileOf m F) := ⟨by rw [HNe.out]; exact (unhide HBR).keep (wrote_below (unhide HB6) Nowhere) (fun _ _ _ x => x), hbn1, fun i hi => file_byte2 HOK.out i (by rw [← HNe.out]; exact hi)⟩
        have hg6 : w6.cell? ⟨0, 0, none⟩ = some handleV := ((unhide HC6).cell hg0).trans hg
        have HBK := hide hbk
        rw [← HNe.out] at r1 r2
        have HR1 := hide r1
        have HR2 := hide r2
        have HR3 := hide r3
        clear r1 r2 r3 hbk
        go_wp2_with fail
        refine (implImageRead _ ba N bc (fileOf m F) (unhide HBK) hbn2 hg6).mono ?_
        rintro e w7 ⟨v7, ra7, rc7, rfl, O7, L7⟩
        rw [HR1.out]
        rw [HR2.out] at O7
        obtain ⟨va7, vc7, hv7, -, -⟩ := O7.sep.outer
        subst hv7
        have A7 := O7.blocks (w' := w7.alloc (.cells #[.slice va7 m vc7] 26)) (by simp) (fun k _ hk => Below.heap_alloc _ _ k hk)
        have B7 : Below w2.heap.size w2 (w7.alloc (.cells #[.slice va7 m vc7] 26)) := (below_step (unhide HB6) L7).alloc (below_step (unhide HB6) L7).size _
        have C7 : Below w.heap.size w (w7.alloc (.cells #[.slice va7 m vc7] 26)) := (below_step (unhide HC6) L7).alloc (below_step (unhide HC6) L7).size _
        have xb7 : (w7.alloc (.cells #[.slice va7 m vc7] 26)).cell? ⟨w7.heap.size, 0, none⟩ = some (.slice va7 m vc7) := by rw [World.cell?_alloc_at _ _ _ _ rfl]; rfl
        have xm7 := (unhide MK _ B7).2
        have HA7 := hide A7
        have HB7 := hide B7
        have HC7 := hide C7
        clear A7 B7 C7 O7 L7
        have hlen : ∀ i, i < m → ln i = 256 := fun i hi => (show ln i = 256 ∧ _ from of_decide_eq_true ((okImg_parts HOK.out).1 i hi)).1
        have HLN := hide hlen
        clear hlen
        go_wp2_with fail
        refine (sameBanks _ (.slice va7 m vc7) (.slice va m vc) _ _ m (fun _ => 256) (rdF (fileOf m F)) F (unhide HA7).ints (IntSS.lens (unhide IK _ (unhide HB7)) (unhide HLN)) (fun i j hi hj => unhide HR3 i j hj)).mono ?_
        rintro e w8 ⟨rfl, L8⟩
        have C8 := hide (below_step (unhide HC7) L8)
        clear L8
        go_wp2
        go_meet
        case rel => exact unhide C8
    case rest =>
      have HW := hide hcut
      clear HC6 HB6 HNe HN HA2 HC2 HOK MK IK HBR xm6 xm5
      have HCD := hide ((unhide HCO).up (unhide HW) (unhide HW).size)
      clear hcut
      go_wp2_with fail
      refine (drawImageRead _ s0 n0 c0 (unhide HCD)).mono ?_
      rintro e w8 ⟨ra, rn, rcap, rf, rfl, hrc, hrB, L8⟩
      have C8 : Below w.heap.size w w8 := below_step (unhide HW) L8
      have hg8 : w8.cell? ⟨0, 0, none⟩ = some handleV := (C8.cell hg0).trans hg
      have HrB := hide hrB
      have HC8 := hide C8
      clear hrB C8 L8 HCD HW
      go_wp2_with fail
      refine (implImageRead _ ra rn rcap rf (unhide HrB) hrc hg8).mono ?_
      rintro e w9 ⟨v9, ra9, rc9, rfl, O9, L9⟩
      obtain ⟨va9, vc9, hv9, -, -⟩ := O9.sep.outer
      subst hv9
      have A9 := O9.blocks (w' := w9.alloc (.cells #[.slice va9 (rdM rn rf) vc9] 26)) (by simp) (fun k _ hk => Below.heap_alloc _ _ k hk)
      have B9 : Below w8.heap.size w8 (w9.alloc (.cells #[.slice va9 (rdM rn rf) vc9] 26)) := L9.alloc L9.size _
      have xb9 : (w9.alloc (.cells #[.slice va9 (rdM rn rf) vc9] 26)).cell? ⟨w9.heap.size, 0, none⟩ = some (.slice va9 (rdM rn rf) vc9) := by rw [World.cell?_alloc_at _ _ _ _ rfl]; rfl
      have z9 : (w9.alloc (.cells #[.slice va9 (rdM rn rf) vc9] 26)).heap.size = w9.heap.size + 1 := by simp
      have HA9 := hide A9
      have HB9 := hide B9
      clear A9 B9 O9 L9
      go_wp2_with fail
      generalize w9.alloc (.cells #[.slice va9 (rdM rn rf) vc9] 26) = wb at *
      refine (specImageRead _ ra rn rcap rf ((unhide HrB).keep (wrote_below (unhide HB9) Nowhere) (fun _ _ _ x => x)) hrc).mono ?_
      rintro e w10 ⟨v10, ra10, rc10, rfl, O10, L10⟩
      obtain ⟨va10, vc10, hv10, -, -⟩ := O10.sep.outer
      subst hv10
      have D10 : Below wb.heap.size wb (w10.alloc (.cells #[.slice va10 (rdM rn rf) vc10] 26)) := L10.alloc L10.size _
      have A10 := (unhide HA9).blocks (w' := w10.alloc (.cells #[.slice va10 (rdM rn rf) vc10] 26)) D10.size (fun k _ hk => D10.block k hk)
      have B10 : Below w8.heap.size w8 (w10.alloc (.cells #[.slice va10 (rdM rn rf) vc10] 26)) := below_step (unhide HB9) D10
      have C10 : Below w.heap.size w (w10.alloc (.cells #[.slice va10 (rdM rn rf) vc10] 26)) := below_step (unhide HC8) B10
      have xb10 : (w10.alloc (.cells #[.slice va10 (rdM rn rf) vc10] 26)).cell? ⟨w9.heap.size, 0, none⟩ = some (.slice va9 (rdM rn rf) vc9) := (D10.cell (by show w9.heap.size < _; omega)).trans xb9
      have hz10 : w9.heap.size < (w10.alloc (.cells #[.slice va10 (rdM rn rf) vc10] 26)).heap.size := by have := D10.size; omega
      have HA10 := hide A10
      have HB10 := hide B10
      have HC10 := hide C10
      have HCE := hide ((unhide HCO).up C10 C10.size)
      have HFR : Hid (rdC rn rf = 0 → okImg (rdM rn rf) (fun _ => 256) (rdF rf) = true ∧ fileLen (rdM rn rf) (fun _ => 256) (rdF rf) = rn ∧ ∀ j, j < rn → fileOf (rdM rn rf) (rdF rf) j = rf j) := fun h => file_read (unhide HrB).byte h
      have HFM : Hid (¬ rdC rn rf = 0 → rdM rn rf = 0) := fun h => by unfold rdM; rw [if_neg h]
      clear A10 B10 C10 L10 O10 HA9 HB9 xb9 z9 D10
      obtain ⟨CC, hCC⟩ : ∃ CC, CC = rdC rn rf := ⟨_, rfl⟩
      obtain ⟨MM, hMM⟩ : ∃ MM, MM = rdM rn rf := ⟨_, rfl⟩
      rw [← hCC]
      rw [← hCC] at HFR HFM
      rw [← hMM] at HFR HFM HA10 HB10 HC10 HCE hz10 xb10 ⊢
      have hcc : (CC != CC) = false := by simp
      clear hCC hMM
      go_wp2_with fail
      generalize w10.alloc (.cells #[.slice va10 MM vc10] 26) = wd at *
      refine (drawBankOf _ s0 n0 c0 (unhide HCE)).mono ?_
      rintro e w11 ⟨v11, m11, ra11, ln11, rc11, F11, k11, rfl, hm11, O11, L11⟩
      obtain ⟨va11, vc11, hv11, -, -⟩ := O11.sep.outer
      subst hv11
      have D11 : Below wd.heap.size wd (w11.alloc (.cells #[.slice va11 m11 vc11] 26)) := L11.alloc L11.size _
      have E11 := O11.blocks (w' := w11.alloc (.cells #[.slice va11 m11 vc11] 26)) (by simp) (fun k _ hk => Below.heap_alloc _ _ k hk)
      have A11 := (unhide HA10).blocks (w' := w11.alloc (.cells #[.slice va11 m11 vc11] 26)) D11.size (fun k _ hk => D11.block k hk)
      have B11 : Below w8.heap.size w8 (w11.alloc (.cells #[.slice va11 m11 vc11] 26)) := below_step (unhide HB10) D11
      have C11 : Below w.heap.size w (w11.alloc (.cells #[.slice va11 m11 vc11] 26)) := below_step (unhide HC10) D11
      have xb11 : (w11.alloc (.cells #[.slice va11 m11 vc11] 26)).cell? ⟨w9.heap.size, 0, none⟩ = some (.slice va9 MM vc9) := (D11.cell hz10).trans xb10
      have xk11 : (w11.alloc (.cells #[.slice va11 m11 vc11] 26)).cell? ⟨w11.heap.size, 0, none⟩ = some (.slice va11 m11 vc11) := by rw [World.cell?_alloc_at _ _ _ _ rfl]; rfl
      have z11 : (w11.alloc (.cells #[.slice va11 m11 vc11] 26)).heap.size = w11.heap.size + 1 := by simp
      have hz11 : w9.heap.size < (w11.alloc (.cells #[.slice va11 m11 vc11] 26)).heap.size := Nat.lt_of_lt_of_le hz10 D11.size
      have HE11 := hide E11
      have HA11 := hide A11
      have HB11 := hide B11
      have HC11 := hide C11
      clear D11 E11 A11 B11 C11 L11 O11 HA10 HB10 HC10 HCE xb10
      go_wp2
      generalize w11.alloc (.cells #[.slice va11 m11 vc11] 26) = we at *
      have hx11 : w11.heap.size < we.heap.size := by omega
      have MK : Hid (∀ w', Below we.heap.size we w' → Below we.heap.size we w' ∧ w'.cell? ⟨w11.heap.size, 0, none⟩ = some (.slice va11 m11 vc11) ∧ w'.cell? ⟨w9.heap.size, 0, none⟩ = some (.slice va9 MM vc9)) := fun w' h => ⟨h, (h.cell hx11).trans xk11, (h.cell hz11).trans xb11⟩
      have IK : Hid (∀ w', Below we.heap.size we w' → IntSS .i64 w' (fun b _ => wd.heap.size ≤ b) (.slice va11 m11 vc11) m11 ln11 F11) := fun w' h => (unhide HE11).ints.keep (wrote_below h Nowhere) (fun _ _ _ x => x)
      go_region_held3 (fun w' => Below we.heap.size we w' ∧ w'.cell? ⟨w11.heap.size, 0, none⟩ = some (.slice va11 m11 vc11) ∧ w'.cell? ⟨w9.heap.size, 0, none⟩ = some (.slice va9 MM vc9)) ((refine unhide MK _ ?_; first | assumption | exact (Below.refl _ _).drew)) (first | (go_at_call 16; refine (implBankOf _ _ _ m11 ln11 F11 k11 (unhide IK _ (below_of (by assumption)))).mono ?_; rintro e w12 ⟨u12, rfl, ⟨sa12, sc12, rfl, sn12, sR12, -, -⟩, L12⟩; have LL := below_step (below_of (by assumption)) L12) | (go_at_call 17; refine (specBankOf _ _ _ m11 ln11 F11 k11 (unhide IK _ (below_of (by assumption)))).mono ?_; rintro e w13 ⟨u13, rfl, ⟨sa13, sc13, rfl, sn13, sR13, -, -⟩, L13⟩; have LL := below_step (below_of (by assumption)) L13) | (go_at_call 15; refine (sameInts _ (fun _ _ => True) (fun _ _ => True) _ _ _ (F11 (bankIx m11 k11)) (F11 (bankIx m11 k11)) ⟨_, _, rfl, sn12, sR12.keep (wrote_below L13 Nowhere) (fun _ _ _ x => x), fun _ _ _ => trivial⟩ ⟨_, _, rfl, sn13, sR13, fun _ _ _ => trivial⟩ (fun _ _ => rfl)).mono ?_; rintro e w14 ⟨rfl, d14, rfl⟩; have LL := below_drewN' (below_of (by assumption)) d14) | fail)
      have B14 : Below we.heap.size we (w13.drewN d14) := below_of (by assumption)
      generalize w13.drewN d14 = wf at *
      have C14 : Below w.heap.size w wf := below_step (unhide HC11) B14
      have HrW := hide ((unhide HrB).keep (wrote_below (below_step (unhide HB11) B14) Nowhere) (fun _ _ _ x => x))
      have HxW := hide ((unhide HA11).ints.keep (wrote_below B14 Nowhere) (fun _ _ _ x => x))
      have xb14 : wf.cell? ⟨w9.heap.size, 0, none⟩ = some (.slice va9 MM vc9) := (B14.cell hz11).trans xb11
      have hz14 : w9.heap.size < wf.heap.size := Nat.lt_of_lt_of_le hz11 B14.size
      have HC14 := hide C14
      clear C14 xb11 xk11 HE11 HA11 HB11 HC11 MK IK HrB
      by_cases hC : CC = 0
      · subst hC
        obtain ⟨g1, g2, g3⟩ := unhide HFR rfl
        have hl262 : 262 ≤ rn := by
          obtain ⟨_, h1, _⟩ := okImg_parts g1
          have : fileLen MM (fun _ => 256) (rdF rf) = 6 + 256 * MM := by unfold fileLen; rw [if_pos g1]
          omega
        obtain ⟨rb, ro, hra, -⟩ := (unhide HrW).row 0 (by omega)
        subst hra
        have MK2 : Hid (∀ w', Below wf.heap.size wf w' → Below wf.heap.size wf w' ∧ w'.cell? ⟨w9.heap.size, 0, none⟩ = some (.slice va9 MM vc9) ∧ (convert 22 9 (.slice (some ⟨rb, ro, none⟩) rn rcap)).run Tryd.prog w' = .ok (.string (strN rn rf)) w') := fun w' h => ⟨h, (h.cell hz14).trans xb14, convN w' rb ro rn rcap rf (((unhide HrW).keep (wrote_below h Nowhere) (fun _ _ _ x => x)).row)⟩
        have HG2 := hide g2
        have HG3 := hide g3
        have HG1 := hide g1
        clear g1 g2 g3 HFR HFM
        have kd := unhide MK2 wf.drew (Below.refl _ _).drew
        obtain ⟨-, -, kd2⟩ := kd
        have HG262 := hide hl262
        go_wp2
        (first | (go_region_law (first
          | (refine step_callG (by rfl) 6 #[.agg #[.slice va9 MM vc9]] (by go_simp) ((implImageBytes _ _ _ MM (fun _ => 256) (rdF rf) ((unhide HxW).keep (wrote_below (Below.refl _ wf).drew Nowhere) (fun _ _ _ x => x))).mono ?_)
             rintro e w15 ⟨u15, rfl, ⟨ha, hc, rfl, hn15, hR15, hF15, hL15⟩, L15⟩
             have hcv := conv_file (cap := hc) HG2.out (unhide HG3) hl262 hR15
             have L15' : Below wf.heap.size wf w15 := (Below.refl _ wf).drew.trans L15
             obtain ⟨-, xb15, kr15⟩ := unhide MK2 w15 L15'
             have C15 := hide (below_step (unhide HC14) L15')
             rw [HG2.out] at hcv
             refine ⟨_, rfl, ?_⟩
             rw [HG2.out]
             clear hR15 hF15 hL15 L15 L15'))) | fail)
        all_goals
          go_wp2
          go_ret
          exact ⟨rfl, unhide C15⟩
      · have hM0 := unhide HFM hC
        subst hM0
        have h1 : (CC != 0) = true := by simpa using hC
        have h2 : (CC == 0) = false := by simpa using hC
        go_wp2
        (first | (go_region) | fail)
        all_goals
          go_wp2
          go_ret
          exact ⟨rfl, (unhide HC14).drew⟩
theorem et : Tryd.prog.globalNamed "errors.errorType" = some 0 := by kernel_rfl
theorem rt : (Tryd.prog.cutTypes.find? (·.1 == "internal/reflectlite.rtype")).map (·.2) = some 85 := by kernel_rfl
theorem oneRow : ((List.range 141).filter fun t => Tryd.prog.rowNamed t [101, 114, 114, 111, 114]) = [46] := by kernel_rfl
theorem tsize : Tryd.prog.types.size = 141 := by kernel_rfl
theorem handle_of_laid {W : World} (h : laidMetH Tryd.prog Rows.fnImageRow.laid W) : W.cell? ⟨0, 0, none⟩ = some handleV := by
  have h' : laidMet Tryd.prog [] W ∧ handlesMet Tryd.prog [("errors.errorType", Rows.laid_errors_errorType)] W := h
  obtain ⟨name, u, ty, e1, e2, e3, e4, e5⟩ := h'.2 _ (List.mem_singleton.2 rfl)
  have en : name = [101, 114, 114, 111, 114] := (Option.some.inj e1).symm
  subst en
  obtain rfl := Option.some.inj (rt.symm.trans e2)
  have hm : ty ∈ (List.range 141).filter fun t => Tryd.prog.rowNamed t [101, 114, 114, 111, 114] := List.mem_filter.2 ⟨List.mem_range.2 (by rw [← tsize]; exact e3), e4⟩
  rw [oneRow] at hm
  obtain rfl := List.mem_singleton.1 hm
  have hh : typeHandle Tryd.prog 46 = .pointer (some ⟨1, 46, none⟩) := by kernel_rfl
  rw [hh] at e5
  simpa [handleV] using World.var?_cell et e5 0
noncomputable def laidWorld (os : Os) : World :=
  let w0 := World.holding Tryd.prog os ⟨#[], #[], []⟩
  let w0 := { w0 with heap := w0.heap.modify 0 fun
      | .cells _ t frozen => .cells #[.iface 85 (.agg #[.pointer (some ⟨1, 46, none⟩)])] t frozen
      | o => o }
  w0
set_option maxRecDepth 100000 in
theorem laidWorld_met (os : Os) (args : Array Value) : laidMetH Tryd.prog Rows.fnImageRow.laid ((laidWorld os).forCall (fun _ _ => 0) ⟨#[], args, []⟩).memory :=
  laidMetH_of_parts (laidMet_nil _ _) (by kernel_rfl)
set_option maxRecDepth 100000 in
theorem lifted (os : Os) (started : os.Started) (H : Type) (enc : TypeId × Value → H) :
    ReturnsInHanded {} Tryd.checked os 3 .any (fun w args => (Rows.fnImageSpec.pre enc Tryd.prog Tryd.f3 [] false w args ∧ laidMetH Tryd.prog Rows.fnImageRow.laid w) ∧ sizedMet enc Tryd.prog Tryd.f3 (OpenSpec.ofChange Rows.fnImageSpec) false w args)
      (Rows.fnImageSpec.post enc Tryd.prog Tryd.f3 false true false false) := by
  refine returnsInHanded_of_change_and (C := Tryd.checked) (X := fun w _ => laidMetH Tryd.prog Rows.fnImageRow.laid w) (fun _ _ _ hh h => h.of_heap hh) own started (by kernel_rfl) Tryd.func3
    (ChangeSpec.witness_at (enc := enc) (C := Tryd.checked) (os := os) (X := fun w _ => laidMetH Tryd.prog Rows.fnImageRow.laid w) false (laidWorld os) #[.slice none 0 0] 8 rfl (by kernel_rfl) (by kernel_rfl) (by kernel_rfl) (by kernel_rfl) (by kernel_rfl) (laidWorld_met os _)) ?_
  intro W base args ds gs before hval0 hW _ _ hL _
  have hg := handle_of_laid hL
  have hval : ∀ (j : Nat) t v, Tryd.f3.params[j]? = some t → args[j]? = some v → Value.okWide Tryd.prog W .any base t v := hval0
  have hW' := hW
  obtain ⟨p, q, hA0, hV, rfl, hfz, hnd⟩ := hW
  have hA : DataW.TrodAll enc Tryd.prog W 0 (fun _ => true) true Tryd.f3.params.toList args.toList ds p := hA0
  rw [Tryd.params3] at hA hval
  obtain ⟨v0, vs0, d0, ds0, p0, q0, hargs, rfl, rfl, h0, r0⟩ := trodAll_cons hA
  obtain ⟨rfl, rfl, rfl⟩ := trodAll_nil r0
  obtain rfl : args = #[v0] := by cases args; simp_all
  obtain ⟨rfl, rfl⟩ := trodVars_none hV
  have k0 := h0
  have lt0 : ∀ x ∈ p0, x.block < W.heap.size := by obtain ⟨m, hm⟩ := k0; exact DataW.trod_lt m _ _ _ hm
  obtain ⟨s0, n0, c0, rfl⟩ := okWide_slice Tryd.underlying22 (hval 0 22 v0 rfl rfl)
  obtain ⟨f0, w0⟩ := openInts (k := .u8) Tryd.underlying22 Tryd.underlying5 (by kernel_rfl) h0
  clear hA0 hval0
  refine (walk s0 n0 c0 f0 W w0 hg).mono fun e W' ⟨he, bel⟩ => ?_
  subst he
  exact ⟨_, rfl, _, _, _, [], _, [], hW', trodAll_mk1 (shut_bool Tryd.underlying4 _), (trodAll_cons_mk (Below.trod laidOut (by kernel_rfl) (of_decide_eq_true (by kernel_rfl)) k0 bel lt0) trodAll_mk0), rfl, bel.frame _, fun h => by cases h⟩
theorem over : Rows.fnImageRow.holds Tryd.pinned (OpenSpec.ofChange Rows.fnImageSpec) :=
  OpenClaim.holds_of_wide 3 Tryd.f3 rfl rfl rfl rfl rfl rfl rfl ⟨rfl, rfl, rfl, rfl, rfl⟩ rfl rfl rfl rfl rfl (by kernel_rfl) Tryd.func3 (by kernel_rfl)
    (of_decide_eq_true (by kernel_rfl)) (by unfold Func.isWrapper; first | (rw [if_pos (by decide +kernel)]; kernel_rfl) | (rw [if_neg (by decide +kernel)]; exact ⟨rfl, rfl⟩))
    (fun os started H enc _ => lifted os started H enc)
theorem card : Rows.FnImageCardSaid :=
  Claim7.holds_tied_plain_at .later [] [.handle] true (true, "38f420ac3c24055347f8e57b7832b02d8df44f0ac6e9aa644a222660142a726f") true
    over (fun _ h => by cases h) (by kernel_rfl) (fun _ h => by cases h) fnImage_row_tie rfl ⟨rfl, rfl⟩ (by kernel_rfl) rfl
    (fun f fn hf hfn => by
      obtain rfl : f = 3 := Option.some.inj ((show Tryd.prog.funcNamed "loop.example/g00231/laws.FnImage" = some 3 by kernel_rfl).symm.trans hf) |>.symm
      obtain rfl : fn = Tryd.f3 := (Option.some.inj (Tryd.func3.symm.trans hfn)).symm
      exact ⟨by kernel_rfl, fun j t ht => by
        rw [Tryd.params3] at ht
        rcases j with _ | j
        · obtain rfl : t = 22 := by simpa using ht.symm
          exact (show Tryd.prog.wantsStandIn 22 = false by kernel_rfl)
        · simp at ht⟩)
    (by kernel_rfl)
end Go.Proofs.YtpaedkefmebjjadDoor.fnImage
namespace Go.Proofs.YtpaedkefmebjjadDoor
theorem fnImage_holds : Rows.FnImageCardSaid := fnImage.card
end Go.Proofs.YtpaedkefmebjjadDoor
