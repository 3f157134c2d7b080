/- At every row of bytes ImageRead of the program answers as ImageRead of the specification, turns nothing of its argument, and its answer owns its memory. -/
import Derived.Test.YtpaedkefmebjjajDoorRows
import Derived.Test.YtpaedkefmebjjajDoorP2
import Derived.Test.YtpaedkefmebjjajDoorQ2
import Derived.Test.YtpaedkefmebjjajDoorCards
import Derived.Test.YtpaedkefmebjjajDoorTie
import Derived.ChangeSame
import Derived.ChangeVars
import Derived.JoinedOf
import Derived.RowKit
import Derived.RowKitTokens
import Derived.LaidLaws
import Derived.LaidHandle
import Derived.Stop.Joined
import Derived.SevenTiedAt
import Derived.OpenVars
import Derived.WalkKit
import Derived.ProofKit
import Derived.OpenShut
import Derived.ShutString
import Derived.ChangeOld
import Derived.Below
import Derived.Deep.RegionWith
namespace Go.Proofs.YtpaedkefmebjjajDoor.fnExactImageRead
open Go.ChangeShapes Go.WideShapes Go.ChangeAt Go.RowKit
open Go.ChangeMaps (open_string shut_string)
set_option linter.unusedVariables false
theorem own : ownKnob Tryd.prog.godebug = none := by kernel_rfl
theorem laidOut : laidOutB Tryd.prog = true := by kernel_rfl
set_option maxHeartbeats 1000000 in
theorem walk (s0 : Option Addr) (n0 c0 : Nat) (f0 : Nat → Int) (w : World) (w0 : n0 ≤ 9223372036854775807 ∧ RowOf .u8 w s0 n0 f0 ∧ ∀ i, i < n0 → (Lit.int .u8 (f0 i)).wf = true) (hg : w.cell? ⟨0, 0, none⟩ = some handleV) :
    Calls Tryd.prog 3 #[.slice s0 n0 c0] w fun e w' => e = .returned (.bool true) ∧ Below w.heap.size w w' := by
  obtain ⟨hn63, hrow, hwf⟩ := w0
  by_cases hbig : (1048576 : Int) < (n0 : Int)
  · go_enter Tryd.func3, Tryd.ntmps3
    go_wp2
    go_ret
    exact ⟨rfl, Below.refl _ _⟩
  · have hn : n0 ≤ 1048576 := by omega
    have hby : ∀ i, i < n0 → 0 ≤ f0 i ∧ f0 i ≤ 255 := fun i hi => by
      have h : IntKind.u8.min ≤ f0 i ∧ f0 i ≤ IntKind.u8.max := by simpa [Lit.wf] using hwf i hi
      exact ⟨h.1, h.2⟩
    have hI : Ints .u8 w (fun b _ => b < w.heap.size) (.slice s0 n0 c0) n0 f0 := ⟨_, _, rfl, hn, hrow, fun b o h => hrow.lt h⟩
    clear hwf
    have hg0 : 0 < w.heap.size := block_lt_of_cell hg
    go_enter Tryd.func3, Tryd.ntmps3
    go_wp2_with fail
    refine (toByteS _ _ _ n0 f0 hI).mono ?_
    rintro e w1 ⟨rfl, R1, s1, L1⟩
    have B1 : Bytes w1 (some ⟨w.heap.size, 0, none⟩) n0 f0 := ⟨fun i hi => ⟨_, _, rfl, by rw [Nat.zero_add]; exact R1.cell hi⟩, hn, hby⟩
    go_wp2_with fail
    refine (specImageRead _ _ n0 n0 f0 B1 (Nat.le_refl _)).mono ?_
    rintro e w2 ⟨v2, ra2, rc2, rfl, O2, L2⟩
    have C2 := L1.trans (L2.mono L1.size)
    obtain ⟨va2, vc2, rfl, -, -⟩ := O2.sep.outer
    have I2 := O2.ints.mono (G := fun b _ => b < w2.heap.size) (fun b o h _ => h)
    have HI2 := hide I2
    clear O2 L2 R1 B1 I2
    generalize hM : rdM n0 f0 = M at *
    generalize hC : rdC n0 f0 = C at *
    have LA : Below w2.heap.size w2 (w2.alloc (.cells #[.slice va2 M vc2] 25)) := (Below.refl _ _).alloc (Nat.le_refl _) _
    have CA := C2.trans (LA.mono C2.size)
    have x0a : (w2.alloc (.cells #[.slice va2 M vc2] 25)).cell? ⟨w2.heap.size, 0, none⟩ = some (.slice va2 M vc2) := by go_simp
    have IA := (unhide HI2).keep (wrote_below LA Nowhere) (fun _ _ _ x => x)
    have za : (w2.alloc (.cells #[.slice va2 M vc2] 25)).heap.size = w2.heap.size + 1 := by simp
    go_wp2_with fail
    generalize w2.alloc (.cells #[.slice va2 M vc2] 25) = wa at *
    refine (toByteS _ _ _ n0 f0 (hI.keep (wrote_below CA Nowhere) (fun _ _ _ x => x))).mono ?_
    rintro e w3 ⟨rfl, R3, s3, L3⟩
    rw [za] at R3 s3
    have C3 := CA.trans (L3.mono CA.size)
    have x03 : w3.cell? ⟨w2.heap.size, 0, none⟩ = some (.slice va2 M vc2) := (L3.cell (by show w2.heap.size < _; omega)).trans x0a
    have I3 := IA.keep (wrote_below L3 Nowhere) (fun _ _ _ x => x)
    have B3 : Bytes w3 (some ⟨w2.heap.size + 1, 0, none⟩) n0 f0 := ⟨fun i hi => ⟨_, _, rfl, by rw [Nat.zero_add]; exact R3.cell hi⟩, hn, hby⟩
    have hg3 : w3.cell? ⟨0, 0, none⟩ = some handleV := (C3.cell hg0).trans hg
    clear IA x0a LA L3
    go_wp2_with fail
    refine (implImageRead _ _ n0 n0 f0 B3 (Nat.le_refl _) hg3).mono ?_
    rintro e w4 ⟨v4, ra4, rc4, rfl, O4, L4⟩
    rw [hM] at O4
    rw [hC]
    obtain ⟨va4, vc4, rfl, -, -⟩ := O4.sep.outer
    have C4 := C3.trans (L4.mono C3.size)
    have x04 : w4.cell? ⟨w2.heap.size, 0, none⟩ = some (.slice va2 M vc2) := (L4.cell (by show w2.heap.size < _; omega)).trans x03
    have I4 := I3.keep (wrote_below L4 Nowhere) (fun _ _ _ x => x)
    have R4 := R3.of_block (L4.block (w2.heap.size + 1) (by omega))
    have z4 : w3.heap.size ≤ w4.heap.size := L4.size
    have hg4 : w4.cell? ⟨0, 0, none⟩ = some handleV := (C4.cell hg0).trans hg
    have hbox : ∀ b o, (∃ i, i < M ∧ Foot (ra4 i) 256 b o) → b ≠ w4.heap.size := fun b o ⟨i, hi, hF⟩ => by have := (O4.sep.free i hi b o hF).1; omega
    have HO4 := hide O4
    clear L4 O4 x03 I3 R3 B3 hg3
    have LB : Below w4.heap.size w4 (w4.alloc (.cells #[.slice va4 M vc4] 25)) := (Below.refl _ _).alloc (Nat.le_refl _) _
    have C5 := C4.trans (LB.mono C4.size)
    have y5 : (w4.alloc (.cells #[.slice va4 M vc4] 25)).cell? ⟨w4.heap.size, 0, none⟩ = some (.slice va4 M vc4) := by go_simp
    have x05 := (LB.cell (show w2.heap.size < w4.heap.size by omega)).trans x04
    have I5 := I4.keep (wrote_below LB Nowhere) (fun _ _ _ x => x)
    have O5 := (unhide HO4).keep (wrote_below LB Nowhere) (fun _ _ x => absurd x id)
    have R5 := R4.of_block (LB.block (w2.heap.size + 1) (by omega))
    have z5 : (w4.alloc (.cells #[.slice va4 M vc4] 25)).heap.size = w4.heap.size + 1 := by simp
    have HO5 := hide O5
    clear x04 I4 R4 HO4 O5 LB
    go_wp2_with fail
    generalize w4.alloc (.cells #[.slice va4 M vc4] 25) = w5 at *
    have hcc : (C != C) = false := by simp
    refine (eqImage _ _ _ _ _ M M (fun _ => 256) (fun _ => 256) (rdF f0) (rdF f0) (unhide HO5).ints I5).mono ?_
    rintro e w6 ⟨rfl, L6⟩
    rw [eqIntss_refl]
    have C6 := C5.trans (L6.mono C5.size)
    have x06 : w6.cell? ⟨w2.heap.size, 0, none⟩ = some (.slice va2 M vc2) := (L6.cell (by show w2.heap.size < _; omega)).trans x05
    have y6 : w6.cell? ⟨w4.heap.size, 0, none⟩ = some (.slice va4 M vc4) := (L6.cell (by show w4.heap.size < _; omega)).trans y5
    have I6 := I5.keep (wrote_below L6 Nowhere) (fun _ _ _ x => x)
    have HO6 := hide ((unhide HO5).keep (wrote_below L6 Nowhere) (fun _ _ x => absurd x id))
    have R6 := R5.of_block (L6.block (w2.heap.size + 1) (by omega))
    have z6 : w5.heap.size ≤ w6.heap.size := L6.size
    clear L6 x05 y5 I5 HO5 R5
    go_wp2_with fail
    refine (toByteS _ _ _ n0 f0 (hI.keep (wrote_below C6 Nowhere) (fun _ _ _ x => x))).mono ?_
    rintro e w7 ⟨rfl, Q7, s7, L7⟩
    have C7 := C6.trans (L7.mono C6.size)
    have x07 : w7.cell? ⟨w2.heap.size, 0, none⟩ = some (.slice va2 M vc2) := (L7.cell (by show w2.heap.size < _; omega)).trans x06
    have y7 : w7.cell? ⟨w4.heap.size, 0, none⟩ = some (.slice va4 M vc4) := (L7.cell (by show w4.heap.size < _; omega)).trans y6
    have I7 := I6.keep (wrote_below L7 Nowhere) (fun _ _ _ x => x)
    have HO7 := hide ((unhide HO6).keep (wrote_below L7 Nowhere) (fun _ _ x => absurd x id))
    have R7 := R6.of_block (L7.block (w2.heap.size + 1) (by omega))
    have K7 : Ints .u8 w7 (fun _ _ => True) (.slice (some ⟨w2.heap.size + 1, 0, none⟩) n0 n0) n0 f0 := ⟨_, _, rfl, hn, fun i hi => ⟨_, _, rfl, by rw [Nat.zero_add]; exact R7.cell hi⟩, fun _ _ _ => trivial⟩
    have J7 : Ints .u8 w7 (fun _ _ => True) (.slice (some ⟨w6.heap.size, 0, none⟩) n0 n0) n0 f0 := ⟨_, _, rfl, hn, fun i hi => ⟨_, _, rfl, by rw [Nat.zero_add]; exact Q7.cell hi⟩, fun _ _ _ => trivial⟩
    clear L7 x06 y6 I6 HO6 R6 Q7
    go_wp2_with fail
    refine (eqByteS _ _ _ _ _ n0 n0 f0 f0 K7 J7).mono ?_
    rintro e wx ⟨rfl, d8, hwx⟩
    rw [eqInts_refl]
    have L8 : Below w7.heap.size w7 wx := hwx ▸ below_drewN w7 d8
    have C8 := C7.trans (L8.mono C7.size)
    have x08 : wx.cell? ⟨w2.heap.size, 0, none⟩ = some (.slice va2 M vc2) := (L8.cell (by show w2.heap.size < _; omega)).trans x07
    have y8 : wx.cell? ⟨w4.heap.size, 0, none⟩ = some (.slice va4 M vc4) := (L8.cell (by show w4.heap.size < _; omega)).trans y7
    have I8 := I7.keep (wrote_below L8 Nowhere) (fun _ _ _ x => x)
    have HO8 := hide ((unhide HO7).keep (wrote_below L8 Nowhere) (fun _ _ x => absurd x id))
    have R8 := R7.of_block (L8.block (w2.heap.size + 1) (by omega))
    have z8 : w7.heap.size ≤ wx.heap.size := L8.size
    clear hwx L8 x07 y7 I7 HO7 R7 K7 J7
    go_wp2_with fail
    refine (markByteS _ (some ⟨w2.heap.size + 1, 0, none⟩) n0 n0 f0 1 (fun i hi => ⟨_, _, rfl, by rw [Nat.zero_add]; exact R8.cell hi⟩) (fun b o hF => by
      obtain ⟨off, e, _⟩ := hF
      simp only [Option.some.injEq, Addr.mk.injEq, and_true] at e
      obtain ⟨rfl, rfl⟩ := e
      exact ⟨R8.lt, R8.frozen o⟩) (by omega) (by omega)).mono ?_
    rintro e w9 ⟨rfl, -, W9, s9⟩
    have hfo : ∀ b o, Foot (some ⟨w2.heap.size + 1, 0, none⟩) n0 b o → b = w2.heap.size + 1 := fun b o ⟨off, e, _⟩ => by
      simp only [Option.some.injEq, Addr.mk.injEq, and_true] at e
      exact e.1.symm
    have C9 := C8.trans (W9.below C8.size (fun b o hb h => by have := hfo b o h; have := C2.size; omega))
    have x09 : w9.cell? ⟨w2.heap.size, 0, none⟩ = some (.slice va2 M vc2) := (W9.cell _ _ (by omega) (fun h => by have := hfo _ _ h; omega)).trans x08
    have y9 : w9.cell? ⟨w4.heap.size, 0, none⟩ = some (.slice va4 M vc4) := (W9.cell _ _ (by omega) (fun h => by have := hfo _ _ h; omega)).trans y8
    have I9 := I8.keep W9 (fun b o h h' => by have := hfo b o h'; omega)
    have HO9 := hide ((unhide HO8).keep W9 (fun b o h => by have := hfo b o h; omega))
    clear W9 x08 y8 I8 HO8 R8
    have hk1 : decide ((1 : Int) + n0 < 0) = false := decide_eq_false (by omega)
    go_wp2_with fail
    refine (eqImage _ _ _ _ _ M M (fun _ => 256) (fun _ => 256) (rdF f0) (rdF f0) (unhide HO9).ints I9).mono ?_
    rintro e w10 ⟨rfl, L10⟩
    rw [eqIntss_refl]
    have C10 := C9.trans (L10.mono C9.size)
    have x10 : w10.cell? ⟨w2.heap.size, 0, none⟩ = some (.slice va2 M vc2) := (L10.cell (by show w2.heap.size < _; omega)).trans x09
    have y10 : w10.cell? ⟨w4.heap.size, 0, none⟩ = some (.slice va4 M vc4) := (L10.cell (by show w4.heap.size < _; omega)).trans y9
    have I10 := I9.keep (wrote_below L10 Nowhere) (fun _ _ _ x => x)
    have HO10 := hide ((unhide HO9).keep (wrote_below L10 Nowhere) (fun _ _ x => absurd x id))
    have z10 : w9.heap.size ≤ w10.heap.size := L10.size
    clear L10 x09 y9 I9 HO9
    go_wp2_with fail
    refine (markImage _ _ M ra4 (fun _ => 256) rc4 (rdF f0) 1 (unhide HO10).sep (unhide HO10).rows (by omega) (by omega)).mono ?_
    rintro e w11 ⟨rfl, M11, W11⟩
    have hfi : ∀ b o, (∃ i, i < M ∧ Foot (ra4 i) 256 b o) → w3.heap.size ≤ b := fun b o ⟨i, hi, hF⟩ => (unhide HO10).inner i hi b o hF
    have hfz : ∀ b o, (∃ i, i < M ∧ Foot (ra4 i) 256 b o) → b ≠ w4.heap.size := hbox
    have C11 := C10.trans (W11.below C10.size (fun b o hb h => by have := hfi b o h; have := C2.size; omega))
    have x11 : w11.cell? ⟨w2.heap.size, 0, none⟩ = some (.slice va2 M vc2) := (W11.cell _ _ (by omega) (fun h => by have := hfi _ _ h; omega)).trans x10
    have y11 : w11.cell? ⟨w4.heap.size, 0, none⟩ = some (.slice va4 M vc4) := (W11.cell _ _ (by omega) (fun h => hfz _ _ h rfl)).trans y10
    have I11 := I10.keep W11 (fun b o h h' => by have := hfi b o h'; omega)
    have O11 : OwnSS w11 w3.heap.size (.slice va4 M vc4) M ra4 (fun _ => 256) rc4 (fun i j => 1 + psum (fun _ => 256) i + j) := ⟨(unhide HO10).sep.keep W11 (fun _ _ x => x), M11, (unhide HO10).inner, (unhide HO10).outer, (unhide HO10).len⟩
    have HO11 := hide O11
    have z11 : w10.heap.size ≤ w11.heap.size := W11.size
    clear W11 x10 y10 I10 HO10 O11 M11 hfi hfz hbox
    go_wp2_with fail
    refine (heldImage _ _ M ra4 (fun _ => 256) rc4 1 (unhide HO11).sep (unhide HO11).rows (by omega) (by omega)).mono ?_
    rintro e w12 ⟨rfl, L12⟩
    have C12 := C11.trans (L12.mono C11.size)
    have x12 : w12.cell? ⟨w2.heap.size, 0, none⟩ = some (.slice va2 M vc2) := (L12.cell (by show w2.heap.size < _; omega)).trans x11
    have y12 : w12.cell? ⟨w4.heap.size, 0, none⟩ = some (.slice va4 M vc4) := (L12.cell (by show w4.heap.size < _; omega)).trans y11
    have I12 := I11.keep (wrote_below L12 Nowhere) (fun _ _ _ x => x)
    have HO12 := hide ((unhide HO11).keep (wrote_below L12 Nowhere) (fun _ _ x => absurd x id))
    have z12 : w11.heap.size ≤ w12.heap.size := L12.size
    clear L12 x11 y11 I11 HO11
    have hq1 : decide ((1 : Int) + (psum (fun _ => 256) M : Int) < 0) = false := decide_eq_false (by omega)
    have hq2 : (((1 : Int) + (psum (fun _ => 256) M : Int)) != ((1 : Int) + (psum (fun _ => 256) M : Int))) = false := by simp
    generalize hP : (psum (fun _ => 256) M : Int) = P at *
    go_wp2_with fail
    refine (toByteS _ _ _ n0 f0 (hI.keep (wrote_below C12 Nowhere) (fun _ _ _ x => x))).mono ?_
    rintro e w13 ⟨rfl, R13, s13, L13⟩
    have C13 := C12.trans (L13.mono C12.size)
    have x13 : w13.cell? ⟨w2.heap.size, 0, none⟩ = some (.slice va2 M vc2) := (L13.cell (by show w2.heap.size < _; omega)).trans x12
    have y13 : w13.cell? ⟨w4.heap.size, 0, none⟩ = some (.slice va4 M vc4) := (L13.cell (by show w4.heap.size < _; omega)).trans y12
    have I13 := I12.keep (wrote_below L13 Nowhere) (fun _ _ _ x => x)
    have HO13 := hide ((unhide HO12).keep (wrote_below L13 Nowhere) (fun _ _ x => absurd x id))
    have B13 : Bytes w13 (some ⟨w12.heap.size, 0, none⟩) n0 f0 := ⟨fun i hi => ⟨_, _, rfl, by rw [Nat.zero_add]; exact R13.cell hi⟩, hn, hby⟩
    have hg13 : w13.cell? ⟨0, 0, none⟩ = some handleV := (C13.cell hg0).trans hg
    clear L13 x12 y12 I12 HO12
    go_wp2_with fail
    refine (implImageRead _ _ n0 n0 f0 B13 (Nat.le_refl _) hg13).mono ?_
    rintro e w14 ⟨v14, ra14, rc14, rfl, O14, L14⟩
    rw [hM] at O14
    rw [hC]
    obtain ⟨va14, vc14, rfl, -, -⟩ := O14.sep.outer
    have C14 := C13.trans (L14.mono C13.size)
    have x14 : w14.cell? ⟨w2.heap.size, 0, none⟩ = some (.slice va2 M vc2) := (L14.cell (by show w2.heap.size < _; omega)).trans x13
    have y14 : w14.cell? ⟨w4.heap.size, 0, none⟩ = some (.slice va4 M vc4) := (L14.cell (by show w4.heap.size < _; omega)).trans y13
    have I14 := I13.keep (wrote_below L14 Nowhere) (fun _ _ _ x => x)
    have HO14 := hide ((unhide HO13).keep (wrote_below L14 Nowhere) (fun _ _ x => absurd x id))
    have z14 : w13.heap.size ≤ w14.heap.size := L14.size
    have HH14 := hide O14
    clear L14 O14 x13 y13 I13 HO13 B13 hg13 R13
    have LD : Below w14.heap.size w14 (w14.alloc (.cells #[.slice va14 M vc14] 25)) := (Below.refl _ _).alloc (Nat.le_refl _) _
    have C15 := C14.trans (LD.mono C14.size)
    have v15 : (w14.alloc (.cells #[.slice va14 M vc14] 25)).cell? ⟨w14.heap.size, 0, none⟩ = some (.slice va14 M vc14) := by go_simp
    have x15 := (LD.cell (show w2.heap.size < w14.heap.size by omega)).trans x14
    have y15 := (LD.cell (show w4.heap.size < w14.heap.size by omega)).trans y14
    have I15 := I14.keep (wrote_below LD Nowhere) (fun _ _ _ x => x)
    have HO15 := hide ((unhide HO14).keep (wrote_below LD Nowhere) (fun _ _ x => absurd x id))
    have HH15 := hide ((unhide HH14).keep (wrote_below LD Nowhere) (fun _ _ x => absurd x id))
    have z15 : (w14.alloc (.cells #[.slice va14 M vc14] 25)).heap.size = w14.heap.size + 1 := by simp
    clear x14 y14 I14 HO14 HH14 LD
    go_wp2_with fail
    generalize w14.alloc (.cells #[.slice va14 M vc14] 25) = w15 at *
    refine (eqImage _ _ _ _ _ M M (fun _ => 256) (fun _ => 256) (rdF f0) (rdF f0) (unhide HH15).ints I15).mono ?_
    rintro e w16 ⟨rfl, L16⟩
    rw [eqIntss_refl]
    have C16 := C15.trans (L16.mono C15.size)
    have y16 : w16.cell? ⟨w4.heap.size, 0, none⟩ = some (.slice va4 M vc4) := (L16.cell (by show w4.heap.size < _; omega)).trans y15
    have HO16 := hide ((unhide HO15).keep (wrote_below L16 Nowhere) (fun _ _ x => absurd x id))
    clear L16 x15 y15 I15 HO15 HH15
    go_wp2_with fail
    refine (heldImage _ _ M ra4 (fun _ => 256) rc4 1 (unhide HO16).sep (unhide HO16).rows (by omega) (by omega)).mono ?_
    rintro e w17 ⟨rfl, L17⟩
    have C17 := C16.trans (L17.mono C16.size)
    rw [hP]
    go_wp2
    go_ret
    exact ⟨rfl, C17⟩
theorem et : Tryd.prog.globalNamed "errors.errorType" = some 0 := by kernel_rfl
theorem rt : (Tryd.prog.cutTypes.find? (·.1 == "internal/reflectlite.rtype")).map (·.2) = some 77 := by kernel_rfl
theorem oneRow : ((List.range 123).filter fun t => Tryd.prog.rowNamed t [101, 114, 114, 111, 114]) = [40] := by kernel_rfl
theorem tsize : Tryd.prog.types.size = 123 := by kernel_rfl
theorem handle_of_laid {W : World} (h : laidMetH Tryd.prog Rows.fnExactImageReadRow.laid W) : W.cell? ⟨0, 0, none⟩ = some handleV := by
  have h' : laidMet Tryd.prog [] W ∧ handlesMet Tryd.prog [("errors.errorType", Rows.laid_errors_errorType)] W := h
  obtain ⟨name, u, ty, e1, e2, e3, e4, e5⟩ := h'.2 _ (List.mem_singleton.2 rfl)
  have en : name = [101, 114, 114, 111, 114] := (Option.some.inj e1).symm
  subst en
  obtain rfl := Option.some.inj (rt.symm.trans e2)
  have hm : ty ∈ (List.range 123).filter fun t => Tryd.prog.rowNamed t [101, 114, 114, 111, 114] := List.mem_filter.2 ⟨List.mem_range.2 (by rw [← tsize]; exact e3), e4⟩
  rw [oneRow] at hm
  obtain rfl := List.mem_singleton.1 hm
  have hh : typeHandle Tryd.prog 40 = .pointer (some ⟨2, 40, none⟩) := by kernel_rfl
  rw [hh] at e5
  simpa [handleV] using World.var?_cell et e5 0
noncomputable def laidWorld (os : Os) : World :=
  let w0 := World.holding Tryd.prog os ⟨#[], #[], []⟩
  let w0 := { w0 with heap := w0.heap.modify 0 fun
      | .cells _ t frozen => .cells #[.iface 77 (.agg #[.pointer (some ⟨2, 40, none⟩)])] t frozen
      | o => o }
  w0
set_option maxRecDepth 100000 in
theorem laidWorld_met (os : Os) (args : Array Value) : laidMetH Tryd.prog Rows.fnExactImageReadRow.laid ((laidWorld os).forCall (fun _ _ => 0) ⟨#[], args, []⟩).memory :=
  laidMetH_of_parts (laidMet_nil _ _) (by kernel_rfl)
set_option maxRecDepth 100000 in
theorem lifted (os : Os) (started : os.Started) (H : Type) (enc : TypeId × Value → H) :
    ReturnsInHanded {} Tryd.checked os 3 .any (fun w args => (Rows.fnExactImageReadSpec.pre enc Tryd.prog Tryd.f3 [] false w args ∧ laidMetH Tryd.prog Rows.fnExactImageReadRow.laid w) ∧ sizedMet enc Tryd.prog Tryd.f3 (OpenSpec.ofChange Rows.fnExactImageReadSpec) false w args)
      (Rows.fnExactImageReadSpec.post enc Tryd.prog Tryd.f3 false true false false) := by
  refine returnsInHanded_of_change_and (C := Tryd.checked) (X := fun w _ => laidMetH Tryd.prog Rows.fnExactImageReadRow.laid w) (fun _ _ _ hh h => h.of_heap hh) own started (by kernel_rfl) Tryd.func3
    (ChangeSpec.witness_at (enc := enc) (C := Tryd.checked) (os := os) (X := fun w _ => laidMetH Tryd.prog Rows.fnExactImageReadRow.laid w) false (laidWorld os) #[.slice none 0 0] 8 rfl (by kernel_rfl) (by kernel_rfl) (by kernel_rfl) (by kernel_rfl) (by kernel_rfl) (laidWorld_met os _)) ?_
  intro W base args ds gs before hval0 hW _ _ hL _
  have hg := handle_of_laid hL
  have hval : ∀ (j : Nat) t v, Tryd.f3.params[j]? = some t → args[j]? = some v → Value.okWide Tryd.prog W .any base t v := hval0
  have hW' := hW
  obtain ⟨p, q, hA0, hV, rfl, hfz, hnd⟩ := hW
  have hA : DataW.TrodAll enc Tryd.prog W 0 (fun _ => true) true Tryd.f3.params.toList args.toList ds p := hA0
  rw [Tryd.params3] at hA hval
  obtain ⟨v0, vs0, d0, ds0, p0, q0, hargs, rfl, rfl, h0, r0⟩ := trodAll_cons hA
  obtain ⟨rfl, rfl, rfl⟩ := trodAll_nil r0
  obtain rfl : args = #[v0] := by cases args; simp_all
  obtain ⟨rfl, rfl⟩ := trodVars_none hV
  have k0 := h0
  have lt0 : ∀ x ∈ p0, x.block < W.heap.size := by obtain ⟨m, hm⟩ := k0; exact DataW.trod_lt m _ _ _ hm
  obtain ⟨s0, n0, c0, rfl⟩ := okWide_slice Tryd.underlying22 (hval 0 22 v0 rfl rfl)
  obtain ⟨f0, w0⟩ := openInts (k := .u8) Tryd.underlying22 Tryd.underlying5 (by kernel_rfl) h0
  clear hA0 hval0
  refine (walk s0 n0 c0 f0 W w0 hg).mono fun e W' ⟨he, bel⟩ => ?_
  subst he
  exact ⟨_, rfl, _, _, _, [], _, [], hW', trodAll_mk1 (shut_bool Tryd.underlying4 _), (trodAll_cons_mk (Below.trod laidOut (by kernel_rfl) (of_decide_eq_true (by kernel_rfl)) k0 bel lt0) trodAll_mk0), rfl, bel.frame _, fun h => by cases h⟩
theorem over : Rows.fnExactImageReadRow.holds Tryd.pinned (OpenSpec.ofChange Rows.fnExactImageReadSpec) :=
  OpenClaim.holds_of_wide 3 Tryd.f3 rfl rfl rfl rfl rfl rfl rfl ⟨rfl, rfl, rfl, rfl, rfl⟩ rfl rfl rfl rfl rfl (by kernel_rfl) Tryd.func3 (by kernel_rfl)
    (of_decide_eq_true (by kernel_rfl)) (by unfold Func.isWrapper; first | (rw [if_pos (by decide +kernel)]; kernel_rfl) | (rw [if_neg (by decide +kernel)]; exact ⟨rfl, rfl⟩))
    (fun os started H enc _ => lifted os started H enc)
theorem card : Rows.FnExactImageReadCardSaid :=
  Claim7.holds_tied_plain_at .later [] [.handle] true (true, "11f467cb505c76b3d68bb6f7bcb4676ed77fbc9b97defc3d59059d91f72d018b") true
    over (fun _ h => by cases h) (by kernel_rfl) (fun _ h => by cases h) fnExactImageRead_row_tie rfl ⟨rfl, rfl⟩ (by kernel_rfl) rfl
    (fun f fn hf hfn => by
      obtain rfl : f = 3 := Option.some.inj ((show Tryd.prog.funcNamed "loop.example/g00231/laws.FnExactImageRead" = some 3 by kernel_rfl).symm.trans hf) |>.symm
      obtain rfl : fn = Tryd.f3 := (Option.some.inj (Tryd.func3.symm.trans hfn)).symm
      exact ⟨by kernel_rfl, fun j t ht => by
        rw [Tryd.params3] at ht
        rcases j with _ | j
        · obtain rfl : t = 22 := by simpa using ht.symm
          exact (show Tryd.prog.wantsStandIn 22 = false by kernel_rfl)
        · simp at ht⟩)
    (by kernel_rfl)
end Go.Proofs.YtpaedkefmebjjajDoor.fnExactImageRead
namespace Go.Proofs.YtpaedkefmebjjajDoor
theorem fnExactImageRead_holds : Rows.FnExactImageReadCardSaid := fnExactImageRead.card
end Go.Proofs.YtpaedkefmebjjajDoor
