/- At every image of the mirror's type that is not too great and every integer of 64 bits BankOf of the program answers as BankOf of the specification, turns nothing of its argument, and its answer owns its memory. -/
import Derived.Test.YtpaedkefmebjjajRows
import Derived.Test.YtpaedkefmebjjajJ2
import Derived.Test.YtpaedkefmebjjajQ2
import Derived.WalkKit
import Derived.ProofKit
import Derived.OpenShut
import Derived.ShutString
import Derived.ChangeOld
import Derived.Below
import Derived.Deep.RegionWith
namespace Go.Proofs.Ytpaedkefmebjjaj.fnExactBankOf
open Go.ChangeShapes Go.WideShapes Go.ChangeAt Go.RowKit
open Go.ChangeMaps (open_string shut_string)
set_option linter.unusedVariables false
theorem own : ownKnob Try.prog.godebug = none := by kernel_rfl
theorem laidOut : laidOutB Try.prog = true := by kernel_rfl
set_option maxHeartbeats 1000000 in
theorem walk (u0 : Value) (m0 : Nat) (ra0 : Nat → Option Addr) (ln0 rc0 : Nat → Nat) (f0 : Nat → Nat → Int) (a1 : Int) (w : World) (w0 : RawSS w u0 m0 ra0 ln0 rc0 f0) (w1 : (Lit.int .i64 a1).wf = true) :
    Calls Try.prog 6 #[.agg #[u0], .int .i64 a1] w fun e w' => e = .returned (.bool true) ∧ Below w.heap.size w w' := by
  have L0 : Below w.heap.size w (w.alloc (.cells #[u0] 26)) := (Below.refl _ _).alloc (Nat.le_refl _) _
  by_cases hbig : (1048576 : Int) < ((m0 + psum ln0 m0 : Nat) : Int)
  · go_enter Try.func6, Try.ntmps6
    go_wp2_with fail
    refine (szImage _ u0 m0 ra0 ln0 rc0 f0 (w0.below L0) 1048576 (by omega) (by omega)).mono ?_
    rintro e w1 ⟨rfl, L1⟩
    rw [szOut_no hbig]
    go_wp2
    go_ret
    exact ⟨rfl, L0.trans (L1.mono (by simp))⟩
  · have hsm : m0 + psum ln0 m0 ≤ 1048576 := by omega
    have hI := w0.ints hsm
    have hz : szOut 1048576 (m0 + psum ln0 m0) = 1048576 - ((m0 + psum ln0 m0 : Nat) : Int) := szOut_ok (by omega)
    have hnn : ¬ (1048576 - ((m0 + psum ln0 m0 : Nat) : Int) < 0) := by omega
    have HZ := hide hz
    clear hz
    go_enter Try.func6, Try.ntmps6
    go_wp2_with fail
    refine (szImage _ u0 m0 ra0 ln0 rc0 f0 (w0.below L0) 1048576 (by omega) (by omega)).mono ?_
    rintro e w1 ⟨rfl, L1⟩
    rw [unhide HZ]
    have C1 := L0.trans (L1.mono (by simp))
    have z1 : w.heap.size < w1.heap.size := by have := L1.size; simp at this; omega
    have b1 : w1.cell? ⟨w.heap.size, 0, none⟩ = some u0 := (L1.cell (by simp)).trans (by go_simp)
    clear L1
    go_wp2_with fail
    refine (toImage _ _ u0 m0 ln0 f0 (hI.keep (wrote_below C1 Nowhere) (fun _ _ _ x => x))).mono ?_
    rintro e w2 ⟨p0, hb0, rfl, R2, s2, L2⟩
    have C2 := C1.trans (L2.mono C1.size)
    have z2 : w.heap.size < w2.heap.size := Nat.lt_of_lt_of_le z1 L2.size
    have b2 : w2.cell? ⟨w.heap.size, 0, none⟩ = some u0 := (L2.cell z1).trans b1
    clear L2 b1
    go_wp2_with fail
    refine (specBankOf _ _ _ m0 ln0 f0 a1 (R2.ints hsm)).mono ?_
    rintro e w3 ⟨v3, rfl, ⟨sa, sc, rfl, sn, sR, sF, sL⟩, L3⟩
    generalize hN : bankLen m0 ln0 f0 = N at *
    generalize hG : f0 (bankIx m0 a1) = G at *
    have C3 := C2.trans (L3.mono C2.size)
    have z3 : w.heap.size < w3.heap.size := Nat.lt_of_lt_of_le z2 L3.size
    have b3 : w3.cell? ⟨w.heap.size, 0, none⟩ = some u0 := (L3.cell z2).trans b2
    have sU : Hid (∀ b o, Foot sa N b o → b < w3.heap.size) := fun b o h => (sF b o h).1
    clear R2 s2 L3 b2 sF sL
    go_wp2_with fail
    refine (toImage _ _ u0 m0 ln0 f0 (hI.keep (wrote_below C3 Nowhere) (fun _ _ _ x => x))).mono ?_
    rintro e w4 ⟨p1, hb1, rfl, R4, s4, L4⟩
    have C4 := C3.trans (L4.mono C3.size)
    have z4 : w.heap.size < w4.heap.size := Nat.lt_of_lt_of_le z3 L4.size
    have b4 : w4.cell? ⟨w.heap.size, 0, none⟩ = some u0 := (L4.cell z3).trans b3
    have sR4 := sR.keep (wrote_below L4 Nowhere) (fun _ _ _ x => x)
    clear L4 b3 sR
    go_wp2_with fail
    have LA : Below w4.heap.size w4 (w4.alloc (.cells #[.slice (some ⟨p1, 0, none⟩) m0 m0] 29)) := (Below.refl _ _).alloc (Nat.le_refl _) _
    have RA := R4.keep (wrote_below LA Nowhere) (fun _ _ _ _ x => x)
    refine (implBankOf _ _ _ m0 ln0 f0 a1 (RA.ints hsm)).mono ?_
    rintro e w5 ⟨v5, rfl, ⟨ga, gc, rfl, gn, gR, gF, gL⟩, L5'⟩
    rw [hN] at gR gF gL gn
    rw [hG] at gR
    rw [hN]
    have L5 := LA.trans (L5'.mono (by simp))
    have C5 := C4.trans (L5.mono C4.size)
    have z5 : w.heap.size < w5.heap.size := Nat.lt_of_lt_of_le z4 L5.size
    have b5 : w5.cell? ⟨w.heap.size, 0, none⟩ = some u0 := (L5.cell z4).trans b4
    have y5 : w4.heap.size < w5.heap.size := by have := L5'.size; simp at this; omega
    have x5 : w5.cell? ⟨w4.heap.size, 0, none⟩ = some (.slice (some ⟨p1, 0, none⟩) m0 m0) := (L5'.cell (by simp)).trans (by go_simp)
    have R5 := R4.keep (wrote_below L5 Nowhere) (fun _ _ _ _ x => x)
    have sR5 := sR4.keep (wrote_below L5 Nowhere) (fun _ _ _ x => x)
    have gL5 : Hid (∀ b o, Foot ga N b o → w4.heap.size < b) := fun b o h => by have := gL b o h; simp at this; omega
    clear R4 L5 b4 LA RA L5' gL sR4
    go_wp2_with fail
    refine (eqIntS _ (fun _ _ => True) (fun _ _ => True) _ _ N N G G ⟨_, _, rfl, gn, gR, fun _ _ _ => trivial⟩ ⟨_, _, rfl, sn, sR5, fun _ _ _ => trivial⟩).mono ?_
    rintro e w6 ⟨rfl, d6, rfl⟩
    rw [eqInts_refl]
    have L6 : Below w5.heap.size w5 (w5.drewN d6) := ⟨rfl, rfl, rfl, Nat.le_refl _, fun _ _ => rfl⟩
    generalize w5.drewN d6 = w6 at *
    have C6 := C5.trans (L6.mono C5.size)
    have z6 : w.heap.size < w6.heap.size := Nat.lt_of_lt_of_le z5 L6.size
    have b6 : w6.cell? ⟨w.heap.size, 0, none⟩ = some u0 := (L6.cell z5).trans b5
    have y6 : w4.heap.size < w6.heap.size := Nat.lt_of_lt_of_le y5 L6.size
    have x6 : w6.cell? ⟨w4.heap.size, 0, none⟩ = some (.slice (some ⟨p1, 0, none⟩) m0 m0) := (L6.cell y5).trans x5
    have R6 := R5.keep (wrote_below L6 Nowhere) (fun _ _ _ _ x => x)
    have sR6 := sR5.keep (wrote_below L6 Nowhere) (fun _ _ _ x => x)
    have gR6 := gR.keep (wrote_below L6 Nowhere) (fun _ _ _ x => x)
    have gF6 := gF.keep (wrote_below L6 Nowhere)
    clear L6 b5 x5 R5 sR5 gR gF
    go_wp2_with fail
    go_region_with (first | (go_at_call 11; refine (toImage _ _ u0 m0 ln0 f0 (hI.keep (wrote_below C6.drew Nowhere) (fun _ _ _ x => x))).mono ?_; rintro e w7 ⟨p2, hb2, rfl, R7, s7, L7⟩; have x7 : w7.cell? ⟨w4.heap.size, 0, none⟩ = some (.slice (some ⟨p1, 0, none⟩) m0 m0) := (L7.cell y6).trans x6; have R6' := R6.keep ((Wrote.refl Nowhere w6).drew.trans (wrote_below L7 Nowhere)) (fun _ _ _ _ x => x)) | (go_at_call 13; refine (eqImage _ _ _ _ _ m0 m0 ln0 ln0 f0 f0 (R6'.ints hsm) (R7.ints hsm)).mono ?_; rintro e w8 ⟨rfl, L8⟩; rw [eqIntss_refl]))
    all_goals
      have LB : Below w6.heap.size w6 w8 := ((Below.refl w6.heap.size w6).drew).trans (L7.trans (L8.mono L7.size))
      have C8 := C6.trans (LB.mono C6.size)
      have z8 : w.heap.size < w8.heap.size := Nat.lt_of_lt_of_le z6 LB.size
      have b8 : w8.cell? ⟨w.heap.size, 0, none⟩ = some u0 := (LB.cell z6).trans b6
      have x8 : w8.cell? ⟨w4.heap.size, 0, none⟩ = some (.slice (some ⟨p1, 0, none⟩) m0 m0) := (LB.cell y6).trans x6
      have R8 := R6.keep (wrote_below LB Nowhere) (fun _ _ _ _ x => x)
      have sR8 := sR6.keep (wrote_below LB Nowhere) (fun _ _ _ x => x)
      have gR8 := gR6.keep (wrote_below LB Nowhere) (fun _ _ _ x => x)
      have gF8 := gF6.keep (wrote_below LB Nowhere)
      clear LB L7 L8 b6 x6 x7 R6 R6' R7 sR6 gR6 gF6
      go_wp2_with fail
      refine (markImage _ _ m0 _ ln0 ln0 f0 1 (R8.sep hsm) (fun i hi => R8.rowOf i hi) (by omega) (by omega)).mono ?_
      rintro e w9 ⟨rfl, -, W9⟩
      have hfo : ∀ b o, (∃ i, i < m0 ∧ Foot (some ⟨p1 + 1 + i, 0, none⟩) (ln0 i) b o) → p1 ≤ b ∧ b < p1 + 1 + m0 := fun b o ⟨i, hi, off, e, _⟩ => by
        simp only [Option.some.injEq, Addr.mk.injEq, and_true] at e
        omega
      have C9 := C8.trans (W9.below C8.size (fun b o hb h => by have := hfo b o h; omega))
      have z9 : w.heap.size < w9.heap.size := Nat.lt_of_lt_of_le z8 W9.size
      have b9 : w9.cell? ⟨w.heap.size, 0, none⟩ = some u0 := (W9.cell _ _ z8 (fun h => by have := hfo _ _ h; omega)).trans b8
      have sR9 := sR8.keep W9 (fun b o h h' => by have := hfo b o h'; have := sU b o h; omega)
      have gR9 := gR8.keep W9 (fun b o h h' => by have := hfo b o h'; have := gL5 b o h; omega)
      have gF9 := gF8.keep W9
      clear W9 b8 x8 R8 sR8 gR8 gF8 hfo
      have hk1 : ¬ ((1 : Int) + psum ln0 m0 < 0) := by omega
      go_wp2_with fail
      refine (eqIntS _ (fun _ _ => True) (fun _ _ => True) _ _ N N G G ⟨_, _, rfl, gn, gR9, fun _ _ _ => trivial⟩ ⟨_, _, rfl, sn, sR9, fun _ _ _ => trivial⟩).mono ?_
      rintro e wx ⟨rfl, d9, rfl⟩
      rw [eqInts_refl]
      have LX : Below w9.heap.size w9 (w9.drewN d9) := ⟨rfl, rfl, rfl, Nat.le_refl _, fun _ _ => rfl⟩
      generalize w9.drewN d9 = w10 at *
      have C10 := C9.trans (LX.mono C9.size)
      have z10 : w.heap.size < w10.heap.size := Nat.lt_of_lt_of_le z9 LX.size
      have b10 : w10.cell? ⟨w.heap.size, 0, none⟩ = some u0 := (LX.cell z9).trans b9
      have sR10 := sR9.keep (wrote_below LX Nowhere) (fun _ _ _ x => x)
      have gR10 := gR9.keep (wrote_below LX Nowhere) (fun _ _ _ x => x)
      have gF10 := gF9.keep (wrote_below LX Nowhere)
      clear LX b9 sR9 gR9 gF9
      go_wp2_with fail
      refine (markIntS _ ga N gc G 1 gR10 gF10 (by omega) (by omega)).mono ?_
      rintro e w11 ⟨rfl, gR11, W11, -⟩
      have C11 := C10.trans (W11.below C10.size (fun b o hb h => by have := gL5 b o h; omega))
      have z11 : w.heap.size < w11.heap.size := Nat.lt_of_lt_of_le z10 W11.size
      have b11 : w11.cell? ⟨w.heap.size, 0, none⟩ = some u0 := (W11.cell _ _ z10 (fun h => by have := gL5 _ _ h; omega)).trans b10
      have sR11 := sR10.keep W11 (fun b o h h' => by have := gL5 b o h'; have := sU b o h; omega)
      clear W11 b10 sR10 gR10 gF10
      go_wp2_with fail
      refine (heldIntS _ ga N gc 1 gR11 (by omega) (by omega)).mono ?_
      rintro e wx ⟨rfl, rfl⟩
      have hq1 : ¬ ((1 : Int) + N < 0) := by omega
      have hq2 : (((1 : Int) + N) != ((1 : Int) + N)) = false := by simp
      go_wp2_with fail
      refine (toImage _ _ u0 m0 ln0 f0 (hI.keep (wrote_below C11 Nowhere) (fun _ _ _ x => x))).mono ?_
      rintro e w12 ⟨p3, hb3, rfl, R12, s12, L12⟩
      have C12 := C11.trans (L12.mono C11.size)
      have sR12 := sR11.keep (wrote_below L12 Nowhere) (fun _ _ _ x => x)
      have gR12 := gR11.keep (wrote_below L12 Nowhere) (fun _ _ _ x => x)
      clear L12 b11 sR11 gR11
      go_wp2_with fail
      refine (implBankOf _ _ _ m0 ln0 f0 a1 (R12.ints hsm)).mono ?_
      rintro e w13 ⟨v13, rfl, ⟨ha, hc, rfl, hn, hR, hF, hL⟩, L13⟩
      rw [hN] at hR hn
      rw [hG] at hR
      rw [hN]
      have C13 := C12.trans (L13.mono C12.size)
      have sR13 := sR12.keep (wrote_below L13 Nowhere) (fun _ _ _ x => x)
      have gR13 := gR12.keep (wrote_below L13 Nowhere) (fun _ _ _ x => x)
      clear L13 sR12 gR12 R12
      go_wp2_with fail
      refine (eqIntS _ (fun _ _ => True) (fun _ _ => True) _ _ N N G G ⟨_, _, rfl, hn, hR, fun _ _ _ => trivial⟩ ⟨_, _, rfl, sn, sR13, fun _ _ _ => trivial⟩).mono ?_
      rintro e wx ⟨rfl, d13, rfl⟩
      rw [eqInts_refl]
      have LX : Below w13.heap.size w13 (w13.drewN d13) := ⟨rfl, rfl, rfl, Nat.le_refl _, fun _ _ => rfl⟩
      generalize w13.drewN d13 = w14 at *
      have C14 := C13.trans (LX.mono C13.size)
      have gR14 := gR13.keep (wrote_below LX Nowhere) (fun _ _ _ x => x)
      clear LX gR13 sR13 hR hF hL
      go_wp2_with fail
      refine (heldIntS _ ga N gc 1 gR14 (by omega) (by omega)).mono ?_
      rintro e wx ⟨rfl, rfl⟩
      go_wp2
      go_ret
      exact ⟨rfl, C14⟩
set_option maxRecDepth 100000 in
theorem lifted (os : Os) (started : os.Started) (H : Type) (enc : TypeId × Value → H) :
    ReturnsInHanded {} Try.checked os 6 .any (Rows.fnExactBankOfSpec.pre6 enc Try.prog Try.f6 Rows.fnExactBankOfRow.domain false) (Rows.fnExactBankOfSpec.post enc Try.prog Try.f6 false true false false) := by
  refine returnsInHanded_of_change (C := Try.checked) own started (by kernel_rfl) Try.func6
    (ChangeSpec.witness6 (enc := enc) (C := Try.checked) false ⟨#[], #[.agg #[.slice none 0 0], .int .i64 0], []⟩ 8 (by kernel_rfl) (by kernel_rfl) (by kernel_rfl) (by kernel_rfl)) ?_
  intro W base args ds gs before hval0 hW hcnd _
  have hval : ∀ (j : Nat) t v, Try.f6.params[j]? = some t → args[j]? = some v → Value.okWide Try.prog W .any base t v := hval0
  have hW' := hW
  obtain ⟨p, q, hA0, hV, rfl, hfz, hnd⟩ := hW
  have hA : DataW.TrodAll enc Try.prog W 0 (fun _ => true) true Try.f6.params.toList args.toList ds p := hA0
  rw [Try.params6] at hA hval
  obtain ⟨v0, vs0, d0, ds0, p0, q0, hargs, rfl, rfl, h0, r0⟩ := trodAll_cons hA
  obtain ⟨v1, vs1, d1, ds1, p1, q1, rfl, rfl, rfl, h1, r1⟩ := trodAll_cons r0
  obtain ⟨rfl, rfl, rfl⟩ := trodAll_nil r1
  obtain rfl : args = #[v0, v1] := by cases args; simp_all
  obtain ⟨rfl, rfl⟩ := trodVars_none hV
  have k0 := h0
  have lt0 : ∀ x ∈ p0, x.block < W.heap.size := by obtain ⟨m, hm⟩ := k0; exact DataW.trod_lt m _ _ _ hm
  have k1 := h1
  have lt1 : ∀ x ∈ p1, x.block < W.heap.size := by obtain ⟨m, hm⟩ := k1; exact DataW.trod_lt m _ _ _ hm
  obtain ⟨u0, m0, ra0, ln0, rc0, f0, rfl, w0⟩ := openImage (hval 0 26 v0 rfl rfl) h0
  obtain ⟨a1, rfl, rfl, rfl, w1⟩ := open_int Try.underlying3 (hval 1 3 v1 rfl rfl) h1
  clear hA0 hval0
  refine (walk u0 m0 ra0 ln0 rc0 f0 a1 W w0 w1).mono fun e W' ⟨he, bel⟩ => ?_
  subst he
  exact ⟨_, rfl, _, _, _, [], _, [], hW', trodAll_mk1 (shut_bool Try.underlying4 _), (trodAll_cons_mk (Below.trod laidOut (by kernel_rfl) (of_decide_eq_true (by kernel_rfl)) k0 bel lt0) (trodAll_cons_mk (Below.trod laidOut (by kernel_rfl) (of_decide_eq_true (by kernel_rfl)) k1 bel lt1) trodAll_mk0)), rfl, bel.frame _, fun h => by cases h⟩
theorem over : Rows.fnExactBankOfRow.holds Try.pinned (OpenSpec.ofChange Rows.fnExactBankOfSpec) :=
  OpenClaim.holds_of_wide 6 Try.f6 rfl rfl rfl rfl rfl rfl rfl ⟨rfl, rfl, rfl, rfl, rfl⟩ rfl rfl rfl rfl rfl (by kernel_rfl) Try.func6 (by kernel_rfl)
    (of_decide_eq_true (by kernel_rfl)) (by unfold Func.isWrapper; first | (rw [if_pos (by decide +kernel)]; kernel_rfl) | (rw [if_neg (by decide +kernel)]; exact ⟨rfl, rfl⟩))
    (fun os started H enc _ => lifted os started H enc)
end Go.Proofs.Ytpaedkefmebjjaj.fnExactBankOf
namespace Go.Proofs.Ytpaedkefmebjjaj
theorem fnExactBankOf_holds : Rows.FnExactBankOfSaid := fnExactBankOf.over
end Go.Proofs.Ytpaedkefmebjjaj
