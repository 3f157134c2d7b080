/- At every image of the mirror's type that is not too great ImageOk of the program answers as ImageOk of the specification, and turns nothing of it. -/
import Derived.Test.YtpaedkefmebjjajRows
import Derived.Test.YtpaedkefmebjjajO
import Derived.Test.YtpaedkefmebjjajI2
import Derived.WalkKit
import Derived.ProofKit
import Derived.OpenShut
import Derived.ShutString
import Derived.ChangeOld
import Derived.Below
import Derived.Deep.RegionWith
namespace Go.Proofs.Ytpaedkefmebjjaj.fnExactImageOk
open Go.ChangeShapes Go.WideShapes Go.ChangeAt Go.RowKit
open Go.ChangeMaps (open_string shut_string)
set_option linter.unusedVariables false
theorem own : ownKnob Try.prog.godebug = none := by kernel_rfl
theorem laidOut : laidOutB Try.prog = true := by kernel_rfl
set_option maxHeartbeats 1000000 in
theorem walk (u0 : Value) (m0 : Nat) (ra0 : Nat → Option Addr) (ln0 rc0 : Nat → Nat) (f0 : Nat → Nat → Int) (w : World) (w0 : RawSS w u0 m0 ra0 ln0 rc0 f0) :
    Calls Try.prog 4 #[.agg #[u0]] w fun e w' => e = .returned (.bool true) ∧ Below w.heap.size w w' := by
  have L0 : Below w.heap.size w (w.alloc (.cells #[u0] 26)) := (Below.refl _ _).alloc (Nat.le_refl _) _
  by_cases hbig : (1048576 : Int) < ((m0 + psum ln0 m0 : Nat) : Int)
  · go_enter Try.func4, Try.ntmps4
    go_wp2_with fail
    refine (szImage _ u0 m0 ra0 ln0 rc0 f0 (w0.below L0) 1048576 (by omega) (by omega)).mono ?_
    rintro e w1 ⟨rfl, L1⟩
    rw [szOut_no hbig]
    go_wp2
    go_ret
    exact ⟨rfl, L0.trans (L1.mono (by simp))⟩
  · have hsm : m0 + psum ln0 m0 ≤ 1048576 := by omega
    have hI := w0.ints hsm
    have hz : szOut 1048576 (m0 + psum ln0 m0) = 1048576 - ((m0 + psum ln0 m0 : Nat) : Int) := szOut_ok (by omega)
    have hnn : ¬ (1048576 - ((m0 + psum ln0 m0 : Nat) : Int) < 0) := by omega
    have hsame : (okImg m0 ln0 f0 != okImg m0 ln0 f0) = false := by simp
    have HZ := hide hz
    clear hz
    go_enter Try.func4, Try.ntmps4
    go_wp2_with fail
    refine (szImage _ u0 m0 ra0 ln0 rc0 f0 (w0.below L0) 1048576 (by omega) (by omega)).mono ?_
    rintro e w1 ⟨rfl, L1⟩
    rw [unhide HZ]
    have C1 := L0.trans (L1.mono (by simp))
    have z1 : w.heap.size < w1.heap.size := by have := L1.size; simp at this; omega
    have b1 : w1.cell? ⟨w.heap.size, 0, none⟩ = some u0 := (L1.cell (by simp)).trans (by go_simp)
    clear L1
    go_wp2_with fail
    refine (toImage _ _ u0 m0 ln0 f0 (hI.keep (wrote_below C1 Nowhere) (fun _ _ _ x => x))).mono ?_
    rintro e w2 ⟨p0, hb0, rfl, R2, s2, L2⟩
    have C2 := C1.trans (L2.mono C1.size)
    have z2 : w.heap.size < w2.heap.size := Nat.lt_of_lt_of_le z1 L2.size
    have b2 : w2.cell? ⟨w.heap.size, 0, none⟩ = some u0 := (L2.cell z1).trans b1
    clear L2 b1
    go_wp2_with fail
    refine (specImageOk _ _ _ m0 ln0 f0 (R2.ints hsm)).mono ?_
    rintro e w3 ⟨rfl, L3⟩
    have C3 := C2.trans (L3.mono C2.size)
    have z3 : w.heap.size < w3.heap.size := Nat.lt_of_lt_of_le z2 L3.size
    have b3 : w3.cell? ⟨w.heap.size, 0, none⟩ = some u0 := (L3.cell z2).trans b2
    clear R2 s2 L3 b2
    go_wp2_with fail
    refine (toImage _ _ u0 m0 ln0 f0 (hI.keep (wrote_below C3 Nowhere) (fun _ _ _ x => x))).mono ?_
    rintro e w4 ⟨p1, hb1, rfl, R4, s4, L4⟩
    have C4 := C3.trans (L4.mono C3.size)
    have z4 : w.heap.size < w4.heap.size := Nat.lt_of_lt_of_le z3 L4.size
    have b4 : w4.cell? ⟨w.heap.size, 0, none⟩ = some u0 := (L4.cell z3).trans b3
    clear L4 b3
    go_wp2_with fail
    have LA : Below w4.heap.size w4 (w4.alloc (.cells #[.slice (some ⟨p1, 0, none⟩) m0 m0] 29)) := (Below.refl _ _).alloc (Nat.le_refl _) _
    have RA := R4.keep (wrote_below LA Nowhere) (fun _ _ _ _ x => x)
    refine (implImageOk _ _ _ m0 ln0 f0 (RA.ints hsm)).mono ?_
    rintro e w5 ⟨rfl, L5'⟩
    have L5 := LA.trans (L5'.mono (by simp))
    have C5 := C4.trans (L5.mono C4.size)
    have z5 : w.heap.size < w5.heap.size := Nat.lt_of_lt_of_le z4 L5.size
    have b5 : w5.cell? ⟨w.heap.size, 0, none⟩ = some u0 := (L5.cell z4).trans b4
    have y5 : w4.heap.size < w5.heap.size := by have := L5'.size; simp at this; omega
    have x5 : w5.cell? ⟨w4.heap.size, 0, none⟩ = some (.slice (some ⟨p1, 0, none⟩) m0 m0) := (L5'.cell (by simp)).trans (by go_simp)
    have R5 := R4.keep (wrote_below L5 Nowhere) (fun _ _ _ _ x => x)
    clear R4 L5 b4 LA RA L5'
    go_wp2_with fail
    go_region_with (first | (go_at_call 11; refine (toImage _ _ u0 m0 ln0 f0 (hI.keep (wrote_below C5.drew Nowhere) (fun _ _ _ x => x))).mono ?_; rintro e w6 ⟨p2, hb2, rfl, R6, s6, L6⟩; have C6 := C5.drew.trans (L6.mono C5.size); have x6 : w6.cell? ⟨w4.heap.size, 0, none⟩ = some (.slice (some ⟨p1, 0, none⟩) m0 m0) := (L6.cell y5).trans x5; have R5' := R5.keep ((Wrote.refl Nowhere w5).drew.trans (wrote_below L6 Nowhere)) (fun _ _ _ _ x => x)) | (go_at_call 13; refine (eqImage _ _ _ _ _ m0 m0 ln0 ln0 f0 f0 (R5'.ints hsm) (R6.ints hsm)).mono ?_; rintro e w7 ⟨rfl, L7⟩; have C7 := C6.trans (L7.mono C6.size); rw [eqIntss_refl]))
    all_goals
      go_wp2
      go_ret
      exact ⟨rfl, C7⟩
set_option maxRecDepth 100000 in
theorem lifted (os : Os) (started : os.Started) (H : Type) (enc : TypeId × Value → H) :
    ReturnsInHanded {} Try.checked os 4 .any (Rows.fnExactImageOkSpec.pre6 enc Try.prog Try.f4 Rows.fnExactImageOkRow.domain false) (Rows.fnExactImageOkSpec.post enc Try.prog Try.f4 false true false false) := by
  refine returnsInHanded_of_change (C := Try.checked) own started (by kernel_rfl) Try.func4
    (ChangeSpec.witness6 (enc := enc) (C := Try.checked) false ⟨#[], #[.agg #[.slice none 0 0]], []⟩ 8 (by kernel_rfl) (by kernel_rfl) (by kernel_rfl) (by kernel_rfl)) ?_
  intro W base args ds gs before hval0 hW hcnd _
  have hval : ∀ (j : Nat) t v, Try.f4.params[j]? = some t → args[j]? = some v → Value.okWide Try.prog W .any base t v := hval0
  have hW' := hW
  obtain ⟨p, q, hA0, hV, rfl, hfz, hnd⟩ := hW
  have hA : DataW.TrodAll enc Try.prog W 0 (fun _ => true) true Try.f4.params.toList args.toList ds p := hA0
  rw [Try.params4] at hA hval
  obtain ⟨v0, vs0, d0, ds0, p0, q0, hargs, rfl, rfl, h0, r0⟩ := trodAll_cons hA
  obtain ⟨rfl, rfl, rfl⟩ := trodAll_nil r0
  obtain rfl : args = #[v0] := by cases args; simp_all
  obtain ⟨rfl, rfl⟩ := trodVars_none hV
  have k0 := h0
  have lt0 : ∀ x ∈ p0, x.block < W.heap.size := by obtain ⟨m, hm⟩ := k0; exact DataW.trod_lt m _ _ _ hm
  obtain ⟨u0, m0, ra0, ln0, rc0, f0, rfl, w0⟩ := openImage (hval 0 26 v0 rfl rfl) h0
  clear hA0 hval0
  refine (walk u0 m0 ra0 ln0 rc0 f0 W w0).mono fun e W' ⟨he, bel⟩ => ?_
  subst he
  exact ⟨_, rfl, _, _, _, [], _, [], hW', trodAll_mk1 (shut_bool Try.underlying4 _), (trodAll_cons_mk (Below.trod laidOut (by kernel_rfl) (of_decide_eq_true (by kernel_rfl)) k0 bel lt0) trodAll_mk0), rfl, bel.frame _, fun h => by cases h⟩
theorem over : Rows.fnExactImageOkRow.holds Try.pinned (OpenSpec.ofChange Rows.fnExactImageOkSpec) :=
  OpenClaim.holds_of_wide 4 Try.f4 rfl rfl rfl rfl rfl rfl rfl ⟨rfl, rfl, rfl, rfl, rfl⟩ rfl rfl rfl rfl rfl (by kernel_rfl) Try.func4 (by kernel_rfl)
    (of_decide_eq_true (by kernel_rfl)) (by unfold Func.isWrapper; first | (rw [if_pos (by decide +kernel)]; kernel_rfl) | (rw [if_neg (by decide +kernel)]; exact ⟨rfl, rfl⟩))
    (fun os started H enc _ => lifted os started H enc)
end Go.Proofs.Ytpaedkefmebjjaj.fnExactImageOk
namespace Go.Proofs.Ytpaedkefmebjjaj
theorem fnExactImageOk_holds : Rows.FnExactImageOkSaid := fnExactImageOk.over
end Go.Proofs.Ytpaedkefmebjjaj
