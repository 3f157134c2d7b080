/- At every text that is not too long FrameRead of the program answers as FrameRead of the specification, and its answer owns its memory. -/
import Derived.Test.YtoefmpolfenkoaaRows
import Derived.Test.YtoefmpolfenkoaaO
import Derived.Test.YtoefmpolfenkoaaXD
import Derived.WalkKit
import Derived.ProofKit
import Derived.OpenShut
import Derived.ShutString
import Derived.ChangeOld
import Derived.Below
import Derived.Deep.RegionWith
namespace Go.Proofs.Ytoefmpolfenkoaa.fnExactFrameRead
open Go.ChangeShapes Go.WideShapes Go.ChangeAt Go.RowKit
open Go.ChangeMaps (open_string shut_string)
set_option linter.unusedVariables false
theorem own : ownKnob Try.prog.godebug = none := by kernel_rfl
theorem laidOut : laidOutB Try.prog = true := by kernel_rfl
set_option maxHeartbeats 2000000 in
theorem walk (s0 : ByteArray) (w : World) (w0 : s0.size ≤ maxLen) :
    Calls Try.prog 4 #[.string s0] w fun e w' => e = .returned (.bool true) ∧ Below w.heap.size w w' := by
  by_cases hbig : (1048576 : Int) < (s0.size : Int)
  · go_enter Try.func4, Try.ntmps4
    go_wp2
    go_ret
    exact ⟨rfl, Below.refl _ _⟩
  · have hs : s0.size ≤ 1048576 := by omega
    have C0 : Below w.heap.size w w := Below.refl _ _
    have HS := fun W => specFrameRead W s0 hs
    have HM := fun W => implFrameRead W s0 hs
    generalize okT s0 = B at HS HM
    generalize lenT s0 = N at HS HM
    generalize dotF s0 = G at HS HM
    have HS := hide HS
    have HM := hide HM
    have hbb : (B != B) = false := by cases B <;> rfl
    go_enter Try.func4, Try.ntmps4
    go_wp2_with fail
    refine (HS.out _).mono ?_
    rintro e w1 ⟨v1, rfl, ⟨sa, sc, rfl, sn, sR, sF, -⟩, L1⟩
    have C1 := C0.trans (L1.mono C0.size)
    have L0b := C1.size
    have sU : Hid (∀ b o, Foot sa N b o → b < w1.heap.size) := fun b o h => (sF b o h).1
    clear L1 sF
    go_wp2_with fail
    refine (HM.out _).mono ?_
    rintro e w2 ⟨v2, rfl, ⟨ga, gc, rfl, -, gR, gF, gL⟩, L2⟩
    have C2 := C1.trans (L2.mono C1.size)
    have sR2 := sR.keep (wrote_below L2 Nowhere) (fun _ _ _ x => x)
    have gU : Hid (∀ b o, Foot ga N b o → w1.heap.size ≤ b) := gL
    clear L2 gL sR C1
    go_wp2_with fail
    refine (eqIntS _ (fun _ _ => True) (fun _ _ => True) _ _ N N G G ⟨_, _, rfl, sn, gR, fun _ _ _ => trivial⟩ ⟨_, _, rfl, sn, sR2, fun _ _ _ => trivial⟩).mono ?_
    rintro e wx ⟨rfl, d3, rfl⟩
    rw [eqInts_refl]
    have LX : Below w2.heap.size w2 (w2.drewN d3) := ⟨rfl, rfl, rfl, Nat.le_refl _, fun _ _ => rfl⟩
    generalize w2.drewN d3 = w3 at *
    have C3 := C2.trans (LX.mono C2.size)
    have sR3 := sR2.keep (wrote_below LX Nowhere) (fun _ _ _ x => x)
    have gR3 := gR.keep (wrote_below LX Nowhere) (fun _ _ _ x => x)
    have gF3 := gF.keep (wrote_below LX Nowhere)
    clear LX sR2 gR gF C2
    go_wp2_with fail
    refine (markIntS _ ga N gc G 1 gR3 gF3 (by omega) (by omega)).mono ?_
    rintro e w4 ⟨rfl, gR4, W4, -⟩
    have C4 : Below w.heap.size w w4 := C3.trans (W4.below C3.size (fun b o hb h => by have := gU.out b o h; have := L0b; omega))
    have sR4 := sR3.keep W4 (fun b o h h' => by have := gU.out b o h'; have := sU.out b o h; omega)
    clear W4 sR3 gR3 gF3 C3
    go_wp2_with fail
    refine (heldIntS _ ga N gc 1 gR4 (by omega) (by omega)).mono ?_
    rintro e wx ⟨rfl, rfl⟩
    have hq1 : ¬ ((1 : Int) + N < 0) := by omega
    have hq2 : (((1 : Int) + N) != ((1 : Int) + N)) = false := by simp
    go_wp2_with fail
    refine (HM.out _).mono ?_
    rintro e w5 ⟨v5, rfl, ⟨ha, hc, rfl, -, hR, hF, hL⟩, L5⟩
    have C5 := C4.trans (L5.mono C4.size)
    have sR5 := sR4.keep (wrote_below L5 Nowhere) (fun _ _ _ x => x)
    have gR5 := gR4.keep (wrote_below L5 Nowhere) (fun _ _ _ x => x)
    clear L5 sR4 gR4 C4 hF hL
    go_wp2_with fail
    refine (eqIntS _ (fun _ _ => True) (fun _ _ => True) _ _ N N G G ⟨_, _, rfl, sn, hR, fun _ _ _ => trivial⟩ ⟨_, _, rfl, sn, sR5, fun _ _ _ => trivial⟩).mono ?_
    rintro e wx ⟨rfl, d6, rfl⟩
    rw [eqInts_refl]
    have LX : Below w5.heap.size w5 (w5.drewN d6) := ⟨rfl, rfl, rfl, Nat.le_refl _, fun _ _ => rfl⟩
    generalize w5.drewN d6 = w6 at *
    have C6 := C5.trans (LX.mono C5.size)
    have gR6 := gR5.keep (wrote_below LX Nowhere) (fun _ _ _ x => x)
    clear LX sR5 gR5 hR C5
    go_wp2_with fail
    refine (heldIntS _ ga N gc 1 gR6 (by omega) (by omega)).mono ?_
    rintro e wx ⟨rfl, rfl⟩
    go_wp2
    go_ret
    exact ⟨rfl, C6⟩
set_option maxRecDepth 100000 in
theorem lifted (os : Os) (started : os.Started) (H : Type) (enc : TypeId × Value → H) :
    ReturnsInHanded {} Try.checked os 4 .any (Rows.fnExactFrameReadSpec.pre6 enc Try.prog Try.f4 Rows.fnExactFrameReadRow.domain false) (Rows.fnExactFrameReadSpec.post enc Try.prog Try.f4 false true false false) := by
  refine returnsInHanded_of_change (C := Try.checked) own started (by kernel_rfl) Try.func4
    (ChangeSpec.witness6 (enc := enc) (C := Try.checked) false ⟨#[], #[.string ByteArray.empty], []⟩ 8 (by kernel_rfl) (by kernel_rfl) (by kernel_rfl) (by kernel_rfl)) ?_
  intro W base args ds gs before hval0 hW hcnd _
  have hval : ∀ (j : Nat) t v, Try.f4.params[j]? = some t → args[j]? = some v → Value.okWide Try.prog W .any base t v := hval0
  have hW' := hW
  obtain ⟨p, q, hA0, hV, rfl, hfz, hnd⟩ := hW
  have hA : DataW.TrodAll enc Try.prog W 0 (fun _ => true) true Try.f4.params.toList args.toList ds p := hA0
  rw [Try.params4] at hA hval
  obtain ⟨v0, vs0, d0, ds0, p0, q0, hargs, rfl, rfl, h0, r0⟩ := trodAll_cons hA
  obtain ⟨rfl, rfl, rfl⟩ := trodAll_nil r0
  obtain rfl : args = #[v0] := by cases args; simp_all
  obtain ⟨rfl, rfl⟩ := trodVars_none hV
  have k0 := h0
  have lt0 : ∀ x ∈ p0, x.block < W.heap.size := by obtain ⟨m, hm⟩ := k0; exact DataW.trod_lt m _ _ _ hm
  obtain ⟨s0, rfl, rfl, rfl, w0⟩ := open_string Try.underlying9 (hval 0 9 v0 rfl rfl) h0
  clear hA0 hval0
  refine (walk s0 W w0).mono fun e W' ⟨he, bel⟩ => ?_
  subst he
  exact ⟨_, rfl, _, _, _, [], _, [], hW', trodAll_mk1 (shut_bool Try.underlying4 _), (trodAll_cons_mk (Below.trod laidOut (by kernel_rfl) (of_decide_eq_true (by kernel_rfl)) k0 bel lt0) trodAll_mk0), rfl, bel.frame _, fun h => by cases h⟩
theorem over : Rows.fnExactFrameReadRow.holds Try.pinned (OpenSpec.ofChange Rows.fnExactFrameReadSpec) :=
  OpenClaim.holds_of_wide 4 Try.f4 rfl rfl rfl rfl rfl rfl rfl ⟨rfl, rfl, rfl, rfl, rfl⟩ rfl rfl rfl rfl rfl (by kernel_rfl) Try.func4 (by kernel_rfl)
    (of_decide_eq_true (by kernel_rfl)) (by unfold Func.isWrapper; first | (rw [if_pos (by decide +kernel)]; kernel_rfl) | (rw [if_neg (by decide +kernel)]; exact ⟨rfl, rfl⟩))
    (fun os started H enc _ => lifted os started H enc)
end Go.Proofs.Ytoefmpolfenkoaa.fnExactFrameRead
namespace Go.Proofs.Ytoefmpolfenkoaa
theorem fnExactFrameRead_holds : Rows.FnExactFrameReadSaid := fnExactFrameRead.over
end Go.Proofs.Ytoefmpolfenkoaa
