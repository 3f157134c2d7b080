/- At every row of integers that is not too long FrameText of the program answers as FrameText of the specification, and turns nothing of it. -/
import Derived.Test.YtoefmpolfenkoaaRows
import Derived.Test.YtoefmpolfenkoaaO
import Derived.Test.YtoefmpolfenkoaaXA
import Derived.Test.YtoefmpolfenkoaaXI
import Derived.WalkKit
import Derived.ProofKit
import Derived.OpenShut
import Derived.ShutString
import Derived.ChangeOld
import Derived.Below
import Derived.Deep.RegionWith
namespace Go.Proofs.Ytoefmpolfenkoaa.fnExactFrameText
open Go.ChangeShapes Go.WideShapes Go.ChangeAt Go.RowKit
open Go.ChangeMaps (open_string shut_string)
set_option linter.unusedVariables false
theorem own : ownKnob Try.prog.godebug = none := by kernel_rfl
theorem laidOut : laidOutB Try.prog = true := by kernel_rfl
set_option maxHeartbeats 2000000 in
theorem walk (s0 : Option Addr) (n0 c0 : Nat) (f0 : Nat → Int) (w : World) (w0 : n0 ≤ 9223372036854775807 ∧ RowOf .i64 w s0 n0 f0 ∧ ∀ i, i < n0 → (Lit.int .i64 (f0 i)).wf = true) :
    Calls Try.prog 3 #[.slice s0 n0 c0] w fun e w' => e = .returned (.bool true) ∧ Below w.heap.size w w' := by
  obtain ⟨hn63, hrow, hwf⟩ := w0
  have C0 : Below w.heap.size w w := Below.refl _ _
  by_cases hbig : (1048576 : Int) < (n0 : Int)
  · go_enter Try.func3, Try.ntmps3
    go_wp2
    go_ret
    exact ⟨rfl, C0⟩
  · have hn : n0 ≤ 1048576 := by omega
    have HI : Ints .i64 w (fun _ _ => True) (.slice s0 n0 c0) n0 f0 := ⟨_, _, rfl, hn, hrow, fun _ _ _ => trivial⟩
    obtain ⟨r, hr⟩ : ∃ r, Hid (r = frameStr n0 f0) := ⟨_, rfl⟩
    go_enter Try.func3, Try.ntmps3
    go_wp2_with fail
    refine (toIntS _ _ _ n0 f0 (HI.keep (wrote_below C0 Nowhere) (fun _ _ _ x => x))).mono ?_
    rintro e W1 ⟨rfl, R1, -, L1⟩
    have C1 := below_snoc C0 L1
    clear L1
    go_wp2_with fail
    refine (specFrameText _ _ _ n0 f0 (ints_of_row R1 hn)).mono ?_
    rintro e W2 ⟨rfl, L2⟩
    rw [← hr.out]
    have C2 := below_snoc C1 L2
    clear R1 L2 C1
    go_wp2_with fail
    refine (toIntS _ _ _ n0 f0 (HI.keep (wrote_below C2 Nowhere) (fun _ _ _ x => x))).mono ?_
    rintro e W3 ⟨rfl, R3, -, L3⟩
    have C3 := below_snoc C2 L3
    clear L3 C2
    go_wp2_with fail
    refine (implFrameText _ _ _ n0 f0 (ints_of_row R3 hn)).mono ?_
    rintro e W4 ⟨rfl, L4⟩
    rw [← hr.out]
    have C4 := below_snoc C3 L4
    replace R3 := R3.of_block (L4.block _ R3.lt)
    clear L4 C3
    go_wp2_with fail
    refine (toIntS _ _ _ n0 f0 (HI.keep (wrote_below C4 Nowhere) (fun _ _ _ x => x))).mono ?_
    rintro e W5 ⟨rfl, R5, -, L5⟩
    have C5 := below_snoc C4 L5
    replace R3 := R3.of_block (L5.block _ R3.lt)
    clear L5 C4
    go_wp2_with fail
    refine (eqIntS _ _ _ _ _ n0 n0 f0 f0 (ints_of_row R3 hn) (ints_of_row R5 hn)).mono ?_
    rintro e W6 ⟨rfl, d, rfl⟩
    rw [eqInts_refl]
    go_wp2
    go_ret
    exact ⟨rfl, C5.trans ⟨rfl, rfl, rfl, Nat.le_refl _, fun _ _ => rfl⟩⟩
set_option maxRecDepth 100000 in
theorem lifted (os : Os) (started : os.Started) (H : Type) (enc : TypeId × Value → H) :
    ReturnsInHanded {} Try.checked os 3 .any (Rows.fnExactFrameTextSpec.pre6 enc Try.prog Try.f3 Rows.fnExactFrameTextRow.domain false) (Rows.fnExactFrameTextSpec.post enc Try.prog Try.f3 false true false false) := by
  refine returnsInHanded_of_change (C := Try.checked) own started (by kernel_rfl) Try.func3
    (ChangeSpec.witness6 (enc := enc) (C := Try.checked) false ⟨#[], #[.slice none 0 0], []⟩ 8 (by kernel_rfl) (by kernel_rfl) (by kernel_rfl) (by kernel_rfl)) ?_
  intro W base args ds gs before hval0 hW hcnd _
  have hval : ∀ (j : Nat) t v, Try.f3.params[j]? = some t → args[j]? = some v → Value.okWide Try.prog W .any base t v := hval0
  have hW' := hW
  obtain ⟨p, q, hA0, hV, rfl, hfz, hnd⟩ := hW
  have hA : DataW.TrodAll enc Try.prog W 0 (fun _ => true) true Try.f3.params.toList args.toList ds p := hA0
  rw [Try.params3] at hA hval
  obtain ⟨v0, vs0, d0, ds0, p0, q0, hargs, rfl, rfl, h0, r0⟩ := trodAll_cons hA
  obtain ⟨rfl, rfl, rfl⟩ := trodAll_nil r0
  obtain rfl : args = #[v0] := by cases args; simp_all
  obtain ⟨rfl, rfl⟩ := trodVars_none hV
  have k0 := h0
  have lt0 : ∀ x ∈ p0, x.block < W.heap.size := by obtain ⟨m, hm⟩ := k0; exact DataW.trod_lt m _ _ _ hm
  obtain ⟨s0, n0, c0, rfl⟩ := okWide_slice Try.underlying22 (hval 0 22 v0 rfl rfl)
  obtain ⟨f0, w0⟩ := openInts (k := .i64) Try.underlying22 Try.underlying3 (by kernel_rfl) h0
  clear hA0 hval0
  refine (walk s0 n0 c0 f0 W w0).mono fun e W' ⟨he, bel⟩ => ?_
  subst he
  exact ⟨_, rfl, _, _, _, [], _, [], hW', trodAll_mk1 (shut_bool Try.underlying4 _), (trodAll_cons_mk (Below.trod laidOut (by kernel_rfl) (of_decide_eq_true (by kernel_rfl)) k0 bel lt0) trodAll_mk0), rfl, bel.frame _, fun h => by cases h⟩
theorem over : Rows.fnExactFrameTextRow.holds Try.pinned (OpenSpec.ofChange Rows.fnExactFrameTextSpec) :=
  OpenClaim.holds_of_wide 3 Try.f3 rfl rfl rfl rfl rfl rfl rfl ⟨rfl, rfl, rfl, rfl, rfl⟩ rfl rfl rfl rfl rfl (by kernel_rfl) Try.func3 (by kernel_rfl)
    (of_decide_eq_true (by kernel_rfl)) (by unfold Func.isWrapper; first | (rw [if_pos (by decide +kernel)]; kernel_rfl) | (rw [if_neg (by decide +kernel)]; exact ⟨rfl, rfl⟩))
    (fun os started H enc _ => lifted os started H enc)
end Go.Proofs.Ytoefmpolfenkoaa.fnExactFrameText
namespace Go.Proofs.Ytoefmpolfenkoaa
theorem fnExactFrameText_holds : Rows.FnExactFrameTextSaid := fnExactFrameText.over
end Go.Proofs.Ytoefmpolfenkoaa
