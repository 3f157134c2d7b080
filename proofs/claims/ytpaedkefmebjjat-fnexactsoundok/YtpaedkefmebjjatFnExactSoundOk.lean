/- At every sound unit that comes after, of the mirror's type and not too great, SoundOk of the program answers as SoundOk of the specification, and turns nothing of its argument. -/
import Derived.Test.YtpaedkefmebjjatRows
import Derived.Test.YtpaedkefmebjjatO4
import Derived.Test.YtpaedkefmebjjatTK
import Derived.WalkKit
import Derived.ProofKit
import Derived.OpenShut
import Derived.ShutString
import Derived.ChangeOld
import Derived.Below
import Derived.Deep.RegionWith
namespace Go.Proofs.Ytpaedkefmebjjat.fnExactSoundOk
open Go.ChangeShapes Go.WideShapes Go.ChangeAt Go.RowKit
open Go.ChangeMaps (open_string shut_string)
set_option linter.unusedVariables false
theorem own : ownKnob Try.prog.godebug = none := by kernel_rfl
theorem laidOut : laidOutB Try.prog = true := by kernel_rfl
set_option maxRecDepth 40000
set_option maxHeartbeats 2000000 in
theorem walk (a0ApuT : Int) (a0ApuPeriod : Int) (a0ApuCount : Int) (a0ApuBit : Int) (a0ApuLength : Int) (a0ApuAsks : Bool) (a0ApuIrq : Bool) (a0RingCap : Int) (s0RingList : Option Addr) (n0RingList c0RingList : Nat) (f0RingList : Nat → Int) (s0Samples : Option Addr) (n0Samples c0Samples : Nat) (f0Samples : Nat → Int) (w : World) (w0ApuT : (Lit.int .i64 a0ApuT).wf = true) (w0ApuPeriod : (Lit.int .i64 a0ApuPeriod).wf = true) (w0ApuCount : (Lit.int .i64 a0ApuCount).wf = true) (w0ApuBit : (Lit.int .i64 a0ApuBit).wf = true) (w0ApuLength : (Lit.int .i64 a0ApuLength).wf = true) (w0RingCap : (Lit.int .i64 a0RingCap).wf = true) (w0RingList : n0RingList ≤ 9223372036854775807 ∧ n0RingList ≤ c0RingList ∧ RowOf .i64 w s0RingList (n0RingList * 3) f0RingList) (w0Samples : n0Samples ≤ 9223372036854775807 ∧ RowOf .i64 w s0Samples n0Samples f0Samples ∧ ∀ i, i < n0Samples → (Lit.int .i64 (f0Samples i)).wf = true) :
    Calls Try.prog 3 #[.agg #[.int .i64 a0ApuT, .int .i64 a0ApuPeriod, .int .i64 a0ApuCount, .int .i64 a0ApuBit, .int .i64 a0ApuLength, .bool a0ApuAsks, .bool a0ApuIrq, .int .i64 a0RingCap, .slice s0RingList n0RingList c0RingList, .slice s0Samples n0Samples c0Samples]] w fun e w' => e = .returned (.bool true) ∧ Below w.heap.size w w' := by
  exact lawSoundOk w ⟨a0ApuT, a0ApuPeriod, a0ApuCount, a0ApuBit, a0ApuLength, a0ApuAsks, a0ApuIrq, a0RingCap, n0RingList, f0RingList, n0Samples, f0Samples⟩ s0RingList c0RingList s0Samples c0Samples w0RingList.1 w0Samples.1 w0RingList.2.2 w0Samples.2.1
set_option maxRecDepth 100000 in
theorem lifted (os : Os) (started : os.Started) (H : Type) (enc : TypeId × Value → H) :
    ReturnsInHanded {} Try.checked os 3 .any (Rows.fnExactSoundOkSpec.pre6 enc Try.prog Try.f3 Rows.fnExactSoundOkRow.domain false) (Rows.fnExactSoundOkSpec.post enc Try.prog Try.f3 false true false false) := by
  refine returnsInHanded_of_change (C := Try.checked) own started (by kernel_rfl) Try.func3
    (ChangeSpec.witness6 (enc := enc) (C := Try.checked) false ⟨#[], #[.agg #[.int .i64 0, .int .i64 0, .int .i64 0, .int .i64 0, .int .i64 0, .bool false, .bool false, .int .i64 0, .slice none 0 0, .slice none 0 0]], []⟩ 8 (by kernel_rfl) (by kernel_rfl) (by kernel_rfl) (by kernel_rfl)) ?_
  intro W base args ds gs before hval0 hW hcnd _
  have hval : ∀ (j : Nat) t v, Try.f3.params[j]? = some t → args[j]? = some v → Value.okWide Try.prog W .any base t v := hval0
  have hW' := hW
  obtain ⟨p, q, hA0, hV, rfl, hfz, hnd⟩ := hW
  have hA : DataW.TrodAll enc Try.prog W 0 (fun _ => true) true Try.f3.params.toList args.toList ds p := hA0
  rw [Try.params3] at hA hval
  obtain ⟨v0, vs0, d0, ds0, p0, q0, hargs, rfl, rfl, h0, r0⟩ := trodAll_cons hA
  obtain ⟨rfl, rfl, rfl⟩ := trodAll_nil r0
  obtain rfl : args = #[v0] := by cases args; simp_all
  obtain ⟨rfl, rfl⟩ := trodVars_none hV
  have k0 := h0
  have lt0 : ∀ x ∈ p0, x.block < W.heap.size := by obtain ⟨m, hm⟩ := k0; exact DataW.trod_lt m _ _ _ hm
  obtain ⟨a0ApuT, a0ApuPeriod, a0ApuCount, a0ApuBit, a0ApuLength, a0ApuAsks, a0ApuIrq, a0RingCap, s0RingList, n0RingList, c0RingList, f0RingList, s0Samples, n0Samples, c0Samples, f0Samples, rfl, w0ApuT, w0ApuPeriod, w0ApuCount, w0ApuBit, w0ApuLength, w0RingCap, w0RingList, w0Samples⟩ := open_Sound (hval 0 29 v0 rfl rfl) h0
  clear hA0 hval0
  refine (walk a0ApuT a0ApuPeriod a0ApuCount a0ApuBit a0ApuLength a0ApuAsks a0ApuIrq a0RingCap s0RingList n0RingList c0RingList f0RingList s0Samples n0Samples c0Samples f0Samples W w0ApuT w0ApuPeriod w0ApuCount w0ApuBit w0ApuLength w0RingCap w0RingList w0Samples).mono fun e W' ⟨he, bel⟩ => ?_
  subst he
  exact ⟨_, rfl, _, _, _, [], _, [], hW', trodAll_mk1 (shut_bool Try.underlying4 _), (trodAll_cons_mk (Below.trod laidOut (by kernel_rfl) (of_decide_eq_true (by kernel_rfl)) k0 bel lt0) trodAll_mk0), rfl, bel.frame _, fun h => by cases h⟩
theorem over : Rows.fnExactSoundOkRow.holds Try.pinned (OpenSpec.ofChange Rows.fnExactSoundOkSpec) :=
  OpenClaim.holds_of_wide 3 Try.f3 rfl rfl rfl rfl rfl rfl rfl ⟨rfl, rfl, rfl, rfl, rfl⟩ rfl rfl rfl rfl rfl (by kernel_rfl) Try.func3 (by kernel_rfl)
    (of_decide_eq_true (by kernel_rfl)) (by unfold Func.isWrapper; first | (rw [if_pos (by decide +kernel)]; kernel_rfl) | (rw [if_neg (by decide +kernel)]; exact ⟨rfl, rfl⟩))
    (fun os started H enc _ => lifted os started H enc)
end Go.Proofs.Ytpaedkefmebjjat.fnExactSoundOk
namespace Go.Proofs.Ytpaedkefmebjjat
theorem fnExactSoundOk_holds : Rows.FnExactSoundOkSaid := fnExactSoundOk.over
end Go.Proofs.Ytpaedkefmebjjat
