/- At any two lists of what is seen, of the mirror's type, that are together not too great, ObsBegins of the program answers as ObsBegins of the specification, and turns nothing of its arguments. -/
import Derived.Test.YtmccplbfggcogaaRows
import Derived.Test.YtmccplbfggcogaaO6
import Derived.Test.YtmccplbfggcogaaNC
import Derived.WalkKit
import Derived.ProofKit
import Derived.OpenShut
import Derived.ShutString
import Derived.ChangeOld
import Derived.Below
import Derived.Deep.RegionWith
namespace Go.Proofs.Ytmccplbfggcogaa.fnExactObsBegins
open Go.ChangeShapes Go.WideShapes Go.ChangeAt Go.RowKit
open Go.ChangeMaps (open_string shut_string)
set_option linter.unusedVariables false
theorem own : ownKnob Try.prog.godebug = none := by kernel_rfl
theorem laidOut : laidOutB Try.prog = true := by kernel_rfl
set_option maxRecDepth 40000
set_option maxHeartbeats 2000000 in
theorem walk (u0Frames : Value) (m0Frames : Nat) (ra0Frames : Nat → Option Addr) (ln0Frames rc0Frames : Nat → Nat) (f0Frames : Nat → Nat → Int) (s0Samples : Option Addr) (n0Samples c0Samples : Nat) (f0Samples : Nat → Int) (s0Reads : Option Addr) (n0Reads c0Reads : Nat) (f0Reads : Nat → Int) (u1Frames : Value) (m1Frames : Nat) (ra1Frames : Nat → Option Addr) (ln1Frames rc1Frames : Nat → Nat) (f1Frames : Nat → Nat → Int) (s1Samples : Option Addr) (n1Samples c1Samples : Nat) (f1Samples : Nat → Int) (s1Reads : Option Addr) (n1Reads c1Reads : Nat) (f1Reads : Nat → Int) (w : World) (w0Frames : RawSS w u0Frames m0Frames ra0Frames ln0Frames rc0Frames f0Frames) (w0Samples : n0Samples ≤ 9223372036854775807 ∧ RowOf .i64 w s0Samples n0Samples f0Samples ∧ ∀ i, i < n0Samples → (Lit.int .i64 (f0Samples i)).wf = true) (w0Reads : n0Reads ≤ 9223372036854775807 ∧ RowOf .i64 w s0Reads n0Reads f0Reads ∧ ∀ i, i < n0Reads → (Lit.int .i64 (f0Reads i)).wf = true) (w1Frames : RawSS w u1Frames m1Frames ra1Frames ln1Frames rc1Frames f1Frames) (w1Samples : n1Samples ≤ 9223372036854775807 ∧ RowOf .i64 w s1Samples n1Samples f1Samples ∧ ∀ i, i < n1Samples → (Lit.int .i64 (f1Samples i)).wf = true) (w1Reads : n1Reads ≤ 9223372036854775807 ∧ RowOf .i64 w s1Reads n1Reads f1Reads ∧ ∀ i, i < n1Reads → (Lit.int .i64 (f1Reads i)).wf = true) :
    Calls Try.prog 5 #[.agg #[u0Frames, .slice s0Samples n0Samples c0Samples, .slice s0Reads n0Reads c0Reads], .agg #[u1Frames, .slice s1Samples n1Samples c1Samples, .slice s1Reads n1Reads c1Reads]] w fun e w' => e = .returned (.bool true) ∧ Below w.heap.size w w' := by
  exact lawObsBegins w ⟨m0Frames, ln0Frames, f0Frames, n0Samples, f0Samples, n0Reads, f0Reads⟩ u0Frames ra0Frames rc0Frames s0Samples c0Samples s0Reads c0Reads ⟨m1Frames, ln1Frames, f1Frames, n1Samples, f1Samples, n1Reads, f1Reads⟩ u1Frames ra1Frames rc1Frames s1Samples c1Samples s1Reads c1Reads ⟨w0Frames, w0Samples.1, w0Samples.2.1, w0Reads.1, w0Reads.2.1⟩ ⟨w1Frames, w1Samples.1, w1Samples.2.1, w1Reads.1, w1Reads.2.1⟩
set_option maxRecDepth 100000 in
theorem lifted (os : Os) (started : os.Started) (H : Type) (enc : TypeId × Value → H) :
    ReturnsInHanded {} Try.checked os 5 .any (Rows.fnExactObsBeginsSpec.pre6 enc Try.prog Try.f5 Rows.fnExactObsBeginsRow.domain false) (Rows.fnExactObsBeginsSpec.post enc Try.prog Try.f5 false true false false) := by
  refine returnsInHanded_of_change (C := Try.checked) own started (by kernel_rfl) Try.func5
    (ChangeSpec.witness6 (enc := enc) (C := Try.checked) false ⟨#[], #[.agg #[.slice none 0 0, .slice none 0 0, .slice none 0 0], .agg #[.slice none 0 0, .slice none 0 0, .slice none 0 0]], []⟩ 8 (by kernel_rfl) (by kernel_rfl) (by kernel_rfl) (by kernel_rfl)) ?_
  intro W base args ds gs before hval0 hW hcnd _
  have hval : ∀ (j : Nat) t v, Try.f5.params[j]? = some t → args[j]? = some v → Value.okWide Try.prog W .any base t v := hval0
  have hW' := hW
  obtain ⟨p, q, hA0, hV, rfl, hfz, hnd⟩ := hW
  have hA : DataW.TrodAll enc Try.prog W 0 (fun _ => true) true Try.f5.params.toList args.toList ds p := hA0
  rw [Try.params5] at hA hval
  obtain ⟨v0, vs0, d0, ds0, p0, q0, hargs, rfl, rfl, h0, r0⟩ := trodAll_cons hA
  obtain ⟨v1, vs1, d1, ds1, p1, q1, rfl, rfl, rfl, h1, r1⟩ := trodAll_cons r0
  obtain ⟨rfl, rfl, rfl⟩ := trodAll_nil r1
  obtain rfl : args = #[v0, v1] := by cases args; simp_all
  obtain ⟨rfl, rfl⟩ := trodVars_none hV
  have k0 := h0
  have lt0 : ∀ x ∈ p0, x.block < W.heap.size := by obtain ⟨m, hm⟩ := k0; exact DataW.trod_lt m _ _ _ hm
  have k1 := h1
  have lt1 : ∀ x ∈ p1, x.block < W.heap.size := by obtain ⟨m, hm⟩ := k1; exact DataW.trod_lt m _ _ _ hm
  obtain ⟨u0Frames, m0Frames, ra0Frames, ln0Frames, rc0Frames, f0Frames, s0Samples, n0Samples, c0Samples, f0Samples, s0Reads, n0Reads, c0Reads, f0Reads, rfl, w0Frames, w0Samples, w0Reads⟩ := open_Obs (hval 0 70 v0 rfl rfl) h0
  obtain ⟨u1Frames, m1Frames, ra1Frames, ln1Frames, rc1Frames, f1Frames, s1Samples, n1Samples, c1Samples, f1Samples, s1Reads, n1Reads, c1Reads, f1Reads, rfl, w1Frames, w1Samples, w1Reads⟩ := open_Obs (hval 1 70 v1 rfl rfl) h1
  clear hA0 hval0
  refine (walk u0Frames m0Frames ra0Frames ln0Frames rc0Frames f0Frames s0Samples n0Samples c0Samples f0Samples s0Reads n0Reads c0Reads f0Reads u1Frames m1Frames ra1Frames ln1Frames rc1Frames f1Frames s1Samples n1Samples c1Samples f1Samples s1Reads n1Reads c1Reads f1Reads W w0Frames w0Samples w0Reads w1Frames w1Samples w1Reads).mono fun e W' ⟨he, bel⟩ => ?_
  subst he
  exact ⟨_, rfl, _, _, _, [], _, [], hW', trodAll_mk1 (shut_bool Try.underlying4 _), (trodAll_cons_mk (Below.trod laidOut (by kernel_rfl) (of_decide_eq_true (by kernel_rfl)) k0 bel lt0) (trodAll_cons_mk (Below.trod laidOut (by kernel_rfl) (of_decide_eq_true (by kernel_rfl)) k1 bel lt1) trodAll_mk0)), rfl, bel.frame _, fun h => by cases h⟩
theorem over : Rows.fnExactObsBeginsRow.holds Try.pinned (OpenSpec.ofChange Rows.fnExactObsBeginsSpec) :=
  OpenClaim.holds_of_wide 5 Try.f5 rfl rfl rfl rfl rfl rfl rfl ⟨rfl, rfl, rfl, rfl, rfl⟩ rfl rfl rfl rfl rfl (by kernel_rfl) Try.func5 (by kernel_rfl)
    (of_decide_eq_true (by kernel_rfl)) (by unfold Func.isWrapper; first | (rw [if_pos (by decide +kernel)]; kernel_rfl) | (rw [if_neg (by decide +kernel)]; exact ⟨rfl, rfl⟩))
    (fun os started H enc _ => lifted os started H enc)
end Go.Proofs.Ytmccplbfggcogaa.fnExactObsBegins
namespace Go.Proofs.Ytmccplbfggcogaa
theorem fnExactObsBegins_holds : Rows.FnExactObsBeginsSaid := fnExactObsBegins.over
end Go.Proofs.Ytmccplbfggcogaa
