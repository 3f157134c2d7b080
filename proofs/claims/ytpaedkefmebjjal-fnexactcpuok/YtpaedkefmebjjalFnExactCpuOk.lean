/- At every processor of the mirror's type CpuOk of the program answers as CpuOk of the specification. -/
import Derived.Test.YtpaedkefmebjjalRows
import Derived.Test.YtpaedkefmebjjalO
import Derived.Test.YtpaedkefmebjjalI5
import Derived.WalkKit
import Derived.ProofKit
import Derived.OpenShut
import Derived.ShutString
import Derived.ChangeOld
import Derived.Below
import Derived.Deep.RegionWith
namespace Go.Proofs.Ytpaedkefmebjjal.fnExactCpuOk
open Go.ChangeShapes Go.WideShapes Go.ChangeAt Go.RowKit
open Go.ChangeMaps (open_string shut_string)
set_option linter.unusedVariables false
theorem own : ownKnob Try.prog.godebug = none := by kernel_rfl
theorem laidOut : laidOutB Try.prog = true := by kernel_rfl
set_option maxHeartbeats 1000000 in
theorem walk (a0A : Int) (a0X : Int) (a0S : Int) (a0Pc : Int) (a0Z : Bool) (a0N : Bool) (a0C : Bool) (a0I : Bool) (w : World) (w0A : (Lit.int .i64 a0A).wf = true) (w0X : (Lit.int .i64 a0X).wf = true) (w0S : (Lit.int .i64 a0S).wf = true) (w0Pc : (Lit.int .i64 a0Pc).wf = true) :
    Calls Try.prog 3 #[.agg #[.int .i64 a0A, .int .i64 a0X, .int .i64 a0S, .int .i64 a0Pc, .bool a0Z, .bool a0N, .bool a0C, .bool a0I]] w fun e w' => e = .returned (.bool true) ∧ Below w.heap.size w w' := by
  have L0 : Below w.heap.size w (w.alloc (.cells #[.int .i64 a0A, .int .i64 a0X, .int .i64 a0S, .int .i64 a0Pc, .bool a0Z, .bool a0N, .bool a0C, .bool a0I] 23)) := (Below.refl _ _).alloc (Nat.le_refl _) _
  have b0 := box_new w #[.int .i64 a0A, .int .i64 a0X, .int .i64 a0S, .int .i64 a0Pc, .bool a0Z, .bool a0N, .bool a0C, .bool a0I] 23
  go_enter Try.func3, Try.ntmps3
  go_wp2_with fail
  refine (toCpu _ a0A a0X a0S a0Pc a0Z a0N a0C a0I).mono ?_
  rintro e w1 ⟨rfl, L1⟩
  have C1 := L0.trans (L1.mono L0.size)
  have b1 := box_keep b0 L1 (by simp)
  have z1 : w.heap.size < w1.heap.size := by have := L1.size; simp at this; omega
  clear L0 L1 b0
  go_wp2_with fail
  refine (specCpuOk _ a0A a0X a0S a0Pc a0Z a0N a0C a0I).mono ?_
  rintro e w2 ⟨rfl, L2⟩
  have C2 := C1.trans (L2.mono C1.size)
  have b2 := box_keep b1 L2 z1
  have z2 : w.heap.size < w2.heap.size := Nat.lt_of_lt_of_le z1 L2.size
  obtain ⟨q0, q1, q2, q3, q4, q5, q6, q7⟩ := cells8 b2
  clear L2 b1 z1 C1
  go_wp2_with fail
  refine (toCpu _ a0A a0X a0S a0Pc a0Z a0N a0C a0I).mono ?_
  rintro e w3 ⟨rfl, L3⟩
  have C3 := C2.trans (L3.mono C2.size)
  clear q0 q1 q2 q3 q4 q5 q6 q7 b2 L3
  go_wp2_with fail
  refine (implCpuOk _ a0A a0X a0S a0Pc a0Z a0N a0C a0I).mono ?_
  rintro e w4 ⟨rfl, L4⟩
  generalize okCpu a0A a0X a0S a0Pc = r at *
  go_wp2
  go_ret
  exact ⟨rfl, C3.trans (L4.mono C3.size)⟩
set_option maxRecDepth 100000 in
theorem lifted (os : Os) (started : os.Started) (H : Type) (enc : TypeId × Value → H) :
    ReturnsInHanded {} Try.checked os 3 .any (Rows.fnExactCpuOkSpec.pre6 enc Try.prog Try.f3 Rows.fnExactCpuOkRow.domain false) (Rows.fnExactCpuOkSpec.post enc Try.prog Try.f3 false true false false) := by
  refine returnsInHanded_of_change (C := Try.checked) own started (by kernel_rfl) Try.func3
    (ChangeSpec.witness6 (enc := enc) (C := Try.checked) false ⟨#[], #[.agg #[.int .i64 0, .int .i64 0, .int .i64 0, .int .i64 0, .bool false, .bool false, .bool false, .bool false]], []⟩ 8 (by kernel_rfl) (by kernel_rfl) (by kernel_rfl) (by kernel_rfl)) ?_
  intro W base args ds gs before hval0 hW hcnd _
  have hval : ∀ (j : Nat) t v, Try.f3.params[j]? = some t → args[j]? = some v → Value.okWide Try.prog W .any base t v := hval0
  have hW' := hW
  obtain ⟨p, q, hA0, hV, rfl, hfz, hnd⟩ := hW
  have hA : DataW.TrodAll enc Try.prog W 0 (fun _ => true) true Try.f3.params.toList args.toList ds p := hA0
  rw [Try.params3] at hA hval
  obtain ⟨v0, vs0, d0, ds0, p0, q0, hargs, rfl, rfl, h0, r0⟩ := trodAll_cons hA
  obtain ⟨rfl, rfl, rfl⟩ := trodAll_nil r0
  obtain rfl : args = #[v0] := by cases args; simp_all
  obtain ⟨rfl, rfl⟩ := trodVars_none hV
  have k0 := h0
  have lt0 : ∀ x ∈ p0, x.block < W.heap.size := by obtain ⟨m, hm⟩ := k0; exact DataW.trod_lt m _ _ _ hm
  obtain ⟨a0A, a0X, a0S, a0Pc, a0Z, a0N, a0C, a0I, rfl, w0A, w0X, w0S, w0Pc⟩ := open_Cpu (hval 0 23 v0 rfl rfl) h0
  clear hA0 hval0
  refine (walk a0A a0X a0S a0Pc a0Z a0N a0C a0I W w0A w0X w0S w0Pc).mono fun e W' ⟨he, bel⟩ => ?_
  subst he
  exact ⟨_, rfl, _, _, _, [], _, [], hW', trodAll_mk1 (shut_bool Try.underlying4 _), (trodAll_cons_mk (Below.trod laidOut (by kernel_rfl) (of_decide_eq_true (by kernel_rfl)) k0 bel lt0) trodAll_mk0), rfl, bel.frame _, fun h => by cases h⟩
theorem over : Rows.fnExactCpuOkRow.holds Try.pinned (OpenSpec.ofChange Rows.fnExactCpuOkSpec) :=
  OpenClaim.holds_of_wide 3 Try.f3 rfl rfl rfl rfl rfl rfl rfl ⟨rfl, rfl, rfl, rfl, rfl⟩ rfl rfl rfl rfl rfl (by kernel_rfl) Try.func3 (by kernel_rfl)
    (of_decide_eq_true (by kernel_rfl)) (by unfold Func.isWrapper; first | (rw [if_pos (by decide +kernel)]; kernel_rfl) | (rw [if_neg (by decide +kernel)]; exact ⟨rfl, rfl⟩))
    (fun os started H enc _ => lifted os started H enc)
end Go.Proofs.Ytpaedkefmebjjal.fnExactCpuOk
namespace Go.Proofs.Ytpaedkefmebjjal
theorem fnExactCpuOk_holds : Rows.FnExactCpuOkSaid := fnExactCpuOk.over
end Go.Proofs.Ytpaedkefmebjjal
