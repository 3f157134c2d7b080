/- At every ring of the mirror's type that is not too great, and every record, RingPut of the program answers as RingPut of the specification, and turns nothing of its arguments. -/
import Derived.Test.YtpaedkefmebjjasRows
import Derived.Test.YtpaedkefmebjjasO3
import Derived.Test.YtpaedkefmebjjasRP
import Derived.WalkKit
import Derived.ProofKit
import Derived.OpenShut
import Derived.ShutString
import Derived.ChangeOld
import Derived.Below
import Derived.Deep.RegionWith
namespace Go.Proofs.Ytpaedkefmebjjas.fnExactRingPut
open Go.ChangeShapes Go.WideShapes Go.ChangeAt Go.RowKit
open Go.ChangeMaps (open_string shut_string)
set_option linter.unusedVariables false
theorem own : ownKnob Try.prog.godebug = none := by kernel_rfl
theorem laidOut : laidOutB Try.prog = true := by kernel_rfl
set_option maxRecDepth 40000
set_option maxHeartbeats 2000000 in
theorem walk (a0Cap : Int) (s0List : Option Addr) (n0List c0List : Nat) (f0List : Nat → Int) (a1T : Int) (a1Reg : Int) (a1V : Int) (w : World) (w0Cap : (Lit.int .i64 a0Cap).wf = true) (w0List : n0List ≤ 9223372036854775807 ∧ n0List ≤ c0List ∧ RowOf .i64 w s0List (n0List * 3) f0List) (w1T : (Lit.int .i64 a1T).wf = true) (w1Reg : (Lit.int .i64 a1Reg).wf = true) (w1V : (Lit.int .i64 a1V).wf = true) :
    Calls Try.prog 5 #[.agg #[.int .i64 a0Cap, .slice s0List n0List c0List], .agg #[.int .i64 a1T, .int .i64 a1Reg, .int .i64 a1V]] w fun e w' => e = .returned (.bool true) ∧ Below w.heap.size w w' := by
  exact lawRingPut w a0Cap s0List n0List c0List f0List a1T a1Reg a1V w0List.1 w0List.2.1 w0List.2.2
set_option maxRecDepth 100000 in
theorem lifted (os : Os) (started : os.Started) (H : Type) (enc : TypeId × Value → H) :
    ReturnsInHanded {} Try.checked os 5 .any (Rows.fnExactRingPutSpec.pre6 enc Try.prog Try.f5 Rows.fnExactRingPutRow.domain false) (Rows.fnExactRingPutSpec.post enc Try.prog Try.f5 false true false false) := by
  refine returnsInHanded_of_change (C := Try.checked) own started (by kernel_rfl) Try.func5
    (ChangeSpec.witness6 (enc := enc) (C := Try.checked) false ⟨#[], #[.agg #[.int .i64 0, .slice none 0 0], .agg #[.int .i64 0, .int .i64 0, .int .i64 0]], []⟩ 8 (by kernel_rfl) (by kernel_rfl) (by kernel_rfl) (by kernel_rfl)) ?_
  intro W base args ds gs before hval0 hW hcnd _
  have hval : ∀ (j : Nat) t v, Try.f5.params[j]? = some t → args[j]? = some v → Value.okWide Try.prog W .any base t v := hval0
  have hW' := hW
  obtain ⟨p, q, hA0, hV, rfl, hfz, hnd⟩ := hW
  have hA : DataW.TrodAll enc Try.prog W 0 (fun _ => true) true Try.f5.params.toList args.toList ds p := hA0
  rw [Try.params5] at hA hval
  obtain ⟨v0, vs0, d0, ds0, p0, q0, hargs, rfl, rfl, h0, r0⟩ := trodAll_cons hA
  obtain ⟨v1, vs1, d1, ds1, p1, q1, rfl, rfl, rfl, h1, r1⟩ := trodAll_cons r0
  obtain ⟨rfl, rfl, rfl⟩ := trodAll_nil r1
  obtain rfl : args = #[v0, v1] := by cases args; simp_all
  obtain ⟨rfl, rfl⟩ := trodVars_none hV
  have k0 := h0
  have lt0 : ∀ x ∈ p0, x.block < W.heap.size := by obtain ⟨m, hm⟩ := k0; exact DataW.trod_lt m _ _ _ hm
  have k1 := h1
  have lt1 : ∀ x ∈ p1, x.block < W.heap.size := by obtain ⟨m, hm⟩ := k1; exact DataW.trod_lt m _ _ _ hm
  obtain ⟨a0Cap, s0List, n0List, c0List, f0List, rfl, w0Cap, w0List⟩ := open_Ring (hval 0 24 v0 rfl rfl) h0
  obtain ⟨a1T, a1Reg, a1V, rfl, w1T, w1Reg, w1V⟩ := open_Rec (hval 1 38 v1 rfl rfl) h1
  clear hA0 hval0
  refine (walk a0Cap s0List n0List c0List f0List a1T a1Reg a1V W w0Cap w0List w1T w1Reg w1V).mono fun e W' ⟨he, bel⟩ => ?_
  subst he
  exact ⟨_, rfl, _, _, _, [], _, [], hW', trodAll_mk1 (shut_bool Try.underlying4 _), (trodAll_cons_mk (Below.trod laidOut (by kernel_rfl) (of_decide_eq_true (by kernel_rfl)) k0 bel lt0) (trodAll_cons_mk (Below.trod laidOut (by kernel_rfl) (of_decide_eq_true (by kernel_rfl)) k1 bel lt1) trodAll_mk0)), rfl, bel.frame _, fun h => by cases h⟩
theorem over : Rows.fnExactRingPutRow.holds Try.pinned (OpenSpec.ofChange Rows.fnExactRingPutSpec) :=
  OpenClaim.holds_of_wide 5 Try.f5 rfl rfl rfl rfl rfl rfl rfl ⟨rfl, rfl, rfl, rfl, rfl⟩ rfl rfl rfl rfl rfl (by kernel_rfl) Try.func5 (by kernel_rfl)
    (of_decide_eq_true (by kernel_rfl)) (by unfold Func.isWrapper; first | (rw [if_pos (by decide +kernel)]; kernel_rfl) | (rw [if_neg (by decide +kernel)]; exact ⟨rfl, rfl⟩))
    (fun os started H enc _ => lifted os started H enc)
end Go.Proofs.Ytpaedkefmebjjas.fnExactRingPut
namespace Go.Proofs.Ytpaedkefmebjjas
theorem fnExactRingPut_holds : Rows.FnExactRingPutSaid := fnExactRingPut.over
end Go.Proofs.Ytpaedkefmebjjas
