/- At every sound unit of the mirror's type ApuOk of the program answers as ApuOk of the specification. -/
import Derived.Test.YtpaedkefmebjjapRows
import Derived.Test.YtpaedkefmebjjapO
import Derived.Test.YtpaedkefmebjjapAI
import Derived.WalkKit
import Derived.ProofKit
import Derived.OpenShut
import Derived.ShutString
import Derived.ChangeOld
import Derived.Below
import Derived.Deep.RegionWith
namespace Go.Proofs.Ytpaedkefmebjjap.fnExactApuOk
open Go.ChangeShapes Go.WideShapes Go.ChangeAt Go.RowKit
open Go.ChangeMaps (open_string shut_string)
set_option linter.unusedVariables false
theorem own : ownKnob Try.prog.godebug = none := by kernel_rfl
theorem laidOut : laidOutB Try.prog = true := by kernel_rfl
set_option maxHeartbeats 1000000 in
theorem walk (a0T : Int) (a0Period : Int) (a0Count : Int) (a0Bit : Int) (a0Length : Int) (a0Asks : Bool) (a0Irq : Bool) (w : World) (w0T : (Lit.int .i64 a0T).wf = true) (w0Period : (Lit.int .i64 a0Period).wf = true) (w0Count : (Lit.int .i64 a0Count).wf = true) (w0Bit : (Lit.int .i64 a0Bit).wf = true) (w0Length : (Lit.int .i64 a0Length).wf = true) :
    Calls Try.prog 6 #[.agg #[.int .i64 a0T, .int .i64 a0Period, .int .i64 a0Count, .int .i64 a0Bit, .int .i64 a0Length, .bool a0Asks, .bool a0Irq]] w fun e w' => e = .returned (.bool true) ∧ Below w.heap.size w w' := by
  have L0 : Below w.heap.size w (w.alloc (.cells #[.int .i64 a0T, .int .i64 a0Period, .int .i64 a0Count, .int .i64 a0Bit, .int .i64 a0Length, .bool a0Asks, .bool a0Irq] 26)) := (Below.refl _ _).alloc (Nat.le_refl _) _
  have b0 := box_new w #[.int .i64 a0T, .int .i64 a0Period, .int .i64 a0Count, .int .i64 a0Bit, .int .i64 a0Length, .bool a0Asks, .bool a0Irq] 26
  go_enter Try.func6, Try.ntmps6
  go_wp2_with fail
  refine (toApu _ a0T a0Period a0Count a0Bit a0Length a0Asks a0Irq).mono ?_
  rintro e w1 ⟨rfl, L1⟩
  have C1 := below_snoc L0 L1
  have b1 := box_keep b0 L1 (boxLt b0)
  clear L0 L1 b0
  obtain ⟨ok, hok⟩ : ∃ ok, Hid (ok = okApu a0T a0Period a0Count a0Bit a0Length) := ⟨_, rfl⟩
  go_wp2_with fail
  refine (specApuOk _ a0T a0Period a0Count a0Bit a0Length a0Asks a0Irq).mono ?_
  rintro e w2 ⟨rfl, L2⟩
  rw [← hok.out]
  have C2 := below_snoc C1 L2
  have b2 := box_keep b1 L2 (boxLt b1)
  have q := boxC b2
  clear L2 b1 C1
  go_wp2_with fail
  refine (toApu _ a0T a0Period a0Count a0Bit a0Length a0Asks a0Irq).mono ?_
  rintro e w3 ⟨rfl, L3⟩
  have C3 := below_snoc C2 L3
  clear q b2 L3 C2
  go_wp2_with fail
  refine (implApuOk _ a0T a0Period a0Count a0Bit a0Length a0Asks a0Irq).mono ?_
  rintro e w4 ⟨rfl, L4⟩
  rw [← hok.out]
  have C4 := below_snoc C3 L4
  clear L4 C3 hok
  cases ok <;> (
  go_wp2
  go_ret
  exact ⟨rfl, C4⟩)
set_option maxRecDepth 100000 in
theorem lifted (os : Os) (started : os.Started) (H : Type) (enc : TypeId × Value → H) :
    ReturnsInHanded {} Try.checked os 6 .any (Rows.fnExactApuOkSpec.pre6 enc Try.prog Try.f6 Rows.fnExactApuOkRow.domain false) (Rows.fnExactApuOkSpec.post enc Try.prog Try.f6 false true false false) := by
  refine returnsInHanded_of_change (C := Try.checked) own started (by kernel_rfl) Try.func6
    (ChangeSpec.witness6 (enc := enc) (C := Try.checked) false ⟨#[], #[.agg #[.int .i64 0, .int .i64 0, .int .i64 0, .int .i64 0, .int .i64 0, .bool false, .bool false]], []⟩ 8 (by kernel_rfl) (by kernel_rfl) (by kernel_rfl) (by kernel_rfl)) ?_
  intro W base args ds gs before hval0 hW hcnd _
  have hval : ∀ (j : Nat) t v, Try.f6.params[j]? = some t → args[j]? = some v → Value.okWide Try.prog W .any base t v := hval0
  have hW' := hW
  obtain ⟨p, q, hA0, hV, rfl, hfz, hnd⟩ := hW
  have hA : DataW.TrodAll enc Try.prog W 0 (fun _ => true) true Try.f6.params.toList args.toList ds p := hA0
  rw [Try.params6] at hA hval
  obtain ⟨v0, vs0, d0, ds0, p0, q0, hargs, rfl, rfl, h0, r0⟩ := trodAll_cons hA
  obtain ⟨rfl, rfl, rfl⟩ := trodAll_nil r0
  obtain rfl : args = #[v0] := by cases args; simp_all
  obtain ⟨rfl, rfl⟩ := trodVars_none hV
  have k0 := h0
  have lt0 : ∀ x ∈ p0, x.block < W.heap.size := by obtain ⟨m, hm⟩ := k0; exact DataW.trod_lt m _ _ _ hm
  obtain ⟨a0T, a0Period, a0Count, a0Bit, a0Length, a0Asks, a0Irq, rfl, w0T, w0Period, w0Count, w0Bit, w0Length⟩ := open_Apu (hval 0 26 v0 rfl rfl) h0
  clear hA0 hval0
  refine (walk a0T a0Period a0Count a0Bit a0Length a0Asks a0Irq W w0T w0Period w0Count w0Bit w0Length).mono fun e W' ⟨he, bel⟩ => ?_
  subst he
  exact ⟨_, rfl, _, _, _, [], _, [], hW', trodAll_mk1 (shut_bool Try.underlying4 _), (trodAll_cons_mk (Below.trod laidOut (by kernel_rfl) (of_decide_eq_true (by kernel_rfl)) k0 bel lt0) trodAll_mk0), rfl, bel.frame _, fun h => by cases h⟩
theorem over : Rows.fnExactApuOkRow.holds Try.pinned (OpenSpec.ofChange Rows.fnExactApuOkSpec) :=
  OpenClaim.holds_of_wide 6 Try.f6 rfl rfl rfl rfl rfl rfl rfl ⟨rfl, rfl, rfl, rfl, rfl⟩ rfl rfl rfl rfl rfl (by kernel_rfl) Try.func6 (by kernel_rfl)
    (of_decide_eq_true (by kernel_rfl)) (by unfold Func.isWrapper; first | (rw [if_pos (by decide +kernel)]; kernel_rfl) | (rw [if_neg (by decide +kernel)]; exact ⟨rfl, rfl⟩))
    (fun os started H enc _ => lifted os started H enc)
end Go.Proofs.Ytpaedkefmebjjap.fnExactApuOk
namespace Go.Proofs.Ytpaedkefmebjjap
theorem fnExactApuOk_holds : Rows.FnExactApuOkSaid := fnExactApuOk.over
end Go.Proofs.Ytpaedkefmebjjap
