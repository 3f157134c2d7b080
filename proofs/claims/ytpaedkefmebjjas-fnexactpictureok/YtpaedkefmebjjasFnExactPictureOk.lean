/- At every picture unit that comes after, of the mirror's type and not too great, PictureOk of the program answers as PictureOk of the specification, and turns nothing of its argument. -/
import Derived.Test.YtpaedkefmebjjasRows
import Derived.Test.YtpaedkefmebjjasO4
import Derived.Test.YtpaedkefmebjjasTL
import Derived.WalkKit
import Derived.ProofKit
import Derived.OpenShut
import Derived.ShutString
import Derived.ChangeOld
import Derived.Below
import Derived.Deep.RegionWith
namespace Go.Proofs.Ytpaedkefmebjjas.fnExactPictureOk
open Go.ChangeShapes Go.WideShapes Go.ChangeAt Go.RowKit
open Go.ChangeMaps (open_string shut_string)
set_option linter.unusedVariables false
theorem own : ownKnob Try.prog.godebug = none := by kernel_rfl
theorem laidOut : laidOutB Try.prog = true := by kernel_rfl
set_option maxRecDepth 40000
set_option maxHeartbeats 2000000 in
theorem walk (a0PpuT : Int) (a0PpuCtrl : Int) (a0PpuScroll : Int) (a0PpuAddr : Int) (a0PpuPal : Int) (a0PpuBlank : Bool) (s0PpuTable : Option Addr) (n0PpuTable c0PpuTable : Nat) (f0PpuTable : Nat → Int) (s0PpuDots : Option Addr) (n0PpuDots c0PpuDots : Nat) (f0PpuDots : Nat → Int) (a0RingCap : Int) (s0RingList : Option Addr) (n0RingList c0RingList : Nat) (f0RingList : Nat → Int) (u0Frames : Value) (m0Frames : Nat) (ra0Frames : Nat → Option Addr) (ln0Frames rc0Frames : Nat → Nat) (f0Frames : Nat → Nat → Int) (w : World) (w0PpuT : (Lit.int .i64 a0PpuT).wf = true) (w0PpuCtrl : (Lit.int .i64 a0PpuCtrl).wf = true) (w0PpuScroll : (Lit.int .i64 a0PpuScroll).wf = true) (w0PpuAddr : (Lit.int .i64 a0PpuAddr).wf = true) (w0PpuPal : (Lit.int .i64 a0PpuPal).wf = true) (w0PpuTable : n0PpuTable ≤ 9223372036854775807 ∧ RowOf .i64 w s0PpuTable n0PpuTable f0PpuTable ∧ ∀ i, i < n0PpuTable → (Lit.int .i64 (f0PpuTable i)).wf = true) (w0PpuDots : n0PpuDots ≤ 9223372036854775807 ∧ RowOf .i64 w s0PpuDots n0PpuDots f0PpuDots ∧ ∀ i, i < n0PpuDots → (Lit.int .i64 (f0PpuDots i)).wf = true) (w0RingCap : (Lit.int .i64 a0RingCap).wf = true) (w0RingList : n0RingList ≤ 9223372036854775807 ∧ n0RingList ≤ c0RingList ∧ RowOf .i64 w s0RingList (n0RingList * 3) f0RingList) (w0Frames : RawSS w u0Frames m0Frames ra0Frames ln0Frames rc0Frames f0Frames) :
    Calls Try.prog 8 #[.agg #[.int .i64 a0PpuT, .int .i64 a0PpuCtrl, .int .i64 a0PpuScroll, .int .i64 a0PpuAddr, .int .i64 a0PpuPal, .bool a0PpuBlank, .slice s0PpuTable n0PpuTable c0PpuTable, .slice s0PpuDots n0PpuDots c0PpuDots, .int .i64 a0RingCap, .slice s0RingList n0RingList c0RingList, u0Frames]] w fun e w' => e = .returned (.bool true) ∧ Below w.heap.size w w' := by
  obtain ⟨p4, y4, hu4, -⟩ := w0Frames.outer
  subst hu4
  exact lawPictureOk w ⟨a0PpuT, a0PpuCtrl, a0PpuScroll, a0PpuAddr, a0PpuPal, a0PpuBlank, n0PpuTable, f0PpuTable, n0PpuDots, f0PpuDots, a0RingCap, n0RingList, f0RingList, m0Frames, ln0Frames, f0Frames⟩ s0PpuTable c0PpuTable s0PpuDots c0PpuDots s0RingList c0RingList p4 y4 ra0Frames rc0Frames w0PpuTable.1 w0PpuDots.1 w0RingList.1 w0PpuTable.2.1 w0PpuDots.2.1 w0RingList.2.2 w0Frames
set_option maxRecDepth 100000 in
theorem lifted (os : Os) (started : os.Started) (H : Type) (enc : TypeId × Value → H) :
    ReturnsInHanded {} Try.checked os 8 .any (Rows.fnExactPictureOkSpec.pre6 enc Try.prog Try.f8 Rows.fnExactPictureOkRow.domain false) (Rows.fnExactPictureOkSpec.post enc Try.prog Try.f8 false true false false) := by
  refine returnsInHanded_of_change (C := Try.checked) own started (by kernel_rfl) Try.func8
    (ChangeSpec.witness6 (enc := enc) (C := Try.checked) false ⟨#[], #[.agg #[.int .i64 0, .int .i64 0, .int .i64 0, .int .i64 0, .int .i64 0, .bool false, .slice none 0 0, .slice none 0 0, .int .i64 0, .slice none 0 0, .slice none 0 0]], []⟩ 8 (by kernel_rfl) (by kernel_rfl) (by kernel_rfl) (by kernel_rfl)) ?_
  intro W base args ds gs before hval0 hW hcnd _
  have hval : ∀ (j : Nat) t v, Try.f8.params[j]? = some t → args[j]? = some v → Value.okWide Try.prog W .any base t v := hval0
  have hW' := hW
  obtain ⟨p, q, hA0, hV, rfl, hfz, hnd⟩ := hW
  have hA : DataW.TrodAll enc Try.prog W 0 (fun _ => true) true Try.f8.params.toList args.toList ds p := hA0
  rw [Try.params8] at hA hval
  obtain ⟨v0, vs0, d0, ds0, p0, q0, hargs, rfl, rfl, h0, r0⟩ := trodAll_cons hA
  obtain ⟨rfl, rfl, rfl⟩ := trodAll_nil r0
  obtain rfl : args = #[v0] := by cases args; simp_all
  obtain ⟨rfl, rfl⟩ := trodVars_none hV
  have k0 := h0
  have lt0 : ∀ x ∈ p0, x.block < W.heap.size := by obtain ⟨m, hm⟩ := k0; exact DataW.trod_lt m _ _ _ hm
  obtain ⟨a0PpuT, a0PpuCtrl, a0PpuScroll, a0PpuAddr, a0PpuPal, a0PpuBlank, s0PpuTable, n0PpuTable, c0PpuTable, f0PpuTable, s0PpuDots, n0PpuDots, c0PpuDots, f0PpuDots, a0RingCap, s0RingList, n0RingList, c0RingList, f0RingList, u0Frames, m0Frames, ra0Frames, ln0Frames, rc0Frames, f0Frames, rfl, w0PpuT, w0PpuCtrl, w0PpuScroll, w0PpuAddr, w0PpuPal, w0PpuTable, w0PpuDots, w0RingCap, w0RingList, w0Frames⟩ := open_Picture (hval 0 53 v0 rfl rfl) h0
  clear hA0 hval0
  refine (walk a0PpuT a0PpuCtrl a0PpuScroll a0PpuAddr a0PpuPal a0PpuBlank s0PpuTable n0PpuTable c0PpuTable f0PpuTable s0PpuDots n0PpuDots c0PpuDots f0PpuDots a0RingCap s0RingList n0RingList c0RingList f0RingList u0Frames m0Frames ra0Frames ln0Frames rc0Frames f0Frames W w0PpuT w0PpuCtrl w0PpuScroll w0PpuAddr w0PpuPal w0PpuTable w0PpuDots w0RingCap w0RingList w0Frames).mono fun e W' ⟨he, bel⟩ => ?_
  subst he
  exact ⟨_, rfl, _, _, _, [], _, [], hW', trodAll_mk1 (shut_bool Try.underlying4 _), (trodAll_cons_mk (Below.trod laidOut (by kernel_rfl) (of_decide_eq_true (by kernel_rfl)) k0 bel lt0) trodAll_mk0), rfl, bel.frame _, fun h => by cases h⟩
theorem over : Rows.fnExactPictureOkRow.holds Try.pinned (OpenSpec.ofChange Rows.fnExactPictureOkSpec) :=
  OpenClaim.holds_of_wide 8 Try.f8 rfl rfl rfl rfl rfl rfl rfl ⟨rfl, rfl, rfl, rfl, rfl⟩ rfl rfl rfl rfl rfl (by kernel_rfl) Try.func8 (by kernel_rfl)
    (of_decide_eq_true (by kernel_rfl)) (by unfold Func.isWrapper; first | (rw [if_pos (by decide +kernel)]; kernel_rfl) | (rw [if_neg (by decide +kernel)]; exact ⟨rfl, rfl⟩))
    (fun os started H enc _ => lifted os started H enc)
end Go.Proofs.Ytpaedkefmebjjas.fnExactPictureOk
namespace Go.Proofs.Ytpaedkefmebjjas
theorem fnExactPictureOk_holds : Rows.FnExactPictureOkSaid := fnExactPictureOk.over
end Go.Proofs.Ytpaedkefmebjjas
