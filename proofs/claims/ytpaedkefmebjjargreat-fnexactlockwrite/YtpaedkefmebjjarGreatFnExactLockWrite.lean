/- At every console in step of the mirror's type that is not too great, every address and every number, LockWrite of the program answers as LockWrite of the specification, and turns nothing of its argument. -/
import Derived.Test.YtpaedkefmebjjarGreatRows
import Derived.Test.YtpaedkefmebjjarGreatO
import Derived.Test.YtpaedkefmebjjarGreatLE
import Derived.WalkKit
import Derived.ProofKit
import Derived.OpenShut
import Derived.ShutString
import Derived.ChangeOld
import Derived.Below
import Derived.Deep.RegionWith
namespace Go.Proofs.YtpaedkefmebjjarGreat.fnExactLockWrite
open Go.ChangeShapes Go.WideShapes Go.ChangeAt Go.RowKit
open Go.ChangeMaps (open_string shut_string)
set_option linter.unusedVariables false
theorem own : ownKnob Tryz.prog.godebug = none := by kernel_rfl
theorem laidOut : laidOutB Tryz.prog = true := by kernel_rfl
set_option maxRecDepth 40000
set_option maxHeartbeats 2000000 in
theorem walk (u0ImgBanks : Value) (m0ImgBanks : Nat) (ra0ImgBanks : Nat → Option Addr) (ln0ImgBanks rc0ImgBanks : Nat → Nat) (f0ImgBanks : Nat → Nat → Int) (s0Pads : Option Addr) (n0Pads c0Pads : Nat) (f0Pads : Nat → Int) (s0MemRam : Option Addr) (n0MemRam c0MemRam : Nat) (f0MemRam : Nat → Int) (a0MemBank : Int) (a0CpuA : Int) (a0CpuX : Int) (a0CpuS : Int) (a0CpuPc : Int) (a0CpuZ : Bool) (a0CpuN : Bool) (a0CpuC : Bool) (a0CpuI : Bool) (a0PpuT : Int) (a0PpuCtrl : Int) (a0PpuScroll : Int) (a0PpuAddr : Int) (a0PpuPal : Int) (a0PpuBlank : Bool) (s0PpuTable : Option Addr) (n0PpuTable c0PpuTable : Nat) (f0PpuTable : Nat → Int) (s0PpuDots : Option Addr) (n0PpuDots c0PpuDots : Nat) (f0PpuDots : Nat → Int) (a0ApuT : Int) (a0ApuPeriod : Int) (a0ApuCount : Int) (a0ApuBit : Int) (a0ApuLength : Int) (a0ApuAsks : Bool) (a0ApuIrq : Bool) (a0PadHeld : Bool) (a0PadShift : Int) (a0Nmi : Bool) (a0Steps : Int) (u0ObsFrames : Value) (m0ObsFrames : Nat) (ra0ObsFrames : Nat → Option Addr) (ln0ObsFrames rc0ObsFrames : Nat → Nat) (f0ObsFrames : Nat → Nat → Int) (s0ObsSamples : Option Addr) (n0ObsSamples c0ObsSamples : Nat) (f0ObsSamples : Nat → Int) (s0ObsReads : Option Addr) (n0ObsReads c0ObsReads : Nat) (f0ObsReads : Nat → Int) (a1 : Int) (a2 : Int) (w : World) (w0ImgBanks : RawSS w u0ImgBanks m0ImgBanks ra0ImgBanks ln0ImgBanks rc0ImgBanks f0ImgBanks) (w0Pads : n0Pads ≤ 9223372036854775807 ∧ RowOf .i64 w s0Pads n0Pads f0Pads ∧ ∀ i, i < n0Pads → (Lit.int .i64 (f0Pads i)).wf = true) (w0MemRam : n0MemRam ≤ 9223372036854775807 ∧ RowOf .i64 w s0MemRam n0MemRam f0MemRam ∧ ∀ i, i < n0MemRam → (Lit.int .i64 (f0MemRam i)).wf = true) (w0MemBank : (Lit.int .i64 a0MemBank).wf = true) (w0CpuA : (Lit.int .i64 a0CpuA).wf = true) (w0CpuX : (Lit.int .i64 a0CpuX).wf = true) (w0CpuS : (Lit.int .i64 a0CpuS).wf = true) (w0CpuPc : (Lit.int .i64 a0CpuPc).wf = true) (w0PpuT : (Lit.int .i64 a0PpuT).wf = true) (w0PpuCtrl : (Lit.int .i64 a0PpuCtrl).wf = true) (w0PpuScroll : (Lit.int .i64 a0PpuScroll).wf = true) (w0PpuAddr : (Lit.int .i64 a0PpuAddr).wf = true) (w0PpuPal : (Lit.int .i64 a0PpuPal).wf = true) (w0PpuTable : n0PpuTable ≤ 9223372036854775807 ∧ RowOf .i64 w s0PpuTable n0PpuTable f0PpuTable ∧ ∀ i, i < n0PpuTable → (Lit.int .i64 (f0PpuTable i)).wf = true) (w0PpuDots : n0PpuDots ≤ 9223372036854775807 ∧ RowOf .i64 w s0PpuDots n0PpuDots f0PpuDots ∧ ∀ i, i < n0PpuDots → (Lit.int .i64 (f0PpuDots i)).wf = true) (w0ApuT : (Lit.int .i64 a0ApuT).wf = true) (w0ApuPeriod : (Lit.int .i64 a0ApuPeriod).wf = true) (w0ApuCount : (Lit.int .i64 a0ApuCount).wf = true) (w0ApuBit : (Lit.int .i64 a0ApuBit).wf = true) (w0ApuLength : (Lit.int .i64 a0ApuLength).wf = true) (w0PadShift : (Lit.int .i64 a0PadShift).wf = true) (w0Steps : (Lit.int .i64 a0Steps).wf = true) (w0ObsFrames : RawSS w u0ObsFrames m0ObsFrames ra0ObsFrames ln0ObsFrames rc0ObsFrames f0ObsFrames) (w0ObsSamples : n0ObsSamples ≤ 9223372036854775807 ∧ RowOf .i64 w s0ObsSamples n0ObsSamples f0ObsSamples ∧ ∀ i, i < n0ObsSamples → (Lit.int .i64 (f0ObsSamples i)).wf = true) (w0ObsReads : n0ObsReads ≤ 9223372036854775807 ∧ RowOf .i64 w s0ObsReads n0ObsReads f0ObsReads ∧ ∀ i, i < n0ObsReads → (Lit.int .i64 (f0ObsReads i)).wf = true) (w1 : (Lit.int .i64 a1).wf = true) (w2 : (Lit.int .i64 a2).wf = true) :
    Calls Tryz.prog 4 #[.agg #[u0ImgBanks, .slice s0Pads n0Pads c0Pads, .slice s0MemRam n0MemRam c0MemRam, .int .i64 a0MemBank, .int .i64 a0CpuA, .int .i64 a0CpuX, .int .i64 a0CpuS, .int .i64 a0CpuPc, .bool a0CpuZ, .bool a0CpuN, .bool a0CpuC, .bool a0CpuI, .int .i64 a0PpuT, .int .i64 a0PpuCtrl, .int .i64 a0PpuScroll, .int .i64 a0PpuAddr, .int .i64 a0PpuPal, .bool a0PpuBlank, .slice s0PpuTable n0PpuTable c0PpuTable, .slice s0PpuDots n0PpuDots c0PpuDots, .int .i64 a0ApuT, .int .i64 a0ApuPeriod, .int .i64 a0ApuCount, .int .i64 a0ApuBit, .int .i64 a0ApuLength, .bool a0ApuAsks, .bool a0ApuIrq, .bool a0PadHeld, .int .i64 a0PadShift, .bool a0Nmi, .int .i64 a0Steps, u0ObsFrames, .slice s0ObsSamples n0ObsSamples c0ObsSamples, .slice s0ObsReads n0ObsReads c0ObsReads], .int .i64 a1, .int .i64 a2] w fun e w' => e = .returned (.bool true) ∧ Below w.heap.size w w' := by
  exact lawLockWrite w ⟨m0ImgBanks, ln0ImgBanks, f0ImgBanks, n0Pads, f0Pads, n0MemRam, f0MemRam, a0MemBank, a0CpuA, a0CpuX, a0CpuS, a0CpuPc, a0CpuZ, a0CpuN, a0CpuC, a0CpuI, a0PpuT, a0PpuCtrl, a0PpuScroll, a0PpuAddr, a0PpuPal, a0PpuBlank, n0PpuTable, f0PpuTable, n0PpuDots, f0PpuDots, a0ApuT, a0ApuPeriod, a0ApuCount, a0ApuBit, a0ApuLength, a0ApuAsks, a0ApuIrq, a0PadHeld, a0PadShift, a0Nmi, a0Steps, m0ObsFrames, ln0ObsFrames, f0ObsFrames, n0ObsSamples, f0ObsSamples, n0ObsReads, f0ObsReads⟩ u0ImgBanks ra0ImgBanks rc0ImgBanks s0Pads c0Pads s0MemRam c0MemRam s0PpuTable c0PpuTable s0PpuDots c0PpuDots u0ObsFrames ra0ObsFrames rc0ObsFrames s0ObsSamples c0ObsSamples s0ObsReads c0ObsReads a1 a2 ⟨w0ImgBanks, w0ObsFrames, w0Pads.1, w0Pads.2.1, w0MemRam.1, w0MemRam.2.1, w0PpuTable.1, w0PpuTable.2.1, w0PpuDots.1, w0PpuDots.2.1, w0ObsSamples.1, w0ObsSamples.2.1, w0ObsReads.1, w0ObsReads.2.1⟩
set_option maxRecDepth 100000 in
theorem lifted (os : Os) (started : os.Started) (H : Type) (enc : TypeId × Value → H) :
    ReturnsInHanded {} Tryz.checked os 4 .any (Rows.fnExactLockWriteSpec.pre6 enc Tryz.prog Tryz.f4 Rows.fnExactLockWriteRow.domain false) (Rows.fnExactLockWriteSpec.post enc Tryz.prog Tryz.f4 false true false false) := by
  refine returnsInHanded_of_change (C := Tryz.checked) own started (by kernel_rfl) Tryz.func4
    (ChangeSpec.witness6 (enc := enc) (C := Tryz.checked) false ⟨#[], #[.agg #[.slice none 0 0, .slice none 0 0, .slice none 0 0, .int .i64 0, .int .i64 0, .int .i64 0, .int .i64 0, .int .i64 0, .bool false, .bool false, .bool false, .bool false, .int .i64 0, .int .i64 0, .int .i64 0, .int .i64 0, .int .i64 0, .bool false, .slice none 0 0, .slice none 0 0, .int .i64 0, .int .i64 0, .int .i64 0, .int .i64 0, .int .i64 0, .bool false, .bool false, .bool false, .int .i64 0, .bool false, .int .i64 0, .slice none 0 0, .slice none 0 0, .slice none 0 0], .int .i64 0, .int .i64 0], []⟩ 8 (by kernel_rfl) (by kernel_rfl) (by kernel_rfl) (by kernel_rfl)) ?_
  intro W base args ds gs before hval0 hW hcnd _
  have hval : ∀ (j : Nat) t v, Tryz.f4.params[j]? = some t → args[j]? = some v → Value.okWide Tryz.prog W .any base t v := hval0
  have hW' := hW
  obtain ⟨p, q, hA0, hV, rfl, hfz, hnd⟩ := hW
  have hA : DataW.TrodAll enc Tryz.prog W 0 (fun _ => true) true Tryz.f4.params.toList args.toList ds p := hA0
  rw [Tryz.params4] at hA hval
  obtain ⟨v0, vs0, d0, ds0, p0, q0, hargs, rfl, rfl, h0, r0⟩ := trodAll_cons hA
  obtain ⟨v1, vs1, d1, ds1, p1, q1, rfl, rfl, rfl, h1, r1⟩ := trodAll_cons r0
  obtain ⟨v2, vs2, d2, ds2, p2, q2, rfl, rfl, rfl, h2, r2⟩ := trodAll_cons r1
  obtain ⟨rfl, rfl, rfl⟩ := trodAll_nil r2
  obtain rfl : args = #[v0, v1, v2] := by cases args; simp_all
  obtain ⟨rfl, rfl⟩ := trodVars_none hV
  have k0 := h0
  have lt0 : ∀ x ∈ p0, x.block < W.heap.size := by obtain ⟨m, hm⟩ := k0; exact DataW.trod_lt m _ _ _ hm
  have k1 := h1
  have lt1 : ∀ x ∈ p1, x.block < W.heap.size := by obtain ⟨m, hm⟩ := k1; exact DataW.trod_lt m _ _ _ hm
  have k2 := h2
  have lt2 : ∀ x ∈ p2, x.block < W.heap.size := by obtain ⟨m, hm⟩ := k2; exact DataW.trod_lt m _ _ _ hm
  obtain ⟨u0ImgBanks, m0ImgBanks, ra0ImgBanks, ln0ImgBanks, rc0ImgBanks, f0ImgBanks, s0Pads, n0Pads, c0Pads, f0Pads, s0MemRam, n0MemRam, c0MemRam, f0MemRam, a0MemBank, a0CpuA, a0CpuX, a0CpuS, a0CpuPc, a0CpuZ, a0CpuN, a0CpuC, a0CpuI, a0PpuT, a0PpuCtrl, a0PpuScroll, a0PpuAddr, a0PpuPal, a0PpuBlank, s0PpuTable, n0PpuTable, c0PpuTable, f0PpuTable, s0PpuDots, n0PpuDots, c0PpuDots, f0PpuDots, a0ApuT, a0ApuPeriod, a0ApuCount, a0ApuBit, a0ApuLength, a0ApuAsks, a0ApuIrq, a0PadHeld, a0PadShift, a0Nmi, a0Steps, u0ObsFrames, m0ObsFrames, ra0ObsFrames, ln0ObsFrames, rc0ObsFrames, f0ObsFrames, s0ObsSamples, n0ObsSamples, c0ObsSamples, f0ObsSamples, s0ObsReads, n0ObsReads, c0ObsReads, f0ObsReads, rfl, w0ImgBanks, w0Pads, w0MemRam, w0MemBank, w0CpuA, w0CpuX, w0CpuS, w0CpuPc, w0PpuT, w0PpuCtrl, w0PpuScroll, w0PpuAddr, w0PpuPal, w0PpuTable, w0PpuDots, w0ApuT, w0ApuPeriod, w0ApuCount, w0ApuBit, w0ApuLength, w0PadShift, w0Steps, w0ObsFrames, w0ObsSamples, w0ObsReads⟩ := open_Lock (hval 0 39 v0 rfl rfl) h0
  obtain ⟨a1, rfl, rfl, rfl, w1⟩ := open_int Tryz.underlying3 (hval 1 3 v1 rfl rfl) h1
  obtain ⟨a2, rfl, rfl, rfl, w2⟩ := open_int Tryz.underlying3 (hval 2 3 v2 rfl rfl) h2
  clear hA0 hval0
  refine (walk u0ImgBanks m0ImgBanks ra0ImgBanks ln0ImgBanks rc0ImgBanks f0ImgBanks s0Pads n0Pads c0Pads f0Pads s0MemRam n0MemRam c0MemRam f0MemRam a0MemBank a0CpuA a0CpuX a0CpuS a0CpuPc a0CpuZ a0CpuN a0CpuC a0CpuI a0PpuT a0PpuCtrl a0PpuScroll a0PpuAddr a0PpuPal a0PpuBlank s0PpuTable n0PpuTable c0PpuTable f0PpuTable s0PpuDots n0PpuDots c0PpuDots f0PpuDots a0ApuT a0ApuPeriod a0ApuCount a0ApuBit a0ApuLength a0ApuAsks a0ApuIrq a0PadHeld a0PadShift a0Nmi a0Steps u0ObsFrames m0ObsFrames ra0ObsFrames ln0ObsFrames rc0ObsFrames f0ObsFrames s0ObsSamples n0ObsSamples c0ObsSamples f0ObsSamples s0ObsReads n0ObsReads c0ObsReads f0ObsReads a1 a2 W w0ImgBanks w0Pads w0MemRam w0MemBank w0CpuA w0CpuX w0CpuS w0CpuPc w0PpuT w0PpuCtrl w0PpuScroll w0PpuAddr w0PpuPal w0PpuTable w0PpuDots w0ApuT w0ApuPeriod w0ApuCount w0ApuBit w0ApuLength w0PadShift w0Steps w0ObsFrames w0ObsSamples w0ObsReads w1 w2).mono fun e W' ⟨he, bel⟩ => ?_
  subst he
  exact ⟨_, rfl, _, _, _, [], _, [], hW', trodAll_mk1 (shut_bool Tryz.underlying4 _), (trodAll_cons_mk (Below.trod laidOut (by kernel_rfl) (of_decide_eq_true (by kernel_rfl)) k0 bel lt0) (trodAll_cons_mk (Below.trod laidOut (by kernel_rfl) (of_decide_eq_true (by kernel_rfl)) k1 bel lt1) (trodAll_cons_mk (Below.trod laidOut (by kernel_rfl) (of_decide_eq_true (by kernel_rfl)) k2 bel lt2) trodAll_mk0))), rfl, bel.frame _, fun h => by cases h⟩
theorem over : Rows.fnExactLockWriteRow.holds Tryz.pinned (OpenSpec.ofChange Rows.fnExactLockWriteSpec) :=
  OpenClaim.holds_of_wide 4 Tryz.f4 rfl rfl rfl rfl rfl rfl rfl ⟨rfl, rfl, rfl, rfl, rfl⟩ rfl rfl rfl rfl rfl (by kernel_rfl) Tryz.func4 (by kernel_rfl)
    (of_decide_eq_true (by kernel_rfl)) (by unfold Func.isWrapper; first | (rw [if_pos (by decide +kernel)]; kernel_rfl) | (rw [if_neg (by decide +kernel)]; exact ⟨rfl, rfl⟩))
    (fun os started H enc _ => lifted os started H enc)
end Go.Proofs.YtpaedkefmebjjarGreat.fnExactLockWrite
namespace Go.Proofs.YtpaedkefmebjjarGreat
theorem fnExactLockWrite_holds : Rows.FnExactLockWriteSaid := fnExactLockWrite.over
end Go.Proofs.YtpaedkefmebjjarGreat
