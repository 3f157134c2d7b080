/- At every console apart of the mirror's type that is not too great Wait of the program answers as Wait of the specification, and turns nothing of its argument. -/
import Derived.Test.YtjcaligejlhjdaaGreatDoorRows
import Derived.Test.YtjcaligejlhjdaaGreatDoorO5
import Derived.Test.YtjcaligejlhjdaaGreatDoorUY
import Derived.Test.YtjcaligejlhjdaaGreatDoorCards
import Derived.Test.YtjcaligejlhjdaaGreatDoorTie
import Derived.ChangeSame
import Derived.ChangeVars
import Derived.JoinedOf
import Derived.RowKit
import Derived.RowKitTokens
import Derived.LaidLaws
import Derived.LaidHandle
import Derived.Stop.Joined
import Derived.SevenTiedAt
import Derived.OpenVars
import Derived.WalkKit
import Derived.ProofKit
import Derived.OpenShut
import Derived.ShutString
import Derived.ChangeOld
import Derived.Below
import Derived.Deep.RegionWith
namespace Go.Proofs.YtjcaligejlhjdaaGreatDoor.fnExactWait
open Go.ChangeShapes Go.WideShapes Go.ChangeAt Go.RowKit
open Go.ChangeMaps (open_string shut_string)
set_option linter.unusedVariables false
theorem own : ownKnob Tryz.prog.godebug = none := by kernel_rfl
theorem laidOut : laidOutB Tryz.prog = true := by kernel_rfl
set_option maxRecDepth 40000
set_option maxHeartbeats 2000000 in
theorem walk (u0ImgBanks : Value) (m0ImgBanks : Nat) (ra0ImgBanks : Nat → Option Addr) (ln0ImgBanks rc0ImgBanks : Nat → Nat) (f0ImgBanks : Nat → Nat → Int) (s0Pads : Option Addr) (n0Pads c0Pads : Nat) (f0Pads : Nat → Int) (s0MemRam : Option Addr) (n0MemRam c0MemRam : Nat) (f0MemRam : Nat → Int) (a0MemBank : Int) (a0CpuA : Int) (a0CpuX : Int) (a0CpuS : Int) (a0CpuPc : Int) (a0CpuZ : Bool) (a0CpuN : Bool) (a0CpuC : Bool) (a0CpuI : Bool) (a0PadHeld : Bool) (a0PadShift : Int) (a0T : Int) (a0Nmi : Bool) (a0Ctrl : Int) (a0Known : Bool) (a0KnownAt : Int) (a0Steps : Int) (s0Reads : Option Addr) (n0Reads c0Reads : Nat) (f0Reads : Nat → Int) (a0PicturePpuT : Int) (a0PicturePpuCtrl : Int) (a0PicturePpuScroll : Int) (a0PicturePpuAddr : Int) (a0PicturePpuPal : Int) (a0PicturePpuBlank : Bool) (s0PicturePpuTable : Option Addr) (n0PicturePpuTable c0PicturePpuTable : Nat) (f0PicturePpuTable : Nat → Int) (s0PicturePpuDots : Option Addr) (n0PicturePpuDots c0PicturePpuDots : Nat) (f0PicturePpuDots : Nat → Int) (a0PictureRingCap : Int) (s0PictureRingList : Option Addr) (n0PictureRingList c0PictureRingList : Nat) (f0PictureRingList : Nat → Int) (u0PictureFrames : Value) (m0PictureFrames : Nat) (ra0PictureFrames : Nat → Option Addr) (ln0PictureFrames rc0PictureFrames : Nat → Nat) (f0PictureFrames : Nat → Nat → Int) (a0SoundApuT : Int) (a0SoundApuPeriod : Int) (a0SoundApuCount : Int) (a0SoundApuBit : Int) (a0SoundApuLength : Int) (a0SoundApuAsks : Bool) (a0SoundApuIrq : Bool) (a0SoundRingCap : Int) (s0SoundRingList : Option Addr) (n0SoundRingList c0SoundRingList : Nat) (f0SoundRingList : Nat → Int) (s0SoundSamples : Option Addr) (n0SoundSamples c0SoundSamples : Nat) (f0SoundSamples : Nat → Int) (w : World) (w0ImgBanks : RawSS w u0ImgBanks m0ImgBanks ra0ImgBanks ln0ImgBanks rc0ImgBanks f0ImgBanks) (w0Pads : n0Pads ≤ 9223372036854775807 ∧ RowOf .i64 w s0Pads n0Pads f0Pads ∧ ∀ i, i < n0Pads → (Lit.int .i64 (f0Pads i)).wf = true) (w0MemRam : n0MemRam ≤ 9223372036854775807 ∧ RowOf .i64 w s0MemRam n0MemRam f0MemRam ∧ ∀ i, i < n0MemRam → (Lit.int .i64 (f0MemRam i)).wf = true) (w0MemBank : (Lit.int .i64 a0MemBank).wf = true) (w0CpuA : (Lit.int .i64 a0CpuA).wf = true) (w0CpuX : (Lit.int .i64 a0CpuX).wf = true) (w0CpuS : (Lit.int .i64 a0CpuS).wf = true) (w0CpuPc : (Lit.int .i64 a0CpuPc).wf = true) (w0PadShift : (Lit.int .i64 a0PadShift).wf = true) (w0T : (Lit.int .i64 a0T).wf = true) (w0Ctrl : (Lit.int .i64 a0Ctrl).wf = true) (w0KnownAt : (Lit.int .i64 a0KnownAt).wf = true) (w0Steps : (Lit.int .i64 a0Steps).wf = true) (w0Reads : n0Reads ≤ 9223372036854775807 ∧ RowOf .i64 w s0Reads n0Reads f0Reads ∧ ∀ i, i < n0Reads → (Lit.int .i64 (f0Reads i)).wf = true) (w0PicturePpuT : (Lit.int .i64 a0PicturePpuT).wf = true) (w0PicturePpuCtrl : (Lit.int .i64 a0PicturePpuCtrl).wf = true) (w0PicturePpuScroll : (Lit.int .i64 a0PicturePpuScroll).wf = true) (w0PicturePpuAddr : (Lit.int .i64 a0PicturePpuAddr).wf = true) (w0PicturePpuPal : (Lit.int .i64 a0PicturePpuPal).wf = true) (w0PicturePpuTable : n0PicturePpuTable ≤ 9223372036854775807 ∧ RowOf .i64 w s0PicturePpuTable n0PicturePpuTable f0PicturePpuTable ∧ ∀ i, i < n0PicturePpuTable → (Lit.int .i64 (f0PicturePpuTable i)).wf = true) (w0PicturePpuDots : n0PicturePpuDots ≤ 9223372036854775807 ∧ RowOf .i64 w s0PicturePpuDots n0PicturePpuDots f0PicturePpuDots ∧ ∀ i, i < n0PicturePpuDots → (Lit.int .i64 (f0PicturePpuDots i)).wf = true) (w0PictureRingCap : (Lit.int .i64 a0PictureRingCap).wf = true) (w0PictureRingList : n0PictureRingList ≤ 9223372036854775807 ∧ n0PictureRingList ≤ c0PictureRingList ∧ RowOf .i64 w s0PictureRingList (n0PictureRingList * 3) f0PictureRingList) (w0PictureFrames : RawSS w u0PictureFrames m0PictureFrames ra0PictureFrames ln0PictureFrames rc0PictureFrames f0PictureFrames) (w0SoundApuT : (Lit.int .i64 a0SoundApuT).wf = true) (w0SoundApuPeriod : (Lit.int .i64 a0SoundApuPeriod).wf = true) (w0SoundApuCount : (Lit.int .i64 a0SoundApuCount).wf = true) (w0SoundApuBit : (Lit.int .i64 a0SoundApuBit).wf = true) (w0SoundApuLength : (Lit.int .i64 a0SoundApuLength).wf = true) (w0SoundRingCap : (Lit.int .i64 a0SoundRingCap).wf = true) (w0SoundRingList : n0SoundRingList ≤ 9223372036854775807 ∧ n0SoundRingList ≤ c0SoundRingList ∧ RowOf .i64 w s0SoundRingList (n0SoundRingList * 3) f0SoundRingList) (w0SoundSamples : n0SoundSamples ≤ 9223372036854775807 ∧ RowOf .i64 w s0SoundSamples n0SoundSamples f0SoundSamples ∧ ∀ i, i < n0SoundSamples → (Lit.int .i64 (f0SoundSamples i)).wf = true) (hd0 : ∀ i v, leafAt Tryz.prog 4 198 Rows.laid_loop_example_g00231_impl_opRows i = some v → w.cell? ⟨0, i, none⟩ = some v) :
    Calls Tryz.prog 3 #[.agg #[u0ImgBanks, .slice s0Pads n0Pads c0Pads, .slice s0MemRam n0MemRam c0MemRam, .int .i64 a0MemBank, .int .i64 a0CpuA, .int .i64 a0CpuX, .int .i64 a0CpuS, .int .i64 a0CpuPc, .bool a0CpuZ, .bool a0CpuN, .bool a0CpuC, .bool a0CpuI, .bool a0PadHeld, .int .i64 a0PadShift, .int .i64 a0T, .bool a0Nmi, .int .i64 a0Ctrl, .bool a0Known, .int .i64 a0KnownAt, .int .i64 a0Steps, .slice s0Reads n0Reads c0Reads, .int .i64 a0PicturePpuT, .int .i64 a0PicturePpuCtrl, .int .i64 a0PicturePpuScroll, .int .i64 a0PicturePpuAddr, .int .i64 a0PicturePpuPal, .bool a0PicturePpuBlank, .slice s0PicturePpuTable n0PicturePpuTable c0PicturePpuTable, .slice s0PicturePpuDots n0PicturePpuDots c0PicturePpuDots, .int .i64 a0PictureRingCap, .slice s0PictureRingList n0PictureRingList c0PictureRingList, u0PictureFrames, .int .i64 a0SoundApuT, .int .i64 a0SoundApuPeriod, .int .i64 a0SoundApuCount, .int .i64 a0SoundApuBit, .int .i64 a0SoundApuLength, .bool a0SoundApuAsks, .bool a0SoundApuIrq, .int .i64 a0SoundRingCap, .slice s0SoundRingList n0SoundRingList c0SoundRingList, .slice s0SoundSamples n0SoundSamples c0SoundSamples]] w fun e w' => e = .returned (.bool true) ∧ Below w.heap.size w w' := by
  have hT := opTab_of hd0
  clear hd0
  obtain ⟨p4, y4, hu4, -⟩ := w0PictureFrames.outer
  subst hu4
  exact lawWait w ⟨m0ImgBanks, ln0ImgBanks, f0ImgBanks, n0Pads, f0Pads, n0MemRam, f0MemRam, a0MemBank, a0CpuA, a0CpuX, a0CpuS, a0CpuPc, a0CpuZ, a0CpuN, a0CpuC, a0CpuI, a0PadHeld, a0PadShift, a0T, a0Nmi, a0Ctrl, a0Known, a0KnownAt, a0Steps, n0Reads, f0Reads, ⟨a0PicturePpuT, a0PicturePpuCtrl, a0PicturePpuScroll, a0PicturePpuAddr, a0PicturePpuPal, a0PicturePpuBlank, n0PicturePpuTable, f0PicturePpuTable, n0PicturePpuDots, f0PicturePpuDots, a0PictureRingCap, n0PictureRingList, f0PictureRingList, m0PictureFrames, ln0PictureFrames, f0PictureFrames⟩, ⟨a0SoundApuT, a0SoundApuPeriod, a0SoundApuCount, a0SoundApuBit, a0SoundApuLength, a0SoundApuAsks, a0SoundApuIrq, a0SoundRingCap, n0SoundRingList, f0SoundRingList, n0SoundSamples, f0SoundSamples⟩⟩ u0ImgBanks ra0ImgBanks rc0ImgBanks s0Pads c0Pads s0MemRam c0MemRam s0Reads c0Reads s0PicturePpuTable c0PicturePpuTable s0PicturePpuDots c0PicturePpuDots s0PictureRingList c0PictureRingList p4 y4 ra0PictureFrames rc0PictureFrames s0SoundRingList c0SoundRingList s0SoundSamples c0SoundSamples ⟨w0ImgBanks, w0PictureFrames, w0Pads.1, w0Pads.2.1, w0MemRam.1, w0MemRam.2.1, w0Reads.1, w0Reads.2.1, w0PicturePpuTable.1, w0PicturePpuTable.2.1, w0PicturePpuDots.1, w0PicturePpuDots.2.1, w0PictureRingList.1, w0PictureRingList.2.2, w0SoundRingList.1, w0SoundRingList.2.2, w0SoundSamples.1, w0SoundSamples.2.1⟩ hT
theorem data_of_laid {W : World} (h : laidMetH Tryz.prog Rows.fnExactWaitRow.laid W) : laidMet Tryz.prog [("loop.example/g00231/impl.opRows", Rows.laid_loop_example_g00231_impl_opRows)] W := h
noncomputable def laidWorld (os : Os) : World :=
  let w0 := World.holding Tryz.prog os ⟨#[], #[], []⟩
  let w0 := { w0 with heap := w0.heap.modify 0 fun
      | .cells _ t frozen => .cells (flatD 6 Rows.laid_loop_example_g00231_impl_opRows).toArray t frozen
      | o => o }
  w0
set_option maxRecDepth 100000 in
theorem laidWorld_met (os : Os) (args : Array Value) : laidMetH Tryz.prog Rows.fnExactWaitRow.laid ((laidWorld os).forCall (fun _ _ => 0) ⟨#[], args, []⟩).memory :=
  laidMetH_of_parts (laidMet_of_run' 8 (by kernel_rfl) (by kernel_rfl)) (by kernel_rfl)
set_option maxRecDepth 100000 in
theorem lifted (os : Os) (started : os.Started) (H : Type) (enc : TypeId × Value → H) :
    ReturnsInHanded {} Tryz.checked os 3 .any (fun w args => (Rows.fnExactWaitSpec.pre enc Tryz.prog Tryz.f3 [] false w args ∧ laidMetH Tryz.prog Rows.fnExactWaitRow.laid w) ∧ sizedMet enc Tryz.prog Tryz.f3 (OpenSpec.ofChange Rows.fnExactWaitSpec) false w args)
      (Rows.fnExactWaitSpec.post enc Tryz.prog Tryz.f3 false true false false) := by
  refine returnsInHanded_of_change_and (C := Tryz.checked) (X := fun w _ => laidMetH Tryz.prog Rows.fnExactWaitRow.laid w) (fun _ _ _ hh h => h.of_heap hh) own started (by kernel_rfl) Tryz.func3
    (ChangeSpec.witness_at (enc := enc) (C := Tryz.checked) (os := os) (X := fun w _ => laidMetH Tryz.prog Rows.fnExactWaitRow.laid w) false (laidWorld os) #[.agg #[.slice none 0 0, .slice none 0 0, .slice none 0 0, .int .i64 0, .int .i64 0, .int .i64 0, .int .i64 0, .int .i64 0, .bool false, .bool false, .bool false, .bool false, .bool false, .int .i64 0, .int .i64 0, .bool false, .int .i64 0, .bool false, .int .i64 0, .int .i64 0, .slice none 0 0, .int .i64 0, .int .i64 0, .int .i64 0, .int .i64 0, .int .i64 0, .bool false, .slice none 0 0, .slice none 0 0, .int .i64 0, .slice none 0 0, .slice none 0 0, .int .i64 0, .int .i64 0, .int .i64 0, .int .i64 0, .int .i64 0, .bool false, .bool false, .int .i64 0, .slice none 0 0, .slice none 0 0]] 8 rfl (by kernel_rfl) (by kernel_rfl) (by kernel_rfl) (by kernel_rfl) (by kernel_rfl) (laidWorld_met os _)) ?_
  intro W base args ds gs before hval0 hW _ _ hL _
  have hd0 := laid_cell_mem (t := 198) (show Tryz.prog.globalNamed "loop.example/g00231/impl.opRows" = some 0 by kernel_rfl) (by kernel_rfl) (d := Rows.laid_loop_example_g00231_impl_opRows) (by simp) (data_of_laid hL) 4
  have hval : ∀ (j : Nat) t v, Tryz.f3.params[j]? = some t → args[j]? = some v → Value.okWide Tryz.prog W .any base t v := hval0
  have hW' := hW
  obtain ⟨p, q, hA0, hV, rfl, hfz, hnd⟩ := hW
  have hA : DataW.TrodAll enc Tryz.prog W 0 (fun _ => true) true Tryz.f3.params.toList args.toList ds p := hA0
  rw [Tryz.params3] at hA hval
  obtain ⟨v0, vs0, d0, ds0, p0, q0, hargs, rfl, rfl, h0, r0⟩ := trodAll_cons hA
  obtain ⟨rfl, rfl, rfl⟩ := trodAll_nil r0
  obtain rfl : args = #[v0] := by cases args; simp_all
  have hV0 : DataW.TrodVars enc Tryz.prog W (fun _ => true) ["loop.example/g00231/impl.opRows"] gs q := hV
  obtain ⟨g0, gs0, qv0, rfl, hV1⟩ := trodVars_cons hV0
  obtain rfl := trodVars_nil hV1
  have k0 := h0
  have lt0 : ∀ x ∈ p0, x.block < W.heap.size := by obtain ⟨m, hm⟩ := k0; exact DataW.trod_lt m _ _ _ hm
  obtain ⟨u0ImgBanks, m0ImgBanks, ra0ImgBanks, ln0ImgBanks, rc0ImgBanks, f0ImgBanks, s0Pads, n0Pads, c0Pads, f0Pads, s0MemRam, n0MemRam, c0MemRam, f0MemRam, a0MemBank, a0CpuA, a0CpuX, a0CpuS, a0CpuPc, a0CpuZ, a0CpuN, a0CpuC, a0CpuI, a0PadHeld, a0PadShift, a0T, a0Nmi, a0Ctrl, a0Known, a0KnownAt, a0Steps, s0Reads, n0Reads, c0Reads, f0Reads, a0PicturePpuT, a0PicturePpuCtrl, a0PicturePpuScroll, a0PicturePpuAddr, a0PicturePpuPal, a0PicturePpuBlank, s0PicturePpuTable, n0PicturePpuTable, c0PicturePpuTable, f0PicturePpuTable, s0PicturePpuDots, n0PicturePpuDots, c0PicturePpuDots, f0PicturePpuDots, a0PictureRingCap, s0PictureRingList, n0PictureRingList, c0PictureRingList, f0PictureRingList, u0PictureFrames, m0PictureFrames, ra0PictureFrames, ln0PictureFrames, rc0PictureFrames, f0PictureFrames, a0SoundApuT, a0SoundApuPeriod, a0SoundApuCount, a0SoundApuBit, a0SoundApuLength, a0SoundApuAsks, a0SoundApuIrq, a0SoundRingCap, s0SoundRingList, n0SoundRingList, c0SoundRingList, f0SoundRingList, s0SoundSamples, n0SoundSamples, c0SoundSamples, f0SoundSamples, rfl, w0ImgBanks, w0Pads, w0MemRam, w0MemBank, w0CpuA, w0CpuX, w0CpuS, w0CpuPc, w0PadShift, w0T, w0Ctrl, w0KnownAt, w0Steps, w0Reads, w0PicturePpuT, w0PicturePpuCtrl, w0PicturePpuScroll, w0PicturePpuAddr, w0PicturePpuPal, w0PicturePpuTable, w0PicturePpuDots, w0PictureRingCap, w0PictureRingList, w0PictureFrames, w0SoundApuT, w0SoundApuPeriod, w0SoundApuCount, w0SoundApuBit, w0SoundApuLength, w0SoundRingCap, w0SoundRingList, w0SoundSamples⟩ := open_Split (hval 0 44 v0 rfl rfl) h0
  clear hA0 hval0
  refine (walk u0ImgBanks m0ImgBanks ra0ImgBanks ln0ImgBanks rc0ImgBanks f0ImgBanks s0Pads n0Pads c0Pads f0Pads s0MemRam n0MemRam c0MemRam f0MemRam a0MemBank a0CpuA a0CpuX a0CpuS a0CpuPc a0CpuZ a0CpuN a0CpuC a0CpuI a0PadHeld a0PadShift a0T a0Nmi a0Ctrl a0Known a0KnownAt a0Steps s0Reads n0Reads c0Reads f0Reads a0PicturePpuT a0PicturePpuCtrl a0PicturePpuScroll a0PicturePpuAddr a0PicturePpuPal a0PicturePpuBlank s0PicturePpuTable n0PicturePpuTable c0PicturePpuTable f0PicturePpuTable s0PicturePpuDots n0PicturePpuDots c0PicturePpuDots f0PicturePpuDots a0PictureRingCap s0PictureRingList n0PictureRingList c0PictureRingList f0PictureRingList u0PictureFrames m0PictureFrames ra0PictureFrames ln0PictureFrames rc0PictureFrames f0PictureFrames a0SoundApuT a0SoundApuPeriod a0SoundApuCount a0SoundApuBit a0SoundApuLength a0SoundApuAsks a0SoundApuIrq a0SoundRingCap s0SoundRingList n0SoundRingList c0SoundRingList f0SoundRingList s0SoundSamples n0SoundSamples c0SoundSamples f0SoundSamples W w0ImgBanks w0Pads w0MemRam w0MemBank w0CpuA w0CpuX w0CpuS w0CpuPc w0PadShift w0T w0Ctrl w0KnownAt w0Steps w0Reads w0PicturePpuT w0PicturePpuCtrl w0PicturePpuScroll w0PicturePpuAddr w0PicturePpuPal w0PicturePpuTable w0PicturePpuDots w0PictureRingCap w0PictureRingList w0PictureFrames w0SoundApuT w0SoundApuPeriod w0SoundApuCount w0SoundApuBit w0SoundApuLength w0SoundRingCap w0SoundRingList w0SoundSamples hd0).mono fun e W' ⟨he, bel⟩ => ?_
  subst he
  exact ⟨_, rfl, _, _, _, [], _, _, hW', trodAll_mk1 (shut_bool Tryz.underlying4 _), (trodAll_cons_mk (Below.trod laidOut (by kernel_rfl) (of_decide_eq_true (by kernel_rfl)) k0 bel lt0) trodAll_mk0), Below.trodVars laidOut bel (by kernel_rfl) hV, bel.frame _, fun h => by cases h⟩
theorem over : Rows.fnExactWaitRow.holds Tryz.pinned (OpenSpec.ofChange Rows.fnExactWaitSpec) :=
  OpenClaim.holds_of_wide 3 Tryz.f3 rfl rfl rfl rfl rfl rfl rfl ⟨rfl, rfl, rfl, rfl, rfl⟩ rfl rfl rfl rfl rfl (by kernel_rfl) Tryz.func3 (by kernel_rfl)
    (of_decide_eq_true (by kernel_rfl)) (by unfold Func.isWrapper; first | (rw [if_pos (by decide +kernel)]; kernel_rfl) | (rw [if_neg (by decide +kernel)]; exact ⟨rfl, rfl⟩))
    (fun os started H enc _ => lifted os started H enc)
theorem card : Rows.FnExactWaitCardSaid :=
  Claim7.holds_tied_plain_at .later [] [.data] true (true, "b3ff5ba57522092d46d1ac5b07e7d754d76f5f78cf75d136887eaa5c2a1a8d60") true
    over (fun _ h => by cases h) (by kernel_rfl) (fun _ h => by cases h) fnExactWait_row_tie rfl ⟨rfl, rfl⟩ (by kernel_rfl) rfl
    (fun f fn hf hfn => by
      obtain rfl : f = 3 := Option.some.inj ((show Tryz.prog.funcNamed "loop.example/g00231/laws.FnExactWait" = some 3 by kernel_rfl).symm.trans hf) |>.symm
      obtain rfl : fn = Tryz.f3 := (Option.some.inj (Tryz.func3.symm.trans hfn)).symm
      exact ⟨by kernel_rfl, fun j t ht => by
        rw [Tryz.params3] at ht
        rcases j with _ | j
        · obtain rfl : t = 44 := by simpa using ht.symm
          exact (show Tryz.prog.wantsStandIn 44 = false by kernel_rfl)
        · simp at ht⟩)
    (by kernel_rfl)
end Go.Proofs.YtjcaligejlhjdaaGreatDoor.fnExactWait
namespace Go.Proofs.YtjcaligejlhjdaaGreatDoor
theorem fnExactWait_holds : Rows.FnExactWaitCardSaid := fnExactWait.card
end Go.Proofs.YtjcaligejlhjdaaGreatDoor
