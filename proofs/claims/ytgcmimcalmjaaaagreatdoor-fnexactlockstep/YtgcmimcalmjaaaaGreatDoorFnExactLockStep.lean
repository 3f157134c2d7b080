import Derived.Test.YtgcmimcalmjaaaaGreatDoorSV
import Derived.Test.YtgcmimcalmjaaaaGreatDoorCards
import Derived.Test.YtgcmimcalmjaaaaGreatDoorTie
import Derived.ChangeSame
import Derived.ChangeVars
import Derived.JoinedOf
import Derived.RowKit
import Derived.RowKitTokens
import Derived.LaidLaws
import Derived.LaidHandle
import Derived.Stop.Joined
import Derived.SevenTiedAt
import Derived.OpenVars
namespace Go.Proofs.YtgcmimcalmjaaaaGreatDoor.fnExactLockStep
set_option maxHeartbeats 2000000
set_option maxRecDepth 100000
open Go.ChangeShapes Go.WideShapes Go.ChangeAt Go.RowKit
open Go.ChangeMaps (open_string shut_string)
set_option linter.unusedVariables false
theorem own:ownKnob Tryz.prog.godebug=none:=by kernel_rfl
theorem laidOut:laidOutB Tryz.prog=true:=by kernel_rfl
set_option maxRecDepth 40000
theorem walk (u0ImgBanks:Value) (m0ImgBanks:Nat) (ra0ImgBanks:Nat→Option Addr) (ln0ImgBanks rc0ImgBanks:Nat→Nat) (f0ImgBanks:Nat→Nat→Int) (s0Pads:Option Addr) (n0Pads c0Pads:Nat) (f0Pads:Nat→Int) (s0MemRam:Option Addr) (n0MemRam c0MemRam:Nat) (f0MemRam:Nat→Int) (a0MemBank:Int) (a0CpuA:Int) (a0CpuX:Int) (a0CpuS:Int) (a0CpuPc:Int) (a0CpuZ:Bool) (a0CpuN:Bool) (a0CpuC:Bool) (a0CpuI:Bool) (a0PpuT:Int) (a0PpuCtrl:Int) (a0PpuScroll:Int) (a0PpuAddr:Int) (a0PpuPal:Int) (a0PpuBlank:Bool) (s0PpuTable:Option Addr) (n0PpuTable c0PpuTable:Nat) (f0PpuTable:Nat→Int) (s0PpuDots:Option Addr) (n0PpuDots c0PpuDots:Nat) (f0PpuDots:Nat→Int) (a0ApuT:Int) (a0ApuPeriod:Int) (a0ApuCount:Int) (a0ApuBit:Int) (a0ApuLength:Int) (a0ApuAsks:Bool) (a0ApuIrq:Bool) (a0PadHeld:Bool) (a0PadShift:Int) (a0Nmi:Bool) (a0Steps:Int) (u0ObsFrames:Value) (m0ObsFrames:Nat) (ra0ObsFrames:Nat→Option Addr) (ln0ObsFrames rc0ObsFrames:Nat→Nat) (f0ObsFrames:Nat→Nat→Int) (s0ObsSamples:Option Addr) (n0ObsSamples c0ObsSamples:Nat) (f0ObsSamples:Nat→Int) (s0ObsReads:Option Addr) (n0ObsReads c0ObsReads:Nat) (f0ObsReads:Nat→Int) (w:World) (w0ImgBanks:Ed w u0ImgBanks m0ImgBanks ra0ImgBanks ln0ImgBanks rc0ImgBanks f0ImgBanks) (w0Pads:n0Pads≤9223372036854775807∧Be .i64 w s0Pads n0Pads f0Pads∧∀ i,i<n0Pads→(Lit.i (f0Pads i)).wf=true) (w0MemRam:n0MemRam≤9223372036854775807∧Be .i64 w s0MemRam n0MemRam f0MemRam∧∀ i,i<n0MemRam→(Lit.i (f0MemRam i)).wf=true) (w0MemBank:(Lit.i a0MemBank).wf=true) (w0CpuA:(Lit.i a0CpuA).wf=true) (w0CpuX:(Lit.i a0CpuX).wf=true) (w0CpuS:(Lit.i a0CpuS).wf=true) (w0CpuPc:(Lit.i a0CpuPc).wf=true) (w0PpuT:(Lit.i a0PpuT).wf=true) (w0PpuCtrl:(Lit.i a0PpuCtrl).wf=true) (w0PpuScroll:(Lit.i a0PpuScroll).wf=true) (w0PpuAddr:(Lit.i a0PpuAddr).wf=true) (w0PpuPal:(Lit.i a0PpuPal).wf=true) (w0PpuTable:n0PpuTable≤9223372036854775807∧Be .i64 w s0PpuTable n0PpuTable f0PpuTable∧∀ i,i<n0PpuTable→(Lit.i (f0PpuTable i)).wf=true) (w0PpuDots:n0PpuDots≤9223372036854775807∧Be .i64 w s0PpuDots n0PpuDots f0PpuDots∧∀ i,i<n0PpuDots→(Lit.i (f0PpuDots i)).wf=true) (w0ApuT:(Lit.i a0ApuT).wf=true) (w0ApuPeriod:(Lit.i a0ApuPeriod).wf=true) (w0ApuCount:(Lit.i a0ApuCount).wf=true) (w0ApuBit:(Lit.i a0ApuBit).wf=true) (w0ApuLength:(Lit.i a0ApuLength).wf=true) (w0PadShift:(Lit.i a0PadShift).wf=true) (w0Steps:(Lit.i a0Steps).wf=true) (w0ObsFrames:Ed w u0ObsFrames m0ObsFrames ra0ObsFrames ln0ObsFrames rc0ObsFrames f0ObsFrames) (w0ObsSamples:n0ObsSamples≤9223372036854775807∧Be .i64 w s0ObsSamples n0ObsSamples f0ObsSamples∧∀ i,i<n0ObsSamples→(Lit.i (f0ObsSamples i)).wf=true) (w0ObsReads:n0ObsReads≤9223372036854775807∧Be .i64 w s0ObsReads n0ObsReads f0ObsReads∧∀ i,i<n0ObsReads→(Lit.i (f0ObsReads i)).wf=true) (hd0:∀ i v,Ff Tryz.prog 4 190 Rows.laid_loop_example_g00231_impl_opRows i=some v→w.cell? ⟨0,i,none⟩=some v) :
  Calls Tryz.prog 3 #[.agg #[u0ImgBanks,.slice s0Pads n0Pads c0Pads,.slice s0MemRam n0MemRam c0MemRam,.i a0MemBank,.i a0CpuA,.i a0CpuX,.i a0CpuS,.i a0CpuPc,.bool a0CpuZ,.bool a0CpuN,.bool a0CpuC,.bool a0CpuI,.i a0PpuT,.i a0PpuCtrl,.i a0PpuScroll,.i a0PpuAddr,.i a0PpuPal,.bool a0PpuBlank,.slice s0PpuTable n0PpuTable c0PpuTable,.slice s0PpuDots n0PpuDots c0PpuDots,.i a0ApuT,.i a0ApuPeriod,.i a0ApuCount,.i a0ApuBit,.i a0ApuLength,.bool a0ApuAsks,.bool a0ApuIrq,.bool a0PadHeld,.i a0PadShift,.bool a0Nmi,.i a0Steps,u0ObsFrames,.slice s0ObsSamples n0ObsSamples c0ObsSamples,.slice s0ObsReads n0ObsReads c0ObsReads]] w fun e w'=>e=.returned (.bool true)∧Below w.heap.size w w':=by
 have hT:=Yj hd0;clear hd0
 exact Sp w ⟨m0ImgBanks,ln0ImgBanks,f0ImgBanks,n0Pads,f0Pads,n0MemRam,f0MemRam,a0MemBank,a0CpuA,a0CpuX,a0CpuS,a0CpuPc,a0CpuZ,a0CpuN,a0CpuC,a0CpuI,a0PpuT,a0PpuCtrl,a0PpuScroll,a0PpuAddr,a0PpuPal,a0PpuBlank,n0PpuTable,f0PpuTable,n0PpuDots,f0PpuDots,a0ApuT,a0ApuPeriod,a0ApuCount,a0ApuBit,a0ApuLength,a0ApuAsks,a0ApuIrq,a0PadHeld,a0PadShift,a0Nmi,a0Steps,m0ObsFrames,ln0ObsFrames,f0ObsFrames,n0ObsSamples,f0ObsSamples,n0ObsReads,f0ObsReads⟩ u0ImgBanks ra0ImgBanks rc0ImgBanks s0Pads c0Pads s0MemRam c0MemRam s0PpuTable c0PpuTable s0PpuDots c0PpuDots u0ObsFrames ra0ObsFrames rc0ObsFrames s0ObsSamples c0ObsSamples s0ObsReads c0ObsReads hT ⟨w0ImgBanks,w0ObsFrames,w0Pads.1,w0Pads.2.1,w0MemRam.1,w0MemRam.2.1,w0PpuTable.1,w0PpuTable.2.1,w0PpuDots.1,w0PpuDots.2.1,w0ObsSamples.1,w0ObsSamples.2.1,w0ObsReads.1,w0ObsReads.2.1⟩
theorem Qp {W : World} (h : laidMetH Tryz.prog Rows.fnExactLockStepRow.laid W) : laidMet Tryz.prog [("loop.example/g00231/impl.opRows", Rows.laid_loop_example_g00231_impl_opRows)] W := h
noncomputable def laidWorld (os:Os):World :=
 let w0:=World.holding Tryz.prog os ⟨#[],#[],[]⟩
 let w0:={ w0 with heap:=w0.heap.modify 0 fun
   | .cells _ t frozen=>.cells (Jbt 6 Rows.laid_loop_example_g00231_impl_opRows).toArray t frozen
   | o=>o }
 w0
theorem N6 (os:Os) (args:Array Value):laidMetH Tryz.prog Rows.fnExactLockStepRow.laid ((laidWorld os).forCall (fun _ _=>0) ⟨#[],args,[]⟩).memory :=
 laidMetH_of_parts (laidMet_of_run' 8 (by kernel_rfl) (by kernel_rfl)) (by kernel_rfl)
theorem lifted (os:Os) (started:os.Started) (H:Type) (enc:TypeId × Value→H) :
  ReturnsInHanded {} Tryz.checked os 3 .any (fun w args=>(Rows.fnExactLockStepSpec.pre enc Tryz.prog Tryz.f3 [] false w args∧laidMetH Tryz.prog Rows.fnExactLockStepRow.laid w)∧sizedMet enc Tryz.prog Tryz.f3 (OpenSpec.ofChange Rows.fnExactLockStepSpec) false w args)
   (Rows.fnExactLockStepSpec.post enc Tryz.prog Tryz.f3 false true false false):=by
 refine returnsInHanded_of_change_and (C:=Tryz.checked) (X:=fun w _=>laidMetH Tryz.prog Rows.fnExactLockStepRow.laid w) (fun _ _ _ hh h=>h.of_heap hh) own started (by kernel_rfl) Tryz.func3
  (ChangeSpec.witness_at (enc:=enc) (C:=Tryz.checked) (os:=os) (X:=fun w _=>laidMetH Tryz.prog Rows.fnExactLockStepRow.laid w) false (laidWorld os) #[.agg zR] 8 rfl (by kernel_rfl) (by kernel_rfl) (by kernel_rfl) (by kernel_rfl) (by kernel_rfl) (N6 os _)) ?_
 intro W base args ds gs before hval0 hW _ _ hL _;have hd0 := Nm (t := 190) (show Tryz.prog.globalNamed "loop.example/g00231/impl.opRows" = some 0 by kernel_rfl) (by kernel_rfl) (d := Rows.laid_loop_example_g00231_impl_opRows) (by simp) (Qp hL) 4;have hval : ∀ (j : Nat) t v, Tryz.f3.params[j]? = some t → args[j]? = some v → Value.okWide Tryz.prog W .any base t v := hval0;have hW' := hW;obtain ⟨p, q, hA0, hV, rfl, hfz, hnd⟩ := hW;have hA : DataW.TrodAll enc Tryz.prog W 0 (fun _ => true) true Tryz.f3.params.toList args.toList ds p := hA0;rw [Tryz.params3] at hA hval;obtain ⟨v0, vs0, d0, ds0, p0, q0, hargs, rfl, rfl, h0, r0⟩ := trodAll_cons hA;obtain ⟨rfl, rfl, rfl⟩ := trodAll_nil r0
 obtain rfl:args=#[v0]:=by cases args; simp_all
 have hV0 : DataW.TrodVars enc Tryz.prog W (fun _ => true) ["loop.example/g00231/impl.opRows"] gs q := hV;obtain ⟨g0, gs0, qv0, rfl, hV1⟩ := Nn hV0;obtain rfl := Pm hV1;have k0 := h0
 have lt0:∀ x∈p0,x.block<W.heap.size:=by obtain ⟨m,hm⟩:=k0; exact DataW.trod_lt m _ _ _ hm
 obtain ⟨u0ImgBanks,m0ImgBanks,ra0ImgBanks,ln0ImgBanks,rc0ImgBanks,f0ImgBanks,s0Pads,n0Pads,c0Pads,f0Pads,s0MemRam,n0MemRam,c0MemRam,f0MemRam,a0MemBank,a0CpuA,a0CpuX,a0CpuS,a0CpuPc,a0CpuZ,a0CpuN,a0CpuC,a0CpuI,a0PpuT,a0PpuCtrl,a0PpuScroll,a0PpuAddr,a0PpuPal,a0PpuBlank,s0PpuTable,n0PpuTable,c0PpuTable,f0PpuTable,s0PpuDots,n0PpuDots,c0PpuDots,f0PpuDots,a0ApuT,a0ApuPeriod,a0ApuCount,a0ApuBit,a0ApuLength,a0ApuAsks,a0ApuIrq,a0PadHeld,a0PadShift,a0Nmi,a0Steps,u0ObsFrames,m0ObsFrames,ra0ObsFrames,ln0ObsFrames,rc0ObsFrames,f0ObsFrames,s0ObsSamples,n0ObsSamples,c0ObsSamples,f0ObsSamples,s0ObsReads,n0ObsReads,c0ObsReads,f0ObsReads,rfl,w0ImgBanks,w0Pads,w0MemRam,w0MemBank,w0CpuA,w0CpuX,w0CpuS,w0CpuPc,w0PpuT,w0PpuCtrl,w0PpuScroll,w0PpuAddr,w0PpuPal,w0PpuTable,w0PpuDots,w0ApuT,w0ApuPeriod,w0ApuCount,w0ApuBit,w0ApuLength,w0PadShift,w0Steps,w0ObsFrames,w0ObsSamples,w0ObsReads⟩:=Vn (hval 0 39 v0 rfl rfl) h0
 clear hA0 hval0
 refine (walk u0ImgBanks m0ImgBanks ra0ImgBanks ln0ImgBanks rc0ImgBanks f0ImgBanks s0Pads n0Pads c0Pads f0Pads s0MemRam n0MemRam c0MemRam f0MemRam a0MemBank a0CpuA a0CpuX a0CpuS a0CpuPc a0CpuZ a0CpuN a0CpuC a0CpuI a0PpuT a0PpuCtrl a0PpuScroll a0PpuAddr a0PpuPal a0PpuBlank s0PpuTable n0PpuTable c0PpuTable f0PpuTable s0PpuDots n0PpuDots c0PpuDots f0PpuDots a0ApuT a0ApuPeriod a0ApuCount a0ApuBit a0ApuLength a0ApuAsks a0ApuIrq a0PadHeld a0PadShift a0Nmi a0Steps u0ObsFrames m0ObsFrames ra0ObsFrames ln0ObsFrames rc0ObsFrames f0ObsFrames s0ObsSamples n0ObsSamples c0ObsSamples f0ObsSamples s0ObsReads n0ObsReads c0ObsReads f0ObsReads W w0ImgBanks w0Pads w0MemRam w0MemBank w0CpuA w0CpuX w0CpuS w0CpuPc w0PpuT w0PpuCtrl w0PpuScroll w0PpuAddr w0PpuPal w0PpuTable w0PpuDots w0ApuT w0ApuPeriod w0ApuCount w0ApuBit w0ApuLength w0PadShift w0Steps w0ObsFrames w0ObsSamples w0ObsReads hd0).mono fun e W' ⟨he,bel⟩=>?_
 subst he;exact ⟨_,rfl,_,_,_,[],_,_,hW',trodAll_mk1 (shut_bool Tryz.underlying4 _),(trodAll_cons_mk (Below.trod laidOut (by kernel_rfl) (of_decide_eq_true (by kernel_rfl)) k0 bel lt0) trodAll_mk0),Below.trodVars laidOut bel (by kernel_rfl) hV,bel.frame _,fun h=>by cases h⟩
theorem over:Rows.fnExactLockStepRow.holds Tryz.pinned (OpenSpec.ofChange Rows.fnExactLockStepSpec) :=
 OpenClaim.holds_of_wide 3 Tryz.f3 rfl rfl rfl rfl rfl rfl rfl ⟨rfl,rfl,rfl,rfl,rfl⟩ rfl rfl rfl rfl rfl (by kernel_rfl) Tryz.func3 (by kernel_rfl)
  (of_decide_eq_true (by kernel_rfl)) (by unfold Func.isWrapper; first | (rw [if_pos (by decide +kernel)]; kernel_rfl) | (rw [if_neg (by decide +kernel)]; exact ⟨rfl,rfl⟩))
  (fun os started H enc _=>lifted os started H enc)
theorem Jd8:Rows.FnExactLockStepCardSaid :=
 Claim7.holds_tied_plain_at .later [] [.data] true (true, "5fedf72d4575565d42d36a65f7f363f6f9cb8125153cf7d2e4e8feb980620273") true
  over (fun _ h=>by cases h) (by kernel_rfl) (fun _ h=>by cases h) fnExactLockStep_row_tie rfl ⟨rfl,rfl⟩ (by kernel_rfl) rfl
  (fun f fn hf hfn=>by
   obtain rfl : f = 3 := Option.some.inj ((show Tryz.prog.funcNamed "loop.example/g00231/laws.FnExactLockStep" = some 3 by kernel_rfl).symm.trans hf) |>.symm;obtain rfl : fn = Tryz.f3 := (Option.some.inj (Tryz.func3.symm.trans hfn)).symm
   exact ⟨by kernel_rfl,fun j t ht=>by
    rw [Tryz.params3] at ht
    rcases j with _ | j
    ·obtain rfl:t=39:=by simpa using ht.symm
     exact (show Tryz.prog.wantsStandIn 39=false by kernel_rfl)
    ·simp at ht⟩)
  (by kernel_rfl)
end Go.Proofs.YtgcmimcalmjaaaaGreatDoor.fnExactLockStep
namespace Go.Proofs.YtgcmimcalmjaaaaGreatDoor
theorem fnExactLockStep_holds:Rows.FnExactLockStepCardSaid:=fnExactLockStep.Jd8
end Go.Proofs.YtgcmimcalmjaaaaGreatDoor
