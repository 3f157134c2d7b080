import Derived.Test.YtijljlnooibbmaaGreatDoorYK
import Derived.Test.YtijljlnooibbmaaGreatDoorCards
import Derived.Test.YtijljlnooibbmaaGreatDoorTie
import Derived.ChangeSame
import Derived.ChangeVars
import Derived.JoinedOf
import Derived.RowKit
import Derived.RowKitTokens
import Derived.LaidLaws
import Derived.LaidHandle
import Derived.Stop.Joined
import Derived.SevenTiedAt
import Derived.OpenVars
namespace Go.Proofs.YtijljlnooibbmaaGreatDoor.fnStep
set_option maxHeartbeats 2000000
set_option maxRecDepth 100000
open Go.ChangeShapes Go.WideShapes Go.ChangeAt Go.RowKit
open Go.ChangeMaps (open_string shut_string)
set_option linter.unusedVariables false
theorem own:ownKnob Tryz.prog.godebug=none:=by kernel_rfl
theorem laidOut:laidOutB Tryz.prog=true:=by kernel_rfl
set_option maxRecDepth 40000
theorem walk (s0:Option Addr) (n0 c0:Nat) (f0:Nat→Int) (w:World) (w0:n0≤9223372036854775807∧Cg .u8 w s0 n0 f0∧∀ i,i<n0→(Lit.int .u8 (f0 i)).wf=true) (hd0:∀ i v,Gf Tryz.prog 4 90 Rows.laid_loop_example_g00231_impl_opRows i=some v→w.cell? ⟨0,i,none⟩=some v) :
  Calls Tryz.prog 3 #[.slice s0 n0 c0] w fun e w'=>e=.returned (.bool true)∧Below w.heap.size w w':=by
 obtain ⟨hn63,hrow,hwf⟩:=w0;have hT:=Jb1 hd0;clear hd0;refine Je8 w s0 n0 c0 hT ?_
 by_cases hbig:(1048576:Int)<(n0:Int)
 ·exact Or.inl hbig
 ·have hn:n0≤1048576:=by omega
  have hby:∀ i,i<n0→0≤f0 i∧f0 i≤255:=fun i hi=>by
   have h:IntKind.u8.min≤f0 i∧f0 i≤IntKind.u8.max:=by simpa [Lit.wf] using hwf i hi
   exact ⟨h.1,h.2⟩
  exact Or.inr ⟨hn,fun i hi=>by
   obtain ⟨b,off,e,hc⟩:=hrow i hi
   exact ⟨b,off,e,block_lt_of_cell hc,f0 i,hc,(hby i hi).1,by have:=(hby i hi).2; omega⟩⟩
theorem Tp {W : World} (h : laidMetH Tryz.prog Rows.fnStepRow.laid W) : laidMet Tryz.prog [("loop.example/g00231/impl.opRows", Rows.laid_loop_example_g00231_impl_opRows)] W := h
noncomputable def laidWorld (os:Os):World :=
 let w0:=World.holding Tryz.prog os ⟨#[],#[],[]⟩
 let w0:={ w0 with heap:=w0.heap.modify 0 fun
   | .cells _ t frozen=>.cells (Jfa 6 Rows.laid_loop_example_g00231_impl_opRows).toArray t frozen
   | o=>o }
 w0
theorem Qk (os:Os) (args:Array Value):laidMetH Tryz.prog Rows.fnStepRow.laid ((laidWorld os).forCall (fun _ _=>0) ⟨#[],args,[]⟩).memory :=
 laidMetH_of_parts (laidMet_of_run' 8 (by kernel_rfl) (by kernel_rfl)) (by kernel_rfl)
theorem lifted (os:Os) (started:os.Started) (H:Type) (enc:TypeId × Value→H) :
  ReturnsInHanded {} Tryz.checked os 3 .any (fun w args=>(Rows.fnStepSpec.pre enc Tryz.prog Tryz.f3 [] false w args∧laidMetH Tryz.prog Rows.fnStepRow.laid w)∧sizedMet enc Tryz.prog Tryz.f3 (OpenSpec.ofChange Rows.fnStepSpec) false w args)
   (Rows.fnStepSpec.post enc Tryz.prog Tryz.f3 false true false false):=by
 refine returnsInHanded_of_change_and (C:=Tryz.checked) (X:=fun w _=>laidMetH Tryz.prog Rows.fnStepRow.laid w) (fun _ _ _ hh h=>h.of_heap hh) own started (by kernel_rfl) Tryz.func3
  (ChangeSpec.witness_at (enc:=enc) (C:=Tryz.checked) (os:=os) (X:=fun w _=>laidMetH Tryz.prog Rows.fnStepRow.laid w) false (laidWorld os) #[.slice none 0 0] 8 rfl (by kernel_rfl) (by kernel_rfl) (by kernel_rfl) (by kernel_rfl) (by kernel_rfl) (Qk os _)) ?_
 intro W base args ds gs before hval0 hW _ _ hL _;have hd0 := Pv (t := 90) (show Tryz.prog.globalNamed "loop.example/g00231/impl.opRows" = some 0 by kernel_rfl) (by kernel_rfl) (d := Rows.laid_loop_example_g00231_impl_opRows) (by simp) (Tp hL) 4;have hval : ∀ (j : Nat) t v, Tryz.f3.params[j]? = some t → args[j]? = some v → Value.okWide Tryz.prog W .any base t v := hval0;have hW' := hW;obtain ⟨p, q, hA0, hV, rfl, hfz, hnd⟩ := hW;have hA : DataW.TrodAll enc Tryz.prog W 0 (fun _ => true) true Tryz.f3.params.toList args.toList ds p := hA0;rw [Tryz.params3] at hA hval;obtain ⟨v0, vs0, d0, ds0, p0, q0, hargs, rfl, rfl, h0, r0⟩ := trodAll_cons hA;obtain ⟨rfl, rfl, rfl⟩ := trodAll_nil r0
 obtain rfl:args=#[v0]:=by cases args; simp_all
 have hV0 : DataW.TrodVars enc Tryz.prog W (fun _ => true) ["loop.example/g00231/impl.opRows"] gs q := hV;obtain ⟨g0, gs0, qv0, rfl, hV1⟩ := Pw hV0;obtain rfl := Ro hV1;have k0 := h0
 have lt0:∀ x∈p0,x.block<W.heap.size:=by obtain ⟨m,hm⟩:=k0; exact DataW.trod_lt m _ _ _ hm
 obtain ⟨s0,n0,c0,rfl⟩:=okWide_slice Tryz.underlying22 (hval 0 22 v0 rfl rfl);obtain ⟨f0,w0⟩:=Jbr (k:=.u8) Tryz.underlying22 Tryz.underlying5 (by kernel_rfl) h0;clear hA0 hval0
 refine (walk s0 n0 c0 f0 W w0 hd0).mono fun e W' ⟨he,bel⟩=>?_
 subst he;exact ⟨_,rfl,_,_,_,[],_,_,hW',trodAll_mk1 (shut_bool Tryz.underlying4 _),(trodAll_cons_mk (Below.trod laidOut (by kernel_rfl) (of_decide_eq_true (by kernel_rfl)) k0 bel lt0) trodAll_mk0),Below.trodVars laidOut bel (by kernel_rfl) hV,bel.frame _,fun h=>by cases h⟩
theorem over:Rows.fnStepRow.holds Tryz.pinned (OpenSpec.ofChange Rows.fnStepSpec) :=
 OpenClaim.holds_of_wide 3 Tryz.f3 rfl rfl rfl rfl rfl rfl rfl ⟨rfl,rfl,rfl,rfl,rfl⟩ rfl rfl rfl rfl rfl (by kernel_rfl) Tryz.func3 (by kernel_rfl)
  (of_decide_eq_true (by kernel_rfl)) (by unfold Func.isWrapper; first | (rw [if_pos (by decide +kernel)]; kernel_rfl) | (rw [if_neg (by decide +kernel)]; exact ⟨rfl,rfl⟩))
  (fun os started H enc _=>lifted os started H enc)
theorem Jhv:Rows.FnStepCardSaid :=
 Claim7.holds_tied_plain_at .later [] [.data] true (true, "5d9be309cfc11d7d4c81f40c1e3227597d4e52fc089fd373f66905a72a4f3537") true
  over (fun _ h=>by cases h) (by kernel_rfl) (fun _ h=>by cases h) fnStep_row_tie rfl ⟨rfl,rfl⟩ (by kernel_rfl) rfl
  (fun f fn hf hfn=>by
   obtain rfl : f = 3 := Option.some.inj ((show Tryz.prog.funcNamed "loop.example/g00231/laws.FnStep" = some 3 by kernel_rfl).symm.trans hf) |>.symm;obtain rfl : fn = Tryz.f3 := (Option.some.inj (Tryz.func3.symm.trans hfn)).symm
   exact ⟨by kernel_rfl,fun j t ht=>by
    rw [Tryz.params3] at ht
    rcases j with _ | j
    ·obtain rfl:t=22:=by simpa using ht.symm
     exact (show Tryz.prog.wantsStandIn 22=false by kernel_rfl)
    ·simp at ht⟩)
  (by kernel_rfl)
end Go.Proofs.YtijljlnooibbmaaGreatDoor.fnStep
namespace Go.Proofs.YtijljlnooibbmaaGreatDoor
theorem fnStep_holds:Rows.FnStepCardSaid:=fnStep.Jhv
end Go.Proofs.YtijljlnooibbmaaGreatDoor
