import Derived.Test.YtfjieibndedngaaGreatYI
namespace Go.Proofs.YtfjieibndedngaaGreat.fnObs
set_option maxHeartbeats 2000000
set_option maxRecDepth 100000
open Go.ChangeShapes Go.WideShapes Go.ChangeAt Go.RowKit
open Go.ChangeMaps (open_string shut_string)
set_option linter.unusedVariables false
theorem own:ownKnob Tryz.prog.godebug=none:=by kernel_rfl
theorem laidOut:laidOutB Tryz.prog=true:=by kernel_rfl
theorem walk (s0:Option Addr) (n0 c0:Nat) (f0:Nat→Int) (w:World) (w0:n0≤9223372036854775807∧Bv .u8 w s0 n0 f0∧∀ i,i<n0→(Lit.int .u8 (f0 i)).wf=true) :
  Calls Tryz.prog 3 #[.slice s0 n0 c0] w fun e w'=>e=.returned (.bool true)∧Below w.heap.size w w':=by
 obtain ⟨hn63,hrow,hwf⟩:=w0;refine Vv w s0 n0 c0 ?_
 by_cases hbig:(1048576:Int)<(n0:Int)
 ·exact Or.inl hbig
 ·have hn:n0≤1048576:=by omega
  have hby:∀ i,i<n0→0≤f0 i∧f0 i≤255:=fun i hi=>by
   have h:IntKind.u8.min≤f0 i∧f0 i≤IntKind.u8.max:=by simpa [Lit.wf] using hwf i hi
   exact ⟨h.1,h.2⟩
  exact Or.inr ⟨hn,fun i hi=>by
   obtain ⟨b,off,e,hc⟩:=hrow i hi
   exact ⟨b,off,e,block_lt_of_cell hc,f0 i,hc,(hby i hi).1,by have:=(hby i hi).2; omega⟩⟩
theorem lifted (os:Os) (started:os.Started) (H:Type) (enc:TypeId × Value→H) :
  ReturnsInHanded {} Tryz.checked os 3 .any (Rows.fnObsSpec.pre6 enc Tryz.prog Tryz.f3 Rows.fnObsRow.domain false) (Rows.fnObsSpec.post enc Tryz.prog Tryz.f3 false true false false):=by
 refine returnsInHanded_of_change (C:=Tryz.checked) own started (by kernel_rfl) Tryz.func3
  (ChangeSpec.witness6 (enc:=enc) (C:=Tryz.checked) false ⟨#[],#[.slice none 0 0],[]⟩ 8 (by kernel_rfl) (by kernel_rfl) (by kernel_rfl) (by kernel_rfl)) ?_
 intro W base args ds gs before hval0 hW hcnd _;have hval:∀ (j:Nat) t v,Tryz.f3.params[j]?=some t→args[j]?=some v→Value.okWide Tryz.prog W .any base t v:=hval0;have hW':=hW;obtain ⟨p,q,hA0,hV,rfl,hfz,hnd⟩:=hW;have hA:DataW.TrodAll enc Tryz.prog W 0 (fun _=>true) true Tryz.f3.params.toList args.toList ds p:=hA0;rw [Tryz.params3] at hA hval;obtain ⟨v0,vs0,d0,ds0,p0,q0,hargs,rfl,rfl,h0,r0⟩:=trodAll_cons hA;obtain ⟨rfl,rfl,rfl⟩:=trodAll_nil r0
 obtain rfl:args=#[v0]:=by cases args; simp_all
 obtain ⟨rfl,rfl⟩:=trodVars_none hV;have k0:=h0
 have lt0:∀ x∈p0,x.block<W.heap.size:=by obtain ⟨m,hm⟩:=k0; exact DataW.trod_lt m _ _ _ hm
 obtain ⟨s0,n0,c0,rfl⟩:=okWide_slice Tryz.underlying22 (hval 0 22 v0 rfl rfl);obtain ⟨f0,w0⟩:=Sk (k:=.u8) Tryz.underlying22 Tryz.underlying5 (by kernel_rfl) h0;clear hA0 hval0
 refine (walk s0 n0 c0 f0 W w0).mono fun e W' ⟨he,bel⟩=>?_
 subst he;exact ⟨_,rfl,_,_,_,[],_,[],hW',trodAll_mk1 (shut_bool Tryz.underlying4 _),(trodAll_cons_mk (Below.trod laidOut (by kernel_rfl) (of_decide_eq_true (by kernel_rfl)) k0 bel lt0) trodAll_mk0),rfl,bel.frame _,fun h=>by cases h⟩
theorem over:Rows.fnObsRow.holds Tryz.pinned (OpenSpec.ofChange Rows.fnObsSpec) :=
 OpenClaim.holds_of_wide 3 Tryz.f3 rfl rfl rfl rfl rfl rfl rfl ⟨rfl,rfl,rfl,rfl,rfl⟩ rfl rfl rfl rfl rfl (by kernel_rfl) Tryz.func3 (by kernel_rfl)
  (of_decide_eq_true (by kernel_rfl)) (by unfold Func.isWrapper; first | (rw [if_pos (by decide +kernel)]; kernel_rfl) | (rw [if_neg (by decide +kernel)]; exact ⟨rfl,rfl⟩))
  (fun os started H enc _=>lifted os started H enc)
end Go.Proofs.YtfjieibndedngaaGreat.fnObs
namespace Go.Proofs.YtfjieibndedngaaGreat
theorem fnObs_holds:Rows.FnObsSaid:=fnObs.over
end Go.Proofs.YtfjieibndedngaaGreat
