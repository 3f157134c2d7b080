import Derived.Test.YtfjieibndedngaaGreatYB
namespace Go.Proofs.YtfjieibndedngaaGreat
set_option maxHeartbeats 8000000
set_option maxRecDepth 40000
set_option linter.unusedVariables false
set_option linter.unusedSimpArgs false
open Go.ChangeShapes Go.WideShapes Go.ChangeAt Go.RowKit Go.Sort
theorem U7 (w:World) (B c:Nat) (a:Option Addr) (len cap:Nat) (H:Dc w B c a len cap) :
  Calls Tryz.prog 22 #[(pt c 0)] w fun e w'=>∃ v d E,e=.returned v∧As w' E v d∧(∀ i b,E i b→w.heap.size≤b∧b<w'.heap.size)∧Cn 801 d∧Dc w' B c a len cap∧Step c w w':=by
 have B0:=(F1.nil H).alloc zR 44 w.heap.size rfl
 go_enter Tryz.func22,Tryz.ntmps22
 go_upto_region 1 with (fail)
 obtain ⟨W0,hW0⟩:∃ W,Hid (W=w.alloc (.cells zR 44)):=⟨_,rfl⟩
 rw [← hW0.out] at B0 ⊢;generalize hrs:(zR:Array Value)=rs at *
 have HRS:Hid (rs.size=34):=by show _=_; rw [← hrs]; rfl
 clear hrs hW0;rename_i K3 hK3;refine wp_region_lit ?_
 (refine wpList_plain rfl (fun K9 hK9=>?_); go_simp; refine hK9 _ _ ?_; clear hK9)
 refine Ap rfl _ _ (by kernel_rfl) (Hz _ B c a len cap B0.cur) ?_;rintro e W1 ⟨v1,d,rfl,T,hF,H1,S1⟩;refine ⟨_,rfl,?_⟩;have K:=B0.drawn S1 H1 T;clear B0 S1 H1 T;obtain ⟨E0,KE,-⟩:=K.y.on;obtain ⟨co,rfl,hco,ho1⟩:=KE.agg;clear KE E0
 (refine wpList_plain rfl (fun K9 hK9=>?_); go_simp; refine hK9 _ _ ?_; clear hK9)
 replace K:=K.alloc zR 44 _ rfl;generalize W1.heap.size=bo at *;generalize W1.alloc (.cells zR 44)=W2 at *;refine wpList_store_row rfl _ _ _ rfl (bo) co rfl rfl _ _ (K.ret 1 rfl) (infoAt Ae hco) (hco.symm) ho1 ?_;replace K:=K.row 1 rfl co;generalize W2.setRow bo co=W3 at *;refine hK3 _ _ ?_;clear hK3;have HCO:=Ad hco;clear hco ho1;have HK:=Ad K;clear K;go_wp2_with fail;refine (Bw _ B c a len cap HK.out.cur 30).mono ?_;rintro e W4 ⟨x,rfl,x0,x1,H4,O4⟩;have K:=HK.out.move O4.step H4;clear HK H4 O4
 go_upto_block 0 with (fail)
 go_cut [] (fun WX=>∃ E cs d,Iw w B c a len cap E WX [(w.heap.size,rs,44),(bo,cs,44)] (.agg cs) d∧Cn 801 d∧cs.size=34)
 case first =>
  have F8:Cn 801 d:=hF.toCn.mono (by omega)
  have F9:Cn 801 { d with ns:=d.ns+1,mf:=d.mf+1 }:=⟨Nat.le_trans hF.nq (by omega),Nat.add_le_add_right hF.ns 1,Nat.add_le_add_right hF.mf 1⟩
  by_cases r0:x=0
  ·subst r0
   obtain ⟨E,K⟩:=K.drl;have c20:=(Aj (K.ret 1 rfl) 20).trans K.on.getT;have cf:=Ax (K.ret 1 rfl);go_wp2_with fail
   go_meet
   exact ⟨E,_,_,K.cell 1 rfl 20 _ (fun _ k=>k.putT _),⟨F8.nq,F8.ns,F8.mf⟩,by simpa using HCO.out⟩
  ·have q0:(x==0)=false:=by simp [r0]
   by_cases r1:x=1
   ·subst r1
    obtain ⟨E,K⟩:=K.drl;obtain ⟨v30,hv30⟩:=K.on.has 30 (by decide);have c30:=(Aj (K.ret 1 rfl) 30).trans hv30;have cf:=Ax (K.ret 1 rfl);go_wp2_with fail
    go_meet
    exact ⟨E,_,_,K.cell 1 rfl 30 _ (fun _ k=>k.putSt _),⟨F8.nq,F8.ns,F8.mf⟩,by simpa using HCO.out⟩
   ·have q1:(x==1)=false:=by simp [r1]
    by_cases r2:x=2
    ·subst r2
     obtain ⟨E0,KE,-⟩:=K.y.on;obtain ⟨u,hu⟩:=KE.has 32 (by decide);clear KE E0;have c32:=(Aj (K.ret 1 rfl) 32).trans hu;go_upto_region 8 with (fail);refine wp_region_lit ?_
     iterate 4 (refine wpList_plain rfl (fun K9 hK9=>?_); go_simp; refine hK9 _ _ ?_; clear hK9)
     clear c32;have LA:=(Below.refl W4.heap.size W4).alloc (Nat.le_refl _) (.cells #[.i 0] 3);have kq:=Aj (Ak W4 #[.i 0] 3) 0;replace K:=K.call LA;clear LA;generalize W4.heap.size=gq at *;generalize W4.alloc (.cells #[.i 0] 3)=W5 at *;refine M8 K rfl _ _ rfl (by have:=F8.ns; omega) hu rfl gq 0 rfl kq ?_;intro g' c' W6 E K6;clear K;have cf:=Ax (K6.ret 1 rfl);have c32':=(Aj (K6.ret 1 rfl) 32).trans hu;clear kq
     iterate 3 (refine wpList_plain rfl (fun K9 hK9=>?_); go_simp; refine hK9 _ _ ?_; clear hK9)
     unfold wpList;go_wp2_with fail
     go_meet
     exact ⟨E,_,_,K6.cell 1 rfl 32 _ (fun _ k=>k),⟨F8.nq,F9.ns,F8.mf⟩,by simpa using HCO.out⟩
    ·have q2:(x==2)=false:=by simp [r2]
     by_cases r3:x=3
     ·subst r3
      obtain ⟨E0,KE,-⟩:=K.y.on;obtain ⟨u,hu⟩:=KE.has 31 (by decide);clear KE E0;have c31:=(Aj (K.ret 1 rfl) 31).trans hu;go_upto_region 10 with (fail);refine wp_region_lit ?_
      iterate 4 (refine wpList_plain rfl (fun K9 hK9=>?_); go_simp; refine hK9 _ _ ?_; clear hK9)
      clear c31;have LA:=(Below.refl W4.heap.size W4).alloc (Nat.le_refl _) (.cells #[.i 1] 3);have kN:=Ak W4 #[.i 1] 3;have hN:=K.hN
      have hlN:∀ p,p∈[(w.heap.size,rs,44),(bo,co,44)]→p.1≠W4.heap.size:=fun p hp=>Nat.ne_of_lt (Af (K.all p hp).1)
      have hsz:=K.step.size;replace K:=K.call LA;clear LA;generalize W4.heap.size=gN at *;generalize W4.alloc (.cells #[.i 1] 3)=W5 at *
      (refine wpList_plain rfl (fun K9 hK9=>?_); go_simp; refine hK9 _ _ ?_; clear hK9)
      have LA:=(Below.refl W5.heap.size W5).alloc (Nat.le_refl _) (.cells #[.slice (some ⟨gN,0,none⟩) 1 1] 25);have kq:=Aj (Ak W5 #[.slice (some ⟨gN,0,none⟩) 1 1] 25) 0;replace K:=K.call LA;replace kN:=Ac kN LA (Af kN);clear LA;generalize W5.heap.size=gM at *;generalize W5.alloc (.cells #[.slice (some ⟨gN,0,none⟩) 1 1] 25)=W6 at *;refine Kv K rfl _ _ rfl (by have:=F8.mf; omega) hF.lf hu rfl gM gN rfl kq kN hN hsz hlN ?_;intro g' c' W7 E K6;clear K hlN kN;have cf:=Ax (K6.ret 1 rfl);have c31':=(Aj (K6.ret 1 rfl) 31).trans hu;clear kq
      iterate 3 (refine wpList_plain rfl (fun K9 hK9=>?_); go_simp; refine hK9 _ _ ?_; clear hK9)
      unfold wpList;go_wp2_with fail
      go_meet
      exact ⟨E,_,_,K6.cell 1 rfl 31 _ (fun _ k=>k),⟨F8.nq,F8.ns,F9.mf⟩,by simpa using HCO.out⟩
     ·have q3:(x==3)=false:=by simp [r3]
      by_cases r4:x=4
      ·subst r4
       go_upto_region 12 with (fail);refine wp_region_lit ?_
       (refine wpList_plain rfl (fun K9 hK9=>?_); go_simp; refine hK9 _ _ ?_; clear hK9)
       refine Ap rfl _ _ (by kernel_rfl) (Vm _ B c a len cap K.cur (by have:=K.hc; have:=K.step.size; omega)) ?_;rintro e W5 ⟨⟨A,X,S,Pc,Z,N,C,I,rfl⟩,H5,S5⟩;refine ⟨_,rfl,?_⟩;replace K:=K.move S5 H5;obtain ⟨E,K⟩:=K.drl
       (refine wpList_plain rfl (fun K9 hK9=>?_); go_simp; refine hK9 _ _ ?_; clear hK9)
       refine Bb rfl _ _ _ rfl bo 4 (cR A X S Pc Z N C I) rfl rfl _ _ (K.ret 1 rfl) Aq (by rw [HCO.out]; show 4+8≤34; decide) (by simp [Value.oneCell']) ?_;unfold wpList;go_wp2_with fail
       go_meet
       exact ⟨E,_,_,K.rowTo 1 rfl _ (fun _ k=>k.putCpu A X S Pc Z N C I),⟨F8.nq,F8.ns,F8.mf⟩,(Qc (by rw [HCO.out]; show (4+8:Nat)≤34; omega)).trans HCO.out⟩
      ·have q4:(x==4)=false:=by simp [r4]
       by_cases r5:x=5
       ·subst r5
        obtain ⟨E,K⟩:=K.drl;obtain ⟨v29,hv29⟩:=K.on.has 29 (by decide);have c29:=(Aj (K.ret 1 rfl) 29).trans hv29;have cf:=Ax (K.ret 1 rfl);go_wp2_with fail
        go_meet
        exact ⟨E,_,_,K.cell 1 rfl 29 _ (fun _ k=>k.putNmi _),⟨F8.nq,F8.ns,F8.mf⟩,by simpa using HCO.out⟩
       ·have q5:(x==5)=false:=by simp [r5]
        by_cases r6:x=6
        ·subst r6
         obtain ⟨E,K⟩:=K.drl;obtain ⟨v26,hv26⟩:=K.on.has 26 (by decide);obtain ⟨v11,hv11⟩:=K.on.has 11 (by decide);have c26:=(Aj (K.ret 1 rfl) 26).trans hv26;have cf:=Ax (K.ret 1 rfl);go_upto_region 17 with (fail);replace K:=K.cell 1 rfl 26 (.bool true) (fun _ k=>k.putR true);generalize W4.setCell ⟨bo,26,none⟩ (.bool true)=W5 at *;clear c26 cf;have c11:W5.cell? ⟨bo,11,none⟩=some v11:=(Aj (K.ret 1 rfl) 11).trans (by rw [Array.getElem?_setIfInBounds_ne (by decide)]; exact hv11);have cf:=Ax (K.ret 1 rfl);go_wp2_with fail
         go_meet
         exact ⟨E,_,_,K.cell 1 rfl 11 _ (fun _ k=>k.putI _),⟨F8.nq,F8.ns,F8.mf⟩,by simpa using HCO.out⟩
        ·have q6:(x==6)=false:=by simp [r6]
         by_cases r7:x=7
         ·subst r7
          obtain ⟨E,K⟩:=K.drl;obtain ⟨v28,hv28⟩:=K.on.has 28 (by decide);have c28:=(Aj (K.ret 1 rfl) 28).trans hv28;have cf:=Ax (K.ret 1 rfl);go_wp2_with fail
          go_meet
          exact ⟨E,_,_,K.cell 1 rfl 28 _ (fun _ k=>k.putSh _),⟨F8.nq,F8.ns,F8.mf⟩,by simpa using HCO.out⟩
         ·have q7:(x==7)=false:=by simp [r7]
          obtain ⟨E,K⟩:=K.drl;go_wp2_with fail
          go_meet
          exact ⟨E,_,_,K,F8,HCO.out⟩
 case rest =>
 clear K hF;obtain ⟨E,cs,d1,K,hF,hcs⟩:=hcut
 obtain ⟨W5,hW5⟩:∃ x,x=wc:=⟨_,rfl⟩
 subst hW5;obtain ⟨cs',e,-,ho⟩:=K.on.agg;obtain rfl:=Value.agg.inj e;clear e;go_upto_region 20 with (fail);rename_i K3 hK3;refine wp_region_lit ?_;refine wpList_load_row rfl _ _ rfl (bo) rfl _ _ _ _ (K.ret 1 rfl) Tryz.underlying44 rfl (infoAt Ae hcs) ?_;refine wpList_store_row rfl _ _ _ rfl (w.heap.size) cs rfl rfl _ _ (K.ret 0 rfl) (infoAt Ae hcs) (HRS.out.trans hcs.symm) ho ?_;replace K:=K.row 0 rfl cs;generalize W5.setRow w.heap.size cs=W6 at *;refine hK3 _ _ ?_;clear hK3;go_wp2;refine bodyPost_ret (v:=.agg cs) (results_cell_row (by rfl) _ _ w.heap.size _ _ _ _ rfl (K.ret 0 rfl) Tryz.underlying44 rfl (infoAt Ae hcs)) rfl ?_;exact ⟨_,rfl,d1,E,K.on,fun i b hb=>⟨K.lo b ⟨i,hb⟩,K.lt b ⟨i,hb⟩⟩,hF,K.cur,K.step⟩
end Go.Proofs.YtfjieibndedngaaGreat
