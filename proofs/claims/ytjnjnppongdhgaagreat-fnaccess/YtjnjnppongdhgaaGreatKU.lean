import Derived.Test.YtjnjnppongdhgaaGreatKS
import Derived.Test.YtjnjnppongdhgaaGreatSP
namespace Go.Proofs.YtjnjnppongdhgaaGreat
set_option maxHeartbeats 4000000
set_option maxRecDepth 40000
set_option linter.unusedVariables false
set_option linter.unusedSimpArgs false
open Go.ChangeShapes Go.WideShapes Go.ChangeAt Go.RowKit
theorem Bt.agg {W:World} {lo:Nat} {v:Value} {d:Ao} (H:Bt W lo v d):∃ cs,v=.agg cs∧cs.size=34∧cs.all (·.oneCell')=true:=by
 obtain ⟨D,h,-⟩:=H.on;exact h.agg
theorem Bt.below {W W':World} {lo:Nat} {v:Value} {d:Ao} (H:Bt W lo v d) (L:Below W.heap.size W W'):Bt W' lo v d:=by
 obtain ⟨D,u0,u1,u2,u3,u4,ov,gb,cp,g6,c6,g7,c7,rfl,h⟩:=Az.of H;exact (h.below L).ow
theorem Bt.keepLo {W:World} {lo lo':Nat} {v:Value} {d:Ao} (H:Bt W lo v d) (h:lo'≤lo):Bt W lo' v d:=by
 obtain ⟨D,u0,u1,u2,u3,u4,ov,gb,cp,g6,c6,g7,c7,e,h0,h1,h2,h3,h4,h4D,h6,h6D,h7,h7D,dis,bd,hps⟩:=H;exact ⟨D,u0,u1,u2,u3,u4,ov,gb,cp,g6,c6,g7,c7,e,h0,h1,h2,h3,h4.mono h,h4D,h6.mono h,h6D,h7.mono h,h7D,dis,fun i b x=>⟨Nat.le_trans h (bd i b x).1,(bd i b x).2⟩,hps⟩
theorem Bt.low {R:Nat→Nat→Prop} {W W':World} {lo:Nat} {v:Value} {d:Ao} (H:Bt W lo v d) (hw:Wrote R W W') (hn:∀ b o,R b o→b<lo):Bt W' lo v d:=by
 obtain ⟨D,u0,u1,u2,u3,u4,ov,gb,cp,g6,c6,g7,c7,rfl,h⟩:=Az.of H;exact (h.keepD hw (fun i b o x y=>by have:=h.bd _ _ x; have:=hn _ _ y; omega) (fun o y=>by have:=h.h6.parts.1; have:=hn _ _ y; omega) (fun o y=>by have:=h.h7.parts.1; have:=hn _ _ y; omega)).ow
theorem Oy (w:World) (D:Nat→Nat→Prop) (v:Value) (d:Ao) (a:Int) (H:As w D v d) (hnq:okLock d=true→d.nq<1048576):Calls Tryz.prog 7 #[v,.i a] w fun e w'=>∃ v',e=.returned (.tuple #[v',.i (if okLock d then Bo d a else 0)])∧Bt w' w.heap.size v' (if okLock d then Bd d a else d)∧Below w.heap.size w w':=by
 obtain ⟨cs,rfl,hsz,hone⟩:=H.agg
 obtain ⟨rv,hrv⟩:∃ x,Hid (x=if okLock d then Bo d a else 0):=⟨_,rfl⟩
 obtain ⟨rd,hrd⟩:∃ x,Hid (x=if okLock d then Bd d a else d):=⟨_,rfl⟩
 rw [← hrv.out,← hrd.out];have L0:Below w.heap.size w ((w.alloc (.cells cs 41)).alloc (.cells zR 41)):=((Below.refl _ _).alloc (Nat.le_refl _) _).alloc (by simp) _;have k0:((w.alloc (.cells cs 41)).alloc (.cells zR 41)).heap[w.heap.size]?=some (.cells cs 41 (0,0)):=A4 (Al w _ _) _
 have k1:((w.alloc (.cells cs 41)).alloc (.cells zR 41)).heap[w.heap.size+1]?=some (.cells zR 41 (0,0)):=by simpa using Al (w.alloc (.cells cs 41)) zR 41
 go_enter Tryz.func7,Tryz.ntmps7
 go_upto_region 1 with (fail);generalize (w.alloc (.cells cs 41)).alloc (.cells zR 41)=W0 at *;refine wp_region_lit ?_;refine wpList_load_row rfl _ _ rfl (w.heap.size) rfl _ _ _ _ k0 Tryz.underlying41 rfl (infoAt Af hsz) ?_;go_wp2_with fail;refine (Kf _ D _ d (H.below L0)).mono ?_;rintro e W1 ⟨vC,rfl,oC,L⟩;obtain ⟨cC,rfl,sC,oneC⟩:=oC.agg;have hb1:=Ae k1;have C1:=Ah L0 L;replace k0:=Aa k0 L (Ae k0);replace k1:=Aa k1 L (Ae k1);have l01:=L.size;clear L L0;have x6:=Al W1 cC 41;have LA:Below W1.heap.size W1 (W1.alloc (.cells cC 41)):=(Below.refl _ _).alloc (Nat.le_refl _) _;replace C1:=Ah C1 LA;replace k0:=Aa k0 LA (Ae k0);replace k1:=Aa k1 LA (Ae k1);replace oC:=oC.below LA;have lA:=LA.size;clear LA
 have hst:=run_storeCells_new (P:=Tryz.prog) W1 41 zR cC (infoAt Af sC) (by rw [sC]; rfl) oneC;go_upto_region 2 with (fail);clear hst
 obtain ⟨z,hz⟩:∃ z,Hid (z=W1.heap.size):=⟨_,rfl⟩
 rw [← hz.out] at x6 ⊢;clear hz;generalize W1.alloc (.cells cC 41)=W2 at *;refine wp_region_lit ?_;refine wpList_load_row rfl _ _ rfl (w.heap.size) rfl _ _ _ _ k0 Tryz.underlying41 rfl (infoAt Af hsz) ?_;go_wp2_with fail;refine (Dz _ D _ d (H.keep (Ab C1 Ak) (fun _ _ _ _ _ x=>x))).mono ?_;rintro e W3 ⟨rfl,L⟩;replace C1:=Ah C1 L;replace k0:=Aa k0 L (Ae k0);replace k1:=Aa k1 L (Ae k1);replace x6:=Aa x6 L (Ae x6);replace oC:=oC.below L;have l23:=L.size;clear L;cases hok:okLock d
 ·have E1:Hid (rv=0∧rd=d):=⟨by rw [hrv.out,hok]; rfl,by rw [hrd.out,hok]; rfl⟩
  go_upto_region 3 with (fail);rename_i K2 hK2;refine wp_region_lit ?_;refine wpList_load_row rfl _ _ rfl (z) rfl _ _ _ _ x6 Tryz.underlying41 rfl (infoAt Af sC) ?_;refine wpList_store_row rfl _ _ _ rfl (w.heap.size+1) cC rfl rfl _ _ k1 (infoAt Af sC) (by rw [sC]; rfl) oneC ?_;have B3:=setRow_heap _ _ _ cC _ _ k1;have WW:=An k1 cC;have OO:=Ac (oC.low WW (fun b o (e:b=_)=>by omega));have LL:=Ac (C1.trans (WW.below C1.size (fun b o hb (e:b=_)=>by omega)));clear WW oC C1 k0 x6;generalize W3.setRow (w.heap.size+1) cC=W4 at *;refine wpList_plain rfl (fun K3 hK3=>?_);go_simp;refine hK3 _ _ ?_;clear hK3;refine hK2 _ _ ?_;go_wp2;refine bodyPost_ret (v:=.tuple #[.agg cC,.i 0]) (Au Tryz.results7 _ _ (w.heap.size+1) _ _ _ _ rfl B3 Tryz.underlying41 rfl (infoAt Af sC)) rfl ?_;rw [E1.out.1,E1.out.2]
  exact ⟨_,rfl,OO.out.keepLo (by omega),LL.out⟩
 ·have E1:Hid (rv=Bo d a∧rd=Bd d a):=⟨by rw [hrv.out,hok]; rfl,by rw [hrd.out,hok]; rfl⟩
  go_upto_region 4 with (fail);refine wp_region_lit ?_;refine wpList_load_row rfl _ _ rfl (z) rfl _ _ _ _ x6 Tryz.underlying41 rfl (infoAt Af sC) ?_;go_wp2_with fail;refine (Yq _ W0.heap.size _ d a oC (by omega) hok (hnq hok)).mono ?_;rintro e W4 ⟨vR,rfl,oR,LB⟩;obtain ⟨cR,rfl,sR,oneR⟩:=oR.agg;replace C1:=C1.trans (LB.mono (by omega));replace k1:=Aa k1 LB (by omega);have l34:=LB.size;clear oC x6 k0 LB;have x7:=Al W4 cR 41;have LA:Below W4.heap.size W4 (W4.alloc (.cells cR 41)):=(Below.refl _ _).alloc (Nat.le_refl _) _;replace C1:=Ah C1 LA;replace k1:=Aa k1 LA (Ae k1);replace oR:=oR.below LA;have lA2:=LA.size;clear LA;have hst:=run_storeCells_new (P:=Tryz.prog) W4 41 zR cR (infoAt Af sR) (by rw [sR]; rfl) oneR;go_upto_region 5 with (fail);clear hst
  obtain ⟨z7,hz7⟩:∃ z,Hid (z=W4.heap.size):=⟨_,rfl⟩
  rw [← hz7.out] at x7 ⊢;clear hz7;generalize W4.alloc (.cells cR 41)=W5 at *;rename_i K2 hK2;refine wp_region_lit ?_;refine wpList_load_row rfl _ _ rfl (z7) rfl _ _ _ _ x7 Tryz.underlying41 rfl (infoAt Af sR) ?_;refine wpList_plain rfl (fun K3 hK3=>?_);go_simp;refine hK3 _ _ ?_;clear hK3;refine wpList_store_row rfl _ _ _ rfl (w.heap.size+1) cR rfl rfl _ _ k1 (infoAt Af sR) (by rw [sR]; rfl) oneR ?_;have B3:=setRow_heap _ _ _ cR _ _ k1;have WW:=An k1 cR;have OO:=Ac (oR.low WW (fun b o (e:b=_)=>by omega));have LL:=Ac (C1.trans (WW.below C1.size (fun b o hb (e:b=_)=>by omega)));clear WW oR C1 x7;generalize W5.setRow (w.heap.size+1) cR=W6 at *;refine wpList_plain rfl (fun K3 hK3=>?_);go_simp;refine hK3 _ _ ?_;clear hK3;refine hK2 _ _ ?_;go_wp2
  refine bodyPost_ret (v:=.tuple #[.agg cR,.i (Bo d a)]) (Au Tryz.results7 _ _ (w.heap.size+1) _ _ _ _ rfl B3 Tryz.underlying41 rfl (infoAt Af sR)) rfl ?_;rw [E1.out.1,E1.out.2];exact ⟨_,rfl,OO.out.keepLo (by omega),LL.out⟩
set_option maxHeartbeats 8000000
set_option maxRecDepth 40000
def Told (W:World) (lo:Nat) (v:Value) (d:Ao):Prop:=∃ D',As W D' v d∧Up D'∧∀ i b,D' i b→lo≤b∧b<W.heap.size
theorem Bt.told {W:World} {lo lo':Nat} {v:Value} {d:Ao} (H:Bt W lo v d) (h:lo'≤lo):Told W lo' v d:=by
 obtain ⟨D,a,b,c⟩:=H.on;exact ⟨D,a,b,fun i x e=>by have:=c i x e; omega⟩
def Eh (W:World) (lo:Nat) (v:Value) (d:Ao):Prop:=(v=.agg zero34∧d=J5)∨∃ l,lo≤l∧Bt W l v d
theorem Eh.told {W:World} {lo:Nat} {v:Value} {d:Ao} (h:Eh W lo v d):Told W lo v d:=by
 rcases h with ⟨rfl,rfl⟩ | ⟨l,hl,H⟩
 ·exact ⟨fun _ _=>False,Q2,fun i j b h=>h.elim,fun i b h=>h.elim⟩
 ·exact H.told hl
theorem Xn {d:Ao} (h:okLock d=false):Ii d=J5∧stepQ d=false:=by
 unfold Ii stepQ;rw [if_neg (by rw [h]; decide),h];exact ⟨rfl,rfl⟩
theorem Sf {d:Ao} (h:okLock d=true) (h':Gz d=false):Ii d=d∧stepQ d=false:=by
 unfold Ii stepQ;rw [if_pos h,if_neg (by rw [h']; decide),h,h'];exact ⟨rfl,rfl⟩
theorem U6 {d:Ao} (h:okLock d=true) (h':Gz d=true):Ii d=Ns d∧stepQ d=true:=by
 unfold Ii stepQ;rw [if_pos h,if_pos h',h,h'];exact ⟨rfl,rfl⟩
theorem Pe (w:World) (D:Nat→Nat→Prop) (v:Value) (d:Ao) (H:As w D v d) (hnq:okLock d=true→d.nq<1048576):Calls Tryz.prog 121 #[v] w fun e w'=>∃ v',e=.returned (.tuple #[v',.bool (stepQ d)])∧Eh w' w.heap.size v' (Ii d)∧Below w.heap.size w w':=by
 obtain ⟨cs,rfl,hsz,hone⟩:=H.agg;have BX:=Bx.start w cs zR (Nat.le_refl _);have L0:Below w.heap.size w ((w.alloc (.cells cs 41)).alloc (.cells zR 41)):=((Below.refl _ _).alloc (Nat.le_refl _) _).alloc (by simp) _;have H0:=H.below L0;have HSZ:=Ac hsz;have HONE:=Ac hone;clear hsz hone H L0
 obtain ⟨ok,hok⟩:∃ x,Hid (x=okLock d):=⟨_,rfl⟩
 have HLO:=Ac (fun W D (k:As W D (.agg cs) d)=>Dz W D (.agg cs) d k);rw [← hok.out] at HLO
 go_enter Tryz.func121,Tryz.ntmps121
 go_upto_region 1 with (fail);generalize (w.alloc (.cells cs 41)).alloc (.cells zR 41)=W0 at *;generalize hrs:(zR:Array Value)=rs at BX
 have HRS:Hid (rs.size=34):=by show _=_; rw [← hrs]; rfl
 clear hrs;rename_i K3 hK3;refine wp_region_lit ?_;refine wpList_load_row rfl _ _ rfl w.heap.size rfl _ _ _ _ BX.box Tryz.underlying41 rfl (infoAt Af HSZ.out) ?_;refine Ax rfl _ _ (by kernel_rfl) (HLO.out W0 _ H0) ?_;rintro e W1 ⟨rfl,L⟩;refine ⟨_,rfl,?_⟩;have H1:=H0.below L;replace BX:=BX.below L;clear L H0 HLO
 iterate 1 (refine wpList_plain rfl (fun K9 hK9=>?_); go_simp; refine hK9 _ _ ?_; clear hK9)
 refine hK3 _ _ ?_;clear hK3;cases ok
 ·have hv:=Xn hok.out.symm
  go_upto_region 2 with (fail);rename_i K3 hK3;refine wp_region_lit ?_
  iterate 1 (refine wpList_plain rfl (fun K9 hK9=>?_); go_simp; refine hK9 _ _ ?_; clear hK9)
  refine wpList_store_row rfl _ _ _ rfl (w.heap.size+1) zero34 rfl rfl _ _ BX.res Af HRS.out (by first | kernel_rfl | rfl | simp [zero34,Value.oneCell']) ?_
  iterate 1 (refine wpList_plain rfl (fun K9 hK9=>?_); go_simp; refine hK9 _ _ ?_; clear hK9)
  have BXF:=BX.out zero34;generalize W1.setRow (w.heap.size+1) zero34=W2 at *;refine hK3 _ _ ?_;clear hK3;go_wp2;refine bodyPost_ret (v:=.tuple #[.agg zero34,.bool false]) (Au Tryz.results121 _ _ (w.heap.size+1) _ _ _ _ rfl BXF.res Tryz.underlying41 rfl Af) rfl ?_;rw [hv.1,hv.2];exact ⟨_,rfl,Or.inl ⟨rfl,rfl⟩,BXF.low⟩
 ·have hk:=hok.out.symm
  have hokL:=Sd hk;have hnq':=hnq hk;have HK:=Ac hk;have HCP:=Ac (fun W D (k:As W D (.agg cs) d)=>Kf W D (.agg cs) d k);have HST:=Ac (fun W lo D v h hl=>Xm W lo D v d h hl hokL hnq')
  obtain ⟨sb,hsb⟩:∃ x,Hid (x=Gz d):=⟨_,rfl⟩
  rw [← hsb.out] at HST;clear hk hokL hnq';go_upto_region 3 with (fail);rename_i K3 hK3;refine wp_region_lit ?_;refine wpList_load_row rfl _ _ rfl w.heap.size rfl _ _ _ _ BX.box Tryz.underlying41 rfl (infoAt Af HSZ.out) ?_;refine Ax rfl _ _ (by kernel_rfl) (HCP.out W1 _ H1) ?_;rintro e W2 ⟨v2,rfl,OW,L⟩;refine ⟨_,rfl,?_⟩;have hz1:=BX.low.size;have hzL:=L.size;have hb1:=Ae BX.box;have hr1:=Ae BX.res;replace BX:=BX.below L;obtain ⟨D2,HX⟩:=Ed.of OW;refine Ax rfl _ _ (by kernel_rfl) (HST.out W2 W1.heap.size D2 v2 HX hzL) ?_;rintro e W3 ⟨c3,rfl,hone3,HN,LB⟩;refine ⟨_,rfl,?_⟩;have hzB:=LB.size;have b3:=Aa BX.box LB hb1;have r3:=Aa BX.res LB hr1;have r3lt:=Ae r3;have C3:=BX.low.trans (LB.mono (by omega));have H3:=H1.below (L.trans LB);clear BX L LB H1;clear HX OW HST;have HN3:=Ac HN
  have HONE3:Hid (Jaq c3):=hone3;clear HN hone3
  iterate 4 (refine wpList_plain rfl (fun K9 hK9=>?_); go_simp; refine hK9 _ _ ?_; clear hK9)
  have LA:Below W3.heap.size W3 (W3.alloc (.cells zR 41)):=(Below.refl _ _).alloc (Nat.le_refl _) _;have kp:=Al W3 zR 41
  obtain ⟨pp,hpp⟩:∃ x,Hid (x=W3.heap.size):=⟨_,rfl⟩
  have lpp:w.heap.size+1<pp:=by rw [hpp.out]; exact r3lt
  rw [← hpp.out] at kp ⊢;generalize hWA:W3.alloc (.cells zR 41)=WA at *;have HWA:=Ac hWA;clear hWA;refine wpList_store_row rfl _ _ _ rfl pp c3 rfl rfl _ _ kp (infoAt Af HONE3.out.1) HONE3.out.1.symm HONE3.out.2 ?_;have WP:=An kp c3;have kp2:=setRow_heap _ _ _ c3 _ _ kp;have LP:Below W3.heap.size W3 (WA.setRow pp c3):=LA.trans (WP.below LA.size (fun b o hb (e:b=pp)=>by have:=hpp.out; omega));clear kp WP LA HWA;generalize WA.setRow pp c3=W4 at *
  iterate 1 (refine wpList_plain rfl (fun K9 hK9=>?_); go_simp; refine hK9 _ _ ?_; clear hK9)
  refine hK3 _ _ ?_;clear hK3;have H4:=H3.below LP;have b4:=Aa b3 LP (Ae b3);have r4:=Aa r3 LP r3lt;have C4:=C3.trans (LP.mono C3.size);have hz4:=LP.size;have HLP:=Ac LP;clear H3 b3 r3 C3 LP;cases sb
  ·have hv:=Sf HK.out hsb.out.symm
   clear HN3;go_upto_region 5 with (fail);rename_i K3 hK3;refine wp_region_lit ?_;refine wpList_load_row rfl _ _ rfl w.heap.size rfl _ _ _ _ b4 Tryz.underlying41 rfl (infoAt Af HSZ.out) ?_;refine Ax rfl _ _ (by kernel_rfl) (HCP.out W4 _ H4) ?_;rintro e W5 ⟨v5,rfl,OW,L⟩;refine ⟨_,rfl,?_⟩;obtain ⟨c5,rfl,hs5,ho5⟩:=OW.agg;have r5:=Aa r4 L (by omega);have C5:=C4.trans (L.mono C4.size);refine wpList_store_row rfl _ _ _ rfl (w.heap.size+1) c5 rfl rfl _ _ r5 (infoAt Af hs5) (HRS.out.trans hs5.symm) ho5 ?_;have WF:=An r5 c5;have r6:=setRow_heap _ _ _ c5 _ _ r5;have OF:=OW.low WF (fun b o (e:b=w.heap.size+1)=>by omega);have CF:=C5.trans (WF.below C5.size (fun b o hb (e:b=w.heap.size+1)=>by omega));generalize W5.setRow (w.heap.size+1) c5=W6 at *
   iterate 1 (refine wpList_plain rfl (fun K9 hK9=>?_); go_simp; refine hK9 _ _ ?_; clear hK9)
   refine hK3 _ _ ?_;clear hK3 OW L WF H4;have OF':=Ac (show Eh _ w.heap.size _ _ from Or.inr ⟨_,by omega,OF⟩);have CF':=Ac CF;have HS5:=Ac hs5;clear OF CF C5 C4 hs5 ho5;go_wp2;refine bodyPost_ret (v:=.tuple #[.agg c5,.bool false]) (Au Tryz.results121 _ _ (w.heap.size+1) _ _ _ _ rfl r6 Tryz.underlying41 rfl (infoAt Af HS5.out)) rfl ?_;rw [hv.1,hv.2];exact ⟨_,rfl,OF'.out,CF'.out⟩
  ·have hv:=U6 HK.out hsb.out.symm
   have OW:Bt W4 W1.heap.size (.agg c3) (Ns d):=by
    obtain ⟨D5,X5,-⟩:=HN3.out rfl;exact X5.ow.below HLP.out
   clear HN3 H4;go_upto_region 6 with (fail);rename_i K3 hK3;refine wp_region_lit ?_;refine wpList_load_row rfl _ _ rfl pp rfl _ _ _ _ kp2 Tryz.underlying41 rfl (infoAt Af HONE3.out.1) ?_;refine wpList_store_row rfl _ _ _ rfl (w.heap.size+1) c3 rfl rfl _ _ r4 (infoAt Af HONE3.out.1) (HRS.out.trans HONE3.out.1.symm) HONE3.out.2 ?_;have WF:=An r4 c3;have r6:=setRow_heap _ _ _ c3 _ _ r4;have OF:=OW.low WF (fun b o (e:b=w.heap.size+1)=>by omega);have CF:=C4.trans (WF.below C4.size (fun b o hb (e:b=w.heap.size+1)=>by omega));generalize W4.setRow (w.heap.size+1) c3=W6 at *
   iterate 1 (refine wpList_plain rfl (fun K9 hK9=>?_); go_simp; refine hK9 _ _ ?_; clear hK9)
   refine hK3 _ _ ?_;have OF':=Ac (show Eh _ w.heap.size _ _ from Or.inr ⟨_,by omega,OF⟩);have CF':=Ac CF;clear hK3 OW WF OF CF C4;go_wp2;refine bodyPost_ret (v:=.tuple #[.agg c3,.bool true]) (Au Tryz.results121 _ _ (w.heap.size+1) _ _ _ _ rfl r6 Tryz.underlying41 rfl (infoAt Af HONE3.out.1)) rfl ?_;rw [hv.1,hv.2];exact ⟨_,rfl,OF'.out,CF'.out⟩
end Go.Proofs.YtjnjnppongdhgaaGreat
