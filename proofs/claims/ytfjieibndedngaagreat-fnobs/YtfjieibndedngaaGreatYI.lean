import Derived.Test.YtfjieibndedngaaGreatYH
import Derived.Test.YtfjieibndedngaaGreatYD
import Derived.Test.YtfjieibndedngaaGreatND
namespace Go.Proofs.YtfjieibndedngaaGreat
set_option maxHeartbeats 8000000
set_option maxRecDepth 40000
set_option linter.unusedVariables false
set_option linter.unusedSimpArgs false
open Go.ChangeShapes Go.WideShapes Go.ChangeAt Go.RowKit Go.Sort
theorem Ds.agg {W:World} {p N:Nat} {v:Value} {o:Qk} (h:Ds W p N v o):∃ x y z,v=.agg #[x,y,z]:=by
 obtain ⟨E,⟨u5,u6,u7,e,-⟩,-⟩:=h;exact ⟨u5,u6,u7,e⟩
theorem Kl (w:World) (B:Nat) (a:Option Addr) (len cap:Nat) (hB:B≤w.heap.size) (H:Code w B a len) :
  Calls Tryz.prog 5 #[.slice a len cap] w fun e w'=>∃ va vb,e=.returned (.tuple #[va,vb])∧(∃ A A' p N,Ds w' p N va A∧Ds w' p N vb A'∧w.heap.size≤p∧N≤w'.heap.size)∧Below w.heap.size w w':=by
 have B0:=((Dv.nil w).alloc oZ 27 w.heap.size rfl).alloc oZ 27 (w.heap.size+1) (by simp)
 have hz0:((w.alloc (.cells oZ 27)).alloc (.cells oZ 27)).heap.size=w.heap.size+2:=by simp
 go_enter Tryz.func5,Tryz.ntmps5
 go_upto_region 1 with (fail);generalize (w.alloc (.cells oZ 27)).alloc (.cells oZ 27)=W0 at *;rename_i K3 hK3;refine wp_region_lit ?_
 (refine wpList_plain rfl (fun K9 hK9=>?_); go_simp; refine hK9 _ _ ?_; clear hK9)
 refine Ap rfl _ _ (by kernel_rfl) (U8 _ B a len cap (Nat.le_trans hB B0.below.size) (H.keep (B0.below.mono hB))) ?_;rintro e W1 ⟨rfl,H1,L1,s1⟩;refine ⟨_,rfl,?_⟩;have K:=Dt.ofBxs (B0.call L1) H1 hB B0.below.size (fun q hq=>Nat.ne_of_lt (Af (B0.all q hq).1));have hc:w.heap.size≤W0.heap.size:=B0.below.size;clear B0 H1 L1 s1 hz0;generalize W0.heap.size=c at *;refine Ap rfl _ _ (by kernel_rfl) (Qm _ B c a len cap K.cur (Nat.le_trans hB K.step.size)) ?_;rintro e W2 ⟨va,vb,rfl,⟨A,A',p,N,O1,O2,hp,hN⟩,H2,S2⟩;refine ⟨_,rfl,?_⟩;replace K:=K.set1 S2 H2 (P2:=fun W=>Ds W p N va A∧Ds W p N vb A') ((Ds.stays.and Ds.stays).mono hp hN) ⟨O1,O2⟩;have hp0:=K.lo;have hN0:N≤W2.heap.size:=hN;obtain ⟨x,y,z,rfl⟩:=O1.agg;obtain ⟨x',y',z',rfl⟩:=O2.agg;have h1:=O1.one;have h2:=O2.one
 replace hp:=Ad (Nat.le_trans hp0 hp);have hcc:=Ad hc;clear O1 O2 H2 S2 hp0 hN hc
 iterate 4 (refine wpList_plain rfl (fun K9 hK9=>?_); go_simp; refine hK9 _ _ ?_; clear hK9)
 replace K:=K.alloc oZ 27 _ rfl
 have hb:(W2.alloc (.cells oZ 27)).heap.size=W2.heap.size+1:=by simp
 (refine wpList_plain rfl (fun K9 hK9=>?_); go_simp; refine hK9 _ _ ?_; clear hK9)
 replace K:=K.alloc oZ 27 (W2.heap.size+1) hb;clear hb;generalize hW2:W2.heap.size=bo at *;clear hW2;generalize (W2.alloc (.cells oZ 27)).alloc (.cells oZ 27)=W3 at *;refine wpList_store_row rfl _ _ _ rfl bo #[x,y,z] rfl rfl _ _ (K.ret 2 rfl) A7 rfl h1 ?_;replace K:=K.row 2 rfl #[x,y,z];generalize W3.setRow bo #[x,y,z]=W4 at *;refine wpList_store_row rfl _ _ _ rfl (bo+1) #[x',y',z'] rfl rfl _ _ (K.ret 3 rfl) A7 rfl h2 ?_;replace K:=K.row 3 rfl #[x',y',z'];generalize W4.setRow (bo+1) #[x',y',z']=W5 at *;refine hK3 _ _ ?_;clear hK3
 try simp only [Act.put,List.setIfInBounds_toArray,List.set_cons_succ,List.set_cons_zero]
 go_upto_region 2 with (fail);rename_i K3 hK3;refine Dm 4 (fun w'=>w'.heap[bo]?=some (.cells #[x,y,z] 27 (0,0))∧w'.heap[bo+1]?=some (.cells #[x',y',z'] 27 (0,0))) (by kernel_rfl) ?_;replace K:=K.redraw (W5.drawn+1);generalize redrawn W5 (W5.drawn+1)=W8 at *
 show Cj _ _ _ _ _ 4 _ _ _
 refine Bp 0 rfl (by kernel_rfl) ⟨K.ret 2 rfl,K.ret 3 rfl⟩ (Br _ _ rfl rfl bo rfl _ #[x,y,z] _ _ (fun w' h=>h.1) Tryz.underlying27 rfl A7) ?_;refine Bp 1 rfl (by kernel_rfl) ⟨K.ret 2 rfl,K.ret 3 rfl⟩ (Br _ _ rfl rfl (bo+1) rfl _ #[x',y',z'] _ _ (fun w' h=>h.2) Tryz.underlying27 rfl A7) ?_;refine A5 2 rfl (by kernel_rfl) ?_;refine wp_store_row _ _ _ rfl w.heap.size #[x,y,z] rfl rfl _ _ (K.ret 0 rfl) A7 rfl h1 ?_;replace K:=K.row 0 rfl #[x,y,z];generalize W8.setRow w.heap.size #[x,y,z]=W9 at *;refine ⟨fun _=>⟨K.ret 2 rfl,K.ret 3 rfl⟩,?_⟩;refine A5 3 rfl (by kernel_rfl) ?_;refine wp_store_row _ _ _ rfl (w.heap.size+1) #[x',y',z'] rfl rfl _ _ (K.ret 1 rfl) A7 rfl h2 ?_;replace K:=K.row 1 rfl #[x',y',z'];generalize W9.setRow (w.heap.size+1) #[x',y',z']=W10 at *
 refine ⟨fun _=>⟨K.ret 2 rfl,K.ret 3 rfl⟩,?_⟩;refine Cy (by kernel_rfl) ?_;refine hK3 _ _ ?_;clear hK3;go_wp2;refine bodyPost_ret (v:=.tuple #[.agg #[x,y,z],.agg #[x',y',z']]) (Fo Tryz.results5 _ _ w.heap.size (w.heap.size+1) _ _ _ _ _ _ _ _ rfl rfl (K.ret 0 rfl) (K.ret 1 rfl) Tryz.underlying27 Tryz.underlying27 rfl rfl A7 A7) rfl ?_;exact ⟨_,_,rfl,⟨A,A',p,N,K.y.1,K.y.2,hp.out,Nat.le_trans hN0 K.hN⟩,K.below hcc.out⟩
--@need spec.DrawLockSame
section
variable {W:World} {E:Nat→Nat→Prop} {p N:Nat} {cs:Array Value} {d:Am} {v:Value}
theorem Bu.putA (h:Bu W p N (.agg cs) d) (x:Int):Bu W p N (.agg (cs.setIfInBounds 4 (.i x))) { d with A:=x }:=by
 obtain ⟨E,⟨u0,u1,u2,u3,u4,u5,u6,u7,e,h⟩,hb⟩:=h;obtain rfl:=Value.agg.inj e;exact ⟨E,⟨u0,u1,u2,u3,u4,u5,u6,u7,rfl,h⟩,hb⟩
theorem Bu.putS (h:Bu W p N (.agg cs) d) (x:Int):Bu W p N (.agg (cs.setIfInBounds 14 (.i x))) { d with s:=x }:=by
 obtain ⟨E,⟨u0,u1,u2,u3,u4,u5,u6,u7,e,h0,h1,h2,h3,h4⟩,hb⟩:=h;obtain rfl:=Value.agg.inj e;obtain ⟨a',x',b',y',e',k⟩:=h3;simp only [Value.agg.injEq,Array.mk.injEq,List.cons.injEq,and_true,true_and] at e';obtain ⟨rfl,rfl⟩:=e';exact ⟨E,⟨u0,u1,u2,_,_,u5,u6,u7,rfl,h0,h1,h2,⟨a',x',b',y',rfl,k⟩,h4⟩,hb⟩
theorem Bu.get4 (h:Bu W p N (.agg cs) d):cs[4]?=some (.i d.A):=by
 obtain ⟨E,⟨u0,u1,u2,u3,u4,u5,u6,u7,e,-⟩,hb⟩:=h;obtain rfl:=Value.agg.inj e
 rfl
theorem Bu.get14 (h:Bu W p N (.agg cs) d):cs[14]?=some (.i d.s):=by
 obtain ⟨E,⟨u0,u1,u2,u3,u4,u5,u6,u7,e,-⟩,hb⟩:=h;obtain rfl:=Value.agg.inj e
 rfl
theorem Bu.agg (h:Bu W p N v d):∃ cs,v=.agg cs∧cs.size=34∧cs.all (·.oneCell')=true:=by
 obtain ⟨E,h,-⟩:=h;exact h.agg
theorem Bu.one (h:Bu W p N (.agg cs) d):cs.all (·.oneCell')=true:=by
 obtain ⟨cs',e,-,ho⟩:=h.agg;obtain rfl:=Value.agg.inj e;exact ho
theorem Bu.mono {p2 N2:Nat} (h:Bu W p N v d) (h1:p2≤p) (h2:N≤N2):Bu W p2 N2 v d:=by
 obtain ⟨E,h,hb⟩:=h;exact ⟨E,h,fun i b hi=>⟨Nat.le_trans h1 (hb i b hi).1,Nat.lt_of_lt_of_le (hb i b hi).2 h2⟩⟩
theorem Be.ram16 (h:Be W p N (.agg cs) d):∃ a c,cs[2]?=some (.slice a d.nr c)∧(16<d.nr→∃ b o,a=some ⟨b,o,none⟩∧p≤b∧b<N∧b<W.heap.size∧W.cell? ⟨b,o+16,none⟩=some (.i (d.g 16))∧W.frozen? ⟨b,o+16,none⟩=false∧∀ k,∃ g,Bu (W.setCell ⟨b,o+16,none⟩ (.i k)) p N (.agg cs) { d with g:=g }):=by
 obtain ⟨E,⟨u0,u1,u2,u3,u4,u5,u6,u7,e,h0,h1,h2,h3,h4⟩,hdis,hb⟩:=h.on;obtain rfl:=Value.agg.inj e;obtain ⟨a,c,e,hn,hr,hF,hD⟩:=h2;simp only [Value.agg.injEq,Array.mk.injEq,List.cons.injEq,and_true] at e;subst e;refine ⟨a,c,rfl,fun h16=>?_⟩;obtain ⟨b,o,rfl,hc⟩:=hr 16 h16;have hf:Cd (some ⟨b,o,none⟩) d.nr b (o+16):=Bj h16;have hE:=hD b _ hf;refine ⟨b,o,rfl,(hb 2 b hE).1,(hb 2 b hE).2,(hF b _ hf).1,hc,(hF b _ hf).2,fun k=>?_⟩;have TT:=Bz W b (o+16) (.i k)
 have far:∀ i,i≠2→∀ b' (o':Nat),E i b'→b'<W.heap.size→¬ b'=b:=fun i hi b' o' hb' _ e=>hi (hdis i 2 b' hb' (e ▸ hE))
 exact ⟨fun i=>if i=16 then k else d.g i,E,⟨_,_,_,_,_,_,_,_,rfl,h0.keep TT (far 0 (by decide)),h1.keep TT (far 1 (by decide)),⟨_,c,rfl,hn,I9 hr h16,hF.keep TT,hD⟩,h3.keep TT (far 3 (by decide)),h4.keep TT (fun i b' o' hi=>far i (by omega) b' o')⟩,hb⟩
end
theorem Kw (w:World) (B:Nat) (a:Option Addr) (len cap:Nat) (hB:B≤w.heap.size) (H:Code w B a len) :
  Calls Tryz.prog 10 #[.slice a len cap] w fun e w'=>∃ va vb,e=.returned (.tuple #[va,vb])∧(∃ d d' p N,Bu w' p N va d∧Bu w' p N vb d'∧w.heap.size≤p∧N≤w'.heap.size)∧Below w.heap.size w w':=by
 have B0:=((Dv.nil w).alloc zR 44 w.heap.size rfl).alloc zR 44 (w.heap.size+1) (by simp)
 go_enter Tryz.func10,Tryz.ntmps10
 go_upto_region 1 with (fail);generalize (w.alloc (.cells zR 44)).alloc (.cells zR 44)=W0 at *;generalize hrs:(zR:Array Value)=rs at *
 have HRS:Hid (rs.size=34):=by show _=_; rw [← hrs]; rfl
 clear hrs;rename_i K3 hK3;refine wp_region_lit ?_
 (refine wpList_plain rfl (fun K9 hK9=>?_); go_simp; refine hK9 _ _ ?_; clear hK9)
 refine Ap rfl _ _ (by kernel_rfl) (U8 _ B a len cap (Nat.le_trans hB B0.below.size) (H.keep (B0.below.mono hB))) ?_;rintro e W1 ⟨rfl,H1,L1,s1⟩;refine ⟨_,rfl,?_⟩;have K:=Dt.ofBxs (B0.call L1) H1 hB B0.below.size (fun q hq=>Nat.ne_of_lt (Af (B0.all q hq).1));have hcc:=Ad B0.below.size;clear B0 H1 L1 s1;generalize W0.heap.size=c at *
 (refine wpList_plain rfl (fun K9 hK9=>?_); go_simp; refine hK9 _ _ ?_; clear hK9)
 refine hK3 _ _ ?_;clear hK3
 try simp only [Act.put,List.setIfInBounds_toArray,List.set_cons_succ,List.set_cons_zero]
 go_upto_region 2 with (fail);rename_i K3 hK3;refine wp_region_lit ?_
 (refine wpList_plain rfl (fun K9 hK9=>?_); go_simp; refine hK9 _ _ ?_; clear hK9)
 refine Ap rfl _ _ (by kernel_rfl) (U7 _ B c a len cap K.cur) ?_;rintro e W2 ⟨v1,d,E,rfl,on,bd,hF,H2,S2⟩;refine ⟨_,rfl,?_⟩;replace K:=K.set1 S2 H2 (P2:=fun W=>Bu W W1.heap.size W2.heap.size v1 d) Bu.stays ⟨E,on,bd⟩;obtain ⟨co,rfl,hco,ho1⟩:=on.agg;have hp12:W1.heap.size≤W2.heap.size:=S2.size;clear H2 S2 on bd E;generalize W1.heap.size=p1 at *
 obtain ⟨p2,hp2⟩:∃ n,Hid (n=W2.heap.size):=⟨_,rfl⟩
 rw [← hp2.out] at K hp12;have HP12:=Ad hp12;clear hp12 hp2
 (refine wpList_plain rfl (fun K9 hK9=>?_); go_simp; refine hK9 _ _ ?_; clear hK9)
 replace K:=K.alloc zR 44 _ rfl;generalize W2.heap.size=ba at *;generalize W2.alloc (.cells zR 44)=W3a at *;refine wpList_store_row rfl _ _ _ rfl (ba) co rfl rfl _ _ (K.ret 2 rfl) (infoAt Ae hco) (hco.symm) ho1 ?_;replace K:=K.row 2 rfl co;generalize W3a.setRow ba co=W3 at *;refine hK3 _ _ ?_;clear hK3
 try simp only [Act.put,List.setIfInBounds_toArray,List.set_cons_succ,List.set_cons_zero]
 go_upto_region 3 with (fail);rename_i K3 hK3;refine wp_region_lit ?_;refine wpList_load_row rfl _ _ rfl ba rfl _ _ _ _ (K.ret 2 rfl) Tryz.underlying44 rfl (infoAt Ae hco) ?_;obtain ⟨E,on,-⟩:=id K.y;refine Ap rfl _ _ (by kernel_rfl) (Mu _ _ _ d on) ?_;rintro e W4 ⟨v2,rfl,ow,L⟩;refine ⟨_,rfl,?_⟩;have hpp:=Ad (Nat.le_trans HP12.out K.hN);replace K:=K.set2 (By L (Nat.le_refl _)) (K.cur.below L K.cur.lt) (P2:=fun W=>Be W W3.heap.size W4.heap.size v2 d) Be.stays (Du.y (Or.inr ⟨_,Nat.le_refl _,ow⟩));clear on E L ow;obtain ⟨cb,rfl,hcb,hb1⟩:=K.y'.i.agg;generalize W3.heap.size=p' at *
 obtain ⟨N',hN'⟩:∃ n,Hid (n=W4.heap.size):=⟨_,rfl⟩
 rw [← hN'.out] at K;clear hN'
 (refine wpList_plain rfl (fun K9 hK9=>?_); go_simp; refine hK9 _ _ ?_; clear hK9)
 replace K:=K.alloc zR 44 _ rfl;generalize W4.heap.size=bb at *;generalize W4.alloc (.cells zR 44)=W5a at *;refine wpList_store_row rfl _ _ _ rfl (bb) cb rfl rfl _ _ (K.ret 3 rfl) (infoAt Ae hcb) (hcb.symm) hb1 ?_;replace K:=K.row 3 rfl cb;generalize W5a.setRow bb cb=W5 at *;refine hK3 _ _ ?_;clear hK3;have HCO:=Ad hco;have HO1:=Ad ho1;have HCB:=Ad hcb;have HB1:=Ad hb1;have HK:=Ad K;have HF:=Ad hF;clear hco ho1 hcb hb1 K hF;go_wp2_with fail;refine (Bw _ B c a len cap HK.out.cur 6).mono ?_;rintro e W6 ⟨x0,rfl,x1,x2,H6,O6⟩;have K:=HK.out.move O6.step H6;clear HK H6 O6
 go_upto_block 0 with (fail)
 go_cut [] (fun WX=>∃ (q M:Nat) (P':World→Prop) (cx:Array Value) (dx:Am),p1≤q∧Dt w B c a len cap p1 p2 q M (fun W=>Bu W p1 p2 (.agg co) d) P' WX [(w.heap.size,rs,44),(w.heap.size+1,rs,44),(ba,co,44),(bb,cx,44)]∧∀ W,P' W→Bu W q M (.agg cx) dx)
 case first =>
  rename_i J Kq hJ hKq
  by_cases r0:x0=0
  ·subst r0
   have c4:=K.get 3 rfl 4 K.y'.i.get4;have cf:=Ax (K.ret 3 rfl);go_wp2_with fail
   go_meet
   exact ⟨_,_,_,_,_,hpp.out,(K.cell 3 rfl 4 _).to2 (P2:=fun W=>Bu W p' N' (.agg (cb.setIfInBounds 4 _)) _) Bu.stays ((K.cell 3 rfl 4 _).y'.i.putA _),fun W h=>h⟩
  ·have q0:(x0==0)=false:=by simp [r0]
   by_cases r1:x0=1
   ·subst r1
    obtain ⟨am,cm,h2,hs⟩:=K.y'.ram16;have c2:=K.get 3 rfl 2 h2
    by_cases h16:16<d.nr
    ·obtain ⟨bq,o,rfl,g1,g2,g3,g4,g5,g6⟩:=hs h16
     have hn1:(16:Int)<(d.nr:Int):=by omega
     go_wp2_with fail;obtain ⟨g,hg⟩:=g6 _
     go_meet
     exact ⟨_,_,_,cb,_,hpp.out,K.mut2 (Bz _ _ _ _) ⟨g1,g2⟩ (P2:=fun W=>Bu W p' N' (.agg cb) { d with g:=g }) Bu.stays hg,fun W h=>h⟩
    ·have hn1:¬ (16:Int)<(d.nr:Int):=by omega
     go_wp2_with fail
     go_meet
     exact ⟨_,_,_,cb,d,hpp.out,K,fun W h=>h.i⟩
   ·have q1:(x0==1)=false:=by simp [r1]
    by_cases r2:x0=2
    ·subst r2
     go_upto_region 11 with (fail);refine wp_region_lit ?_;refine wpList_load_row rfl _ _ rfl bb rfl _ _ _ _ (K.ret 3 rfl) Tryz.underlying44 rfl (infoAt Ae HCB.out) ?_;obtain ⟨E,on,-⟩:=id K.y'.i;refine Ap rfl _ _ (by kernel_rfl) (Hy _ _ _ d 1 801 (fun _=>True) (fun _ _=>trivial) trivial on (by omega) ⟨HF.out,trivial⟩ (by omega)) ?_;rintro e W8 ⟨v3,k,d3,rfl,T,F2,L⟩;refine ⟨_,rfl,?_⟩;have hpq:p1≤W6.heap.size:=Nat.le_trans HP12.out K.hN;replace K:=K.set2 (By L (Nat.le_refl _)) (K.cur.below L K.cur.lt) (P2:=fun W=>Be W W6.heap.size W8.heap.size v3 d3) Be.stays T.y;clear on E L T F2;obtain ⟨cx,rfl,hcx,hx1⟩:=K.y'.i.agg
     iterate 3 (refine wpList_plain rfl (fun K9 hK9=>?_); go_simp; refine hK9 _ _ ?_; clear hK9)
     refine wpList_store_row rfl _ _ _ rfl bb cx rfl rfl _ _ (K.ret 3 rfl) (infoAt Ae hcx) (HCB.out.trans hcx.symm) hx1 ?_;replace K:=K.row 3 rfl cx;unfold wpList;go_wp2_with fail
     go_meet
     exact ⟨_,_,_,cx,d3,hpq,K,fun W h=>h.i⟩
    ·have q2:(x0==2)=false:=by simp [r2]
     by_cases r3:x0=3
     ·subst r3
      have c14:=K.get 3 rfl 14 K.y'.i.get14;have cf:=Ax (K.ret 3 rfl);go_wp2_with fail
      go_meet
      exact ⟨_,_,_,_,_,hpp.out,(K.cell 3 rfl 14 _).to2 (P2:=fun W=>Bu W p' N' (.agg (cb.setIfInBounds 14 _)) _) Bu.stays ((K.cell 3 rfl 14 _).y'.i.putS _),fun W h=>h⟩
     ·have q3:(x0==3)=false:=by simp [r3]
      go_wp2_with fail
      go_meet
      exact ⟨_,_,_,cb,d,hpp.out,K,fun W h=>h.i⟩
 case rest =>
 clear K hpp HF HCB HB1;obtain ⟨q,M,P',cx,dx,hpq,K,HP⟩:=hcut;obtain ⟨cx',e,hcx,hx1⟩:=(HP _ K.y').agg;obtain rfl:=Value.agg.inj e;clear e
 obtain ⟨W7,hW7⟩:∃ y,y=wc:=⟨_,rfl⟩
 subst hW7;replace HP:=Ad HP;go_upto_region 14 with (fail);rename_i K3 hK3;refine Dm 4 (fun w'=>w'.heap[ba]?=some (.cells co 44 (0,0))∧w'.heap[bb]?=some (.cells cx 44 (0,0))) (by kernel_rfl) ?_;replace K:=K.redraw (W7.drawn+1);generalize redrawn W7 (W7.drawn+1)=W8 at *
 show Cj _ _ _ _ _ 4 _ _ _
 refine Bp 0 rfl (by kernel_rfl) ⟨K.ret 2 rfl,K.ret 3 rfl⟩ (Br _ _ rfl rfl ba rfl _ co _ _ (fun w' h=>h.1) Tryz.underlying44 rfl (infoAt Ae HCO.out)) ?_;refine Bp 1 rfl (by kernel_rfl) ⟨K.ret 2 rfl,K.ret 3 rfl⟩ (Br _ _ rfl rfl bb rfl _ cx _ _ (fun w' h=>h.2) Tryz.underlying44 rfl (infoAt Ae hcx)) ?_;refine A5 2 rfl (by kernel_rfl) ?_;refine wp_store_row _ _ _ rfl w.heap.size co rfl rfl _ _ (K.ret 0 rfl) (infoAt Ae HCO.out) (HRS.out.trans HCO.out.symm) HO1.out ?_;replace K:=K.row 0 rfl co;generalize W8.setRow w.heap.size co=W9 at *;refine ⟨fun _=>⟨K.ret 2 rfl,K.ret 3 rfl⟩,?_⟩;refine A5 3 rfl (by kernel_rfl) ?_;refine wp_store_row _ _ _ rfl (w.heap.size+1) cx rfl rfl _ _ (K.ret 1 rfl) (infoAt Ae hcx) (HRS.out.trans hcx.symm) hx1 ?_;replace K:=K.row 1 rfl cx
 generalize W9.setRow (w.heap.size+1) cx=W10 at *;refine ⟨fun _=>⟨K.ret 2 rfl,K.ret 3 rfl⟩,?_⟩;refine Cy (by kernel_rfl) ?_;refine hK3 _ _ ?_;clear hK3;go_wp2;refine bodyPost_ret (v:=.tuple #[.agg co,.agg cx]) (Fo Tryz.results10 _ _ w.heap.size (w.heap.size+1) _ _ _ _ _ _ _ _ rfl rfl (K.ret 0 rfl) (K.ret 1 rfl) Tryz.underlying44 Tryz.underlying44 rfl rfl (infoAt Ae HCO.out) (infoAt Ae hcx)) rfl ?_;have hN1:=K.hN;have hN2:=K.hN';exact ⟨_,_,rfl,⟨d,dx,p1,max p2 M,K.y.mono (Nat.le_refl _) (by omega),(HP.out _ K.y').mono hpq (by omega),K.lo,by omega⟩,K.below hcc.out⟩
set_option maxHeartbeats 8000000
set_option maxRecDepth 40000
theorem Ib (n:Nat) (f:Nat→Int):A8 n n f f=true:=I7 (fun _ _=>rfl)
theorem T7 (n:Nat) (l:Nat→Nat) (f:Nat→Nat→Int):Dg n n l l f f=true:=decide_eq_true ⟨rfl,fun i _=>Ib _ _⟩
theorem Ep (o:Qk):obsSame o o=true:=by simp [obsSame,Ib,T7]
theorem Eb {α:Type} [BEq α] [LawfulBEq α] (a:α):(a==a)=true:=beq_self_eq_true a
theorem Kx (d:Am):lockB d d=true:=by
  unfold lockB;rw [Ib,Ep];unfold Kg Kd Kh Ef Ki Ke Kj Kf;rw [Ib,Ib];rw [Eb d.bank,Eb d.A,Eb d.X,Eb d.S,Eb d.Pc,Eb d.Z,Eb d.N,Eb d.C,Eb d.I];rw [Eb d.t,Eb d.c,Eb d.s,Eb d.ad,Eb d.pl,Eb d.bl,Eb d.T,Eb d.P,Eb d.K,Eb d.B,Eb d.L,Eb d.Q,Eb d.R,Eb d.hd,Eb d.sh,Eb d.nmi,Eb d.st]
  rfl
theorem Cq {α:Type} [BEq α] [LawfulBEq α] (a b:α):(a==b)=(b==a):=by
 rw [Bool.eq_iff_iff,beq_iff_eq,beq_iff_eq];exact eq_comm
theorem Ec (n m:Nat) (f g:Nat→Int):A8 n m f g=A8 m n g f:=by
 rw [Bool.eq_iff_iff];exact ⟨D9,D9⟩
theorem Na (n m:Nat) (l k:Nat→Nat) (f g:Nat→Nat→Int):Dg n m l k f g=Dg m n k l g f:=by
 rw [Bool.eq_iff_iff];unfold Dg;simp only [decide_eq_true_eq];exact ⟨fun ⟨e,h⟩=>⟨e.symm,fun i hi=>D9 (h i (by omega))⟩,fun ⟨e,h⟩=>⟨e.symm,fun i hi=>D9 (h i (by omega))⟩⟩
theorem Qn (a b:Am):lockB a b=lockB b a:=by
 unfold lockB Kg Kd Kh Ef Ki Ke Kj Kf obsSame Ql
 rw [Ec a.nr b.nr,Cq a.bank,Cq a.A,Cq a.X,Cq a.S,Cq a.Pc,Cq a.Z,Cq a.N,Cq a.C,Cq a.I,Cq a.t,Cq a.c,Cq a.s,Cq a.ad,Cq a.pl,Cq a.bl,Ec a.nt b.nt,Ec a.nd b.nd,
  Cq a.T,Cq a.P,Cq a.K,Cq a.B,Cq a.L,Cq a.Q,Cq a.R,Cq a.hd,Cq a.sh,Cq a.nmi,Cq a.st,Na a.mf b.mf,Ec a.ns b.ns,Ec a.nq b.nq]
structure Pg (W:World) (N:Nat) (P:World→Prop):Prop where
 le:N≤W.heap.size
 st:Dr 0 N P
 h:P W
section
variable {W W':World} {N b:Nat} {P:World→Prop} {cs:Array Value} {t:TypeId}
theorem Pg.call (T:Pg W N P) (L:Below W.heap.size W W'):Pg W' N P:=⟨Nat.le_trans T.le L.size,T.st,T.st W W' T.h L.size (fun b _ hb=>L.block b (Nat.lt_of_lt_of_le hb T.le))⟩
theorem Pg.row (T:Pg W N P) (k:W.heap[b]?=some (.cells cs t (0,0))) (hb:N≤b) (cs':Array Value):Pg (W.setRow b cs') N P :=
 have TT:=Ce k cs'
 ⟨Nat.le_trans T.le TT.size,T.st,T.st W _ T.h TT.size (fun k _ hk=>TT.block k (Nat.lt_of_lt_of_le hk T.le) (fun _ (e:k=b)=>by omega))⟩
end
section
variable {P:Program} {ops:Array Oper} {rest:List Oper} {o:Oper} {a:Act} {w:World} {Q:Exit→Act→World→Prop}
theorem Az (hw:Region.wanted o (yielded ops a.tmps)=true) (ty:TypeId) (x:Operand) (ho:o.op=.load ty x)
  (g:Nat) (hx:a.eval x=(pt g 0)) (t:TypeId) (cs:Array Value) (fr:Nat × Nat) (d:TypeDesc) (hg:w.heap[g]?=some (.cells cs t fr))
  (hu:P.underlying ty=some d) (hd:(match d with | .struct _ | .array _ _=>true | _=>false)=true) (hi:(P.info? ty).map (·.size)=some cs.size)
  (h:wpList P ops Q rest (a.put o.dst (.agg cs)) w):wpList P ops Q (o :: rest) a w :=
 wpList_step fun K hK=>by rw [if_pos hw]; exact wp_load_row ty x ho g hx t cs fr d hg hu hd hi (hK _ _ h)
theorem Ci (hw:Region.wanted o (yielded ops a.tmps)=true) (f:FuncId) (args:Array Value) (hrun:(execOp a.eval o).run P w=.ok (.enter f args) w) {R:Ending→World→Prop} (hc:Calls P f args w R)
  (h:∀ e w',R e w'→∃ v,e=.returned v∧wpList P ops Q rest (a.put o.dst v) w'):wpList P ops Q (o :: rest) a w :=
 wpList_step fun K hK=>by
  rw [if_pos hw];unfold Oper.wp;rw [hrun,Oper.upon_enter]
  refine hc.mono fun e w' hh=>?_
  obtain ⟨v,rfl,h'⟩:=h e w' hh;exact hK _ _ h'
end
theorem Vv (w:World) (s0:Option Addr) (n0 c0:Nat) (h:(1048576:Int)<(n0:Int)∨Code w w.heap.size s0 n0) :
  Calls Tryz.prog 3 #[.slice s0 n0 c0] w fun e w'=>e=.returned (.bool true)∧Below w.heap.size w w':=by
 by_cases hbig:(1048576:Int)<(n0:Int)
 ·have hb':decide ((1048576:Int)<(n0:Int))=true:=decide_eq_true hbig
  go_enter Tryz.func3,Tryz.ntmps3
  go_wp2_with fail;refine (Qq _ s0 n0 c0).mono ?_;rintro e w' ⟨rfl,rfl⟩;rw [hb'];go_wp2;go_ret;exact ⟨rfl,Below.refl _ _⟩
 ·have hb':decide ((1048576:Int)<(n0:Int))=false:=decide_eq_false hbig
  have hcode:Code w w.heap.size s0 n0:=h.resolve_left hbig;clear hbig h
  go_enter Tryz.func3,Tryz.ntmps3
  go_wp2_with fail;refine (Qq _ s0 n0 c0).mono ?_;rintro e w' ⟨rfl,rfl⟩;rw [hb'];clear hb';have B0:=Dv.nil w';go_upto_region 3 with (fail);rename_i K3 hK3;refine wp_region_lit ?_
  (refine wpList_plain rfl (fun K9 hK9=>?_); go_simp; refine hK9 _ _ ?_; clear hK9)
  refine Ap rfl _ _ (by kernel_rfl) (Kl _ w'.heap.size s0 n0 c0 (Nat.le_refl _) hcode) ?_;rintro e W1 ⟨va,vb,rfl,⟨A,A',p,N,O1,O2,hp,hN⟩,L⟩;refine ⟨_,rfl,?_⟩
  have T:Pg W1 W1.heap.size (fun W=>Ds W p N va A∧Ds W p N vb A'):=⟨Nat.le_refl _,(Ds.stays.and Ds.stays).mono (Nat.zero_le _) hN,⟨O1,O2⟩⟩
  replace B0:=B0.call L;obtain ⟨x,y,z,rfl⟩:=O1.agg;obtain ⟨x',y',z',rfl⟩:=O2.agg;have o1:=O1.one;have o2:=O2.one;clear O1 O2 L hp hN
  iterate 5 (refine wpList_plain rfl (fun K9 hK9=>?_); go_simp; refine hK9 _ _ ?_; clear hK9)
  have LA:Below W1.heap.size W1 ((W1.alloc (.cells oZ 27)).alloc (.cells oZ 27)):=((Below.refl _ _).alloc (Nat.le_refl _) _).alloc (by simp) _;replace B0:=(B0.alloc oZ 27 W1.heap.size rfl).alloc oZ 27 (W1.heap.size+1) (by simp);replace T:=T.call LA;clear LA;generalize W1.heap.size=ba at *;generalize (W1.alloc (.cells oZ 27)).alloc (.cells oZ 27)=W2 at *;refine wpList_store_row rfl _ _ _ rfl ba #[x,y,z] rfl rfl _ _ (B0.ret 0 rfl) A7 rfl o1 ?_;replace T:=T.row (B0.ret 0 rfl) (Nat.le_refl _) #[x,y,z];replace B0:=B0.row 0 rfl #[x,y,z];generalize W2.setRow ba #[x,y,z]=W3 at *;refine wpList_store_row rfl _ _ _ rfl (ba+1) #[x',y',z'] rfl rfl _ _ (B0.ret 1 rfl) A7 rfl o2 ?_;replace T:=T.row (B0.ret 1 rfl) (by omega) #[x',y',z'];replace B0:=B0.row 1 rfl #[x',y',z'];generalize W3.setRow (ba+1) #[x',y',z']=W4 at *;refine hK3 _ _ ?_;clear hK3
  try simp only [Act.put,List.setIfInBounds_toArray,List.set_cons_succ,List.set_cons_zero]
  have HB:=Ad (fun W E E' h h'=>Gz W E E' (.agg #[x,y,z]) (.agg #[x',y',z']) A A' h h');have HB':=Ad (fun W E E' h h'=>Gz W E E' (.agg #[x',y',z']) (.agg #[x,y,z]) A' A h h');have HS:=Ad (fun W E E' h h'=>Ea W E E' (.agg #[x,y,z]) (.agg #[x',y',z']) A A' h h');have GB:=Ad (fun W E E' h h'=>Fh W E E' (.agg #[x,y,z]) (.agg #[x',y',z']) A A' h h');have GSm:=Ad (fun W E E' h h'=>Ix W E E' (.agg #[x,y,z]) (.agg #[x',y',z']) A A' h h');have hsb:=(Kc A A').symm;generalize obsSame A A'=sb at *;generalize obsBeg A A'=xb at *;generalize obsBeg A' A=yb at *;go_upto_region 4 with (fail);rename_i K3 hK3;refine Dm 8 (fun w'=>w'.heap[ba]?=some (.cells #[x,y,z] 27 (0,0))∧w'.heap[ba+1]?=some (.cells #[x',y',z'] 27 (0,0))) (by kernel_rfl) ?_
  have LR:Below W4.heap.size W4 (redrawn W4 (W4.drawn+1)):=⟨rfl,rfl,rfl,Nat.le_refl _,fun _ _=>rfl⟩
  replace B0:=B0.call LR;replace T:=T.call LR;clear LR;generalize redrawn W4 (W4.drawn+1)=W5 at *
  show Cj _ _ _ _ _ 8 _ _ _
  refine Bp 0 rfl (by kernel_rfl) ⟨B0.ret 0 rfl,B0.ret 1 rfl⟩ (Br _ _ rfl rfl ba rfl _ #[x,y,z] _ _ (fun w' h=>h.1) Tryz.underlying27 rfl A7) ?_;refine Bp 1 rfl (by kernel_rfl) ⟨B0.ret 0 rfl,B0.ret 1 rfl⟩ (Br _ _ rfl rfl (ba+1) rfl _ #[x',y',z'] _ _ (fun w' h=>h.2) Tryz.underlying27 rfl A7) ?_;refine Bp 3 rfl (by kernel_rfl) ⟨B0.ret 0 rfl,B0.ret 1 rfl⟩ (Br _ _ rfl rfl (ba+1) rfl _ #[x',y',z'] _ _ (fun w' h=>h.2) Tryz.underlying27 rfl A7) ?_;refine Bp 4 rfl (by kernel_rfl) ⟨B0.ret 0 rfl,B0.ret 1 rfl⟩ (Br _ _ rfl rfl ba rfl _ #[x,y,z] _ _ (fun w' h=>h.1) Tryz.underlying27 rfl A7) ?_;refine A5 2 rfl (by kernel_rfl) ?_;go_simp;obtain ⟨E1,h1,-⟩:=T.h.1;obtain ⟨E2,h2,-⟩:=T.h.2;refine (HB.out _ _ _ h1 h2).mono ?_;rintro e W6 ⟨rfl,L⟩;replace B0:=B0.call L
  replace T:=T.call L;clear L h1 h2;refine ⟨fun _=>⟨B0.ret 0 rfl,B0.ret 1 rfl⟩,?_⟩;refine A5 5 rfl (by kernel_rfl) ?_;go_simp;obtain ⟨E1,h1,-⟩:=T.h.1;obtain ⟨E2,h2,-⟩:=T.h.2;refine (HB'.out _ _ _ h2 h1).mono ?_;rintro e W7 ⟨rfl,L⟩;replace B0:=B0.call L;replace T:=T.call L;clear L h1 h2;refine ⟨fun _=>⟨B0.ret 0 rfl,B0.ret 1 rfl⟩,?_⟩;refine A5 6 rfl (by kernel_rfl) ?_;go_simp;refine ⟨fun _=>⟨B0.ret 0 rfl,B0.ret 1 rfl⟩,?_⟩;refine A5 7 rfl (by kernel_rfl) ?_;go_simp;refine ⟨fun _=>⟨B0.ret 0 rfl,B0.ret 1 rfl⟩,?_⟩;refine Cy (by kernel_rfl) ?_;refine hK3 _ _ ?_;clear hK3;clear HB HB';go_upto_region 5 with (fail);rename_i K3 hK3;refine wp_region_lit ?_;refine wpList_load_row rfl _ _ rfl (ba) rfl _ _ _ _ (B0.ret 0 rfl) Tryz.underlying27 rfl A7 ?_
  refine wpList_load_row rfl _ _ rfl (ba+1) rfl _ _ _ _ (B0.ret 1 rfl) Tryz.underlying27 rfl A7 ?_;obtain ⟨E1,h1,-⟩:=T.h.1;obtain ⟨E2,h2,-⟩:=T.h.2;refine Ap rfl _ _ (by kernel_rfl) (HS.out _ _ _ h1 h2) ?_;rintro e W8 ⟨rfl,L⟩;refine ⟨_,rfl,?_⟩;replace B0:=B0.call L;replace T:=T.call L;clear L h1 h2
  (refine wpList_plain rfl (fun K9 hK9=>?_); go_simp; refine hK9 _ _ ?_; clear hK9)
  refine hK3 _ _ ?_;clear hK3;clear HS
  try simp only [Act.put,List.setIfInBounds_toArray,List.set_cons_succ,List.set_cons_zero]
  go_upto_region 6 with (fail)
  go_cut [52] (fun s WX=>s=.bool false∧Below W8.heap.size W8 WX)
  case first =>
   rename_i J Kq hJ hKq;subst hsb;have L0:=Below.refl W8.heap.size W8;have sz:W8.heap.size≤W8.heap.size:=Nat.le_refl _;cases xb
   ·refine wp_region_lit ?_
    (refine wpList_plain rfl (fun K9 hK9=>?_); go_simp; refine hK9 _ _ ?_; clear hK9)
    refine wpList_load_row rfl _ _ rfl (ba) rfl _ _ _ _ (B0.ret 0 rfl) Tryz.underlying27 rfl A7 ?_;refine wpList_load_row rfl _ _ rfl (ba+1) rfl _ _ _ _ (B0.ret 1 rfl) Tryz.underlying27 rfl A7 ?_;obtain ⟨E1,h1,-⟩:=T.h.1;obtain ⟨E2,h2,-⟩:=T.h.2;refine Ap rfl _ _ (by kernel_rfl) (GB.out _ _ _ h1 h2) ?_;rintro e W9 ⟨rfl,L⟩;refine ⟨_,rfl,?_⟩;replace L0:=L0.trans (L.mono L0.size);replace B0:=B0.call L;replace T:=T.call L;clear L h1 h2
    iterate 3 (refine wpList_step (fun K9 hK9=>?_); rw [if_pos (by kernel_rfl)]; go_simp; refine hK9 _ _ ?_; clear hK9)
    refine Az (by kernel_rfl) _ _ rfl (ba) rfl _ _ _ _ (B0.ret 0 rfl) Tryz.underlying27 rfl A7 ?_;refine Az (by kernel_rfl) _ _ rfl (ba+1) rfl _ _ _ _ (B0.ret 1 rfl) Tryz.underlying27 rfl A7 ?_;obtain ⟨E1,h1,-⟩:=T.h.1;obtain ⟨E2,h2,-⟩:=T.h.2;refine Ci (by kernel_rfl) _ _ (by kernel_rfl) (GSm.out _ _ _ h1 h2) ?_;rintro e W10 ⟨rfl,L⟩;refine ⟨_,rfl,?_⟩;replace L0:=L0.trans (L.mono L0.size);replace B0:=B0.call L;replace T:=T.call L;clear L h1 h2
    iterate 6 (refine wpList_step (fun K9 hK9=>?_); rw [if_pos (by kernel_rfl)]; go_simp; refine hK9 _ _ ?_; clear hK9)
    refine wpList_skip (by kernel_rfl) ?_;simp only [Act.put,List.setIfInBounds_toArray,List.set_cons_succ,List.set_cons_zero]
    iterate 4 (refine wpList_step (fun K9 hK9=>?_); rw [if_pos (by kernel_rfl)]; go_simp; refine hK9 _ _ ?_; clear hK9)
    refine Az (by kernel_rfl) _ _ rfl (ba) rfl _ _ _ _ (B0.ret 0 rfl) Tryz.underlying27 rfl A7 ?_;refine Az (by kernel_rfl) _ _ rfl (ba) rfl _ _ _ _ (B0.ret 0 rfl) Tryz.underlying27 rfl A7 ?_;obtain ⟨E1,h1,-⟩:=T.h.1;refine Ci (by kernel_rfl) _ _ (by kernel_rfl) (Ea _ E1 E1 _ _ A A h1 h1) ?_;rintro e W11 ⟨rfl,L⟩;refine ⟨_,rfl,?_⟩;rw [Ep];replace L0:=L0.trans (L.mono L0.size)
    iterate 2 (refine wpList_step (fun K9 hK9=>?_); rw [if_pos (by kernel_rfl)]; go_simp; refine hK9 _ _ ?_; clear hK9)
    unfold wpList;refine hKq _ _ ?_
    go_meet
    exact ⟨rfl,L0⟩
   ·cases yb
    ·refine wp_region_lit ?_
     (refine wpList_plain rfl (fun K9 hK9=>?_); go_simp; refine hK9 _ _ ?_; clear hK9)
     refine wpList_load_row rfl _ _ rfl (ba) rfl _ _ _ _ (B0.ret 0 rfl) Tryz.underlying27 rfl A7 ?_;refine wpList_load_row rfl _ _ rfl (ba+1) rfl _ _ _ _ (B0.ret 1 rfl) Tryz.underlying27 rfl A7 ?_;obtain ⟨E1,h1,-⟩:=T.h.1;obtain ⟨E2,h2,-⟩:=T.h.2;refine Ap rfl _ _ (by kernel_rfl) (GB.out _ _ _ h1 h2) ?_;rintro e W9 ⟨rfl,L⟩;refine ⟨_,rfl,?_⟩;replace L0:=L0.trans (L.mono L0.size);replace B0:=B0.call L;replace T:=T.call L;clear L h1 h2
     iterate 3 (refine wpList_step (fun K9 hK9=>?_); rw [if_pos (by kernel_rfl)]; go_simp; refine hK9 _ _ ?_; clear hK9)
     refine Az (by kernel_rfl) _ _ rfl (ba) rfl _ _ _ _ (B0.ret 0 rfl) Tryz.underlying27 rfl A7 ?_;refine Az (by kernel_rfl) _ _ rfl (ba+1) rfl _ _ _ _ (B0.ret 1 rfl) Tryz.underlying27 rfl A7 ?_;obtain ⟨E1,h1,-⟩:=T.h.1;obtain ⟨E2,h2,-⟩:=T.h.2;refine Ci (by kernel_rfl) _ _ (by kernel_rfl) (GSm.out _ _ _ h1 h2) ?_;rintro e W10 ⟨rfl,L⟩;refine ⟨_,rfl,?_⟩;replace L0:=L0.trans (L.mono L0.size);replace B0:=B0.call L;replace T:=T.call L;clear L h1 h2
     iterate 6 (refine wpList_step (fun K9 hK9=>?_); rw [if_pos (by kernel_rfl)]; go_simp; refine hK9 _ _ ?_; clear hK9)
     (refine wpList_step (fun K9 hK9=>?_); rw [if_pos (by kernel_rfl)]; go_simp; refine hK9 _ _ ?_; clear hK9)
     iterate 4 (refine wpList_step (fun K9 hK9=>?_); rw [if_pos (by kernel_rfl)]; go_simp; refine hK9 _ _ ?_; clear hK9)
     refine Az (by kernel_rfl) _ _ rfl (ba) rfl _ _ _ _ (B0.ret 0 rfl) Tryz.underlying27 rfl A7 ?_;refine Az (by kernel_rfl) _ _ rfl (ba) rfl _ _ _ _ (B0.ret 0 rfl) Tryz.underlying27 rfl A7 ?_;obtain ⟨E1,h1,-⟩:=T.h.1;refine Ci (by kernel_rfl) _ _ (by kernel_rfl) (Ea _ E1 E1 _ _ A A h1 h1) ?_;rintro e W11 ⟨rfl,L⟩;refine ⟨_,rfl,?_⟩;rw [Ep];replace L0:=L0.trans (L.mono L0.size)
     iterate 2 (refine wpList_step (fun K9 hK9=>?_); rw [if_pos (by kernel_rfl)]; go_simp; refine hK9 _ _ ?_; clear hK9)
     unfold wpList;refine hKq _ _ ?_
     go_meet
     exact ⟨rfl,L0⟩
    ·refine wp_region_lit ?_
     (refine wpList_plain rfl (fun K9 hK9=>?_); go_simp; refine hK9 _ _ ?_; clear hK9)
     refine wpList_load_row rfl _ _ rfl (ba) rfl _ _ _ _ (B0.ret 0 rfl) Tryz.underlying27 rfl A7 ?_;refine wpList_load_row rfl _ _ rfl (ba+1) rfl _ _ _ _ (B0.ret 1 rfl) Tryz.underlying27 rfl A7 ?_;obtain ⟨E1,h1,-⟩:=T.h.1;obtain ⟨E2,h2,-⟩:=T.h.2;refine Ap rfl _ _ (by kernel_rfl) (GB.out _ _ _ h1 h2) ?_;rintro e W9 ⟨rfl,L⟩;refine ⟨_,rfl,?_⟩;replace L0:=L0.trans (L.mono L0.size);replace B0:=B0.call L;replace T:=T.call L;clear L h1 h2
     iterate 3 (refine wpList_step (fun K9 hK9=>?_); rw [if_pos (by kernel_rfl)]; go_simp; refine hK9 _ _ ?_; clear hK9)
     refine Az (by kernel_rfl) _ _ rfl (ba) rfl _ _ _ _ (B0.ret 0 rfl) Tryz.underlying27 rfl A7 ?_;refine Az (by kernel_rfl) _ _ rfl (ba+1) rfl _ _ _ _ (B0.ret 1 rfl) Tryz.underlying27 rfl A7 ?_;obtain ⟨E1,h1,-⟩:=T.h.1;obtain ⟨E2,h2,-⟩:=T.h.2;refine Ci (by kernel_rfl) _ _ (by kernel_rfl) (GSm.out _ _ _ h1 h2) ?_;rintro e W10 ⟨rfl,L⟩;refine ⟨_,rfl,?_⟩;replace L0:=L0.trans (L.mono L0.size);replace B0:=B0.call L;replace T:=T.call L;clear L h1 h2
     iterate 6 (refine wpList_step (fun K9 hK9=>?_); rw [if_pos (by kernel_rfl)]; go_simp; refine hK9 _ _ ?_; clear hK9)
     (refine wpList_step (fun K9 hK9=>?_); rw [if_pos (by kernel_rfl)]; go_simp; refine hK9 _ _ ?_; clear hK9)
     iterate 4 (refine wpList_step (fun K9 hK9=>?_); rw [if_pos (by kernel_rfl)]; go_simp; refine hK9 _ _ ?_; clear hK9)
     refine Az (by kernel_rfl) _ _ rfl (ba) rfl _ _ _ _ (B0.ret 0 rfl) Tryz.underlying27 rfl A7 ?_;refine Az (by kernel_rfl) _ _ rfl (ba) rfl _ _ _ _ (B0.ret 0 rfl) Tryz.underlying27 rfl A7 ?_;obtain ⟨E1,h1,-⟩:=T.h.1;refine Ci (by kernel_rfl) _ _ (by kernel_rfl) (Ea _ E1 E1 _ _ A A h1 h1) ?_;rintro e W11 ⟨rfl,L⟩;refine ⟨_,rfl,?_⟩;rw [Ep];replace L0:=L0.trans (L.mono L0.size)
     iterate 2 (refine wpList_step (fun K9 hK9=>?_); rw [if_pos (by kernel_rfl)]; go_simp; refine hK9 _ _ ?_; clear hK9)
     unfold wpList;refine hKq _ _ ?_
     go_meet
     exact ⟨rfl,L0⟩
  case rest =>
  obtain ⟨rfl,L⟩:=hcut
  obtain ⟨W9,hW9⟩:∃ y,y=wc:=⟨_,rfl⟩
  subst hW9;replace B0:=(B0.call L).take 0;clear L T GB GSm hsb o1 o2;go_upto_region 8 with (fail);rename_i K3 hK3;refine wp_region_lit ?_
  (refine wpList_plain rfl (fun K9 hK9=>?_); go_simp; refine hK9 _ _ ?_; clear hK9)
  refine Ap rfl _ _ (by kernel_rfl) (Kw _ w'.heap.size s0 n0 c0 B0.below.size (hcode.keep B0.below)) ?_;rintro e W1 ⟨va,vb,rfl,⟨d,d',p,N,O1,O2,hp,hN⟩,L⟩;refine ⟨_,rfl,?_⟩
  have T:Pg W1 W1.heap.size (fun W=>Bu W p N va d∧Bu W p N vb d'):=⟨Nat.le_refl _,(Bu.stays.and Bu.stays).mono (Nat.zero_le _) hN,⟨O1,O2⟩⟩
  replace B0:=B0.call L;obtain ⟨ca,rfl,hca,o1⟩:=O1.agg;obtain ⟨cb,rfl,hcb,o2⟩:=O2.agg;clear O1 O2 L hp hN hcode
  iterate 5 (refine wpList_plain rfl (fun K9 hK9=>?_); go_simp; refine hK9 _ _ ?_; clear hK9)
  have LA:Below W1.heap.size W1 ((W1.alloc (.cells zR 44)).alloc (.cells zR 44)):=((Below.refl _ _).alloc (Nat.le_refl _) _).alloc (by simp) _;replace B0:=(B0.alloc zR 44 W1.heap.size rfl).alloc zR 44 (W1.heap.size+1) (by simp);replace T:=T.call LA;clear LA;generalize W1.heap.size=bl at *;generalize (W1.alloc (.cells zR 44)).alloc (.cells zR 44)=W2 at *;refine wpList_store_row rfl _ _ _ rfl bl ca rfl rfl _ _ (B0.ret 0 rfl) (infoAt Ae hca) (hca.symm) o1 ?_;replace T:=T.row (B0.ret 0 rfl) (Nat.le_refl _) ca;replace B0:=B0.row 0 rfl ca;generalize W2.setRow bl ca=W3 at *;refine wpList_store_row rfl _ _ _ rfl (bl+1) cb rfl rfl _ _ (B0.ret 1 rfl) (infoAt Ae hcb) (hcb.symm) o2 ?_;replace T:=T.row (B0.ret 1 rfl) (by omega) cb;replace B0:=B0.row 1 rfl cb;generalize W3.setRow (bl+1) cb=W4 at *;refine hK3 _ _ ?_;clear hK3
  try simp only [Act.put,List.setIfInBounds_toArray,List.set_cons_succ,List.set_cons_zero]
  have HS:=Ad (fun W E E' h h'=>Fy W E E' (.agg ca) (.agg cb) d d' h h');have HS':=Ad (fun W E E' h h'=>Fy W E E' (.agg cb) (.agg ca) d' d h h');have GSm:=Ad (fun W E E' h h'=>M9 W E E' (.agg ca) (.agg cb) d d' h h');rw [Qn d' d] at HS';generalize lockB d d'=sb at *;go_upto_region 9 with (fail);rename_i K3 hK3;refine wp_region_lit ?_;refine wpList_load_row rfl _ _ rfl (bl) rfl _ _ _ _ (B0.ret 0 rfl) Tryz.underlying44 rfl (infoAt Ae hca) ?_;refine wpList_load_row rfl _ _ rfl (bl+1) rfl _ _ _ _ (B0.ret 1 rfl) Tryz.underlying44 rfl (infoAt Ae hcb) ?_;obtain ⟨E1,h1,-⟩:=T.h.1;obtain ⟨E2,h2,-⟩:=T.h.2;refine Ap rfl _ _ (by kernel_rfl) (HS.out _ _ _ h1 h2) ?_;rintro e W5 ⟨rfl,L⟩;refine ⟨_,rfl,?_⟩;replace B0:=B0.call L;replace T:=T.call L;clear L h1 h2
  (refine wpList_plain rfl (fun K9 hK9=>?_); go_simp; refine hK9 _ _ ?_; clear hK9)
  refine hK3 _ _ ?_;clear hK3;clear HS
  try simp only [Act.put,List.setIfInBounds_toArray,List.set_cons_succ,List.set_cons_zero]
  go_upto_region 10 with (fail);rename_i K3 hK3;refine wp_region_lit ?_
  (refine wpList_plain rfl (fun K9 hK9=>?_); go_simp; refine hK9 _ _ ?_; clear hK9)
  refine wpList_load_row rfl _ _ rfl (bl) rfl _ _ _ _ (B0.ret 0 rfl) Tryz.underlying44 rfl (infoAt Ae hca) ?_;refine wpList_load_row rfl _ _ rfl (bl+1) rfl _ _ _ _ (B0.ret 1 rfl) Tryz.underlying44 rfl (infoAt Ae hcb) ?_;obtain ⟨E1,h1,-⟩:=T.h.1;obtain ⟨E2,h2,-⟩:=T.h.2;refine Ap rfl _ _ (by kernel_rfl) (GSm.out _ _ _ h1 h2) ?_;rintro e W6 ⟨rfl,L⟩;refine ⟨_,rfl,?_⟩;replace B0:=B0.call L;replace T:=T.call L;clear L h1 h2
  iterate 3 (refine wpList_step (fun K9 hK9=>?_); rw [if_pos (by kernel_rfl)]; go_simp; refine hK9 _ _ ?_; clear hK9)
  refine Az (by kernel_rfl) _ _ rfl (bl+1) rfl _ _ _ _ (B0.ret 1 rfl) Tryz.underlying44 rfl (infoAt Ae hcb) ?_;refine Az (by kernel_rfl) _ _ rfl (bl) rfl _ _ _ _ (B0.ret 0 rfl) Tryz.underlying44 rfl (infoAt Ae hca) ?_;obtain ⟨E1,h1,-⟩:=T.h.1;obtain ⟨E2,h2,-⟩:=T.h.2;refine Ci (by kernel_rfl) _ _ (by kernel_rfl) (HS'.out _ _ _ h2 h1) ?_;rintro e W7 ⟨rfl,L⟩;refine ⟨_,rfl,?_⟩;replace B0:=B0.call L;replace T:=T.call L;clear L h1 h2
  iterate 3 (refine wpList_step (fun K9 hK9=>?_); rw [if_pos (by kernel_rfl)]; go_simp; refine hK9 _ _ ?_; clear hK9)
  refine Az (by kernel_rfl) _ _ rfl (bl) rfl _ _ _ _ (B0.ret 0 rfl) Tryz.underlying44 rfl (infoAt Ae hca) ?_;refine Az (by kernel_rfl) _ _ rfl (bl) rfl _ _ _ _ (B0.ret 0 rfl) Tryz.underlying44 rfl (infoAt Ae hca) ?_;obtain ⟨E1,h1,-⟩:=T.h.1;refine Ci (by kernel_rfl) _ _ (by kernel_rfl) (Fy _ E1 E1 _ _ d d h1 h1) ?_;rintro e W11 ⟨rfl,L⟩;refine ⟨_,rfl,?_⟩;rw [Kx];replace B0:=B0.call L;have CC:=B0.below;clear L h1 T B0
  iterate 2 (refine wpList_step (fun K9 hK9=>?_); rw [if_pos (by kernel_rfl)]; go_simp; refine hK9 _ _ ?_; clear hK9)
  refine hK3 _ _ ?_;clear hK3;go_wp2;go_ret;exact ⟨rfl,CC⟩
end Go.Proofs.YtfjieibndedngaaGreat
