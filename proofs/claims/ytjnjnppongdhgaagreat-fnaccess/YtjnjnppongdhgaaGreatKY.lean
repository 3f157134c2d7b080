import Derived.Test.YtjnjnppongdhgaaGreatP2
import Derived.Test.YtjnjnppongdhgaaGreatGQ
namespace Go.Proofs.YtjnjnppongdhgaaGreat
set_option maxHeartbeats 8000000
set_option maxRecDepth 40000
set_option linter.unusedVariables false
set_option linter.unusedSimpArgs false
open Go.ChangeShapes Go.WideShapes Go.ChangeAt Go.RowKit
section
variable {W:World} {lo N:Nat} {D:Nat→Nat→Prop} {u0 u1 u2 u3 u4 ov:Value} {gb cp:Nat→Nat} {g6 c6 g7 c7:Nat} {d:Ao}
theorem Az.mem (H:Az W lo N D u0 u1 u2 u3 u4 ov gb cp g6 c6 g7 c7 d) {p q:Nat} {w2:Value} {bank:Int} {nr:Nat} {g:Nat→Int} (hM:Bn W (fun b=>p≤b∧b<q) (.agg #[w2,.i bank]) nr g bank) (hp:N≤p) (hl:lo≤N) (hpq:p≤q) (hq:q≤W.heap.size) :
  Az W lo q (fun i b=>(i=2∧p≤b∧b<q)∨(i≠2∧D i b)) u0 u1 w2 u3 u4 ov gb cp g6 c6 g7 c7 { d with nr:=nr,g:=g,bank:=bank }:=by
 have nN:=H.nN;refine ⟨H.h0.mono (fun b _ h=>Or.inr ⟨by decide,h⟩),H.h1.mono (fun b _ h=>Or.inr ⟨by decide,h⟩),hM.mono (fun b _ h=>Or.inl ⟨rfl,h⟩),H.h3.mono (fun b _ h=>Or.inr ⟨by decide,h⟩),H.h4,fun b h=>Or.inr ⟨by decide,H.h4D b h⟩,H.h6,?_,H.h7,?_,?_,?_,by have:=H.n6; omega,by have:=H.n7; omega,hq,H.hps⟩
 ·rcases H.h6D with h | h
  ·exact Or.inl (Or.inr ⟨by decide,h⟩)
  ·exact Or.inr h
 ·rcases H.h7D with h | h
  ·exact Or.inl (Or.inr ⟨by decide,h⟩)
  ·exact Or.inr h
 ·intro i j b h1 h2
  rcases h1 with ⟨rfl,_,_⟩ | ⟨n1,h1⟩ <;> rcases h2 with ⟨rfl,_,_⟩ | ⟨n2,h2⟩
  ·rfl
  ·have:=H.bd _ _ h2; omega
  ·have:=H.bd _ _ h1; omega
  ·exact H.dis _ _ _ h1 h2
 ·intro i b h
  rcases h with ⟨rfl,_,_⟩ | ⟨_,h⟩
  ·omega
  ·have:=H.bd _ _ h; omega
end
def A6 (d:Ao) (a y:Int):Ao :=
 if rgN (a%65536)=2 then { d with c:=Hz true (rgP (a%65536)) y d.c,s:=Ia true (rgP (a%65536)) y d.s,ad:=Ib true (rgP (a%65536)) y d.ad,pl:=Ic true (rgP (a%65536)) y d.pl,tb:=I6 true (rgP (a%65536)) y d.ad d.tb } else if rgN (a%65536)=3 then { d with P:=Hn true d.P (rgP (a%65536)) y,L:=Ho true d.L (rgP (a%65536)) y,Q:=Im true d.Q (rgP (a%65536)) y,R:=Io true d.R (rgP (a%65536)) y } else if rgN (a%65536)=4 then { d with hd:=Ew y,sh:=Dm d.hd d.sh d.np d.p d.t y } else { d with g:=Du true d.g (a%65536) y,bank:=Et true d.m d.bank (a%65536) y }
theorem Ww (w:World) (lo:Nat) (v:Value) (d:Ao) (a y:Int) (H:Bt w lo v d) (hlo:lo≤w.heap.size) (hok:okLock d=true):Calls Tryz.prog 37 #[v,.i a,.i y] w fun e w'=>∃ v',e=.returned v'∧Bt w' lo v' (A6 d a y)∧Below lo w w':=by
 obtain ⟨okp,okm,oku,oka,oks⟩:=De hok;obtain ⟨D,u0,u1,u2,u3,u4,ov,gb,cp,g6,c6,g7,c7,rfl,HP0⟩:=Az.of H;obtain ⟨x0,y0,rfl⟩:=HP0.h0.form;obtain ⟨x1,y1,rfl⟩:=HP0.h1.two;obtain ⟨x2,y2,e2⟩:=HP0.h2.two;simp only [Value.agg.injEq,Array.mk.injEq,List.cons.injEq,and_true] at e2;subst e2;obtain ⟨x3,y3,x4,y4,e3⟩:=HP0.h3.two;simp only [Value.agg.injEq,Array.mk.injEq,List.cons.injEq,and_true,true_and] at e3;obtain ⟨rfl,rfl⟩:=e3;obtain ⟨x5,y5,rfl⟩:=HP0.h4.form;have L0:Below w.heap.size w ((w.alloc (.cells (kR d (.slice x0 d.m y0) (.slice x1 d.np y1) (.slice x2 d.nr y2) (.slice x3 d.nt y3) (.slice x4 d.nd y4) (.slice x5 d.mf y5) (.slice (some ⟨g6,0,none⟩) d.ns c6) (.slice (some ⟨g7,0,none⟩) d.nq c7)) 41)).alloc (.cells zR 41)):=((Below.refl _ _).alloc (Nat.le_refl _) _).alloc (by simp) _
 have B0:((w.alloc (.cells (kR d (.slice x0 d.m y0) (.slice x1 d.np y1) (.slice x2 d.nr y2) (.slice x3 d.nt y3) (.slice x4 d.nd y4) (.slice x5 d.mf y5) (.slice (some ⟨g6,0,none⟩) d.ns c6) (.slice (some ⟨g7,0,none⟩) d.nq c7)) 41)).alloc (.cells zR 41)).heap[w.heap.size]?=some (.cells (kR d (.slice x0 d.m y0) (.slice x1 d.np y1) (.slice x2 d.nr y2) (.slice x3 d.nt y3) (.slice x4 d.nd y4) (.slice x5 d.mf y5) (.slice (some ⟨g6,0,none⟩) d.ns c6) (.slice (some ⟨g7,0,none⟩) d.nq c7)) 41 (0,0)):=A4 (Al w _ _) _
 have B1:((w.alloc (.cells (kR d (.slice x0 d.m y0) (.slice x1 d.np y1) (.slice x2 d.nr y2) (.slice x3 d.nt y3) (.slice x4 d.nd y4) (.slice x5 d.mf y5) (.slice (some ⟨g6,0,none⟩) d.ns c6) (.slice (some ⟨g7,0,none⟩) d.nq c7)) 41)).alloc (.cells zR 41)).heap[w.heap.size+1]?=some (.cells zR 41 (0,0)):=by simpa using Al (w.alloc (.cells (kR d (.slice x0 d.m y0) (.slice x1 d.np y1) (.slice x2 d.nr y2) (.slice x3 d.nt y3) (.slice x4 d.nd y4) (.slice x5 d.mf y5) (.slice (some ⟨g6,0,none⟩) d.ns c6) (.slice (some ⟨g7,0,none⟩) d.nq c7)) 41)) zR 41
 have HQ:=HP0.below L0;have bd0:=HP0.bd;have n60:=HP0.n6;have n70:=HP0.n7;clear HP0 H
 obtain ⟨rg,hrg⟩:∃ x,Hid (x=rgN (a%65536)):=⟨_,rfl⟩
 obtain ⟨at',hat⟩:∃ x,Hid (x=rgP (a%65536)):=⟨_,rfl⟩
 have HG:=Ac (fun W=>Dx W a);rw [← hrg.out,← hat.out] at HG
 by_cases r2:rg=2
 ·have HV:Hid (A6 d a y={ d with c:=Hz true at' y d.c,s:=Ia true at' y d.s,ad:=Ib true at' y d.ad,pl:=Ic true at' y d.pl,tb:=I6 true at' y d.ad d.tb }):=by
   have e:rgN (a%65536)=2:=by rw [← hrg.out]; exact r2
   show _=_
   unfold A6;simp only [e,if_true]
   first | done | (rw [← hat.out]; done) | rw [← hat.out]
  rw [HV.out];subst r2;clear HV hrg
  obtain ⟨c',hc'⟩:∃ x,Hid (x=Hz true at' y d.c):=⟨_,rfl⟩
  obtain ⟨s',hs'⟩:∃ x,Hid (x=Ia true at' y d.s):=⟨_,rfl⟩
  obtain ⟨ad',had'⟩:∃ x,Hid (x=Ib true at' y d.ad):=⟨_,rfl⟩
  obtain ⟨pl',hpl'⟩:∃ x,Hid (x=Ic true at' y d.pl):=⟨_,rfl⟩
  obtain ⟨tb',htb'⟩:∃ x,Hid (x=I6 true at' y d.ad d.tb):=⟨_,rfl⟩
  have HP:=Ac (fun W E v h=>Gq W E v d.t d.c d.s d.ad d.pl d.bl d.nt d.tb d.nd d.dt h at' y);rw [oku,← hc'.out,← hs'.out,← had'.out,← hpl'.out,← htb'.out] at HP;rw [← hc'.out,← hs'.out,← had'.out,← hpl'.out,← htb'.out];clear hc' hs' had' hpl' htb' hat
  go_enter Tryz.func37,Tryz.ntmps37
  go_wp2_with fail;generalize (w.alloc (.cells (kR d (.slice x0 d.m y0) (.slice x1 d.np y1) (.slice x2 d.nr y2) (.slice x3 d.nt y3) (.slice x4 d.nd y4) (.slice x5 d.mf y5) (.slice (some ⟨g6,0,none⟩) d.ns c6) (.slice (some ⟨g7,0,none⟩) d.nq c7)) 41)).alloc (.cells zR 41)=W0 at *;refine (HG.out _).mono ?_;rintro e W1 ⟨rfl,rfl⟩;have c0':=Aj B0;go_wp2_with fail;clear c0';refine (HP.out _ _ _ HQ.h3).mono ?_;rintro e W2 ⟨v',rfl,P3,L⟩;clear HP;have l12:=L.size;have hb1:=Ae B1;replace HQ:=HQ.below L;replace L0:=Ah L0 L;replace B0:=Aa B0 L (Ae B0);replace B1:=Aa B1 L (Ae B1);obtain ⟨x3',y3',x4',y4',rfl⟩:=P3.two;replace P3:=P3.mono (E:=fun b=>W1.heap.size≤b∧b<W2.heap.size) (fun b hb h=>⟨h,hb⟩);replace HQ:=HQ.ppu P3 (by omega) hlo l12 (Nat.le_refl _);clear P3;clear L;have c0':=Aj B0;have f0':=Ar B0
  go_upto_region 10 with (fail);clear c0' f0';rename_i K2 hK2
  have TT:=Wrote.setCell (b:=w.heap.size) (o:=19) (R:=fun b _=>b=w.heap.size) (Wrote.setCell (b:=w.heap.size) (o:=18) (R:=fun b _=>b=w.heap.size) (Wrote.setCell (b:=w.heap.size) (o:=17) (R:=fun b _=>b=w.heap.size) (Wrote.setCell (b:=w.heap.size) (o:=16) (R:=fun b _=>b=w.heap.size) (Wrote.setCell (b:=w.heap.size) (o:=15) (R:=fun b _=>b=w.heap.size) (Wrote.setCell (b:=w.heap.size) (o:=14) (R:=fun b _=>b=w.heap.size) (Wrote.setCell (b:=w.heap.size) (o:=13) (R:=fun b _=>b=w.heap.size) (Wrote.setCell (b:=w.heap.size) (o:=12) (R:=fun b _=>b=w.heap.size) (Wrote.refl _ W2) (fun _=>rfl) (.i d.t)) (fun _=>rfl) (.i c')) (fun _=>rfl) (.i s')) (fun _=>rfl) (.i ad')) (fun _=>rfl) (.i pl')) (fun _=>rfl) (.bool d.bl)) (fun _=>rfl) (.slice x3' d.nt y3')) (fun _=>rfl) (.slice x4' d.nd y4')
  replace B1:=Ag B1 TT (fun o (h:_=_)=>by omega);replace B0:=Ai (o:=12) B0 (.i d.t);replace B0:=Ai (o:=13) B0 (.i c');replace B0:=Ai (o:=14) B0 (.i s');replace B0:=Ai (o:=15) B0 (.i ad');replace B0:=Ai (o:=16) B0 (.i pl');replace B0:=Ai (o:=17) B0 (.bool d.bl);replace B0:=Ai (o:=18) B0 (.slice x3' d.nt y3');replace B0:=Ai (o:=19) B0 (.slice x4' d.nd y4');simp only [List.setIfInBounds_toArray,List.set_cons_succ,List.set_cons_zero] at B0;replace HQ:=HQ.keepD TT (fun i b o h (e:b=_)=>by rcases h with ⟨-,h1,h2⟩ | ⟨-,h⟩; (omega); (have:=bd0 _ _ h; omega)) (fun o (e:_=_)=>by omega) (fun o (e:_=_)=>by omega);replace L0:=L0.trans (TT.below L0.size (fun b o hb (h:b=_)=>by omega));clear TT
  generalize (((((((W2.setCell ⟨w.heap.size,12,none⟩ (.i d.t)).setCell ⟨w.heap.size,13,none⟩ (.i c')).setCell ⟨w.heap.size,14,none⟩ (.i s')).setCell ⟨w.heap.size,15,none⟩ (.i ad')).setCell ⟨w.heap.size,16,none⟩ (.i pl')).setCell ⟨w.heap.size,17,none⟩ (.bool d.bl)).setCell ⟨w.heap.size,18,none⟩ (.slice x3' d.nt y3')).setCell ⟨w.heap.size,19,none⟩ (.slice x4' d.nd y4')=W3 at *;refine wp_region_lit ?_;refine wpList_load_row rfl _ _ rfl w.heap.size rfl _ _ _ _ B0 Tryz.underlying41 rfl Af ?_;refine wpList_store_row rfl _ _ _ rfl (w.heap.size+1) _ rfl rfl _ _ B1 Af rfl (by first | kernel_rfl | simp [Value.oneCell']) ?_
  have B3:=setRow_heap _ _ _ (kR { d with c:=c',s:=s',ad:=ad',pl:=pl' } (.slice x0 d.m y0) (.slice x1 d.np y1) (.slice x2 d.nr y2) (.slice x3' d.nt y3') (.slice x4' d.nd y4') (.slice x5 d.mf y5) (.slice (some ⟨g6,0,none⟩) d.ns c6) (.slice (some ⟨g7,0,none⟩) d.nq c7)) _ _ B1;have WW:=An B1 (kR { d with c:=c',s:=s',ad:=ad',pl:=pl' } (.slice x0 d.m y0) (.slice x1 d.np y1) (.slice x2 d.nr y2) (.slice x3' d.nt y3') (.slice x4' d.nd y4') (.slice x5 d.mf y5) (.slice (some ⟨g6,0,none⟩) d.ns c6) (.slice (some ⟨g7,0,none⟩) d.nq c7));generalize W3.setRow (w.heap.size+1) (kR { d with c:=c',s:=s',ad:=ad',pl:=pl' } (.slice x0 d.m y0) (.slice x1 d.np y1) (.slice x2 d.nr y2) (.slice x3' d.nt y3') (.slice x4' d.nd y4') (.slice x5 d.mf y5) (.slice (some ⟨g6,0,none⟩) d.ns c6) (.slice (some ⟨g7,0,none⟩) d.nq c7))=W4 at *;refine hK2 _ _ ?_
  have HF:=Ac (HQ.keepD WW (fun i b o h (e:b=_)=>by rcases h with ⟨-,h1,h2⟩ | ⟨-,h⟩; (omega); (have:=bd0 _ _ h; omega)) (fun o (e:_=_)=>by omega) (fun o (e:_=_)=>by omega));have LF:=Ac ((L0.trans (WW.below L0.size (fun b o hb (e:b=_)=>by omega))).mono hlo);clear HQ WW B0 B1 L0;go_wp2;refine bodyPost_ret (v:=.agg (kR { d with c:=c',s:=s',ad:=ad',pl:=pl' } (.slice x0 d.m y0) (.slice x1 d.np y1) (.slice x2 d.nr y2) (.slice x3' d.nt y3') (.slice x4' d.nd y4') (.slice x5 d.mf y5) (.slice (some ⟨g6,0,none⟩) d.ns c6) (.slice (some ⟨g7,0,none⟩) d.nq c7))) (results_cell_row Tryz.results37 _ _ (w.heap.size+1) _ _ _ _ rfl B3 Tryz.underlying41 rfl Af) rfl ?_;exact ⟨_,rfl,HF.out.ow,LF.out⟩
 by_cases r3:rg=3
 ·have HV:Hid (A6 d a y={ d with P:=Hn true d.P at' y,L:=Ho true d.L at' y,Q:=Im true d.Q at' y,R:=Io true d.R at' y }):=by
   have e:rgN (a%65536)=3:=by rw [← hrg.out]; exact r3
   show _=_
   unfold A6;simp only [e,if_true,show ¬ ((3:Int)=2) by decide,if_false]
   first | done | (rw [← hat.out]; done) | rw [← hat.out]
  rw [HV.out];subst r3;clear HV hrg
  obtain ⟨p',hp'⟩:∃ x,Hid (x=Hn true d.P at' y):=⟨_,rfl⟩
  obtain ⟨l',hl'⟩:∃ x,Hid (x=Ho true d.L at' y):=⟨_,rfl⟩
  obtain ⟨q',hq'⟩:∃ x,Hid (x=Im true d.Q at' y):=⟨_,rfl⟩
  obtain ⟨r',hr'⟩:∃ x,Hid (x=Io true d.R at' y):=⟨_,rfl⟩
  have HP:=Ac (fun W (_:Az W lo w.heap.size D (.slice x0 d.m y0) (.slice x1 d.np y1) (.slice x2 d.nr y2) (.slice x3 d.nt y3) (.slice x4 d.nd y4) (.slice x5 d.mf y5) gb cp g6 c6 g7 c7 d)=>I7 W d.T d.P d.K d.B d.L d.Q d.R at' y);rw [oka,← hp'.out,← hl'.out,← hq'.out,← hr'.out] at HP;rw [← hp'.out,← hl'.out,← hq'.out,← hr'.out];clear hp' hl' hq' hr' hat
  go_enter Tryz.func37,Tryz.ntmps37
  go_wp2_with fail;generalize (w.alloc (.cells (kR d (.slice x0 d.m y0) (.slice x1 d.np y1) (.slice x2 d.nr y2) (.slice x3 d.nt y3) (.slice x4 d.nd y4) (.slice x5 d.mf y5) (.slice (some ⟨g6,0,none⟩) d.ns c6) (.slice (some ⟨g7,0,none⟩) d.nq c7)) 41)).alloc (.cells zR 41)=W0 at *;refine (HG.out _).mono ?_;rintro e W1 ⟨rfl,rfl⟩;have c0':=Aj B0;go_wp2_with fail;clear c0';refine (HP.out _ HQ).mono ?_;rintro e W2 ⟨rfl,L⟩;clear HP;have l12:=L.size;have hb1:=Ae B1;replace HQ:=HQ.below L;replace L0:=Ah L0 L;replace B0:=Aa B0 L (Ae B0);replace B1:=Aa B1 L (Ae B1)
  replace HQ:Az W2 lo w.heap.size D (.slice x0 d.m y0) (.slice x1 d.np y1) (.slice x2 d.nr y2) (.slice x3 d.nt y3) (.slice x4 d.nd y4) (.slice x5 d.mf y5) gb cp g6 c6 g7 c7 { d with P:=p',L:=l',Q:=q',R:=r' }:=⟨HQ.h0,HQ.h1,HQ.h2,HQ.h3,HQ.h4,HQ.h4D,HQ.h6,HQ.h6D,HQ.h7,HQ.h7D,HQ.dis,HQ.bd,HQ.n6,HQ.n7,HQ.nN,HQ.hps⟩
  clear L;have c0':=Aj B0;have f0':=Ar B0;go_upto_region 10 with (fail);clear c0' f0';rename_i K2 hK2;have TT:=Wrote.setCell (b:=w.heap.size) (o:=26) (R:=fun b _=>b=w.heap.size) (Wrote.setCell (b:=w.heap.size) (o:=25) (R:=fun b _=>b=w.heap.size) (Wrote.setCell (b:=w.heap.size) (o:=24) (R:=fun b _=>b=w.heap.size) (Wrote.setCell (b:=w.heap.size) (o:=23) (R:=fun b _=>b=w.heap.size) (Wrote.setCell (b:=w.heap.size) (o:=22) (R:=fun b _=>b=w.heap.size) (Wrote.setCell (b:=w.heap.size) (o:=21) (R:=fun b _=>b=w.heap.size) (Wrote.setCell (b:=w.heap.size) (o:=20) (R:=fun b _=>b=w.heap.size) (Wrote.refl _ W2) (fun _=>rfl) (.i d.T)) (fun _=>rfl) (.i p')) (fun _=>rfl) (.i d.K)) (fun _=>rfl) (.i d.B)) (fun _=>rfl) (.i l')) (fun _=>rfl) (.bool q')) (fun _=>rfl) (.bool r')
  replace B1:=Ag B1 TT (fun o (h:_=_)=>by omega);replace B0:=Ai (o:=20) B0 (.i d.T);replace B0:=Ai (o:=21) B0 (.i p');replace B0:=Ai (o:=22) B0 (.i d.K);replace B0:=Ai (o:=23) B0 (.i d.B);replace B0:=Ai (o:=24) B0 (.i l');replace B0:=Ai (o:=25) B0 (.bool q');replace B0:=Ai (o:=26) B0 (.bool r');simp only [List.setIfInBounds_toArray,List.set_cons_succ,List.set_cons_zero] at B0;replace HQ:=HQ.keepD TT (fun i b o h (e:b=_)=>by have:=bd0 _ _ h; omega) (fun o (e:_=_)=>by omega) (fun o (e:_=_)=>by omega);replace L0:=L0.trans (TT.below L0.size (fun b o hb (h:b=_)=>by omega));clear TT
  generalize ((((((W2.setCell ⟨w.heap.size,20,none⟩ (.i d.T)).setCell ⟨w.heap.size,21,none⟩ (.i p')).setCell ⟨w.heap.size,22,none⟩ (.i d.K)).setCell ⟨w.heap.size,23,none⟩ (.i d.B)).setCell ⟨w.heap.size,24,none⟩ (.i l')).setCell ⟨w.heap.size,25,none⟩ (.bool q')).setCell ⟨w.heap.size,26,none⟩ (.bool r')=W3 at *;refine wp_region_lit ?_;refine wpList_load_row rfl _ _ rfl w.heap.size rfl _ _ _ _ B0 Tryz.underlying41 rfl Af ?_;refine wpList_store_row rfl _ _ _ rfl (w.heap.size+1) _ rfl rfl _ _ B1 Af rfl (by first | kernel_rfl | simp [Value.oneCell']) ?_;have B3:=setRow_heap _ _ _ (kR { d with P:=p',L:=l',Q:=q',R:=r' } (.slice x0 d.m y0) (.slice x1 d.np y1) (.slice x2 d.nr y2) (.slice x3 d.nt y3) (.slice x4 d.nd y4) (.slice x5 d.mf y5) (.slice (some ⟨g6,0,none⟩) d.ns c6) (.slice (some ⟨g7,0,none⟩) d.nq c7)) _ _ B1
  have WW:=An B1 (kR { d with P:=p',L:=l',Q:=q',R:=r' } (.slice x0 d.m y0) (.slice x1 d.np y1) (.slice x2 d.nr y2) (.slice x3 d.nt y3) (.slice x4 d.nd y4) (.slice x5 d.mf y5) (.slice (some ⟨g6,0,none⟩) d.ns c6) (.slice (some ⟨g7,0,none⟩) d.nq c7));generalize W3.setRow (w.heap.size+1) (kR { d with P:=p',L:=l',Q:=q',R:=r' } (.slice x0 d.m y0) (.slice x1 d.np y1) (.slice x2 d.nr y2) (.slice x3 d.nt y3) (.slice x4 d.nd y4) (.slice x5 d.mf y5) (.slice (some ⟨g6,0,none⟩) d.ns c6) (.slice (some ⟨g7,0,none⟩) d.nq c7))=W4 at *;refine hK2 _ _ ?_;have HF:=Ac (HQ.keepD WW (fun i b o h (e:b=_)=>by have:=bd0 _ _ h; omega) (fun o (e:_=_)=>by omega) (fun o (e:_=_)=>by omega));have LF:=Ac ((L0.trans (WW.below L0.size (fun b o hb (e:b=_)=>by omega))).mono hlo);clear HQ WW B0 B1 L0;go_wp2
  refine bodyPost_ret (v:=.agg (kR { d with P:=p',L:=l',Q:=q',R:=r' } (.slice x0 d.m y0) (.slice x1 d.np y1) (.slice x2 d.nr y2) (.slice x3 d.nt y3) (.slice x4 d.nd y4) (.slice x5 d.mf y5) (.slice (some ⟨g6,0,none⟩) d.ns c6) (.slice (some ⟨g7,0,none⟩) d.nq c7))) (results_cell_row Tryz.results37 _ _ (w.heap.size+1) _ _ _ _ rfl B3 Tryz.underlying41 rfl Af) rfl ?_;exact ⟨_,rfl,HF.out.ow,LF.out⟩
 by_cases r4:rg=4
 ·have HV:Hid (A6 d a y={ d with hd:=Ew y,sh:=Dm d.hd d.sh d.np d.p d.t y }):=by
   have e:rgN (a%65536)=4:=by rw [← hrg.out]; exact r4
   show _=_
   unfold A6;simp only [e,if_true,show ¬ ((4:Int)=2) by decide,if_false,show ¬ ((4:Int)=3) by decide,if_false]
   first | done | (rw [← hat.out]; done) | rw [← hat.out]
  rw [HV.out];subst r4;clear HV hrg
  obtain ⟨h',hh'⟩:∃ x,Hid (x=Ew y):=⟨_,rfl⟩
  obtain ⟨s',hs'⟩:∃ x,Hid (x=Dm d.hd d.sh d.np d.p d.t y):=⟨_,rfl⟩
  have HP:=Ac (fun W (h:Az W lo w.heap.size D (.slice x0 d.m y0) (.slice x1 d.np y1) (.slice x2 d.nr y2) (.slice x3 d.nt y3) (.slice x4 d.nd y4) (.slice x5 d.mf y5) gb cp g6 c6 g7 c7 d)=>Ja W (On (D 1)) d.hd d.sh (.slice x1 d.np y1) d.np d.p d.t y (by have:=(Cu oku).2; omega) (by obtain ⟨aa,cc,e,hs⟩:=h.h1; rw [e]; exact hs.ints cc));rw [← hh'.out,← hs'.out] at HP;rw [← hh'.out,← hs'.out];clear hh' hs' hat
  go_enter Tryz.func37,Tryz.ntmps37
  go_wp2_with fail;generalize (w.alloc (.cells (kR d (.slice x0 d.m y0) (.slice x1 d.np y1) (.slice x2 d.nr y2) (.slice x3 d.nt y3) (.slice x4 d.nd y4) (.slice x5 d.mf y5) (.slice (some ⟨g6,0,none⟩) d.ns c6) (.slice (some ⟨g7,0,none⟩) d.nq c7)) 41)).alloc (.cells zR 41)=W0 at *;refine (HG.out _).mono ?_;rintro e W1 ⟨rfl,rfl⟩;have c0':=Aj B0;go_wp2_with fail;clear c0';refine (HP.out _ HQ).mono ?_;rintro e W2 ⟨rfl,L⟩;clear HP;have l12:=L.size;have hb1:=Ae B1;replace HQ:=HQ.below L;replace L0:=Ah L0 L;replace B0:=Aa B0 L (Ae B0);replace B1:=Aa B1 L (Ae B1)
  replace HQ:Az W2 lo w.heap.size D (.slice x0 d.m y0) (.slice x1 d.np y1) (.slice x2 d.nr y2) (.slice x3 d.nt y3) (.slice x4 d.nd y4) (.slice x5 d.mf y5) gb cp g6 c6 g7 c7 { d with hd:=h',sh:=s' }:=⟨HQ.h0,HQ.h1,HQ.h2,HQ.h3,HQ.h4,HQ.h4D,HQ.h6,HQ.h6D,HQ.h7,HQ.h7D,HQ.dis,HQ.bd,HQ.n6,HQ.n7,HQ.nN,HQ.hps⟩
  clear L;have c0':=Aj B0;have f0':=Ar B0;go_upto_region 10 with (fail);clear c0' f0';rename_i K2 hK2;have TT:=Wrote.setCell (b:=w.heap.size) (o:=28) (R:=fun b _=>b=w.heap.size) (Wrote.setCell (b:=w.heap.size) (o:=27) (R:=fun b _=>b=w.heap.size) (Wrote.refl _ W2) (fun _=>rfl) (.bool h')) (fun _=>rfl) (.i s');replace B1:=Ag B1 TT (fun o (h:_=_)=>by omega);replace B0:=Ai (o:=27) B0 (.bool h');replace B0:=Ai (o:=28) B0 (.i s');simp only [List.setIfInBounds_toArray,List.set_cons_succ,List.set_cons_zero] at B0;replace HQ:=HQ.keepD TT (fun i b o h (e:b=_)=>by have:=bd0 _ _ h; omega) (fun o (e:_=_)=>by omega) (fun o (e:_=_)=>by omega);replace L0:=L0.trans (TT.below L0.size (fun b o hb (h:b=_)=>by omega));clear TT
  generalize (W2.setCell ⟨w.heap.size,27,none⟩ (.bool h')).setCell ⟨w.heap.size,28,none⟩ (.i s')=W3 at *;refine wp_region_lit ?_;refine wpList_load_row rfl _ _ rfl w.heap.size rfl _ _ _ _ B0 Tryz.underlying41 rfl Af ?_;refine wpList_store_row rfl _ _ _ rfl (w.heap.size+1) _ rfl rfl _ _ B1 Af rfl (by first | kernel_rfl | simp [Value.oneCell']) ?_;have B3:=setRow_heap _ _ _ (kR { d with hd:=h',sh:=s' } (.slice x0 d.m y0) (.slice x1 d.np y1) (.slice x2 d.nr y2) (.slice x3 d.nt y3) (.slice x4 d.nd y4) (.slice x5 d.mf y5) (.slice (some ⟨g6,0,none⟩) d.ns c6) (.slice (some ⟨g7,0,none⟩) d.nq c7)) _ _ B1;have WW:=An B1 (kR { d with hd:=h',sh:=s' } (.slice x0 d.m y0) (.slice x1 d.np y1) (.slice x2 d.nr y2) (.slice x3 d.nt y3) (.slice x4 d.nd y4) (.slice x5 d.mf y5) (.slice (some ⟨g6,0,none⟩) d.ns c6) (.slice (some ⟨g7,0,none⟩) d.nq c7))
  generalize W3.setRow (w.heap.size+1) (kR { d with hd:=h',sh:=s' } (.slice x0 d.m y0) (.slice x1 d.np y1) (.slice x2 d.nr y2) (.slice x3 d.nt y3) (.slice x4 d.nd y4) (.slice x5 d.mf y5) (.slice (some ⟨g6,0,none⟩) d.ns c6) (.slice (some ⟨g7,0,none⟩) d.nq c7))=W4 at *;refine hK2 _ _ ?_;have HF:=Ac (HQ.keepD WW (fun i b o h (e:b=_)=>by have:=bd0 _ _ h; omega) (fun o (e:_=_)=>by omega) (fun o (e:_=_)=>by omega));have LF:=Ac ((L0.trans (WW.below L0.size (fun b o hb (e:b=_)=>by omega))).mono hlo);clear HQ WW B0 B1 L0;go_wp2
  refine bodyPost_ret (v:=.agg (kR { d with hd:=h',sh:=s' } (.slice x0 d.m y0) (.slice x1 d.np y1) (.slice x2 d.nr y2) (.slice x3 d.nt y3) (.slice x4 d.nd y4) (.slice x5 d.mf y5) (.slice (some ⟨g6,0,none⟩) d.ns c6) (.slice (some ⟨g7,0,none⟩) d.nq c7))) (results_cell_row Tryz.results37 _ _ (w.heap.size+1) _ _ _ _ rfl B3 Tryz.underlying41 rfl Af) rfl ?_;exact ⟨_,rfl,HF.out.ow,LF.out⟩
 have HV:Hid (A6 d a y={ d with g:=Du true d.g (a%65536) y,bank:=Et true d.m d.bank (a%65536) y }):=by
  have e2:¬ rgN (a%65536)=2:=by rw [← hrg.out]; exact r2
  have e3:¬ rgN (a%65536)=3:=by rw [← hrg.out]; exact r3
  have e4:¬ rgN (a%65536)=4:=by rw [← hrg.out]; exact r4
  show _=_
  unfold A6;rw [if_neg e2,if_neg e3,if_neg e4]
 have q2:(rg==2)=false:=beq_eq_false_iff_ne.2 r2;have q3:(rg==3)=false:=beq_eq_false_iff_ne.2 r3;have q4:(rg==4)=false:=beq_eq_false_iff_ne.2 r4;clear r2 r3 r4;rw [HV.out];clear HV hrg
 obtain ⟨g',hg'⟩:∃ x,Hid (x=Du true d.g (a%65536) y):=⟨_,rfl⟩
 obtain ⟨b',hb'⟩:∃ x,Hid (x=Et true d.m d.bank (a%65536) y):=⟨_,rfl⟩
 have HP:=Ac (fun W F G v u h k=>P8 W F G v u d.m d.ln d.f d.nr d.g d.bank a y h k);rw [okm,← hg'.out,← hb'.out] at HP;rw [← hg'.out,← hb'.out];clear hg' hb' hat
 go_enter Tryz.func37,Tryz.ntmps37
 go_wp2_with fail;generalize (w.alloc (.cells (kR d (.slice x0 d.m y0) (.slice x1 d.np y1) (.slice x2 d.nr y2) (.slice x3 d.nt y3) (.slice x4 d.nd y4) (.slice x5 d.mf y5) (.slice (some ⟨g6,0,none⟩) d.ns c6) (.slice (some ⟨g7,0,none⟩) d.nq c7)) 41)).alloc (.cells zR 41)=W0 at *;refine (HG.out _).mono ?_;rintro e W1 ⟨rfl,rfl⟩;have c0':=Aj B0;go_wp2_with fail;clear c0';refine (HP.out _ _ _ _ _ HQ.h0.ints (by obtain ⟨_,e,I⟩:=HQ.h2.ints; simp only [Value.agg.injEq,Array.mk.injEq,List.cons.injEq,and_true] at e; rw [e]; exact I)).mono ?_;rintro e W2 ⟨z2,rfl,OI,L⟩;clear HP;have l12:=L.size;have hb1:=Ae B1;replace HQ:=HQ.below L;replace L0:=Ah L0 L;replace B0:=Aa B0 L (Ae B0);replace B1:=Aa B1 L (Ae B1);have P2:=(Bn.own (bank:=b') OI).mono (E:=fun b=>W1.heap.size≤b∧b<W2.heap.size) (fun b hb h=>⟨h,hb⟩);clear OI
 obtain ⟨x2',y2'',e2'⟩:=P2.two;simp only [Value.agg.injEq,Array.mk.injEq,List.cons.injEq,and_true] at e2';subst e2';replace HQ:=HQ.mem P2 (by omega) hlo l12 (Nat.le_refl _);clear P2;clear L;have c0':=Aj B0;have f0':=Ar B0;go_upto_region 10 with (fail);clear c0' f0';rename_i K2 hK2;have TT:=Wrote.setCell (b:=w.heap.size) (o:=3) (R:=fun b _=>b=w.heap.size) (Wrote.setCell (b:=w.heap.size) (o:=2) (R:=fun b _=>b=w.heap.size) (Wrote.refl _ W2) (fun _=>rfl) (.slice x2' d.nr y2'')) (fun _=>rfl) (.i b');replace B1:=Ag B1 TT (fun o (h:_=_)=>by omega);replace B0:=Ai (o:=2) B0 (.slice x2' d.nr y2'');replace B0:=Ai (o:=3) B0 (.i b');simp only [List.setIfInBounds_toArray,List.set_cons_succ,List.set_cons_zero] at B0
 replace HQ:=HQ.keepD TT (fun i b o h (e:b=_)=>by rcases h with ⟨-,h1,h2⟩ | ⟨-,h⟩; (omega); (have:=bd0 _ _ h; omega)) (fun o (e:_=_)=>by omega) (fun o (e:_=_)=>by omega);replace L0:=L0.trans (TT.below L0.size (fun b o hb (h:b=_)=>by omega));clear TT;generalize (W2.setCell ⟨w.heap.size,2,none⟩ (.slice x2' d.nr y2'')).setCell ⟨w.heap.size,3,none⟩ (.i b')=W3 at *;refine wp_region_lit ?_;refine wpList_load_row rfl _ _ rfl w.heap.size rfl _ _ _ _ B0 Tryz.underlying41 rfl Af ?_;refine wpList_store_row rfl _ _ _ rfl (w.heap.size+1) _ rfl rfl _ _ B1 Af rfl (by first | kernel_rfl | simp [Value.oneCell']) ?_
 have B3:=setRow_heap _ _ _ (kR { d with bank:=b' } (.slice x0 d.m y0) (.slice x1 d.np y1) (.slice x2' d.nr y2'') (.slice x3 d.nt y3) (.slice x4 d.nd y4) (.slice x5 d.mf y5) (.slice (some ⟨g6,0,none⟩) d.ns c6) (.slice (some ⟨g7,0,none⟩) d.nq c7)) _ _ B1;have WW:=An B1 (kR { d with bank:=b' } (.slice x0 d.m y0) (.slice x1 d.np y1) (.slice x2' d.nr y2'') (.slice x3 d.nt y3) (.slice x4 d.nd y4) (.slice x5 d.mf y5) (.slice (some ⟨g6,0,none⟩) d.ns c6) (.slice (some ⟨g7,0,none⟩) d.nq c7));generalize W3.setRow (w.heap.size+1) (kR { d with bank:=b' } (.slice x0 d.m y0) (.slice x1 d.np y1) (.slice x2' d.nr y2'') (.slice x3 d.nt y3) (.slice x4 d.nd y4) (.slice x5 d.mf y5) (.slice (some ⟨g6,0,none⟩) d.ns c6) (.slice (some ⟨g7,0,none⟩) d.nq c7))=W4 at *;refine hK2 _ _ ?_
 have HF:=Ac (HQ.keepD WW (fun i b o h (e:b=_)=>by rcases h with ⟨-,h1,h2⟩ | ⟨-,h⟩; (omega); (have:=bd0 _ _ h; omega)) (fun o (e:_=_)=>by omega) (fun o (e:_=_)=>by omega));have LF:=Ac ((L0.trans (WW.below L0.size (fun b o hb (e:b=_)=>by omega))).mono hlo);clear HQ WW B0 B1 L0;go_wp2;refine bodyPost_ret (v:=.agg (kR { d with bank:=b' } (.slice x0 d.m y0) (.slice x1 d.np y1) (.slice x2' d.nr y2'') (.slice x3 d.nt y3) (.slice x4 d.nd y4) (.slice x5 d.mf y5) (.slice (some ⟨g6,0,none⟩) d.ns c6) (.slice (some ⟨g7,0,none⟩) d.nq c7))) (results_cell_row Tryz.results37 _ _ (w.heap.size+1) _ _ _ _ rfl B3 Tryz.underlying41 rfl Af) rfl ?_;exact ⟨_,rfl,HF.out.ow,LF.out⟩
def Eg (f:Nat→Nat) (n x:Nat):Nat→Nat:=fun i=>if i=n then x else f i
def J2 (f:Nat→Nat→Int) (n:Nat) (x:Nat→Int):Nat→Nat→Int:=fun i=>if i=n then x else f i
def Cx (d:Ao):Ao:={ d with
 t:=Ke d.t,bl:=Ra d.t d.bl,nd:=tkM d.t d.nd,dt:=Qf d.t d.tb d.s d.pl d.nd d.dt
 T:=d.T+1,K:=Mn d.P d.K,B:=Ma d.K d.B d.L,L:=Mb d.T d.L,R:=Oo d.T d.L d.Q d.R
 nmi:=d.nmi || Uf d.t d.c
 mf:=if d.t%64=48 then d.mf+1 else d.mf
 lf:=if d.t%64=48 then Eg d.lf d.mf d.nd else d.lf
 fr:=if d.t%64=48 then J2 d.fr d.mf d.dt else d.fr
 ns:=if Ef d.T=true then d.ns+1 else d.ns
 sm:=if Ef d.T=true then snoc d.sm d.ns (Wq d.T d.K d.B d.L) else d.sm }
def tickN:Nat→Ao→Ao
 | 0,d=>d
 | k+1,d=>tickN k (Cx d)
theorem Lr (k:Nat) (d:Ao):tickN (k+1) d=Cx (tickN k d):=by
 induction k generalizing d with
 | zero=>rfl
 | succ k ih=>show tickN (k+1) (Cx d)=_; rw [ih]; rfl
def withSt (d:Ao) (s:Int):Ao:={ d with st:=s }
structure Hp (d:Ao):Prop where
 ppu:Hy d.t d.c d.s d.ad d.pl d.nt d.tb d.nd d.dt
 apu:Ig d.T d.P d.K d.B d.L
 same:d.t=d.T
 lf:∀ i,i<d.mf→d.lf i=48
 mf:(d.mf:Int)=Us d.t
 ns:(d.ns:Int)=d.t/16
theorem Hp.mfs {d:Ao} (h:Hp d):d.mf<1048576:=by
 have h0:=h.ppu.t0;have h1:=h.ppu.t1;have:=h.mf;unfold Us at this
 omega
theorem Hp.nss {d:Ao} (h:Hp d):d.ns<1048576:=by
 have h0:=h.ppu.t0;have h1:=h.ppu.t1;have:=h.ns
 omega
theorem Hp.nd48 {d:Ao} (h:Hp d) (h48:d.t%64=48):d.nd=48:=by
 have h1:=h.ppu.dots;unfold Dg at h1;rw [if_neg (by omega)] at h1
 omega
theorem Sc {T P C B L:Int} (h:Ig T P C B L) (hT:T≠20000):Ig (T+1) P (Mn P C) (Ma C B L) (Mb T L):=by
 obtain ⟨t0,t1,p0,p1,c0,c1,b0,b1,l0,l1⟩:=h;unfold Mn Ma Mb
 refine ⟨?_,?_,p0,p1,?_,?_,?_,?_,?_,?_⟩ <;> (try split) <;> omega
theorem Hp.tick {d:Ao} (h:Hp d) (ht:d.t≠20000):Hp (Cx d):=by
 have h0:=h.ppu.t0;have h1:=h.ppu.t1;have hs:=h.same;have e1:Ke d.t=d.t+1:=if_neg ht;have hf:=h.mf;have hn:=h.ns;unfold Us at hf;refine ⟨Rt h.ppu,Sc h.apu (by omega),?_,?_,?_,?_⟩
 ·show Ke d.t=d.T+1
  rw [e1,hs]
 ·intro i hi
  show (if d.t%64=48 then Eg d.lf d.mf d.nd else d.lf) i=48
  replace hi:i<(if d.t%64=48 then d.mf+1 else d.mf):=hi
  by_cases h48:d.t%64=48
  ·rw [if_pos h48] at hi ⊢
   unfold Eg
   by_cases e:i=d.mf
   ·rw [if_pos e]; exact h.nd48 h48
   ·rw [if_neg e]; exact h.lf i (by omega)
  ·rw [if_neg h48] at hi ⊢
   exact h.lf i hi
 ·show (((if d.t%64=48 then d.mf+1 else d.mf):Nat):Int)=Us (Ke d.t)
  rw [e1];unfold Us
  split <;> omega
 ·show (((if Ef d.T=true then d.ns+1 else d.ns):Nat):Int)=Ke d.t/16
  rw [e1];unfold Ef;simp only [decide_eq_true_eq]
  split <;> omega
structure Z9 (d:Ao):Prop where
 ok:okLock d=true
 t:Hp d
 img:E6 d.m d.ln d.f=true
 nr:d.nr=512
 bank:0≤d.bank∧d.bank≤(d.m:Int)-1
 row:∀ j,j<512→0≤d.g j∧d.g j≤255
 pads:C9 d.np d.p=true
 cpu:(0≤d.A∧d.A≤255)∧(0≤d.X∧d.X≤255)∧(0≤d.S∧d.S≤255)∧0≤d.Pc∧d.Pc≤65535
 sh:0≤d.sh∧d.sh≤255
 st:0≤d.st∧d.st≤d.t
theorem Sd {d:Ao} (h:okLock d=true):Z9 d:=by
 have h':=h;unfold okLock Hs at h';simp only [Bool.and_eq_true,beq_iff_eq,Co] at h';obtain ⟨p,m,⟨⟨⟨cA,cX⟩,cS⟩,cP⟩,u,a,sh,e,st,fr,ns⟩:=h';obtain ⟨mi,mn,mb,mr⟩:=Gk m;have hf:=of_decide_eq_true fr;exact ⟨h,⟨Fp u,Wr a,e,hf.1,hf.2,ns⟩,mi,mn,mb,mr,p,⟨cA,cX,cS,cP⟩,sh,st⟩
def Ec (d:Ao):Bh:=⟨d.A,d.X,d.S,d.Pc,d.Z,d.N,d.C,d.I⟩
def putCpu (d:Ao) (g:Nat→Int) (c:Bh):Ao:={ d with g:=g,A:=c.A,X:=c.X,S:=c.S,Pc:=c.Pc,Z:=c.Z,N:=c.N,C:=c.C,I:=c.I }
def entC (d:Ao) (vec:Int):Bh:=⟨d.A,d.X,dec8 (dec8 (dec8 d.S)),Oe d.m d.ln d.f (enterG d.g d.S d.Pc d.Z d.N d.C d.I) d.bank vec,d.Z,d.N,d.C,true⟩
def Xe (d:Ao) (vec:Int):Ao:=putCpu d (enterG d.g d.S d.Pc d.Z d.N d.C d.I) (entC d vec)
def opO (d:Ao):Int:=peekV d.m d.ln d.f d.nr d.g d.bank d.Pc
def opA (d:Ao):Int:=Kw (peekV d.m d.ln d.f d.nr d.g d.bank) d.Pc
def Dj (d:Ao) (op arg:Int):Ao:=if Dp op=1 then Bd d (I5 op arg d.X) else if Dp op=2 then A6 d (I5 op arg d.X) (Ud op d.A) else d
def Ls (d:Ao) (op arg:Int):Int:=if Dp op=1 then Bo d (I5 op arg d.X) else 0
def Xf (d:Ao) (op arg x:Int):Ao:=putCpu d (Gx d.g (Ec d) op) (E5 d.g (Ec d) op arg x)
def opD (d:Ao) (op arg:Int):Ao:=Xf (Dj d op arg) op arg (Ls d op arg)
def Xg (x:Int):Int:=if 0≤x∧x≤29 then Kp.getD x.toNat 2 else 2
def noNmi (d:Ao):Ao:={ d with nmi:=false }
def actD (d:Ao):Ao:=if d.nmi=true then Xe (noNmi d) 65530 else if (d.R && !d.I)=true then Xe d 65534 else opD d (opO d) (opA d)
def Fi (d:Ao):Int:=if d.nmi=true then 7 else if (d.R && !d.I)=true then 7 else Xg (opO d)
def Gz (d:Ao):Bool:=decide ((actD d).t+Fi d≤20000)
def Ns (d:Ao):Ao:=withSt (tickN (Fi d).toNat (actD d)) ((tickN (Fi d).toNat (actD d)).st+1)
theorem Yy (x:Int):0≤Xg x∧Xg x≤6:=by
 unfold Xg;split
 ·rename_i h
  have key:∀ k:Fin 30,0≤Kp.getD k.1 2∧Kp.getD k.1 2≤6:=by decide
  exact key ⟨x.toNat,by omega⟩
 ·omega
theorem Pd (d:Ao):0≤Fi d∧Fi d≤7:=by
 unfold Fi;have:=Yy (opO d)
 repeat' split
 all_goals omega
theorem Hp.put {d:Ao} (h:Hp d) (g:Nat→Int) (c:Bh):Hp (putCpu d g c):=⟨h.ppu,h.apu,h.same,h.lf,h.mf,h.ns⟩
theorem Hp.read {d:Ao} (h:Hp d) (a:Int):Hp (Bd d a):=by
 unfold Bd;split
 ·have ha:0≤J8 true (rgP (a%65536)) d.ad∧J8 true (rgP (a%65536)) d.ad≤15:=by unfold J8; split; omega; exact ⟨h.ppu.a0,h.ppu.a1⟩
  exact ⟨⟨h.ppu.t0,h.ppu.t1,h.ppu.c0,h.ppu.c1,h.ppu.s0,h.ppu.s1,ha.1,ha.2,h.ppu.p0,h.ppu.p1,h.ppu.n16,h.ppu.dots,h.ppu.tab,h.ppu.dot⟩,h.apu,h.same,h.lf,h.mf,h.ns⟩
 ·split
  ·exact ⟨h.ppu,h.apu,h.same,h.lf,h.mf,h.ns⟩
  ·split
   ·exact ⟨h.ppu,h.apu,h.same,h.lf,h.mf,h.ns⟩
   ·exact h
theorem Q1 {T P C B L:Int} (h:Ig T P C B L) (reg v:Int):Ig T (Hn true P reg v) C B (Ho true L reg v):=by
 obtain ⟨t0,t1,p0,p1,c0,c1,b0,b1,l0,l1⟩:=h;unfold Hn Ho
 refine ⟨t0,t1,?_,?_,c0,c1,b0,b1,?_,?_⟩ <;> split <;> omega
theorem Hp.write {d:Ao} (h:Hp d) (a y:Int):Hp (A6 d a y):=by
 unfold A6;split
 ·exact ⟨Qg h.ppu _ _,h.apu,h.same,h.lf,h.mf,h.ns⟩
 ·split
  ·exact ⟨h.ppu,Q1 h.apu _ _,h.same,h.lf,h.mf,h.ns⟩
  ·split
   ·exact ⟨h.ppu,h.apu,h.same,h.lf,h.mf,h.ns⟩
   ·exact ⟨h.ppu,h.apu,h.same,h.lf,h.mf,h.ns⟩
theorem Hp.reach {d:Ao} (h:Hp d) (op arg:Int):Hp (Dj d op arg):=by
 unfold Dj;split
 ·exact h.read _
 ·split
  ·exact h.write _ _
  ·exact h
theorem Hp.act {d:Ao} (h:Hp d):Hp (actD d):=by
 unfold actD;split
 ·exact Hp.put (d:=noNmi d) ⟨h.ppu,h.apu,h.same,h.lf,h.mf,h.ns⟩ _ _
 ·split
  ·exact h.put _ _
  ·exact (h.reach _ _).put _ _
theorem Se (d:Ao) (a:Int):(Bd d a).t=d.t∧(Bd d a).st=d.st∧(Bd d a).nr=d.nr∧(Bd d a).g=d.g∧(Bd d a).bank=d.bank∧Ec (Bd d a)=Ec d∧(Bd d a).nq≤d.nq+1:=by
 unfold Bd;split
 ·exact ⟨rfl,rfl,rfl,rfl,rfl,rfl,Nat.le_refl _⟩
 ·split
  ·exact ⟨rfl,rfl,rfl,rfl,rfl,rfl,Nat.le_refl _⟩
  ·split
   ·exact ⟨rfl,rfl,rfl,rfl,rfl,rfl,Nat.le_refl _⟩
   ·exact ⟨rfl,rfl,rfl,rfl,rfl,rfl,Nat.le_succ _⟩
theorem Xh {g:Nat→Int} (h:∀ j,j<512→0≤g j∧g j≤255) (ok:Bool) (a y:Int):∀ j,j<512→0≤Du ok g a y j∧Du ok g a y j≤255:=by
 intro j hj;have h1:=h j hj;unfold Du;split
 ·unfold Gf
  split <;> omega
 ·exact h1
theorem J3 (d:Ao) (a y:Int) (hr:∀ j,j<512→0≤d.g j∧d.g j≤255):(A6 d a y).t=d.t∧(A6 d a y).st=d.st∧(A6 d a y).nr=d.nr∧(∀ j,j<512→0≤(A6 d a y).g j∧(A6 d a y).g j≤255)∧Ec (A6 d a y)=Ec d∧(A6 d a y).nq=d.nq:=by
 unfold A6;split
 ·exact ⟨rfl,rfl,rfl,hr,rfl,rfl⟩
 ·split
  ·exact ⟨rfl,rfl,rfl,hr,rfl,rfl⟩
  ·split
   ·exact ⟨rfl,rfl,rfl,hr,rfl,rfl⟩
   ·exact ⟨rfl,rfl,rfl,Xh hr _ _ _,rfl,rfl⟩
theorem J4 (d:Ao) (op arg:Int) (hr:∀ j,j<512→0≤d.g j∧d.g j≤255):(Dj d op arg).t=d.t∧(Dj d op arg).st=d.st∧(Dj d op arg).nr=d.nr∧(∀ j,j<512→0≤(Dj d op arg).g j∧(Dj d op arg).g j≤255)∧Ec (Dj d op arg)=Ec d∧(Dj d op arg).nq≤d.nq+1:=by
 unfold Dj;split
 ·obtain ⟨h1,h2,h3,h4,h5,h6,h7⟩:=Se d (I5 op arg d.X)
  exact ⟨h1,h2,h3,by rw [h4]; exact hr,h6,h7⟩
 ·split
  ·obtain ⟨h1,h2,h3,h4,h5,h6⟩:=J3 d (I5 op arg d.X) (Ud op d.A) hr
   exact ⟨h1,h2,h3,h4,h5,by omega⟩
  ·exact ⟨rfl,rfl,rfl,hr,rfl,Nat.le_succ _⟩
theorem Nt (d:Ao) (hr:∀ j,j<512→0≤d.g j∧d.g j≤255):(actD d).t=d.t∧(actD d).st=d.st∧(actD d).nq≤d.nq+1:=by
 unfold actD;split
 ·exact ⟨rfl,rfl,Nat.le_succ _⟩
 ·split
  ·exact ⟨rfl,rfl,Nat.le_succ _⟩
  ·obtain ⟨h1,h2,h3,h4,h5,h6⟩:=J4 d (opO d) (opA d) hr
   exact ⟨h1,h2,h6⟩
theorem Td:∀ (k:Nat) (d:Ao),d.t+k≤20000→(tickN k d).t=d.t+k
 | 0,d,_=>by simp [tickN]
 | k+1,d,h=>by
  have e:(Cx d).t=d.t+1:=if_neg (by omega)
  show (tickN k (Cx d)).t=_
  rw [Td k (Cx d) (by rw [e]; omega),e]
  omega
theorem Hp.ticks:∀ (k:Nat) {d:Ao},Hp d→d.t+k≤20000→Hp (tickN k d)
 | 0,d,h,_=>h
 | k+1,d,h,hk=>by
  have e:(Cx d).t=d.t+1:=if_neg (by omega);exact Hp.ticks k (h.tick (by omega)) (by rw [e]; omega)
theorem V9 {cs:Array Value} {o:Nat} {v:Value} (h:cs[o]?=some v):∀ (j:Nat) (x:Value),#[v][j]?=some x→cs[o+j]?=some x:=fun j x hx=>by
 rcases j with _ | j
 ·exact h.trans hx
 ·simp at hx
theorem Ss {cs:Array Value} {o:Nat} {v0 v1:Value} (h0:cs[o]?=some v0) (h1:cs[o+1]?=some v1):∀ (j:Nat) (x:Value),#[v0,v1][j]?=some x→cs[o+j]?=some x:=fun j x hx=>by
 rcases j with _ | _ | j
 ·exact h0.trans hx
 ·exact h1.trans hx
 ·simp at hx
theorem P6 {cs:Array Value} {o:Nat} {v0 v1 v2 v3 v4 v5 v6 v7:Value} (h0:cs[o]?=some v0) (h1:cs[o+1]?=some v1) (h2:cs[o+2]?=some v2) (h3:cs[o+3]?=some v3) (h4:cs[o+4]?=some v4) (h5:cs[o+5]?=some v5) (h6:cs[o+6]?=some v6) (h7:cs[o+7]?=some v7):∀ (j:Nat) (x:Value),#[v0,v1,v2,v3,v4,v5,v6,v7][j]?=some x→cs[o+j]?=some x:=fun j x hx=>by
 rcases j with _ | _ | _ | _ | _ | _ | _ | _ | j
 ·exact h0.trans hx
 ·exact h1.trans hx
 ·exact h2.trans hx
 ·exact h3.trans hx
 ·exact h4.trans hx
 ·exact h5.trans hx
 ·exact h6.trans hx
 ·exact h7.trans hx
 ·simp at hx
theorem Ch {w:World} {g:Nat} {old:Array Value} {t:TypeId} (hg:w.heap[g]?=some (.cells old t (0,0))) (cs:Array Value):Wrote (fun b _=>b=g) w (w.setRow g cs) :=
 ⟨rfl,rfl,rfl,by simp [World.setRow],fun k hk hn=>setRow_other _ _ _ _ (fun e=>hn 0 e),fun b o hb hn=>cell_setRow_other _ _ _ _ hn,fun b o hb=>by
  by_cases e:b=g
  ·subst e
   rw [Ar (setRow_heap _ _ _ _ _ _ hg),Ar hg]
  ·simp [World.frozen?,setRow_other _ _ _ _ e]⟩
def zero34:Array Value:=zR
theorem G8:zero34.size=34:=rfl
def J5:Ao :=
 { m:=0,ln:=fun _=>0,f:=fun _ _=>0,np:=0,p:=fun _=>0,nr:=0,g:=fun _=>0,bank:=0,A:=0,X:=0,S:=0,Pc:=0,Z:=false,N:=false,C:=false,I:=false,t:=0,c:=0,s:=0,ad:=0,pl:=0,bl:=false,nt:=0,tb:=fun _=>0,nd:=0,dt:=fun _=>0,T:=0,P:=0,K:=0,B:=0,L:=0,Q:=false,R:=false,hd:=false,sh:=0,nmi:=false,st:=0,mf:=0,lf:=fun _=>0,fr:=fun _ _=>0,ns:=0,sm:=fun _=>0,nq:=0,rd:=fun _=>0 }
theorem Cg.noneL {W:World} {D:Nat→Prop} (f:Nat→Nat→Int):Cg W D (.slice none 0 0) 0 (fun _=>0) f :=
 ⟨fun _=>none,fun _=>0,⟨⟨none,0,rfl,by omega,fun i hi=>absurd hi (Nat.not_lt_zero _)⟩,fun i hi=>absurd hi (Nat.not_lt_zero _),fun i j hi=>absurd hi (Nat.not_lt_zero _),by simp [Cy]⟩,fun i hi=>absurd hi (Nat.not_lt_zero _),fun i hi=>absurd hi (Nat.not_lt_zero _),fun a cap e b o hF=>absurd hF (A0 _ _ _),fun i hi=>absurd hi (Nat.not_lt_zero _)⟩
theorem Q2 {W:World} {D:Nat→Nat→Prop}:As W D (.agg zR) J5 :=
 ⟨_,_,_,_,_,_,_,_,rfl,Cg.noneL _,⟨_,_,rfl,Bp.zero _ _⟩,⟨_,_,rfl,by show (0:Nat)≤_; omega,fun i hi=>absurd hi (Nat.not_lt_zero _),fun b o hF=>absurd hF (A0 _ _ _),fun b o hF=>absurd hF (A0 _ _ _)⟩,⟨_,_,_,_,rfl,Bp.zero _ _,Bp.zero _ _,fun b o h=>absurd h (A0 _ _ _)⟩,⟨_,_,_,rfl,Cg.noneL _,⟨_,_,rfl,Bp.zero _ _⟩,⟨_,_,rfl,Bp.zero _ _⟩⟩⟩
def Ii (d:Ao):Ao:=if okLock d=true then (if Gz d=true then Ns d else d) else J5
def stepQ (d:Ao):Bool:=okLock d && Gz d
def Y4 (ops:Array Oper) (n:Nat):Bool:=decide (ops.size=n+1) && ((ops[n]?).map fun o=>(List.range n).all fun j=>A1 o j).getD false
section
variable {P:Program} {ops:Array Oper} {Q:Exit→Act→World→Prop}
theorem Li {id:Nat} {a:Act} {w:World} (n:Nat) (ds:List (Option Nat)) (hm:P.follows .mixedOrders=true) (hb:Kq ops=true) (hg:Of ops=true) (hl:Y4 ops n=true) (hd:Ky ops ds=true) (hsz:∀ d,d∈slotsOf ds→d<a.tmps.size)
  (R:Nat→Nat→Nat→Prop) (φ:Nat→(Nat→Value)→Nat→Nat→World→Prop)
  (hstab:∀ i j o V x lo hi W W',i≠j→i<n→j<n→ops[i]?=some o→A1 o j=false→w.heap.size≤lo→hi≤W.heap.size→Wrote (R j) W W'→φ i V lo hi W→φ i (Ct V j x) lo hi W')
  (hstep:∀ i o a' W K,i<n→ops[i]?=some o→Fr (slotsOf ds) a a'→Wrote (fun b o'=>∃ j oj,j≠i∧ops[j]?=some oj∧A1 oj i=false∧R j b o') w W→(∀ j,A1 o j=true→∃ lo hi,w.heap.size≤lo∧hi≤W.heap.size∧φ j (Be ds a') lo hi W)→(∀ v W',Wrote (R i) W W'→φ i (Ct (Be ds a') i (if o.dst=none then undef else v)) W.heap.size W'.heap.size W'→K (a'.put o.dst v) W')→o.wp P a' W K Q)
  (hlast:∀ o a' W K,ops[n]?=some o→Fr (slotsOf ds) a a'→Wrote (fun b o=>∃ j,R j b o) w W→(lo hi:Nat→Nat)→(∀ i,i<n→w.heap.size≤lo i∧lo i≤hi i∧hi i≤W.heap.size∧φ i (Be ds a') (lo i) (hi i) W)→(∀ i j,i<n→j<n→i≠j→hi i≤lo j∨hi j≤lo i)→(∀ v W',Q .normal (a'.put o.dst v) W'→K (a'.put o.dst v) W')→o.wp P a' W K Q):(Code.region id ops true).wp P Q a w:=by
 unfold Y4 at hl;simp only [Bool.and_eq_true,decide_eq_true_eq] at hl;obtain ⟨hn,hl⟩:=hl;unfold Ky at hd;simp only [Bool.and_eq_true,decide_eq_true_eq] at hd;obtain ⟨⟨hlen,hd1⟩,hd2⟩:=hd
 have hgo:∀ (i:Nat) (o:Oper),ops[i]?=some o→o.guard=none:=fun i o ho=>by
  have h1:=(Array.all_eq_true_iff_forall_mem.1 hg) o (Array.mem_of_getElem? ho)
  simpa using h1
 have hlt:∀ (i:Nat) (o:Oper),ops[i]?=some o→i<ops.size:=fun i o ho=>by
  rcases Nat.lt_or_ge i ops.size with h | h
  ·exact h
  ·rw [Array.getElem?_eq_none h] at ho; cases ho
 have hdst:∀ (i:Nat) (o:Oper),ops[i]?=some o→ds[i]?=some o.dst:=fun i o ho=>by
  have h1:=List.all_eq_true.1 hd1 i (List.mem_range.2 (by rw [hlen]; exact hlt i o ho));rw [ho] at h1;simp only [Option.map_some,Option.getD_some,beq_iff_eq] at h1;exact h1.symm
 have hne:∀ i j d,i≠j→ds[i]?=some (some d)→ds[j]?≠some (some d):=fun i j d h hi hj=>by
  have li:i<ds.length:=by rcases Nat.lt_or_ge i ds.length with x | x; exact x; (rw [List.getElem?_eq_none x] at hi; cases hi)
  have lj:j<ds.length:=by rcases Nat.lt_or_ge j ds.length with x | x; exact x; (rw [List.getElem?_eq_none x] at hj; cases hj)
  have h1:=List.all_eq_true.1 (List.all_eq_true.1 hd2 i (List.mem_range.2 li)) j (List.mem_range.2 lj);rw [hi,hj] at h1
  simp at h1
  exact h h1
 have hlw:((ops[n]?).map fun o=>(List.range n).all fun j=>A1 o j).getD false=true:=hl;refine Fg hm hb (fun _ l a' W=>((∀ i,i<ops.size→l[i]?=some true)∧Q .normal a' W)∨(l[n]?=some false∧Fr (slotsOf ds) a a'∧Wrote (fun b o=>∃ j,l[j]?=some true∧R j b o) w W∧(∀ (k:Nat) (o:Oper),l[k]?=some true→ops[k]?=some o→∀ j:Nat,A1 o j=true→l[j]?=some true)∧∃ lo hi:Nat→Nat,(∀ i:Nat,l[i]?=some true→w.heap.size≤lo i∧lo i≤hi i∧hi i≤W.heap.size∧φ i (Be ds a') (lo i) (hi i) W)∧∀ i j:Nat,l[i]?=some true→l[j]?=some true→i≠j→hi i≤lo j∨hi j≤lo i)) ?_ ?_ ?_
 ·have hno:∀ i:Nat,(Array.replicate ops.size false)[i]?≠some true:=fun i h=>by
   rcases Nat.lt_or_ge i ops.size with x | x
   ·simp [x] at h
   ·rw [Array.getElem?_eq_none (by simpa using x)] at h; cases h
  exact Or.inr ⟨by simp [hn],⟨rfl,rfl,fun _ _=>rfl⟩,⟨rfl,rfl,rfl,Nat.le_refl _,fun _ _ _=>rfl,fun _ _ _ _=>rfl,fun _ _ _=>rfl⟩,fun k _ h=>absurd h (hno k),fun _=>0,fun _=>0,fun i h=>absurd h (hno i),fun i _ h=>absurd h (hno i)⟩
 ·rintro l a' W i o K hl hJ ho hf ha hK
  rcases hJ with ⟨hall,-⟩ | ⟨hnf,F,L,hcl,lo,hi',hφ,hdj⟩
  ·rw [hall i (hlt i o ho)] at hf; cases hf
  by_cases hin:i=n
  ·subst hin
   rw [ho] at hlw
   have hdone:∀ j,j<i→l[j]?=some true:=fun j hj=>Cv ha (List.all_eq_true.1 hlw j (List.mem_range.2 hj))
   refine Hi ho (hgo i o ho) (hlast o a' W K ho F (L.mono (fun b o _ ⟨j,_,h2⟩=>⟨j,h2⟩)) lo hi' (fun k hk=>hφ k (hdone k hk)) (fun k k' hk hk'=>hdj k k' (hdone k hk) (hdone k' hk')) (fun v W' hq=>hK _ _ (Or.inl ⟨fun k hk=>?_,hq⟩)))
   by_cases e:k=i
   ·rw [e,Array.getElem?_setIfInBounds,if_pos rfl,if_pos (by omega)]
   ·rw [Array.getElem?_setIfInBounds_ne (by omega)]; exact hdone k (by omega)
  have hin':i<n:=by have:=hlt i o ho; omega
  have hi:=hlt i o ho;have hdi:=hdst i o ho
  have hdone:∀ j,l[j]?=some true→∀ b o,R j b o→∃ j oj,j≠i∧ops[j]?=some oj∧A1 oj i=false∧R j b o:=fun j h1 b o h2=>by
   have hjl:j<ops.size:=by
    rcases Nat.lt_or_ge j ops.size with x | x
    ·exact x
    ·rw [Array.getElem?_eq_none (by omega)] at h1; cases h1
   have hjo:ops[j]?=some ops[j]:=Array.getElem?_eq_getElem hjl;refine ⟨j,ops[j],(fun e=>by rw [e,hf] at h1; cases h1),hjo,?_,h2⟩;cases hw:A1 ops[j] i
   ·rfl
   ·have:=hcl j _ h1 hjo i hw
    rw [hf] at this; cases this
  refine Hi ho (hgo i o ho) (hstep i o a' W K hin' ho F (L.mono (fun b o _ ⟨j,h1,h2⟩=>hdone j h1 b o h2)) (fun j hj=>⟨lo j,hi' j,(hφ j (Cv ha hj)).1,(hφ j (Cv ha hj)).2.2⟩) (fun v W' hW hv=>hK _ _ ?_))
  have hset:(l.setIfInBounds i true)[i]?=some true:=by simp [hl,hi]
  have hval:Be ds (a'.put o.dst v)=Ct (Be ds a') i (if o.dst=none then undef else v):=by
   funext k
   by_cases e:k=i
   ·subst e
    rw [Aq]
    cases e:o.dst with
    | none =>
     rw [e] at hdi;unfold Be;rw [hdi]
     simp
    | some d =>
     rw [e] at hdi;have hmem:d∈slotsOf ds:=List.mem_filterMap.2 ⟨some d,List.mem_of_getElem? hdi,rfl⟩;unfold Be;rw [hdi]
     simpa using Fa (by rw [F.size]; exact hsz d hmem)
   ·rw [Ap _ _ e]
    cases e2:o.dst with
    | none=>rfl
    | some d =>
     rw [e2] at hdi;unfold Be
     cases e3:ds[k]? with
     | none=>rfl
     | some x =>
      cases x with
      | none=>rfl
      | some d' =>
       have:d≠d':=fun x=>hne k i d' e e3 (by rw [hdi,x])
       exact D9 this
  have hne':∀ k,(l.setIfInBounds i true)[k]?=some true→k≠i→l[k]?=some true:=fun k hk e=>by rw [Array.getElem?_setIfInBounds_ne (by omega)] at hk; exact hk
  refine Or.inr ⟨by rw [Array.getElem?_setIfInBounds_ne hin]; exact hnf,?_,(L.mono (fun b o _ ⟨j,h1,h2⟩=>⟨j,by rw [Array.getElem?_setIfInBounds_ne (fun e=>by rw [← e,hf] at h1; cases h1)]; exact h1,h2⟩)).trans (hW.mono (fun b o _ h=>⟨i,hset,h⟩)),fun k o' hk hko j hj=>?_,fun k=>if k=i then W.heap.size else lo k,fun k=>if k=i then W'.heap.size else hi' k,fun k hk=>?_,fun k k' hk hk' hkk=>?_⟩
  ·cases e:o.dst with
   | none=>exact F
   | some d =>
    rw [e] at hdi;exact F.put (List.mem_filterMap.2 ⟨some d,List.mem_of_getElem? hdi,rfl⟩) v
  ·have h1:l[j]?=some true:=by
    by_cases e:k=i
    ·subst e
     rw [ho] at hko;obtain rfl:=Option.some.inj hko;exact Cv ha hj
    ·rw [Array.getElem?_setIfInBounds_ne (by omega)] at hk
     exact hcl k o' hk hko j hj
   by_cases e:j=i
   ·rw [e]; exact hset
   ·rw [Array.getElem?_setIfInBounds_ne (by omega)]; exact h1
  ·rw [hval]
   by_cases e:k=i
   ·subst e
    simp only [if_true];exact ⟨L.size,hW.size,Nat.le_refl _,hv⟩
   ·simp only [if_neg e]
    rw [Array.getElem?_setIfInBounds_ne (by omega)] at hk;obtain ⟨g1,g2,g3,g4⟩:=hφ k hk;refine ⟨g1,g2,Nat.le_trans g3 hW.size,?_⟩
    have hkl:k<ops.size:=by
     rcases Nat.lt_or_ge k ops.size with x | x
     ·exact x
     ·rw [Array.getElem?_eq_none (by omega)] at hk; cases hk
    have hko:ops[k]?=some ops[k]:=Array.getElem?_eq_getElem hkl
    have hnw:A1 ops[k] i=false:=by
     cases hw:A1 ops[k] i
     ·rfl
     ·have:=hcl k _ hk hko i hw
      rw [hf] at this; cases this
    have hkn:k≠n:=fun x=>by rw [x,hnf] at hk; cases hk
    exact hstab k i _ _ _ _ _ W W' e (by omega) hin' hko hnw g1 g3 hW g4
  ·by_cases e:k=i
   ·have e':k'≠i:=fun x=>hkk (e.trans x.symm)
    simp only [if_pos e,if_neg e'];exact Or.inr (hφ k' (hne' k' hk' e')).2.2.1
   ·by_cases e':k'=i
    ·simp only [if_neg e,if_pos e']
     exact Or.inl (hφ k (hne' k hk e)).2.2.1
    ·simp only [if_neg e,if_neg e']
     exact hdj k k' (hne' k hk e) (hne' k' hk' e') hkk
 ·rintro l a' W hall (⟨-,hq⟩ | ⟨hnf,-⟩)
  ·exact hq
  ·rw [hall n (by omega)] at hnf; cases hnf
end
set_option linter.unusedSimpArgs false
open Go.Sort
abbrev Jv:=List (Nat × Array Value × TypeId)
structure Dv (w:World) (D:Nat→Prop) (W:World) (l:Jv):Prop where
 below:Below w.heap.size w W
 all:∀ p,p∈l→W.heap[p.1]?=some (.cells p.2.1 p.2.2 (0,0))∧w.heap.size≤p.1∧¬ D p.1
 nd:(l.map (·.1)).Nodup
 lt:∀ b,D b→b<W.heap.size
theorem Dv.nil (w:World):Dv w (fun _=>False) w []:=⟨Below.refl _ _,fun _ h=>(by cases h),List.nodup_nil,fun _ h=>h.elim⟩
section
variable {w W W':World} {D:Nat→Prop} {l:Jv} {i b:Nat} {cs:Array Value} {t:TypeId}
theorem Dv.ret (h:Dv w D W l) (i:Nat) (e:l[i]?=some (b,cs,t)):W.heap[b]?=some (.cells cs t (0,0)):=(h.all _ (List.mem_of_getElem? e)).1
theorem Dv.call (h:Dv w D W l) (L:Below W.heap.size W W'):Dv w D W' l :=
 ⟨h.below.trans (L.mono h.below.size),fun p hp=>⟨Aa (h.all p hp).1 L (Ae (h.all p hp).1),(h.all p hp).2⟩,h.nd,fun b hb=>Nat.lt_of_lt_of_le (h.lt b hb) L.size⟩
theorem Dv.re (h:Dv w D W l) (L:Below W.heap.size W W'):Dv w (fun b=>W.heap.size≤b∧b<W'.heap.size) W' l :=
 ⟨(h.call L).below,fun p hp=>⟨((h.call L).all p hp).1,(h.all p hp).2.1,fun hd=>absurd (Ae (h.all p hp).1) (by omega)⟩,h.nd,fun _ hb=>hb.2⟩
theorem Dv.alloc (h:Dv w D W l) (cs:Array Value) (t:TypeId) (n:Nat) (e:W.heap.size=n):Dv w D (W.alloc (.cells cs t)) (l++[(n,cs,t)]):=by
 subst e;have L:Below W.heap.size W (W.alloc (.cells cs t)):=(Below.refl _ _).alloc (Nat.le_refl _) _;refine ⟨(h.call L).below,fun p hp=>?_,?_,(h.call L).lt⟩
 ·rcases List.mem_append.1 hp with hp | hp
  ·exact (h.call L).all p hp
  ·obtain rfl:=List.mem_singleton.1 hp
   exact ⟨Al W cs t,h.below.size,fun hd=>absurd (h.lt _ hd) (Nat.lt_irrefl _)⟩
 ·rw [List.map_append,List.nodup_append]
  refine ⟨h.nd,by simp,fun a ha c hc e=>?_⟩;obtain ⟨p,hp,rfl⟩:=List.mem_map.1 ha;have:=Ae (h.all p hp).1
  simp at hc
  omega
theorem Dv.no (h:Dv w D W l) (i:Nat) (e:l[i]?=some (b,cs,t)):¬ D b:=(h.all _ (List.mem_of_getElem? e)).2.2
theorem Dv.far (h:Dv w D W l) (i j:Nat) {b':Nat} {cs':Array Value} {t':TypeId} (e:l[i]?=some (b,cs,t)) (e':l[j]?=some (b',cs',t')) (hij:i≠j):b≠b':=fun x=>by
 have hi:=(List.getElem?_eq_some_iff.1 e).1;have hj:=(List.getElem?_eq_some_iff.1 e').1;refine hij ((List.getElem_inj (xs:=l.map (·.1)) (h₀:=by simpa using hi) (h₁:=by simpa using hj) h.nd).1 ?_);simp only [List.getElem_map];rw [(List.getElem?_eq_some_iff.1 e).2,(List.getElem?_eq_some_iff.1 e').2];exact x
theorem Dv.upd (h:Dv w D W l) (i:Nat) (e:l[i]?=some (b,cs,t)) {cs':Array Value} (TT:Wrote (fun b' _=>b'=b) W W') (k:W'.heap[b]?=some (.cells cs' t (0,0))):Dv w D W' (l.set i (b,cs',t)):=by
 have hb:=h.all _ (List.mem_of_getElem? e);refine ⟨h.below.trans (TT.below h.below.size (fun b' o h1 h2=>by have:=hb.2.1; omega)),fun p hp=>?_,?_,fun b hd=>Nat.lt_of_lt_of_le (h.lt b hd) TT.size⟩
 ·obtain ⟨j,hj⟩:=List.mem_iff_getElem?.1 hp
  by_cases e':i=j
  ·subst e'
   have hlt:=(List.getElem?_eq_some_iff.1 e).1
   simp [List.getElem?_set,hlt] at hj
   subst hj;exact ⟨k,hb.2⟩
  ·rw [List.getElem?_set_ne e'] at hj
   have hp':=h.all p (List.mem_of_getElem? hj);refine ⟨Ag hp'.1 TT (fun o h1=>?_),hp'.2⟩;exact h.far j i (t:=p.2.2) (cs:=p.2.1) hj e (Ne.symm e') h1
 ·rw [List.map_set]
  have:(l.map (·.1)).set i b=l.map (·.1):=by
   refine List.ext_getElem? (fun j=>?_);rw [List.getElem?_set];split
   ·rename_i e'; subst e'
    have hi:=(List.getElem?_eq_some_iff.1 e).1
    simp [hi,e]
    have:=(List.getElem?_eq_some_iff.1 e).2;rw [this]
   ·rfl
  rw [this];exact h.nd
theorem Dv.row (h:Dv w D W l) (i:Nat) (e:l[i]?=some (b,cs,t)) (cs':Array Value):Dv w D (W.setRow b cs') (l.set i (b,cs',t)):=h.upd i e (Ch (h.ret i e) cs') (setRow_heap _ _ _ _ _ _ (h.ret i e))
theorem Gb (W:World) (b o:Nat) (v:Value):Wrote (fun b' _=>b'=b) W (W.setCell ⟨b,o,none⟩ v):=Wrote.setCell (R:=fun b' _=>b'=b) (Wrote.refl _ W) (fun _=>rfl) v
theorem Dv.cell (h:Dv w D W l) (i:Nat) (e:l[i]?=some (b,cs,t)) (o:Nat) (v:Value) {cs':Array Value} (hc:cs.setIfInBounds o v=cs'):Dv w D (W.setCell ⟨b,o,none⟩ v) (l.set i (b,cs',t)):=h.upd i e (Gb W b o v) (hc ▸ Ai (h.ret i e) v)
theorem Dv.get (h:Dv w D W l) (i:Nat) (e:l[i]?=some (b,cs,t)) (j:Nat) {v:Value} (hv:cs[j]?=some v):W.cell? ⟨b,j,none⟩=some v:=(Aj (h.ret i e) j).trans hv
theorem Dv.getG (h:Dv w D W l) (i:Nat) (e:l[i]?=some (b,cs,t)) (j:Nat) {v:Value} (hv:cs[j]?=some v) (d:Nat) (os:Array Obj):(grow (redrawn W d) os).cell? ⟨b,j,none⟩=some v:=(h.call (below_regrown W d os)).get i e j hv
theorem Dv.drew (h:Dv w D W l):Dv w D W.drew l:=⟨h.below.trans ((Wrote.drew (R:=fun _ _=>False) (Wrote.refl _ W)).below h.below.size (fun _ _ _ h=>h.elim)),h.all,h.nd,h.lt⟩
theorem Dv.take (h:Dv w D W l) (n:Nat):Dv w D W (l.take n):=⟨h.below,fun p hp=>h.all p (List.mem_of_mem_take hp),by rw [List.map_take]; exact h.nd.sublist (List.take_sublist _ _),h.lt⟩
theorem Dv.mem (h:Dv w D W l) (i:Nat) (e:l[i]?=some (b,cs,t)) (TT:Wrote (fun b' _=>b'=b) W W') {v:Value} {n:Nat} {g:Nat→Int} {bank:Int} (M:Bn W D v n g bank):Bn W' D v n g bank :=
 M.keep TT (fun b' o hd _ he=>(h.all _ (List.mem_of_getElem? e)).2.2 (by have he':b'=b:=he; exact he' ▸ hd))
end
set_option maxHeartbeats 8000000
set_option maxRecDepth 20000
theorem Bm:(Tryz.prog.info? 29).map (·.size)=some 2:=by kernel_rfl
theorem Av:(Tryz.prog.info? 31).map (·.size)=some 8:=by kernel_rfl
def Bh.a (c:Bh):Array Value:=(cR c.A c.X c.S c.Pc c.Z c.N c.C c.I)
theorem Bh.one (c:Bh):c.a.all (·.oneCell')=true:=by unfold Bh.a; first | kernel_rfl | simp [Value.oneCell']
theorem Gy (c:Bh) (x:Int) (w:World):Calls Tryz.prog 162 #[.agg c.a,.i x] w fun e w'=>e=.returned (.agg (setAc c x).a)∧Below w.heap.size w w':=V0 w c.A c.X c.S c.Pc c.Z c.N c.C c.I x
theorem Xd (c:Bh) (x:Int) (w:World):Calls Tryz.prog 167 #[.agg c.a,.i x] w fun e w'=>e=.returned (.agg (Tc c x).a)∧Below w.heap.size w w':=V8 w c.A c.X c.S c.Pc c.Z c.N c.C c.I x
--@need spec.l7Add
theorem Np (c:Bh) (v:Int) (w:World):Calls Tryz.prog 164 #[.agg c.a,.i v] w fun e w'=>e=.returned (.agg (addC c v).a)∧Below w.heap.size w w':=by
 obtain ⟨x,hx⟩:∃ x,Hid (x=(c.A%256+v%256+Bb c.C)%256):=⟨_,rfl⟩
 obtain ⟨y,hy⟩:∃ y,Hid (y=decide (255<c.A%256+v%256+Bb c.C)):=⟨_,rfl⟩
 have HA:=Ac (fun W=>Vi c.A v c.C W);rw [← hx.out,← hy.out] at HA
 have HR:(setAc c x).a.setIfInBounds 6 (.bool y)=(addC c v).a:=by rw [hx.out,hy.out]; rfl
 clear hx hy;have B:=((Dv.nil w).alloc c.a 31 w.heap.size rfl).alloc cZ 31 (w.heap.size+1) (by simp)
 go_enter Tryz.func164,Tryz.ntmps164
 go_upto_region 1 with (fail);generalize (w.alloc (.cells c.a 31)).alloc (.cells cZ 31)=W0 at *;have c0:=B.get 0 rfl 0 (v:=.i c.A) rfl;have c6:=B.get 0 rfl 6 (v:=.bool c.C) rfl;go_wp2_with fail;clear c0 c6;refine (Ad HA _).mono ?_;rintro e W1 ⟨rfl,rfl⟩;go_upto_region 2 with (fail);rename_i K1 hK1;refine wp_region_lit ?_;refine wpList_load_row rfl _ _ rfl (w.heap.size) rfl _ _ _ _ (B.ret 0 rfl) Tryz.underlying31 rfl Av ?_;go_wp2_with fail;rename_i K2 hK2;refine (Gy c x _).mono ?_;rintro e W2 ⟨rfl,L⟩;replace B:=B.call L;refine hK2 _ _ ?_;refine wpList_store_row rfl _ _ _ rfl (w.heap.size) (setAc c x).a rfl rfl _ _ (B.ret 0 rfl) Av rfl (Bh.one _) ?_;replace B:=B.row 0 rfl (setAc c x).a;generalize W2.setRow (w.heap.size) (setAc c x).a=W3 at *;refine hK1 _ _ ?_;have fc:=Ar (B.ret 0 rfl);have c6:=B.get 0 rfl 6 (v:=.bool c.C) rfl
 go_upto_region 4 with (fail);clear fc c6;replace B:=B.cell 0 rfl 6 (.bool y) HR;generalize W3.setCell ⟨w.heap.size,6,none⟩ (.bool y)=W4 at *;rename_i K3 hK3;refine wp_region_lit ?_;refine wpList_load_row rfl _ _ rfl (w.heap.size) rfl _ _ _ _ (B.ret 0 rfl) Tryz.underlying31 rfl Av ?_;refine wpList_store_row rfl _ _ _ rfl (w.heap.size+1) (addC c v).a rfl rfl _ _ (B.ret 1 rfl) Av rfl (Bh.one _) ?_;replace B:=B.row 1 rfl (addC c v).a;generalize W4.setRow (w.heap.size+1) (addC c v).a=W5 at *;refine hK3 _ _ ?_;go_wp2;refine bodyPost_ret (v:=.agg (addC c v).a) (results_cell_row (by rfl) _ _ (w.heap.size+1) _ _ _ _ rfl (B.ret 1 rfl) Tryz.underlying31 rfl Av) rfl ?_;exact ⟨rfl,B.below⟩
theorem Eq {P:Program} {fn:Func} {p q:Tmp} {ty:TypeId} (h:fn.results=#[.cell p ty,.tmp q]) (tmps:Array Value) (w:World) (g:Nat) (t:TypeId) (cs:Array Value) (fr:Nat × Nat) (dd:TypeDesc)
  (hp:tmps.getD p undef=(pt g 0)) (hg:w.heap[g]?=some (.cells cs t fr)) (hu:P.underlying ty=some dd) (hd:(match dd with | .struct _ | .array _ _=>true | _=>false)=true) (hi:(P.info? ty).map (·.size)=some cs.size) :
  (results fn tmps).run P w=.ok (.tuple #[.agg cs,tmps.getD q undef]) w:=by
 have hp':tmps[p]?.getD undef=(pt g 0):=by simpa using hp
 simp [results,h,hp',asAddr,run_loadVar_row w g t ty cs fr dd hg hu hd hi]
theorem Ck {op:Int} (h:Ih op=false) (k:Int) (hk:Ih k=true):(op==k)=false:=beq_eq_false_iff_ne.2 (fun e=>by rw [e,hk] at h; cases h)
theorem Uz (c:Bh) (op arg v:Int) (w:World):Calls Tryz.prog 159 #[.agg c.a,.agg #[.i op,.i arg],.i v] w fun e w'=>e=.returned (.tuple #[.agg (aluC c op arg v).a,.bool (Ih op)])∧Below w.heap.size w w':=by
 have B:=(((Dv.nil w).alloc c.a 31 w.heap.size rfl).alloc #[.i op,.i arg] 162 (w.heap.size+1) (by simp)).alloc cZ 31 (w.heap.size+1+1) (by simp)
 go_enter Tryz.func159,Tryz.ntmps159
 go_upto_region 1 with (fail);generalize ((w.alloc (.cells c.a 31)).alloc (.cells #[.i op,.i arg] 162)).alloc (.cells cZ 31)=W0 at *;have c0:=B.get 0 rfl 0 (v:=.i c.A) rfl;have c1:=B.get 0 rfl 1 (v:=.i c.X) rfl;have c6:=B.get 0 rfl 6 (v:=.bool c.C) rfl;have f_c:=Ar (B.ret 0 rfl);have c_i:=Aj (B.ret 1 rfl)
 by_cases hs:op=1∨op=2∨op=14∨op=4∨op=29∨op=10∨op=11
 ·rcases hs with rfl | rfl | rfl | rfl | rfl | rfl | rfl
  focus (go_upto_region 3 with (fail); have HS:=Gy c arg)
  rotate_left
  focus (go_upto_region 6 with (fail); have HS:=Gy c v)
  rotate_left
  focus (go_upto_region 6 with (fail); have HS:=Gy c v)
  rotate_left
  focus (go_upto_region 8 with (fail); have HS:=Np c arg)
  rotate_left
  focus (go_upto_region 10 with (fail); have HS:=Np c v)
  rotate_left
  focus (go_upto_region 27 with (fail); have HS:=Xd c c.A)
  rotate_left
  focus (go_upto_region 29 with (fail); have HS:=Gy c c.X)
  rotate_left
  all_goals
   rename_i K1 hK1;refine wp_region_lit ?_;refine wpList_load_row rfl _ _ rfl (w.heap.size) rfl _ _ _ _ (B.ret 0 rfl) Tryz.underlying31 rfl Av ?_;go_wp2_with fail;rename_i K2 hK2;refine (HS _).mono ?_;rintro e W2 ⟨rfl,L⟩;replace B:=B.call L;refine hK2 _ _ ?_;refine wpList_store_row rfl _ _ _ rfl (w.heap.size+1+1) _ rfl rfl _ _ (B.ret 2 rfl) Av rfl (Bh.one _) ?_;refine wpList_plain rfl (fun K9 hK9=>?_);go_simp;refine hK9 _ _ ?_;refine hK1 _ _ ?_;go_wp2;refine bodyPost_ret (v:=.tuple #[.agg _,.bool _]) (Eq Tryz.results159 _ _ (w.heap.size+1+1) _ _ _ _ rfl ((B.row 2 rfl _).ret 2 rfl) Tryz.underlying31 rfl Av) rfl ?_;exact ⟨rfl,(B.row 2 rfl _).below⟩
 by_cases hs2:op=6∨op=7∨op=8
 ·have g0:=B.getG 0 rfl 0 (v:=.i c.A) rfl
  have g1:=B.getG 1 rfl 1 (v:=.i arg) rfl
  rcases hs2 with rfl | rfl | rfl
  focus (go_upto_region 17 with (fail))
  rotate_left
  focus (go_upto_region 19 with (fail))
  rotate_left
  focus (go_upto_region 21 with (fail))
  rotate_left
  all_goals
   rename_i K1 hK1;refine Ez (n:=9) (by kernel_rfl) (by kernel_rfl) ?_;simp only [List.take_succ_cons,List.take_zero,List.drop_succ_cons,List.drop_zero];refine Em _ _ rfl rfl w.heap.size 0 (by go_simp) _ _ c.a _ _ (B.ret 0 rfl) (fun j v h=>by rw [Nat.zero_add]; exact h) Tryz.underlying31 rfl Av ?_;simp only [Act.put,List.setIfInBounds_toArray,List.set_cons_succ,List.set_cons_zero]
   iterate 7 (go_big_quiet_step ((go_at_call 113; exact Calls.regrown_of ((Bc _ _).mono fun e w' ⟨h1,h2⟩=>⟨h1,h2 ▸ Below.refl _ _⟩))))
   go_big_quiet_step ((go_at_call 162; exact Calls.regrown_of (Gy c _ _)))
   refine wpQuiet_nil ?_;intro w' hw';obtain ⟨⟨d,os⟩,rfl⟩:=hw';replace B:=B.call (below_regrown W0 d os);refine wp_store_row _ _ _ rfl (w.heap.size+1+1) _ rfl rfl _ _ (B.ret 2 rfl) Av rfl (Bh.one _) ?_;simp only [Jt];go_simp;refine hK1 _ _ ?_;go_wp2;refine bodyPost_ret (v:=.tuple #[.agg _,.bool _]) (Eq Tryz.results159 _ _ (w.heap.size+1+1) _ _ _ _ rfl ((B.row 2 rfl _).ret 2 rfl) Tryz.underlying31 rfl Av) rfl ?_;exact ⟨rfl,(B.row 2 rfl _).below⟩
 by_cases hs3:op=12∨op=13
 ·have g0:=B.getG 0 rfl 1 (v:=.i c.X) rfl
  have h1:IntKind.i64.wrap (c.X%256+1)=c.X%256+1:=by rw [IntKind.wrap_i64]; omega
  have h2:IntKind.i64.wrap (c.X%256-1)=c.X%256-1:=by rw [IntKind.wrap_i64]; omega
  rcases hs3 with rfl | rfl
  focus (go_upto_region 31 with (fail))
  rotate_left
  focus (go_upto_region 33 with (fail))
  rotate_left
  all_goals
   rename_i K1 hK1;refine Ez (n:=6) (by kernel_rfl) (by kernel_rfl) ?_;simp only [List.take_succ_cons,List.take_zero,List.drop_succ_cons,List.drop_zero];refine Em _ _ rfl rfl w.heap.size 0 (by go_simp) _ _ c.a _ _ (B.ret 0 rfl) (fun j v h=>by rw [Nat.zero_add]; exact h) Tryz.underlying31 rfl Av ?_;simp only [Act.put,List.setIfInBounds_toArray,List.set_cons_succ,List.set_cons_zero]
   iterate 4 (go_big_quiet_step ((go_at_call 113; exact Calls.regrown_of ((Bc _ _).mono fun e w' ⟨h1,h2⟩=>⟨h1,h2 ▸ Below.refl _ _⟩))))
   go_big_quiet_step ((go_at_call 167; exact Calls.regrown_of (Xd c _ _)))
   refine wpQuiet_nil ?_;intro w' hw';obtain ⟨⟨d,os⟩,rfl⟩:=hw';replace B:=B.call (below_regrown W0 d os);refine wp_store_row _ _ _ rfl (w.heap.size+1+1) _ rfl rfl _ _ (B.ret 2 rfl) Av rfl (Bh.one _) ?_;simp only [Jt];go_simp;refine hK1 _ _ ?_;go_wp2;refine bodyPost_ret (v:=.tuple #[.agg _,.bool _]) (Eq Tryz.results159 _ _ (w.heap.size+1+1) _ _ _ _ rfl ((B.row 2 rfl _).ret 2 rfl) Tryz.underlying31 rfl Av) rfl ?_;exact ⟨rfl,(B.row 2 rfl _).below⟩
 by_cases h5:op=5
 ·subst h5
  obtain ⟨x,hx⟩:∃ x,Hid (x=(c.A%256-arg%256-1+Bb c.C)%256):=⟨_,rfl⟩
  obtain ⟨y,hy⟩:∃ y,Hid (y=decide (0≤c.A%256-arg%256-1+Bb c.C)):=⟨_,rfl⟩
  have HA:=Ac (fun W=>Vj c.A arg c.C W);rw [← hx.out,← hy.out] at HA
  have HR:(setAc c x).a.setIfInBounds 6 (.bool y)=(aluC c 5 arg v).a:=by rw [hx.out,hy.out]; rfl
  clear hx hy;go_upto_region 12 with (fail);go_wp2_with fail;clear c0 c1 c6 f_c c_i;refine (Ad HA _).mono ?_;rintro e W1 ⟨rfl,rfl⟩;go_upto_region 13 with (fail);rename_i K1 hK1;refine wp_region_lit ?_;refine wpList_load_row rfl _ _ rfl (w.heap.size) rfl _ _ _ _ (B.ret 0 rfl) Tryz.underlying31 rfl Av ?_;go_wp2_with fail;rename_i K2 hK2;refine (Gy c x _).mono ?_;rintro e W2 ⟨rfl,L⟩;replace B:=B.call L;refine hK2 _ _ ?_;refine wpList_store_row rfl _ _ _ rfl (w.heap.size) (setAc c x).a rfl rfl _ _ (B.ret 0 rfl) Av rfl (Bh.one _) ?_;replace B:=B.row 0 rfl (setAc c x).a;generalize W2.setRow (w.heap.size) (setAc c x).a=W3 at *;refine hK1 _ _ ?_;have fc:=Ar (B.ret 0 rfl);have c6:=B.get 0 rfl 6 (v:=.bool c.C) rfl;go_upto_region 15 with (fail);clear fc c6;replace B:=B.cell 0 rfl 6 (.bool y) HR;generalize W3.setCell ⟨w.heap.size,6,none⟩ (.bool y)=W4 at *
  rename_i K1 hK1;refine wp_region_lit ?_;refine wpList_load_row rfl _ _ rfl (w.heap.size) rfl _ _ _ _ (B.ret 0 rfl) Tryz.underlying31 rfl Av ?_;refine wpList_store_row rfl _ _ _ rfl (w.heap.size+1+1) _ rfl rfl _ _ (B.ret 2 rfl) Av rfl (Bh.one _) ?_;refine wpList_plain rfl (fun K9 hK9=>?_);go_simp;refine hK9 _ _ ?_;refine hK1 _ _ ?_;go_wp2;refine bodyPost_ret (v:=.tuple #[.agg _,.bool _]) (Eq Tryz.results159 _ _ (w.heap.size+1+1) _ _ _ _ rfl ((B.row 2 rfl _).ret 2 rfl) Tryz.underlying31 rfl Av) rfl ?_;exact ⟨rfl,(B.row 2 rfl _).below⟩
 by_cases h9:op=9
 ·subst h9
  obtain ⟨z,hz⟩:∃ x,Hid (x=((c.A%256-arg%256)%256==0)):=⟨_,rfl⟩
  obtain ⟨n,hn⟩:∃ x,Hid (x=decide (127<(c.A%256-arg%256)%256)):=⟨_,rfl⟩
  have HG:=Ac (fun W=>Jh (c.A%256-arg%256) W);rw [← hz.out,← hn.out] at HG
  have hw1:IntKind.i64.wrap (c.A%256-arg%256)=c.A%256-arg%256:=by rw [IntKind.wrap_i64]; omega
  have HR:((c.a.setIfInBounds 4 (.bool z)).setIfInBounds 5 (.bool n)).setIfInBounds 6 (.bool (decide (arg%256≤c.A%256)))=(aluC c 9 arg v).a:=by rw [hz.out,hn.out]; rfl
  clear hz hn;go_upto_region 23 with (fail);rename_i K1 hK1;have a1:=B.get 1 rfl 1 (v:=.i arg) rfl;have c4:=B.get 0 rfl 4 (v:=.bool c.Z) rfl;have c5:=B.get 0 rfl 5 (v:=.bool c.N) rfl;have B1:=B.cell 0 rfl 4 (.bool z) rfl;have B2:=B1.cell 0 rfl 5 (.bool n) rfl;have b0:(W0.setCell ⟨w.heap.size,4,none⟩ (.bool z)).drew.cell? ⟨w.heap.size,0,none⟩=some (.i c.A):=B1.get 0 rfl 0 rfl;have b1:(W0.setCell ⟨w.heap.size,4,none⟩ (.bool z)).drew.cell? ⟨w.heap.size+1,1,none⟩=some (.i arg):=B1.get 1 rfl 1 rfl;have b2:((W0.setCell ⟨w.heap.size,4,none⟩ (.bool z)).setCell ⟨w.heap.size,5,none⟩ (.bool n)).drew.cell? ⟨w.heap.size,0,none⟩=some (.i c.A):=B2.get 0 rfl 0 rfl;have b3:((W0.setCell ⟨w.heap.size,4,none⟩ (.bool z)).setCell ⟨w.heap.size,5,none⟩ (.bool n)).drew.cell? ⟨w.heap.size+1,1,none⟩=some (.i arg):=B2.get 1 rfl 1 rfl
  go_region_held3 (fun w'=>w'.cell? ⟨w.heap.size,0,none⟩=some (.i c.A)∧w'.cell? ⟨w.heap.size+1,1,none⟩=some (.i arg)) (first | (with_reducible assumption) | (refine ⟨?_,?_⟩ <;> with_reducible assumption) | go_keep) (first | (go_at_call 113; refine (Bc _ _).mono ?_; rintro e W5 ⟨rfl,rfl⟩) | (go_at_call 166; refine (Ad HG _).mono ?_; rintro e W5 ⟨rfl,rfl⟩))
  replace B:=B2.drew;clear B1 B2 a1 c4 c5 b0 b1 b2 b3 c0 c1 c6 f_c c_i;refine hK1 _ _ ?_;clear hK1;generalize ((W0.setCell ⟨w.heap.size,4,none⟩ (.bool z)).setCell ⟨w.heap.size,5,none⟩ (.bool n)).drew=W6 at *;go_upto_region 24 with (fail);rename_i K1 hK1;have g0:=B.getG 0 rfl 0 (v:=.i c.A) rfl;have g1:=B.getG 1 rfl 1 (v:=.i arg) rfl;refine E3 (n:=8) (by kernel_rfl) (by kernel_rfl) rfl ?_;simp only [List.take_succ_cons,List.take_zero]
  iterate 8 (go_big_quiet_step ((go_at_call 113; exact Calls.regrown_of ((Bc _ _).mono fun e w' ⟨h1,h2⟩=>⟨h1,h2 ▸ Below.refl _ _⟩))))
  refine wpQuiet_nil ?_;intro w' hw';obtain ⟨⟨d,os⟩,rfl⟩:=hw';replace B:=B.call (below_regrown W6 d os);have fc:=Ar (B.ret 0 rfl);have c6:=B.get 0 rfl 6 (v:=.bool c.C) rfl;go_simp;replace B:=B.cell 0 rfl 6 _ HR;refine hK1 _ _ ?_;clear fc c6 g0 g1 hK1;go_upto_region 25 with (fail);rename_i K1 hK1;refine wp_region_lit ?_;refine wpList_load_row rfl _ _ rfl (w.heap.size) rfl _ _ _ _ (B.ret 0 rfl) Tryz.underlying31 rfl Av ?_;refine wpList_store_row rfl _ _ _ rfl (w.heap.size+1+1) _ rfl rfl _ _ (B.ret 2 rfl) Av rfl (Bh.one _) ?_;refine wpList_plain rfl (fun K9 hK9=>?_);go_simp;refine hK9 _ _ ?_;refine hK1 _ _ ?_;go_wp2;refine bodyPost_ret (v:=.tuple #[.agg _,.bool _]) (Eq Tryz.results159 _ _ (w.heap.size+1+1) _ _ _ _ rfl ((B.row 2 rfl _).ret 2 rfl) Tryz.underlying31 rfl Av) rfl ?_;exact ⟨rfl,(B.row 2 rfl _).below⟩
 have ho:Ih op=false:=decide_eq_false (by omega)
 have hc:aluC c op arg v=c:=by
  unfold aluC
  repeat rw [if_neg (by omega)]
 have e1:=Ck ho 1 rfl;have e2:=Ck ho 2 rfl;have e14:=Ck ho 14 rfl;have e4:=Ck ho 4 rfl;have e29:=Ck ho 29 rfl;have e5:=Ck ho 5 rfl;have e6:=Ck ho 6 rfl;have e7:=Ck ho 7 rfl;have e8:=Ck ho 8 rfl;have e9:=Ck ho 9 rfl;have e10:=Ck ho 10 rfl;have e11:=Ck ho 11 rfl;have e12:=Ck ho 12 rfl;have e13:=Ck ho 13 rfl;clear hs hs2 hs3 h5 h9;go_upto_region 34 with (fail);rename_i K1 hK1;refine wp_region_lit ?_;refine wpList_load_row rfl _ _ rfl (w.heap.size) rfl _ _ _ _ (B.ret 0 rfl) Tryz.underlying31 rfl Av ?_;refine wpList_store_row rfl _ _ _ rfl (w.heap.size+1+1) _ rfl rfl _ _ (B.ret 2 rfl) Av rfl (Bh.one _) ?_;refine wpList_plain rfl (fun K9 hK9=>?_);go_simp;refine hK9 _ _ ?_;refine hK1 _ _ ?_;go_wp2
 refine bodyPost_ret (v:=.tuple #[.agg _,.bool _]) (Eq Tryz.results159 _ _ (w.heap.size+1+1) _ _ _ _ rfl ((B.row 2 rfl _).ret 2 rfl) Tryz.underlying31 rfl Av) rfl ?_;exact ⟨by rw [hc,ho],(B.row 2 rfl _).below⟩
def pulC (c:Bh):Bh:={ c with S:=(c.S+1)%256 }
theorem O8 (c:Bh) {G:Nat→Nat→Prop} {u:Value} {g:Nat→Int} (bank:Int) {w:World} (K:Ints .i64 w G u 512 g):Calls Tryz.prog 161 #[.agg #[u,.i bank],.agg c.a] w fun e w'=>e=.returned (.tuple #[.agg (pulC c).a,.i (D7 g c.S)])∧Below w.heap.size w w':=Oc w G u g bank K c.A c.X c.S c.Pc c.Z c.N c.C c.I
theorem Lp (c:Bh) {G:Nat→Nat→Prop} {u:Value} {g:Nat→Int} (bank:Int) {w:World} (K:Ints .i64 w G u 512 g):Calls Tryz.prog 160 #[.agg #[u,.i bank],.agg c.a] w fun e w'=>e=.returned (.agg (No g c).a)∧Below w.heap.size w w':=by
 have B:=(((Dv.nil w).alloc #[u,.i bank] 29 w.heap.size rfl).alloc c.a 31 (w.heap.size+1) (by simp)).alloc cZ 31 (w.heap.size+1+1) (by simp)
 go_enter Tryz.func160,Tryz.ntmps160
 go_upto_region 1 with (fail);generalize ((w.alloc (.cells #[u,.i bank] 29)).alloc (.cells c.a 31)).alloc (.cells cZ 31)=W0 at *;rename_i K1 hK1;refine wp_region_lit ?_;refine wpList_load_row rfl _ _ rfl (w.heap.size) rfl _ _ _ _ (B.ret 0 rfl) Tryz.underlying29 rfl Bm ?_;refine wpList_load_row rfl _ _ rfl (w.heap.size+1) rfl _ _ _ _ (B.ret 1 rfl) Tryz.underlying31 rfl Av ?_;refine wpList_plain rfl (fun K9 hK9=>?_);go_simp;refine (O8 c bank (K.keep (Ab B.below Ak) (fun _ _ _ x=>x))).mono ?_;rintro e W1 ⟨rfl,L⟩;replace B:=B.call L;clear L;refine hK9 _ _ ?_;clear hK9
 iterate 3 (refine wpList_plain rfl (fun K9 hK9=>?_); go_simp; refine hK9 _ _ ?_; clear hK9)
 refine wpList_store_row rfl _ _ _ rfl (w.heap.size+1) (pulC c).a rfl rfl _ _ (B.ret 1 rfl) Av rfl (Bh.one _) ?_;replace B:=B.row 1 rfl (pulC c).a;generalize W1.setRow (w.heap.size+1) (pulC c).a=W2 at *
 (refine wpList_plain rfl (fun K9 hK9=>?_); go_simp; refine hK9 _ _ ?_; clear hK9)
 refine hK1 _ _ ?_;clear hK1;go_upto_region 2 with (fail);rename_i K1 hK1;refine wp_region_lit ?_;refine wpList_load_row rfl _ _ rfl (w.heap.size) rfl _ _ _ _ (B.ret 0 rfl) Tryz.underlying29 rfl Bm ?_;refine wpList_load_row rfl _ _ rfl (w.heap.size+1) rfl _ _ _ _ (B.ret 1 rfl) Tryz.underlying31 rfl Av ?_;refine wpList_plain rfl (fun K9 hK9=>?_);go_simp;refine (O8 (pulC c) bank (K.keep (Ab B.below Ak) (fun _ _ _ x=>x))).mono ?_;rintro e W3 ⟨rfl,L⟩;replace B:=B.call L;clear L;refine hK9 _ _ ?_;clear hK9
 iterate 3 (refine wpList_plain rfl (fun K9 hK9=>?_); go_simp; refine hK9 _ _ ?_; clear hK9)
 refine wpList_store_row rfl _ _ _ rfl (w.heap.size+1) (pulC (pulC c)).a rfl rfl _ _ (B.ret 1 rfl) Av rfl (Bh.one _) ?_;replace B:=B.row 1 rfl (pulC (pulC c)).a;generalize W3.setRow (w.heap.size+1) (pulC (pulC c)).a=W4 at *
 (refine wpList_plain rfl (fun K9 hK9=>?_); go_simp; refine hK9 _ _ ?_; clear hK9)
 refine hK1 _ _ ?_;clear hK1;go_upto_region 3 with (fail);rename_i K1 hK1;refine wp_region_lit ?_
 iterate 2 (refine wpList_plain rfl (fun K9 hK9=>?_); go_simp; refine hK9 _ _ ?_; clear hK9)
 refine wpList_plain rfl (fun K9 hK9=>?_);go_simp;refine (It _ _ _).mono ?_;rintro e W5 ⟨rfl,rfl⟩;refine hK9 _ _ ?_;clear hK9
 (refine wpList_plain rfl (fun K9 hK9=>?_); go_simp; refine hK9 _ _ ?_; clear hK9)
 have fc:=Ar (B.ret 1 rfl);have c3:=B.get 1 rfl 3 (v:=.i c.Pc) rfl
 (refine wpList_plain rfl (fun K9 hK9=>?_); go_simp; refine hK9 _ _ ?_; clear hK9)
 clear fc c3;have B:=B.cell 1 rfl 3 (.i (D7 g c.S%256+256*(D7 g (pulC c).S%256))) (cs':=(No g c).a) rfl;refine hK1 _ _ ?_;clear hK1;go_upto_region 4 with (fail);rename_i K1 hK1;refine wp_region_lit ?_;refine wpList_load_row rfl _ _ rfl (w.heap.size+1) rfl _ _ _ _ (B.ret 1 rfl) Tryz.underlying31 rfl Av ?_;refine wpList_store_row rfl _ _ _ rfl (w.heap.size+1+1) _ rfl rfl _ _ (B.ret 2 rfl) Av rfl (Bh.one _) ?_;refine hK1 _ _ ?_;clear hK1;go_wp2;refine bodyPost_ret (v:=.agg _) (results_cell_row (by rfl) _ _ (w.heap.size+1+1) _ _ _ _ rfl ((B.row 2 rfl _).ret 2 rfl) Tryz.underlying31 rfl Av) rfl ?_;exact ⟨rfl,(B.row 2 rfl _).below⟩
end Go.Proofs.YtjnjnppongdhgaaGreat
