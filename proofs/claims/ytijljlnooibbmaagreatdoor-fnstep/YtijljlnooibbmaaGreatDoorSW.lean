import Derived.Test.YtijljlnooibbmaaGreatDoorSR
import Derived.Test.YtijljlnooibbmaaGreatDoorD5
import Derived.Laws.CopyOwn
import Derived.Lib.SlBytesConst
import Derived.Lib.LazyBuf
namespace Go.Proofs.YtijljlnooibbmaaGreatDoor
set_option maxHeartbeats 8000000
set_option maxRecDepth 40000
open Go.Proofs.Tryz
set_option linter.unusedVariables false
set_option linter.unusedSimpArgs false
open Go.ChangeShapes Go.WideShapes Go.ChangeAt Go.RowKit
theorem Jbb (w:World) (lo:Nat) (D:Nat->Nat->Prop) (v:Value) (d:Aq) (a y:Int) (H:Fl w lo D v d) (hlo:lo<=w.heap.size) (hok:okLock d=true):Calls prog 92 #[v,.i a,.i y] w fun e w'=>∃ v',e=.returned v'/\Iy w w' lo D v' (Br d a y)/\Below w.heap.size w w':=by
 obtain ⟨okp,okm,oku,oka,oks⟩:=Fy hok;obtain ⟨u0,u1,u2,u3,u4,ov,gb,cp,g6,c6,g7,c7,rfl,HP0⟩:=H;obtain ⟨x0,y0,rfl⟩:=HP0.h0.form;obtain ⟨x1,y1,rfl⟩:=HP0.h1.two;obtain ⟨x2,y2,e2⟩:=HP0.h2.two;simp only [Value.agg.injEq,Array.mk.injEq,List.cons.injEq,and_true] at e2;subst e2;obtain ⟨x3,y3,x4,y4,e3⟩:=HP0.h3.two;simp only [Value.agg.injEq,Array.mk.injEq,List.cons.injEq,and_true,true_and] at e3;obtain ⟨rfl,rfl⟩:=e3;obtain ⟨x5,y5,rfl⟩:=HP0.h4.form;have L0:Below w.heap.size w ((w.alloc (.cells (kR d (.slice x0 d.m y0) (.slice x1 d.np y1) (.slice x2 d.nr y2) (.slice x3 d.nt y3) (.slice x4 d.nd y4) (.slice x5 d.mf y5) (.sl g6 0 d.ns c6) (.sl g7 0 d.nq c7)) 41)).alloc (.cells zR 41)):=((Below.refl _ _).alloc (Nat.le_refl _) _).alloc (by simp) _
 have B0:((w.alloc (.cells (kR d (.slice x0 d.m y0) (.slice x1 d.np y1) (.slice x2 d.nr y2) (.slice x3 d.nt y3) (.slice x4 d.nd y4) (.slice x5 d.mf y5) (.sl g6 0 d.ns c6) (.sl g7 0 d.nq c7)) 41)).alloc (.cells zR 41)).heap[w.heap.size]?=some (.cells (kR d (.slice x0 d.m y0) (.slice x1 d.np y1) (.slice x2 d.nr y2) (.slice x3 d.nt y3) (.slice x4 d.nd y4) (.slice x5 d.mf y5) (.sl g6 0 d.ns c6) (.sl g7 0 d.nq c7)) 41 (0,0)):=Az (Ak w _ _) _
 have B1:((w.alloc (.cells (kR d (.slice x0 d.m y0) (.slice x1 d.np y1) (.slice x2 d.nr y2) (.slice x3 d.nt y3) (.slice x4 d.nd y4) (.slice x5 d.mf y5) (.sl g6 0 d.ns c6) (.sl g7 0 d.nq c7)) 41)).alloc (.cells zR 41)).heap[w.heap.size+1]?=some (.cells zR 41 (0,0)):=by simpa using Ak (w.alloc (.cells (kR d (.slice x0 d.m y0) (.slice x1 d.np y1) (.slice x2 d.nr y2) (.slice x3 d.nt y3) (.slice x4 d.nd y4) (.slice x5 d.mf y5) (.sl g6 0 d.ns c6) (.sl g7 0 d.nq c7)) 41)) zR 41
 have HQ:=HP0.below L0;have bd0:=HP0.bd;have n60:=HP0.n6;have n70:=HP0.n7;clear HP0
 obtain ⟨rg,hrg⟩:∃ x,Hid (x=rgN (a%65536)):=⟨_,rfl⟩
 obtain ⟨at',hat⟩:∃ x,Hid (x=rgP (a%65536)):=⟨_,rfl⟩
 have HG:=Ac (fun W=>Ij W a);rw [<- hrg.out,<- hat.out] at HG
 by_cases r2:rg=2
 .have HV:Hid (Br d a y={ d with c:=Kx true at' y d.c,s:=Ky true at' y d.s,ad:=Kz true at' y d.ad,pl:=La true at' y d.pl,tb:=My true at' y d.ad d.tb }):=by
   have e:rgN (a%65536)=2:=by rw [<- hrg.out]; exact r2
   show _=_
   unfold Br;simp only [e,if_true]
   first | done | (rw [<- hat.out]; done) | rw [<- hat.out]
  rw [HV.out];subst r2;clear HV hrg
  obtain ⟨c',hc'⟩:∃ x,Hid (x=Kx true at' y d.c):=⟨_,rfl⟩
  obtain ⟨s',hs'⟩:∃ x,Hid (x=Ky true at' y d.s):=⟨_,rfl⟩
  obtain ⟨ad',had'⟩:∃ x,Hid (x=Kz true at' y d.ad):=⟨_,rfl⟩
  obtain ⟨pl',hpl'⟩:∃ x,Hid (x=La true at' y d.pl):=⟨_,rfl⟩
  obtain ⟨tb',htb'⟩:∃ x,Hid (x=My true at' y d.ad d.tb):=⟨_,rfl⟩
  have HP:=Ac (fun W E v h=>Ob W E v d.t d.c d.s d.ad d.pl d.bl d.nt d.tb d.nd d.dt h at' y);rw [oku,<- hc'.out,<- hs'.out,<- had'.out,<- hpl'.out,<- htb'.out] at HP;rw [<- hc'.out,<- hs'.out,<- had'.out,<- hpl'.out,<- htb'.out];clear hc' hs' had' hpl' htb' hat
  go_enter func92,ntmps92
  go_wp2_with fail;generalize (w.alloc (.cells (kR d (.slice x0 d.m y0) (.slice x1 d.np y1) (.slice x2 d.nr y2) (.slice x3 d.nt y3) (.slice x4 d.nd y4) (.slice x5 d.mf y5) (.sl g6 0 d.ns c6) (.sl g7 0 d.nq c7)) 41)).alloc (.cells zR 41)=W0 at *;refine (HG.out _).mono ?_;rintro e W1 ⟨rfl,rfl⟩;have c0':=Af B0;go_wp2_with fail;clear c0';refine (HP.out _ _ _ HQ.h3).mono ?_;rintro e W2 ⟨v',rfl,P3,L⟩;clear HP;have l12:=L.size;have hb1:=Ad B1;replace HQ:=HQ.below L;replace L0:=Ah L0 L;replace B0:=Ab B0 L (Ad B0);replace B1:=Ab B1 L (Ad B1);obtain ⟨x3',y3',x4',y4',rfl⟩:=P3.two;replace P3:=P3.mono (E:=fun b=>W1.heap.size<=b/\b<W2.heap.size) (fun b hb h=>⟨h,hb⟩);replace HQ:=HQ.ppu P3 (by omega) hlo l12 (Nat.le_refl _);clear P3;clear L;have c0':=Af B0;have f0':=Au B0;go_upto_region 10 with (fail);clear c0' f0'
  rename_i K2 hK2;have TT:=Wrote.setCell (b:=w.heap.size) (o:=19) (R:=fun b _=>b=w.heap.size) (Wrote.setCell (b:=w.heap.size) (o:=18) (R:=fun b _=>b=w.heap.size) (Wrote.setCell (b:=w.heap.size) (o:=17) (R:=fun b _=>b=w.heap.size) (Wrote.setCell (b:=w.heap.size) (o:=16) (R:=fun b _=>b=w.heap.size) (Wrote.setCell (b:=w.heap.size) (o:=15) (R:=fun b _=>b=w.heap.size) (Wrote.setCell (b:=w.heap.size) (o:=14) (R:=fun b _=>b=w.heap.size) (Wrote.setCell (b:=w.heap.size) (o:=13) (R:=fun b _=>b=w.heap.size) (Wrote.setCell (b:=w.heap.size) (o:=12) (R:=fun b _=>b=w.heap.size) (Wrote.refl _ W2) (fun _=>rfl) (.i d.t)) (fun _=>rfl) (.i c')) (fun _=>rfl) (.i s')) (fun _=>rfl) (.i ad')) (fun _=>rfl) (.i pl')) (fun _=>rfl) (.bool d.bl)) (fun _=>rfl) (.slice x3' d.nt y3')) (fun _=>rfl) (.slice x4' d.nd y4')
  replace B1:=Al B1 TT (fun o (h:_=_)=>by omega);replace B0:=Am (o:=12) B0 (.i d.t);replace B0:=Am (o:=13) B0 (.i c');replace B0:=Am (o:=14) B0 (.i s');replace B0:=Am (o:=15) B0 (.i ad');replace B0:=Am (o:=16) B0 (.i pl');replace B0:=Am (o:=17) B0 (.bool d.bl);replace B0:=Am (o:=18) B0 (.slice x3' d.nt y3');replace B0:=Am (o:=19) B0 (.slice x4' d.nd y4');simp only [Sa,Sb,Sc] at B0;replace HQ:=HQ.keepD TT (fun i b o h (e:b=_)=>by rcases h with ⟨-,h1,h2⟩ | ⟨-,h⟩; (omega); (have:=bd0 _ _ h; omega)) (fun o (e:_=_)=>by omega) (fun o (e:_=_)=>by omega);replace L0:=L0.trans (TT.below L0.size (fun b o hb (h:b=_)=>by omega));clear TT
  generalize (((((((W2.sc w.heap.size 12 (.i d.t)).sc w.heap.size 13 (.i c')).sc w.heap.size 14 (.i s')).sc w.heap.size 15 (.i ad')).sc w.heap.size 16 (.i pl')).sc w.heap.size 17 (.bool d.bl)).sc w.heap.size 18 (.slice x3' d.nt y3')).sc w.heap.size 19 (.slice x4' d.nd y4')=W3 at *;refine wp_region_lit ?_;refine wpList_load_row rfl _ _ rfl w.heap.size rfl _ _ _ _ B0 underlying41 rfl An ?_;refine wpList_store_row rfl _ _ _ rfl (w.heap.size+1) _ rfl rfl _ _ B1 An rfl (by first | kernel_rfl | simp [Value.oneCell']) ?_;have B3:=setRow_heap _ _ _ (kR { d with c:=c',s:=s',ad:=ad',pl:=pl' } (.slice x0 d.m y0) (.slice x1 d.np y1) (.slice x2 d.nr y2) (.slice x3' d.nt y3') (.slice x4' d.nd y4') (.slice x5 d.mf y5) (.sl g6 0 d.ns c6) (.sl g7 0 d.nq c7)) _ _ B1
  have WW:=As B1 (kR { d with c:=c',s:=s',ad:=ad',pl:=pl' } (.slice x0 d.m y0) (.slice x1 d.np y1) (.slice x2 d.nr y2) (.slice x3' d.nt y3') (.slice x4' d.nd y4') (.slice x5 d.mf y5) (.sl g6 0 d.ns c6) (.sl g7 0 d.nq c7));generalize W3.setRow (w.heap.size+1) (kR { d with c:=c',s:=s',ad:=ad',pl:=pl' } (.slice x0 d.m y0) (.slice x1 d.np y1) (.slice x2 d.nr y2) (.slice x3' d.nt y3') (.slice x4' d.nd y4') (.slice x5 d.mf y5) (.sl g6 0 d.ns c6) (.sl g7 0 d.nq c7))=W4 at *;refine hK2 _ _ ?_;have HF:=Ac (HQ.keepD WW (fun i b o h (e:b=_)=>by rcases h with ⟨-,h1,h2⟩ | ⟨-,h⟩; (omega); (have:=bd0 _ _ h; omega)) (fun o (e:_=_)=>by omega) (fun o (e:_=_)=>by omega))
  have HX:=Ac (A9.nx (E:=D) (w:=w) HF.out (fun i b h=>by first | exact Or.inl ⟨_,h⟩ | (rcases h with ⟨-,h1,h2⟩ | ⟨-,h⟩; (exact Or.inr (by omega)); (exact Or.inl ⟨_,h⟩)) | (rcases h with ⟨-,rfl⟩ | ⟨-,h⟩; (exact hn9); (exact Or.inl ⟨_,h⟩)) | (rcases h with ⟨-,rfl⟩ | ⟨-,⟨-,h1,h2⟩ | ⟨-,h⟩⟩; (exact hn9); (exact Or.inr (by omega)); (exact Or.inl ⟨_,h⟩))));have LF:=Ac ((L0.trans (WW.below L0.size (fun b o hb (e:b=_)=>by omega))));clear HQ WW B0 B1 L0;go_wp2;refine bodyPost_ret (v:=.agg (kR { d with c:=c',s:=s',ad:=ad',pl:=pl' } (.slice x0 d.m y0) (.slice x1 d.np y1) (.slice x2 d.nr y2) (.slice x3' d.nt y3') (.slice x4' d.nd y4') (.slice x5 d.mf y5) (.sl g6 0 d.ns c6) (.sl g7 0 d.nq c7))) (results_cell_row results92 _ _ (w.heap.size+1) _ _ _ _ rfl B3 underlying41 rfl An) rfl ?_;exact ⟨_,rfl,HX.out,LF.out⟩
 by_cases r3:rg=3
 .have HV:Hid (Br d a y={ d with P:=J6 true d.P at' y,L:=J7 true d.L at' y,Q:=Lb true d.Q at' y,R:=Lc true d.R at' y }):=by
   have e:rgN (a%65536)=3:=by rw [<- hrg.out]; exact r3
   show _=_
   unfold Br;simp only [e,if_true,show ¬ ((3:Int)=2) by decide,if_false]
   first | done | (rw [<- hat.out]; done) | rw [<- hat.out]
  rw [HV.out];subst r3;clear HV hrg
  obtain ⟨p',hp'⟩:∃ x,Hid (x=J6 true d.P at' y):=⟨_,rfl⟩
  obtain ⟨l',hl'⟩:∃ x,Hid (x=J7 true d.L at' y):=⟨_,rfl⟩
  obtain ⟨q',hq'⟩:∃ x,Hid (x=Lb true d.Q at' y):=⟨_,rfl⟩
  obtain ⟨r',hr'⟩:∃ x,Hid (x=Lc true d.R at' y):=⟨_,rfl⟩
  have HP:=Ac (fun W (_:A9 W lo w.heap.size D (.slice x0 d.m y0) (.slice x1 d.np y1) (.slice x2 d.nr y2) (.slice x3 d.nt y3) (.slice x4 d.nd y4) (.slice x5 d.mf y5) gb cp g6 c6 g7 c7 d)=>Sq W d.T d.P d.K d.B d.L d.Q d.R at' y);rw [oka,<- hp'.out,<- hl'.out,<- hq'.out,<- hr'.out] at HP;rw [<- hp'.out,<- hl'.out,<- hq'.out,<- hr'.out];clear hp' hl' hq' hr' hat
  go_enter func92,ntmps92
  go_wp2_with fail;generalize (w.alloc (.cells (kR d (.slice x0 d.m y0) (.slice x1 d.np y1) (.slice x2 d.nr y2) (.slice x3 d.nt y3) (.slice x4 d.nd y4) (.slice x5 d.mf y5) (.sl g6 0 d.ns c6) (.sl g7 0 d.nq c7)) 41)).alloc (.cells zR 41)=W0 at *;refine (HG.out _).mono ?_;rintro e W1 ⟨rfl,rfl⟩;have c0':=Af B0;go_wp2_with fail;clear c0';refine (HP.out _ HQ).mono ?_;rintro e W2 ⟨rfl,L⟩;clear HP;have l12:=L.size;have hb1:=Ad B1;replace HQ:=HQ.below L;replace L0:=Ah L0 L;replace B0:=Ab B0 L (Ad B0);replace B1:=Ab B1 L (Ad B1)
  replace HQ:A9 W2 lo w.heap.size D (.slice x0 d.m y0) (.slice x1 d.np y1) (.slice x2 d.nr y2) (.slice x3 d.nt y3) (.slice x4 d.nd y4) (.slice x5 d.mf y5) gb cp g6 c6 g7 c7 { d with P:=p',L:=l',Q:=q',R:=r' }:=⟨HQ.h0,HQ.h1,HQ.h2,HQ.h3,HQ.h4,HQ.h4D,HQ.h6,HQ.h6D,HQ.h7,HQ.h7D,HQ.dis,HQ.bd,HQ.n6,HQ.n7,HQ.nN,HQ.hps⟩
  clear L;have c0':=Af B0;have f0':=Au B0;go_upto_region 10 with (fail);clear c0' f0';rename_i K2 hK2;have TT:=Wrote.setCell (b:=w.heap.size) (o:=26) (R:=fun b _=>b=w.heap.size) (Wrote.setCell (b:=w.heap.size) (o:=25) (R:=fun b _=>b=w.heap.size) (Wrote.setCell (b:=w.heap.size) (o:=24) (R:=fun b _=>b=w.heap.size) (Wrote.setCell (b:=w.heap.size) (o:=23) (R:=fun b _=>b=w.heap.size) (Wrote.setCell (b:=w.heap.size) (o:=22) (R:=fun b _=>b=w.heap.size) (Wrote.setCell (b:=w.heap.size) (o:=21) (R:=fun b _=>b=w.heap.size) (Wrote.setCell (b:=w.heap.size) (o:=20) (R:=fun b _=>b=w.heap.size) (Wrote.refl _ W2) (fun _=>rfl) (.i d.T)) (fun _=>rfl) (.i p')) (fun _=>rfl) (.i d.K)) (fun _=>rfl) (.i d.B)) (fun _=>rfl) (.i l')) (fun _=>rfl) (.bool q')) (fun _=>rfl) (.bool r')
  replace B1:=Al B1 TT (fun o (h:_=_)=>by omega);replace B0:=Am (o:=20) B0 (.i d.T);replace B0:=Am (o:=21) B0 (.i p');replace B0:=Am (o:=22) B0 (.i d.K);replace B0:=Am (o:=23) B0 (.i d.B);replace B0:=Am (o:=24) B0 (.i l');replace B0:=Am (o:=25) B0 (.bool q');replace B0:=Am (o:=26) B0 (.bool r');simp only [Sa,Sb,Sc] at B0;replace HQ:=HQ.keepD TT (fun i b o h (e:b=_)=>by have:=bd0 _ _ h; omega) (fun o (e:_=_)=>by omega) (fun o (e:_=_)=>by omega);replace L0:=L0.trans (TT.below L0.size (fun b o hb (h:b=_)=>by omega));clear TT;generalize ((((((W2.sc w.heap.size 20 (.i d.T)).sc w.heap.size 21 (.i p')).sc w.heap.size 22 (.i d.K)).sc w.heap.size 23 (.i d.B)).sc w.heap.size 24 (.i l')).sc w.heap.size 25 (.bool q')).sc w.heap.size 26 (.bool r')=W3 at *;refine wp_region_lit ?_
  refine wpList_load_row rfl _ _ rfl w.heap.size rfl _ _ _ _ B0 underlying41 rfl An ?_;refine wpList_store_row rfl _ _ _ rfl (w.heap.size+1) _ rfl rfl _ _ B1 An rfl (by first | kernel_rfl | simp [Value.oneCell']) ?_;have B3:=setRow_heap _ _ _ (kR { d with P:=p',L:=l',Q:=q',R:=r' } (.slice x0 d.m y0) (.slice x1 d.np y1) (.slice x2 d.nr y2) (.slice x3 d.nt y3) (.slice x4 d.nd y4) (.slice x5 d.mf y5) (.sl g6 0 d.ns c6) (.sl g7 0 d.nq c7)) _ _ B1;have WW:=As B1 (kR { d with P:=p',L:=l',Q:=q',R:=r' } (.slice x0 d.m y0) (.slice x1 d.np y1) (.slice x2 d.nr y2) (.slice x3 d.nt y3) (.slice x4 d.nd y4) (.slice x5 d.mf y5) (.sl g6 0 d.ns c6) (.sl g7 0 d.nq c7))
  generalize W3.setRow (w.heap.size+1) (kR { d with P:=p',L:=l',Q:=q',R:=r' } (.slice x0 d.m y0) (.slice x1 d.np y1) (.slice x2 d.nr y2) (.slice x3 d.nt y3) (.slice x4 d.nd y4) (.slice x5 d.mf y5) (.sl g6 0 d.ns c6) (.sl g7 0 d.nq c7))=W4 at *;refine hK2 _ _ ?_;have HF:=Ac (HQ.keepD WW (fun i b o h (e:b=_)=>by have:=bd0 _ _ h; omega) (fun o (e:_=_)=>by omega) (fun o (e:_=_)=>by omega));have HX:=Ac (A9.nx (E:=D) (w:=w) HF.out (fun i b h=>by first | exact Or.inl ⟨_,h⟩ | (rcases h with ⟨-,h1,h2⟩ | ⟨-,h⟩; (exact Or.inr (by omega)); (exact Or.inl ⟨_,h⟩)) | (rcases h with ⟨-,rfl⟩ | ⟨-,h⟩; (exact hn9); (exact Or.inl ⟨_,h⟩)) | (rcases h with ⟨-,rfl⟩ | ⟨-,⟨-,h1,h2⟩ | ⟨-,h⟩⟩; (exact hn9); (exact Or.inr (by omega)); (exact Or.inl ⟨_,h⟩))));have LF:=Ac ((L0.trans (WW.below L0.size (fun b o hb (e:b=_)=>by omega))))
  clear HQ WW B0 B1 L0;go_wp2;refine bodyPost_ret (v:=.agg (kR { d with P:=p',L:=l',Q:=q',R:=r' } (.slice x0 d.m y0) (.slice x1 d.np y1) (.slice x2 d.nr y2) (.slice x3 d.nt y3) (.slice x4 d.nd y4) (.slice x5 d.mf y5) (.sl g6 0 d.ns c6) (.sl g7 0 d.nq c7))) (results_cell_row results92 _ _ (w.heap.size+1) _ _ _ _ rfl B3 underlying41 rfl An) rfl ?_;exact ⟨_,rfl,HX.out,LF.out⟩
 by_cases r4:rg=4
 .have HV:Hid (Br d a y={ d with hd:=Gx y,sh:=Ec d.hd d.sh d.np d.p d.t y }):=by
   have e:rgN (a%65536)=4:=by rw [<- hrg.out]; exact r4
   show _=_
   unfold Br;simp only [e,if_true,show ¬ ((4:Int)=2) by decide,if_false,show ¬ ((4:Int)=3) by decide,if_false]
   first | done | (rw [<- hat.out]; done) | rw [<- hat.out]
  rw [HV.out];subst r4;clear HV hrg
  obtain ⟨h',hh'⟩:∃ x,Hid (x=Gx y):=⟨_,rfl⟩
  obtain ⟨s',hs'⟩:∃ x,Hid (x=Ec d.hd d.sh d.np d.p d.t y):=⟨_,rfl⟩
  have HP:=Ac (fun W (h:A9 W lo w.heap.size D (.slice x0 d.m y0) (.slice x1 d.np y1) (.slice x2 d.nr y2) (.slice x3 d.nt y3) (.slice x4 d.nd y4) (.slice x5 d.mf y5) gb cp g6 c6 g7 c7 d)=>Su W (On (D 1)) d.hd d.sh (.slice x1 d.np y1) d.np d.p d.t y (by have:=(Er oku).2; omega) (by obtain ⟨aa,cc,e,hs⟩:=h.h1; rw [e]; exact hs.ints cc));rw [<- hh'.out,<- hs'.out] at HP;rw [<- hh'.out,<- hs'.out];clear hh' hs' hat
  go_enter func92,ntmps92
  go_wp2_with fail;generalize (w.alloc (.cells (kR d (.slice x0 d.m y0) (.slice x1 d.np y1) (.slice x2 d.nr y2) (.slice x3 d.nt y3) (.slice x4 d.nd y4) (.slice x5 d.mf y5) (.sl g6 0 d.ns c6) (.sl g7 0 d.nq c7)) 41)).alloc (.cells zR 41)=W0 at *;refine (HG.out _).mono ?_;rintro e W1 ⟨rfl,rfl⟩;have c0':=Af B0;go_wp2_with fail;clear c0';refine (HP.out _ HQ).mono ?_;rintro e W2 ⟨rfl,L⟩;clear HP;have l12:=L.size;have hb1:=Ad B1;replace HQ:=HQ.below L;replace L0:=Ah L0 L;replace B0:=Ab B0 L (Ad B0);replace B1:=Ab B1 L (Ad B1)
  replace HQ:A9 W2 lo w.heap.size D (.slice x0 d.m y0) (.slice x1 d.np y1) (.slice x2 d.nr y2) (.slice x3 d.nt y3) (.slice x4 d.nd y4) (.slice x5 d.mf y5) gb cp g6 c6 g7 c7 { d with hd:=h',sh:=s' }:=⟨HQ.h0,HQ.h1,HQ.h2,HQ.h3,HQ.h4,HQ.h4D,HQ.h6,HQ.h6D,HQ.h7,HQ.h7D,HQ.dis,HQ.bd,HQ.n6,HQ.n7,HQ.nN,HQ.hps⟩
  clear L;have c0':=Af B0;have f0':=Au B0;go_upto_region 10 with (fail);clear c0' f0';rename_i K2 hK2;have TT:=Wrote.setCell (b:=w.heap.size) (o:=28) (R:=fun b _=>b=w.heap.size) (Wrote.setCell (b:=w.heap.size) (o:=27) (R:=fun b _=>b=w.heap.size) (Wrote.refl _ W2) (fun _=>rfl) (.bool h')) (fun _=>rfl) (.i s');replace B1:=Al B1 TT (fun o (h:_=_)=>by omega);replace B0:=Am (o:=27) B0 (.bool h');replace B0:=Am (o:=28) B0 (.i s');simp only [Sa,Sb,Sc] at B0;replace HQ:=HQ.keepD TT (fun i b o h (e:b=_)=>by have:=bd0 _ _ h; omega) (fun o (e:_=_)=>by omega) (fun o (e:_=_)=>by omega);replace L0:=L0.trans (TT.below L0.size (fun b o hb (h:b=_)=>by omega));clear TT;generalize (W2.sc w.heap.size 27 (.bool h')).sc w.heap.size 28 (.i s')=W3 at *;refine wp_region_lit ?_
  refine wpList_load_row rfl _ _ rfl w.heap.size rfl _ _ _ _ B0 underlying41 rfl An ?_;refine wpList_store_row rfl _ _ _ rfl (w.heap.size+1) _ rfl rfl _ _ B1 An rfl (by first | kernel_rfl | simp [Value.oneCell']) ?_;have B3:=setRow_heap _ _ _ (kR { d with hd:=h',sh:=s' } (.slice x0 d.m y0) (.slice x1 d.np y1) (.slice x2 d.nr y2) (.slice x3 d.nt y3) (.slice x4 d.nd y4) (.slice x5 d.mf y5) (.sl g6 0 d.ns c6) (.sl g7 0 d.nq c7)) _ _ B1;have WW:=As B1 (kR { d with hd:=h',sh:=s' } (.slice x0 d.m y0) (.slice x1 d.np y1) (.slice x2 d.nr y2) (.slice x3 d.nt y3) (.slice x4 d.nd y4) (.slice x5 d.mf y5) (.sl g6 0 d.ns c6) (.sl g7 0 d.nq c7))
  generalize W3.setRow (w.heap.size+1) (kR { d with hd:=h',sh:=s' } (.slice x0 d.m y0) (.slice x1 d.np y1) (.slice x2 d.nr y2) (.slice x3 d.nt y3) (.slice x4 d.nd y4) (.slice x5 d.mf y5) (.sl g6 0 d.ns c6) (.sl g7 0 d.nq c7))=W4 at *;refine hK2 _ _ ?_;have HF:=Ac (HQ.keepD WW (fun i b o h (e:b=_)=>by have:=bd0 _ _ h; omega) (fun o (e:_=_)=>by omega) (fun o (e:_=_)=>by omega));have HX:=Ac (A9.nx (E:=D) (w:=w) HF.out (fun i b h=>by first | exact Or.inl ⟨_,h⟩ | (rcases h with ⟨-,h1,h2⟩ | ⟨-,h⟩; (exact Or.inr (by omega)); (exact Or.inl ⟨_,h⟩)) | (rcases h with ⟨-,rfl⟩ | ⟨-,h⟩; (exact hn9); (exact Or.inl ⟨_,h⟩)) | (rcases h with ⟨-,rfl⟩ | ⟨-,⟨-,h1,h2⟩ | ⟨-,h⟩⟩; (exact hn9); (exact Or.inr (by omega)); (exact Or.inl ⟨_,h⟩))));have LF:=Ac ((L0.trans (WW.below L0.size (fun b o hb (e:b=_)=>by omega))));clear HQ WW B0 B1 L0;go_wp2
  refine bodyPost_ret (v:=.agg (kR { d with hd:=h',sh:=s' } (.slice x0 d.m y0) (.slice x1 d.np y1) (.slice x2 d.nr y2) (.slice x3 d.nt y3) (.slice x4 d.nd y4) (.slice x5 d.mf y5) (.sl g6 0 d.ns c6) (.sl g7 0 d.nq c7))) (results_cell_row results92 _ _ (w.heap.size+1) _ _ _ _ rfl B3 underlying41 rfl An) rfl ?_;exact ⟨_,rfl,HX.out,LF.out⟩
 have HV:Hid (Br d a y={ d with g:=Fs true d.g (a%65536) y,bank:=Fb true d.m d.bank (a%65536) y }):=by
  have e2:¬ rgN (a%65536)=2:=by rw [<- hrg.out]; exact r2
  have e3:¬ rgN (a%65536)=3:=by rw [<- hrg.out]; exact r3
  have e4:¬ rgN (a%65536)=4:=by rw [<- hrg.out]; exact r4
  show _=_
  unfold Br;rw [if_neg e2,if_neg e3,if_neg e4]
 have q2:(rg==2)=false:=beq_eq_false_iff_ne.2 r2;have q3:(rg==3)=false:=beq_eq_false_iff_ne.2 r3;have q4:(rg==4)=false:=beq_eq_false_iff_ne.2 r4;clear r2 r3 r4;rw [HV.out];clear HV hrg
 obtain ⟨g',hg'⟩:∃ x,Hid (x=Fs true d.g (a%65536) y):=⟨_,rfl⟩
 obtain ⟨b',hb'⟩:∃ x,Hid (x=Fb true d.m d.bank (a%65536) y):=⟨_,rfl⟩
 have HP:=Ac (fun W F G v u h k=>Jce W F G v u d.m d.ln d.f d.nr d.g d.bank a y h k);rw [okm,<- hg'.out,<- hb'.out] at HP;rw [<- hg'.out,<- hb'.out];clear hg' hb' hat
 go_enter func92,ntmps92
 go_wp2_with fail;generalize (w.alloc (.cells (kR d (.slice x0 d.m y0) (.slice x1 d.np y1) (.slice x2 d.nr y2) (.slice x3 d.nt y3) (.slice x4 d.nd y4) (.slice x5 d.mf y5) (.sl g6 0 d.ns c6) (.sl g7 0 d.nq c7)) 41)).alloc (.cells zR 41)=W0 at *;refine (HG.out _).mono ?_;rintro e W1 ⟨rfl,rfl⟩;have c0':=Af B0;go_wp2_with fail;clear c0';refine (HP.out _ _ _ _ _ HQ.h0.ints (by obtain ⟨_,e,I⟩:=HQ.h2.ints; simp only [Value.agg.injEq,Array.mk.injEq,List.cons.injEq,and_true] at e; rw [e]; exact I)).mono ?_;rintro e W2 ⟨z2,rfl,OI,L⟩;clear HP;have l12:=L.size;have hb1:=Ad B1;replace HQ:=HQ.below L;replace L0:=Ah L0 L;replace B0:=Ab B0 L (Ad B0);replace B1:=Ab B1 L (Ad B1);have P2:=(Bw.own (bank:=b') OI).mono (E:=fun b=>W1.heap.size<=b/\b<W2.heap.size) (fun b hb h=>⟨h,hb⟩);clear OI;obtain ⟨x2',y2'',e2'⟩:=P2.two
 simp only [Value.agg.injEq,Array.mk.injEq,List.cons.injEq,and_true] at e2';subst e2';replace HQ:=HQ.mem P2 (by omega) hlo l12 (Nat.le_refl _);clear P2;clear L;have c0':=Af B0;have f0':=Au B0;go_upto_region 10 with (fail);clear c0' f0';rename_i K2 hK2;have TT:=Wrote.setCell (b:=w.heap.size) (o:=3) (R:=fun b _=>b=w.heap.size) (Wrote.setCell (b:=w.heap.size) (o:=2) (R:=fun b _=>b=w.heap.size) (Wrote.refl _ W2) (fun _=>rfl) (.slice x2' d.nr y2'')) (fun _=>rfl) (.i b');replace B1:=Al B1 TT (fun o (h:_=_)=>by omega);replace B0:=Am (o:=2) B0 (.slice x2' d.nr y2'');replace B0:=Am (o:=3) B0 (.i b');simp only [Sa,Sb,Sc] at B0;replace HQ:=HQ.keepD TT (fun i b o h (e:b=_)=>by rcases h with ⟨-,h1,h2⟩ | ⟨-,h⟩; (omega); (have:=bd0 _ _ h; omega)) (fun o (e:_=_)=>by omega) (fun o (e:_=_)=>by omega)
 replace L0:=L0.trans (TT.below L0.size (fun b o hb (h:b=_)=>by omega));clear TT;generalize (W2.sc w.heap.size 2 (.slice x2' d.nr y2'')).sc w.heap.size 3 (.i b')=W3 at *;refine wp_region_lit ?_;refine wpList_load_row rfl _ _ rfl w.heap.size rfl _ _ _ _ B0 underlying41 rfl An ?_;refine wpList_store_row rfl _ _ _ rfl (w.heap.size+1) _ rfl rfl _ _ B1 An rfl (by first | kernel_rfl | simp [Value.oneCell']) ?_;have B3:=setRow_heap _ _ _ (kR { d with bank:=b' } (.slice x0 d.m y0) (.slice x1 d.np y1) (.slice x2' d.nr y2'') (.slice x3 d.nt y3) (.slice x4 d.nd y4) (.slice x5 d.mf y5) (.sl g6 0 d.ns c6) (.sl g7 0 d.nq c7)) _ _ B1;have WW:=As B1 (kR { d with bank:=b' } (.slice x0 d.m y0) (.slice x1 d.np y1) (.slice x2' d.nr y2'') (.slice x3 d.nt y3) (.slice x4 d.nd y4) (.slice x5 d.mf y5) (.sl g6 0 d.ns c6) (.sl g7 0 d.nq c7))
 generalize W3.setRow (w.heap.size+1) (kR { d with bank:=b' } (.slice x0 d.m y0) (.slice x1 d.np y1) (.slice x2' d.nr y2'') (.slice x3 d.nt y3) (.slice x4 d.nd y4) (.slice x5 d.mf y5) (.sl g6 0 d.ns c6) (.sl g7 0 d.nq c7))=W4 at *;refine hK2 _ _ ?_;have HF:=Ac (HQ.keepD WW (fun i b o h (e:b=_)=>by rcases h with ⟨-,h1,h2⟩ | ⟨-,h⟩; (omega); (have:=bd0 _ _ h; omega)) (fun o (e:_=_)=>by omega) (fun o (e:_=_)=>by omega));have HX:=Ac (A9.nx (E:=D) (w:=w) HF.out (fun i b h=>by first | exact Or.inl ⟨_,h⟩ | (rcases h with ⟨-,h1,h2⟩ | ⟨-,h⟩; (exact Or.inr (by omega)); (exact Or.inl ⟨_,h⟩)) | (rcases h with ⟨-,rfl⟩ | ⟨-,h⟩; (exact hn9); (exact Or.inl ⟨_,h⟩)) | (rcases h with ⟨-,rfl⟩ | ⟨-,⟨-,h1,h2⟩ | ⟨-,h⟩⟩; (exact hn9); (exact Or.inr (by omega)); (exact Or.inl ⟨_,h⟩))))
 have LF:=Ac ((L0.trans (WW.below L0.size (fun b o hb (e:b=_)=>by omega))));clear HQ WW B0 B1 L0;go_wp2;refine bodyPost_ret (v:=.agg (kR { d with bank:=b' } (.slice x0 d.m y0) (.slice x1 d.np y1) (.slice x2' d.nr y2'') (.slice x3 d.nt y3) (.slice x4 d.nd y4) (.slice x5 d.mf y5) (.sl g6 0 d.ns c6) (.sl g7 0 d.nq c7))) (results_cell_row results92 _ _ (w.heap.size+1) _ _ _ _ rfl B3 underlying41 rfl An) rfl ?_;exact ⟨_,rfl,HX.out,LF.out⟩
theorem Zk {w:World} {lo g n:Nat} {f:Nat->Int} (h:w.heap[g]?=some (.cells (rowVals n f).toArray 3 (0,0))) (hg:lo<=g) (hn:n<=1048576):Ao w lo (.slice (some ⟨g,0,none⟩) n n) n f:=by
 have hc:=World.news_of_block h;have hz:g<w.heap.size:=(Array.getElem?_eq_some_iff.1 h).1;refine ⟨_,n,rfl,hn,fun i hi=>⟨g,0,rfl,?_⟩,fun b o hF=>?_,fun b o hF=>?_⟩
 .have:=hc i (.i (f i)) (Bj n f i hi)
  rw [Ig] at this;exact this
 .obtain ⟨off,e,_⟩:=hF
  simp only [Option.some.injEq,Addr.mk.injEq,and_true] at e;obtain ⟨rfl,rfl⟩:=e;refine ⟨hz,?_⟩
  simp [World.frozen?,h]
 .obtain ⟨off,e,_⟩:=hF
  simp only [Option.some.injEq,Addr.mk.injEq,and_true] at e
  omega
def vals (k:IntKind) (n:Nat) (g:Nat->Int):List Value:=(List.range n).map (fun i=>.int k (g i))
def flat (f:Nat->Nat->Int) (j:Nat):Int:=f (j/256) (j%256)
def Jg9 (m:Nat) (f:Nat->Nat->Int) (s:Int) (j:Nat):Int:=if j=0 then 50 else if j=1 then 67 else if j=2 then 76 else if j=3 then 75 else if j=4 then m else if j=5 then s else flat f (j-6)
theorem Re (w:World) (C:Array Value) (t:TypeId) (fr:Nat × Nat) (n:Nat) (hn:n=w.heap.size):∀ j u,C.toList[j]?=some u->(w.alloc (.cells C t fr)).cell? ((⟨n,0,none⟩:Addr).add j)=some u:=by
 subst hn;exact World.news_of_block (t:=t) (fr:=fr) (by show (w.heap.push _)[w.heap.size]?=_; simp)
def part (m:Nat) (f:Nat->Nat->Int) (k j:Nat):Int:=if j<6+k then Jg9 m f 0 j else 0
set_option linter.unusedVariables false
set_option linter.unusedSimpArgs false
open Go.Sort
theorem Xg (T C L:Int) (B:Int) (S Q:Bool):Qc T L=(if T%32=0 then Ux L else L)/\Ut T L S Q=(if T%32=0 then Uy L S Q else Q):=by
 unfold Qc Ut Ux Uy
 by_cases h:T%32=0 <;> by_cases hL:0<L <;> simp [h,hL]
structure LP (w W:World) (B c:Nat) (a:Option Addr) (len cap g n x:Nat) (f:Nat->Int):Prop where
 row:Row W w.heap.size g n x f
 cur:Ep W B c a len cap
 step:Step c w W
theorem LP.lt {w W:World} {B c:Nat} {a:Option Addr} {len cap g n x:Nat} {f:Nat->Int} (h:LP w W B c a len cap g n x f) (hc:c<w.heap.size):c<W.heap.size:=Nat.lt_of_lt_of_le hc h.step.size
theorem LP.moved {w W W':World} {B c:Nat} {a:Option Addr} {len cap g n x:Nat} {f:Nat->Int} (h:LP w W B c a len cap g n x f) (hc:c<w.heap.size) (M:Step c W W') (H:Ep W' B c a len cap):LP w W' B c a len cap g n x f :=
 ⟨h.row.block (M.block g h.row.parts.2.1 (by have:=h.row.parts.1; omega)),H,h.step.trans M⟩
theorem LP.below {w W W':World} {B c:Nat} {a:Option Addr} {len cap g n x:Nat} {f:Nat->Int} (h:LP w W B c a len cap g n x f) (hc:c<w.heap.size) (M:Below W.heap.size W W'):LP w W' B c a len cap g n x f :=
 h.moved hc (Ez M (Nat.le_refl _)) (h.cur.below M (h.lt hc))
theorem LP.push {w W W':World} {B c:Nat} {a:Option Addr} {len cap g n x:Nat} {f:Nat->Int} (h:LP w W B c a len cap g n x f) (hc:c<w.heap.size) {g' n' x':Nat} {f':Nat->Int} (R:Row W' w.heap.size g' n' x' f') (WW:Wrote (fun b _=>b=g) W W'):LP w W' B c a len cap g' n' x' f':=by
 have hg:=h.row.parts.1;exact ⟨R,h.cur.below (WW.below (B:=w.heap.size) h.step.size (fun b o hb e=>by omega)) hc,⟨WW.os.trans h.step.os,WW.tape.trans h.step.tape,WW.output.trans h.step.output,Nat.le_trans h.step.size WW.size,fun k hk hkc=>(WW.block k (Nat.lt_of_lt_of_le hk h.step.size) (fun o e=>by omega)).trans (h.step.block k hk hkc)⟩⟩
def zero34:Array Value:=zR
theorem Jl:zero34.size=34:=rfl
def Jm:Aq :=
 { m:=0,ln:=fun _=>0,f:=fun _ _=>0,np:=0,p:=fun _=>0,nr:=0,g:=fun _=>0,bank:=0,A:=0,X:=0,S:=0,Pc:=0,Z:=false,N:=false,C:=false,I:=false,t:=0,c:=0,s:=0,ad:=0,pl:=0,bl:=false,nt:=0,tb:=fun _=>0,nd:=0,dt:=fun _=>0,T:=0,P:=0,K:=0,B:=0,L:=0,Q:=false,R:=false,hd:=false,sh:=0,nmi:=false,st:=0,mf:=0,lf:=fun _=>0,fr:=fun _ _=>0,ns:=0,sm:=fun _=>0,nq:=0,rd:=fun _=>0 }
theorem Cu.noneL {W:World} {D:Nat->Prop} (f:Nat->Nat->Int):Cu W D (.slice none 0 0) 0 (fun _=>0) f :=
 ⟨fun _=>none,fun _=>0,⟨⟨none,0,rfl,by omega,fun i hi=>absurd hi (Nat.not_lt_zero _)⟩,fun i hi=>absurd hi (Nat.not_lt_zero _),fun i j hi=>absurd hi (Nat.not_lt_zero _),by simp [Dw]⟩,fun i hi=>absurd hi (Nat.not_lt_zero _),fun i hi=>absurd hi (Nat.not_lt_zero _),fun a cap e b o hF=>absurd hF (A4 _ _ _),fun i hi=>absurd hi (Nat.not_lt_zero _)⟩
theorem Pf {W:World} {D:Nat->Nat->Prop}:Aw W D (.agg zR) Jm :=
 ⟨_,_,_,_,_,_,_,_,rfl,Cu.noneL _,⟨_,_,rfl,Bu.zero _ _⟩,⟨_,_,rfl,by show (0:Nat)<=_; omega,fun i hi=>absurd hi (Nat.not_lt_zero _),fun b o hF=>absurd hF (A4 _ _ _),fun b o hF=>absurd hF (A4 _ _ _)⟩,⟨_,_,_,_,rfl,Bu.zero _ _,Bu.zero _ _,fun b o h=>absurd h (A4 _ _ _)⟩,⟨_,_,_,rfl,Cu.noneL _,⟨_,_,rfl,Bu.zero _ _⟩,⟨_,_,rfl,Bu.zero _ _⟩⟩⟩
def Ey (d:Aq):Aq:=if okLock d=true then (if D7 d=true then stepD d else d) else Jm
def stepQ (d:Aq):Bool:=okLock d && D7 d
structure Bytes (w:World) (a:Option Addr) (n:Nat) (f:Nat->Int):Prop where
 row:Cg .u8 w a n f
 len:n<=1048576
 byte:∀ i,i<n->0<=f i/\f i<=255
theorem A3 {P:Program} {ops:Array Oper} {rest:List Oper} {o:Oper} {a:Act} {w:World} {Q:Exit->Act->World->Prop} (hg:o.guard=none)
  (f:FuncId) (args:Array Value) (hrun:(execOp a.eval o).run P w=.ok (.enter f args) w) {R:Ending->World->Prop} (hc:Calls P f args w R)
  (h:∀ e w',R e w'->∃ v,e=.returned v/\wpList P ops Q rest (a.put o.dst v) w'):wpList P ops Q (o :: rest) a w:=by
 refine wpList_plain hg fun K hK=>?_
 unfold Oper.wp;rw [hrun,Oper.upon_enter]
 refine hc.mono fun e w' hh=>?_
 obtain ⟨v,rfl,hw⟩:=h e w' hh;exact hK _ _ hw
theorem Jdl {W:World} {g z:Nat} {c1 c2:Array Value} {t1 t2:TypeId} {f1 f2:Nat × Nat} (h:W.heap[g]?=some (Obj.cells c1 t1 f1)) (k:W.heap[z]?=some (Obj.cells c2 t2 f2)) (ht:t1≠t2):g≠z:=fun e=>by
 subst e;rw [h] at k
 injection k with k
 injection k with _ k' _
 exact ht k'
def rowL (u0 u1 u2 u3 u4 ov:Value) (g6 c6 g7 c7:Nat) (d:Aq):Array Value:=(kR d u0 u1 u2 u3 u4 ov (.slice (some ⟨g6,0,none⟩) d.ns c6) (.slice (some ⟨g7,0,none⟩) d.nq c7))
structure Bx (w W:World) (lo b r:Nat) (rs cs:Array Value):Prop where
 box:W.heap[b]?=some (.cells cs 41 (0,0))
 res:W.heap[r]?=some (.cells rs 41 (0,0))
 low:Below lo w W
 kept:Eg w W
 up:w.heap.size<=b
 up2:w.heap.size<=r
 ne:r≠b
 hl:lo<=w.heap.size
section
variable {w W W':World} {lo b r:Nat} {rs cs:Array Value}
theorem Bx.below (H:Bx w W lo b r rs cs) (L:Below W.heap.size W W'):Bx w W' lo b r rs cs :=
 ⟨Ab H.box L (Ad H.box),Ab H.res L (Ad H.res),H.low.trans (L.mono (Nat.le_trans H.hl H.low.size)),H.kept.trans (Eg.below L),H.up,H.up2,H.ne,H.hl⟩
theorem Bx.turn (H:Bx w W lo b r rs cs) (L:Below lo W W') (K:Eg W W'):Bx w W' lo b r rs cs :=
 ⟨K.2 _ _ _ H.box (by decide) (by decide),K.2 _ _ _ H.res (by decide) (by decide),H.low.trans L,H.kept.trans K,H.up,H.up2,H.ne,H.hl⟩
theorem Bx.wrote (H:Bx w W lo b r rs cs) {z:Nat} (hz:z=b\/z=r) (hw:Wrote (fun x _=>x=z) W W'):Below lo w W'/\Eg w W' :=
 have h1:=H.up;have h3:=H.up2;have h2:=H.hl
 ⟨H.low.trans (hw.below (Nat.le_trans H.hl H.low.size) (fun x o hb (e:x=z)=>by omega)),H.kept.wrote hw (fun x o hb (e:x=z)=>by exfalso; omega)⟩
theorem Bx.set (H:Bx w W lo b r rs cs) (cs':Array Value):Bx w (W.setRow b cs') lo b r rs cs' :=
 have hw:=As H.box cs';have k:=H.wrote (Or.inl rfl) hw
 ⟨setRow_heap _ _ _ cs' _ _ H.box,Al H.res hw (fun o (e:r=b)=>H.ne e),k.1,k.2,H.up,H.up2,H.ne,H.hl⟩
theorem Bx.out (H:Bx w W lo b r rs cs) (rs':Array Value):Bx w (W.setRow r rs') lo b r rs' cs :=
 have hw:=As H.res rs';have k:=H.wrote (Or.inr rfl) hw
 ⟨Al H.box hw (fun o (e:b=r)=>H.ne e.symm),setRow_heap _ _ _ rs' _ _ H.res,k.1,k.2,H.up,H.up2,H.ne,H.hl⟩
theorem Bx.cellW (H:Bx w W lo b r rs cs) (o:Nat) (v:Value):Wrote (fun x _=>x=b) W (W.setCell ⟨b,o,none⟩ v):=Wrote.setCell (b:=b) (o:=o) (R:=fun x _=>x=b) (Wrote.refl _ W) (fun _=>rfl) v
theorem Bx.cell (H:Bx w W lo b r rs cs) (o:Nat) (v:Value):Bx w (W.setCell ⟨b,o,none⟩ v) lo b r rs (cs.setIfInBounds o v) :=
 have hw:=H.cellW o v;have k:=H.wrote (Or.inl rfl) hw
 ⟨Am H.box v,Al H.res hw (fun o (e:r=b)=>H.ne e),k.1,k.2,H.up,H.up2,H.ne,H.hl⟩
end
structure Lx (w W:World) (lo N b r:Nat) (E D:Nat->Nat->Prop) (u0 u1 u2 u3 u4 ov:Value) (gb cp:Nat->Nat) (g6 c6 g7 c7:Nat) (d:Aq):Prop where
 lp:A9 W lo N D u0 u1 u2 u3 u4 ov gb cp g6 c6 g7 c7 d
 ap:∀ i k,D i k->k≠b/\k≠r
 nr:V0 w E D
 nl:lo<=N
section
variable {w W W':World} {lo N b r:Nat} {E D:Nat->Nat->Prop} {u0 u1 u2 u3 u4 ov:Value} {gb cp:Nat->Nat} {g6 c6 g7 c7:Nat} {d:Aq} {rs cs:Array Value}
theorem Lx.below (H:Lx w W lo N b r E D u0 u1 u2 u3 u4 ov gb cp g6 c6 g7 c7 d) (L:Below W.heap.size W W'):Lx w W' lo N b r E D u0 u1 u2 u3 u4 ov gb cp g6 c6 g7 c7 d:=⟨H.lp.below L,H.ap,H.nr,H.nl⟩
theorem Lx.wrote (H:Lx w W lo N b r E D u0 u1 u2 u3 u4 ov gb cp g6 c6 g7 c7 d) (B:Bx w W lo b r rs cs) {z:Nat} (hz:z=b\/z=r) (hw:Wrote (fun x _=>x=z) W W'):Lx w W' lo N b r E D u0 u1 u2 u3 u4 ov gb cp g6 c6 g7 c7 d:=by
 have kz:∃ c,W.heap[z]?=some (.cells c 41 (0,0)):=by
  rcases hz with e | e
  .exact ⟨_,e ▸ B.box⟩
  .exact ⟨_,e ▸ B.res⟩
 obtain ⟨c,kz⟩:=kz;obtain ⟨k6,h6⟩:=H.lp.h6.cur;obtain ⟨k7,h7⟩:=H.lp.h7.cur;exact ⟨H.lp.keepD hw (fun i x o h (e:x=z)=>by have:=H.ap i x h; omega) (fun o (e:g6=z)=>Jdl h6 kz (by decide) e) (fun o (e:g7=z)=>Jdl h7 kz (by decide) e),H.ap,H.nr,H.nl⟩
theorem Lx.nmi (H:Lx w W lo N b r E D u0 u1 u2 u3 u4 ov gb cp g6 c6 g7 c7 d) (x:Bool):Lx w W lo N b r E D u0 u1 u2 u3 u4 ov gb cp g6 c6 g7 c7 { d with nmi:=x } :=
 ⟨⟨H.lp.h0,H.lp.h1,H.lp.h2,H.lp.h3,H.lp.h4,H.lp.h4D,H.lp.h6,H.lp.h6D,H.lp.h7,H.lp.h7D,H.lp.dis,H.lp.bd,H.lp.n6,H.lp.n7,H.lp.nN,H.lp.hps⟩,H.ap,H.nr,H.nl⟩
theorem Lx.cpu (H:Lx w W lo N b r E D u0 u1 u2 u3 u4 ov gb cp g6 c6 g7 c7 d) (c:A7):Lx w W lo N b r E D u0 u1 u2 u3 u4 ov gb cp g6 c6 g7 c7 (putCpu d d.g c) :=
 ⟨⟨H.lp.h0,H.lp.h1,H.lp.h2,H.lp.h3,H.lp.h4,H.lp.h4D,H.lp.h6,H.lp.h6D,H.lp.h7,H.lp.h7D,H.lp.dis,H.lp.bd,H.lp.n6,H.lp.n7,H.lp.nN,H.lp.hps⟩,H.ap,H.nr,H.nl⟩
theorem Lx.mem (H:Lx w W lo N b r E D u0 u1 u2 u3 u4 ov gb cp g6 c6 g7 c7 d) {p:Nat} {q:Value} {g:Nat->Int} (OI:Ao W p q 512 g) (hr:d.nr=512) (hp:N<=p) (hb:b<p) (hr2:r<p) (hw:w.heap.size<=p) (hq:p<=W.heap.size) :
  ∃ D',Lx w W lo W.heap.size b r E D' u0 u1 q u3 u4 ov gb cp g6 c6 g7 c7 { d with g:=g }:=by
 rw [<- hr] at OI;have P2:=(Bw.own (bank:=d.bank) OI).mono (E:=fun x=>p<=x/\x<W.heap.size) (fun x hx h=>⟨h,hx⟩);refine ⟨_,H.lp.mem P2 hp H.nl hq (Nat.le_refl _),fun i k h=>?_,fun i k h=>?_,?_⟩
 .rcases h with ⟨-,h1,h2⟩ | ⟨-,h⟩
  .omega
  .exact H.ap _ _ h
 .rcases h with ⟨-,h1,h2⟩ | ⟨-,h⟩
  .exact Or.inr (by omega)
  .exact H.nr _ _ h
 .have:=H.nl; omega
theorem Lx.one (H:Lx w W lo N b r E D u0 u1 u2 u3 u4 ov gb cp g6 c6 g7 c7 d):(rowL u0 u1 u2 u3 u4 ov g6 c6 g7 c7 d).all (·.oneCell')=true:=by
 obtain ⟨a0,b0,rfl⟩:=H.lp.h0.form;obtain ⟨a1,b1,rfl⟩:=H.lp.h1.two;obtain ⟨a2,b2,e2⟩:=H.lp.h2.two;simp only [Value.agg.injEq,Array.mk.injEq,List.cons.injEq,and_true] at e2;subst e2;obtain ⟨a3,b3,a4,b4,e3⟩:=H.lp.h3.two;simp only [Value.agg.injEq,Array.mk.injEq,List.cons.injEq,and_true,true_and] at e3;obtain ⟨rfl,rfl⟩:=e3;obtain ⟨a5,b5,rfl⟩:=H.lp.h4.form
 simp [rowL,Value.oneCell']
theorem Lx.nx (H:Lx w W lo N b r E D u0 u1 u2 u3 u4 ov gb cp g6 c6 g7 c7 d):Iy w W lo E (.agg (rowL u0 u1 u2 u3 u4 ov g6 c6 g7 c7 d)) d:=H.lp.nx H.nr
theorem Iy.lx {v:Value} {V:World} (H:Iy V W lo D v d) (hap:∀ i k,D i k->k≠b/\k≠r) (hnr:V0 w E D) (hb:b<V.heap.size) (hr2:r<V.heap.size) (hw:w.heap.size<=V.heap.size) (hl:lo<=W.heap.size) :
  ∃ D' u0 u1 u2 u3 u4 ov gb cp g6 c6 g7 c7,v=.agg (rowL u0 u1 u2 u3 u4 ov g6 c6 g7 c7 d)/\Lx w W lo W.heap.size b r E D' u0 u1 u2 u3 u4 ov gb cp g6 c6 g7 c7 d:=by
 obtain ⟨D',⟨u0,u1,u2,u3,u4,ov,gb,cp,g6,c6,g7,c7,rfl,HP⟩,near⟩:=H;refine ⟨D',u0,u1,u2,u3,u4,ov,gb,cp,g6,c6,g7,c7,rfl,HP,fun i k h=>?_,fun i k h=>?_,hl⟩
 .rcases near i k h with ⟨j,h'⟩ | h'
  .exact hap j k h'
  .omega
 .rcases near i k h with ⟨j,h'⟩ | h'
  .exact hnr j k h'
  .exact Or.inr (by omega)
end
open Go.Proofs.Tryz
structure ObD where
 mf:Nat
 lf:Nat->Nat
 fr:Nat->Nat->Int
 ns:Nat
 sm:Nat->Int
 nq:Nat
 rd:Nat->Int
def ObA (W:World) (D:Nat->Nat->Prop) (v:Value) (o:ObD):Prop:=Gj W D v o.mf o.lf o.fr o.ns o.sm o.nq o.rd
def Ha (a b:ObD):Bool:=If a.mf b.mf a.lf b.lf a.fr b.fr && (Cf a.ns b.ns a.sm b.sm && Cf a.nq b.nq a.rd b.rd)
theorem Bs.ints17 {W:World} {D:Nat->Prop} {u:Value} {n:Nat} {f:Nat->Int} (H:Bs W D u n f):Ints .i64 W (On D) u n f:=by
 obtain ⟨d,z,rfl,h⟩:=H;exact h.ints z
theorem Gj.below {W W':World} {D:Nat->Nat->Prop} {v:Value} {mf:Nat} {lf:Nat->Nat} {fr:Nat->Nat->Int} {ns:Nat} {sm:Nat->Int} {nq:Nat} {rd:Nat->Int} (H:Gj W D v mf lf fr ns sm nq rd) (L:Below W.heap.size W W'):Gj W' D v mf lf fr ns sm nq rd:=by
 obtain ⟨u5,u6,u7,rfl,h5,h6,h7⟩:=H;exact ⟨u5,u6,u7,rfl,h5.below L,h6.below L,h7.below L⟩
theorem Wc (w:World) (D E:Nat->Nat->Prop) (v u:Value) (a b:ObD) (H:ObA w D v a) (K:ObA w E u b) :
  Calls prog 37 #[v,u] w fun e w'=>e=.returned (.bool (Ha a b))/\Below w.heap.size w w':=by
 obtain ⟨u5,u6,u7,rfl,h5,h6,h7⟩:=H;obtain ⟨v5,v6,v7,rfl,k5,k6,k7⟩:=K;have L0:Below w.heap.size w ((w.alloc (.cells #[u5,u6,u7] 39)).alloc (.cells #[v5,v6,v7] 39)):=((Below.refl _ _).alloc (Nat.le_refl _) _).alloc (by simp) _;have B0:((w.alloc (.cells #[u5,u6,u7] 39)).alloc (.cells #[v5,v6,v7] 39)).heap[w.heap.size]?=some (.cells #[u5,u6,u7] 39 (0,0)):=Az (Ak w #[u5,u6,u7] 39) _
 have B1:((w.alloc (.cells #[u5,u6,u7] 39)).alloc (.cells #[v5,v6,v7] 39)).heap[w.heap.size+1]?=some (.cells #[v5,v6,v7] 39 (0,0)):=by simpa using Ak (w.alloc (.cells #[u5,u6,u7] 39)) #[v5,v6,v7] 39
 replace h5:=Ac (h5.below L0).ints;replace h6:=Ac (h6.below L0).ints17;replace h7:=Ac (h7.below L0).ints17;replace k5:=Ac (k5.below L0).ints;replace k6:=Ac (k6.below L0).ints17;replace k7:=Ac (k7.below L0).ints17
 go_enter func37,ntmps37
 go_wp2_with fail;generalize (w.alloc (.cells #[u5,u6,u7] 39)).alloc (.cells #[v5,v6,v7] 39)=W0 at *;have c0:=Af B0;have c1:=Af B1;clear B0 B1;refine (Yn _ _ _ _ _ a.mf b.mf a.lf b.lf a.fr b.fr h5.out k5.out).mono ?_;rintro e W1 ⟨rfl,rfl⟩;clear h5 k5;cases q1:If a.mf b.mf a.lf b.lf a.fr b.fr
 .have X1:=Ac q1
  clear q1;go_wp2;go_ret;exact ⟨by simp [Ha,X1.out],L0⟩
 have X1:=Ac q1;clear q1;go_wp2_with fail;refine (Ei _ _ _ _ _ a.ns b.ns a.sm b.sm h6.out k6.out).mono ?_;rintro e W2 ⟨rfl,rfl⟩;clear h6 k6;cases q2:Cf a.ns b.ns a.sm b.sm
 .have X2:=Ac q2
  clear q2;go_wp2;go_ret;exact ⟨by simp [Ha,X1.out,X2.out],L0⟩
 have X2:=Ac q2;clear q2;go_wp2_with fail;refine (Ei _ _ _ _ _ a.nq b.nq a.rd b.rd h7.out k7.out).mono ?_;rintro e W3 ⟨rfl,rfl⟩;clear h7 k7;cases q3:Cf a.nq b.nq a.rd b.rd
 .have X3:=Ac q3
  clear q3;go_wp2;go_ret;exact ⟨by simp [Ha,X1.out,X2.out,X3.out],L0⟩
 have X3:=Ac q3;clear q3;go_wp2;go_ret;exact ⟨by simp [Ha,X1.out,X2.out,X3.out],L0⟩
set_option maxHeartbeats 2000000
theorem Uz (w:World) (T P C B L:Int) (S Q:Bool) (reg:Int):Calls prog 155 #[.agg (aR T P C B L S Q),.i reg] w
  fun e w'=>e=.returned (.tuple #[.agg (aR T P C B L S (rqA true Q reg)),.i (Y0 true L Q reg)])/\Below w.heap.size w w':=by
 have k0:((w.alloc (.cells (aR T P C B L S Q) 35)).alloc (.cells (aR 0 0 0 0 0 false false) 35)).heap[w.heap.size]?=some (.cells (aR T P C B L S Q) 35 (0,0)):=Az (Ak w _ _) _
 have k1:((w.alloc (.cells (aR T P C B L S Q) 35)).alloc (.cells (aR 0 0 0 0 0 false false) 35)).heap[w.heap.size+1]?=some (.cells (aR 0 0 0 0 0 false false) 35 (0,0)):=by simpa using Ak (w.alloc (.cells (aR T P C B L S Q) 35)) (aR 0 0 0 0 0 false false) 35
 have L0:Below w.heap.size w ((w.alloc (.cells (aR T P C B L S Q) 35)).alloc (.cells (aR 0 0 0 0 0 false false) 35)):=((Below.refl _ _).alloc (Nat.le_refl _) _).alloc (by simp) _
 by_cases hr:reg=2
 .subst hr
  have HQ':Hid (rqA true Q 2=false):=if_pos ⟨rfl,rfl⟩
  obtain ⟨b,hb⟩:∃ b,Hid (decide (0<L)=b):=⟨_,rfl⟩
  have HV:Hid (Y0 true L Q 2=128*Av Q+Av b):=by rw [<- hb.out]; exact if_pos ⟨rfl,rfl⟩
  rw [HQ'.out,HV.out];clear HQ' HV;have HS:=Ac (fun W h=>Jad W w.heap.size T P C B L S Q h b hb.out)
  cases Q <;> cases b
  all_goals
   go_enter func155,ntmps155
   go_wp2_with fail;generalize ((w.alloc (.cells (aR T P C B L S _) 35)).alloc (.cells (aR 0 0 0 0 0 false false) 35))=W0 at *;have c0:=Af k0;have c1:=Af k1;have f0:=Au k0;have f1:=Au k1;go_wp2_with fail;refine (HS.out _ k0).mono ?_;rintro e W1 ⟨rfl,rfl⟩;go_wp2;refine bodyPost_ret (v:=.tuple #[.agg (aR T P C B L S false),_]) (by simp [results,results155,go_sem,c1]; rfl) rfl ?_;refine ⟨by simp [Av],?_⟩;have hz0:=Ad k1
   have fin:∀ W5,Wrote (fun b _=>b=w.heap.size\/b=w.heap.size+1) W1 W5->Below w.heap.size w W5:=fun W5 h=>L0.trans (h.below L0.size (fun b o hb e=>by omega))
   refine fin _ ?_
   repeat (first | with_reducible exact Wrote.refl _ _ | with_reducible refine Wrote.drew ?_ | with_reducible refine Wrote.setCell ?_ (fun _=>by omega) _)
 .have HQ':Hid (rqA true Q reg=Q):=if_neg (fun h=>hr h.2)
  have HV:Hid (Y0 true L Q reg=0):=if_neg (fun h=>hr h.2);rw [HQ'.out,HV.out]
  have hr':(reg != 2)=true:=by simpa using hr
  clear hr
  go_enter func155,ntmps155
  go_wp2;refine bodyPost_ret (v:=.tuple #[.agg (aR T P C B L S Q),.i 0]) (by simp [results,results155,go_sem]) rfl ?_;exact ⟨rfl,((Below.refl _ _).alloc (Nat.le_refl _) _).alloc (by simp) _⟩
set_option maxHeartbeats 1000000
set_option maxRecDepth 20000
def Ql (s:ByteArray) (v:Value):Prop :=
 (∃ (i:Nat) (h:i<s.size),(s[i]'h).toNat=32/\(∀ j (_:j<i) (hl:j<s.size),(s[j]'hl).toNat≠32)/\v=.tuple #[.string (s.extract 0 i),.i (numOf (s.extract (i+1) s.size)),.bool (decide (0<=numOf (s.extract (i+1) s.size)))]) \/
 ((∀ j (hl:j<s.size),(s[j]'hl).toNat≠32)/\v=.tuple #[.string s,.i (-1),.bool true])
theorem Jfi (w:World) (s:ByteArray) (hs:s.size<=1048576):Calls prog 172 #[.string s] w fun e w'=>(∃ v,e=.returned v/\Ql s v)/\Below w.heap.size w w':=by
 go_enter func172,ntmps172
 go_wp2
 go_loop [5] (fun i=>∃ q:Nat,q<=s.size/\i=.i q/\∀ j (_:j<q) (hl:j<s.size),(s[j]'hl).toNat≠32) (fun i=>s.size-(intOf i).toNat)
 case atStart=>exact ⟨0,Nat.zero_le _,rfl,fun j hj=>absurd hj (Nat.not_lt_zero _)⟩
 case round =>
  obtain ⟨q,hq,rfl,hno⟩:=hrel;have HN:=Ac hno;clear hno
  by_cases hlt:q<s.size
  .have hlt':(q:Int)<(s.size:Int):=by omega
   by_cases h32:(s[q]'hlt).toNat=32
   .have h32':((((s[q]'hlt).toNat:Nat):Int)==32)=true:=by simp [h32]
    have hex:(s.extract (q+1) s.size).size<=1048576:=by simp; omega
    have H32:=Ac h32;clear h32;go_wp2_with fail;refine (Jgq _ _ hex).mono ?_;rintro e w1 ⟨rfl,L1⟩;have HV:Hid (Ql s (.tuple #[.string (s.extract 0 q),.i (numOf (s.extract (q+1) s.size)),.bool (decide (0<=numOf (s.extract (q+1) s.size)))])):=Or.inl ⟨q,hlt,Ae H32,Ae HN,rfl⟩;generalize numOf (s.extract (q+1) s.size)=z at *;go_wp2;refine bodyPost_ret (results_tmp3 rfl _ _ _) rfl ?_;exact ⟨⟨_,rfl,HV.out⟩,L1⟩
   .have h32':((((s[q]'hlt).toNat:Nat):Int)==32)=false:=by simp; omega
    have hno2:∀ j (_:j<q+1) (hl:j<s.size),(s[j]'hl).toNat≠32:=fun j hj hl=>by
     by_cases e:j=q
     .subst e; exact h32
     .exact Ae HN j (by omega) hl
    have HN2:=Ac hno2;clear h32 hno2;go_wp2
    go_round
    case rel=>exact ⟨q+1,by omega,by go_num,Ae HN2⟩
    case measure=>simp [intOf]; omega
  .have hlt':¬ (q:Int)<(s.size:Int):=by omega
   have HV:Hid (Ql s (.tuple #[.string s,.i (-1),.bool true])):=Or.inr ⟨fun j hl=>Ae HN j (by omega) hl,rfl⟩;go_wp2;refine bodyPost_ret (results_tmp3 rfl _ _ _) rfl ?_;exact ⟨⟨_,rfl,HV.out⟩,Below.refl _ _⟩
def atW:List UInt8:=[97,116]
def T9:List UInt8:=[98,121,116,101]
theorem Mw (s:ByteArray):-1<=numOf s/\numOf s<=99999:=by
 unfold numOf;split
 .omega
 .rename_i h
  split
  .omega
  .rename_i h2
   split
   .have hl:s.data.toList.length=s.size:=rfl
    have h3:=Je9 s.data.toList s.data.toList.length (fun j _ hl=>by
     have:s.data.toList.all Gs=true:=by simpa using h2
     exact List.all_eq_true.1 this _ (List.getElem_mem hl))
    rw [Jby] at h3;have h4:J2 s.data.toList<100000:=Nat.lt_of_lt_of_le h3 (Nat.pow_le_pow_right (by omega) (show s.data.toList.length<=5 by omega))
    omega
   .omega
theorem Wq {s:ByteArray} {v:Value} (h:Ql s v):∃ wd n k,v=.tuple #[.string wd,.i n,.bool k]/\-1<=n/\n<=99999:=by
 rcases h with ⟨i,hi,_,_,rfl⟩ | ⟨_,rfl⟩
 .exact ⟨_,_,_,rfl,(Mw _).1,(Mw _).2⟩
 .exact ⟨_,_,_,rfl,by omega,by omega⟩
def He (wd:ByteArray) (n:Int) (k:Bool) (L:List Int) (tq:Int) (ok:Bool):Prop :=
 (k=false/\L=[]/\tq=-1/\ok=false) \/
 (k=true/\wd.toList=atW/\L=[]/\ok=Cr n 0 255/\tq=if Cr n 0 255 then n else -1) \/
 (k=true/\wd.toList=T9/\ok=Cr n 0 255/\tq=-1/\L=if Cr n 0 255 then [n] else []) \/
 (k=true/\¬ wd.toList=atW/\¬ wd.toList=T9/\tq=-1/\∃ r,Jff wd r/\((r=-1/\L=[]/\ok=false)\/(0<=r/\((Dm.getD r.toNat 1=1/\L=[r]/\ok=decide (n<0))\/(Dm.getD r.toNat 1=2/\L=[r,n%256]/\ok=Cr n 0 255)\/(Dm.getD r.toNat 1=3/\L=[r,n%256,n/256%256]/\ok=Cr n 0 65535)))))
theorem Jbz {w:World} {lo g:Nat} (L:List Int) (hb:w.heap[g]?=some (.cells (L.map (Value.int .i64)).toArray 3 (0,0))) (hg:lo<=g) (hn:L.length<=1048576):Ao w lo (.slice (some ⟨g,0,none⟩) L.length L.length) L.length (fun i=>L.getD i 0):=by
 have e:(L.map (Value.int .i64)).toArray=(rowVals L.length (fun i=>L.getD i 0)).toArray:=by
  congr 1
  apply List.ext_getElem?
  intro j
  by_cases hj:j<L.length
  .rw [Bj _ _ _ hj]
   simp [hj]
  .rw [List.getElem?_eq_none (by simp; omega),List.getElem?_eq_none (by rw [A6]; omega)]
 rw [e] at hb;exact Zk hb hg hn
theorem Fu (W:World) (lo:Nat) (L:List Int) (h:lo<=W.heap.size) (hn:L.length<=1048576):Ao (W.alloc (.cells (L.map (Value.int .i64)).toArray 3)) lo (.slice (some ⟨W.heap.size,0,none⟩) L.length L.length) L.length (fun i=>L.getD i 0) :=
 Jbz L (by show (W.heap.push _)[W.heap.size]?=_; simp) h hn
theorem Rj (i:Nat) (h:i<30):Dm.getD i 1=1\/Dm.getD i 1=2\/Dm.getD i 1=3:=by
 have:∀ j:Fin 30,Dm.getD j.val 1=1\/Dm.getD j.val 1=2\/Dm.getD j.val 1=3:=by decide
 exact this ⟨i,h⟩
theorem Yu (w:World) (s:ByteArray) (hs:s.size<=1048576):Calls prog 144 #[.string s] w fun e w'=>(∃ v L tq ok,e=.returned (.tuple #[v,.i tq,.bool ok])/\Ao w' w.heap.size v L.length (fun i=>L.getD i 0)/\∃ wd n k,Ql s (.tuple #[.string wd,.i n,.bool k])/\He wd n k L tq ok)/\Below w.heap.size w w':=by
 go_enter func144,ntmps144
 go_wp2_with fail;refine (Jfi _ _ hs).mono ?_;rintro e w1 ⟨⟨v,rfl,hv⟩,L1⟩;obtain ⟨wd,n,k,rfl,hn0,hn1⟩:=Wq hv;have HV:=Ac hv;clear hv;cases k
 .go_wp2
  go_ret3
  exact ⟨⟨_,[],_,_,rfl,Fu _ _ [] (L1.size) (by simp),wd,n,_,Ae HV,Or.inl ⟨rfl,rfl,rfl,rfl⟩⟩,(L1).alloc (L1.size) _⟩
 .by_cases hat:wd.toList=atW
  .have hat':(wd.toList==[97,116])=true:=by simpa [atW] using hat
   cases hin:Cr n 0 255
   .have HW:Hid (He wd n true [] (-1) false):=Or.inr (Or.inl ⟨rfl,hat,rfl,hin.symm,by rw [hin]; rfl⟩)
    clear hat;go_wp2_with fail;refine (E8 _ _ _ _).mono ?_;rintro e wx ⟨rfl,rfl⟩;rw [hin];go_wp2
    go_ret3
    exact ⟨⟨_,[],_,_,rfl,Fu _ _ [] (L1.size) (by simp),wd,n,_,Ae HV,HW.out⟩,(L1).alloc (L1.size) _⟩
   .have HW:Hid (He wd n true [] n true):=Or.inr (Or.inl ⟨rfl,hat,rfl,hin.symm,by rw [hin]; rfl⟩)
    clear hat;go_wp2_with fail;refine (E8 _ _ _ _).mono ?_;rintro e wx ⟨rfl,rfl⟩;rw [hin];go_wp2
    go_ret3
    exact ⟨⟨_,[],_,_,rfl,Fu _ _ [] (L1.size) (by simp),wd,n,_,Ae HV,HW.out⟩,(L1).alloc (L1.size) _⟩
  .have hat':(wd.toList==[97,116])=false:=by simpa [atW] using hat
   by_cases hby:wd.toList=T9
   .have hby':(wd.toList==[98,121,116,101])=true:=by simpa [T9] using hby
    cases hin:Cr n 0 255
    .have HW:Hid (He wd n true [] (-1) false):=Or.inr (Or.inr (Or.inl ⟨rfl,hby,hin.symm,rfl,by rw [hin]; rfl⟩))
     clear hat hby;go_wp2_with fail;refine (E8 _ _ _ _).mono ?_;rintro e wx ⟨rfl,rfl⟩;rw [hin];go_wp2
     go_ret3
     exact ⟨⟨_,[],_,_,rfl,Fu _ _ [] (L1.size) (by simp),wd,n,_,Ae HV,HW.out⟩,(L1).alloc (L1.size) _⟩
    .have HW:Hid (He wd n true [n] (-1) true):=Or.inr (Or.inr (Or.inl ⟨rfl,hby,hin.symm,rfl,by rw [hin]; rfl⟩))
     clear hat hby;go_wp2_with fail;refine (E8 _ _ _ _).mono ?_;rintro e wx ⟨rfl,rfl⟩;rw [hin];go_wp2
     go_ret3
     exact ⟨⟨_,[n],_,_,rfl,Fu _ _ [n] (L1.size) (by simp),wd,n,_,Ae HV,HW.out⟩,(L1).alloc (L1.size) _⟩
   .have hby':(wd.toList==[98,121,116,101])=false:=by simpa [T9] using hby
    have HA:=Ac hat;have HB:=Ac hby;clear hat hby;go_wp2_with fail;refine (Jbw _ _).mono ?_;rintro e w2 ⟨⟨r,rfl,hr⟩,L2'⟩;have L2:=L1.trans (L2'.mono L1.size);clear L2';have HR:=Ac hr
    rcases hr with ⟨i,hi,rfl,-⟩ | ⟨rfl,-⟩
    .have hi0:¬ ((i:Int)<0):=by omega
     have hl0:(if 0<=(i:Int)/\(i:Int)<=29 then Dm.getD (i:Int).toNat 1 else 1)=Dm.getD i 1:=by rw [if_pos (by omega),Int.toNat_natCast]
     have HL:=Ac hl0;clear hl0;go_wp2_with fail;refine (Md _ _).mono ?_;rintro e w3 ⟨rfl,L3'⟩;have L3:=L2.trans (L3'.mono L2.size);clear L3';rw [Ae HL]
     rcases Rj i hi with h1 | h2 | h3
     .have HW:Hid (He wd n true [(i:Int)] (-1) (decide (n<0))):=Or.inr (Or.inr (Or.inr ⟨rfl,Ae HA,Ae HB,rfl,_,Ae HR,Or.inr ⟨by omega,Or.inl ⟨by simpa using h1,rfl,rfl⟩⟩⟩))
      rw [h1];clear h1;go_wp2
      go_ret3
      exact ⟨⟨_,[(i:Int)],_,_,rfl,Fu _ _ [(i:Int)] (L3.size) (by simp),wd,n,_,Ae HV,HW.out⟩,(L3).alloc (L3.size) _⟩
     .have HW:Hid (He wd n true [(i:Int),n%256] (-1) (Cr n 0 255)):=Or.inr (Or.inr (Or.inr ⟨rfl,Ae HA,Ae HB,rfl,_,Ae HR,Or.inr ⟨by omega,Or.inr (Or.inl ⟨by simpa using h2,rfl,rfl⟩)⟩⟩))
      rw [h2];clear h2;go_wp2_with (first | (go_at_call 128; refine (Bo _ _).mono ?_; rintro e wx ⟨rfl,rfl⟩) | (go_at_call 33; refine (E8 _ _ _ _).mono ?_; rintro e wx ⟨rfl,rfl⟩))
      go_ret3
      exact ⟨⟨_,[(i:Int),n%256],_,_,rfl,Fu _ _ [(i:Int),n%256] (L3.size) (by simp),wd,n,_,Ae HV,HW.out⟩,(L3).alloc (L3.size) _⟩
     .have HW:Hid (He wd n true [(i:Int),n%256,n/256%256] (-1) (Cr n 0 65535)):=Or.inr (Or.inr (Or.inr ⟨rfl,Ae HA,Ae HB,rfl,_,Ae HR,Or.inr ⟨by omega,Or.inr (Or.inr ⟨by simpa using h3,rfl,rfl⟩)⟩⟩))
      rw [h3];clear h3;go_wp2_with (first | (go_at_call 128; refine (Bo _ _).mono ?_; rintro e wx ⟨rfl,rfl⟩) | (go_at_call 33; refine (E8 _ _ _ _).mono ?_; rintro e wx ⟨rfl,rfl⟩))
      go_ret3
      exact ⟨⟨_,[(i:Int),n%256,n/256%256],_,_,rfl,Fu _ _ [(i:Int),n%256,n/256%256] (L3.size) (by simp),wd,n,_,Ae HV,HW.out⟩,(L3).alloc (L3.size) _⟩
    .have HW:Hid (He wd n true [] (-1) false):=Or.inr (Or.inr (Or.inr ⟨rfl,Ae HA,Ae HB,rfl,_,Ae HR,Or.inl ⟨rfl,rfl,rfl⟩⟩))
     go_wp2
     go_ret3
     exact ⟨⟨_,[],_,_,rfl,Fu _ _ [] (L2.size) (by simp),wd,n,_,Ae HV,HW.out⟩,(L2).alloc (L2.size) _⟩
end Go.Proofs.YtijljlnooibbmaaGreatDoor
