import Derived.Test.YtjnjnppongdhgaaGreatKIc
import Derived.Test.YtjnjnppongdhgaaGreatSN
import Derived.Test.YtjnjnppongdhgaaGreatPI
import Derived.Test.YtjnjnppongdhgaaGreatI6d
namespace Go.Proofs.YtjnjnppongdhgaaGreat
set_option maxHeartbeats 8000000
set_option maxRecDepth 40000
set_option linter.unusedVariables false
set_option linter.unusedSimpArgs false
open Go.ChangeShapes Go.WideShapes Go.ChangeAt Go.RowKit
theorem B8.upTo {W:World} {lo N N':Nat} {D:Nat→Nat→Prop} {u0 u1 u2 u3 u4 u5 u6 u7:Value} {ob:Nat→Option Nat} {iv ov:Nat→Value} {o6 o7:Option Nat} {d:Ao} (H:B8 W lo N D u0 u1 u2 u3 u4 u5 u6 u7 ob iv ov o6 o7 d) (h:N≤N') (h':N'≤W.heap.size):B8 W lo N' D u0 u1 u2 u3 u4 u5 u6 u7 ob iv ov o6 o7 d :=
 ⟨H.h0,H.h1,H.h2,H.h3,H.h5,H.h5D,H.h6,H.h6D,H.h7,H.h7D,H.dis,fun i b hb=>⟨(H.bd i b hb).1,Nat.lt_of_lt_of_le (H.bd i b hb).2 h⟩,h',H.hps⟩
theorem Wy (W:World) {o:Oper} {a:Act} {K:Act→World→Prop} {Q:Exit→Act→World→Prop} (s x:Operand) (hop:o.op=Op.call { callee:=Callee.builtin Builtin.append,args:=#[s,x],argTypes:=#[27,27] })
  (lo:Nat) (o7:Option Nat) (u:Value) (n:Nat) (f:Nat→Int) (hs:a.eval s=u) (R:Bf W lo o7 u n f) (hn:n<1048576) (hlo:lo≤W.heap.size) (q:Nat) (y:Int) (hx:a.eval x=.slice (some ⟨q,0,none⟩) 1 1) (hq:W.cell? ⟨q,0,none⟩=some (.i y))
  (h:∀ g' c' W',Bf W' lo (some g') (.slice (some ⟨g',0,none⟩) (n+1) c') (n+1) (snoc f n y)→Wrote (fun b _=>o7=some b) W W'→(o7=some g'∨W.heap.size≤g')→K (a.put o.dst (.slice (some ⟨g',0,none⟩) (n+1) c')) W'):o.wp Tryz.prog a W K Q:=by
 cases o7 with
 | some g =>
  obtain ⟨c,rfl,r⟩:=R;exact Qv W s x hop lo g n c f hs r hn q y hx hq (fun g' c' W' r1 r2 r3=>h g' c' W' ⟨c',rfl,r1⟩ (r2.mono (fun b o _ e=>by rw [e.1])) (by rcases r3 with ⟨e,-⟩ | e; (left; rw [e]); (right; exact e)))
 | none =>
  obtain ⟨rfl,rfl⟩:=R;obtain ⟨i0,hi,hz0,hz1,hz2⟩:=info_parts Gd
  have hnews:∀ j u,[Value.i y][j]?=some u→W.cell? ((⟨q,0,none⟩:Addr).add j)=some u:=fun j u hh=>by
   cases j with
   | zero=>simp at hh; rw [← hh]; exact hq
   | succ j=>simp at hh
  have own:W.ownsRow lo 3 1 (.slice none 0 0) 0 []:=⟨rfl,Or.inl ⟨rfl,rfl⟩⟩
  obtain ⟨g',c',W',hrun,r1,r2,r3,r4⟩:=run_append_lies (P:=Tryz.prog) (w:=W) 27 o.type lo 3 i0 (.i 0) 1 8 Tryz.underlying27 hi hz0 hz1 hz2 rfl (by decide) (.slice none 0 0) 0 [] own ⟨q,0,none⟩ 1 1 [.i y] rfl hnews (fun u hu=>by simp at hu; rw [hu]; rfl) (by omega) (by unfold maxLen; omega) (by omega) hlo W.heap.size rfl;have L:Below W.heap.size W W':=(Below.refl _ _).grown r2 (Nat.le_refl _) (fun _ e=>by cases e)
  have e1:rowVals 1 (snoc f 0 y)=[.i y]:=by simp [rowVals,snoc]
  unfold Oper.wp
  simp [execOp,hop,resolve,invoke,builtin,hs,hx,hrun,Result.andThen]
  exact h g' c' W' ⟨c',rfl,by rw [Nat.zero_add,e1]; exact r1,by omega⟩ (Ab L _) (Or.inr (by rcases r3 with r3 | r3; cases r3; omega))
theorem En (W:World) {ops:Array Oper} {rest:List Oper} {o:Oper} {a:Act} {Q:Exit→Act→World→Prop} (hg:o.guard=none) (s x:Operand) (hop:o.op=Op.call { callee:=Callee.builtin Builtin.append,args:=#[s,x],argTypes:=#[27,27] })
  (lo:Nat) (o7:Option Nat) (u:Value) (n:Nat) (f:Nat→Int) (hs:a.eval s=u) (R:Bf W lo o7 u n f) (hn:n<1048576) (hlo:lo≤W.heap.size) (q:Nat) (y:Int) (hx:a.eval x=.slice (some ⟨q,0,none⟩) 1 1) (hq:W.cell? ⟨q,0,none⟩=some (.i y))
  (h:∀ g' c' W',Bf W' lo (some g') (.slice (some ⟨g',0,none⟩) (n+1) c') (n+1) (snoc f n y)→Wrote (fun b _=>o7=some b) W W'→(o7=some g'∨W.heap.size≤g')→wpList Tryz.prog ops Q rest (a.put o.dst (.slice (some ⟨g',0,none⟩) (n+1) c')) W'):wpList Tryz.prog ops Q (o :: rest) a W :=
 wpList_plain hg fun K hK=>Wy W s x hop lo o7 u n f hs R hn hlo q y hx hq (fun g c W' r1 r2 r3=>hK _ _ (h g c W' r1 r2 r3))
structure Fh (W:World) (lo z:Nat) (d:Ao):Prop where
 ex:∃ D u0 u1 u2 u3 u4 u5 u6 u7 ob iv ov o6 o7,B8 W lo W.heap.size D u0 u1 u2 u3 u4 u5 u6 u7 ob iv ov o6 o7 d∧(∀ i b,D i b→b≠z)∧W.heap[z]?=some (.cells (kR d u0 u1 u2 u3 u4 u5 u6 u7) 41 (0,0))
theorem Xa (w:World) (lo z:Nat) (d:Ao) (a:Int) (H:Fh w lo z d) (hlo:lo≤z) (hok:okLock d=true) (hnq:d.nq<1048576):Calls Tryz.prog 19 #[(pt z 0),.i a] w fun e w'=>e=.returned (.i (Bo d a))∧Fh w' lo z (Bd d a)∧Below lo w w':=by
 obtain ⟨okp,okm,oku,oka,oks⟩:=De hok;obtain ⟨D,u0,u1,u2,u3,u4,u5,u6,u7,ob,iv,ov,o6,o7,HQ,hz,B0⟩:=H;obtain ⟨x0,y0,rfl⟩:=HQ.h0.form;obtain ⟨x1,y1,rfl⟩:=HQ.h1.two;obtain ⟨x2,y2,e2⟩:=HQ.h2.two;simp only [Value.agg.injEq,Array.mk.injEq,List.cons.injEq,and_true] at e2;subst e2;obtain ⟨x3,y3,x4,y4,e3⟩:=HQ.h3.two;simp only [Value.agg.injEq,Array.mk.injEq,List.cons.injEq,and_true,true_and] at e3;obtain ⟨rfl,rfl⟩:=e3;obtain ⟨x5,y5,rfl⟩:=HQ.h5.form;obtain ⟨x6,y6,rfl⟩:=HQ.h6.form;obtain ⟨x7,y7,rfl⟩:=HQ.h7.form;have hzl:=Ae B0
 have hlw:lo≤w.heap.size:=by omega
 have L0:Below lo w w:=⟨rfl,rfl,rfl,Nat.le_refl _,fun _ _=>rfl⟩
 obtain ⟨rg,hrg⟩:∃ x,Hid (x=rgN (a%65536)):=⟨_,rfl⟩
 obtain ⟨at',hat⟩:∃ x,Hid (x=rgP (a%65536)):=⟨_,rfl⟩
 have HG:=Ac (fun W=>Il W a);rw [← hrg.out,← hat.out] at HG
 by_cases r2:rg=2
 ·have HV:Hid (Bo d a=La true at' d.bl d.ad d.tb∧Bd d a={ d with ad:=J8 true at' d.ad,bl:=L9 true at' d.bl,nq:=d.nq+1,rd:=snoc d.rd d.nq (La true at' d.bl d.ad d.tb) }):=by
   have e:rgN (a%65536)=2:=by rw [← hrg.out]; exact r2
   show _∧_
   unfold Bd Bo;simp only [e,if_true];rw [← hat.out];exact ⟨rfl,rfl⟩
  rw [HV.out.1,HV.out.2];subst r2;clear HV hrg
  obtain ⟨x,hx⟩:∃ x,Hid (x=La true at' d.bl d.ad d.tb):=⟨_,rfl⟩
  obtain ⟨ad',had⟩:∃ x,Hid (x=J8 true at' d.ad):=⟨_,rfl⟩
  obtain ⟨bl',hbl⟩:∃ x,Hid (x=L9 true at' d.bl):=⟨_,rfl⟩
  have HP:=Ac (fun W F G u u' h k=>Om W F G d.t d.c d.s d.ad d.pl d.bl u u' d.nt d.tb d.nd d.dt at' h k);rw [oku,← hx.out,← had.out,← hbl.out] at HP;rw [← hx.out,← had.out,← hbl.out];clear hx had hbl hat;obtain ⟨q3,q4,hq3,I3,I4⟩:=HQ.h3.ints;simp only [Value.agg.injEq,Array.mk.injEq,List.cons.injEq,and_true,true_and] at hq3;obtain ⟨rfl,rfl⟩:=hq3
  go_enter Tryz.func19,Tryz.ntmps19
  go_wp2_with fail;refine (HG.out _).mono ?_;rintro e W1 ⟨rfl,rfl⟩;have c0':=Aj B0;go_wp2_with fail;clear c0';refine (HP.out _ _ _ _ _ I3 I4).mono ?_;rintro e W2 ⟨v',rfl,P3,L⟩;clear HP I3 I4;obtain ⟨x3',y3',x4',y4',rfl⟩:=P3.two;replace P3:=(P3.mono (E:=fun b=>W1.heap.size≤b∧b<W2.heap.size) (fun b hb h=>⟨h,hb⟩)).lower (lo':=lo) (Nat.le_trans hlw L0.size);have l12:=L.size;replace HQ:=HQ.below L;replace L0:=L0.trans (L.mono (Nat.le_trans hlw L0.size));replace B0:=Aa B0 L (Ae B0)
  obtain ⟨DD,HQ',hz'⟩:∃ DD,B8 W2 lo W2.heap.size DD (.slice x0 d.m y0) (.slice x1 d.np y1) (.slice x2 d.nr y2) (.slice x3' d.nt y3') (.slice x4' d.nd y4') (.slice x5 d.mf y5) (.slice x6 d.ns y6) (.slice x7 d.nq y7) ob iv ov o6 o7 { d with t:=d.t,c:=d.c,s:=d.s,ad:=ad',pl:=d.pl,bl:=bl',nt:=d.nt,tb:=d.tb,nd:=d.nd,dt:=d.dt }∧∀ i b,DD i b→b≠z:=⟨_,HQ.ppu P3 (Nat.le_refl _) hlw l12 (Nat.le_refl _),fun i b h e=>by
   rcases h with ⟨-,h1,h2⟩ | ⟨-,h⟩
   ·omega
   ·exact hz i b h e⟩
  clear HQ hz P3 L;have HQ:=HQ';have hz:=hz';clear HQ' hz';have c0':=Aj B0;have f0':=Ar B0;go_upto_region 11 with (fail);clear c0' f0';have TT:=Wrote.setCell (b:=z) (o:=19) (R:=fun b _=>b=z) (Wrote.setCell (b:=z) (o:=18) (R:=fun b _=>b=z) (Wrote.setCell (b:=z) (o:=17) (R:=fun b _=>b=z) (Wrote.setCell (b:=z) (o:=16) (R:=fun b _=>b=z) (Wrote.setCell (b:=z) (o:=15) (R:=fun b _=>b=z) (Wrote.setCell (b:=z) (o:=14) (R:=fun b _=>b=z) (Wrote.setCell (b:=z) (o:=13) (R:=fun b _=>b=z) (Wrote.setCell (b:=z) (o:=12) (R:=fun b _=>b=z) (Wrote.refl _ W2) (fun _=>rfl) (.i d.t)) (fun _=>rfl) (.i d.c)) (fun _=>rfl) (.i d.s)) (fun _=>rfl) (.i ad')) (fun _=>rfl) (.i d.pl)) (fun _=>rfl) (.bool bl')) (fun _=>rfl) (.slice x3' d.nt y3')) (fun _=>rfl) (.slice x4' d.nd y4')
  replace B0:=Ai (o:=12) B0 (.i d.t);replace B0:=Ai (o:=13) B0 (.i d.c);replace B0:=Ai (o:=14) B0 (.i d.s);replace B0:=Ai (o:=15) B0 (.i ad');replace B0:=Ai (o:=16) B0 (.i d.pl);replace B0:=Ai (o:=17) B0 (.bool bl');replace B0:=Ai (o:=18) B0 (.slice x3' d.nt y3');replace B0:=Ai (o:=19) B0 (.slice x4' d.nd y4');simp only [List.setIfInBounds_toArray,List.set_cons_succ,List.set_cons_zero] at B0;replace HQ:=HQ.keepD TT (fun i b o h (e:b=_)=>hz i b h e);replace HQ:=HQ.upTo TT.size (Nat.le_refl _);replace L0:=L0.trans (TT.below (Nat.le_trans hlw L0.size) (fun b o hb (h:b=_)=>by omega));replace hzl:=Ae B0;clear TT
  generalize (((((((W2.setCell ⟨z,12,none⟩ (.i d.t)).setCell ⟨z,13,none⟩ (.i d.c)).setCell ⟨z,14,none⟩ (.i d.s)).setCell ⟨z,15,none⟩ (.i ad')).setCell ⟨z,16,none⟩ (.i d.pl)).setCell ⟨z,17,none⟩ (.bool bl')).setCell ⟨z,18,none⟩ (.slice x3' d.nt y3')).setCell ⟨z,19,none⟩ (.slice x4' d.nd y4')=W3 at *;have LA:Below W3.heap.size W3 (W3.alloc (.cells #[.i x] 3)):=(Below.refl _ _).alloc (Nat.le_refl _) _;have hE:=Aj (Al W3 #[.i x] 3) 0;have c0':=Aj (Aa B0 LA (Ae B0));have c0s:=Aj B0;have HQA:=Ac ((HQ.below LA).upTo LA.size (Nat.le_refl _));have LXA:=Ac (L0.trans (LA.mono (Nat.le_trans hlw L0.size)));have B0A:=Ac (Aa B0 LA (Ae B0));clear HQ L0 LA B0;go_wp2_with (at_builtin; refine En _ rfl _ _ rfl lo o7 (.slice x7 d.nq y7) d.nq d.rd rfl HQA.out.h7 hnq (Nat.le_trans hlw LXA.out.size) W3.heap.size x rfl hE ?_)
  intro g9 c9 W9 R9 hW hat9;clear c0' c0s hE
  replace hat9:o7=some g9∨(W3.alloc (.cells #[.i x] 3)).heap.size≤g9:=by simpa using hat9
  have hs9:(W3.alloc (.cells #[.i x] 3)).heap.size=W3.heap.size+1:=by simp
  have HQN:=HQA.out.push (Nat.le_trans hlw LXA.out.size) hW R9 hat9;have B0:=Ag B0A.out hW (fun o e=>hz 6 z (HQA.out.h7D z e) rfl);have LW:Below lo _ W9:=LXA.out.trans (hW.below (Nat.le_trans hlw LXA.out.size) (fun b o hb e=>by have:=HQA.out.bd 6 b (HQA.out.h7D b e); omega))
  have hg9:g9≠z:=fun e=>by
   subst e
   rcases hat9 with e | h
   ·exact hz 6 g9 (HQA.out.h7D g9 e) rfl
   ·omega
  have TT:=Wrote.setCell (b:=z) (o:=33) (R:=fun b _=>b=z) (Wrote.refl _ W9) (fun _=>rfl) (.slice (some ⟨g9,0,none⟩) (d.nq+1) c9)
  have hz9:∀ i b,(i=6∧b=g9)∨(i≠6∧DD i b)→b≠z:=fun i b h e=>by
   rcases h with ⟨-,rfl⟩ | ⟨-,h⟩
   ·exact hg9 e
   ·exact hz i b h e
  have HF:=Ac ((HQN.keepD TT (fun i b o h (e:b=_)=>hz9 i b h e)).upTo TT.size (Nat.le_refl _));have LF:=Ac (LW.trans (TT.below (Nat.le_trans hlw LW.size) (fun b o hb (e:b=_)=>by omega)));have BF:=Ai (o:=33) B0 (.slice (some ⟨g9,0,none⟩) (d.nq+1) c9);simp only [List.setIfInBounds_toArray,List.set_cons_succ,List.set_cons_zero] at BF;have BFF:=Ac BF;have c0':=Aj B0;have f0':=Ar B0;clear HQA LXA B0A hW R9 hat9 hs9 HQN TT LW BF B0;go_wp2;go_ret;exact ⟨rfl,⟨_,_,_,_,_,_,_,_,_,_,_,_,_,_,HF.out,hz9,BFF.out⟩,LF.out⟩
 by_cases r3:rg=3
 ·have HV:Hid (Bo d a=Pl true d.L d.R at'∧Bd d a={ d with R:=Rx true d.R at',nq:=d.nq+1,rd:=snoc d.rd d.nq (Pl true d.L d.R at') }):=by
   have e:rgN (a%65536)=3:=by rw [← hrg.out]; exact r3
   show _∧_
   unfold Bd Bo;simp only [e,if_true,show ¬ ((3:Int)=2) by decide,if_false];rw [← hat.out];exact ⟨rfl,rfl⟩
  rw [HV.out.1,HV.out.2];subst r3;clear HV hrg r2
  obtain ⟨x,hx⟩:∃ x,Hid (x=Pl true d.L d.R at'):=⟨_,rfl⟩
  obtain ⟨r',hr⟩:∃ x,Hid (x=Rx true d.R at'):=⟨_,rfl⟩
  have HP:=Ac (fun W=>Ql W d.T d.P d.K d.B d.L d.Q d.R at');rw [← hx.out,← hr.out] at HP;rw [← hx.out,← hr.out];clear hx hr hat
  obtain ⟨DD,hDD⟩:∃ DD,DD=D:=⟨_,rfl⟩
  subst hDD
  go_enter Tryz.func19,Tryz.ntmps19
  go_wp2_with fail;refine (HG.out _).mono ?_;rintro e W1 ⟨rfl,rfl⟩;have c0':=Aj B0;go_wp2_with fail;clear c0';refine (HP.out _).mono ?_;rintro e W2 ⟨rfl,L⟩;clear HP;replace HQ:=(HQ.below L).upTo L.size (Nat.le_refl _);replace L0:=L0.trans (L.mono (Nat.le_trans hlw L0.size));replace B0:=Aa B0 L (Ae B0)
  replace HQ:B8 W2 lo W2.heap.size DD (.slice x0 d.m y0) (.slice x1 d.np y1) (.slice x2 d.nr y2) (.slice x3 d.nt y3) (.slice x4 d.nd y4) (.slice x5 d.mf y5) (.slice x6 d.ns y6) (.slice x7 d.nq y7) ob iv ov o6 o7 { d with R:=r' }:=⟨HQ.h0,HQ.h1,HQ.h2,HQ.h3,HQ.h5,HQ.h5D,HQ.h6,HQ.h6D,HQ.h7,HQ.h7D,HQ.dis,HQ.bd,HQ.nN,HQ.hps⟩
  clear L;have c0':=Aj B0;have f0':=Ar B0;go_upto_region 11 with (fail);clear c0' f0';have TT:=Wrote.setCell (b:=z) (o:=26) (R:=fun b _=>b=z) (Wrote.setCell (b:=z) (o:=25) (R:=fun b _=>b=z) (Wrote.setCell (b:=z) (o:=24) (R:=fun b _=>b=z) (Wrote.setCell (b:=z) (o:=23) (R:=fun b _=>b=z) (Wrote.setCell (b:=z) (o:=22) (R:=fun b _=>b=z) (Wrote.setCell (b:=z) (o:=21) (R:=fun b _=>b=z) (Wrote.setCell (b:=z) (o:=20) (R:=fun b _=>b=z) (Wrote.refl _ W2) (fun _=>rfl) (.i d.T)) (fun _=>rfl) (.i d.P)) (fun _=>rfl) (.i d.K)) (fun _=>rfl) (.i d.B)) (fun _=>rfl) (.i d.L)) (fun _=>rfl) (.bool d.Q)) (fun _=>rfl) (.bool r');replace B0:=Ai (o:=20) B0 (.i d.T);replace B0:=Ai (o:=21) B0 (.i d.P);replace B0:=Ai (o:=22) B0 (.i d.K);replace B0:=Ai (o:=23) B0 (.i d.B)
  replace B0:=Ai (o:=24) B0 (.i d.L);replace B0:=Ai (o:=25) B0 (.bool d.Q);replace B0:=Ai (o:=26) B0 (.bool r');simp only [List.setIfInBounds_toArray,List.set_cons_succ,List.set_cons_zero] at B0;replace HQ:=HQ.keepD TT (fun i b o h (e:b=_)=>hz i b h e);replace HQ:=HQ.upTo TT.size (Nat.le_refl _);replace L0:=L0.trans (TT.below (Nat.le_trans hlw L0.size) (fun b o hb (h:b=_)=>by omega));replace hzl:=Ae B0;clear TT;generalize ((((((W2.setCell ⟨z,20,none⟩ (.i d.T)).setCell ⟨z,21,none⟩ (.i d.P)).setCell ⟨z,22,none⟩ (.i d.K)).setCell ⟨z,23,none⟩ (.i d.B)).setCell ⟨z,24,none⟩ (.i d.L)).setCell ⟨z,25,none⟩ (.bool d.Q)).setCell ⟨z,26,none⟩ (.bool r')=W3 at *;have LA:Below W3.heap.size W3 (W3.alloc (.cells #[.i x] 3)):=(Below.refl _ _).alloc (Nat.le_refl _) _;have hE:=Aj (Al W3 #[.i x] 3) 0
  have c0':=Aj (Aa B0 LA (Ae B0));have c0s:=Aj B0;have HQA:=Ac ((HQ.below LA).upTo LA.size (Nat.le_refl _));have LXA:=Ac (L0.trans (LA.mono (Nat.le_trans hlw L0.size)));have B0A:=Ac (Aa B0 LA (Ae B0));clear HQ L0 LA B0;go_wp2_with (at_builtin; refine En _ rfl _ _ rfl lo o7 (.slice x7 d.nq y7) d.nq d.rd rfl HQA.out.h7 hnq (Nat.le_trans hlw LXA.out.size) W3.heap.size x rfl hE ?_);intro g9 c9 W9 R9 hW hat9;clear c0' c0s hE
  replace hat9:o7=some g9∨(W3.alloc (.cells #[.i x] 3)).heap.size≤g9:=by simpa using hat9
  have hs9:(W3.alloc (.cells #[.i x] 3)).heap.size=W3.heap.size+1:=by simp
  have HQN:=HQA.out.push (Nat.le_trans hlw LXA.out.size) hW R9 hat9;have B0:=Ag B0A.out hW (fun o e=>hz 6 z (HQA.out.h7D z e) rfl);have LW:Below lo _ W9:=LXA.out.trans (hW.below (Nat.le_trans hlw LXA.out.size) (fun b o hb e=>by have:=HQA.out.bd 6 b (HQA.out.h7D b e); omega))
  have hg9:g9≠z:=fun e=>by
   subst e
   rcases hat9 with e | h
   ·exact hz 6 g9 (HQA.out.h7D g9 e) rfl
   ·omega
  have TT:=Wrote.setCell (b:=z) (o:=33) (R:=fun b _=>b=z) (Wrote.refl _ W9) (fun _=>rfl) (.slice (some ⟨g9,0,none⟩) (d.nq+1) c9)
  have hz9:∀ i b,(i=6∧b=g9)∨(i≠6∧DD i b)→b≠z:=fun i b h e=>by
   rcases h with ⟨-,rfl⟩ | ⟨-,h⟩
   ·exact hg9 e
   ·exact hz i b h e
  have HF:=Ac ((HQN.keepD TT (fun i b o h (e:b=_)=>hz9 i b h e)).upTo TT.size (Nat.le_refl _));have LF:=Ac (LW.trans (TT.below (Nat.le_trans hlw LW.size) (fun b o hb (e:b=_)=>by omega)));have BF:=Ai (o:=33) B0 (.slice (some ⟨g9,0,none⟩) (d.nq+1) c9);simp only [List.setIfInBounds_toArray,List.set_cons_succ,List.set_cons_zero] at BF;have BFF:=Ac BF;have c0':=Aj B0;have f0':=Ar B0;clear HQA LXA B0A hW R9 hat9 hs9 HQN TT LW BF B0;go_wp2;go_ret;exact ⟨rfl,⟨_,_,_,_,_,_,_,_,_,_,_,_,_,_,HF.out,hz9,BFF.out⟩,LF.out⟩
 by_cases r4:rg=4
 ·have HV:Hid (Bo d a=Fs d.hd d.sh d.np d.p d.t∧Bd d a={ d with sh:=Da d.hd d.sh d.np d.p d.t,nq:=d.nq+1,rd:=snoc d.rd d.nq (Fs d.hd d.sh d.np d.p d.t) }):=by
   have e:rgN (a%65536)=4:=by rw [← hrg.out]; exact r4
   show _∧_
   unfold Bd Bo;simp only [e,if_true,show ¬ ((4:Int)=2) by decide,if_false,show ¬ ((4:Int)=3) by decide]
   first | exact ⟨rfl,rfl⟩ | exact ⟨trivial,rfl⟩ | exact ⟨trivial,trivial⟩ | trivial
  rw [HV.out.1,HV.out.2];subst r4;clear HV hrg r2 r3 hat
  obtain ⟨x,hx⟩:∃ x,Hid (x=Fs d.hd d.sh d.np d.p d.t):=⟨_,rfl⟩
  obtain ⟨s',hs'⟩:∃ x,Hid (x=Da d.hd d.sh d.np d.p d.t):=⟨_,rfl⟩
  have HP:=Ac (fun W F u k=>Qp W F d.hd d.sh u d.np d.p d.t (by have:=(Cu oku).2; omega) k);rw [← hx.out,← hs'.out] at HP;rw [← hx.out,← hs'.out];clear hx hs'
  obtain ⟨DD,hDD⟩:∃ DD,DD=D:=⟨_,rfl⟩
  subst hDD
  have I1:Ints .i64 w (On (DD 1)) (.slice x1 d.np y1) d.np d.p:=by obtain ⟨aa,cc,e,hs⟩:=HQ.h1; rw [e]; exact hs.ints cc
  go_enter Tryz.func19,Tryz.ntmps19
  go_wp2_with fail;refine (HG.out _).mono ?_;rintro e W1 ⟨rfl,rfl⟩;go_upto_region 10 with (fail);rename_i K2 hK2
  refine Bi [some 55,some 56,some 57,some 58,some 59,some 60,some 61,some 62,some 63,some 64,some 65,some 66,some 67,some 68,some 69,some 54,some 70,some 71,some 72,some 73,none,some 5] (by kernel_rfl) (by kernel_rfl) (by kernel_rfl) (by kernel_rfl) (by first | (simp [slotsOf]; done) | (simp [slotsOf,Act.put]; done))
    (fun j b _=>(j=20∧b=z))
    (fun i v W=>match i with
     | 0=>v=(pt z 0)
     | 1=>v=(pt z 0)
     | 2=>v=(pt z 0)
     | 3=>v=(pt z 27)
     | 4=>v=.agg #[.bool d.hd,.i d.sh]
     | 5=>v=(pt z 0)
     | 6=>v=(pt z 0)
     | 7=>v=(pt z 1)
     | 8=>v=.slice x1 d.np y1
     | 9=>v=(pt z 0)
     | 10=>v=(pt z 0)
     | 11=>v=(pt z 12)
     | 12=>v=(pt z 12)
     | 13=>v=.i d.t
     | 14=>v=.tuple #[.agg #[.bool d.hd,.i s'],.i x]
     | 15=>v=.tuple #[.agg #[.bool d.hd,.i s'],.i x]
     | 16=>v=.agg #[.bool d.hd,.i s']
     | 17=>v=.i x
     | 18=>v=(pt z 0)
     | 19=>v=(pt z 27)
     | 20=>W.heap[z]?=some (.cells (kR { d with sh:=s' } (.slice x0 d.m y0) (.slice x1 d.np y1) (.slice x2 d.nr y2) (.slice x3 d.nt y3) (.slice x4 d.nd y4) (.slice x5 d.mf y5) (.slice x6 d.ns y6) (.slice x7 d.nq y7)) 41 (0,0))
     | _=>v=.i x) ?_ ?_ ?_
  ·intro i j o v W W' hij ho _ hW h
   rcases i with _|_|_|_|_|_|_|_|_|_|_|_|_|_|_|_|_|_|_|_|_|_|i
   all_goals try exact h
   ·exact Ag h hW (fun o e=>by omega)
   all_goals simp at ho
  ·intro i o a' W K ho F L hw hK
   match i with
   | 0 =>
     cases ho;have t0:=F.get (t:=0) (v:=(pt z 0)) (by decide) rfl;go_simp;exact Hk hK rfl
   | 1 =>
     cases ho;have t0:=F.get (t:=0) (v:=(pt z 0)) (by decide) rfl;go_simp;exact Hk hK rfl
   | 2 =>
     cases ho;have q1:tv a' 56=_:=Hr hw 1;go_simp;exact Hk hK rfl
   | 3 =>
     cases ho;have q2:tv a' 57=_:=Hr hw 2;go_simp;exact Hk hK rfl
   | 4 =>
     cases ho;have q3:tv a' 58=_:=Hr hw 3;have rB:=Ag B0 L (fun o ⟨j,oj,hj,hoj,hwj,e⟩=>by rcases e with ⟨rfl,e⟩ <;> first | omega | (simp only [List.getElem?_toArray,List.getElem?_cons_zero,List.getElem?_cons_succ,Option.some.injEq] at hoj; subst hoj; cases hwj.symm.trans (show A1 _ 4=true by kernel_rfl)));have rb:=Aj rB;go_simp;exact Hk hK rfl
   | 5 =>
     cases ho;have t0:=F.get (t:=0) (v:=(pt z 0)) (by decide) rfl;go_simp;exact Hk hK rfl
   | 6 =>
     cases ho;have q5:tv a' 60=_:=Hr hw 5;go_simp;exact Hk hK rfl
   | 7 =>
     cases ho;have q6:tv a' 61=_:=Hr hw 6;go_simp;exact Hk hK rfl
   | 8 =>
     cases ho;have q7:tv a' 62=_:=Hr hw 7;have rB:=Ag B0 L (fun o ⟨j,oj,hj,hoj,hwj,e⟩=>by rcases e with ⟨rfl,e⟩ <;> first | omega | (simp only [List.getElem?_toArray,List.getElem?_cons_zero,List.getElem?_cons_succ,Option.some.injEq] at hoj; subst hoj; cases hwj.symm.trans (show A1 _ 8=true by kernel_rfl)));have rb:=Aj rB;go_simp;exact Hk hK rfl
   | 9 =>
     cases ho;have t0:=F.get (t:=0) (v:=(pt z 0)) (by decide) rfl;go_simp;exact Hk hK rfl
   | 10 =>
     cases ho;have q9:tv a' 64=_:=Hr hw 9;go_simp;exact Hk hK rfl
   | 11 =>
     cases ho;have q10:tv a' 65=_:=Hr hw 10;go_simp;exact Hk hK rfl
   | 12 =>
     cases ho;have q11:tv a' 66=_:=Hr hw 11;go_simp;exact Hk hK rfl
   | 13 =>
     cases ho;have q12:tv a' 67=_:=Hr hw 12;have rB:=Ag B0 L (fun o ⟨j,oj,hj,hoj,hwj,e⟩=>by rcases e with ⟨rfl,e⟩ <;> first | omega | (simp only [List.getElem?_toArray,List.getElem?_cons_zero,List.getElem?_cons_succ,Option.some.injEq] at hoj; subst hoj; cases hwj.symm.trans (show A1 _ 13=true by kernel_rfl)));have rb:=Aj rB;go_simp;exact Hk hK rfl
   | 14 =>
     cases ho;have q4:tv a' 59=_:=Hr hw 4;have q8:tv a' 63=_:=Hr hw 8;have q13:tv a' 68=_:=Hr hw 13;go_simp;refine (HP.out W _ _ (I1.keep L (fun b o hb ⟨j,_,_,_,_,e⟩=>hz 1 b hb (by omega)))).mono ?_;rintro e W' ⟨rfl,LX⟩;exact hK _ _ (Ab LX _) rfl
   | 15 =>
     cases ho;have q14:tv a' 69=_:=Hr hw 14;go_simp;exact Hk hK rfl
   | 16 =>
     cases ho;have q15:tv a' 54=_:=Hr hw 15;go_simp;exact Hk hK rfl
   | 17 =>
     cases ho;have q15:tv a' 54=_:=Hr hw 15;go_simp;exact Hk hK rfl
   | 18 =>
     cases ho;have q0:tv a' 55=_:=Hr hw 0;go_simp;exact Hk hK rfl
   | 19 =>
     cases ho;have q18:tv a' 72=_:=Hr hw 18;go_simp;exact Hk hK rfl
   | 20 =>
     cases ho;have q16:tv a' 70=_:=Hr hw 16;have q19:tv a' 73=_:=Hr hw 19;have rB:=Ag B0 L (fun o ⟨j,oj,hj,hoj,hwj,e⟩=>by omega);have rb:=Aj rB;have rf:=Ar rB;have HB:=Ai (o:=28) (Ai (o:=27) (rB) (.bool d.hd)) (.i s');simp only [List.setIfInBounds_toArray,List.set_cons_succ,List.set_cons_zero] at HB;have HBB:=Ac HB;clear HB rB;go_simp;exact hK undef _ (Wrote.setCell (Wrote.setCell (Wrote.refl _ W) (fun _=>⟨rfl,rfl⟩) _) (fun _=>⟨rfl,rfl⟩) _) HBB.out
   | 21 =>
     cases ho;have q17:tv a' 71=_:=Hr hw 17;go_simp;exact Hk hK rfl
   | _+22=>simp at ho
  ·intro a' W F L hφ
   have RB0:W.heap[z]?=some (.cells (kR { d with sh:=s' } (.slice x0 d.m y0) (.slice x1 d.np y1) (.slice x2 d.nr y2) (.slice x3 d.nt y3) (.slice x4 d.nd y4) (.slice x5 d.mf y5) (.slice x6 d.ns y6) (.slice x7 d.nq y7)) 41 (0,0)):=Hd hφ 20;have p55:a'.tmps[55]?.getD undef=_:=Hd hφ 0;have p56:a'.tmps[56]?.getD undef=_:=Hd hφ 1;have p57:a'.tmps[57]?.getD undef=_:=Hd hφ 2;have p58:a'.tmps[58]?.getD undef=_:=Hd hφ 3;have p59:a'.tmps[59]?.getD undef=_:=Hd hφ 4;have p60:a'.tmps[60]?.getD undef=_:=Hd hφ 5;have p61:a'.tmps[61]?.getD undef=_:=Hd hφ 6;have p62:a'.tmps[62]?.getD undef=_:=Hd hφ 7;have p63:a'.tmps[63]?.getD undef=_:=Hd hφ 8;have p64:a'.tmps[64]?.getD undef=_:=Hd hφ 9;have p65:a'.tmps[65]?.getD undef=_:=Hd hφ 10;have p66:a'.tmps[66]?.getD undef=_:=Hd hφ 11;have p67:a'.tmps[67]?.getD undef=_:=Hd hφ 12
   have p68:a'.tmps[68]?.getD undef=_:=Hd hφ 13;have p69:a'.tmps[69]?.getD undef=_:=Hd hφ 14;have p54:a'.tmps[54]?.getD undef=_:=Hd hφ 15;have p70:a'.tmps[70]?.getD undef=_:=Hd hφ 16;have p71:a'.tmps[71]?.getD undef=_:=Hd hφ 17;have p72:a'.tmps[72]?.getD undef=_:=Hd hφ 18;have p73:a'.tmps[73]?.getD undef=_:=Hd hφ 19;have p5:a'.tmps[5]?.getD undef=_:=Hd hφ 21;replace L0:=L0.trans (L.below (Nat.le_trans hlw L0.size) (fun b o hb ⟨j,e⟩=>by omega));replace B0:=RB0;clear RB0;replace HQ:=(HQ.keepD L (fun i b o h ⟨j,e⟩=>hz i b h (by omega))).upTo L.size (Nat.le_refl _)
   rw [F.same,show slotsOf [some 55,some 56,some 57,some 58,some 59,some 60,some 61,some 62,some 63,some 64,some 65,some 66,some 67,some 68,some 69,some 54,some 70,some 71,some 72,some 73,none,some 5]=[55,56,57,58,59,60,61,62,63,64,65,66,67,68,69,54,70,71,72,73,5] from rfl];simp only [List.foldl_cons,List.foldl_nil];rw [p55,p56,p57,p58,p59,p60,p61,p62,p63,p64,p65,p66,p67,p68,p69,p54,p70,p71,p72,p73,p5];clear hφ L F p55 p56 p57 p58 p59 p60 p61 p62 p63 p64 p65 p66 p67 p68 p69 p54 p70 p71 p72 p73 p5
   replace HQ:B8 W lo W.heap.size DD (.slice x0 d.m y0) (.slice x1 d.np y1) (.slice x2 d.nr y2) (.slice x3 d.nt y3) (.slice x4 d.nd y4) (.slice x5 d.mf y5) (.slice x6 d.ns y6) (.slice x7 d.nq y7) ob iv ov o6 o7 { d with sh:=s' }:=⟨HQ.h0,HQ.h1,HQ.h2,HQ.h3,HQ.h5,HQ.h5D,HQ.h6,HQ.h6D,HQ.h7,HQ.h7D,HQ.dis,HQ.bd,HQ.nN,HQ.hps⟩
   replace hzl:=Ae B0;clear I1;refine hK2 _ _ ?_;clear hK2;go_simp;go_upto_region 11 with (fail)
   obtain ⟨W3,hW3⟩:∃ W3,W3=W:=⟨_,rfl⟩
   subst hW3;have LA:Below W3.heap.size W3 (W3.alloc (.cells #[.i x] 3)):=(Below.refl _ _).alloc (Nat.le_refl _) _;have hE:=Aj (Al W3 #[.i x] 3) 0;have c0':=Aj (Aa B0 LA (Ae B0));have c0s:=Aj B0;have HQA:=Ac ((HQ.below LA).upTo LA.size (Nat.le_refl _));have LXA:=Ac (L0.trans (LA.mono (Nat.le_trans hlw L0.size)));have B0A:=Ac (Aa B0 LA (Ae B0));clear HQ L0 LA B0;go_wp2_with (at_builtin; refine En _ rfl _ _ rfl lo o7 (.slice x7 d.nq y7) d.nq d.rd rfl HQA.out.h7 hnq (Nat.le_trans hlw LXA.out.size) W3.heap.size x rfl hE ?_);intro g9 c9 W9 R9 hW hat9;clear c0' c0s hE
   replace hat9:o7=some g9∨(W3.alloc (.cells #[.i x] 3)).heap.size≤g9:=by simpa using hat9
   have hs9:(W3.alloc (.cells #[.i x] 3)).heap.size=W3.heap.size+1:=by simp
   have HQN:=HQA.out.push (Nat.le_trans hlw LXA.out.size) hW R9 hat9;have B0:=Ag B0A.out hW (fun o e=>hz 6 z (HQA.out.h7D z e) rfl);have LW:Below lo _ W9:=LXA.out.trans (hW.below (Nat.le_trans hlw LXA.out.size) (fun b o hb e=>by have:=HQA.out.bd 6 b (HQA.out.h7D b e); omega))
   have hg9:g9≠z:=fun e=>by
    subst e
    rcases hat9 with e | h
    ·exact hz 6 g9 (HQA.out.h7D g9 e) rfl
    ·omega
   have TT:=Wrote.setCell (b:=z) (o:=33) (R:=fun b _=>b=z) (Wrote.refl _ W9) (fun _=>rfl) (.slice (some ⟨g9,0,none⟩) (d.nq+1) c9)
   have hz9:∀ i b,(i=6∧b=g9)∨(i≠6∧DD i b)→b≠z:=fun i b h e=>by
    rcases h with ⟨-,rfl⟩ | ⟨-,h⟩
    ·exact hg9 e
    ·exact hz i b h e
   have HF:=Ac ((HQN.keepD TT (fun i b o h (e:b=_)=>hz9 i b h e)).upTo TT.size (Nat.le_refl _));have LF:=Ac (LW.trans (TT.below (Nat.le_trans hlw LW.size) (fun b o hb (e:b=_)=>by omega)));have BF:=Ai (o:=33) B0 (.slice (some ⟨g9,0,none⟩) (d.nq+1) c9);simp only [List.setIfInBounds_toArray,List.set_cons_succ,List.set_cons_zero] at BF;have BFF:=Ac BF;have c0':=Aj B0;have f0':=Ar B0;clear HQA LXA B0A hW R9 hat9 hs9 HQN TT LW BF B0;go_wp2;go_ret;exact ⟨rfl,⟨_,_,_,_,_,_,_,_,_,_,_,_,_,_,HF.out,hz9,BFF.out⟩,LF.out⟩
 have HV:Hid (Bo d a=Dr d.m d.f d.g d.bank (a%65536)∧Bd d a=d):=by
  have e2:¬ rgN (a%65536)=2:=by rw [← hrg.out]; exact r2
  have e3:¬ rgN (a%65536)=3:=by rw [← hrg.out]; exact r3
  have e4:¬ rgN (a%65536)=4:=by rw [← hrg.out]; exact r4
  show _∧_
  unfold Bd Bo;rw [if_neg e2,if_neg e3,if_neg e4,if_neg e2,if_neg e3,if_neg e4];exact ⟨rfl,rfl⟩
 rw [HV.out.1,HV.out.2];clear HV hrg hat;have q2:(rg==2)=false:=beq_eq_false_iff_ne.2 r2;have q3:(rg==3)=false:=beq_eq_false_iff_ne.2 r3;have q4:(rg==4)=false:=beq_eq_false_iff_ne.2 r4;clear r2 r3 r4
 obtain ⟨x,hx⟩:∃ x,Hid (x=Dr d.m d.f d.g d.bank (a%65536)):=⟨_,rfl⟩
 have HP:=Ac (fun W F G v u h k=>Wd W F G v u d.m d.ln d.f d.nr d.g d.bank a h k);unfold peekV at HP;rw [okm,if_pos rfl,← hx.out] at HP;rw [← hx.out];clear hx;obtain ⟨q5,hq5,I2⟩:=HQ.h2.ints;simp only [Value.agg.injEq,Array.mk.injEq,List.cons.injEq,and_true] at hq5;subst hq5;have I0:=HQ.h0.ints
 go_enter Tryz.func19,Tryz.ntmps19
 go_wp2_with fail;refine (HG.out _).mono ?_;rintro e W1 ⟨rfl,rfl⟩;go_upto_region 4 with (fail);rename_i K2 hK2
 refine Bi [some 14,some 15,some 16,some 17,some 18,some 19,some 20,some 21,some 22,some 23,some 4] (by kernel_rfl) (by kernel_rfl) (by kernel_rfl) (by kernel_rfl) (by first | (simp [slotsOf]; done) | (simp [slotsOf,Act.put]; done))
   (fun j b _=>False)
   (fun i v W=>match i with
    | 0=>v=(pt z 0)
    | 1=>v=(pt z 0)
    | 2=>v=(pt z 0)
    | 3=>v=.agg #[.slice x0 d.m y0]
    | 4=>v=(pt z 0)
    | 5=>v=(pt z 0)
    | 6=>v=(pt z 2)
    | 7=>v=.agg #[.slice x2 d.nr y2,.i d.bank]
    | 8=>v=.i a
    | 9=>v=.i x
    | _=>v=.i x) ?_ ?_ ?_
 ·intro i j o v W W' hij ho _ hW h
  rcases i with _|_|_|_|_|_|_|_|_|_|_|i
  all_goals try exact h
  all_goals simp at ho
 ·intro i o a' W K ho F L hw hK
  match i with
  | 0 =>
    cases ho;have t0:=F.get (t:=0) (v:=(pt z 0)) (by decide) rfl;go_simp;exact Hk hK rfl
  | 1 =>
    cases ho;have q0:tv a' 14=_:=Hr hw 0;go_simp;exact Hk hK rfl
  | 2 =>
    cases ho;have q1:tv a' 15=_:=Hr hw 1;go_simp;exact Hk hK rfl
  | 3 =>
    cases ho;have q2:tv a' 16=_:=Hr hw 2;have rB:=Ag B0 L (fun o ⟨j,oj,hj,hoj,hwj,e⟩=>e);have rb:=Aj rB;go_simp;exact Hk hK rfl
  | 4 =>
    cases ho;have t0:=F.get (t:=0) (v:=(pt z 0)) (by decide) rfl;go_simp;exact Hk hK rfl
  | 5 =>
    cases ho;have q4:tv a' 18=_:=Hr hw 4;go_simp;exact Hk hK rfl
  | 6 =>
    cases ho;have q5:tv a' 19=_:=Hr hw 5;go_simp;exact Hk hK rfl
  | 7 =>
    cases ho;have q6:tv a' 20=_:=Hr hw 6;have rB:=Ag B0 L (fun o ⟨j,oj,hj,hoj,hwj,e⟩=>e);have rb:=Aj rB;go_simp;exact Hk hK rfl
  | 8 =>
    cases ho;have t1:=F.get (t:=1) (v:=.i a) (by decide) rfl;go_simp;exact Hk hK rfl
  | 9 =>
    cases ho;have q3:tv a' 17=_:=Hr hw 3;have q7:tv a' 21=_:=Hr hw 7;have q8:tv a' 22=_:=Hr hw 8;go_simp;refine (HP.out W _ _ _ _ (I0.keep L (fun b o hb ⟨j,_,_,_,_,e⟩=>e)) (I2.keep L (fun b o hb ⟨j,_,_,_,_,e⟩=>e))).mono ?_;rintro e W' ⟨rfl,LX⟩;exact hK _ _ (Ab LX _) rfl
  | 10 =>
    cases ho;have q9:tv a' 23=_:=Hr hw 9;go_simp;exact Hk hK rfl
  | _+11=>simp at ho
 ·intro a' W F L hφ
  have p14:a'.tmps[14]?.getD undef=_:=Hd hφ 0;have p15:a'.tmps[15]?.getD undef=_:=Hd hφ 1;have p16:a'.tmps[16]?.getD undef=_:=Hd hφ 2;have p17:a'.tmps[17]?.getD undef=_:=Hd hφ 3;have p18:a'.tmps[18]?.getD undef=_:=Hd hφ 4;have p19:a'.tmps[19]?.getD undef=_:=Hd hφ 5;have p20:a'.tmps[20]?.getD undef=_:=Hd hφ 6;have p21:a'.tmps[21]?.getD undef=_:=Hd hφ 7;have p22:a'.tmps[22]?.getD undef=_:=Hd hφ 8;have p23:a'.tmps[23]?.getD undef=_:=Hd hφ 9;have p4:a'.tmps[4]?.getD undef=_:=Hd hφ 10;replace L0:=L0.trans (L.below (Nat.le_trans hlw L0.size) (fun b o hb ⟨j,e⟩=>e));replace B0:=Ag B0 L (fun o ⟨j,e⟩=>e);replace HQ:=(HQ.keepD L (fun i b o h ⟨j,e⟩=>e)).upTo L.size (Nat.le_refl _)
  rw [F.same,show slotsOf [some 14,some 15,some 16,some 17,some 18,some 19,some 20,some 21,some 22,some 23,some 4]=[14,15,16,17,18,19,20,21,22,23,4] from rfl];simp only [List.foldl_cons,List.foldl_nil];rw [p14,p15,p16,p17,p18,p19,p20,p21,p22,p23,p4];clear hφ L F p14 p15 p16 p17 p18 p19 p20 p21 p22 p23 p4;have HF:=Ac HQ;have BF:=Ac B0;have LF:=Ac L0;clear HQ B0 L0 I0 I2;refine hK2 _ _ ?_;clear hK2;go_simp;go_wp2;go_ret;exact ⟨rfl,⟨_,_,_,_,_,_,_,_,_,_,_,_,_,_,HF.out,hz,BF.out⟩,LF.out⟩
theorem Uv (w:World) (lo z:Nat) (d:Ao) (a y:Int) (H:Fh w lo z d) (hlo:lo≤z) (hok:okLock d=true):Calls Tryz.prog 36 #[(pt z 0),.i a,.i y] w fun e w'=>e=.returned (.tuple #[])∧Fh w' lo z (A6 d a y)∧Below lo w w':=by
 obtain ⟨okp,okm,oku,oka,oks⟩:=De hok;obtain ⟨D,u0,u1,u2,u3,u4,u5,u6,u7,ob,iv,ov,o6,o7,HQ,hz,B0⟩:=H;obtain ⟨x0,y0,rfl⟩:=HQ.h0.form;obtain ⟨x1,y1,rfl⟩:=HQ.h1.two;obtain ⟨x2,y2,e2⟩:=HQ.h2.two;simp only [Value.agg.injEq,Array.mk.injEq,List.cons.injEq,and_true] at e2;subst e2;obtain ⟨x3,y3,x4,y4,e3⟩:=HQ.h3.two;simp only [Value.agg.injEq,Array.mk.injEq,List.cons.injEq,and_true,true_and] at e3;obtain ⟨rfl,rfl⟩:=e3;obtain ⟨x5,y5,rfl⟩:=HQ.h5.form;obtain ⟨x6,y6,rfl⟩:=HQ.h6.form;obtain ⟨x7,y7,rfl⟩:=HQ.h7.form;have hzl:=Ae B0
 have hlw:lo≤w.heap.size:=by omega
 have L0:Below lo w w:=⟨rfl,rfl,rfl,Nat.le_refl _,fun _ _=>rfl⟩
 obtain ⟨rg,hrg⟩:∃ x,Hid (x=rgN (a%65536)):=⟨_,rfl⟩
 obtain ⟨at',hat⟩:∃ x,Hid (x=rgP (a%65536)):=⟨_,rfl⟩
 have HG:=Ac (fun W=>Il W a);rw [← hrg.out,← hat.out] at HG
 by_cases r2:rg=2
 ·have HV:Hid (A6 d a y={ d with c:=Hz true at' y d.c,s:=Ia true at' y d.s,ad:=Ib true at' y d.ad,pl:=Ic true at' y d.pl,tb:=I6 true at' y d.ad d.tb }):=by
   have e:rgN (a%65536)=2:=by rw [← hrg.out]; exact r2
   show _=_
   unfold A6;simp only [e,if_true]
   all_goals (first | (rw [← hat.out]; done) | (rw [← hat.out]; rfl) | rfl | trivial)
  rw [HV.out];subst r2;clear HV hrg
  obtain ⟨c',hc'⟩:∃ x,Hid (x=Hz true at' y d.c):=⟨_,rfl⟩
  obtain ⟨s',hs'⟩:∃ x,Hid (x=Ia true at' y d.s):=⟨_,rfl⟩
  obtain ⟨ad',had'⟩:∃ x,Hid (x=Ib true at' y d.ad):=⟨_,rfl⟩
  obtain ⟨pl',hpl'⟩:∃ x,Hid (x=Ic true at' y d.pl):=⟨_,rfl⟩
  obtain ⟨tb',htb'⟩:∃ x,Hid (x=I6 true at' y d.ad d.tb):=⟨_,rfl⟩
  have HP:=Ac (fun W F G u u' h k=>Mm W F G d.t d.c d.s d.ad d.pl d.bl u u' d.nt d.tb d.nd d.dt at' y h k);rw [oku,← hc'.out,← hs'.out,← had'.out,← hpl'.out,← htb'.out] at HP;rw [← hc'.out,← hs'.out,← had'.out,← hpl'.out,← htb'.out];clear hc' hs' had' hpl' htb' hat;obtain ⟨q3,q4,hq3,I3,I4⟩:=HQ.h3.ints;simp only [Value.agg.injEq,Array.mk.injEq,List.cons.injEq,and_true,true_and] at hq3;obtain ⟨rfl,rfl⟩:=hq3
  go_enter Tryz.func36,Tryz.ntmps36
  go_wp2_with fail;refine (HG.out _).mono ?_;rintro e W1 ⟨rfl,rfl⟩;have c0':=Aj B0;go_wp2_with fail;clear c0';refine (HP.out _ _ _ _ _ I3 I4).mono ?_;rintro e W2 ⟨v',rfl,P3,L⟩;clear HP I3 I4;obtain ⟨x3',y3',x4',y4',rfl⟩:=P3.two;replace P3:=(P3.mono (E:=fun b=>W1.heap.size≤b∧b<W2.heap.size) (fun b hb h=>⟨h,hb⟩)).lower (lo':=lo) (Nat.le_trans hlw L0.size);have l12:=L.size;replace HQ:=HQ.below L;replace L0:=L0.trans (L.mono (Nat.le_trans hlw L0.size));replace B0:=Aa B0 L (Ae B0)
  obtain ⟨DD,HQ',hz'⟩:∃ DD,B8 W2 lo W2.heap.size DD (.slice x0 d.m y0) (.slice x1 d.np y1) (.slice x2 d.nr y2) (.slice x3' d.nt y3') (.slice x4' d.nd y4') (.slice x5 d.mf y5) (.slice x6 d.ns y6) (.slice x7 d.nq y7) ob iv ov o6 o7 { d with t:=d.t,c:=c',s:=s',ad:=ad',pl:=pl',bl:=d.bl,nt:=d.nt,tb:=tb',nd:=d.nd,dt:=d.dt }∧∀ i b,DD i b→b≠z:=⟨_,HQ.ppu P3 (Nat.le_refl _) hlw l12 (Nat.le_refl _),fun i b h e=>by
   rcases h with ⟨-,h1,h2⟩ | ⟨-,h⟩
   ·omega
   ·exact hz i b h e⟩
  clear HQ hz P3 L;have HQ:=HQ';have hz:=hz';clear HQ' hz';have c0':=Aj B0;have f0':=Ar B0;have TT:=Wrote.setCell (b:=z) (o:=19) (R:=fun b _=>b=z) (Wrote.setCell (b:=z) (o:=18) (R:=fun b _=>b=z) (Wrote.setCell (b:=z) (o:=17) (R:=fun b _=>b=z) (Wrote.setCell (b:=z) (o:=16) (R:=fun b _=>b=z) (Wrote.setCell (b:=z) (o:=15) (R:=fun b _=>b=z) (Wrote.setCell (b:=z) (o:=14) (R:=fun b _=>b=z) (Wrote.setCell (b:=z) (o:=13) (R:=fun b _=>b=z) (Wrote.setCell (b:=z) (o:=12) (R:=fun b _=>b=z) (Wrote.refl _ W2) (fun _=>rfl) (.i d.t)) (fun _=>rfl) (.i c')) (fun _=>rfl) (.i s')) (fun _=>rfl) (.i ad')) (fun _=>rfl) (.i pl')) (fun _=>rfl) (.bool d.bl)) (fun _=>rfl) (.slice x3' d.nt y3')) (fun _=>rfl) (.slice x4' d.nd y4')
  have BF:=Ai (o:=19) (Ai (o:=18) (Ai (o:=17) (Ai (o:=16) (Ai (o:=15) (Ai (o:=14) (Ai (o:=13) (Ai (o:=12) (B0) (.i d.t)) (.i c')) (.i s')) (.i ad')) (.i pl')) (.bool d.bl)) (.slice x3' d.nt y3')) (.slice x4' d.nd y4');simp only [List.setIfInBounds_toArray,List.set_cons_succ,List.set_cons_zero] at BF;have BFF:=Ac BF;have HF:=Ac ((HQ.keepD TT (fun i b o h (e:b=_)=>hz i b h e)).upTo TT.size (Nat.le_refl _));have LF:=Ac (L0.trans (TT.below (Nat.le_trans hlw L0.size) (fun b o hb (h:b=_)=>by omega)));clear TT BF HQ L0 B0;go_wp2
  go_returns
  exact ⟨rfl,⟨_,_,_,_,_,_,_,_,_,_,_,_,_,_,HF.out,hz,BFF.out⟩,LF.out⟩
 by_cases r3:rg=3
 ·have HV:Hid (A6 d a y={ d with P:=Hn true d.P at' y,L:=Ho true d.L at' y,Q:=Im true d.Q at' y,R:=Io true d.R at' y }):=by
   have e:rgN (a%65536)=3:=by rw [← hrg.out]; exact r3
   show _=_
   unfold A6;simp only [e,if_true,show ¬ ((3:Int)=2) by decide,if_false]
   all_goals (first | (rw [← hat.out]; done) | (rw [← hat.out]; rfl) | rfl | trivial)
  rw [HV.out];subst r3;clear HV hrg r2
  obtain ⟨p',hp'⟩:∃ x,Hid (x=Hn true d.P at' y):=⟨_,rfl⟩
  obtain ⟨l',hl'⟩:∃ x,Hid (x=Ho true d.L at' y):=⟨_,rfl⟩
  obtain ⟨q',hq'⟩:∃ x,Hid (x=Im true d.Q at' y):=⟨_,rfl⟩
  obtain ⟨r',hr'⟩:∃ x,Hid (x=Io true d.R at' y):=⟨_,rfl⟩
  have HP:=Ac (fun W=>Ot W d.T d.P d.K d.B d.L d.Q d.R at' y);rw [← hp'.out,← hl'.out,← hq'.out,← hr'.out] at HP;rw [← hp'.out,← hl'.out,← hq'.out,← hr'.out];clear hp' hl' hq' hr' hat
  go_enter Tryz.func36,Tryz.ntmps36
  go_wp2_with fail;refine (HG.out _).mono ?_;rintro e W1 ⟨rfl,rfl⟩;have c0':=Aj B0;go_wp2_with fail;clear c0';refine (HP.out _).mono ?_;rintro e W2 ⟨rfl,L⟩;clear HP;replace HQ:=(HQ.below L).upTo L.size (Nat.le_refl _);replace L0:=L0.trans (L.mono (Nat.le_trans hlw L0.size));replace B0:=Aa B0 L (Ae B0)
  replace HQ:B8 W2 lo W2.heap.size D (.slice x0 d.m y0) (.slice x1 d.np y1) (.slice x2 d.nr y2) (.slice x3 d.nt y3) (.slice x4 d.nd y4) (.slice x5 d.mf y5) (.slice x6 d.ns y6) (.slice x7 d.nq y7) ob iv ov o6 o7 { d with P:=p',L:=l',Q:=q',R:=r' }:=⟨HQ.h0,HQ.h1,HQ.h2,HQ.h3,HQ.h5,HQ.h5D,HQ.h6,HQ.h6D,HQ.h7,HQ.h7D,HQ.dis,HQ.bd,HQ.nN,HQ.hps⟩
  clear L;have c0':=Aj B0;have f0':=Ar B0;have TT:=Wrote.setCell (b:=z) (o:=26) (R:=fun b _=>b=z) (Wrote.setCell (b:=z) (o:=25) (R:=fun b _=>b=z) (Wrote.setCell (b:=z) (o:=24) (R:=fun b _=>b=z) (Wrote.setCell (b:=z) (o:=23) (R:=fun b _=>b=z) (Wrote.setCell (b:=z) (o:=22) (R:=fun b _=>b=z) (Wrote.setCell (b:=z) (o:=21) (R:=fun b _=>b=z) (Wrote.setCell (b:=z) (o:=20) (R:=fun b _=>b=z) (Wrote.refl _ W2) (fun _=>rfl) (.i d.T)) (fun _=>rfl) (.i p')) (fun _=>rfl) (.i d.K)) (fun _=>rfl) (.i d.B)) (fun _=>rfl) (.i l')) (fun _=>rfl) (.bool q')) (fun _=>rfl) (.bool r');have BF:=Ai (o:=26) (Ai (o:=25) (Ai (o:=24) (Ai (o:=23) (Ai (o:=22) (Ai (o:=21) (Ai (o:=20) (B0) (.i d.T)) (.i p')) (.i d.K)) (.i d.B)) (.i l')) (.bool q')) (.bool r')
  simp only [List.setIfInBounds_toArray,List.set_cons_succ,List.set_cons_zero] at BF;have BFF:=Ac BF;have HF:=Ac ((HQ.keepD TT (fun i b o h (e:b=_)=>hz i b h e)).upTo TT.size (Nat.le_refl _));have LF:=Ac (L0.trans (TT.below (Nat.le_trans hlw L0.size) (fun b o hb (h:b=_)=>by omega)));clear TT BF HQ L0 B0;go_wp2
  go_returns
  exact ⟨rfl,⟨_,_,_,_,_,_,_,_,_,_,_,_,_,_,HF.out,hz,BFF.out⟩,LF.out⟩
 by_cases r4:rg=4
 ·have HV:Hid (A6 d a y={ d with hd:=Ew y,sh:=Dm d.hd d.sh d.np d.p d.t y }):=by
   have e:rgN (a%65536)=4:=by rw [← hrg.out]; exact r4
   show _=_
   unfold A6;simp only [e,if_true,show ¬ ((4:Int)=2) by decide,if_false,show ¬ ((4:Int)=3) by decide,if_false]
   all_goals (first | (rw [← hat.out]; done) | (rw [← hat.out]; rfl) | rfl | trivial)
  rw [HV.out];subst r4;clear HV hrg r2 r3
  obtain ⟨h',hh'⟩:∃ x,Hid (x=Ew y):=⟨_,rfl⟩
  obtain ⟨s',hs'⟩:∃ x,Hid (x=Dm d.hd d.sh d.np d.p d.t y):=⟨_,rfl⟩
  have HP:=Ac (fun W F u k=>Ou W F d.hd d.sh u d.np d.p d.t y (by have:=(Cu oku).2; omega) k);rw [← hh'.out,← hs'.out] at HP;rw [← hh'.out,← hs'.out];clear hh' hs' hat
  have I1:Ints .i64 w (On (D 1)) (.slice x1 d.np y1) d.np d.p:=by obtain ⟨aa,cc,e,hs⟩:=HQ.h1; rw [e]; exact hs.ints cc
  go_enter Tryz.func36,Tryz.ntmps36
  go_wp2_with fail;refine (HG.out _).mono ?_;rintro e W1 ⟨rfl,rfl⟩;go_upto_region 8 with (fail)
  refine Bi [some 54,some 55,some 56,some 57,some 58,some 59,some 60,some 61,some 62,some 63,some 64,some 65,some 66,some 67,some 68,some 69,some 70,some 71,none] (by kernel_rfl) (by kernel_rfl) (by kernel_rfl) (by kernel_rfl) (by first | (simp [slotsOf]; done) | (simp [slotsOf,Act.put]; done))
    (fun j b _=>(j=18∧b=z))
    (fun i v W=>match i with
     | 0=>v=(pt z 0)
     | 1=>v=(pt z 0)
     | 2=>v=(pt z 0)
     | 3=>v=(pt z 27)
     | 4=>v=.agg #[.bool d.hd,.i d.sh]
     | 5=>v=(pt z 0)
     | 6=>v=(pt z 0)
     | 7=>v=(pt z 1)
     | 8=>v=.slice x1 d.np y1
     | 9=>v=(pt z 0)
     | 10=>v=(pt z 0)
     | 11=>v=(pt z 12)
     | 12=>v=(pt z 12)
     | 13=>v=.i d.t
     | 14=>v=.i y
     | 15=>v=.agg #[.bool h',.i s']
     | 16=>v=(pt z 0)
     | 17=>v=(pt z 27)
     | _=>W.heap[z]?=some (.cells (kR { d with hd:=h',sh:=s' } (.slice x0 d.m y0) (.slice x1 d.np y1) (.slice x2 d.nr y2) (.slice x3 d.nt y3) (.slice x4 d.nd y4) (.slice x5 d.mf y5) (.slice x6 d.ns y6) (.slice x7 d.nq y7)) 41 (0,0))) ?_ ?_ ?_
  ·intro i j o v W W' hij ho _ hW h
   rcases i with _|_|_|_|_|_|_|_|_|_|_|_|_|_|_|_|_|_|_|i
   all_goals try exact h
   ·exact Ag h hW (fun o e=>by omega)
   all_goals simp at ho
  ·intro i o a' W K ho F L hw hK
   match i with
   | 0 =>
     cases ho;have t0:=F.get (t:=0) (v:=(pt z 0)) (by decide) rfl;go_simp;exact Hk hK rfl
   | 1 =>
     cases ho;have t0:=F.get (t:=0) (v:=(pt z 0)) (by decide) rfl;go_simp;exact Hk hK rfl
   | 2 =>
     cases ho;have q1:tv a' 55=_:=Hr hw 1;go_simp;exact Hk hK rfl
   | 3 =>
     cases ho;have q2:tv a' 56=_:=Hr hw 2;go_simp;exact Hk hK rfl
   | 4 =>
     cases ho;have q3:tv a' 57=_:=Hr hw 3;have rB:=Ag B0 L (fun o ⟨j,oj,hj,hoj,hwj,e⟩=>by rcases e with ⟨rfl,e⟩ <;> first | omega | (simp only [List.getElem?_toArray,List.getElem?_cons_zero,List.getElem?_cons_succ,Option.some.injEq] at hoj; subst hoj; cases hwj.symm.trans (show A1 _ 4=true by kernel_rfl)));have rb:=Aj rB;go_simp;exact Hk hK rfl
   | 5 =>
     cases ho;have t0:=F.get (t:=0) (v:=(pt z 0)) (by decide) rfl;go_simp;exact Hk hK rfl
   | 6 =>
     cases ho;have q5:tv a' 59=_:=Hr hw 5;go_simp;exact Hk hK rfl
   | 7 =>
     cases ho;have q6:tv a' 60=_:=Hr hw 6;go_simp;exact Hk hK rfl
   | 8 =>
     cases ho;have q7:tv a' 61=_:=Hr hw 7;have rB:=Ag B0 L (fun o ⟨j,oj,hj,hoj,hwj,e⟩=>by rcases e with ⟨rfl,e⟩ <;> first | omega | (simp only [List.getElem?_toArray,List.getElem?_cons_zero,List.getElem?_cons_succ,Option.some.injEq] at hoj; subst hoj; cases hwj.symm.trans (show A1 _ 8=true by kernel_rfl)));have rb:=Aj rB;go_simp;exact Hk hK rfl
   | 9 =>
     cases ho;have t0:=F.get (t:=0) (v:=(pt z 0)) (by decide) rfl;go_simp;exact Hk hK rfl
   | 10 =>
     cases ho;have q9:tv a' 63=_:=Hr hw 9;go_simp;exact Hk hK rfl
   | 11 =>
     cases ho;have q10:tv a' 64=_:=Hr hw 10;go_simp;exact Hk hK rfl
   | 12 =>
     cases ho;have q11:tv a' 65=_:=Hr hw 11;go_simp;exact Hk hK rfl
   | 13 =>
     cases ho;have q12:tv a' 66=_:=Hr hw 12;have rB:=Ag B0 L (fun o ⟨j,oj,hj,hoj,hwj,e⟩=>by rcases e with ⟨rfl,e⟩ <;> first | omega | (simp only [List.getElem?_toArray,List.getElem?_cons_zero,List.getElem?_cons_succ,Option.some.injEq] at hoj; subst hoj; cases hwj.symm.trans (show A1 _ 13=true by kernel_rfl)));have rb:=Aj rB;go_simp;exact Hk hK rfl
   | 14 =>
     cases ho;have t2:=F.get (t:=2) (v:=.i y) (by decide) rfl;go_simp;exact Hk hK rfl
   | 15 =>
     cases ho;have q4:tv a' 58=_:=Hr hw 4;have q8:tv a' 62=_:=Hr hw 8;have q13:tv a' 67=_:=Hr hw 13;have q14:tv a' 68=_:=Hr hw 14;go_simp;refine (HP.out W _ _ (I1.keep L (fun b o hb ⟨j,_,_,_,_,e⟩=>hz 1 b hb (by omega)))).mono ?_;rintro e W' ⟨rfl,LX⟩;exact hK _ _ (Ab LX _) rfl
   | 16 =>
     cases ho;have q0:tv a' 54=_:=Hr hw 0;go_simp;exact Hk hK rfl
   | 17 =>
     cases ho;have q16:tv a' 70=_:=Hr hw 16;go_simp;exact Hk hK rfl
   | 18 =>
     cases ho;have q15:tv a' 69=_:=Hr hw 15;have q17:tv a' 71=_:=Hr hw 17;have rB:=Ag B0 L (fun o ⟨j,oj,hj,hoj,hwj,e⟩=>by omega);have rb:=Aj rB;have rf:=Ar rB;have HB:=Ai (o:=28) (Ai (o:=27) (rB) (.bool h')) (.i s');simp only [List.setIfInBounds_toArray,List.set_cons_succ,List.set_cons_zero] at HB;have HBB:=Ac HB;clear HB rB;go_simp;exact hK undef _ (Wrote.setCell (Wrote.setCell (Wrote.refl _ W) (fun _=>⟨rfl,rfl⟩) _) (fun _=>⟨rfl,rfl⟩) _) HBB.out
   | _+19=>simp at ho
  ·intro a' W F L hφ
   have RB0:W.heap[z]?=some (.cells (kR { d with hd:=h',sh:=s' } (.slice x0 d.m y0) (.slice x1 d.np y1) (.slice x2 d.nr y2) (.slice x3 d.nt y3) (.slice x4 d.nd y4) (.slice x5 d.mf y5) (.slice x6 d.ns y6) (.slice x7 d.nq y7)) 41 (0,0)):=Hd hφ 18;have p54:a'.tmps[54]?.getD undef=_:=Hd hφ 0;have p55:a'.tmps[55]?.getD undef=_:=Hd hφ 1;have p56:a'.tmps[56]?.getD undef=_:=Hd hφ 2;have p57:a'.tmps[57]?.getD undef=_:=Hd hφ 3;have p58:a'.tmps[58]?.getD undef=_:=Hd hφ 4;have p59:a'.tmps[59]?.getD undef=_:=Hd hφ 5;have p60:a'.tmps[60]?.getD undef=_:=Hd hφ 6;have p61:a'.tmps[61]?.getD undef=_:=Hd hφ 7;have p62:a'.tmps[62]?.getD undef=_:=Hd hφ 8;have p63:a'.tmps[63]?.getD undef=_:=Hd hφ 9;have p64:a'.tmps[64]?.getD undef=_:=Hd hφ 10;have p65:a'.tmps[65]?.getD undef=_:=Hd hφ 11
   have p66:a'.tmps[66]?.getD undef=_:=Hd hφ 12;have p67:a'.tmps[67]?.getD undef=_:=Hd hφ 13;have p68:a'.tmps[68]?.getD undef=_:=Hd hφ 14;have p69:a'.tmps[69]?.getD undef=_:=Hd hφ 15;have p70:a'.tmps[70]?.getD undef=_:=Hd hφ 16;have p71:a'.tmps[71]?.getD undef=_:=Hd hφ 17;replace L0:=L0.trans (L.below (Nat.le_trans hlw L0.size) (fun b o hb ⟨j,e⟩=>by omega));replace B0:=RB0;clear RB0;replace HQ:=(HQ.keepD L (fun i b o h ⟨j,e⟩=>hz i b h (by omega))).upTo L.size (Nat.le_refl _);rw [F.same,show slotsOf [some 54,some 55,some 56,some 57,some 58,some 59,some 60,some 61,some 62,some 63,some 64,some 65,some 66,some 67,some 68,some 69,some 70,some 71,none]=[54,55,56,57,58,59,60,61,62,63,64,65,66,67,68,69,70,71] from rfl];simp only [List.foldl_cons,List.foldl_nil]
   rw [p54,p55,p56,p57,p58,p59,p60,p61,p62,p63,p64,p65,p66,p67,p68,p69,p70,p71];clear hφ L F p54 p55 p56 p57 p58 p59 p60 p61 p62 p63 p64 p65 p66 p67 p68 p69 p70 p71
   replace HQ:B8 W lo W.heap.size D (.slice x0 d.m y0) (.slice x1 d.np y1) (.slice x2 d.nr y2) (.slice x3 d.nt y3) (.slice x4 d.nd y4) (.slice x5 d.mf y5) (.slice x6 d.ns y6) (.slice x7 d.nq y7) ob iv ov o6 o7 { d with hd:=h',sh:=s' }:=⟨HQ.h0,HQ.h1,HQ.h2,HQ.h3,HQ.h5,HQ.h5D,HQ.h6,HQ.h6D,HQ.h7,HQ.h7D,HQ.dis,HQ.bd,HQ.nN,HQ.hps⟩
   have HF:=Ac HQ;have BF:=Ac B0;have LF:=Ac L0;clear HQ B0 L0 I1;go_simp;go_wp2
   go_returns
   exact ⟨rfl,⟨_,_,_,_,_,_,_,_,_,_,_,_,_,_,HF.out,hz,BF.out⟩,LF.out⟩
 have HV:Hid (A6 d a y={ d with g:=Du true d.g (a%65536) y,bank:=Et true d.m d.bank (a%65536) y }):=by
  have e2:¬ rgN (a%65536)=2:=by rw [← hrg.out]; exact r2
  have e3:¬ rgN (a%65536)=3:=by rw [← hrg.out]; exact r3
  have e4:¬ rgN (a%65536)=4:=by rw [← hrg.out]; exact r4
  show _=_
  unfold A6;rw [if_neg e2,if_neg e3,if_neg e4]
 rw [HV.out];clear HV hrg hat;have q2:(rg==2)=false:=beq_eq_false_iff_ne.2 r2;have q3:(rg==3)=false:=beq_eq_false_iff_ne.2 r3;have q4:(rg==4)=false:=beq_eq_false_iff_ne.2 r4;clear r2 r3 r4
 obtain ⟨g',hg'⟩:∃ x,Hid (x=Du true d.g (a%65536) y):=⟨_,rfl⟩
 obtain ⟨bk,hbk⟩:∃ x,Hid (x=Et true d.m d.bank (a%65536) y):=⟨_,rfl⟩
 have HP:=Ac (fun W F G v u h k=>We W F G v u d.m d.ln d.f d.nr d.g d.bank a y h k);rw [okm,← hg'.out,← hbk.out] at HP;rw [← hg'.out,← hbk.out];clear hg' hbk;obtain ⟨q5,hq5,I2⟩:=HQ.h2.ints;simp only [Value.agg.injEq,Array.mk.injEq,List.cons.injEq,and_true] at hq5;subst hq5;have I0:=HQ.h0.ints
 go_enter Tryz.func36,Tryz.ntmps36
 go_wp2_with fail;refine (HG.out _).mono ?_;rintro e W1 ⟨rfl,rfl⟩;go_upto_region 2 with (fail)
 refine Ey [some 14,some 15,some 16,some 17,some 18,some 19,some 20,some 21,some 22,some 23,some 24,some 25,some 26,some 27,none] (by kernel_rfl) (by kernel_rfl) (by kernel_rfl) (by kernel_rfl) (by first | (simp [slotsOf]; done) | (simp [slotsOf,Act.put]; done))
  (fun j b _=>j=14∧b=z)
  (fun i V lo hi W=>match i with
   | 0=>V 0=(pt z 0)
   | 1=>V 1=(pt z 0)
   | 2=>V 2=(pt z 0)
   | 3=>V 3=(pt z 0)
   | 4=>V 4=.agg #[.slice x0 d.m y0]
   | 5=>V 5=(pt z 0)
   | 6=>V 6=(pt z 0)
   | 7=>V 7=(pt z 2)
   | 8=>V 8=.agg #[.slice x2 d.nr y2,.i d.bank]
   | 9=>V 9=.i a
   | 10=>V 10=.i y
   | 11=>∃ q c,V 11=.agg #[.slice q d.nr c,.i bk]∧Bn W (fun b=>lo≤b∧b<hi) (.agg #[.slice q d.nr c,.i bk]) d.nr g' bk
   | 12=>V 12=(pt z 0)
   | 13=>V 13=(pt z 2)
   | _=>∃ q c,V 11=.agg #[.slice q d.nr c,.i bk]∧W.heap[z]?=some (.cells (kR { d with bank:=bk } (.slice x0 d.m y0) (.slice x1 d.np y1) (.slice q d.nr c) (.slice x3 d.nt y3) (.slice x4 d.nd y4) (.slice x5 d.mf y5) (.slice x6 d.ns y6) (.slice x7 d.nq y7)) 41 (0,0))) ?_ ?_ ?_
 ·intro i j o V x lo hi W W' hij ho hnw hlo' hhi hW h
  have nw:∀ k,A1 o k=true→k≠j:=fun k hk e=>by rw [e,hnw] at hk; cases hk
  match i,ho,hij,nw,h with
  | 0,_,hij,_,h=>exact (Ap V x hij).trans h
  | 1,_,hij,_,h=>exact (Ap V x hij).trans h
  | 2,_,hij,_,h=>exact (Ap V x hij).trans h
  | 3,_,hij,_,h=>exact (Ap V x hij).trans h
  | 4,_,hij,_,h=>exact (Ap V x hij).trans h
  | 5,_,hij,_,h=>exact (Ap V x hij).trans h
  | 6,_,hij,_,h=>exact (Ap V x hij).trans h
  | 7,_,hij,_,h=>exact (Ap V x hij).trans h
  | 8,_,hij,_,h=>exact (Ap V x hij).trans h
  | 9,_,hij,_,h=>exact (Ap V x hij).trans h
  | 10,_,hij,_,h=>exact (Ap V x hij).trans h
  | 11,_,hij,_,h=>obtain ⟨q,c,h1,h2⟩:=h; exact ⟨q,c,(Ap V x hij).trans h1,h2.keep hW (fun b o hb _ e=>by obtain ⟨h3,h4⟩:=hb; omega)⟩
  | 12,_,hij,_,h=>exact (Ap V x hij).trans h
  | 13,_,hij,_,h=>exact (Ap V x hij).trans h
  | 14,ho,hij,nw,h =>
   cases ho;obtain ⟨q,c,h1,h2⟩:=h;exact ⟨q,c,(Ap V x (nw 11 (by kernel_rfl))).trans h1,Ag h2 hW (fun o e=>hij e.1.symm)⟩
  | n+15,ho,_,_,_=>simp at ho
 ·intro i o a' W K ho F L hw hK
  have t0:=F.get (t:=0) (v:=(pt z 0)) (by decide) rfl;have t1:=F.get (t:=1) (v:=.i a) (by decide) rfl;have t2:=F.get (t:=2) (v:=.i y) (by decide) rfl
  match i with
  | 0 =>
   cases ho;go_simp;exact Hk hK (Aq _ _ _)
  | 1 =>
   cases ho;go_simp;exact Hk hK (Aq _ _ _)
  | 2 =>
   cases ho
   have q1:tv a' 15=(pt z 0):=by obtain ⟨_,_,_,_,q⟩:=Hr hw 1; exact q
   go_simp;exact Hk hK (Aq _ _ _)
  | 3 =>
   cases ho
   have q2:tv a' 16=(pt z 0):=by obtain ⟨_,_,_,_,q⟩:=Hr hw 2; exact q
   go_simp;exact Hk hK (Aq _ _ _)
  | 4 =>
   cases ho
   have q3:tv a' 17=(pt z 0):=by obtain ⟨_,_,_,_,q⟩:=Hr hw 3; exact q
   have rb:=Aj (Ag B0 L (fun k ⟨j,oj,hj,hoj,hwj,hR⟩=>by
    obtain ⟨rfl,-⟩:=hR;simp only [List.getElem?_toArray,List.getElem?_cons_zero,List.getElem?_cons_succ,Option.some.injEq] at hoj;subst hoj
    cases hwj.symm.trans (show A1 _ 4=true by kernel_rfl)))
   go_simp;exact Hk hK (Aq _ _ _)
  | 5 =>
   cases ho;go_simp;exact Hk hK (Aq _ _ _)
  | 6 =>
   cases ho
   have q5:tv a' 19=(pt z 0):=by obtain ⟨_,_,_,_,q⟩:=Hr hw 5; exact q
   go_simp;exact Hk hK (Aq _ _ _)
  | 7 =>
   cases ho
   have q6:tv a' 20=(pt z 0):=by obtain ⟨_,_,_,_,q⟩:=Hr hw 6; exact q
   go_simp;exact Hk hK (Aq _ _ _)
  | 8 =>
   cases ho
   have q7:tv a' 21=(pt z 2):=by obtain ⟨_,_,_,_,q⟩:=Hr hw 7; exact q
   have rb:=Aj (Ag B0 L (fun k ⟨j,oj,hj,hoj,hwj,hR⟩=>by
    obtain ⟨rfl,-⟩:=hR;simp only [List.getElem?_toArray,List.getElem?_cons_zero,List.getElem?_cons_succ,Option.some.injEq] at hoj;subst hoj
    cases hwj.symm.trans (show A1 _ 8=true by kernel_rfl)))
   go_simp;exact Hk hK (Aq _ _ _)
  | 9 =>
   cases ho;go_simp;exact Hk hK (Aq _ _ _)
  | 10 =>
   cases ho;go_simp;exact Hk hK (Aq _ _ _)
  | 11 =>
   cases ho
   have q4:tv a' 18=.agg #[.slice x0 d.m y0]:=by obtain ⟨_,_,_,_,q⟩:=Hr hw 4; exact q
   have q8:tv a' 22=.agg #[.slice x2 d.nr y2,.i d.bank]:=by obtain ⟨_,_,_,_,q⟩:=Hr hw 8; exact q
   have q9:tv a' 23=.i a:=by obtain ⟨_,_,_,_,q⟩:=Hr hw 9; exact q
   have q10:tv a' 24=.i y:=by obtain ⟨_,_,_,_,q⟩:=Hr hw 10; exact q
   go_simp;refine (HP.out W _ _ _ _ (I0.keep L (fun b o hb ⟨j,_,_,_,_,_,e⟩=>hz 0 b hb e)) (I2.keep L (fun b o hb ⟨j,_,_,_,_,_,e⟩=>hz 2 b hb e))).mono ?_;rintro e W' ⟨q,rfl,hO,hB⟩;have hM:=(Bn.own (bank:=bk) hO).mono (E:=fun b=>W.heap.size≤b∧b<W'.heap.size) (fun b hb h=>⟨h,hb⟩);obtain ⟨qa,qc,e⟩:=hM.two;simp only [Value.agg.injEq,Array.mk.injEq,List.cons.injEq,and_true] at e;subst e;exact hK _ _ (Ab hB _) ⟨qa,qc,Aq _ _ _,hM⟩
  | 12 =>
   cases ho
   have q0:tv a' 14=(pt z 0):=by obtain ⟨_,_,_,_,q⟩:=Hr hw 0; exact q
   go_simp;exact Hk hK (Aq _ _ _)
  | 13 =>
   cases ho
   have q12:tv a' 26=(pt z 0):=by obtain ⟨_,_,_,_,q⟩:=Hr hw 12; exact q
   go_simp;exact Hk hK (Aq _ _ _)
  | 14 =>
   cases ho
   have q13:tv a' 27=(pt z 2):=by obtain ⟨_,_,_,_,q⟩:=Hr hw 13; exact q
   obtain ⟨_,_,_,_,q,c,v11,_⟩:=Hr hw 11;have s11:a'.tmps[25]?.getD undef=.agg #[.slice q d.nr c,.i bk]:=v11;have rB:=Ag B0 L (fun o ⟨j,oj,hj,_,_,e,_⟩=>hj e);have rb:=Aj rB;have rf:=Ar rB;have HB:=Ai (o:=3) (Ai (o:=2) rB (.slice q d.nr c)) (.i bk);simp only [List.setIfInBounds_toArray,List.set_cons_succ,List.set_cons_zero] at HB;have HBB:=Ac HB;clear HB rB;go_simp;exact hK undef _ (Wrote.setCell (Wrote.setCell (Wrote.refl _ W) (fun _=>⟨rfl,rfl⟩) _) (fun _=>⟨rfl,rfl⟩) _) ⟨q,c,(Ap _ _ (by decide)).trans v11,HBB.out⟩
  | n+15=>simp at ho
 ·intro a' W F L lo' hi hφ hdj
  obtain ⟨a1,a2,a3,q,c,v11,hM⟩:=Hd hφ 11;obtain ⟨-,-,-,q',c',v11',BF⟩:=Hd hφ 14;rw [v11] at v11';simp only [Value.agg.injEq,Array.mk.injEq,List.cons.injEq,Value.slice.injEq,and_true,true_and] at v11';obtain ⟨rfl,rfl⟩:=v11';have l1:=L.size;replace HQ:=HQ.keepD L (fun i b o h ⟨j,_,e⟩=>hz i b h e);replace L0:=L0.trans (L.below (Nat.le_trans hlw L0.size) (fun b o hb ⟨j,_,e⟩=>by omega))
  obtain ⟨DD,HQ',hz'⟩:∃ DD,B8 W lo (hi 11) DD (.slice x0 d.m y0) (.slice x1 d.np y1) (.slice q d.nr c) (.slice x3 d.nt y3) (.slice x4 d.nd y4) (.slice x5 d.mf y5) (.slice x6 d.ns y6) (.slice x7 d.nq y7) ob iv ov o6 o7 { d with bank:=bk,nr:=d.nr,g:=g' }∧∀ i b,DD i b→b≠z:=⟨_,HQ.mem hM a1 hlw a2 a3,fun i b h e=>by
   rcases h with ⟨-,h1,h2⟩ | ⟨-,h⟩
   ·omega
   ·exact hz i b h e⟩
  have HF:=Ac (HQ'.upTo a3 (Nat.le_refl _));have LF:=Ac L0;have BFF:=Ac BF;clear BF HQ HQ' hz L0 hM I0 I2 HP hφ hdj v11 B0;rw [F.same,show slotsOf [some 14,some 15,some 16,some 17,some 18,some 19,some 20,some 21,some 22,some 23,some 24,some 25,some 26,some 27,none]=[14,15,16,17,18,19,20,21,22,23,24,25,26,27] from rfl];simp only [List.foldl_cons,List.foldl_nil];generalize a'.tmps[14]?.getD undef=s14';generalize a'.tmps[15]?.getD undef=s15';generalize a'.tmps[16]?.getD undef=s16';generalize a'.tmps[17]?.getD undef=s17';generalize a'.tmps[18]?.getD undef=s18';generalize a'.tmps[19]?.getD undef=s19';generalize a'.tmps[20]?.getD undef=s20';generalize a'.tmps[21]?.getD undef=s21';generalize a'.tmps[22]?.getD undef=s22';generalize a'.tmps[23]?.getD undef=s23';generalize a'.tmps[24]?.getD undef=s24'
  generalize a'.tmps[25]?.getD undef=s25';generalize a'.tmps[26]?.getD undef=s26';generalize a'.tmps[27]?.getD undef=s27';go_simp;go_wp2
  go_returns
  exact ⟨rfl,⟨_,_,_,_,_,_,_,_,_,_,_,_,_,_,HF.out,hz',BFF.out⟩,LF.out⟩
end Go.Proofs.YtjnjnppongdhgaaGreat
