import Derived.Test.YtijljlnooibbmaaGreatDoorG2
import Derived.Deep.CutBlock
namespace Go.Proofs.YtijljlnooibbmaaGreatDoor
set_option maxHeartbeats 8000000
set_option maxRecDepth 40000
open Go.Proofs.Tryz
set_option linter.unusedVariables false
set_option linter.unusedSimpArgs false
open Go.ChangeShapes Go.WideShapes Go.ChangeAt Go.RowKit Go.Sort
theorem Ew {W:World} {lo:Nat} {o7:Option Nat} {u:Value} {n:Nat} {f:Nat->Int} (R:A8 W lo o7 u n f) {b o:Nat} (h:spare u b o):o7=some b:=by
 obtain ⟨n1,c1,rfl,ho⟩:=h
 cases o7 with
 | none=>obtain ⟨e,-⟩:=R; cases e
 | some q =>
  obtain ⟨y,e,-⟩:=R;simp only [Value.slice.injEq,Option.some.injEq,Addr.mk.injEq,and_true] at e;rw [e.1]
theorem Cx.spare4 {W:World} {lo:Nat} {D:Nat->Prop} {u0 u1 u2 u3 u4 u5 u6 u7:Value} {t c s ad pl:Int} {bl:Bool} {n m:Nat} {f g:Nat->Int} (h:Cx W lo D (.agg #[u0,u1,u2,u3,u4,u5,u6,u7]) t c s ad pl bl n f m g) {b o:Nat} (hs:spare u7 b o):D b:=by
 obtain ⟨u,u',o1,o2,e,h1,h2,h3,h4⟩:=h;simp only [Value.agg.injEq,Array.mk.injEq,List.cons.injEq,and_true] at e;obtain ⟨-,-,-,-,-,-,-,rfl⟩:=e;exact h4 b (Or.inr (Ew h2 hs))
section
variable {w V W:World} {z:Nat} {a4 a5 a6 a7 b4 b5 b6 b7 b4':Value}
theorem Goes.new4 (h:Goes w W z a4 a5 a6 a7 b4 b5 b6 b7) (hn:∀ b o,b<w.heap.size->¬ spare b4' b o):Goes w W z a4 a5 a6 a7 b4' b5 b6 b7 :=
 ⟨h.wr,fun b o hb k=>h.sp b o hb (by
  rcases k with k | k | k | k | k
  .exact Or.inl k
  .exact absurd k (hn b o hb)
  .exact Or.inr (Or.inr (Or.inl k))
  .exact Or.inr (Or.inr (Or.inr (Or.inl k)))
  .exact Or.inr (Or.inr (Or.inr (Or.inr k))))⟩
theorem Goes.push7 {lo:Nat} {o7:Option Nat} {n g' c':Nat} {f:Nat->Int} (hw:Wrote (spare b7) V W) (R:A8 V lo o7 b7 n f) (hat:o7=some g'\/V.heap.size<=g') (z:Nat) (a4 a5 a6:Value):Goes V W z a4 a5 a6 b7 a4 a5 a6 (.slice (some ⟨g',0,none⟩) (n+1) c') :=
 ⟨hw.mono (fun b o _ e=>Or.inr (Or.inr (Or.inr (Or.inr e)))),fun b o hb k=>by
  rcases k with k | k | k | k | k
  .exact Or.inl k
  .exact Or.inr (Or.inl k)
  .exact Or.inr (Or.inr (Or.inl k))
  .exact Or.inr (Or.inr (Or.inr (Or.inl k)))
  .exact Or.inr (Or.inr (Or.inr (Or.inr (Kf R hat hb k))))⟩
end
theorem Lu:(prog.info? 33).map (·.size)=some 8:=by kernel_rfl
theorem Lv:(prog.info? 35).map (·.size)=some 7:=by kernel_rfl
theorem Lw:(prog.info? 37).map (·.size)=some 2:=by kernel_rfl
theorem Nj {W:World} {z:Nat} {cs ds:Array Value} {t t':TypeId} {f g:Nat × Nat} (h:W.heap[z]?=some (.cells cs t f)) (k:W.heap[z]?=some (.cells ds t' g)):cs=ds:=by
 cases h.symm.trans k
 rfl
theorem Fz {P:Program} {ops:Array Oper} {rest:List Oper} {o:Oper} {a:Act} {w:World} {Q:Exit->Act->World->Prop} (hg:o.guard=none) (f:FuncId) (args:Array Value) (hrun:(execOp a.eval o).run P w=.ok (.enter f args) w) {R:Ending->World->Prop} (hc:Calls P f args w R)
  (h:∀ e w',R e w'->∃ v,e=.returned v/\wpList P ops Q rest (a.put o.dst v) w'):wpList P ops Q (o :: rest) a w:=by
 refine wpList_plain hg fun K hK=>?_
 unfold Oper.wp;rw [hrun,Oper.upon_enter]
 refine hc.mono fun e w' hh=>?_
 obtain ⟨v,rfl,hw⟩:=h e w' hh;exact hK _ _ hw
theorem Jfd (t:TypeId) (ht:(isAgg t).run prog=fun w=>.ok false w) (w:World) (a:Addr) (v:Value) (h:w.cell? a=some v):(loadVar t a).run prog w=.ok v w:=by
 unfold loadVar
 simp [ht,h,go_sem]
section
variable {w W W2:World} {lo z o:Nat} {d d':Aq} {D:Nat->Nat->Prop} {u0 u1 u2 u3 u4 u5 u6 u7 a4 a5 a6 a7:Value} {ob:Nat->Option Nat} {iv ov:Nat->Value} {o6 o7:Option Nat} {cs p:Array Value}
theorem Cj.at (H:Cj W lo z d u4 u5 u6 u7):∃ cs u0 u1 u2 u3 F0 F1 F2 F3 F4,W.heap[z]?=some (.cells cs 41 (0,0))/\cs.size=34/\(∀ j v,((pR d.t d.c d.s d.ad d.pl d.bl u3 u4):Array Value)[j]?=some v->cs[12+j]?=some v)/\(∀ j v,((aR d.T d.P d.K d.B d.L d.Q d.R):Array Value)[j]?=some v->cs[20+j]?=some v)/\(∀ j v,(#[.bool d.hd,.i d.sh]:Array Value)[j]?=some v->cs[27+j]?=some v)/\(∀ j v,(#[u2,.i d.bank]:Array Value)[j]?=some v->cs[2+j]?=some v)/\(∀ j v,(#[u0]:Array Value)[j]?=some v->cs[0+j]?=some v)/\cs[1]?=some u1/\cs[12]?=some (.i d.t) /\
  Bg .i64 W F0 u0 d.m d.ln d.f/\Ints .i64 W F1 u1 d.np d.p/\Ints .i64 W F2 u2 d.nr d.g/\Ints .i64 W F3 u3 d.nt d.tb/\Ints .i64 W F4 u4 d.nd d.dt:=by
 obtain ⟨D,u0,u1,u2,u3,ob,iv,ov,o6,o7,HQ,hz,B0⟩:=H.ex;obtain ⟨q5,hq5,I2⟩:=HQ.h2.ints;obtain ⟨q3,q4,hq3,I3,I4⟩:=HQ.h3.ints;simp only [Value.agg.injEq,Array.mk.injEq,List.cons.injEq,and_true,true_and] at hq3 hq5;subst hq5;obtain ⟨rfl,rfl⟩:=hq3;refine ⟨_,u0,u1,u2,u3,_,_,_,_,_,B0,rfl,fun j v h=>?_,fun j v h=>?_,fun j v h=>?_,fun j v h=>?_,fun j v h=>?_,rfl,rfl,HQ.h0.ints,by obtain ⟨aa,cc,e,hs⟩:=HQ.h1; rw [e]; exact hs.ints cc,I2,I3,I4⟩
 all_goals rcases j with _ | _ | _ | _ | _ | _ | _ | _ | j <;> first | exact h | simp at h
theorem Cj.putK (HQ:B7 W2 lo W2.heap.size D u0 u1 u2 u3 u4 u5 u6 u7 ob iv ov o6 o7 d) (hz:∀ i b,D i b->b≠z) (B:W2.heap[z]?=some (.cells cs 41 (0,0))) (e:putAt cs o p=(kR d u0 u1 u2 u3 u4 u5 u6 u7)) (G:Goes w W2 z a4 a5 a6 a7 u4 u5 u6 u7):Bz w (W2.setRow z (putAt cs o p)) lo z a4 a5 a6 a7 d :=
 have TT:=Bn B (putAt cs o p)
 ⟨_,_,_,_,⟨D,u0,u1,u2,u3,ob,iv,ov,o6,o7,(HQ.keepD TT (fun i b o h (k:b=z)=>hz i b h k)).upTo TT.size (Nat.le_refl _),hz,e ▸ setRow_heap _ _ _ _ _ _ B⟩,G.trans (Goes.box TT _ _ _ _)⟩
theorem Cj.ppuW (H:Cj W lo z d u4 u5 u6 u7) (hlo:lo<=z) (B:W.heap[z]?=some (.cells cs 41 (0,0))) (L:Below W.heap.size W W2) {v':Value} {t c s ad pl:Int} {bl:Bool} {nt nd:Nat} {tb dt:Nat->Int} (P:Cx W2 W.heap.size (fun b=>W.heap.size<=b) v' t c s ad pl bl nt tb nd dt) :
  ∃ p:Array Value,v'=.agg p/\p.size=8/\p.all (·.oneCell')=true/\Bz W (W2.setRow z (putAt cs 12 p)) lo z u4 u5 u6 u7 { d with t:=t,c:=c,s:=s,ad:=ad,pl:=pl,bl:=bl,nt:=nt,tb:=tb,nd:=nd,dt:=dt }:=by
 obtain ⟨D,u0,u1,u2,u3,ob,iv,ov,o6,o7,HQ,hz,B0⟩:=H.ex;obtain rfl:=Nj B B0;obtain ⟨x3,y3,x4,y4,rfl⟩:=P.two
 have hs4:∀ b o,spare (.slice x4 nd y4) b o->W.heap.size<=b:=fun b o h=>P.spare4 h
 have hzl:=Ad B;have P3:=(P.mono (E:=fun b=>W.heap.size<=b/\b<W2.heap.size) (fun b hb h=>⟨h,hb⟩)).lower (lo':=lo) (by omega);refine ⟨_,rfl,rfl,by simp [Value.oneCell'],?_⟩;refine Cj.putK ((HQ.below L).ppu P3 (Nat.le_refl _) (by omega) L.size (Nat.le_refl _)) (fun i b h e=>?_) (Ab B L hzl) rfl ((Goes.below L z _ _ _ _).new4 (fun b o hb h=>by have:=hs4 b o h; omega))
 rcases h with ⟨-,h1,h2⟩ | ⟨-,h⟩
 .omega
 .exact hz i b h e
theorem Cj.apuW (H:Cj W lo z d u4 u5 u6 u7) (B:W.heap[z]?=some (.cells cs 41 (0,0))) (L:Below W.heap.size W W2) (p l:Int) (q r:Bool):Bz W (W2.setRow z (putAt cs 20 (aR d.T p d.K d.B l q r))) lo z u4 u5 u6 u7 { d with P:=p,L:=l,Q:=q,R:=r }:=by
 obtain ⟨D,u0,u1,u2,u3,ob,iv,ov,o6,o7,HQ,hz,B0⟩:=H.ex;obtain rfl:=Nj B B0;replace HQ:=(HQ.below L).upTo L.size (Nat.le_refl _);exact Cj.putK (d:={ d with P:=p,L:=l,Q:=q,R:=r }) ⟨HQ.h0,HQ.h1,HQ.h2,HQ.h3,HQ.h5,HQ.h5D,HQ.h6,HQ.h6D,HQ.h7,HQ.h7D,HQ.dis,HQ.bd,HQ.nN,HQ.hps⟩ hz (Ab B L (Ad B)) rfl (Goes.below L z _ _ _ _)
theorem Cj.padW (H:Cj W lo z d u4 u5 u6 u7) (B:W.heap[z]?=some (.cells cs 41 (0,0))) (L:Below W.heap.size W W2) (h:Bool) (s:Int):Bz W (W2.setRow z (putAt cs 27 #[.bool h,.i s])) lo z u4 u5 u6 u7 { d with hd:=h,sh:=s }:=by
 obtain ⟨D,u0,u1,u2,u3,ob,iv,ov,o6,o7,HQ,hz,B0⟩:=H.ex;obtain rfl:=Nj B B0;replace HQ:=(HQ.below L).upTo L.size (Nat.le_refl _);exact Cj.putK (d:={ d with hd:=h,sh:=s }) ⟨HQ.h0,HQ.h1,HQ.h2,HQ.h3,HQ.h5,HQ.h5D,HQ.h6,HQ.h6D,HQ.h7,HQ.h7D,HQ.dis,HQ.bd,HQ.nN,HQ.hps⟩ hz (Ab B L (Ad B)) rfl (Goes.below L z _ _ _ _)
theorem Cj.memW (H:Cj W lo z d u4 u5 u6 u7) (hlo:lo<=z) (B:W.heap[z]?=some (.cells cs 41 (0,0))) (L:Below W.heap.size W W2) {q:Value} {g':Nat->Int} {bk:Int} (O:Ao W2 W.heap.size q d.nr g'):Bz W (W2.setRow z (putAt cs 2 #[q,.i bk])) lo z u4 u5 u6 u7 { d with g:=g',bank:=bk }:=by
 obtain ⟨D,u0,u1,u2,u3,ob,iv,ov,o6,o7,HQ,hz,B0⟩:=H.ex;obtain rfl:=Nj B B0;have hzl:=Ad B;have M:=(Bw.own O (bank:=bk)).mono (E:=fun b=>W.heap.size<=b/\b<W2.heap.size) (fun b hb h=>⟨h,hb⟩);refine Cj.putK ((HQ.below L).mem M (Nat.le_refl _) (by omega) L.size (Nat.le_refl _)) (fun i b h e=>?_) (Ab B L hzl) rfl (Goes.below L z _ _ _ _)
 rcases h with ⟨-,h1,h2⟩ | ⟨-,h⟩
 .omega
 .exact hz i b h e
theorem Bz.after {b4 b5 b6 b7:Value} (G:Goes w W z a4 a5 a6 a7 b4 b5 b6 b7) (h:Bz W W2 lo z b4 b5 b6 b7 d):Bz w W2 lo z a4 a5 a6 a7 d:=by
 obtain ⟨c4,c5,c6,c7,H,K⟩:=h.ex;exact ⟨c4,c5,c6,c7,H,G.trans K⟩
end
def Pg (d:Aq) (x:Int):Aq:={ d with nq:=d.nq+1,rd:=snoc d.rd d.nq x }
theorem Jba (w:World) (lo z:Nat) (d:Aq) (a:Int) (u4 u5 u6 u7:Value) (H:Cj w lo z d u4 u5 u6 u7) (hlo:lo<=z) (hok:okLock d=true) (hnq:d.nq<1048576):Calls prog 116 #[(pt z 0),.i a] w fun e w'=>e=.returned (.i (Dx d a))/\Bz w w' lo z u4 u5 u6 u7 (Cl d a):=by
 obtain ⟨okp,okm,oku,oka,oks⟩:=Fy hok;obtain ⟨cs,v0,v1,v2,v3,F0,F1,F2,F3,F4,B,hsz,p12,p20,p27,p2,p0,c1,c12,I0,I1,I2,I3,I4⟩:=H.at
 obtain ⟨rg,hrg⟩:∃ x,Hid (x=rgN (a%65536)):=⟨_,rfl⟩
 obtain ⟨pt',hat⟩:∃ x,Hid (x=rgP (a%65536)):=⟨_,rfl⟩
 have HG:=Ac (fun W=>Ny W a);rw [<- hrg.out,<- hat.out] at HG
 go_enter func116,ntmps116
 go_wp2_with fail;refine (HG.out _).mono ?_;rintro e W1 ⟨rfl,rfl⟩;clear HG
 go_upto_block 0 with (fail)
 go_cut [5] (fun s WX=>∃ x dd,s=.i x/\Hid (Dx d a=x/\Cl d a=Pg dd x/\dd.nq=d.nq)/\Bz W1 WX lo z u4 u5 u6 u7 dd)
 case first =>
  rename_i J Kq hJ hKq
  by_cases r2:rg=2
  .subst r2
   have HV:Hid (Dx d a=R5 true pt' d.bl d.ad d.tb/\Cl d a=Pg { d with ad:=Ps true pt' d.ad,bl:=Rz true pt' d.bl } (R5 true pt' d.bl d.ad d.tb)):=by
    show _/\_
    unfold Cl Dx Pg;simp only [<- hrg.out,if_true];rw [<- hat.out];exact ⟨rfl,rfl⟩
   have HP:=Sp W1 F3 F4 d.t d.c d.s d.ad d.pl d.bl v3 u4 d.nt d.tb d.nd d.dt pt' I3 I4;rw [oku] at HP;go_upto_region 6 with (fail);refine wp_region_lit ?_
   iterate 4 (refine wpList_plain rfl (fun K9 hK9=>?_); go_simp; refine hK9 _ _ ?_; clear hK9)
   refine Ba rfl _ _ rfl z 12 rfl _ _ _ _ _ B p12 underlying33 rfl Lu ?_
   (refine wpList_plain rfl (fun K9 hK9=>?_); go_simp; refine hK9 _ _ ?_; clear hK9)
   refine Fz rfl _ _ (by kernel_rfl) HP ?_;rintro e W2 ⟨v',rfl,P3,L⟩;refine ⟨_,rfl,?_⟩;obtain ⟨p,rfl,hp8,hp1,G⟩:=H.ppuW hlo B L P3;have B2:=Ab B L (Ad B);clear HP P3 L I0 I1 I2 I3 I4 p12 p20 p27 p2 p0 c1 c12 H
   iterate 5 (refine wpList_plain rfl (fun K9 hK9=>?_); go_simp; refine hK9 _ _ ?_; clear hK9)
   refine Be rfl _ _ _ rfl z 12 p rfl rfl _ _ B2 (Lu.trans (congrArg some hp8.symm)) (by omega) hp1 ?_;generalize W2.setRow z (putAt cs 12 p)=W3 at *
   (refine wpList_plain rfl (fun K9 hK9=>?_); go_simp; refine hK9 _ _ ?_; clear hK9)
   unfold wpList;refine hKq _ _ ?_
   go_meet
   exact ⟨_,_,rfl,⟨HV.out.1,HV.out.2,rfl⟩,G⟩
  by_cases r3:rg=3
  .subst r3
   have HV:Hid (Dx d a=Y0 true d.L d.R pt'/\Cl d a=Pg { d with P:=d.P,L:=d.L,Q:=d.Q,R:=rqA true d.R pt' } (Y0 true d.L d.R pt')):=by
    show _/\_
    unfold Cl Dx Pg;simp only [<- hrg.out,if_true,show ¬ ((3:Int)=2) by decide,if_false];rw [<- hat.out];exact ⟨rfl,rfl⟩
   have HP:=Uz W1 d.T d.P d.K d.B d.L d.Q d.R pt';go_upto_region 8 with (fail);refine wp_region_lit ?_
   iterate 4 (refine wpList_plain rfl (fun K9 hK9=>?_); go_simp; refine hK9 _ _ ?_; clear hK9)
   refine Ba rfl _ _ rfl z 20 rfl _ _ _ _ _ B p20 underlying35 rfl Lv ?_
   (refine wpList_plain rfl (fun K9 hK9=>?_); go_simp; refine hK9 _ _ ?_; clear hK9)
   refine Fz rfl _ _ (by kernel_rfl) HP ?_;rintro e W2 ⟨rfl,L⟩;refine ⟨_,rfl,?_⟩;have G:=H.apuW B L d.P d.L d.Q (rqA true d.R pt');have B2:=Ab B L (Ad B);clear HP L I0 I1 I2 I3 I4 p12 p20 p27 p2 p0 c1 c12 H
   iterate 5 (refine wpList_plain rfl (fun K9 hK9=>?_); go_simp; refine hK9 _ _ ?_; clear hK9)
   refine Be rfl _ _ _ rfl z 20 _ rfl rfl _ _ B2 Lv (by rw [hsz]; simp) (by simp [Value.oneCell']) ?_;generalize W2.setRow z _=W3 at *
   (refine wpList_plain rfl (fun K9 hK9=>?_); go_simp; refine hK9 _ _ ?_; clear hK9)
   unfold wpList;refine hKq _ _ ?_
   go_meet
   exact ⟨_,_,rfl,⟨HV.out.1,HV.out.2,rfl⟩,G⟩
  by_cases r4:rg=4
  .subst r4
   have HV:Hid (Dx d a=I6 d.hd d.sh d.np d.p d.t/\Cl d a=Pg { d with hd:=d.hd,sh:=De d.hd d.sh d.np d.p d.t } (I6 d.hd d.sh d.np d.p d.t)):=by
    show _/\_
    unfold Cl Dx Pg;simp only [<- hrg.out,if_true,show ¬ ((4:Int)=2) by decide,show ¬ ((4:Int)=3) by decide,if_false];exact ⟨trivial,trivial⟩
   have HP:=Ac (fun W (l:Below W1.heap.size W1 W)=>Va W F1 d.hd d.sh v1 d.np d.p d.t (by have:=(Er oku).2; omega) (I1.keep (Aa l Aj) (fun _ _ _ x=>x)));go_upto_region 10 with (fail);refine Gy 20 (fun w'=>w'.heap[z]?=some (.cells cs 41 (0,0))) (by kernel_rfl) ?_
   have LR:Below W1.heap.size W1 (redrawn W1 (W1.drawn+1)):=⟨rfl,rfl,rfl,Nat.le_refl _,fun _ _=>rfl⟩
   have BR:=Ab B LR (Ad B);generalize redrawn W1 (W1.drawn+1)=WR at *
   show Do _ _ _ _ _ 22 #[false,false,false,false,false,false,false,false,false,false,false,false,false,false,false,false,false,false,false,false,false,false] _ _
   refine Pm 0 ((pt z 0)) BR ?_;refine Pm 1 ((pt z 0)) BR ?_;refine Pm 2 ((pt z 0)) BR ?_;refine Pm 3 ((pt z 27)) BR ?_;simp only [Act.put,Sa,Sb,Sc,Sd,Se,Sf,Sg,Sh,Si];refine Dr 4 (v:=.agg #[.bool d.hd,.i d.sh]) rfl (by kernel_rfl) BR (Et _ _ rfl rfl z 27 rfl _ _ _ _ _ (fun w' h=>h) p27 underlying37 rfl Lw) ?_;refine Pm 5 ((pt z 0)) BR ?_;refine Pm 6 ((pt z 0)) BR ?_;refine Pm 7 ((pt z 1)) BR ?_;simp only [Act.put,Sa,Sb,Sc,Sd,Se,Sf,Sg,Sh,Si];refine Dr 8 (v:=v1) rfl (by kernel_rfl) BR (Lj _ _ rfl rfl z 1 (by kernel_rfl) _ _ _ _ (fun w' h=>h) c1 (fun w h=>Jfd _ (by kernel_rfl) w _ _ h)) ?_;refine Pm 9 ((pt z 0)) BR ?_;refine Pm 10 ((pt z 0)) BR ?_;refine Pm 11 ((pt z 12)) BR ?_;refine Pm 12 ((pt z 12)) BR ?_;simp only [Act.put,Sa,Sb,Sc,Sd,Se,Sf,Sg,Sh,Si]
   refine Dr 13 (v:=.i d.t) rfl (by kernel_rfl) BR (Lj _ _ rfl rfl z 12 (by kernel_rfl) _ _ _ _ (fun w' h=>h) c12 (fun w h=>Jfd _ (by kernel_rfl) w _ _ h)) ?_;simp only [Act.put,Sa,Sb,Sc,Sd,Se,Sf,Sg,Sh,Si];refine En 14 rfl (by kernel_rfl) ?_;go_simp;refine (HP.out _ LR).mono ?_;rintro e W2 ⟨rfl,L⟩;replace L:=LR.trans (L.mono LR.size);have G:=H.padW B L d.hd (De d.hd d.sh d.np d.p d.t);replace BR:=Ab B L (Ad B);refine ⟨fun _=>BR,?_⟩;refine Pm 15 (.tuple #[.agg #[.bool d.hd,.i (De d.hd d.sh d.np d.p d.t)],.i (I6 d.hd d.sh d.np d.p d.t)]) BR ?_;refine Pm 16 (.agg #[.bool d.hd,.i (De d.hd d.sh d.np d.p d.t)]) BR ?_;refine Pm 17 (.i (I6 d.hd d.sh d.np d.p d.t)) BR ?_;refine Pm 18 ((pt z 0)) BR ?_;refine Pm 19 ((pt z 27)) BR ?_;simp only [Act.put,Sa,Sb,Sc,Sd,Se,Sf,Sg,Sh,Si]
   refine Ed 20 (by kernel_rfl) ?_;simp only [Sg,Sh,Si];refine Bb _ _ _ rfl z 27 #[.bool d.hd,.i (De d.hd d.sh d.np d.p d.t)] (by kernel_rfl) (by kernel_rfl) _ _ BR Lw (by rw [hsz]; simp) (by simp [Value.oneCell']) ?_;refine ⟨fun h=>absurd (show true=false from h (by decide)) (by decide),?_⟩;clear HP L I0 I1 I2 I3 I4 p12 p20 p27 p2 p0 c1 c12 H LR BR B;generalize W2.setRow z _=W3 at *;refine Ed 21 (by kernel_rfl) ?_;simp only [Sg,Sh,Si];go_simp;refine ⟨fun h=>absurd (show true=false from h (by decide)) (by decide),?_⟩;refine Io (by kernel_rfl) ?_;refine hKq _ _ ?_
   go_meet
   exact ⟨_,_,rfl,⟨HV.out.1,HV.out.2,rfl⟩,G⟩
  have HV:Hid (Dx d a=peekOf d.m d.f d.g d.bank (a%65536)/\Cl d a=d):=by
   show _/\_
   unfold Cl Dx;simp only [<- hrg.out,r2,r3,r4,if_false];exact ⟨trivial,trivial⟩
  have HP:=Ac (fun W (l:Below W1.heap.size W1 W)=>Hv W F0 F2 v0 v2 d.m d.ln d.f d.nr d.g d.bank a (I0.keep (Aa l Aj) (fun _ _ _ x=>x)) (I2.keep (Aa l Aj) (fun _ _ _ x=>x)));unfold peekV at HP;rw [if_pos okm] at HP;generalize peekOf d.m d.f d.g d.bank (a%65536)=x at *
  have q2:(rg==2)=false:=by simpa using r2
  have q3:(rg==3)=false:=by simpa using r3
  have q4:(rg==4)=false:=by simpa using r4
  go_upto_region 4 with (fail);refine wp_region_quiet_below (by kernel_rfl) (by kernel_rfl) ?_
  iterate 3 (go_big_quiet_step (fail))
  refine Bl _ _ rfl rfl z 0 (by go_simp) _ _ _ _ _ B p0 underlying26 rfl (by kernel_rfl) ?_;simp only [Act.put,Sa,Sb,Sc]
  iterate 3 (go_big_quiet_step (fail))
  refine Bl _ _ rfl rfl z 2 (by go_simp) _ _ _ _ _ B p2 underlying29 rfl (by kernel_rfl) ?_;simp only [Act.put,Sa,Sb,Sc]
  go_big_quiet_step (fail)
  go_big_quiet_step ((go_at_call 39; exact Calls.regrown_of (HP.out _ (below_regrown _ _ _))))
  go_big_quiet_step (fail)
  refine wpQuiet_nil ?_;intro w' hw';obtain ⟨⟨e,os⟩,rfl⟩:=hw';have L:=below_regrown W1 e os;obtain ⟨D,u0,u1,u2,u3,ob,iv,ov,o6,o7,HQ,hz,B0⟩:=H.ex;have HF:=Ac (⟨_,_,_,_,⟨D,u0,u1,u2,u3,ob,iv,ov,o6,o7,(HQ.below L).upTo L.size (Nat.le_refl _),hz,Ab B0 L (Ad B0)⟩,Goes.below L z _ _ _ _⟩:Bz W1 (grow (redrawn W1 e) os) lo z u4 u5 u6 u7 d);clear HP L I0 I1 I2 I3 I4 p12 p20 p27 p2 p0 c1 c12 H B B0 HQ hz q2 q3 q4;go_wp2;go_ret;exact ⟨by rw [HV.out.1]; rfl,by rw [HV.out.2]; exact HF.out⟩
 case rest =>
 obtain ⟨x,dd,rfl,HV,GT⟩:=hcut
 have hnq':dd.nq<1048576:=by rw [HV.out.2.2]; exact hnq
 obtain ⟨b4,b5,b6,b7,H2,L0⟩:=GT.ex;obtain ⟨D,u0,u1,u2,u3,ob,iv,ov,o6,o7,HQ,hz,B0⟩:=H2.ex;obtain ⟨x7,y7,rfl⟩:=HQ.h7.form;have hzl:=Ad B
 have hlw:lo<=W1.heap.size:=by omega
 replace hzl:=Ad B0;clear GT H2 H hnq B I0 I1 I2 I3 I4 p12 p20 p27 p2 p0 c1 c12 okp okm oku oka oks;have LA:Below wc.heap.size wc (wc.al #[.i x] 3):=(Below.refl _ _).alloc (Nat.le_refl _) _;have hE:=Af (Ak wc #[.i x] 3) 0;have c0':=Af (Ab B0 LA (Ad B0));have c0s:=Af B0;have HQA:=Ac ((HQ.below LA).upTo LA.size (Nat.le_refl _));have LXA:=Ac (L0.trans (Goes.below LA z _ _ _ _));have B0A:=Ac (Ab B0 LA (Ad B0));clear HQ L0 LA B0;go_wp2_with (at_builtin; refine Lt _ rfl _ _ rfl lo o7 (.slice x7 dd.nq y7) dd.nq dd.rd rfl HQA.out.h7 hnq' (Nat.le_trans hlw LXA.out.wr.size) wc.heap.size x rfl hE ?_);intro g9 c9 W9 R9 hWw hat9;have hW:=hWw.mono (S:=fun b _=>o7=some b) (fun b o _ e=>Ew HQA.out.h7 e);clear c0' c0s hE
 replace hat9:o7=some g9\/(wc.al #[.i x] 3).heap.size<=g9:=by simpa using hat9
 have hs9:(wc.al #[.i x] 3).heap.size=wc.heap.size+1:=by simp
 have HQN:=HQA.out.push (Nat.le_trans hlw LXA.out.wr.size) hW R9 hat9;have B0:=Al B0A.out hW (fun o e=>hz 6 z (HQA.out.h7D z e) rfl);have LW:=LXA.out.trans (Goes.push7 (n:=dd.nq) (f:=dd.rd) (c':=c9) hWw HQA.out.h7 hat9 _ _ _ _)
 have hg9:g9≠z:=fun e=>by
  subst e
  rcases hat9 with e | h
  .exact hz 6 g9 (HQA.out.h7D g9 e) rfl
  .omega
 have TT:=Wz (b:=z) 33 (Wrote.refl _ W9) (.sl g9 0 (dd.nq+1) c9)
 have hz9:∀ i b,(i=6/\b=g9)\/(i≠6/\D i b)->b≠z:=fun i b h e=>by
  rcases h with ⟨-,rfl⟩ | ⟨-,h⟩
  .exact hg9 e
  .exact hz i b h e
 have HF:=Ac ((HQN.keepD TT (fun i b o h (e:b=_)=>hz9 i b h e)).upTo TT.size (Nat.le_refl _));have LF:=Ac (LW.trans (Goes.box TT _ _ _ _));have BF:=Am (o:=33) B0 (.sl g9 0 (dd.nq+1) c9);simp only [Sa,Sb,Sc] at BF;have BFF:=Ac BF;have c0':=Af B0;have f0':=Au B0;clear HQA LXA B0A hW hWw R9 hat9 hs9 HQN TT LW BF B0;go_wp2;go_ret;exact ⟨by rw [HV.out.1]; rfl,by rw [HV.out.2.1]; exact ⟨_,_,_,_,⟨_,_,_,_,_,_,_,_,_,_,HF.out,hz9,BFF.out⟩,LF.out⟩⟩
theorem Ye (w:World) (lo z:Nat) (d:Aq) (a y:Int) (u4 u5 u6 u7:Value) (H:Cj w lo z d u4 u5 u6 u7) (hlo:lo<=z) (hok:okLock d=true):Calls prog 117 #[(pt z 0),.i a,.i y] w fun e w'=>e=.returned (.tuple #[])/\Bz w w' lo z u4 u5 u6 u7 (Br d a y):=by
 obtain ⟨okp,okm,oku,oka,oks⟩:=Fy hok;obtain ⟨cs,v0,v1,v2,v3,F0,F1,F2,F3,F4,B,hsz,p12,p20,p27,p2,p0,c1,c12,I0,I1,I2,I3,I4⟩:=H.at
 obtain ⟨rg,hrg⟩:∃ x,Hid (x=rgN (a%65536)):=⟨_,rfl⟩
 obtain ⟨pt',hat⟩:∃ x,Hid (x=rgP (a%65536)):=⟨_,rfl⟩
 have HG:=Ac (fun W=>Ny W a);rw [<- hrg.out,<- hat.out] at HG
 go_enter func117,ntmps117
 go_wp2_with fail;refine (HG.out _).mono ?_;rintro e W1 ⟨rfl,rfl⟩;clear HG
 by_cases r2:rg=2
 .subst r2
  have HV:Hid (Br d a y={ d with c:=Kx true pt' y d.c,s:=Ky true pt' y d.s,ad:=Kz true pt' y d.ad,pl:=La true pt' y d.pl,tb:=My true pt' y d.ad d.tb }):=by
   show _=_
   unfold Br;simp only [<- hrg.out,if_true]
   first | (rw [<- hat.out]; done) | (rw [<- hat.out]; rfl) | rfl | trivial
  have HP:=Qa W1 F3 F4 d.t d.c d.s d.ad d.pl d.bl v3 u4 d.nt d.tb d.nd d.dt pt' y I3 I4;rw [oku] at HP;go_upto_region 4 with (fail);refine wp_region_lit ?_
  iterate 4 (refine wpList_plain rfl (fun K9 hK9=>?_); go_simp; refine hK9 _ _ ?_; clear hK9)
  refine Ba rfl _ _ rfl z 12 rfl _ _ _ _ _ B p12 underlying33 rfl Lu ?_
  iterate 2 (refine wpList_plain rfl (fun K9 hK9=>?_); go_simp; refine hK9 _ _ ?_; clear hK9)
  refine Fz rfl _ _ (by kernel_rfl) HP ?_;rintro e W2 ⟨v',rfl,P3,L⟩;refine ⟨_,rfl,?_⟩;obtain ⟨p,rfl,hp8,hp1,G⟩:=H.ppuW hlo B L P3;have B2:=Ab B L (Ad B);clear HP P3 L I0 I1 I2 I3 I4 p12 p20 p27 p2 p0 c1 c12 H
  iterate 2 (refine wpList_plain rfl (fun K9 hK9=>?_); go_simp; refine hK9 _ _ ?_; clear hK9)
  refine Be rfl _ _ _ rfl z 12 p rfl rfl _ _ B2 (Lu.trans (congrArg some hp8.symm)) (by omega) hp1 ?_;generalize W2.setRow z (putAt cs 12 p)=W3 at *;unfold wpList;go_wp2
  go_returns
  exact ⟨rfl,by rw [HV.out]; exact G⟩
 by_cases r3:rg=3
 .subst r3
  have HV:Hid (Br d a y={ d with P:=J6 true d.P pt' y,L:=J7 true d.L pt' y,Q:=Lb true d.Q pt' y,R:=Lc true d.R pt' y }):=by
   show _=_
   unfold Br;simp only [<- hrg.out,if_true,if_false,show ¬ ((3:Int)=2) by decide]
   first | (rw [<- hat.out]; done) | (rw [<- hat.out]; rfl) | rfl | trivial
  have HP:=Ss W1 d.T d.P d.K d.B d.L d.Q d.R pt' y;go_upto_region 6 with (fail);refine wp_region_lit ?_
  iterate 4 (refine wpList_plain rfl (fun K9 hK9=>?_); go_simp; refine hK9 _ _ ?_; clear hK9)
  refine Ba rfl _ _ rfl z 20 rfl _ _ _ _ _ B p20 underlying35 rfl Lv ?_
  iterate 2 (refine wpList_plain rfl (fun K9 hK9=>?_); go_simp; refine hK9 _ _ ?_; clear hK9)
  refine Fz rfl _ _ (by kernel_rfl) HP ?_;rintro e W2 ⟨rfl,L⟩;refine ⟨_,rfl,?_⟩;have G:=H.apuW B L (J6 true d.P pt' y) (J7 true d.L pt' y) (Lb true d.Q pt' y) (Lc true d.R pt' y);have B2:=Ab B L (Ad B);clear HP L I0 I1 I2 I3 I4 p12 p20 p27 p2 p0 c1 c12 H
  iterate 2 (refine wpList_plain rfl (fun K9 hK9=>?_); go_simp; refine hK9 _ _ ?_; clear hK9)
  refine Be rfl _ _ _ rfl z 20 _ rfl rfl _ _ B2 Lv (by rw [hsz]; simp) (by simp [Value.oneCell']) ?_;generalize W2.setRow z _=W3 at *;unfold wpList;go_wp2
  go_returns
  exact ⟨rfl,by rw [HV.out]; exact G⟩
 by_cases r4:rg=4
 .subst r4
  have HV:Hid (Br d a y={ d with hd:=Gx y,sh:=Ec d.hd d.sh d.np d.p d.t y }):=by
   show _=_
   unfold Br;simp only [<- hrg.out,if_true,if_false,show ¬ ((4:Int)=2) by decide,show ¬ ((4:Int)=3) by decide]
  have HP:=Ac (fun W (l:Below W1.heap.size W1 W)=>Sv W F1 d.hd d.sh v1 d.np d.p d.t y (by have:=(Er oku).2; omega) (I1.keep (Aa l Aj) (fun _ _ _ x=>x)))
  have cg:=fun e os=>cell_regrown (show W1.cell? ⟨z,1,none⟩=some v1 from (Af B 1).trans c1) e os
  have cg':=fun e os=>cell_regrown (show W1.cell? ⟨z,12,none⟩=some (.i d.t) from (Af B 12).trans c12) e os
  go_upto_region 8 with (fail);refine Bc (n:=18) (by kernel_rfl) (by kernel_rfl) rfl ?_;simp only [List.take_succ_cons,List.take_zero]
  iterate 4 (go_big_quiet_step (fail))
  refine Bl _ _ rfl rfl z 27 (by go_simp) _ _ _ _ _ B p27 underlying37 rfl Lw ?_;simp only [Act.put,Sa,Sb,Sc]
  iterate 10 (go_big_quiet_step (fail))
  go_big_quiet_step ((go_at_call 159; exact Calls.regrown_of (HP.out _ (below_regrown _ _ _))))
  iterate 2 (go_big_quiet_step (fail))
  refine wpQuiet_nil ?_;intro w' hw';obtain ⟨⟨e,os⟩,rfl⟩:=hw';have L:=below_regrown W1 e os;have G:=H.padW B L (Gx y) (Ec d.hd d.sh d.np d.p d.t y);have B2:=Ab B L (Ad B);clear HP cg cg' L I0 I1 I2 I3 I4 p12 p20 p27 p2 p0 c1 c12 H;generalize grow (redrawn W1 e) os=W2 at *;refine Bb _ _ _ rfl z 27 #[.bool (Gx y),.i (Ec d.hd d.sh d.np d.p d.t y)] (by go_simp) (by go_simp) _ _ B2 Lw (by rw [hsz]; simp) (by simp [Value.oneCell']) ?_;generalize W2.setRow z _=W3 at *;go_wp2
  go_returns
  exact ⟨rfl,by rw [HV.out]; exact G⟩
 have HV:Hid (Br d a y={ d with g:=Fs true d.g (a%65536) y,bank:=Fb true d.m d.bank (a%65536) y }):=by
  show _=_
  unfold Br;simp only [<- hrg.out,r2,r3,r4,if_false]
 have HP:=Ac (fun W (l:Below W1.heap.size W1 W)=>Jcg W F0 F2 v0 v2 d.m d.ln d.f d.nr d.g d.bank a y (I0.keep (Aa l Aj) (fun _ _ _ x=>x)) (I2.keep (Aa l Aj) (fun _ _ _ x=>x)));rw [okm] at HP
 have q2:(rg==2)=false:=by simpa using r2
 have q3:(rg==3)=false:=by simpa using r3
 have q4:(rg==4)=false:=by simpa using r4
 go_upto_region 2 with (fail);refine Gy 14 (fun w'=>w'.heap[z]?=some (.cells cs 41 (0,0))) (by kernel_rfl) ?_
 have LR:Below W1.heap.size W1 (redrawn W1 (W1.drawn+1)):=⟨rfl,rfl,rfl,Nat.le_refl _,fun _ _=>rfl⟩
 have BR:=Ab B LR (Ad B);generalize redrawn W1 (W1.drawn+1)=WR at *
 show Do _ _ _ _ _ 15 #[false,false,false,false,false,false,false,false,false,false,false,false,false,false,false] _ _
 refine Pm 0 ((pt z 0)) BR ?_;refine Pm 1 ((pt z 0)) BR ?_;refine Pm 2 ((pt z 0)) BR ?_;refine Pm 3 ((pt z 0)) BR ?_;simp only [Act.put,Sa,Sb,Sc,Sd,Se,Sf,Sg,Sh,Si];refine Dr 4 (v:=.agg #[v0]) rfl (by kernel_rfl) BR (Et _ _ rfl rfl z 0 (by kernel_rfl) _ _ _ _ _ (fun w' h=>h) p0 underlying26 rfl (by kernel_rfl)) ?_;refine Pm 5 ((pt z 0)) BR ?_;refine Pm 6 ((pt z 0)) BR ?_;refine Pm 7 ((pt z 2)) BR ?_;simp only [Act.put,Sa,Sb,Sc,Sd,Se,Sf,Sg,Sh,Si];refine Dr 8 (v:=.agg #[v2,.i d.bank]) rfl (by kernel_rfl) BR (Et _ _ rfl rfl z 2 (by kernel_rfl) _ _ _ _ _ (fun w' h=>h) p2 underlying29 rfl (by kernel_rfl)) ?_;refine Pm 9 (.i a) BR ?_;refine Pm 10 (.i y) BR ?_;simp only [Act.put,Sa,Sb,Sc,Sd,Se,Sf,Sg,Sh,Si];refine En 11 rfl (by kernel_rfl) ?_;go_simp;refine (HP.out _ LR).mono ?_;rintro e W2 ⟨q,rfl,O,L⟩
 replace O:Ao W2 W1.heap.size q d.nr (Fs true d.g (a%65536) y):=by obtain ⟨a',cap,h1,h2,h3,h4,h5⟩:=O.ex; exact ⟨⟨a',cap,h1,h2,h3,h4,fun b o h=>Nat.le_trans LR.size (h5 b o h)⟩⟩
 replace L:=LR.trans (L.mono LR.size);have G:=H.memW hlo B L (bk:=Fb true d.m d.bank (a%65536) y) O
 obtain ⟨qa,qc,rfl⟩:∃ a c,q=.slice a d.nr c:=by obtain ⟨a',cap,h1,_⟩:=O.ex; exact ⟨a',cap,h1⟩
 replace BR:=Ab B L (Ad B);refine ⟨fun _=>BR,?_⟩;refine Pm 12 ((pt z 0)) BR ?_;refine Pm 13 ((pt z 2)) BR ?_;simp only [Act.put,Sa,Sb,Sc,Sd,Se,Sf,Sg,Sh,Si];refine Ed 14 (by kernel_rfl) ?_;simp only [Sg,Sh,Si];refine Bb _ _ _ rfl z 2 #[.slice qa d.nr qc,.i (Fb true d.m d.bank (a%65536) y)] (by kernel_rfl) (by kernel_rfl) _ _ BR (by kernel_rfl) (by rw [hsz]; simp) (by simp [Value.oneCell']) ?_;refine ⟨fun h=>absurd (show true=false from h (by decide)) (by decide),?_⟩;clear HP O L LR BR B I0 I1 I2 I3 I4 p12 p20 p27 p2 p0 c1 c12 H q2 q3 q4;generalize W2.setRow z _=W3 at *;refine Io (by kernel_rfl) ?_
 show Exit.inBlock 0 _ Exit.normal _ _
 go_wp2
 go_returns
 exact ⟨rfl,by rw [HV.out]; exact G⟩
end Go.Proofs.YtijljlnooibbmaaGreatDoor
