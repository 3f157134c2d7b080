import Derived.Test.YtijljlnooibbmaaGreatDoorGT
namespace Go.Proofs.YtijljlnooibbmaaGreatDoor
set_option maxHeartbeats 8000000
set_option maxRecDepth 40000
open Go.Proofs.Tryz
set_option linter.unusedVariables false
set_option linter.unusedSimpArgs false
open Go.ChangeShapes Go.WideShapes Go.ChangeAt Go.RowKit
def Eg (w W:World):Prop:=w.heap.size<=W.heap.size/\∀ (b:Nat) (cs:Array Value) (t:TypeId),w.heap[b]?=some (Obj.cells cs t (0,0))->t≠3->t≠27->W.heap[b]?=some (Obj.cells cs t (0,0))
theorem Eg.below {w W:World} (L:Below w.heap.size w W):Eg w W:=⟨L.size,fun b cs t h _ _=>Ab h L (Ad h)⟩
theorem Eg.trans {w V W:World} (H:Eg w V) (K:Eg V W):Eg w W:=⟨Nat.le_trans H.1 K.1,fun b cs t h h3 hI=>K.2 b cs t (H.2 b cs t h h3 hI) h3 hI⟩
theorem Eg.wrote {R:Nat->Nat->Prop} {w W W':World} (H:Eg w W) (hw:Wrote R W W') (hn:∀ b o,b<w.heap.size->R b o->∃ cur,W.heap[b]?=some (.cells cur 3 (0,0))\/W.heap[b]?=some (.cells cur 27 (0,0))):Eg w W' :=
 ⟨by have:=hw.size; have:=H.1; omega,fun b cs t h h3 hI=>by
  have hb:=Ad h;have hW:=H.2 b cs t h h3 hI;refine Al hW hw (fun o e=>?_);obtain ⟨cur,h' | h'⟩:=hn b o hb e
  .rw [hW] at h'
   injection h' with h'
   injection h' with _ ht _
   exact h3 ht
  .rw [hW] at h'
   injection h' with h'
   injection h' with _ ht _
   exact hI ht⟩
theorem Row.cur {W:World} {lo g n c:Nat} {f:Nat->Int} (h:Row W lo g n c f):∃ cur,W.heap[g]?=some (.cells cur 3 (0,0)):=by
 obtain ⟨-,-,-,cur,hc⟩:=h.parts;exact ⟨cur,hc⟩
theorem SG.cur {W:World} {lo q:Nat} {ov:Value} {gb cp ln:Nat->Nat} {f:Nat->Nat->Int} (H:SG W lo ov q gb cp ln f) {b:Nat} (e:ov.ownBlock=some b):∃ cur,W.heap[b]?=some (.cells cur 27 (0,0)):=by
 rcases H.own.2 with ⟨e',_⟩ | ⟨g0,c0,cur0,hv,hb,hg,_⟩
 .rw [e'] at e; cases e
 .rw [hv] at e
  obtain rfl:g0=_:=by simpa [Value.ownBlock] using e
  exact ⟨_,hg⟩
def Fl (W:World) (lo:Nat) (D:Nat->Nat->Prop) (v:Value) (d:Aq):Prop:=∃ (u0 u1 u2 u3 u4 ov:Value) (gb cp:Nat->Nat) (g6 c6 g7 c7:Nat),v=.agg (kR d u0 u1 u2 u3 u4 ov (.slice (some ⟨g6,0,none⟩) d.ns c6) (.slice (some ⟨g7,0,none⟩) d.nq c7))/\A9 W lo W.heap.size D u0 u1 u2 u3 u4 ov gb cp g6 c6 g7 c7 d
def V0 (w:World) (D D':Nat->Nat->Prop):Prop:=∀ i b,D' i b->(∃ j,D j b)\/w.heap.size<=b
theorem V0.trans {w V:World} {D E F:Nat->Nat->Prop} (H:V0 w D E) (K:V0 V E F) (h:w.heap.size<=V.heap.size):V0 w D F:=fun i b e=>by
 rcases K i b e with ⟨j,e'⟩ | e'
 .exact H j b e'
 .exact Or.inr (Nat.le_trans h e')
section
variable {w W:World} {lo N:Nat} {D E:Nat->Nat->Prop} {u0 u1 u2 u3 u4 ov v:Value} {gb cp:Nat->Nat} {g6 c6 g7 c7:Nat} {d:Aq}
theorem A9.up (H:A9 W lo N D u0 u1 u2 u3 u4 ov gb cp g6 c6 g7 c7 d):A9 W lo W.heap.size D u0 u1 u2 u3 u4 ov gb cp g6 c6 g7 c7 d :=
 ⟨H.h0,H.h1,H.h2,H.h3,H.h4,H.h4D,H.h6,H.h6D,H.h7,H.h7D,H.dis,fun i b h=>⟨(H.bd i b h).1,Nat.lt_of_lt_of_le (H.bd i b h).2 H.nN⟩,Nat.lt_of_lt_of_le H.n6 H.nN,Nat.lt_of_lt_of_le H.n7 H.nN,Nat.le_refl _,H.hps⟩
theorem A9.x (H:A9 W lo N D u0 u1 u2 u3 u4 ov gb cp g6 c6 g7 c7 d):Fl W lo D (.agg (kR d u0 u1 u2 u3 u4 ov (.slice (some ⟨g6,0,none⟩) d.ns c6) (.slice (some ⟨g7,0,none⟩) d.nq c7))) d:=⟨u0,u1,u2,u3,u4,ov,gb,cp,g6,c6,g7,c7,rfl,H.up⟩
def Iy (w W:World) (lo:Nat) (D:Nat->Nat->Prop) (v:Value) (d:Aq):Prop:=∃ D',Fl W lo D' v d/\V0 w D D'
theorem A9.nx (H:A9 W lo N D u0 u1 u2 u3 u4 ov gb cp g6 c6 g7 c7 d) (hn:V0 w E D):Iy w W lo E (.agg (kR d u0 u1 u2 u3 u4 ov (.slice (some ⟨g6,0,none⟩) d.ns c6) (.slice (some ⟨g7,0,none⟩) d.nq c7))) d:=⟨D,H.x,hn⟩
theorem Fl.ow (H:Fl W lo D v d):Dv W lo v d:=by
 obtain ⟨u0,u1,u2,u3,u4,ov,gb,cp,g6,c6,g7,c7,rfl,H⟩:=H;exact H.ow
theorem Fl.of (H:Dv W lo v d):∃ D,Fl W lo D v d:=by
 obtain ⟨D,u0,u1,u2,u3,u4,ov,gb,cp,g6,c6,g7,c7,e,H⟩:=A9.of H;exact ⟨D,u0,u1,u2,u3,u4,ov,gb,cp,g6,c6,g7,c7,e,H.up⟩
end
theorem Jdj (w:World) (lo:Nat) (D:Nat->Nat->Prop) (v:Value) (d:Aq) (a:Int) (H:Fl w lo D v d) (hlo:lo<=w.heap.size) (hok:okLock d=true) (hnq:d.nq<1048576):Calls prog 91 #[v,.i a] w fun e w'=>∃ v',e=.returned (.tuple #[v',.i (Dx d a)])/\Iy w w' lo D v' (Cl d a)/\Below lo w w'/\Eg w w':=by
 obtain ⟨okp,okm,oku,oka,oks⟩:=Fy hok;obtain ⟨u0,u1,u2,u3,u4,ov,gb,cp,g6,c6,g7,c7,rfl,HP0⟩:=H;obtain ⟨x0,y0,rfl⟩:=HP0.h0.form;obtain ⟨x1,y1,rfl⟩:=HP0.h1.two;obtain ⟨x2,y2,e2⟩:=HP0.h2.two;simp only [Value.agg.injEq,Array.mk.injEq,List.cons.injEq,and_true] at e2;subst e2;obtain ⟨x3,y3,x4,y4,e3⟩:=HP0.h3.two;simp only [Value.agg.injEq,Array.mk.injEq,List.cons.injEq,and_true,true_and] at e3;obtain ⟨rfl,rfl⟩:=e3;obtain ⟨x5,y5,rfl⟩:=HP0.h4.form;have L0:Below w.heap.size w ((w.alloc (.cells (kR d (.slice x0 d.m y0) (.slice x1 d.np y1) (.slice x2 d.nr y2) (.slice x3 d.nt y3) (.slice x4 d.nd y4) (.slice x5 d.mf y5) (.slice (some ⟨g6,0,none⟩) d.ns c6) (.slice (some ⟨g7,0,none⟩) d.nq c7)) 41)).alloc (.cells zR 41)):=((Below.refl _ _).alloc (Nat.le_refl _) _).alloc (by simp) _
 have B0:((w.alloc (.cells (kR d (.slice x0 d.m y0) (.slice x1 d.np y1) (.slice x2 d.nr y2) (.slice x3 d.nt y3) (.slice x4 d.nd y4) (.slice x5 d.mf y5) (.slice (some ⟨g6,0,none⟩) d.ns c6) (.slice (some ⟨g7,0,none⟩) d.nq c7)) 41)).alloc (.cells zR 41)).heap[w.heap.size]?=some (.cells (kR d (.slice x0 d.m y0) (.slice x1 d.np y1) (.slice x2 d.nr y2) (.slice x3 d.nt y3) (.slice x4 d.nd y4) (.slice x5 d.mf y5) (.slice (some ⟨g6,0,none⟩) d.ns c6) (.slice (some ⟨g7,0,none⟩) d.nq c7)) 41 (0,0)):=Az (Ak w _ _) _
 have B1:((w.alloc (.cells (kR d (.slice x0 d.m y0) (.slice x1 d.np y1) (.slice x2 d.nr y2) (.slice x3 d.nt y3) (.slice x4 d.nd y4) (.slice x5 d.mf y5) (.slice (some ⟨g6,0,none⟩) d.ns c6) (.slice (some ⟨g7,0,none⟩) d.nq c7)) 41)).alloc (.cells zR 41)).heap[w.heap.size+1]?=some (.cells zR 41 (0,0)):=by simpa using Ak (w.alloc (.cells (kR d (.slice x0 d.m y0) (.slice x1 d.np y1) (.slice x2 d.nr y2) (.slice x3 d.nt y3) (.slice x4 d.nd y4) (.slice x5 d.mf y5) (.slice (some ⟨g6,0,none⟩) d.ns c6) (.slice (some ⟨g7,0,none⟩) d.nq c7)) 41)) zR 41
 have HQ:=HP0.below L0;have bd0:=HP0.bd;have n60:=HP0.n6;have n70:=HP0.n7;clear HP0
 obtain ⟨rg,hrg⟩:∃ x,Hid (x=rgN (a%65536)):=⟨_,rfl⟩
 obtain ⟨at',hat⟩:∃ x,Hid (x=rgP (a%65536)):=⟨_,rfl⟩
 have HG:=Ac (fun W=>Ij W a);rw [<- hrg.out,<- hat.out] at HG
 by_cases r2:rg=2
 .have HV:Hid (Dx d a=R5 true at' d.bl d.ad d.tb/\Cl d a={ d with ad:=Ps true at' d.ad,bl:=Rz true at' d.bl,nq:=d.nq+1,rd:=snoc d.rd d.nq (R5 true at' d.bl d.ad d.tb) }):=by
   have e:rgN (a%65536)=2:=by rw [<- hrg.out]; exact r2
   show _/\_
   unfold Cl Dx;simp only [e,if_true];rw [<- hat.out];exact ⟨rfl,rfl⟩
  rw [HV.out.1,HV.out.2];subst r2;clear HV hrg
  obtain ⟨x,hx⟩:∃ x,Hid (x=R5 true at' d.bl d.ad d.tb):=⟨_,rfl⟩
  obtain ⟨ad',had⟩:∃ x,Hid (x=Ps true at' d.ad):=⟨_,rfl⟩
  obtain ⟨bl',hbl⟩:∃ x,Hid (x=Rz true at' d.bl):=⟨_,rfl⟩
  have HP:=Ac (fun W E v h=>P9 W E v d.t d.c d.s d.ad d.pl d.bl d.nt d.tb d.nd d.dt h at');rw [oku,<- hx.out,<- had.out,<- hbl.out] at HP;rw [<- hx.out,<- had.out,<- hbl.out];clear hx had hbl hat
  go_enter func91,ntmps91
  go_wp2_with fail;generalize (w.alloc (.cells (kR d (.slice x0 d.m y0) (.slice x1 d.np y1) (.slice x2 d.nr y2) (.slice x3 d.nt y3) (.slice x4 d.nd y4) (.slice x5 d.mf y5) (.slice (some ⟨g6,0,none⟩) d.ns c6) (.slice (some ⟨g7,0,none⟩) d.nq c7)) 41)).alloc (.cells zR 41)=W0 at *;refine (HG.out _).mono ?_;rintro e W1 ⟨rfl,rfl⟩;have c0':=Af B0;go_wp2_with fail;clear c0';refine (HP.out _ _ _ HQ.h3).mono ?_;rintro e W2 ⟨v',rfl,P3,L⟩;clear HP;obtain ⟨x3',y3',x4',y4',rfl⟩:=P3.two;replace P3:=P3.mono (E:=fun b=>W1.heap.size<=b/\b<W2.heap.size) (fun b hb h=>⟨h,hb⟩);have l12:=L.size;have hb1:=Ad B1;replace HQ:=HQ.below L;replace L0:=Ah L0 L;replace B0:=Ab B0 L (Ad B0);replace B1:=Ab B1 L (Ad B1);replace HQ:=HQ.ppu P3 (by omega) hlo l12 (Nat.le_refl _);clear L P3;have c0':=Af B0;have f0':=Au B0
  go_upto_region 11 with (fail);clear c0' f0'
  have TT:=Wrote.setCell (b:=w.heap.size) (o:=19) (R:=fun b _=>b=w.heap.size) (Wrote.setCell (b:=w.heap.size) (o:=18) (R:=fun b _=>b=w.heap.size) (Wrote.setCell (b:=w.heap.size) (o:=17) (R:=fun b _=>b=w.heap.size) (Wrote.setCell (b:=w.heap.size) (o:=16) (R:=fun b _=>b=w.heap.size) (Wrote.setCell (b:=w.heap.size) (o:=15) (R:=fun b _=>b=w.heap.size) (Wrote.setCell (b:=w.heap.size) (o:=14) (R:=fun b _=>b=w.heap.size) (Wrote.setCell (b:=w.heap.size) (o:=13) (R:=fun b _=>b=w.heap.size) (Wrote.setCell (b:=w.heap.size) (o:=12) (R:=fun b _=>b=w.heap.size) (Wrote.refl _ W2) (fun _=>rfl) (.i d.t)) (fun _=>rfl) (.i d.c)) (fun _=>rfl) (.i d.s)) (fun _=>rfl) (.i ad')) (fun _=>rfl) (.i d.pl)) (fun _=>rfl) (.bool bl')) (fun _=>rfl) (.slice x3' d.nt y3')) (fun _=>rfl) (.slice x4' d.nd y4')
  replace B1:=Al B1 TT (fun o (h:_=_)=>by omega);replace B0:=Am (o:=12) B0 (.i d.t);replace B0:=Am (o:=13) B0 (.i d.c);replace B0:=Am (o:=14) B0 (.i d.s);replace B0:=Am (o:=15) B0 (.i ad');replace B0:=Am (o:=16) B0 (.i d.pl);replace B0:=Am (o:=17) B0 (.bool bl');replace B0:=Am (o:=18) B0 (.slice x3' d.nt y3');replace B0:=Am (o:=19) B0 (.slice x4' d.nd y4');simp only [Sa,Sb,Sc] at B0;replace HQ:=HQ.keepD TT (fun i b o h (e:b=_)=>by rcases h with ⟨-,h1,h2⟩ | ⟨-,h⟩; (omega); (have:=bd0 _ _ h; omega)) (fun o (e:_=_)=>by omega) (fun o (e:_=_)=>by omega);replace L0:=L0.trans (TT.below L0.size (fun b o hb (h:b=_)=>by omega));clear TT
  generalize (((((((W2.setCell ⟨w.heap.size,12,none⟩ (.i d.t)).setCell ⟨w.heap.size,13,none⟩ (.i d.c)).setCell ⟨w.heap.size,14,none⟩ (.i d.s)).setCell ⟨w.heap.size,15,none⟩ (.i ad')).setCell ⟨w.heap.size,16,none⟩ (.i d.pl)).setCell ⟨w.heap.size,17,none⟩ (.bool bl')).setCell ⟨w.heap.size,18,none⟩ (.slice x3' d.nt y3')).setCell ⟨w.heap.size,19,none⟩ (.slice x4' d.nd y4')=W3 at *;have LA:Below W3.heap.size W3 (W3.alloc (.cells #[.i x] 3)):=(Below.refl _ _).alloc (Nat.le_refl _) _;have hE:=Af (Ak W3 #[.i x] 3) 0;have hbk:=Ad B1;have c0':=Af (Ab B0 LA (Ad B0));have c0s:=Af B0;have HQA:=Ac (HQ.below LA);have LXA:=Ac (Ah L0 LA);have B0A:=Ac (Ab B0 LA (Ad B0));have B1A:=Ac (Ab B1 LA (Ad B1));clear HQ L0 LA B0 B1
  go_wp2_with (at_builtin; refine Eu _ rfl _ _ rfl lo g7 d.nq c7 d.rd rfl HQA.out.h7 hnq W3.heap.size x rfl hE ?_);intro g9 c9 W9 R9 hW hat9;clear c0' c0s hE
  replace hat9:(g9=g7/\d.nq+1<=c7)\/(W3.alloc (.cells #[.i x] 3)).heap.size<=g9:=by simpa using hat9
  have hs9:(W3.alloc (.cells #[.i x] 3)).heap.size=W3.heap.size+1:=by simp
  have HQN:=HQA.out.push (by have:=HQA.out.n7; omega) hW R9 hat9;have B0:=Al B0A.out hW (fun o ⟨e,_⟩=>by omega);have B1:=Al B1A.out hW (fun o ⟨e,_⟩=>by omega);have KW:Eg w W9:=(Eg.below LXA.out).wrote hW (fun b o hb ⟨e,_⟩=>by subst e; exact ⟨_,Or.inl HQA.out.h7.cur.choose_spec⟩)
  have hn9:(∃ j,D j g9)\/w.heap.size<=g9:=by
   rcases hat9 with ⟨e,hc⟩ | h
   .rw [e]
    rcases HQA.out.h7D with h | h
    .first | exact Or.inl ⟨_,h⟩ | (rcases h with ⟨-,h1,h2⟩ | ⟨-,h⟩; (exact Or.inr (by omega)); (exact Or.inl ⟨_,h⟩))
    .have h2:c7=0:=h.2
     exfalso
     omega
   .exact Or.inr (by omega)
  have LW:Below lo w W9:=(LXA.out.mono hlo).trans (hW.below (Nat.le_trans hlo LXA.out.size) (fun b o hb ⟨e,_⟩=>by have:=HQA.out.h7.parts.1; omega))
  have hg9:g9≠w.heap.size/\g9≠w.heap.size+1:=by rcases hat9 with ⟨e,_⟩ | h <;> omega
  clear HQA LXA B0A B1A hW R9 hat9 hs9;have c0':=Af B0;have f0':=Au B0;go_upto_region 12 with (fail);clear c0' f0';rename_i K2 hK2;have TT:=Wrote.setCell (b:=w.heap.size) (o:=33) (R:=fun b _=>b=w.heap.size\/b=w.heap.size+1) (Wrote.refl _ W9) (fun _=>Or.inl rfl) (.slice (some ⟨g9,0,none⟩) (d.nq+1) c9);replace B1:=Al B1 (Wrote.setCell (b:=w.heap.size) (o:=33) (R:=fun b _=>b=w.heap.size) (Wrote.refl _ W9) (fun _=>rfl) (.slice (some ⟨g9,0,none⟩) (d.nq+1) c9)) (fun o (h:_=_)=>by omega);replace B0:=Am (o:=33) B0 (.slice (some ⟨g9,0,none⟩) (d.nq+1) c9);simp only [Sa,Sb,Sc] at B0;generalize W9.setCell ⟨w.heap.size,33,none⟩ (.slice (some ⟨g9,0,none⟩) (d.nq+1) c9)=W10 at *;refine wp_region_lit ?_;refine wpList_load_row rfl _ _ rfl w.heap.size rfl _ _ _ _ B0 underlying41 rfl An ?_
  refine wpList_plain rfl (fun K3 hK3=>?_);go_simp;refine hK3 _ _ ?_;clear hK3;refine wpList_store_row rfl _ _ _ rfl (w.heap.size+1) _ rfl rfl _ _ B1 An rfl (by first | kernel_rfl | simp [Value.oneCell']) ?_;have B3:=setRow_heap _ _ _ (kR { d with ad:=ad',bl:=bl' } (.slice x0 d.m y0) (.slice x1 d.np y1) (.slice x2 d.nr y2) (.slice x3' d.nt y3') (.slice x4' d.nd y4') (.slice x5 d.mf y5) (.slice (some ⟨g6,0,none⟩) d.ns c6) (.slice (some ⟨g9,0,none⟩) (d.nq+1) c9)) _ _ B1;have WW:=(As B1 (kR { d with ad:=ad',bl:=bl' } (.slice x0 d.m y0) (.slice x1 d.np y1) (.slice x2 d.nr y2) (.slice x3' d.nt y3') (.slice x4' d.nd y4') (.slice x5 d.mf y5) (.slice (some ⟨g6,0,none⟩) d.ns c6) (.slice (some ⟨g9,0,none⟩) (d.nq+1) c9))).mono (S:=fun b _=>b=w.heap.size\/b=w.heap.size+1) (fun b o _ h=>Or.inr h)
  generalize W10.setRow (w.heap.size+1) (kR { d with ad:=ad',bl:=bl' } (.slice x0 d.m y0) (.slice x1 d.np y1) (.slice x2 d.nr y2) (.slice x3' d.nt y3') (.slice x4' d.nd y4') (.slice x5 d.mf y5) (.slice (some ⟨g6,0,none⟩) d.ns c6) (.slice (some ⟨g9,0,none⟩) (d.nq+1) c9))=W11 at *;refine wpList_plain rfl (fun K4 hK4=>?_);go_simp;refine hK4 _ _ ?_;clear hK4;refine hK2 _ _ ?_;have HF:=Ac (HQN.keepD (TT.trans WW) (fun i b o h e=>by rcases h with ⟨-,rfl⟩ | ⟨-,⟨-,h1,h2⟩ | ⟨-,h⟩⟩; (omega); (omega); (have:=bd0 _ _ h; omega)) (fun o e=>by omega) (fun o e=>by omega))
  have HX:=Ac (A9.nx (E:=D) (w:=w) HF.out (fun i b h=>by first | exact Or.inl ⟨_,h⟩ | (rcases h with ⟨-,h1,h2⟩ | ⟨-,h⟩; (exact Or.inr (by omega)); (exact Or.inl ⟨_,h⟩)) | (rcases h with ⟨-,rfl⟩ | ⟨-,h⟩; (exact hn9); (exact Or.inl ⟨_,h⟩)) | (rcases h with ⟨-,rfl⟩ | ⟨-,⟨-,h1,h2⟩ | ⟨-,h⟩⟩; (exact hn9); (exact Or.inr (by omega)); (exact Or.inl ⟨_,h⟩))));have KF:=Ac (KW.wrote (TT.trans WW) (fun b o hb e=>by exfalso; omega));have LF:=Ac (LW.trans ((TT.trans WW).below (Nat.le_trans hlo LW.size) (fun b o hb e=>by omega)));clear HQN TT WW B0 B1 LW KW HF;go_wp2
  refine bodyPost_ret (v:=.tuple #[.agg (kR { d with ad:=ad',bl:=bl' } (.slice x0 d.m y0) (.slice x1 d.np y1) (.slice x2 d.nr y2) (.slice x3' d.nt y3') (.slice x4' d.nd y4') (.slice x5 d.mf y5) (.slice (some ⟨g6,0,none⟩) d.ns c6) (.slice (some ⟨g9,0,none⟩) (d.nq+1) c9)),.i x]) (A2 results91 _ _ (w.heap.size+1) _ _ _ _ rfl B3 underlying41 rfl An) rfl ?_;exact ⟨_,rfl,HX.out,LF.out,KF.out⟩
 by_cases r3:rg=3
 .have HV:Hid (Dx d a=Y0 true d.L d.R at'/\Cl d a={ d with R:=rqA true d.R at',nq:=d.nq+1,rd:=snoc d.rd d.nq (Y0 true d.L d.R at') }):=by
   have e:rgN (a%65536)=3:=by rw [<- hrg.out]; exact r3
   show _/\_
   unfold Cl Dx;simp only [e,if_true,show ¬ ((3:Int)=2) by decide,if_false]
   first | (rw [<- hat.out]; exact ⟨rfl,rfl⟩) | exact ⟨rfl,rfl⟩ | exact ⟨trivial,rfl⟩ | exact ⟨trivial,trivial⟩ | trivial
  rw [HV.out.1,HV.out.2];subst r3;clear HV hrg
  obtain ⟨x,hx⟩:∃ x,Hid (x=Y0 true d.L d.R at'):=⟨_,rfl⟩
  obtain ⟨r',hr'⟩:∃ x,Hid (x=rqA true d.R at'):=⟨_,rfl⟩
  have HP:=Ac (fun W (_:A9 W lo w.heap.size D (.slice x0 d.m y0) (.slice x1 d.np y1) (.slice x2 d.nr y2) (.slice x3 d.nt y3) (.slice x4 d.nd y4) (.slice x5 d.mf y5) gb cp g6 c6 g7 c7 d) (_:Below w.heap.size w W)=>Uw W d.T d.P d.K d.B d.L d.Q d.R at');rw [oka,<- hx.out,<- hr'.out] at HP;rw [<- hx.out,<- hr'.out];clear hx hr' hat
  go_enter func91,ntmps91
  go_wp2_with fail;generalize (w.alloc (.cells (kR d (.slice x0 d.m y0) (.slice x1 d.np y1) (.slice x2 d.nr y2) (.slice x3 d.nt y3) (.slice x4 d.nd y4) (.slice x5 d.mf y5) (.slice (some ⟨g6,0,none⟩) d.ns c6) (.slice (some ⟨g7,0,none⟩) d.nq c7)) 41)).alloc (.cells zR 41)=W0 at *;refine (HG.out _).mono ?_;rintro e W1 ⟨rfl,rfl⟩;have c0':=Af B0;go_wp2_with fail;clear c0';refine (HP.out _ HQ L0).mono ?_;rintro e W2 ⟨rfl,L⟩;clear HP;have hb1:=Ad B1;replace HQ:=HQ.below L;replace L0:=Ah L0 L;replace B0:=Ab B0 L (Ad B0);replace B1:=Ab B1 L (Ad B1)
  replace HQ:A9 W2 lo w.heap.size D (.slice x0 d.m y0) (.slice x1 d.np y1) (.slice x2 d.nr y2) (.slice x3 d.nt y3) (.slice x4 d.nd y4) (.slice x5 d.mf y5) gb cp g6 c6 g7 c7 { d with R:=r' }:=⟨HQ.h0,HQ.h1,HQ.h2,HQ.h3,HQ.h4,HQ.h4D,HQ.h6,HQ.h6D,HQ.h7,HQ.h7D,HQ.dis,HQ.bd,HQ.n6,HQ.n7,HQ.nN,HQ.hps⟩
  clear L;have c0':=Af B0;have f0':=Au B0;go_upto_region 11 with (fail);clear c0' f0';have TT:=Wrote.setCell (b:=w.heap.size) (o:=26) (R:=fun b _=>b=w.heap.size) (Wrote.setCell (b:=w.heap.size) (o:=25) (R:=fun b _=>b=w.heap.size) (Wrote.setCell (b:=w.heap.size) (o:=24) (R:=fun b _=>b=w.heap.size) (Wrote.setCell (b:=w.heap.size) (o:=23) (R:=fun b _=>b=w.heap.size) (Wrote.setCell (b:=w.heap.size) (o:=22) (R:=fun b _=>b=w.heap.size) (Wrote.setCell (b:=w.heap.size) (o:=21) (R:=fun b _=>b=w.heap.size) (Wrote.setCell (b:=w.heap.size) (o:=20) (R:=fun b _=>b=w.heap.size) (Wrote.refl _ W2) (fun _=>rfl) (.i d.T)) (fun _=>rfl) (.i d.P)) (fun _=>rfl) (.i d.K)) (fun _=>rfl) (.i d.B)) (fun _=>rfl) (.i d.L)) (fun _=>rfl) (.bool d.Q)) (fun _=>rfl) (.bool r')
  replace B1:=Al B1 TT (fun o (h:_=_)=>by omega);replace B0:=Am (o:=20) B0 (.i d.T);replace B0:=Am (o:=21) B0 (.i d.P);replace B0:=Am (o:=22) B0 (.i d.K);replace B0:=Am (o:=23) B0 (.i d.B);replace B0:=Am (o:=24) B0 (.i d.L);replace B0:=Am (o:=25) B0 (.bool d.Q);replace B0:=Am (o:=26) B0 (.bool r');simp only [Sa,Sb,Sc] at B0;replace HQ:=HQ.keepD TT (fun i b o h (e:b=_)=>by have:=bd0 _ _ h; omega) (fun o (e:_=_)=>by omega) (fun o (e:_=_)=>by omega);replace L0:=L0.trans (TT.below L0.size (fun b o hb (h:b=_)=>by omega));clear TT
  generalize ((((((W2.setCell ⟨w.heap.size,20,none⟩ (.i d.T)).setCell ⟨w.heap.size,21,none⟩ (.i d.P)).setCell ⟨w.heap.size,22,none⟩ (.i d.K)).setCell ⟨w.heap.size,23,none⟩ (.i d.B)).setCell ⟨w.heap.size,24,none⟩ (.i d.L)).setCell ⟨w.heap.size,25,none⟩ (.bool d.Q)).setCell ⟨w.heap.size,26,none⟩ (.bool r')=W3 at *;have LA:Below W3.heap.size W3 (W3.alloc (.cells #[.i x] 3)):=(Below.refl _ _).alloc (Nat.le_refl _) _;have hE:=Af (Ak W3 #[.i x] 3) 0;have hbk:=Ad B1;have c0':=Af (Ab B0 LA (Ad B0));have c0s:=Af B0;have HQA:=Ac (HQ.below LA);have LXA:=Ac (Ah L0 LA);have B0A:=Ac (Ab B0 LA (Ad B0));have B1A:=Ac (Ab B1 LA (Ad B1));clear HQ L0 LA B0 B1;go_wp2_with (at_builtin; refine Eu _ rfl _ _ rfl lo g7 d.nq c7 d.rd rfl HQA.out.h7 hnq W3.heap.size x rfl hE ?_);intro g9 c9 W9 R9 hW hat9
  clear c0' c0s hE
  replace hat9:(g9=g7/\d.nq+1<=c7)\/(W3.alloc (.cells #[.i x] 3)).heap.size<=g9:=by simpa using hat9
  have hs9:(W3.alloc (.cells #[.i x] 3)).heap.size=W3.heap.size+1:=by simp
  have HQN:=HQA.out.push (by have:=HQA.out.n7; omega) hW R9 hat9;have B0:=Al B0A.out hW (fun o ⟨e,_⟩=>by omega);have B1:=Al B1A.out hW (fun o ⟨e,_⟩=>by omega);have KW:Eg w W9:=(Eg.below LXA.out).wrote hW (fun b o hb ⟨e,_⟩=>by subst e; exact ⟨_,Or.inl HQA.out.h7.cur.choose_spec⟩)
  have hn9:(∃ j,D j g9)\/w.heap.size<=g9:=by
   rcases hat9 with ⟨e,hc⟩ | h
   .rw [e]
    rcases HQA.out.h7D with h | h
    .first | exact Or.inl ⟨_,h⟩ | (rcases h with ⟨-,h1,h2⟩ | ⟨-,h⟩; (exact Or.inr (by omega)); (exact Or.inl ⟨_,h⟩))
    .have h2:c7=0:=h.2
     exfalso
     omega
   .exact Or.inr (by omega)
  have LW:Below lo w W9:=(LXA.out.mono hlo).trans (hW.below (Nat.le_trans hlo LXA.out.size) (fun b o hb ⟨e,_⟩=>by have:=HQA.out.h7.parts.1; omega))
  have hg9:g9≠w.heap.size/\g9≠w.heap.size+1:=by rcases hat9 with ⟨e,_⟩ | h <;> omega
  clear HQA LXA B0A B1A hW R9 hat9 hs9;have c0':=Af B0;have f0':=Au B0;go_upto_region 12 with (fail);clear c0' f0';rename_i K2 hK2;have TT:=Wrote.setCell (b:=w.heap.size) (o:=33) (R:=fun b _=>b=w.heap.size\/b=w.heap.size+1) (Wrote.refl _ W9) (fun _=>Or.inl rfl) (.slice (some ⟨g9,0,none⟩) (d.nq+1) c9);replace B1:=Al B1 (Wrote.setCell (b:=w.heap.size) (o:=33) (R:=fun b _=>b=w.heap.size) (Wrote.refl _ W9) (fun _=>rfl) (.slice (some ⟨g9,0,none⟩) (d.nq+1) c9)) (fun o (h:_=_)=>by omega);replace B0:=Am (o:=33) B0 (.slice (some ⟨g9,0,none⟩) (d.nq+1) c9);simp only [Sa,Sb,Sc] at B0;generalize W9.setCell ⟨w.heap.size,33,none⟩ (.slice (some ⟨g9,0,none⟩) (d.nq+1) c9)=W10 at *;refine wp_region_lit ?_;refine wpList_load_row rfl _ _ rfl w.heap.size rfl _ _ _ _ B0 underlying41 rfl An ?_
  refine wpList_plain rfl (fun K3 hK3=>?_);go_simp;refine hK3 _ _ ?_;clear hK3;refine wpList_store_row rfl _ _ _ rfl (w.heap.size+1) _ rfl rfl _ _ B1 An rfl (by first | kernel_rfl | simp [Value.oneCell']) ?_;have B3:=setRow_heap _ _ _ (kR { d with R:=r' } (.slice x0 d.m y0) (.slice x1 d.np y1) (.slice x2 d.nr y2) (.slice x3 d.nt y3) (.slice x4 d.nd y4) (.slice x5 d.mf y5) (.slice (some ⟨g6,0,none⟩) d.ns c6) (.slice (some ⟨g9,0,none⟩) (d.nq+1) c9)) _ _ B1;have WW:=(As B1 (kR { d with R:=r' } (.slice x0 d.m y0) (.slice x1 d.np y1) (.slice x2 d.nr y2) (.slice x3 d.nt y3) (.slice x4 d.nd y4) (.slice x5 d.mf y5) (.slice (some ⟨g6,0,none⟩) d.ns c6) (.slice (some ⟨g9,0,none⟩) (d.nq+1) c9))).mono (S:=fun b _=>b=w.heap.size\/b=w.heap.size+1) (fun b o _ h=>Or.inr h)
  generalize W10.setRow (w.heap.size+1) (kR { d with R:=r' } (.slice x0 d.m y0) (.slice x1 d.np y1) (.slice x2 d.nr y2) (.slice x3 d.nt y3) (.slice x4 d.nd y4) (.slice x5 d.mf y5) (.slice (some ⟨g6,0,none⟩) d.ns c6) (.slice (some ⟨g9,0,none⟩) (d.nq+1) c9))=W11 at *;refine wpList_plain rfl (fun K4 hK4=>?_);go_simp;refine hK4 _ _ ?_;clear hK4;refine hK2 _ _ ?_;have HF:=Ac (HQN.keepD (TT.trans WW) (fun i b o h e=>by rcases h with ⟨-,rfl⟩ | ⟨-,h⟩; (omega); (have:=bd0 _ _ h; omega)) (fun o e=>by omega) (fun o e=>by omega))
  have HX:=Ac (A9.nx (E:=D) (w:=w) HF.out (fun i b h=>by first | exact Or.inl ⟨_,h⟩ | (rcases h with ⟨-,h1,h2⟩ | ⟨-,h⟩; (exact Or.inr (by omega)); (exact Or.inl ⟨_,h⟩)) | (rcases h with ⟨-,rfl⟩ | ⟨-,h⟩; (exact hn9); (exact Or.inl ⟨_,h⟩)) | (rcases h with ⟨-,rfl⟩ | ⟨-,⟨-,h1,h2⟩ | ⟨-,h⟩⟩; (exact hn9); (exact Or.inr (by omega)); (exact Or.inl ⟨_,h⟩))));have KF:=Ac (KW.wrote (TT.trans WW) (fun b o hb e=>by exfalso; omega));have LF:=Ac (LW.trans ((TT.trans WW).below (Nat.le_trans hlo LW.size) (fun b o hb e=>by omega)));clear HQN TT WW B0 B1 LW KW HF;go_wp2
  refine bodyPost_ret (v:=.tuple #[.agg (kR { d with R:=r' } (.slice x0 d.m y0) (.slice x1 d.np y1) (.slice x2 d.nr y2) (.slice x3 d.nt y3) (.slice x4 d.nd y4) (.slice x5 d.mf y5) (.slice (some ⟨g6,0,none⟩) d.ns c6) (.slice (some ⟨g9,0,none⟩) (d.nq+1) c9)),.i x]) (A2 results91 _ _ (w.heap.size+1) _ _ _ _ rfl B3 underlying41 rfl An) rfl ?_;exact ⟨_,rfl,HX.out,LF.out,KF.out⟩
 by_cases r4:rg=4
 .have HV:Hid (Dx d a=I6 d.hd d.sh d.np d.p d.t/\Cl d a={ d with sh:=De d.hd d.sh d.np d.p d.t,nq:=d.nq+1,rd:=snoc d.rd d.nq (I6 d.hd d.sh d.np d.p d.t) }):=by
   have e:rgN (a%65536)=4:=by rw [<- hrg.out]; exact r4
   show _/\_
   unfold Cl Dx;simp only [e,if_true,show ¬ ((4:Int)=2) by decide,if_false,show ¬ ((4:Int)=3) by decide,if_false]
   first | (rw [<- hat.out]; exact ⟨rfl,rfl⟩) | exact ⟨rfl,rfl⟩ | exact ⟨trivial,rfl⟩ | exact ⟨trivial,trivial⟩ | trivial
  rw [HV.out.1,HV.out.2];subst r4;clear HV hrg
  obtain ⟨x,hx⟩:∃ x,Hid (x=I6 d.hd d.sh d.np d.p d.t):=⟨_,rfl⟩
  obtain ⟨s',hs'⟩:∃ x,Hid (x=De d.hd d.sh d.np d.p d.t):=⟨_,rfl⟩
  have HP:=Ac (fun W (h:A9 W lo w.heap.size D (.slice x0 d.m y0) (.slice x1 d.np y1) (.slice x2 d.nr y2) (.slice x3 d.nt y3) (.slice x4 d.nd y4) (.slice x5 d.mf y5) gb cp g6 c6 g7 c7 d) (_:Below w.heap.size w W)=>U6 W (On (D 1)) d.hd d.sh (.slice x1 d.np y1) d.np d.p d.t (by have:=(Er oku).2; omega) (by obtain ⟨aa,cc,e,hs⟩:=h.h1; rw [e]; exact hs.ints cc));rw [<- hx.out,<- hs'.out] at HP;rw [<- hx.out,<- hs'.out];clear hx hs' hat
  go_enter func91,ntmps91
  go_wp2_with fail;generalize (w.alloc (.cells (kR d (.slice x0 d.m y0) (.slice x1 d.np y1) (.slice x2 d.nr y2) (.slice x3 d.nt y3) (.slice x4 d.nd y4) (.slice x5 d.mf y5) (.slice (some ⟨g6,0,none⟩) d.ns c6) (.slice (some ⟨g7,0,none⟩) d.nq c7)) 41)).alloc (.cells zR 41)=W0 at *;refine (HG.out _).mono ?_;rintro e W1 ⟨rfl,rfl⟩;have c0':=Af B0;go_wp2_with fail;clear c0';refine (HP.out _ HQ L0).mono ?_;rintro e W2 ⟨rfl,L⟩;clear HP;have hb1:=Ad B1;replace HQ:=HQ.below L;replace L0:=Ah L0 L;replace B0:=Ab B0 L (Ad B0);replace B1:=Ab B1 L (Ad B1)
  replace HQ:A9 W2 lo w.heap.size D (.slice x0 d.m y0) (.slice x1 d.np y1) (.slice x2 d.nr y2) (.slice x3 d.nt y3) (.slice x4 d.nd y4) (.slice x5 d.mf y5) gb cp g6 c6 g7 c7 { d with sh:=s' }:=⟨HQ.h0,HQ.h1,HQ.h2,HQ.h3,HQ.h4,HQ.h4D,HQ.h6,HQ.h6D,HQ.h7,HQ.h7D,HQ.dis,HQ.bd,HQ.n6,HQ.n7,HQ.nN,HQ.hps⟩
  clear L;have c0':=Af B0;have f0':=Au B0;go_upto_region 11 with (fail);clear c0' f0';have TT:=Wrote.setCell (b:=w.heap.size) (o:=28) (R:=fun b _=>b=w.heap.size) (Wrote.setCell (b:=w.heap.size) (o:=27) (R:=fun b _=>b=w.heap.size) (Wrote.refl _ W2) (fun _=>rfl) (.bool d.hd)) (fun _=>rfl) (.i s');replace B1:=Al B1 TT (fun o (h:_=_)=>by omega);replace B0:=Am (o:=27) B0 (.bool d.hd);replace B0:=Am (o:=28) B0 (.i s');simp only [Sa,Sb,Sc] at B0;replace HQ:=HQ.keepD TT (fun i b o h (e:b=_)=>by have:=bd0 _ _ h; omega) (fun o (e:_=_)=>by omega) (fun o (e:_=_)=>by omega);replace L0:=L0.trans (TT.below L0.size (fun b o hb (h:b=_)=>by omega));clear TT;generalize (W2.setCell ⟨w.heap.size,27,none⟩ (.bool d.hd)).setCell ⟨w.heap.size,28,none⟩ (.i s')=W3 at *
  have LA:Below W3.heap.size W3 (W3.alloc (.cells #[.i x] 3)):=(Below.refl _ _).alloc (Nat.le_refl _) _;have hE:=Af (Ak W3 #[.i x] 3) 0;have hbk:=Ad B1;have c0':=Af (Ab B0 LA (Ad B0));have c0s:=Af B0;have HQA:=Ac (HQ.below LA);have LXA:=Ac (Ah L0 LA);have B0A:=Ac (Ab B0 LA (Ad B0));have B1A:=Ac (Ab B1 LA (Ad B1));clear HQ L0 LA B0 B1;go_wp2_with (at_builtin; refine Eu _ rfl _ _ rfl lo g7 d.nq c7 d.rd rfl HQA.out.h7 hnq W3.heap.size x rfl hE ?_);intro g9 c9 W9 R9 hW hat9;clear c0' c0s hE
  replace hat9:(g9=g7/\d.nq+1<=c7)\/(W3.alloc (.cells #[.i x] 3)).heap.size<=g9:=by simpa using hat9
  have hs9:(W3.alloc (.cells #[.i x] 3)).heap.size=W3.heap.size+1:=by simp
  have HQN:=HQA.out.push (by have:=HQA.out.n7; omega) hW R9 hat9;have B0:=Al B0A.out hW (fun o ⟨e,_⟩=>by omega);have B1:=Al B1A.out hW (fun o ⟨e,_⟩=>by omega);have KW:Eg w W9:=(Eg.below LXA.out).wrote hW (fun b o hb ⟨e,_⟩=>by subst e; exact ⟨_,Or.inl HQA.out.h7.cur.choose_spec⟩)
  have hn9:(∃ j,D j g9)\/w.heap.size<=g9:=by
   rcases hat9 with ⟨e,hc⟩ | h
   .rw [e]
    rcases HQA.out.h7D with h | h
    .first | exact Or.inl ⟨_,h⟩ | (rcases h with ⟨-,h1,h2⟩ | ⟨-,h⟩; (exact Or.inr (by omega)); (exact Or.inl ⟨_,h⟩))
    .have h2:c7=0:=h.2
     exfalso
     omega
   .exact Or.inr (by omega)
  have LW:Below lo w W9:=(LXA.out.mono hlo).trans (hW.below (Nat.le_trans hlo LXA.out.size) (fun b o hb ⟨e,_⟩=>by have:=HQA.out.h7.parts.1; omega))
  have hg9:g9≠w.heap.size/\g9≠w.heap.size+1:=by rcases hat9 with ⟨e,_⟩ | h <;> omega
  clear HQA LXA B0A B1A hW R9 hat9 hs9;have c0':=Af B0;have f0':=Au B0;go_upto_region 12 with (fail);clear c0' f0';rename_i K2 hK2;have TT:=Wrote.setCell (b:=w.heap.size) (o:=33) (R:=fun b _=>b=w.heap.size\/b=w.heap.size+1) (Wrote.refl _ W9) (fun _=>Or.inl rfl) (.slice (some ⟨g9,0,none⟩) (d.nq+1) c9);replace B1:=Al B1 (Wrote.setCell (b:=w.heap.size) (o:=33) (R:=fun b _=>b=w.heap.size) (Wrote.refl _ W9) (fun _=>rfl) (.slice (some ⟨g9,0,none⟩) (d.nq+1) c9)) (fun o (h:_=_)=>by omega);replace B0:=Am (o:=33) B0 (.slice (some ⟨g9,0,none⟩) (d.nq+1) c9);simp only [Sa,Sb,Sc] at B0;generalize W9.setCell ⟨w.heap.size,33,none⟩ (.slice (some ⟨g9,0,none⟩) (d.nq+1) c9)=W10 at *;refine wp_region_lit ?_;refine wpList_load_row rfl _ _ rfl w.heap.size rfl _ _ _ _ B0 underlying41 rfl An ?_
  refine wpList_plain rfl (fun K3 hK3=>?_);go_simp;refine hK3 _ _ ?_;clear hK3;refine wpList_store_row rfl _ _ _ rfl (w.heap.size+1) _ rfl rfl _ _ B1 An rfl (by first | kernel_rfl | simp [Value.oneCell']) ?_;have B3:=setRow_heap _ _ _ (kR { d with sh:=s' } (.slice x0 d.m y0) (.slice x1 d.np y1) (.slice x2 d.nr y2) (.slice x3 d.nt y3) (.slice x4 d.nd y4) (.slice x5 d.mf y5) (.slice (some ⟨g6,0,none⟩) d.ns c6) (.slice (some ⟨g9,0,none⟩) (d.nq+1) c9)) _ _ B1;have WW:=(As B1 (kR { d with sh:=s' } (.slice x0 d.m y0) (.slice x1 d.np y1) (.slice x2 d.nr y2) (.slice x3 d.nt y3) (.slice x4 d.nd y4) (.slice x5 d.mf y5) (.slice (some ⟨g6,0,none⟩) d.ns c6) (.slice (some ⟨g9,0,none⟩) (d.nq+1) c9))).mono (S:=fun b _=>b=w.heap.size\/b=w.heap.size+1) (fun b o _ h=>Or.inr h)
  generalize W10.setRow (w.heap.size+1) (kR { d with sh:=s' } (.slice x0 d.m y0) (.slice x1 d.np y1) (.slice x2 d.nr y2) (.slice x3 d.nt y3) (.slice x4 d.nd y4) (.slice x5 d.mf y5) (.slice (some ⟨g6,0,none⟩) d.ns c6) (.slice (some ⟨g9,0,none⟩) (d.nq+1) c9))=W11 at *;refine wpList_plain rfl (fun K4 hK4=>?_);go_simp;refine hK4 _ _ ?_;clear hK4;refine hK2 _ _ ?_;have HF:=Ac (HQN.keepD (TT.trans WW) (fun i b o h e=>by rcases h with ⟨-,rfl⟩ | ⟨-,h⟩; (omega); (have:=bd0 _ _ h; omega)) (fun o e=>by omega) (fun o e=>by omega))
  have HX:=Ac (A9.nx (E:=D) (w:=w) HF.out (fun i b h=>by first | exact Or.inl ⟨_,h⟩ | (rcases h with ⟨-,h1,h2⟩ | ⟨-,h⟩; (exact Or.inr (by omega)); (exact Or.inl ⟨_,h⟩)) | (rcases h with ⟨-,rfl⟩ | ⟨-,h⟩; (exact hn9); (exact Or.inl ⟨_,h⟩)) | (rcases h with ⟨-,rfl⟩ | ⟨-,⟨-,h1,h2⟩ | ⟨-,h⟩⟩; (exact hn9); (exact Or.inr (by omega)); (exact Or.inl ⟨_,h⟩))));have KF:=Ac (KW.wrote (TT.trans WW) (fun b o hb e=>by exfalso; omega));have LF:=Ac (LW.trans ((TT.trans WW).below (Nat.le_trans hlo LW.size) (fun b o hb e=>by omega)));clear HQN TT WW B0 B1 LW KW HF;go_wp2
  refine bodyPost_ret (v:=.tuple #[.agg (kR { d with sh:=s' } (.slice x0 d.m y0) (.slice x1 d.np y1) (.slice x2 d.nr y2) (.slice x3 d.nt y3) (.slice x4 d.nd y4) (.slice x5 d.mf y5) (.slice (some ⟨g6,0,none⟩) d.ns c6) (.slice (some ⟨g9,0,none⟩) (d.nq+1) c9)),.i x]) (A2 results91 _ _ (w.heap.size+1) _ _ _ _ rfl B3 underlying41 rfl An) rfl ?_;exact ⟨_,rfl,HX.out,LF.out,KF.out⟩
 have HV:Hid (Dx d a=peekOf d.m d.f d.g d.bank (a%65536)/\Cl d a=d):=by
  have e2:¬ rgN (a%65536)=2:=by rw [<- hrg.out]; exact r2
  have e3:¬ rgN (a%65536)=3:=by rw [<- hrg.out]; exact r3
  have e4:¬ rgN (a%65536)=4:=by rw [<- hrg.out]; exact r4
  show _/\_
  unfold Cl Dx;rw [if_neg e2,if_neg e3,if_neg e4,if_neg e2,if_neg e3,if_neg e4];exact ⟨rfl,rfl⟩
 rw [HV.out.1,HV.out.2];clear HV hrg hat;have q2:(rg==2)=false:=beq_eq_false_iff_ne.2 r2;have q3:(rg==3)=false:=beq_eq_false_iff_ne.2 r3;have q4:(rg==4)=false:=beq_eq_false_iff_ne.2 r4;clear r2 r3 r4
 obtain ⟨x,hx⟩:∃ x,Hid (x=peekOf d.m d.f d.g d.bank (a%65536)):=⟨_,rfl⟩
 have HP:=Ac (fun W F G v u h k=>Jcd W F G v u d.m d.ln d.f d.nr d.g d.bank a h k okm);rw [<- hx.out] at HP;rw [<- hx.out];clear hx
 go_enter func91,ntmps91
 go_wp2_with fail;generalize (w.alloc (.cells (kR d (.slice x0 d.m y0) (.slice x1 d.np y1) (.slice x2 d.nr y2) (.slice x3 d.nt y3) (.slice x4 d.nd y4) (.slice x5 d.mf y5) (.slice (some ⟨g6,0,none⟩) d.ns c6) (.slice (some ⟨g7,0,none⟩) d.nq c7)) 41)).alloc (.cells zR 41)=W0 at *;refine (HG.out _).mono ?_;rintro e W1 ⟨rfl,rfl⟩;go_upto_region 4 with (fail);rename_i K2 hK2;have hb1:=Ad B1;obtain ⟨y2',hy2,I2⟩:=HQ.h2.ints;simp only [Value.agg.injEq,Array.mk.injEq,List.cons.injEq,and_true] at hy2;subst hy2;have I0:=HQ.h0.ints
 refine Bp [some 15,some 16,some 17,some 18,some 19,some 20,some 21,none,some 5] (by kernel_rfl) (by kernel_rfl) (by kernel_rfl) (by kernel_rfl) (by simp [slotsOf])
  (fun j b _=>j=7/\b=w.heap.size+1)
  (fun i v W=>match i with
   | 0=>v=.agg (kR d (.slice x0 d.m y0) (.slice x1 d.np y1) (.slice x2 d.nr y2) (.slice x3 d.nt y3) (.slice x4 d.nd y4) (.slice x5 d.mf y5) (.slice (some ⟨g6,0,none⟩) d.ns c6) (.slice (some ⟨g7,0,none⟩) d.nq c7))
   | 1=>v=(pt w.heap.size 0)
   | 2=>v=.agg #[.slice x0 d.m y0]
   | 3=>v=(pt w.heap.size 2)
   | 4=>v=.agg #[.slice x2 d.nr y2,.i d.bank]
   | 5=>v=.i a
   | 6=>v=.i x
   | 7=>W.heap[w.heap.size+1]?=some (.cells (kR d (.slice x0 d.m y0) (.slice x1 d.np y1) (.slice x2 d.nr y2) (.slice x3 d.nt y3) (.slice x4 d.nd y4) (.slice x5 d.mf y5) (.slice (some ⟨g6,0,none⟩) d.ns c6) (.slice (some ⟨g7,0,none⟩) d.nq c7)) 41 (0,0))
   | _=>v=.i x) ?_ ?_ ?_
 .intro i j o v W W' hij _ _ hW h
  match i,hij,h with
  | 0,_,h=>exact h
  | 1,_,h=>exact h
  | 2,_,h=>exact h
  | 3,_,h=>exact h
  | 4,_,h=>exact h
  | 5,_,h=>exact h
  | 6,_,h=>exact h
  | 7,hij,h=>exact Al h hW (fun o e=>hij e.1.symm)
  | _+8,_,h=>exact h
 .intro i o a' W K ho F L hw hK
  have t1:=F.get (t:=1) (v:=.i a) (by decide) rfl;have t2:=F.get (t:=2) (v:=(pt w.heap.size 0)) (by decide) rfl;have t4:=F.get (t:=4) (v:=(pt (w.heap.size+1) 0)) (by decide) rfl;have LW:Below (w.heap.size+1) W1 W:=L.below (by omega) (fun b o hb ⟨j,_,_,_,_,_,e⟩=>by omega);have rB:=Ab B0 LW (by omega);have rb:=Af rB
  match i with
  | 0 =>
    cases ho;refine wp_load_row _ _ rfl w.heap.size (by simpa [Act.eval] using t2) _ _ _ _ rB underlying41 rfl An ?_;exact Hk hK rfl
  | 1 =>
    cases ho;go_simp;exact Hk hK rfl
  | 2 =>
    cases ho;have q1:tv a' 16=_:=Hr hw 1;go_simp;exact Hk hK rfl
  | 3 =>
    cases ho;go_simp;exact Hk hK rfl
  | 4 =>
    cases ho;have q1:tv a' 18=_:=Hr hw 3;go_simp;exact Hk hK rfl
  | 5 =>
    cases ho;go_simp;exact Hk hK rfl
  | 6 =>
    cases ho;have p2:a'.tmps[17]?.getD undef=_:=Hr hw 2;have p4:a'.tmps[19]?.getD undef=_:=Hr hw 4;have p5:a'.tmps[20]?.getD undef=_:=Hr hw 5;go_simp;refine (HP.out W _ _ _ _ (I0.keep L (fun b o hb ⟨j,_,_,_,_,_,e⟩=>by have:=bd0 _ _ hb; omega)) (I2.keep L (fun b o hb ⟨j,_,_,_,_,_,e⟩=>by have:=bd0 _ _ hb; omega))).mono ?_;rintro e W' ⟨rfl,LX⟩;exact hK _ _ (Aa LX _) rfl
  | 7 =>
    cases ho;have p0:a'.tmps[15]?.getD undef=_:=Hr hw 0;have rB1:=Al B1 L (fun o ⟨j,_,hj,_,_,e,_⟩=>hj e);refine wp_store_row _ _ _ rfl (w.heap.size+1) (kR d (.slice x0 d.m y0) (.slice x1 d.np y1) (.slice x2 d.nr y2) (.slice x3 d.nt y3) (.slice x4 d.nd y4) (.slice x5 d.mf y5) (.slice (some ⟨g6,0,none⟩) d.ns c6) (.slice (some ⟨g7,0,none⟩) d.nq c7)) (by simpa [Act.eval] using t4) (by simpa [Act.eval] using p0) _ _ rB1 An rfl (by first | kernel_rfl | simp [Value.oneCell']) ?_;exact hK undef _ ((As rB1 _).mono (fun b o _ h=>⟨rfl,h⟩)) (setRow_heap _ _ _ _ _ _ rB1)
  | 8 =>
    cases ho;have p6:a'.tmps[21]?.getD undef=_:=Hr hw 6;go_simp;exact Hk hK rfl
  | _+9=>simp at ho
 .intro a' W F L hφ
  have p7:W.heap[w.heap.size+1]?=some (.cells (kR d (.slice x0 d.m y0) (.slice x1 d.np y1) (.slice x2 d.nr y2) (.slice x3 d.nt y3) (.slice x4 d.nd y4) (.slice x5 d.mf y5) (.slice (some ⟨g6,0,none⟩) d.ns c6) (.slice (some ⟨g7,0,none⟩) d.nq c7)) 41 (0,0)):=Hd hφ 7;have p8:a'.tmps[5]?.getD undef=_:=Hd hφ 8;have HF:=Ac (HQ.keepD L (fun i b o h ⟨j,_,e⟩=>by have:=bd0 _ _ h; omega) (fun o ⟨j,_,e⟩=>by omega) (fun o ⟨j,_,e⟩=>by omega));have HX:=Ac (A9.nx (E:=D) (w:=w) HF.out (fun i b h=>by first | exact Or.inl ⟨_,h⟩ | (rcases h with ⟨-,h1,h2⟩ | ⟨-,h⟩; (exact Or.inr (by omega)); (exact Or.inl ⟨_,h⟩)) | (rcases h with ⟨-,rfl⟩ | ⟨-,h⟩; (exact hn9); (exact Or.inl ⟨_,h⟩)) | (rcases h with ⟨-,rfl⟩ | ⟨-,⟨-,h1,h2⟩ | ⟨-,h⟩⟩; (exact hn9); (exact Or.inr (by omega)); (exact Or.inl ⟨_,h⟩))))
  have KF:=Ac (Eg.below (L0.trans (L.below L0.size (fun b o hb ⟨j,_,e⟩=>by omega))));have LF:=Ac ((L0.trans (L.below L0.size (fun b o hb ⟨j,_,e⟩=>by omega))).mono hlo);rw [F.same,show slotsOf [some 15,some 16,some 17,some 18,some 19,some 20,some 21,none,some 5]=[15,16,17,18,19,20,21,5] from rfl];simp only [List.foldl_cons,List.foldl_nil];rw [p8];generalize a'.tmps[15]?.getD undef=s15;generalize a'.tmps[16]?.getD undef=s16;generalize a'.tmps[17]?.getD undef=s17;generalize a'.tmps[18]?.getD undef=s18;generalize a'.tmps[19]?.getD undef=s19;generalize a'.tmps[20]?.getD undef=s20;generalize a'.tmps[21]?.getD undef=s21;clear hφ L F p8 HQ L0 B0 B1 I0 I2;refine hK2 _ _ ?_;go_simp;go_wp2
  refine bodyPost_ret (v:=.tuple #[.agg (kR d (.slice x0 d.m y0) (.slice x1 d.np y1) (.slice x2 d.nr y2) (.slice x3 d.nt y3) (.slice x4 d.nd y4) (.slice x5 d.mf y5) (.slice (some ⟨g6,0,none⟩) d.ns c6) (.slice (some ⟨g7,0,none⟩) d.nq c7)),.i x]) (A2 results91 _ _ (w.heap.size+1) _ _ _ _ rfl p7 underlying41 rfl An) rfl ?_;exact ⟨_,rfl,HX.out,LF.out,KF.out⟩
end Go.Proofs.YtijljlnooibbmaaGreatDoor
