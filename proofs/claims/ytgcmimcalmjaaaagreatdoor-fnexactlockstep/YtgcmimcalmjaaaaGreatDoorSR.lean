import Derived.Test.YtgcmimcalmjaaaaGreatDoorKR
import Derived.Test.YtgcmimcalmjaaaaGreatDoorKIb
namespace Go.Proofs.YtgcmimcalmjaaaaGreatDoor
set_option maxHeartbeats 8000000
set_option maxRecDepth 40000
set_option linter.unusedVariables false
set_option linter.unusedSimpArgs false
open Go.ChangeShapes Go.WideShapes Go.ChangeAt Go.RowKit
def Dv (w W:World):Prop:=w.heap.size≤W.heap.size∧∀ (b:Nat) (cs:Array Value) (t:TypeId),w.heap[b]?=some (Obj.cells cs t (0,0))→t≠3→t≠25→W.heap[b]?=some (Obj.cells cs t (0,0))
theorem Dv.below {w W:World} (L:Below w.heap.size w W):Dv w W:=⟨L.size,fun b cs t h _ _=>Aa h L (Ac h)⟩
theorem Dv.trans {w V W:World} (H:Dv w V) (K:Dv V W):Dv w W:=⟨Nat.le_trans H.1 K.1,fun b cs t h h3 hI=>K.2 b cs t (H.2 b cs t h h3 hI) h3 hI⟩
theorem Dv.wrote {R:Nat→Nat→Prop} {w W W':World} (H:Dv w W) (hw:Wrote R W W') (hn:∀ b o,b<w.heap.size→R b o→∃ cur,W.heap[b]?=some (.cells cur 3 (0,0))∨W.heap[b]?=some (.cells cur 25 (0,0))):Dv w W' :=
 ⟨by have:=hw.size; have:=H.1; omega,fun b cs t h h3 hI=>by
  have hb:=Ac h;have hW:=H.2 b cs t h h3 hI;refine Ah hW hw (fun o e=>?_);obtain ⟨cur,h' | h'⟩:=hn b o hb e
  ·rw [hW] at h'
   injection h' with h'
   injection h' with _ ht _
   exact h3 ht
  ·rw [hW] at h'
   injection h' with h'
   injection h' with _ ht _
   exact hI ht⟩
theorem Row.cur {W:World} {lo g n c:Nat} {f:Nat→Int} (h:Row W lo g n c f):∃ cur,W.heap[g]?=some (.cells cur 3 (0,0)):=by
 obtain ⟨-,-,-,cur,hc⟩:=h.parts;exact ⟨cur,hc⟩
theorem SG.cur {W:World} {lo q:Nat} {ov:Value} {gb cp ln:Nat→Nat} {f:Nat→Nat→Int} (H:SG W lo ov q gb cp ln f) {b:Nat} (e:ov.ownBlock=some b):∃ cur,W.heap[b]?=some (.cells cur 25 (0,0)):=by
 rcases H.own.2 with ⟨e',_⟩ | ⟨g0,c0,cur0,hv,hb,hg,_⟩
 ·rw [e'] at e; cases e
 ·rw [hv] at e
  obtain rfl:g0=_:=by simpa [Value.ownBlock] using e
  exact ⟨_,hg⟩
def Ez (W:World) (lo:Nat) (D:Nat→Nat→Prop) (v:Value) (d:Aq):Prop:=∃ (u0 u1 u2 u3 u4 ov:Value) (gb cp:Nat→Nat) (g6 c6 g7 c7:Nat),v=.agg (kR d u0 u1 u2 u3 u4 ov (.slice (some ⟨g6,0,none⟩) d.ns c6) (.slice (some ⟨g7,0,none⟩) d.nq c7))∧A3 W lo W.heap.size D u0 u1 u2 u3 u4 ov gb cp g6 c6 g7 c7 d
def Sg (w:World) (D D':Nat→Nat→Prop):Prop:=∀ i b,D' i b→(∃ j,D j b)∨w.heap.size≤b
theorem Sg.trans {w V:World} {D E F:Nat→Nat→Prop} (H:Sg w D E) (K:Sg V E F) (h:w.heap.size≤V.heap.size):Sg w D F:=fun i b e=>by
 rcases K i b e with ⟨j,e'⟩ | e'
 ·exact H j b e'
 ·exact Or.inr (Nat.le_trans h e')
section
variable {w W:World} {lo N:Nat} {D E:Nat→Nat→Prop} {u0 u1 u2 u3 u4 ov v:Value} {gb cp:Nat→Nat} {g6 c6 g7 c7:Nat} {d:Aq}
theorem A3.up (H:A3 W lo N D u0 u1 u2 u3 u4 ov gb cp g6 c6 g7 c7 d):A3 W lo W.heap.size D u0 u1 u2 u3 u4 ov gb cp g6 c6 g7 c7 d :=
 ⟨H.h0,H.h1,H.h2,H.h3,H.h4,H.h4D,H.h6,H.h6D,H.h7,H.h7D,H.dis,fun i b h=>⟨(H.bd i b h).1,Nat.lt_of_lt_of_le (H.bd i b h).2 H.nN⟩,Nat.lt_of_lt_of_le H.n6 H.nN,Nat.lt_of_lt_of_le H.n7 H.nN,Nat.le_refl _,H.hps⟩
theorem A3.x (H:A3 W lo N D u0 u1 u2 u3 u4 ov gb cp g6 c6 g7 c7 d):Ez W lo D (.agg (kR d u0 u1 u2 u3 u4 ov (.slice (some ⟨g6,0,none⟩) d.ns c6) (.slice (some ⟨g7,0,none⟩) d.nq c7))) d:=⟨u0,u1,u2,u3,u4,ov,gb,cp,g6,c6,g7,c7,rfl,H.up⟩
def Hm (w W:World) (lo:Nat) (D:Nat→Nat→Prop) (v:Value) (d:Aq):Prop:=∃ D',Ez W lo D' v d∧Sg w D D'
theorem A3.nx (H:A3 W lo N D u0 u1 u2 u3 u4 ov gb cp g6 c6 g7 c7 d) (hn:Sg w E D):Hm w W lo E (.agg (kR d u0 u1 u2 u3 u4 ov (.slice (some ⟨g6,0,none⟩) d.ns c6) (.slice (some ⟨g7,0,none⟩) d.nq c7))) d:=⟨D,H.x,hn⟩
theorem Ez.ow (H:Ez W lo D v d):Dm W lo v d:=by
 obtain ⟨u0,u1,u2,u3,u4,ov,gb,cp,g6,c6,g7,c7,rfl,H⟩:=H;exact H.ow
theorem Ez.of (H:Dm W lo v d):∃ D,Ez W lo D v d:=by
 obtain ⟨D,u0,u1,u2,u3,u4,ov,gb,cp,g6,c6,g7,c7,e,H⟩:=A3.of H;exact ⟨D,u0,u1,u2,u3,u4,ov,gb,cp,g6,c6,g7,c7,e,H.up⟩
end
theorem Z6 (w:World) (lo:Nat) (D:Nat→Nat→Prop) (v:Value) (d:Aq) (a:Int) (H:Ez w lo D v d) (hlo:lo≤w.heap.size) (hok:Cd d=true) (hnq:d.nq<1048576):Calls Tryz.prog 89 #[v,.i a] w fun e w'=>∃ v',e=.returned (.tuple #[v',.i (Do d a)])∧Hm w w' lo D v' (Cn d a)∧Below lo w w'∧Dv w w':=by
 obtain ⟨okp,okm,oku,oka,oks⟩:=Eg hok;obtain ⟨u0,u1,u2,u3,u4,ov,gb,cp,g6,c6,g7,c7,rfl,HP0⟩:=H;obtain ⟨x0,y0,rfl⟩:=HP0.h0.form;obtain ⟨x1,y1,rfl⟩:=HP0.h1.two;obtain ⟨x2,y2,e2⟩:=HP0.h2.two;simp only [Value.agg.injEq,Array.mk.injEq,List.cons.injEq,and_true] at e2;subst e2;obtain ⟨x3,y3,x4,y4,e3⟩:=HP0.h3.two;simp only [Value.agg.injEq,Array.mk.injEq,List.cons.injEq,and_true,true_and] at e3;obtain ⟨rfl,rfl⟩:=e3;obtain ⟨x5,y5,rfl⟩:=HP0.h4.form;have L0:Below w.heap.size w ((w.alloc (.cells (kR d (.slice x0 d.m y0) (.slice x1 d.np y1) (.slice x2 d.nr y2) (.slice x3 d.nt y3) (.slice x4 d.nd y4) (.slice x5 d.mf y5) (.slice (some ⟨g6,0,none⟩) d.ns c6) (.slice (some ⟨g7,0,none⟩) d.nq c7)) 49)).alloc (.cells zR 49)):=((Below.refl _ _).alloc (Nat.le_refl _) _).alloc (by simp) _
 have B0:((w.alloc (.cells (kR d (.slice x0 d.m y0) (.slice x1 d.np y1) (.slice x2 d.nr y2) (.slice x3 d.nt y3) (.slice x4 d.nd y4) (.slice x5 d.mf y5) (.slice (some ⟨g6,0,none⟩) d.ns c6) (.slice (some ⟨g7,0,none⟩) d.nq c7)) 49)).alloc (.cells zR 49)).heap[w.heap.size]?=some (.cells (kR d (.slice x0 d.m y0) (.slice x1 d.np y1) (.slice x2 d.nr y2) (.slice x3 d.nt y3) (.slice x4 d.nd y4) (.slice x5 d.mf y5) (.slice (some ⟨g6,0,none⟩) d.ns c6) (.slice (some ⟨g7,0,none⟩) d.nq c7)) 49 (0,0)):=Ax (Al w _ _) _
 have B1:((w.alloc (.cells (kR d (.slice x0 d.m y0) (.slice x1 d.np y1) (.slice x2 d.nr y2) (.slice x3 d.nt y3) (.slice x4 d.nd y4) (.slice x5 d.mf y5) (.slice (some ⟨g6,0,none⟩) d.ns c6) (.slice (some ⟨g7,0,none⟩) d.nq c7)) 49)).alloc (.cells zR 49)).heap[w.heap.size+1]?=some (.cells zR 49 (0,0)):=by simpa using Al (w.alloc (.cells (kR d (.slice x0 d.m y0) (.slice x1 d.np y1) (.slice x2 d.nr y2) (.slice x3 d.nt y3) (.slice x4 d.nd y4) (.slice x5 d.mf y5) (.slice (some ⟨g6,0,none⟩) d.ns c6) (.slice (some ⟨g7,0,none⟩) d.nq c7)) 49)) zR 49
 have HQ:=HP0.below L0;have bd0:=HP0.bd;have n60:=HP0.n6;have n70:=HP0.n7;clear HP0
 obtain ⟨rg,hrg⟩:∃ x,Hid (x=rgN (a%65536)):=⟨_,rfl⟩
 obtain ⟨at',hat⟩:∃ x,Hid (x=rgP (a%65536)):=⟨_,rfl⟩
 have HG:=Ad (fun W=>Hb W a);rw [← hrg.out,← hat.out] at HG
 by_cases r2:rg=2
 ·have HV:Hid (Do d a=Oo true at' d.bl d.ad d.tb∧Cn d a={ d with ad:=Mb true at' d.ad,bl:=Om true at' d.bl,nq:=d.nq+1,rd:=snoc d.rd d.nq (Oo true at' d.bl d.ad d.tb) }):=by
   have e:rgN (a%65536)=2:=by rw [← hrg.out]; exact r2
   show _∧_
   unfold Cn Do;simp only [e,if_true];rw [← hat.out];exact ⟨rfl,rfl⟩
  rw [HV.out.1,HV.out.2];subst r2;clear HV hrg
  obtain ⟨x,hx⟩:∃ x,Hid (x=Oo true at' d.bl d.ad d.tb):=⟨_,rfl⟩
  obtain ⟨ad',had⟩:∃ x,Hid (x=Mb true at' d.ad):=⟨_,rfl⟩
  obtain ⟨bl',hbl⟩:∃ x,Hid (x=Om true at' d.bl):=⟨_,rfl⟩
  have HP:=Ad (fun W E v h=>Nx W E v d.t d.c d.s d.ad d.pl d.bl d.nt d.tb d.nd d.dt h at');rw [oku,← hx.out,← had.out,← hbl.out] at HP;rw [← hx.out,← had.out,← hbl.out];clear hx had hbl hat
  go_enter Tryz.func89,Tryz.ntmps89
  go_wp2_with fail;generalize (w.alloc (.cells (kR d (.slice x0 d.m y0) (.slice x1 d.np y1) (.slice x2 d.nr y2) (.slice x3 d.nt y3) (.slice x4 d.nd y4) (.slice x5 d.mf y5) (.slice (some ⟨g6,0,none⟩) d.ns c6) (.slice (some ⟨g7,0,none⟩) d.nq c7)) 49)).alloc (.cells zR 49)=W0 at *;refine (HG.out _).mono ?_;rintro e W1 ⟨rfl,rfl⟩;have c0':=Ag B0;go_wp2_with fail;clear c0';refine (HP.out _ _ _ HQ.h3).mono ?_;rintro e W2 ⟨v',rfl,P3,L⟩;clear HP;obtain ⟨x3',y3',x4',y4',rfl⟩:=P3.two;replace P3:=P3.mono (E:=fun b=>W1.heap.size≤b∧b<W2.heap.size) (fun b hb h=>⟨h,hb⟩);have l12:=L.size;have hb1:=Ac B1;replace HQ:=HQ.below L;replace L0:=Ae L0 L;replace B0:=Aa B0 L (Ac B0);replace B1:=Aa B1 L (Ac B1);replace HQ:=HQ.ppu P3 (by omega) hlo l12 (Nat.le_refl _);clear L P3;have c0':=Ag B0;have f0':=As B0
  go_upto_region 11 with (fail);clear c0' f0'
  have TT:=Wrote.setCell (b:=w.heap.size) (o:=19) (R:=fun b _=>b=w.heap.size) (Wrote.setCell (b:=w.heap.size) (o:=18) (R:=fun b _=>b=w.heap.size) (Wrote.setCell (b:=w.heap.size) (o:=17) (R:=fun b _=>b=w.heap.size) (Wrote.setCell (b:=w.heap.size) (o:=16) (R:=fun b _=>b=w.heap.size) (Wrote.setCell (b:=w.heap.size) (o:=15) (R:=fun b _=>b=w.heap.size) (Wrote.setCell (b:=w.heap.size) (o:=14) (R:=fun b _=>b=w.heap.size) (Wrote.setCell (b:=w.heap.size) (o:=13) (R:=fun b _=>b=w.heap.size) (Wrote.setCell (b:=w.heap.size) (o:=12) (R:=fun b _=>b=w.heap.size) (Wrote.refl _ W2) (fun _=>rfl) (.i d.t)) (fun _=>rfl) (.i d.c)) (fun _=>rfl) (.i d.s)) (fun _=>rfl) (.i ad')) (fun _=>rfl) (.i d.pl)) (fun _=>rfl) (.bool bl')) (fun _=>rfl) (.slice x3' d.nt y3')) (fun _=>rfl) (.slice x4' d.nd y4')
  replace B1:=Ah B1 TT (fun o (h:_=_)=>by omega);replace B0:=Af (o:=12) B0 (.i d.t);replace B0:=Af (o:=13) B0 (.i d.c);replace B0:=Af (o:=14) B0 (.i d.s);replace B0:=Af (o:=15) B0 (.i ad');replace B0:=Af (o:=16) B0 (.i d.pl);replace B0:=Af (o:=17) B0 (.bool bl');replace B0:=Af (o:=18) B0 (.slice x3' d.nt y3');replace B0:=Af (o:=19) B0 (.slice x4' d.nd y4');simp only [List.setIfInBounds_toArray,List.set_cons_succ,List.set_cons_zero] at B0;replace HQ:=HQ.keepD TT (fun i b o h (e:b=_)=>by rcases h with ⟨-,h1,h2⟩ | ⟨-,h⟩; (omega); (have:=bd0 _ _ h; omega)) (fun o (e:_=_)=>by omega) (fun o (e:_=_)=>by omega);replace L0:=L0.trans (TT.below L0.size (fun b o hb (h:b=_)=>by omega));clear TT
  generalize (((((((W2.setCell ⟨w.heap.size,12,none⟩ (.i d.t)).setCell ⟨w.heap.size,13,none⟩ (.i d.c)).setCell ⟨w.heap.size,14,none⟩ (.i d.s)).setCell ⟨w.heap.size,15,none⟩ (.i ad')).setCell ⟨w.heap.size,16,none⟩ (.i d.pl)).setCell ⟨w.heap.size,17,none⟩ (.bool bl')).setCell ⟨w.heap.size,18,none⟩ (.slice x3' d.nt y3')).setCell ⟨w.heap.size,19,none⟩ (.slice x4' d.nd y4')=W3 at *;have LA:Below W3.heap.size W3 (W3.alloc (.cells #[.i x] 3)):=(Below.refl _ _).alloc (Nat.le_refl _) _;have hE:=Ag (Al W3 #[.i x] 3) 0;have hbk:=Ac B1;have c0':=Ag (Aa B0 LA (Ac B0));have c0s:=Ag B0;have HQA:=Ad (HQ.below LA);have LXA:=Ad (Ae L0 LA);have B0A:=Ad (Aa B0 LA (Ac B0));have B1A:=Ad (Aa B1 LA (Ac B1));clear HQ L0 LA B0 B1
  go_wp2_with (at_builtin; refine Ef _ rfl _ _ rfl lo g7 d.nq c7 d.rd rfl HQA.out.h7 hnq W3.heap.size x rfl hE ?_);intro g9 c9 W9 R9 hW hat9;clear c0' c0s hE
  replace hat9:(g9=g7∧d.nq+1≤c7)∨(W3.alloc (.cells #[.i x] 3)).heap.size≤g9:=by simpa using hat9
  have hs9:(W3.alloc (.cells #[.i x] 3)).heap.size=W3.heap.size+1:=by simp
  have HQN:=HQA.out.push (by have:=HQA.out.n7; omega) hW R9 hat9;have B0:=Ah B0A.out hW (fun o ⟨e,_⟩=>by omega);have B1:=Ah B1A.out hW (fun o ⟨e,_⟩=>by omega);have KW:Dv w W9:=(Dv.below LXA.out).wrote hW (fun b o hb ⟨e,_⟩=>by subst e; exact ⟨_,Or.inl HQA.out.h7.cur.choose_spec⟩)
  have hn9:(∃ j,D j g9)∨w.heap.size≤g9:=by
   rcases hat9 with ⟨e,hc⟩ | h
   ·rw [e]
    rcases HQA.out.h7D with h | h
    ·first | exact Or.inl ⟨_,h⟩ | (rcases h with ⟨-,h1,h2⟩ | ⟨-,h⟩; (exact Or.inr (by omega)); (exact Or.inl ⟨_,h⟩))
    ·have h2:c7=0:=h.2
     exfalso
     omega
   ·exact Or.inr (by omega)
  have LW:Below lo w W9:=(LXA.out.mono hlo).trans (hW.below (Nat.le_trans hlo LXA.out.size) (fun b o hb ⟨e,_⟩=>by have:=HQA.out.h7.parts.1; omega))
  have hg9:g9≠w.heap.size∧g9≠w.heap.size+1:=by rcases hat9 with ⟨e,_⟩ | h <;> omega
  clear HQA LXA B0A B1A hW R9 hat9 hs9;have c0':=Ag B0;have f0':=As B0;go_upto_region 12 with (fail);clear c0' f0';rename_i K2 hK2;have TT:=Wrote.setCell (b:=w.heap.size) (o:=33) (R:=fun b _=>b=w.heap.size∨b=w.heap.size+1) (Wrote.refl _ W9) (fun _=>Or.inl rfl) (.slice (some ⟨g9,0,none⟩) (d.nq+1) c9);replace B1:=Ah B1 (Wrote.setCell (b:=w.heap.size) (o:=33) (R:=fun b _=>b=w.heap.size) (Wrote.refl _ W9) (fun _=>rfl) (.slice (some ⟨g9,0,none⟩) (d.nq+1) c9)) (fun o (h:_=_)=>by omega);replace B0:=Af (o:=33) B0 (.slice (some ⟨g9,0,none⟩) (d.nq+1) c9);simp only [List.setIfInBounds_toArray,List.set_cons_succ,List.set_cons_zero] at B0;generalize W9.setCell ⟨w.heap.size,33,none⟩ (.slice (some ⟨g9,0,none⟩) (d.nq+1) c9)=W10 at *;refine wp_region_lit ?_
  refine wpList_load_row rfl _ _ rfl w.heap.size rfl _ _ _ _ B0 Tryz.underlying49 rfl Ao ?_;refine wpList_plain rfl (fun K3 hK3=>?_);go_simp;refine hK3 _ _ ?_;clear hK3;refine wpList_store_row rfl _ _ _ rfl (w.heap.size+1) _ rfl rfl _ _ B1 Ao rfl (by first | kernel_rfl | simp [Value.oneCell']) ?_;have B3:=setRow_heap _ _ _ (kR { d with ad:=ad',bl:=bl' } (.slice x0 d.m y0) (.slice x1 d.np y1) (.slice x2 d.nr y2) (.slice x3' d.nt y3') (.slice x4' d.nd y4') (.slice x5 d.mf y5) (.slice (some ⟨g6,0,none⟩) d.ns c6) (.slice (some ⟨g9,0,none⟩) (d.nq+1) c9)) _ _ B1
  have WW:=(Au B1 (kR { d with ad:=ad',bl:=bl' } (.slice x0 d.m y0) (.slice x1 d.np y1) (.slice x2 d.nr y2) (.slice x3' d.nt y3') (.slice x4' d.nd y4') (.slice x5 d.mf y5) (.slice (some ⟨g6,0,none⟩) d.ns c6) (.slice (some ⟨g9,0,none⟩) (d.nq+1) c9))).mono (S:=fun b _=>b=w.heap.size∨b=w.heap.size+1) (fun b o _ h=>Or.inr h);generalize W10.setRow (w.heap.size+1) (kR { d with ad:=ad',bl:=bl' } (.slice x0 d.m y0) (.slice x1 d.np y1) (.slice x2 d.nr y2) (.slice x3' d.nt y3') (.slice x4' d.nd y4') (.slice x5 d.mf y5) (.slice (some ⟨g6,0,none⟩) d.ns c6) (.slice (some ⟨g9,0,none⟩) (d.nq+1) c9))=W11 at *;refine wpList_plain rfl (fun K4 hK4=>?_);go_simp;refine hK4 _ _ ?_;clear hK4;refine hK2 _ _ ?_
  have HF:=Ad (HQN.keepD (TT.trans WW) (fun i b o h e=>by rcases h with ⟨-,rfl⟩ | ⟨-,⟨-,h1,h2⟩ | ⟨-,h⟩⟩; (omega); (omega); (have:=bd0 _ _ h; omega)) (fun o e=>by omega) (fun o e=>by omega));have HX:=Ad (A3.nx (E:=D) (w:=w) HF.out (fun i b h=>by first | exact Or.inl ⟨_,h⟩ | (rcases h with ⟨-,h1,h2⟩ | ⟨-,h⟩; (exact Or.inr (by omega)); (exact Or.inl ⟨_,h⟩)) | (rcases h with ⟨-,rfl⟩ | ⟨-,h⟩; (exact hn9); (exact Or.inl ⟨_,h⟩)) | (rcases h with ⟨-,rfl⟩ | ⟨-,⟨-,h1,h2⟩ | ⟨-,h⟩⟩; (exact hn9); (exact Or.inr (by omega)); (exact Or.inl ⟨_,h⟩))));have KF:=Ad (KW.wrote (TT.trans WW) (fun b o hb e=>by exfalso; omega));have LF:=Ad (LW.trans ((TT.trans WW).below (Nat.le_trans hlo LW.size) (fun b o hb e=>by omega)));clear HQN TT WW B0 B1 LW KW HF;go_wp2
  refine bodyPost_ret (v:=.tuple #[.agg (kR { d with ad:=ad',bl:=bl' } (.slice x0 d.m y0) (.slice x1 d.np y1) (.slice x2 d.nr y2) (.slice x3' d.nt y3') (.slice x4' d.nd y4') (.slice x5 d.mf y5) (.slice (some ⟨g6,0,none⟩) d.ns c6) (.slice (some ⟨g9,0,none⟩) (d.nq+1) c9)),.i x]) (A9 Tryz.results89 _ _ (w.heap.size+1) _ _ _ _ rfl B3 Tryz.underlying49 rfl Ao) rfl ?_;exact ⟨_,rfl,HX.out,LF.out,KF.out⟩
 by_cases r3:rg=3
 ·have HV:Hid (Do d a=Tj true d.L d.R at'∧Cn d a={ d with R:=Wr true d.R at',nq:=d.nq+1,rd:=snoc d.rd d.nq (Tj true d.L d.R at') }):=by
   have e:rgN (a%65536)=3:=by rw [← hrg.out]; exact r3
   show _∧_
   unfold Cn Do;simp only [e,if_true,show ¬ ((3:Int)=2) by decide,if_false]
   first | (rw [← hat.out]; exact ⟨rfl,rfl⟩) | exact ⟨rfl,rfl⟩ | exact ⟨trivial,rfl⟩ | exact ⟨trivial,trivial⟩ | trivial
  rw [HV.out.1,HV.out.2];subst r3;clear HV hrg
  obtain ⟨x,hx⟩:∃ x,Hid (x=Tj true d.L d.R at'):=⟨_,rfl⟩
  obtain ⟨r',hr'⟩:∃ x,Hid (x=Wr true d.R at'):=⟨_,rfl⟩
  have HP:=Ad (fun W (_:A3 W lo w.heap.size D (.slice x0 d.m y0) (.slice x1 d.np y1) (.slice x2 d.nr y2) (.slice x3 d.nt y3) (.slice x4 d.nd y4) (.slice x5 d.mf y5) gb cp g6 c6 g7 c7 d) (_:Below w.heap.size w W)=>Rc W d.T d.P d.K d.B d.L d.Q d.R at');rw [oka,← hx.out,← hr'.out] at HP;rw [← hx.out,← hr'.out];clear hx hr' hat
  go_enter Tryz.func89,Tryz.ntmps89
  go_wp2_with fail;generalize (w.alloc (.cells (kR d (.slice x0 d.m y0) (.slice x1 d.np y1) (.slice x2 d.nr y2) (.slice x3 d.nt y3) (.slice x4 d.nd y4) (.slice x5 d.mf y5) (.slice (some ⟨g6,0,none⟩) d.ns c6) (.slice (some ⟨g7,0,none⟩) d.nq c7)) 49)).alloc (.cells zR 49)=W0 at *;refine (HG.out _).mono ?_;rintro e W1 ⟨rfl,rfl⟩;have c0':=Ag B0;go_wp2_with fail;clear c0';refine (HP.out _ HQ L0).mono ?_;rintro e W2 ⟨rfl,L⟩;clear HP;have hb1:=Ac B1;replace HQ:=HQ.below L;replace L0:=Ae L0 L;replace B0:=Aa B0 L (Ac B0);replace B1:=Aa B1 L (Ac B1)
  replace HQ:A3 W2 lo w.heap.size D (.slice x0 d.m y0) (.slice x1 d.np y1) (.slice x2 d.nr y2) (.slice x3 d.nt y3) (.slice x4 d.nd y4) (.slice x5 d.mf y5) gb cp g6 c6 g7 c7 { d with R:=r' }:=⟨HQ.h0,HQ.h1,HQ.h2,HQ.h3,HQ.h4,HQ.h4D,HQ.h6,HQ.h6D,HQ.h7,HQ.h7D,HQ.dis,HQ.bd,HQ.n6,HQ.n7,HQ.nN,HQ.hps⟩
  clear L;have c0':=Ag B0;have f0':=As B0;go_upto_region 11 with (fail);clear c0' f0';have TT:=Wrote.setCell (b:=w.heap.size) (o:=26) (R:=fun b _=>b=w.heap.size) (Wrote.setCell (b:=w.heap.size) (o:=25) (R:=fun b _=>b=w.heap.size) (Wrote.setCell (b:=w.heap.size) (o:=24) (R:=fun b _=>b=w.heap.size) (Wrote.setCell (b:=w.heap.size) (o:=23) (R:=fun b _=>b=w.heap.size) (Wrote.setCell (b:=w.heap.size) (o:=22) (R:=fun b _=>b=w.heap.size) (Wrote.setCell (b:=w.heap.size) (o:=21) (R:=fun b _=>b=w.heap.size) (Wrote.setCell (b:=w.heap.size) (o:=20) (R:=fun b _=>b=w.heap.size) (Wrote.refl _ W2) (fun _=>rfl) (.i d.T)) (fun _=>rfl) (.i d.P)) (fun _=>rfl) (.i d.K)) (fun _=>rfl) (.i d.B)) (fun _=>rfl) (.i d.L)) (fun _=>rfl) (.bool d.Q)) (fun _=>rfl) (.bool r')
  replace B1:=Ah B1 TT (fun o (h:_=_)=>by omega);replace B0:=Af (o:=20) B0 (.i d.T);replace B0:=Af (o:=21) B0 (.i d.P);replace B0:=Af (o:=22) B0 (.i d.K);replace B0:=Af (o:=23) B0 (.i d.B);replace B0:=Af (o:=24) B0 (.i d.L);replace B0:=Af (o:=25) B0 (.bool d.Q);replace B0:=Af (o:=26) B0 (.bool r');simp only [List.setIfInBounds_toArray,List.set_cons_succ,List.set_cons_zero] at B0;replace HQ:=HQ.keepD TT (fun i b o h (e:b=_)=>by have:=bd0 _ _ h; omega) (fun o (e:_=_)=>by omega) (fun o (e:_=_)=>by omega);replace L0:=L0.trans (TT.below L0.size (fun b o hb (h:b=_)=>by omega));clear TT
  generalize ((((((W2.setCell ⟨w.heap.size,20,none⟩ (.i d.T)).setCell ⟨w.heap.size,21,none⟩ (.i d.P)).setCell ⟨w.heap.size,22,none⟩ (.i d.K)).setCell ⟨w.heap.size,23,none⟩ (.i d.B)).setCell ⟨w.heap.size,24,none⟩ (.i d.L)).setCell ⟨w.heap.size,25,none⟩ (.bool d.Q)).setCell ⟨w.heap.size,26,none⟩ (.bool r')=W3 at *;have LA:Below W3.heap.size W3 (W3.alloc (.cells #[.i x] 3)):=(Below.refl _ _).alloc (Nat.le_refl _) _;have hE:=Ag (Al W3 #[.i x] 3) 0;have hbk:=Ac B1;have c0':=Ag (Aa B0 LA (Ac B0));have c0s:=Ag B0;have HQA:=Ad (HQ.below LA);have LXA:=Ad (Ae L0 LA);have B0A:=Ad (Aa B0 LA (Ac B0));have B1A:=Ad (Aa B1 LA (Ac B1));clear HQ L0 LA B0 B1;go_wp2_with (at_builtin; refine Ef _ rfl _ _ rfl lo g7 d.nq c7 d.rd rfl HQA.out.h7 hnq W3.heap.size x rfl hE ?_);intro g9 c9 W9 R9 hW hat9
  clear c0' c0s hE
  replace hat9:(g9=g7∧d.nq+1≤c7)∨(W3.alloc (.cells #[.i x] 3)).heap.size≤g9:=by simpa using hat9
  have hs9:(W3.alloc (.cells #[.i x] 3)).heap.size=W3.heap.size+1:=by simp
  have HQN:=HQA.out.push (by have:=HQA.out.n7; omega) hW R9 hat9;have B0:=Ah B0A.out hW (fun o ⟨e,_⟩=>by omega);have B1:=Ah B1A.out hW (fun o ⟨e,_⟩=>by omega);have KW:Dv w W9:=(Dv.below LXA.out).wrote hW (fun b o hb ⟨e,_⟩=>by subst e; exact ⟨_,Or.inl HQA.out.h7.cur.choose_spec⟩)
  have hn9:(∃ j,D j g9)∨w.heap.size≤g9:=by
   rcases hat9 with ⟨e,hc⟩ | h
   ·rw [e]
    rcases HQA.out.h7D with h | h
    ·first | exact Or.inl ⟨_,h⟩ | (rcases h with ⟨-,h1,h2⟩ | ⟨-,h⟩; (exact Or.inr (by omega)); (exact Or.inl ⟨_,h⟩))
    ·have h2:c7=0:=h.2
     exfalso
     omega
   ·exact Or.inr (by omega)
  have LW:Below lo w W9:=(LXA.out.mono hlo).trans (hW.below (Nat.le_trans hlo LXA.out.size) (fun b o hb ⟨e,_⟩=>by have:=HQA.out.h7.parts.1; omega))
  have hg9:g9≠w.heap.size∧g9≠w.heap.size+1:=by rcases hat9 with ⟨e,_⟩ | h <;> omega
  clear HQA LXA B0A B1A hW R9 hat9 hs9;have c0':=Ag B0;have f0':=As B0;go_upto_region 12 with (fail);clear c0' f0';rename_i K2 hK2;have TT:=Wrote.setCell (b:=w.heap.size) (o:=33) (R:=fun b _=>b=w.heap.size∨b=w.heap.size+1) (Wrote.refl _ W9) (fun _=>Or.inl rfl) (.slice (some ⟨g9,0,none⟩) (d.nq+1) c9);replace B1:=Ah B1 (Wrote.setCell (b:=w.heap.size) (o:=33) (R:=fun b _=>b=w.heap.size) (Wrote.refl _ W9) (fun _=>rfl) (.slice (some ⟨g9,0,none⟩) (d.nq+1) c9)) (fun o (h:_=_)=>by omega);replace B0:=Af (o:=33) B0 (.slice (some ⟨g9,0,none⟩) (d.nq+1) c9);simp only [List.setIfInBounds_toArray,List.set_cons_succ,List.set_cons_zero] at B0;generalize W9.setCell ⟨w.heap.size,33,none⟩ (.slice (some ⟨g9,0,none⟩) (d.nq+1) c9)=W10 at *;refine wp_region_lit ?_
  refine wpList_load_row rfl _ _ rfl w.heap.size rfl _ _ _ _ B0 Tryz.underlying49 rfl Ao ?_;refine wpList_plain rfl (fun K3 hK3=>?_);go_simp;refine hK3 _ _ ?_;clear hK3;refine wpList_store_row rfl _ _ _ rfl (w.heap.size+1) _ rfl rfl _ _ B1 Ao rfl (by first | kernel_rfl | simp [Value.oneCell']) ?_;have B3:=setRow_heap _ _ _ (kR { d with R:=r' } (.slice x0 d.m y0) (.slice x1 d.np y1) (.slice x2 d.nr y2) (.slice x3 d.nt y3) (.slice x4 d.nd y4) (.slice x5 d.mf y5) (.slice (some ⟨g6,0,none⟩) d.ns c6) (.slice (some ⟨g9,0,none⟩) (d.nq+1) c9)) _ _ B1
  have WW:=(Au B1 (kR { d with R:=r' } (.slice x0 d.m y0) (.slice x1 d.np y1) (.slice x2 d.nr y2) (.slice x3 d.nt y3) (.slice x4 d.nd y4) (.slice x5 d.mf y5) (.slice (some ⟨g6,0,none⟩) d.ns c6) (.slice (some ⟨g9,0,none⟩) (d.nq+1) c9))).mono (S:=fun b _=>b=w.heap.size∨b=w.heap.size+1) (fun b o _ h=>Or.inr h);generalize W10.setRow (w.heap.size+1) (kR { d with R:=r' } (.slice x0 d.m y0) (.slice x1 d.np y1) (.slice x2 d.nr y2) (.slice x3 d.nt y3) (.slice x4 d.nd y4) (.slice x5 d.mf y5) (.slice (some ⟨g6,0,none⟩) d.ns c6) (.slice (some ⟨g9,0,none⟩) (d.nq+1) c9))=W11 at *;refine wpList_plain rfl (fun K4 hK4=>?_);go_simp;refine hK4 _ _ ?_;clear hK4;refine hK2 _ _ ?_;have HF:=Ad (HQN.keepD (TT.trans WW) (fun i b o h e=>by rcases h with ⟨-,rfl⟩ | ⟨-,h⟩; (omega); (have:=bd0 _ _ h; omega)) (fun o e=>by omega) (fun o e=>by omega))
  have HX:=Ad (A3.nx (E:=D) (w:=w) HF.out (fun i b h=>by first | exact Or.inl ⟨_,h⟩ | (rcases h with ⟨-,h1,h2⟩ | ⟨-,h⟩; (exact Or.inr (by omega)); (exact Or.inl ⟨_,h⟩)) | (rcases h with ⟨-,rfl⟩ | ⟨-,h⟩; (exact hn9); (exact Or.inl ⟨_,h⟩)) | (rcases h with ⟨-,rfl⟩ | ⟨-,⟨-,h1,h2⟩ | ⟨-,h⟩⟩; (exact hn9); (exact Or.inr (by omega)); (exact Or.inl ⟨_,h⟩))));have KF:=Ad (KW.wrote (TT.trans WW) (fun b o hb e=>by exfalso; omega));have LF:=Ad (LW.trans ((TT.trans WW).below (Nat.le_trans hlo LW.size) (fun b o hb e=>by omega)));clear HQN TT WW B0 B1 LW KW HF;go_wp2
  refine bodyPost_ret (v:=.tuple #[.agg (kR { d with R:=r' } (.slice x0 d.m y0) (.slice x1 d.np y1) (.slice x2 d.nr y2) (.slice x3 d.nt y3) (.slice x4 d.nd y4) (.slice x5 d.mf y5) (.slice (some ⟨g6,0,none⟩) d.ns c6) (.slice (some ⟨g9,0,none⟩) (d.nq+1) c9)),.i x]) (A9 Tryz.results89 _ _ (w.heap.size+1) _ _ _ _ rfl B3 Tryz.underlying49 rfl Ao) rfl ?_;exact ⟨_,rfl,HX.out,LF.out,KF.out⟩
 by_cases r4:rg=4
 ·have HV:Hid (Do d a=Ig d.hd d.sh d.np d.p d.t∧Cn d a={ d with sh:=Ea d.hd d.sh d.np d.p d.t,nq:=d.nq+1,rd:=snoc d.rd d.nq (Ig d.hd d.sh d.np d.p d.t) }):=by
   have e:rgN (a%65536)=4:=by rw [← hrg.out]; exact r4
   show _∧_
   unfold Cn Do;simp only [e,if_true,show ¬ ((4:Int)=2) by decide,if_false,show ¬ ((4:Int)=3) by decide,if_false]
   first | (rw [← hat.out]; exact ⟨rfl,rfl⟩) | exact ⟨rfl,rfl⟩ | exact ⟨trivial,rfl⟩ | exact ⟨trivial,trivial⟩ | trivial
  rw [HV.out.1,HV.out.2];subst r4;clear HV hrg
  obtain ⟨x,hx⟩:∃ x,Hid (x=Ig d.hd d.sh d.np d.p d.t):=⟨_,rfl⟩
  obtain ⟨s',hs'⟩:∃ x,Hid (x=Ea d.hd d.sh d.np d.p d.t):=⟨_,rfl⟩
  have HP:=Ad (fun W (h:A3 W lo w.heap.size D (.slice x0 d.m y0) (.slice x1 d.np y1) (.slice x2 d.nr y2) (.slice x3 d.nt y3) (.slice x4 d.nd y4) (.slice x5 d.mf y5) gb cp g6 c6 g7 c7 d) (_:Below w.heap.size w W)=>Ri W (On (D 1)) d.hd d.sh (.slice x1 d.np y1) d.np d.p d.t (by have:=(Ec oku).2; omega) (by obtain ⟨aa,cc,e,hs⟩:=h.h1; rw [e]; exact hs.ints cc));rw [← hx.out,← hs'.out] at HP;rw [← hx.out,← hs'.out];clear hx hs' hat
  go_enter Tryz.func89,Tryz.ntmps89
  go_wp2_with fail;generalize (w.alloc (.cells (kR d (.slice x0 d.m y0) (.slice x1 d.np y1) (.slice x2 d.nr y2) (.slice x3 d.nt y3) (.slice x4 d.nd y4) (.slice x5 d.mf y5) (.slice (some ⟨g6,0,none⟩) d.ns c6) (.slice (some ⟨g7,0,none⟩) d.nq c7)) 49)).alloc (.cells zR 49)=W0 at *;refine (HG.out _).mono ?_;rintro e W1 ⟨rfl,rfl⟩;have c0':=Ag B0;go_wp2_with fail;clear c0';refine (HP.out _ HQ L0).mono ?_;rintro e W2 ⟨rfl,L⟩;clear HP;have hb1:=Ac B1;replace HQ:=HQ.below L;replace L0:=Ae L0 L;replace B0:=Aa B0 L (Ac B0);replace B1:=Aa B1 L (Ac B1)
  replace HQ:A3 W2 lo w.heap.size D (.slice x0 d.m y0) (.slice x1 d.np y1) (.slice x2 d.nr y2) (.slice x3 d.nt y3) (.slice x4 d.nd y4) (.slice x5 d.mf y5) gb cp g6 c6 g7 c7 { d with sh:=s' }:=⟨HQ.h0,HQ.h1,HQ.h2,HQ.h3,HQ.h4,HQ.h4D,HQ.h6,HQ.h6D,HQ.h7,HQ.h7D,HQ.dis,HQ.bd,HQ.n6,HQ.n7,HQ.nN,HQ.hps⟩
  clear L;have c0':=Ag B0;have f0':=As B0;go_upto_region 11 with (fail);clear c0' f0';have TT:=Wrote.setCell (b:=w.heap.size) (o:=28) (R:=fun b _=>b=w.heap.size) (Wrote.setCell (b:=w.heap.size) (o:=27) (R:=fun b _=>b=w.heap.size) (Wrote.refl _ W2) (fun _=>rfl) (.bool d.hd)) (fun _=>rfl) (.i s');replace B1:=Ah B1 TT (fun o (h:_=_)=>by omega);replace B0:=Af (o:=27) B0 (.bool d.hd);replace B0:=Af (o:=28) B0 (.i s');simp only [List.setIfInBounds_toArray,List.set_cons_succ,List.set_cons_zero] at B0;replace HQ:=HQ.keepD TT (fun i b o h (e:b=_)=>by have:=bd0 _ _ h; omega) (fun o (e:_=_)=>by omega) (fun o (e:_=_)=>by omega);replace L0:=L0.trans (TT.below L0.size (fun b o hb (h:b=_)=>by omega));clear TT
  generalize (W2.setCell ⟨w.heap.size,27,none⟩ (.bool d.hd)).setCell ⟨w.heap.size,28,none⟩ (.i s')=W3 at *;have LA:Below W3.heap.size W3 (W3.alloc (.cells #[.i x] 3)):=(Below.refl _ _).alloc (Nat.le_refl _) _;have hE:=Ag (Al W3 #[.i x] 3) 0;have hbk:=Ac B1;have c0':=Ag (Aa B0 LA (Ac B0));have c0s:=Ag B0;have HQA:=Ad (HQ.below LA);have LXA:=Ad (Ae L0 LA);have B0A:=Ad (Aa B0 LA (Ac B0));have B1A:=Ad (Aa B1 LA (Ac B1));clear HQ L0 LA B0 B1;go_wp2_with (at_builtin; refine Ef _ rfl _ _ rfl lo g7 d.nq c7 d.rd rfl HQA.out.h7 hnq W3.heap.size x rfl hE ?_);intro g9 c9 W9 R9 hW hat9;clear c0' c0s hE
  replace hat9:(g9=g7∧d.nq+1≤c7)∨(W3.alloc (.cells #[.i x] 3)).heap.size≤g9:=by simpa using hat9
  have hs9:(W3.alloc (.cells #[.i x] 3)).heap.size=W3.heap.size+1:=by simp
  have HQN:=HQA.out.push (by have:=HQA.out.n7; omega) hW R9 hat9;have B0:=Ah B0A.out hW (fun o ⟨e,_⟩=>by omega);have B1:=Ah B1A.out hW (fun o ⟨e,_⟩=>by omega);have KW:Dv w W9:=(Dv.below LXA.out).wrote hW (fun b o hb ⟨e,_⟩=>by subst e; exact ⟨_,Or.inl HQA.out.h7.cur.choose_spec⟩)
  have hn9:(∃ j,D j g9)∨w.heap.size≤g9:=by
   rcases hat9 with ⟨e,hc⟩ | h
   ·rw [e]
    rcases HQA.out.h7D with h | h
    ·first | exact Or.inl ⟨_,h⟩ | (rcases h with ⟨-,h1,h2⟩ | ⟨-,h⟩; (exact Or.inr (by omega)); (exact Or.inl ⟨_,h⟩))
    ·have h2:c7=0:=h.2
     exfalso
     omega
   ·exact Or.inr (by omega)
  have LW:Below lo w W9:=(LXA.out.mono hlo).trans (hW.below (Nat.le_trans hlo LXA.out.size) (fun b o hb ⟨e,_⟩=>by have:=HQA.out.h7.parts.1; omega))
  have hg9:g9≠w.heap.size∧g9≠w.heap.size+1:=by rcases hat9 with ⟨e,_⟩ | h <;> omega
  clear HQA LXA B0A B1A hW R9 hat9 hs9;have c0':=Ag B0;have f0':=As B0;go_upto_region 12 with (fail);clear c0' f0';rename_i K2 hK2;have TT:=Wrote.setCell (b:=w.heap.size) (o:=33) (R:=fun b _=>b=w.heap.size∨b=w.heap.size+1) (Wrote.refl _ W9) (fun _=>Or.inl rfl) (.slice (some ⟨g9,0,none⟩) (d.nq+1) c9);replace B1:=Ah B1 (Wrote.setCell (b:=w.heap.size) (o:=33) (R:=fun b _=>b=w.heap.size) (Wrote.refl _ W9) (fun _=>rfl) (.slice (some ⟨g9,0,none⟩) (d.nq+1) c9)) (fun o (h:_=_)=>by omega);replace B0:=Af (o:=33) B0 (.slice (some ⟨g9,0,none⟩) (d.nq+1) c9);simp only [List.setIfInBounds_toArray,List.set_cons_succ,List.set_cons_zero] at B0;generalize W9.setCell ⟨w.heap.size,33,none⟩ (.slice (some ⟨g9,0,none⟩) (d.nq+1) c9)=W10 at *;refine wp_region_lit ?_
  refine wpList_load_row rfl _ _ rfl w.heap.size rfl _ _ _ _ B0 Tryz.underlying49 rfl Ao ?_;refine wpList_plain rfl (fun K3 hK3=>?_);go_simp;refine hK3 _ _ ?_;clear hK3;refine wpList_store_row rfl _ _ _ rfl (w.heap.size+1) _ rfl rfl _ _ B1 Ao rfl (by first | kernel_rfl | simp [Value.oneCell']) ?_;have B3:=setRow_heap _ _ _ (kR { d with sh:=s' } (.slice x0 d.m y0) (.slice x1 d.np y1) (.slice x2 d.nr y2) (.slice x3 d.nt y3) (.slice x4 d.nd y4) (.slice x5 d.mf y5) (.slice (some ⟨g6,0,none⟩) d.ns c6) (.slice (some ⟨g9,0,none⟩) (d.nq+1) c9)) _ _ B1
  have WW:=(Au B1 (kR { d with sh:=s' } (.slice x0 d.m y0) (.slice x1 d.np y1) (.slice x2 d.nr y2) (.slice x3 d.nt y3) (.slice x4 d.nd y4) (.slice x5 d.mf y5) (.slice (some ⟨g6,0,none⟩) d.ns c6) (.slice (some ⟨g9,0,none⟩) (d.nq+1) c9))).mono (S:=fun b _=>b=w.heap.size∨b=w.heap.size+1) (fun b o _ h=>Or.inr h);generalize W10.setRow (w.heap.size+1) (kR { d with sh:=s' } (.slice x0 d.m y0) (.slice x1 d.np y1) (.slice x2 d.nr y2) (.slice x3 d.nt y3) (.slice x4 d.nd y4) (.slice x5 d.mf y5) (.slice (some ⟨g6,0,none⟩) d.ns c6) (.slice (some ⟨g9,0,none⟩) (d.nq+1) c9))=W11 at *;refine wpList_plain rfl (fun K4 hK4=>?_);go_simp;refine hK4 _ _ ?_;clear hK4;refine hK2 _ _ ?_;have HF:=Ad (HQN.keepD (TT.trans WW) (fun i b o h e=>by rcases h with ⟨-,rfl⟩ | ⟨-,h⟩; (omega); (have:=bd0 _ _ h; omega)) (fun o e=>by omega) (fun o e=>by omega))
  have HX:=Ad (A3.nx (E:=D) (w:=w) HF.out (fun i b h=>by first | exact Or.inl ⟨_,h⟩ | (rcases h with ⟨-,h1,h2⟩ | ⟨-,h⟩; (exact Or.inr (by omega)); (exact Or.inl ⟨_,h⟩)) | (rcases h with ⟨-,rfl⟩ | ⟨-,h⟩; (exact hn9); (exact Or.inl ⟨_,h⟩)) | (rcases h with ⟨-,rfl⟩ | ⟨-,⟨-,h1,h2⟩ | ⟨-,h⟩⟩; (exact hn9); (exact Or.inr (by omega)); (exact Or.inl ⟨_,h⟩))));have KF:=Ad (KW.wrote (TT.trans WW) (fun b o hb e=>by exfalso; omega));have LF:=Ad (LW.trans ((TT.trans WW).below (Nat.le_trans hlo LW.size) (fun b o hb e=>by omega)));clear HQN TT WW B0 B1 LW KW HF;go_wp2
  refine bodyPost_ret (v:=.tuple #[.agg (kR { d with sh:=s' } (.slice x0 d.m y0) (.slice x1 d.np y1) (.slice x2 d.nr y2) (.slice x3 d.nt y3) (.slice x4 d.nd y4) (.slice x5 d.mf y5) (.slice (some ⟨g6,0,none⟩) d.ns c6) (.slice (some ⟨g9,0,none⟩) (d.nq+1) c9)),.i x]) (A9 Tryz.results89 _ _ (w.heap.size+1) _ _ _ _ rfl B3 Tryz.underlying49 rfl Ao) rfl ?_;exact ⟨_,rfl,HX.out,LF.out,KF.out⟩
 have HV:Hid (Do d a=Em d.m d.f d.g d.bank (a%65536)∧Cn d a=d):=by
  have e2:¬ rgN (a%65536)=2:=by rw [← hrg.out]; exact r2
  have e3:¬ rgN (a%65536)=3:=by rw [← hrg.out]; exact r3
  have e4:¬ rgN (a%65536)=4:=by rw [← hrg.out]; exact r4
  show _∧_
  unfold Cn Do;rw [if_neg e2,if_neg e3,if_neg e4,if_neg e2,if_neg e3,if_neg e4];exact ⟨rfl,rfl⟩
 rw [HV.out.1,HV.out.2];clear HV hrg hat;have q2:(rg==2)=false:=beq_eq_false_iff_ne.2 r2;have q3:(rg==3)=false:=beq_eq_false_iff_ne.2 r3;have q4:(rg==4)=false:=beq_eq_false_iff_ne.2 r4;clear r2 r3 r4
 obtain ⟨x,hx⟩:∃ x,Hid (x=Em d.m d.f d.g d.bank (a%65536)):=⟨_,rfl⟩
 have HP:=Ad (fun W F G v u h k=>Ys W F G v u d.m d.ln d.f d.nr d.g d.bank a h k okm);rw [← hx.out] at HP;rw [← hx.out];clear hx
 go_enter Tryz.func89,Tryz.ntmps89
 go_wp2_with fail;generalize (w.alloc (.cells (kR d (.slice x0 d.m y0) (.slice x1 d.np y1) (.slice x2 d.nr y2) (.slice x3 d.nt y3) (.slice x4 d.nd y4) (.slice x5 d.mf y5) (.slice (some ⟨g6,0,none⟩) d.ns c6) (.slice (some ⟨g7,0,none⟩) d.nq c7)) 49)).alloc (.cells zR 49)=W0 at *;refine (HG.out _).mono ?_;rintro e W1 ⟨rfl,rfl⟩;go_upto_region 4 with (fail);rename_i K2 hK2;have hb1:=Ac B1;obtain ⟨y2',hy2,I2⟩:=HQ.h2.ints;simp only [Value.agg.injEq,Array.mk.injEq,List.cons.injEq,and_true] at hy2;subst hy2;have I0:=HQ.h0.ints
 refine A8 [some 15,some 16,some 17,some 18,some 19,some 20,some 21,none,some 5] (by kernel_rfl) (by kernel_rfl) (by kernel_rfl) (by kernel_rfl) (by simp [slotsOf])
  (fun j b _=>j=7∧b=w.heap.size+1)
  (fun i v W=>match i with
   | 0=>v=.agg (kR d (.slice x0 d.m y0) (.slice x1 d.np y1) (.slice x2 d.nr y2) (.slice x3 d.nt y3) (.slice x4 d.nd y4) (.slice x5 d.mf y5) (.slice (some ⟨g6,0,none⟩) d.ns c6) (.slice (some ⟨g7,0,none⟩) d.nq c7))
   | 1=>v=(pt w.heap.size 0)
   | 2=>v=.agg #[.slice x0 d.m y0]
   | 3=>v=(pt w.heap.size 2)
   | 4=>v=.agg #[.slice x2 d.nr y2,.i d.bank]
   | 5=>v=.i a
   | 6=>v=.i x
   | 7=>W.heap[w.heap.size+1]?=some (.cells (kR d (.slice x0 d.m y0) (.slice x1 d.np y1) (.slice x2 d.nr y2) (.slice x3 d.nt y3) (.slice x4 d.nd y4) (.slice x5 d.mf y5) (.slice (some ⟨g6,0,none⟩) d.ns c6) (.slice (some ⟨g7,0,none⟩) d.nq c7)) 49 (0,0))
   | _=>v=.i x) ?_ ?_ ?_
 ·intro i j o v W W' hij _ _ hW h
  match i,hij,h with
  | 0,_,h=>exact h
  | 1,_,h=>exact h
  | 2,_,h=>exact h
  | 3,_,h=>exact h
  | 4,_,h=>exact h
  | 5,_,h=>exact h
  | 6,_,h=>exact h
  | 7,hij,h=>exact Ah h hW (fun o e=>hij e.1.symm)
  | _+8,_,h=>exact h
 ·intro i o a' W K ho F L hw hK
  have t1:=F.get (t:=1) (v:=.i a) (by decide) rfl;have t2:=F.get (t:=2) (v:=(pt w.heap.size 0)) (by decide) rfl;have t4:=F.get (t:=4) (v:=(pt (w.heap.size+1) 0)) (by decide) rfl;have LW:Below (w.heap.size+1) W1 W:=L.below (by omega) (fun b o hb ⟨j,_,_,_,_,_,e⟩=>by omega);have rB:=Aa B0 LW (by omega);have rb:=Ag rB
  match i with
  | 0 =>
    cases ho;refine wp_load_row _ _ rfl w.heap.size (by simpa [Act.eval] using t2) _ _ _ _ rB Tryz.underlying49 rfl Ao ?_;exact Hk hK rfl
  | 1 =>
    cases ho;go_simp;exact Hk hK rfl
  | 2 =>
    cases ho;have q1:tv a' 16=_:=Hr hw 1;go_simp;exact Hk hK rfl
  | 3 =>
    cases ho;go_simp;exact Hk hK rfl
  | 4 =>
    cases ho;have q1:tv a' 18=_:=Hr hw 3;go_simp;exact Hk hK rfl
  | 5 =>
    cases ho;go_simp;exact Hk hK rfl
  | 6 =>
    cases ho;have p2:a'.tmps[17]?.getD undef=_:=Hr hw 2;have p4:a'.tmps[19]?.getD undef=_:=Hr hw 4;have p5:a'.tmps[20]?.getD undef=_:=Hr hw 5;go_simp;refine (HP.out W _ _ _ _ (I0.keep L (fun b o hb ⟨j,_,_,_,_,_,e⟩=>by have:=bd0 _ _ hb; omega)) (I2.keep L (fun b o hb ⟨j,_,_,_,_,_,e⟩=>by have:=bd0 _ _ hb; omega))).mono ?_;rintro e W' ⟨rfl,LX⟩;exact hK _ _ (Ab LX _) rfl
  | 7 =>
    cases ho;have p0:a'.tmps[15]?.getD undef=_:=Hr hw 0;have rB1:=Ah B1 L (fun o ⟨j,_,hj,_,_,e,_⟩=>hj e);refine wp_store_row _ _ _ rfl (w.heap.size+1) (kR d (.slice x0 d.m y0) (.slice x1 d.np y1) (.slice x2 d.nr y2) (.slice x3 d.nt y3) (.slice x4 d.nd y4) (.slice x5 d.mf y5) (.slice (some ⟨g6,0,none⟩) d.ns c6) (.slice (some ⟨g7,0,none⟩) d.nq c7)) (by simpa [Act.eval] using t4) (by simpa [Act.eval] using p0) _ _ rB1 Ao rfl (by first | kernel_rfl | simp [Value.oneCell']) ?_;exact hK undef _ ((Au rB1 _).mono (fun b o _ h=>⟨rfl,h⟩)) (setRow_heap _ _ _ _ _ _ rB1)
  | 8 =>
    cases ho;have p6:a'.tmps[21]?.getD undef=_:=Hr hw 6;go_simp;exact Hk hK rfl
  | _+9=>simp at ho
 ·intro a' W F L hφ
  have p7:W.heap[w.heap.size+1]?=some (.cells (kR d (.slice x0 d.m y0) (.slice x1 d.np y1) (.slice x2 d.nr y2) (.slice x3 d.nt y3) (.slice x4 d.nd y4) (.slice x5 d.mf y5) (.slice (some ⟨g6,0,none⟩) d.ns c6) (.slice (some ⟨g7,0,none⟩) d.nq c7)) 49 (0,0)):=Hd hφ 7;have p8:a'.tmps[5]?.getD undef=_:=Hd hφ 8;have HF:=Ad (HQ.keepD L (fun i b o h ⟨j,_,e⟩=>by have:=bd0 _ _ h; omega) (fun o ⟨j,_,e⟩=>by omega) (fun o ⟨j,_,e⟩=>by omega));have HX:=Ad (A3.nx (E:=D) (w:=w) HF.out (fun i b h=>by first | exact Or.inl ⟨_,h⟩ | (rcases h with ⟨-,h1,h2⟩ | ⟨-,h⟩; (exact Or.inr (by omega)); (exact Or.inl ⟨_,h⟩)) | (rcases h with ⟨-,rfl⟩ | ⟨-,h⟩; (exact hn9); (exact Or.inl ⟨_,h⟩)) | (rcases h with ⟨-,rfl⟩ | ⟨-,⟨-,h1,h2⟩ | ⟨-,h⟩⟩; (exact hn9); (exact Or.inr (by omega)); (exact Or.inl ⟨_,h⟩))))
  have KF:=Ad (Dv.below (L0.trans (L.below L0.size (fun b o hb ⟨j,_,e⟩=>by omega))));have LF:=Ad ((L0.trans (L.below L0.size (fun b o hb ⟨j,_,e⟩=>by omega))).mono hlo);rw [F.same,show slotsOf [some 15,some 16,some 17,some 18,some 19,some 20,some 21,none,some 5]=[15,16,17,18,19,20,21,5] from rfl];simp only [List.foldl_cons,List.foldl_nil];rw [p8];generalize a'.tmps[15]?.getD undef=s15;generalize a'.tmps[16]?.getD undef=s16;generalize a'.tmps[17]?.getD undef=s17;generalize a'.tmps[18]?.getD undef=s18;generalize a'.tmps[19]?.getD undef=s19;generalize a'.tmps[20]?.getD undef=s20;generalize a'.tmps[21]?.getD undef=s21;clear hφ L F p8 HQ L0 B0 B1 I0 I2;refine hK2 _ _ ?_;go_simp;go_wp2
  refine bodyPost_ret (v:=.tuple #[.agg (kR d (.slice x0 d.m y0) (.slice x1 d.np y1) (.slice x2 d.nr y2) (.slice x3 d.nt y3) (.slice x4 d.nd y4) (.slice x5 d.mf y5) (.slice (some ⟨g6,0,none⟩) d.ns c6) (.slice (some ⟨g7,0,none⟩) d.nq c7)),.i x]) (A9 Tryz.results89 _ _ (w.heap.size+1) _ _ _ _ rfl p7 Tryz.underlying49 rfl Ao) rfl ?_;exact ⟨_,rfl,HX.out,LF.out,KF.out⟩
set_option maxHeartbeats 8000000
set_option maxRecDepth 40000
theorem X9 (w:World) (lo:Nat) (D:Nat→Nat→Prop) (v:Value) (d:Aq) (a y:Int) (H:Ez w lo D v d) (hlo:lo≤w.heap.size) (hok:Cd d=true):Calls Tryz.prog 90 #[v,.i a,.i y] w fun e w'=>∃ v',e=.returned v'∧Hm w w' lo D v' (Bu d a y)∧Below w.heap.size w w':=by
 obtain ⟨okp,okm,oku,oka,oks⟩:=Eg hok;obtain ⟨u0,u1,u2,u3,u4,ov,gb,cp,g6,c6,g7,c7,rfl,HP0⟩:=H;obtain ⟨x0,y0,rfl⟩:=HP0.h0.form;obtain ⟨x1,y1,rfl⟩:=HP0.h1.two;obtain ⟨x2,y2,e2⟩:=HP0.h2.two;simp only [Value.agg.injEq,Array.mk.injEq,List.cons.injEq,and_true] at e2;subst e2;obtain ⟨x3,y3,x4,y4,e3⟩:=HP0.h3.two;simp only [Value.agg.injEq,Array.mk.injEq,List.cons.injEq,and_true,true_and] at e3;obtain ⟨rfl,rfl⟩:=e3;obtain ⟨x5,y5,rfl⟩:=HP0.h4.form;have L0:Below w.heap.size w ((w.alloc (.cells (kR d (.slice x0 d.m y0) (.slice x1 d.np y1) (.slice x2 d.nr y2) (.slice x3 d.nt y3) (.slice x4 d.nd y4) (.slice x5 d.mf y5) (.slice (some ⟨g6,0,none⟩) d.ns c6) (.slice (some ⟨g7,0,none⟩) d.nq c7)) 49)).alloc (.cells zR 49)):=((Below.refl _ _).alloc (Nat.le_refl _) _).alloc (by simp) _
 have B0:((w.alloc (.cells (kR d (.slice x0 d.m y0) (.slice x1 d.np y1) (.slice x2 d.nr y2) (.slice x3 d.nt y3) (.slice x4 d.nd y4) (.slice x5 d.mf y5) (.slice (some ⟨g6,0,none⟩) d.ns c6) (.slice (some ⟨g7,0,none⟩) d.nq c7)) 49)).alloc (.cells zR 49)).heap[w.heap.size]?=some (.cells (kR d (.slice x0 d.m y0) (.slice x1 d.np y1) (.slice x2 d.nr y2) (.slice x3 d.nt y3) (.slice x4 d.nd y4) (.slice x5 d.mf y5) (.slice (some ⟨g6,0,none⟩) d.ns c6) (.slice (some ⟨g7,0,none⟩) d.nq c7)) 49 (0,0)):=Ax (Al w _ _) _
 have B1:((w.alloc (.cells (kR d (.slice x0 d.m y0) (.slice x1 d.np y1) (.slice x2 d.nr y2) (.slice x3 d.nt y3) (.slice x4 d.nd y4) (.slice x5 d.mf y5) (.slice (some ⟨g6,0,none⟩) d.ns c6) (.slice (some ⟨g7,0,none⟩) d.nq c7)) 49)).alloc (.cells zR 49)).heap[w.heap.size+1]?=some (.cells zR 49 (0,0)):=by simpa using Al (w.alloc (.cells (kR d (.slice x0 d.m y0) (.slice x1 d.np y1) (.slice x2 d.nr y2) (.slice x3 d.nt y3) (.slice x4 d.nd y4) (.slice x5 d.mf y5) (.slice (some ⟨g6,0,none⟩) d.ns c6) (.slice (some ⟨g7,0,none⟩) d.nq c7)) 49)) zR 49
 have HQ:=HP0.below L0;have bd0:=HP0.bd;have n60:=HP0.n6;have n70:=HP0.n7;clear HP0
 obtain ⟨rg,hrg⟩:∃ x,Hid (x=rgN (a%65536)):=⟨_,rfl⟩
 obtain ⟨at',hat⟩:∃ x,Hid (x=rgP (a%65536)):=⟨_,rfl⟩
 have HG:=Ad (fun W=>Hb W a);rw [← hrg.out,← hat.out] at HG
 by_cases r2:rg=2
 ·have HV:Hid (Bu d a y={ d with c:=Jg true at' y d.c,s:=Jh true at' y d.s,ad:=Ji true at' y d.ad,pl:=Jj true at' y d.pl,tb:=Kh true at' y d.ad d.tb }):=by
   have e:rgN (a%65536)=2:=by rw [← hrg.out]; exact r2
   show _=_
   unfold Bu;simp only [e,if_true]
   first | done | (rw [← hat.out]; done) | rw [← hat.out]
  rw [HV.out];subst r2;clear HV hrg
  obtain ⟨c',hc'⟩:∃ x,Hid (x=Jg true at' y d.c):=⟨_,rfl⟩
  obtain ⟨s',hs'⟩:∃ x,Hid (x=Jh true at' y d.s):=⟨_,rfl⟩
  obtain ⟨ad',had'⟩:∃ x,Hid (x=Ji true at' y d.ad):=⟨_,rfl⟩
  obtain ⟨pl',hpl'⟩:∃ x,Hid (x=Jj true at' y d.pl):=⟨_,rfl⟩
  obtain ⟨tb',htb'⟩:∃ x,Hid (x=Kh true at' y d.ad d.tb):=⟨_,rfl⟩
  have HP:=Ad (fun W E v h=>Md W E v d.t d.c d.s d.ad d.pl d.bl d.nt d.tb d.nd d.dt h at' y);rw [oku,← hc'.out,← hs'.out,← had'.out,← hpl'.out,← htb'.out] at HP;rw [← hc'.out,← hs'.out,← had'.out,← hpl'.out,← htb'.out];clear hc' hs' had' hpl' htb' hat
  go_enter Tryz.func90,Tryz.ntmps90
  go_wp2_with fail;generalize (w.alloc (.cells (kR d (.slice x0 d.m y0) (.slice x1 d.np y1) (.slice x2 d.nr y2) (.slice x3 d.nt y3) (.slice x4 d.nd y4) (.slice x5 d.mf y5) (.slice (some ⟨g6,0,none⟩) d.ns c6) (.slice (some ⟨g7,0,none⟩) d.nq c7)) 49)).alloc (.cells zR 49)=W0 at *;refine (HG.out _).mono ?_;rintro e W1 ⟨rfl,rfl⟩;have c0':=Ag B0;go_wp2_with fail;clear c0';refine (HP.out _ _ _ HQ.h3).mono ?_;rintro e W2 ⟨v',rfl,P3,L⟩;clear HP;have l12:=L.size;have hb1:=Ac B1;replace HQ:=HQ.below L;replace L0:=Ae L0 L;replace B0:=Aa B0 L (Ac B0);replace B1:=Aa B1 L (Ac B1);obtain ⟨x3',y3',x4',y4',rfl⟩:=P3.two;replace P3:=P3.mono (E:=fun b=>W1.heap.size≤b∧b<W2.heap.size) (fun b hb h=>⟨h,hb⟩);replace HQ:=HQ.ppu P3 (by omega) hlo l12 (Nat.le_refl _);clear P3;clear L;have c0':=Ag B0;have f0':=As B0
  go_upto_region 10 with (fail);clear c0' f0';rename_i K2 hK2
  have TT:=Wrote.setCell (b:=w.heap.size) (o:=19) (R:=fun b _=>b=w.heap.size) (Wrote.setCell (b:=w.heap.size) (o:=18) (R:=fun b _=>b=w.heap.size) (Wrote.setCell (b:=w.heap.size) (o:=17) (R:=fun b _=>b=w.heap.size) (Wrote.setCell (b:=w.heap.size) (o:=16) (R:=fun b _=>b=w.heap.size) (Wrote.setCell (b:=w.heap.size) (o:=15) (R:=fun b _=>b=w.heap.size) (Wrote.setCell (b:=w.heap.size) (o:=14) (R:=fun b _=>b=w.heap.size) (Wrote.setCell (b:=w.heap.size) (o:=13) (R:=fun b _=>b=w.heap.size) (Wrote.setCell (b:=w.heap.size) (o:=12) (R:=fun b _=>b=w.heap.size) (Wrote.refl _ W2) (fun _=>rfl) (.i d.t)) (fun _=>rfl) (.i c')) (fun _=>rfl) (.i s')) (fun _=>rfl) (.i ad')) (fun _=>rfl) (.i pl')) (fun _=>rfl) (.bool d.bl)) (fun _=>rfl) (.slice x3' d.nt y3')) (fun _=>rfl) (.slice x4' d.nd y4')
  replace B1:=Ah B1 TT (fun o (h:_=_)=>by omega);replace B0:=Af (o:=12) B0 (.i d.t);replace B0:=Af (o:=13) B0 (.i c');replace B0:=Af (o:=14) B0 (.i s');replace B0:=Af (o:=15) B0 (.i ad');replace B0:=Af (o:=16) B0 (.i pl');replace B0:=Af (o:=17) B0 (.bool d.bl);replace B0:=Af (o:=18) B0 (.slice x3' d.nt y3');replace B0:=Af (o:=19) B0 (.slice x4' d.nd y4');simp only [List.setIfInBounds_toArray,List.set_cons_succ,List.set_cons_zero] at B0;replace HQ:=HQ.keepD TT (fun i b o h (e:b=_)=>by rcases h with ⟨-,h1,h2⟩ | ⟨-,h⟩; (omega); (have:=bd0 _ _ h; omega)) (fun o (e:_=_)=>by omega) (fun o (e:_=_)=>by omega);replace L0:=L0.trans (TT.below L0.size (fun b o hb (h:b=_)=>by omega));clear TT
  generalize (((((((W2.setCell ⟨w.heap.size,12,none⟩ (.i d.t)).setCell ⟨w.heap.size,13,none⟩ (.i c')).setCell ⟨w.heap.size,14,none⟩ (.i s')).setCell ⟨w.heap.size,15,none⟩ (.i ad')).setCell ⟨w.heap.size,16,none⟩ (.i pl')).setCell ⟨w.heap.size,17,none⟩ (.bool d.bl)).setCell ⟨w.heap.size,18,none⟩ (.slice x3' d.nt y3')).setCell ⟨w.heap.size,19,none⟩ (.slice x4' d.nd y4')=W3 at *;refine wp_region_lit ?_;refine wpList_load_row rfl _ _ rfl w.heap.size rfl _ _ _ _ B0 Tryz.underlying49 rfl Ao ?_;refine wpList_store_row rfl _ _ _ rfl (w.heap.size+1) _ rfl rfl _ _ B1 Ao rfl (by first | kernel_rfl | simp [Value.oneCell']) ?_
  have B3:=setRow_heap _ _ _ (kR { d with c:=c',s:=s',ad:=ad',pl:=pl' } (.slice x0 d.m y0) (.slice x1 d.np y1) (.slice x2 d.nr y2) (.slice x3' d.nt y3') (.slice x4' d.nd y4') (.slice x5 d.mf y5) (.slice (some ⟨g6,0,none⟩) d.ns c6) (.slice (some ⟨g7,0,none⟩) d.nq c7)) _ _ B1;have WW:=Au B1 (kR { d with c:=c',s:=s',ad:=ad',pl:=pl' } (.slice x0 d.m y0) (.slice x1 d.np y1) (.slice x2 d.nr y2) (.slice x3' d.nt y3') (.slice x4' d.nd y4') (.slice x5 d.mf y5) (.slice (some ⟨g6,0,none⟩) d.ns c6) (.slice (some ⟨g7,0,none⟩) d.nq c7));generalize W3.setRow (w.heap.size+1) (kR { d with c:=c',s:=s',ad:=ad',pl:=pl' } (.slice x0 d.m y0) (.slice x1 d.np y1) (.slice x2 d.nr y2) (.slice x3' d.nt y3') (.slice x4' d.nd y4') (.slice x5 d.mf y5) (.slice (some ⟨g6,0,none⟩) d.ns c6) (.slice (some ⟨g7,0,none⟩) d.nq c7))=W4 at *;refine hK2 _ _ ?_
  have HF:=Ad (HQ.keepD WW (fun i b o h (e:b=_)=>by rcases h with ⟨-,h1,h2⟩ | ⟨-,h⟩; (omega); (have:=bd0 _ _ h; omega)) (fun o (e:_=_)=>by omega) (fun o (e:_=_)=>by omega));have HX:=Ad (A3.nx (E:=D) (w:=w) HF.out (fun i b h=>by first | exact Or.inl ⟨_,h⟩ | (rcases h with ⟨-,h1,h2⟩ | ⟨-,h⟩; (exact Or.inr (by omega)); (exact Or.inl ⟨_,h⟩)) | (rcases h with ⟨-,rfl⟩ | ⟨-,h⟩; (exact hn9); (exact Or.inl ⟨_,h⟩)) | (rcases h with ⟨-,rfl⟩ | ⟨-,⟨-,h1,h2⟩ | ⟨-,h⟩⟩; (exact hn9); (exact Or.inr (by omega)); (exact Or.inl ⟨_,h⟩))));have LF:=Ad ((L0.trans (WW.below L0.size (fun b o hb (e:b=_)=>by omega))));clear HQ WW B0 B1 L0;go_wp2
  refine bodyPost_ret (v:=.agg (kR { d with c:=c',s:=s',ad:=ad',pl:=pl' } (.slice x0 d.m y0) (.slice x1 d.np y1) (.slice x2 d.nr y2) (.slice x3' d.nt y3') (.slice x4' d.nd y4') (.slice x5 d.mf y5) (.slice (some ⟨g6,0,none⟩) d.ns c6) (.slice (some ⟨g7,0,none⟩) d.nq c7))) (results_cell_row Tryz.results90 _ _ (w.heap.size+1) _ _ _ _ rfl B3 Tryz.underlying49 rfl Ao) rfl ?_;exact ⟨_,rfl,HX.out,LF.out⟩
 by_cases r3:rg=3
 ·have HV:Hid (Bu d a y={ d with P:=I8 true d.P at' y,L:=I9 true d.L at' y,Q:=Ju true d.Q at' y,R:=Jv true d.R at' y }):=by
   have e:rgN (a%65536)=3:=by rw [← hrg.out]; exact r3
   show _=_
   unfold Bu;simp only [e,if_true,show ¬ ((3:Int)=2) by decide,if_false]
   first | done | (rw [← hat.out]; done) | rw [← hat.out]
  rw [HV.out];subst r3;clear HV hrg
  obtain ⟨p',hp'⟩:∃ x,Hid (x=I8 true d.P at' y):=⟨_,rfl⟩
  obtain ⟨l',hl'⟩:∃ x,Hid (x=I9 true d.L at' y):=⟨_,rfl⟩
  obtain ⟨q',hq'⟩:∃ x,Hid (x=Ju true d.Q at' y):=⟨_,rfl⟩
  obtain ⟨r',hr'⟩:∃ x,Hid (x=Jv true d.R at' y):=⟨_,rfl⟩
  have HP:=Ad (fun W (_:A3 W lo w.heap.size D (.slice x0 d.m y0) (.slice x1 d.np y1) (.slice x2 d.nr y2) (.slice x3 d.nt y3) (.slice x4 d.nd y4) (.slice x5 d.mf y5) gb cp g6 c6 g7 c7 d)=>P7 W d.T d.P d.K d.B d.L d.Q d.R at' y);rw [oka,← hp'.out,← hl'.out,← hq'.out,← hr'.out] at HP;rw [← hp'.out,← hl'.out,← hq'.out,← hr'.out];clear hp' hl' hq' hr' hat
  go_enter Tryz.func90,Tryz.ntmps90
  go_wp2_with fail;generalize (w.alloc (.cells (kR d (.slice x0 d.m y0) (.slice x1 d.np y1) (.slice x2 d.nr y2) (.slice x3 d.nt y3) (.slice x4 d.nd y4) (.slice x5 d.mf y5) (.slice (some ⟨g6,0,none⟩) d.ns c6) (.slice (some ⟨g7,0,none⟩) d.nq c7)) 49)).alloc (.cells zR 49)=W0 at *;refine (HG.out _).mono ?_;rintro e W1 ⟨rfl,rfl⟩;have c0':=Ag B0;go_wp2_with fail;clear c0';refine (HP.out _ HQ).mono ?_;rintro e W2 ⟨rfl,L⟩;clear HP;have l12:=L.size;have hb1:=Ac B1;replace HQ:=HQ.below L;replace L0:=Ae L0 L;replace B0:=Aa B0 L (Ac B0);replace B1:=Aa B1 L (Ac B1)
  replace HQ:A3 W2 lo w.heap.size D (.slice x0 d.m y0) (.slice x1 d.np y1) (.slice x2 d.nr y2) (.slice x3 d.nt y3) (.slice x4 d.nd y4) (.slice x5 d.mf y5) gb cp g6 c6 g7 c7 { d with P:=p',L:=l',Q:=q',R:=r' }:=⟨HQ.h0,HQ.h1,HQ.h2,HQ.h3,HQ.h4,HQ.h4D,HQ.h6,HQ.h6D,HQ.h7,HQ.h7D,HQ.dis,HQ.bd,HQ.n6,HQ.n7,HQ.nN,HQ.hps⟩
  clear L;have c0':=Ag B0;have f0':=As B0;go_upto_region 10 with (fail);clear c0' f0';rename_i K2 hK2;have TT:=Wrote.setCell (b:=w.heap.size) (o:=26) (R:=fun b _=>b=w.heap.size) (Wrote.setCell (b:=w.heap.size) (o:=25) (R:=fun b _=>b=w.heap.size) (Wrote.setCell (b:=w.heap.size) (o:=24) (R:=fun b _=>b=w.heap.size) (Wrote.setCell (b:=w.heap.size) (o:=23) (R:=fun b _=>b=w.heap.size) (Wrote.setCell (b:=w.heap.size) (o:=22) (R:=fun b _=>b=w.heap.size) (Wrote.setCell (b:=w.heap.size) (o:=21) (R:=fun b _=>b=w.heap.size) (Wrote.setCell (b:=w.heap.size) (o:=20) (R:=fun b _=>b=w.heap.size) (Wrote.refl _ W2) (fun _=>rfl) (.i d.T)) (fun _=>rfl) (.i p')) (fun _=>rfl) (.i d.K)) (fun _=>rfl) (.i d.B)) (fun _=>rfl) (.i l')) (fun _=>rfl) (.bool q')) (fun _=>rfl) (.bool r')
  replace B1:=Ah B1 TT (fun o (h:_=_)=>by omega);replace B0:=Af (o:=20) B0 (.i d.T);replace B0:=Af (o:=21) B0 (.i p');replace B0:=Af (o:=22) B0 (.i d.K);replace B0:=Af (o:=23) B0 (.i d.B);replace B0:=Af (o:=24) B0 (.i l');replace B0:=Af (o:=25) B0 (.bool q');replace B0:=Af (o:=26) B0 (.bool r');simp only [List.setIfInBounds_toArray,List.set_cons_succ,List.set_cons_zero] at B0;replace HQ:=HQ.keepD TT (fun i b o h (e:b=_)=>by have:=bd0 _ _ h; omega) (fun o (e:_=_)=>by omega) (fun o (e:_=_)=>by omega);replace L0:=L0.trans (TT.below L0.size (fun b o hb (h:b=_)=>by omega));clear TT
  generalize ((((((W2.setCell ⟨w.heap.size,20,none⟩ (.i d.T)).setCell ⟨w.heap.size,21,none⟩ (.i p')).setCell ⟨w.heap.size,22,none⟩ (.i d.K)).setCell ⟨w.heap.size,23,none⟩ (.i d.B)).setCell ⟨w.heap.size,24,none⟩ (.i l')).setCell ⟨w.heap.size,25,none⟩ (.bool q')).setCell ⟨w.heap.size,26,none⟩ (.bool r')=W3 at *;refine wp_region_lit ?_;refine wpList_load_row rfl _ _ rfl w.heap.size rfl _ _ _ _ B0 Tryz.underlying49 rfl Ao ?_;refine wpList_store_row rfl _ _ _ rfl (w.heap.size+1) _ rfl rfl _ _ B1 Ao rfl (by first | kernel_rfl | simp [Value.oneCell']) ?_;have B3:=setRow_heap _ _ _ (kR { d with P:=p',L:=l',Q:=q',R:=r' } (.slice x0 d.m y0) (.slice x1 d.np y1) (.slice x2 d.nr y2) (.slice x3 d.nt y3) (.slice x4 d.nd y4) (.slice x5 d.mf y5) (.slice (some ⟨g6,0,none⟩) d.ns c6) (.slice (some ⟨g7,0,none⟩) d.nq c7)) _ _ B1
  have WW:=Au B1 (kR { d with P:=p',L:=l',Q:=q',R:=r' } (.slice x0 d.m y0) (.slice x1 d.np y1) (.slice x2 d.nr y2) (.slice x3 d.nt y3) (.slice x4 d.nd y4) (.slice x5 d.mf y5) (.slice (some ⟨g6,0,none⟩) d.ns c6) (.slice (some ⟨g7,0,none⟩) d.nq c7));generalize W3.setRow (w.heap.size+1) (kR { d with P:=p',L:=l',Q:=q',R:=r' } (.slice x0 d.m y0) (.slice x1 d.np y1) (.slice x2 d.nr y2) (.slice x3 d.nt y3) (.slice x4 d.nd y4) (.slice x5 d.mf y5) (.slice (some ⟨g6,0,none⟩) d.ns c6) (.slice (some ⟨g7,0,none⟩) d.nq c7))=W4 at *;refine hK2 _ _ ?_;have HF:=Ad (HQ.keepD WW (fun i b o h (e:b=_)=>by have:=bd0 _ _ h; omega) (fun o (e:_=_)=>by omega) (fun o (e:_=_)=>by omega))
  have HX:=Ad (A3.nx (E:=D) (w:=w) HF.out (fun i b h=>by first | exact Or.inl ⟨_,h⟩ | (rcases h with ⟨-,h1,h2⟩ | ⟨-,h⟩; (exact Or.inr (by omega)); (exact Or.inl ⟨_,h⟩)) | (rcases h with ⟨-,rfl⟩ | ⟨-,h⟩; (exact hn9); (exact Or.inl ⟨_,h⟩)) | (rcases h with ⟨-,rfl⟩ | ⟨-,⟨-,h1,h2⟩ | ⟨-,h⟩⟩; (exact hn9); (exact Or.inr (by omega)); (exact Or.inl ⟨_,h⟩))));have LF:=Ad ((L0.trans (WW.below L0.size (fun b o hb (e:b=_)=>by omega))));clear HQ WW B0 B1 L0;go_wp2;refine bodyPost_ret (v:=.agg (kR { d with P:=p',L:=l',Q:=q',R:=r' } (.slice x0 d.m y0) (.slice x1 d.np y1) (.slice x2 d.nr y2) (.slice x3 d.nt y3) (.slice x4 d.nd y4) (.slice x5 d.mf y5) (.slice (some ⟨g6,0,none⟩) d.ns c6) (.slice (some ⟨g7,0,none⟩) d.nq c7))) (results_cell_row Tryz.results90 _ _ (w.heap.size+1) _ _ _ _ rfl B3 Tryz.underlying49 rfl Ao) rfl ?_
  exact ⟨_,rfl,HX.out,LF.out⟩
 by_cases r4:rg=4
 ·have HV:Hid (Bu d a y={ d with hd:=Gr y,sh:=Eo d.hd d.sh d.np d.p d.t y }):=by
   have e:rgN (a%65536)=4:=by rw [← hrg.out]; exact r4
   show _=_
   unfold Bu;simp only [e,if_true,show ¬ ((4:Int)=2) by decide,if_false,show ¬ ((4:Int)=3) by decide,if_false]
   first | done | (rw [← hat.out]; done) | rw [← hat.out]
  rw [HV.out];subst r4;clear HV hrg
  obtain ⟨h',hh'⟩:∃ x,Hid (x=Gr y):=⟨_,rfl⟩
  obtain ⟨s',hs'⟩:∃ x,Hid (x=Eo d.hd d.sh d.np d.p d.t y):=⟨_,rfl⟩
  have HP:=Ad (fun W (h:A3 W lo w.heap.size D (.slice x0 d.m y0) (.slice x1 d.np y1) (.slice x2 d.nr y2) (.slice x3 d.nt y3) (.slice x4 d.nd y4) (.slice x5 d.mf y5) gb cp g6 c6 g7 c7 d)=>Qa W (On (D 1)) d.hd d.sh (.slice x1 d.np y1) d.np d.p d.t y (by have:=(Ec oku).2; omega) (by obtain ⟨aa,cc,e,hs⟩:=h.h1; rw [e]; exact hs.ints cc));rw [← hh'.out,← hs'.out] at HP;rw [← hh'.out,← hs'.out];clear hh' hs' hat
  go_enter Tryz.func90,Tryz.ntmps90
  go_wp2_with fail;generalize (w.alloc (.cells (kR d (.slice x0 d.m y0) (.slice x1 d.np y1) (.slice x2 d.nr y2) (.slice x3 d.nt y3) (.slice x4 d.nd y4) (.slice x5 d.mf y5) (.slice (some ⟨g6,0,none⟩) d.ns c6) (.slice (some ⟨g7,0,none⟩) d.nq c7)) 49)).alloc (.cells zR 49)=W0 at *;refine (HG.out _).mono ?_;rintro e W1 ⟨rfl,rfl⟩;have c0':=Ag B0;go_wp2_with fail;clear c0';refine (HP.out _ HQ).mono ?_;rintro e W2 ⟨rfl,L⟩;clear HP;have l12:=L.size;have hb1:=Ac B1;replace HQ:=HQ.below L;replace L0:=Ae L0 L;replace B0:=Aa B0 L (Ac B0);replace B1:=Aa B1 L (Ac B1)
  replace HQ:A3 W2 lo w.heap.size D (.slice x0 d.m y0) (.slice x1 d.np y1) (.slice x2 d.nr y2) (.slice x3 d.nt y3) (.slice x4 d.nd y4) (.slice x5 d.mf y5) gb cp g6 c6 g7 c7 { d with hd:=h',sh:=s' }:=⟨HQ.h0,HQ.h1,HQ.h2,HQ.h3,HQ.h4,HQ.h4D,HQ.h6,HQ.h6D,HQ.h7,HQ.h7D,HQ.dis,HQ.bd,HQ.n6,HQ.n7,HQ.nN,HQ.hps⟩
  clear L;have c0':=Ag B0;have f0':=As B0;go_upto_region 10 with (fail);clear c0' f0';rename_i K2 hK2;have TT:=Wrote.setCell (b:=w.heap.size) (o:=28) (R:=fun b _=>b=w.heap.size) (Wrote.setCell (b:=w.heap.size) (o:=27) (R:=fun b _=>b=w.heap.size) (Wrote.refl _ W2) (fun _=>rfl) (.bool h')) (fun _=>rfl) (.i s');replace B1:=Ah B1 TT (fun o (h:_=_)=>by omega);replace B0:=Af (o:=27) B0 (.bool h');replace B0:=Af (o:=28) B0 (.i s');simp only [List.setIfInBounds_toArray,List.set_cons_succ,List.set_cons_zero] at B0;replace HQ:=HQ.keepD TT (fun i b o h (e:b=_)=>by have:=bd0 _ _ h; omega) (fun o (e:_=_)=>by omega) (fun o (e:_=_)=>by omega);replace L0:=L0.trans (TT.below L0.size (fun b o hb (h:b=_)=>by omega));clear TT
  generalize (W2.setCell ⟨w.heap.size,27,none⟩ (.bool h')).setCell ⟨w.heap.size,28,none⟩ (.i s')=W3 at *;refine wp_region_lit ?_;refine wpList_load_row rfl _ _ rfl w.heap.size rfl _ _ _ _ B0 Tryz.underlying49 rfl Ao ?_;refine wpList_store_row rfl _ _ _ rfl (w.heap.size+1) _ rfl rfl _ _ B1 Ao rfl (by first | kernel_rfl | simp [Value.oneCell']) ?_;have B3:=setRow_heap _ _ _ (kR { d with hd:=h',sh:=s' } (.slice x0 d.m y0) (.slice x1 d.np y1) (.slice x2 d.nr y2) (.slice x3 d.nt y3) (.slice x4 d.nd y4) (.slice x5 d.mf y5) (.slice (some ⟨g6,0,none⟩) d.ns c6) (.slice (some ⟨g7,0,none⟩) d.nq c7)) _ _ B1;have WW:=Au B1 (kR { d with hd:=h',sh:=s' } (.slice x0 d.m y0) (.slice x1 d.np y1) (.slice x2 d.nr y2) (.slice x3 d.nt y3) (.slice x4 d.nd y4) (.slice x5 d.mf y5) (.slice (some ⟨g6,0,none⟩) d.ns c6) (.slice (some ⟨g7,0,none⟩) d.nq c7))
  generalize W3.setRow (w.heap.size+1) (kR { d with hd:=h',sh:=s' } (.slice x0 d.m y0) (.slice x1 d.np y1) (.slice x2 d.nr y2) (.slice x3 d.nt y3) (.slice x4 d.nd y4) (.slice x5 d.mf y5) (.slice (some ⟨g6,0,none⟩) d.ns c6) (.slice (some ⟨g7,0,none⟩) d.nq c7))=W4 at *;refine hK2 _ _ ?_;have HF:=Ad (HQ.keepD WW (fun i b o h (e:b=_)=>by have:=bd0 _ _ h; omega) (fun o (e:_=_)=>by omega) (fun o (e:_=_)=>by omega));have HX:=Ad (A3.nx (E:=D) (w:=w) HF.out (fun i b h=>by first | exact Or.inl ⟨_,h⟩ | (rcases h with ⟨-,h1,h2⟩ | ⟨-,h⟩; (exact Or.inr (by omega)); (exact Or.inl ⟨_,h⟩)) | (rcases h with ⟨-,rfl⟩ | ⟨-,h⟩; (exact hn9); (exact Or.inl ⟨_,h⟩)) | (rcases h with ⟨-,rfl⟩ | ⟨-,⟨-,h1,h2⟩ | ⟨-,h⟩⟩; (exact hn9); (exact Or.inr (by omega)); (exact Or.inl ⟨_,h⟩))))
  have LF:=Ad ((L0.trans (WW.below L0.size (fun b o hb (e:b=_)=>by omega))));clear HQ WW B0 B1 L0;go_wp2;refine bodyPost_ret (v:=.agg (kR { d with hd:=h',sh:=s' } (.slice x0 d.m y0) (.slice x1 d.np y1) (.slice x2 d.nr y2) (.slice x3 d.nt y3) (.slice x4 d.nd y4) (.slice x5 d.mf y5) (.slice (some ⟨g6,0,none⟩) d.ns c6) (.slice (some ⟨g7,0,none⟩) d.nq c7))) (results_cell_row Tryz.results90 _ _ (w.heap.size+1) _ _ _ _ rfl B3 Tryz.underlying49 rfl Ao) rfl ?_;exact ⟨_,rfl,HX.out,LF.out⟩
 have HV:Hid (Bu d a y={ d with g:=E3 true d.g (a%65536) y,bank:=Gl true d.m d.bank (a%65536) y }):=by
  have e2:¬ rgN (a%65536)=2:=by rw [← hrg.out]; exact r2
  have e3:¬ rgN (a%65536)=3:=by rw [← hrg.out]; exact r3
  have e4:¬ rgN (a%65536)=4:=by rw [← hrg.out]; exact r4
  show _=_
  unfold Bu;rw [if_neg e2,if_neg e3,if_neg e4]
 have q2:(rg==2)=false:=beq_eq_false_iff_ne.2 r2;have q3:(rg==3)=false:=beq_eq_false_iff_ne.2 r3;have q4:(rg==4)=false:=beq_eq_false_iff_ne.2 r4;clear r2 r3 r4;rw [HV.out];clear HV hrg
 obtain ⟨g',hg'⟩:∃ x,Hid (x=E3 true d.g (a%65536) y):=⟨_,rfl⟩
 obtain ⟨b',hb'⟩:∃ x,Hid (x=Gl true d.m d.bank (a%65536) y):=⟨_,rfl⟩
 have HP:=Ad (fun W F G v u h k=>Yt W F G v u d.m d.ln d.f d.nr d.g d.bank a y h k);rw [okm,← hg'.out,← hb'.out] at HP;rw [← hg'.out,← hb'.out];clear hg' hb' hat
 go_enter Tryz.func90,Tryz.ntmps90
 go_wp2_with fail;generalize (w.alloc (.cells (kR d (.slice x0 d.m y0) (.slice x1 d.np y1) (.slice x2 d.nr y2) (.slice x3 d.nt y3) (.slice x4 d.nd y4) (.slice x5 d.mf y5) (.slice (some ⟨g6,0,none⟩) d.ns c6) (.slice (some ⟨g7,0,none⟩) d.nq c7)) 49)).alloc (.cells zR 49)=W0 at *;refine (HG.out _).mono ?_;rintro e W1 ⟨rfl,rfl⟩;have c0':=Ag B0;go_wp2_with fail;clear c0';refine (HP.out _ _ _ _ _ HQ.h0.ints (by obtain ⟨_,e,I⟩:=HQ.h2.ints; simp only [Value.agg.injEq,Array.mk.injEq,List.cons.injEq,and_true] at e; rw [e]; exact I)).mono ?_;rintro e W2 ⟨z2,rfl,OI,L⟩;clear HP;have l12:=L.size;have hb1:=Ac B1;replace HQ:=HQ.below L;replace L0:=Ae L0 L;replace B0:=Aa B0 L (Ac B0);replace B1:=Aa B1 L (Ac B1);have P2:=(Bw.own (bank:=b') OI).mono (E:=fun b=>W1.heap.size≤b∧b<W2.heap.size) (fun b hb h=>⟨h,hb⟩);clear OI
 obtain ⟨x2',y2'',e2'⟩:=P2.two;simp only [Value.agg.injEq,Array.mk.injEq,List.cons.injEq,and_true] at e2';subst e2';replace HQ:=HQ.mem P2 (by omega) hlo l12 (Nat.le_refl _);clear P2;clear L;have c0':=Ag B0;have f0':=As B0;go_upto_region 10 with (fail);clear c0' f0';rename_i K2 hK2;have TT:=Wrote.setCell (b:=w.heap.size) (o:=3) (R:=fun b _=>b=w.heap.size) (Wrote.setCell (b:=w.heap.size) (o:=2) (R:=fun b _=>b=w.heap.size) (Wrote.refl _ W2) (fun _=>rfl) (.slice x2' d.nr y2'')) (fun _=>rfl) (.i b');replace B1:=Ah B1 TT (fun o (h:_=_)=>by omega);replace B0:=Af (o:=2) B0 (.slice x2' d.nr y2'');replace B0:=Af (o:=3) B0 (.i b');simp only [List.setIfInBounds_toArray,List.set_cons_succ,List.set_cons_zero] at B0
 replace HQ:=HQ.keepD TT (fun i b o h (e:b=_)=>by rcases h with ⟨-,h1,h2⟩ | ⟨-,h⟩; (omega); (have:=bd0 _ _ h; omega)) (fun o (e:_=_)=>by omega) (fun o (e:_=_)=>by omega);replace L0:=L0.trans (TT.below L0.size (fun b o hb (h:b=_)=>by omega));clear TT;generalize (W2.setCell ⟨w.heap.size,2,none⟩ (.slice x2' d.nr y2'')).setCell ⟨w.heap.size,3,none⟩ (.i b')=W3 at *;refine wp_region_lit ?_;refine wpList_load_row rfl _ _ rfl w.heap.size rfl _ _ _ _ B0 Tryz.underlying49 rfl Ao ?_;refine wpList_store_row rfl _ _ _ rfl (w.heap.size+1) _ rfl rfl _ _ B1 Ao rfl (by first | kernel_rfl | simp [Value.oneCell']) ?_
 have B3:=setRow_heap _ _ _ (kR { d with bank:=b' } (.slice x0 d.m y0) (.slice x1 d.np y1) (.slice x2' d.nr y2'') (.slice x3 d.nt y3) (.slice x4 d.nd y4) (.slice x5 d.mf y5) (.slice (some ⟨g6,0,none⟩) d.ns c6) (.slice (some ⟨g7,0,none⟩) d.nq c7)) _ _ B1;have WW:=Au B1 (kR { d with bank:=b' } (.slice x0 d.m y0) (.slice x1 d.np y1) (.slice x2' d.nr y2'') (.slice x3 d.nt y3) (.slice x4 d.nd y4) (.slice x5 d.mf y5) (.slice (some ⟨g6,0,none⟩) d.ns c6) (.slice (some ⟨g7,0,none⟩) d.nq c7));generalize W3.setRow (w.heap.size+1) (kR { d with bank:=b' } (.slice x0 d.m y0) (.slice x1 d.np y1) (.slice x2' d.nr y2'') (.slice x3 d.nt y3) (.slice x4 d.nd y4) (.slice x5 d.mf y5) (.slice (some ⟨g6,0,none⟩) d.ns c6) (.slice (some ⟨g7,0,none⟩) d.nq c7))=W4 at *;refine hK2 _ _ ?_
 have HF:=Ad (HQ.keepD WW (fun i b o h (e:b=_)=>by rcases h with ⟨-,h1,h2⟩ | ⟨-,h⟩; (omega); (have:=bd0 _ _ h; omega)) (fun o (e:_=_)=>by omega) (fun o (e:_=_)=>by omega));have HX:=Ad (A3.nx (E:=D) (w:=w) HF.out (fun i b h=>by first | exact Or.inl ⟨_,h⟩ | (rcases h with ⟨-,h1,h2⟩ | ⟨-,h⟩; (exact Or.inr (by omega)); (exact Or.inl ⟨_,h⟩)) | (rcases h with ⟨-,rfl⟩ | ⟨-,h⟩; (exact hn9); (exact Or.inl ⟨_,h⟩)) | (rcases h with ⟨-,rfl⟩ | ⟨-,⟨-,h1,h2⟩ | ⟨-,h⟩⟩; (exact hn9); (exact Or.inr (by omega)); (exact Or.inl ⟨_,h⟩))));have LF:=Ad ((L0.trans (WW.below L0.size (fun b o hb (e:b=_)=>by omega))));clear HQ WW B0 B1 L0;go_wp2
 refine bodyPost_ret (v:=.agg (kR { d with bank:=b' } (.slice x0 d.m y0) (.slice x1 d.np y1) (.slice x2' d.nr y2'') (.slice x3 d.nt y3) (.slice x4 d.nd y4) (.slice x5 d.mf y5) (.slice (some ⟨g6,0,none⟩) d.ns c6) (.slice (some ⟨g7,0,none⟩) d.nq c7))) (results_cell_row Tryz.results90 _ _ (w.heap.size+1) _ _ _ _ rfl B3 Tryz.underlying49 rfl Ao) rfl ?_;exact ⟨_,rfl,HX.out,LF.out⟩
def Ej (f:Nat→Nat) (n x:Nat):Nat→Nat:=fun i=>if i=n then x else f i
def Iy (f:Nat→Nat→Int) (n:Nat) (x:Nat→Int):Nat→Nat→Int:=fun i=>if i=n then x else f i
def B8 (d:Aq):Aq:={ d with
 t:=Ga d.t,bl:=Ho d.t d.bl,nd:=tkM d.t d.nd,dt:=Kz d.t d.tb d.s d.pl d.nd d.dt
 T:=d.T+1,K:=Ft d.P d.K,B:=Fa d.K d.B d.L,L:=Fu d.T d.L,R:=Gq d.T d.L d.Q d.R
 nmi:=d.nmi || Py d.t d.c
 mf:=if d.t%64=48 then d.mf+1 else d.mf
 lf:=if d.t%64=48 then Ej d.lf d.mf d.nd else d.lf
 fr:=if d.t%64=48 then Iy d.fr d.mf d.dt else d.fr
 ns:=if Dx d.T=true then d.ns+1 else d.ns
 sm:=if Dx d.T=true then snoc d.sm d.ns (Kq d.T d.K d.B d.L) else d.sm }
def tickN:Nat→Aq→Aq
 | 0,d=>d
 | k+1,d=>tickN k (B8 d)
theorem Nc (k:Nat) (d:Aq):tickN (k+1) d=B8 (tickN k d):=by
 induction k generalizing d with
 | zero=>rfl
 | succ k ih=>show tickN (k+1) (B8 d)=_; rw [ih]; rfl
def withSt (d:Aq) (s:Int):Aq:={ d with st:=s }
theorem Zu (k:Nat) (d:Aq) (s:Int):tickN k (withSt d s)=withSt (tickN k d) s:=by
 induction k generalizing d with
 | zero=>rfl
 | succ k ih=>exact ih (B8 d)
structure Hj (d:Aq):Prop where
 ppu:Iv d.t d.c d.s d.ad d.pl d.nt d.tb d.nd d.dt
 apu:If d.T d.P d.K d.B d.L
 same:d.t=d.T
 lf:∀ i,i<d.mf→d.lf i=48
 mf:(d.mf:Int)=Va d.t
 ns:(d.ns:Int)=d.t/16
theorem Hj.mfs {d:Aq} (h:Hj d):d.mf<1048576:=by
 have h0:=h.ppu.t0;have h1:=h.ppu.t1;have:=h.mf;unfold Va at this
 omega
theorem Hj.nss {d:Aq} (h:Hj d):d.ns<1048576:=by
 have h0:=h.ppu.t0;have h1:=h.ppu.t1;have:=h.ns
 omega
theorem Hj.nd48 {d:Aq} (h:Hj d) (h48:d.t%64=48):d.nd=48:=by
 have h1:=h.ppu.dots;unfold Dk at h1;rw [if_neg (by omega)] at h1
 omega
theorem Uo {T P C B L:Int} (h:If T P C B L) (hT:T≠20000):If (T+1) P (Ft P C) (Fa C B L) (Fu T L):=by
 obtain ⟨t0,t1,p0,p1,c0,c1,b0,b1,l0,l1⟩:=h;unfold Ft Fa Fu
 refine ⟨?_,?_,p0,p1,?_,?_,?_,?_,?_,?_⟩ <;> (try split) <;> omega
theorem Hj.tick {d:Aq} (h:Hj d) (ht:d.t≠20000):Hj (B8 d):=by
 have h0:=h.ppu.t0;have h1:=h.ppu.t1;have hs:=h.same;have e1:Ga d.t=d.t+1:=if_neg ht;have hf:=h.mf;have hn:=h.ns;unfold Va at hf;refine ⟨Td h.ppu,Uo h.apu (by omega),?_,?_,?_,?_⟩
 ·show Ga d.t=d.T+1
  rw [e1,hs]
 ·intro i hi
  show (if d.t%64=48 then Ej d.lf d.mf d.nd else d.lf) i=48
  replace hi:i<(if d.t%64=48 then d.mf+1 else d.mf):=hi
  by_cases h48:d.t%64=48
  ·rw [if_pos h48] at hi ⊢
   unfold Ej
   by_cases e:i=d.mf
   ·rw [if_pos e]; exact h.nd48 h48
   ·rw [if_neg e]; exact h.lf i (by omega)
  ·rw [if_neg h48] at hi ⊢
   exact h.lf i hi
 ·show (((if d.t%64=48 then d.mf+1 else d.mf):Nat):Int)=Va (Ga d.t)
  rw [e1];unfold Va
  split <;> omega
 ·show (((if Dx d.T=true then d.ns+1 else d.ns):Nat):Int)=Ga d.t/16
  rw [e1];unfold Dx;simp only [decide_eq_true_eq]
  split <;> omega
structure OkL (d:Aq):Prop where
 ok:Cd d=true
 t:Hj d
 img:Fx d.m d.ln d.f=true
 nr:d.nr=512
 bank:0≤d.bank∧d.bank≤(d.m:Int)-1
 row:∀ j,j<512→0≤d.g j∧d.g j≤255
 pads:Dr d.np d.p=true
 cpu:(0≤d.A∧d.A≤255)∧(0≤d.X∧d.X≤255)∧(0≤d.S∧d.S≤255)∧0≤d.Pc∧d.Pc≤65535
 sh:0≤d.sh∧d.sh≤255
 st:0≤d.st∧d.st≤d.t
theorem Up {d:Aq} (h:Cd d=true):OkL d:=by
 have h':=h;unfold Cd It at h';simp only [Bool.and_eq_true,beq_iff_eq,Dn] at h';obtain ⟨p,m,⟨⟨⟨cA,cX⟩,cS⟩,cP⟩,u,a,sh,e,st,fr,ns⟩:=h';obtain ⟨mi,mn,mb,mr⟩:=Fg m;have hf:=of_decide_eq_true fr;exact ⟨h,⟨Ev u,Y6 a,e,hf.1,hf.2,ns⟩,mi,mn,mb,mr,p,⟨cA,cX,cS,cP⟩,sh,st⟩
def Dt (d:Aq):A4:=⟨d.A,d.X,d.S,d.Pc,d.Z,d.N,d.C,d.I⟩
def putCpu (d:Aq) (g:Nat→Int) (c:A4):Aq:={ d with g:=g,A:=c.A,X:=c.X,S:=c.S,Pc:=c.Pc,Z:=c.Z,N:=c.N,C:=c.C,I:=c.I }
def entC (d:Aq) (vec:Int):A4:=⟨d.A,d.X,dec8 (dec8 (dec8 d.S)),Hc d.m d.ln d.f (enterG d.g d.S d.Pc d.Z d.N d.C d.I) d.bank vec,d.Z,d.N,d.C,true⟩
def Nf (d:Aq) (vec:Int):Aq:=putCpu d (enterG d.g d.S d.Pc d.Z d.N d.C d.I) (entC d vec)
def X2 (d:Aq):Int:=peekV d.m d.ln d.f d.nr d.g d.bank d.Pc
def opA (d:Aq):Int:=Ib (peekV d.m d.ln d.f d.nr d.g d.bank) d.Pc
def Cj (d:Aq) (op arg:Int):Aq:=if B9 op=1 then Cn d (F9 op arg d.X) else if B9 op=2 then Bu d (F9 op arg d.X) (Lt op d.A) else d
def Gg (d:Aq) (op arg:Int):Int:=if B9 op=1 then Do d (F9 op arg d.X) else 0
def Jbv (d:Aq) (op arg x:Int):Aq:=putCpu d (Ew d.g (Dt d) op) (Dy d.g (Dt d) op arg x)
def opD (d:Aq) (op arg:Int):Aq:=Jbv (Cj d op arg) op arg (Gg d op arg)
def Rz (x:Int):Int:=if 0≤x∧x≤29 then G8.getD x.toNat 2 else 2
def noNmi (d:Aq):Aq:={ d with nmi:=false }
def actD (d:Aq):Aq:=if d.nmi=true then Nf (noNmi d) 65530 else if (d.R && !d.I)=true then Nf d 65534 else opD d (X2 d) (opA d)
def actN (d:Aq):Int:=if d.nmi=true then 7 else if (d.R && !d.I)=true then 7 else Rz (X2 d)
def D8 (d:Aq):Bool:=decide ((actD d).t+actN d≤20000)
def Ij (d:Aq):Aq:=withSt (tickN (actN d).toNat (actD d)) ((tickN (actN d).toNat (actD d)).st+1)
theorem Jbq (x:Int):0≤Rz x∧Rz x≤6:=by
 unfold Rz;split
 ·rename_i h
  have key:∀ k:Fin 30,0≤G8.getD k.1 2∧G8.getD k.1 2≤6:=by decide
  exact key ⟨x.toNat,by omega⟩
 ·omega
theorem J6 (d:Aq):0≤actN d∧actN d≤7:=by
 unfold actN;have:=Jbq (X2 d)
 repeat' split
 all_goals omega
theorem Hj.put {d:Aq} (h:Hj d) (g:Nat→Int) (c:A4):Hj (putCpu d g c):=⟨h.ppu,h.apu,h.same,h.lf,h.mf,h.ns⟩
theorem Hj.read {d:Aq} (h:Hj d) (a:Int):Hj (Cn d a):=by
 unfold Cn;split
 ·have ha:0≤Mb true (rgP (a%65536)) d.ad∧Mb true (rgP (a%65536)) d.ad≤15:=by unfold Mb; split; omega; exact ⟨h.ppu.a0,h.ppu.a1⟩
  exact ⟨⟨h.ppu.t0,h.ppu.t1,h.ppu.c0,h.ppu.c1,h.ppu.s0,h.ppu.s1,ha.1,ha.2,h.ppu.p0,h.ppu.p1,h.ppu.n16,h.ppu.dots,h.ppu.tab,h.ppu.dot⟩,h.apu,h.same,h.lf,h.mf,h.ns⟩
 ·split
  ·exact ⟨h.ppu,h.apu,h.same,h.lf,h.mf,h.ns⟩
  ·split
   ·exact ⟨h.ppu,h.apu,h.same,h.lf,h.mf,h.ns⟩
   ·exact h
theorem Sa {T P C B L:Int} (h:If T P C B L) (reg v:Int):If T (I8 true P reg v) C B (I9 true L reg v):=by
 obtain ⟨t0,t1,p0,p1,c0,c1,b0,b1,l0,l1⟩:=h;unfold I8 I9
 refine ⟨t0,t1,?_,?_,c0,c1,b0,b1,?_,?_⟩ <;> split <;> omega
theorem Hj.write {d:Aq} (h:Hj d) (a y:Int):Hj (Bu d a y):=by
 unfold Bu;split
 ·exact ⟨Q7 h.ppu _ _,h.apu,h.same,h.lf,h.mf,h.ns⟩
 ·split
  ·exact ⟨h.ppu,Sa h.apu _ _,h.same,h.lf,h.mf,h.ns⟩
  ·split
   ·exact ⟨h.ppu,h.apu,h.same,h.lf,h.mf,h.ns⟩
   ·exact ⟨h.ppu,h.apu,h.same,h.lf,h.mf,h.ns⟩
theorem Hj.reach {d:Aq} (h:Hj d) (op arg:Int):Hj (Cj d op arg):=by
 unfold Cj;split
 ·exact h.read _
 ·split
  ·exact h.write _ _
  ·exact h
theorem Hj.act {d:Aq} (h:Hj d):Hj (actD d):=by
 unfold actD;split
 ·exact Hj.put (d:=noNmi d) ⟨h.ppu,h.apu,h.same,h.lf,h.mf,h.ns⟩ _ _
 ·split
  ·exact h.put _ _
  ·exact (h.reach _ _).put _ _
theorem Uq (d:Aq) (a:Int):(Cn d a).t=d.t∧(Cn d a).st=d.st∧(Cn d a).nr=d.nr∧(Cn d a).g=d.g∧(Cn d a).bank=d.bank∧Dt (Cn d a)=Dt d∧(Cn d a).nq≤d.nq+1:=by
 unfold Cn;split
 ·exact ⟨rfl,rfl,rfl,rfl,rfl,rfl,Nat.le_refl _⟩
 ·split
  ·exact ⟨rfl,rfl,rfl,rfl,rfl,rfl,Nat.le_refl _⟩
  ·split
   ·exact ⟨rfl,rfl,rfl,rfl,rfl,rfl,Nat.le_refl _⟩
   ·exact ⟨rfl,rfl,rfl,rfl,rfl,rfl,Nat.le_succ _⟩
theorem Zv {g:Nat→Int} (h:∀ j,j<512→0≤g j∧g j≤255) (ok:Bool) (a y:Int):∀ j,j<512→0≤E3 ok g a y j∧E3 ok g a y j≤255:=by
 intro j hj;have h1:=h j hj;unfold E3;split
 ·unfold Fh
  split <;> omega
 ·exact h1
theorem Sb (d:Aq) (a y:Int) (hr:∀ j,j<512→0≤d.g j∧d.g j≤255):(Bu d a y).t=d.t∧(Bu d a y).st=d.st∧(Bu d a y).nr=d.nr∧(∀ j,j<512→0≤(Bu d a y).g j∧(Bu d a y).g j≤255)∧Dt (Bu d a y)=Dt d∧(Bu d a y).nq=d.nq:=by
 unfold Bu;split
 ·exact ⟨rfl,rfl,rfl,hr,rfl,rfl⟩
 ·split
  ·exact ⟨rfl,rfl,rfl,hr,rfl,rfl⟩
  ·split
   ·exact ⟨rfl,rfl,rfl,hr,rfl,rfl⟩
   ·exact ⟨rfl,rfl,rfl,Zv hr _ _ _,rfl,rfl⟩
theorem Ik (d:Aq) (op arg:Int) (hr:∀ j,j<512→0≤d.g j∧d.g j≤255):(Cj d op arg).t=d.t∧(Cj d op arg).st=d.st∧(Cj d op arg).nr=d.nr∧(∀ j,j<512→0≤(Cj d op arg).g j∧(Cj d op arg).g j≤255)∧Dt (Cj d op arg)=Dt d∧(Cj d op arg).nq≤d.nq+1:=by
 unfold Cj;split
 ·obtain ⟨h1,h2,h3,h4,h5,h6,h7⟩:=Uq d (F9 op arg d.X)
  exact ⟨h1,h2,h3,by rw [h4]; exact hr,h6,h7⟩
 ·split
  ·obtain ⟨h1,h2,h3,h4,h5,h6⟩:=Sb d (F9 op arg d.X) (Lt op d.A) hr
   exact ⟨h1,h2,h3,h4,h5,by omega⟩
  ·exact ⟨rfl,rfl,rfl,hr,rfl,Nat.le_succ _⟩
theorem Ir (d:Aq) (hr:∀ j,j<512→0≤d.g j∧d.g j≤255):(actD d).t=d.t∧(actD d).st=d.st∧(actD d).nq≤d.nq+1:=by
 unfold actD;split
 ·exact ⟨rfl,rfl,Nat.le_succ _⟩
 ·split
  ·exact ⟨rfl,rfl,Nat.le_succ _⟩
  ·obtain ⟨h1,h2,h3,h4,h5,h6⟩:=Ik d (X2 d) (opA d) hr
   exact ⟨h1,h2,h6⟩
theorem La:∀ (k:Nat) (d:Aq),d.t+k≤20000→(tickN k d).t=d.t+k
 | 0,d,_=>by simp [tickN]
 | k+1,d,h=>by
  have e:(B8 d).t=d.t+1:=if_neg (by omega)
  show (tickN k (B8 d)).t=_
  rw [La k (B8 d) (by rw [e]; omega),e]
  omega
theorem Hj.ticks:∀ (k:Nat) {d:Aq},Hj d→d.t+k≤20000→Hj (tickN k d)
 | 0,d,h,_=>h
 | k+1,d,h,hk=>by
  have e:(B8 d).t=d.t+1:=if_neg (by omega);exact Hj.ticks k (h.tick (by omega)) (by rw [e]; omega)
theorem Br {P:Program} {ops:Array Oper} {rest:List Oper} {o:Oper} {a:Act} {w:World} {Q:Exit→Act→World→Prop} (hg:o.guard=none)
  (f:FuncId) (args:Array Value) (hrun:(execOp a.eval o).run P w=.ok (.enter f args) w) {R:Ending→World→Prop} (hc:Calls P f args w R)
  (h:∀ e w',R e w'→∃ v,e=.returned v∧wpList P ops Q rest (a.put o.dst v) w'):wpList P ops Q (o :: rest) a w:=by
 refine wpList_plain hg fun K hK=>?_
 unfold Oper.wp;rw [hrun,Oper.upon_enter]
 refine hc.mono fun e w' hh=>?_
 obtain ⟨v,rfl,hw⟩:=h e w' hh;exact hK _ _ hw
theorem Z8 {W:World} {g z:Nat} {c1 c2:Array Value} {t1 t2:TypeId} {f1 f2:Nat × Nat} (h:W.heap[g]?=some (Obj.cells c1 t1 f1)) (k:W.heap[z]?=some (Obj.cells c2 t2 f2)) (ht:t1≠t2):g≠z:=fun e=>by
 subst e;rw [h] at k
 injection k with k
 injection k with _ k' _
 exact ht k'
def rowL (u0 u1 u2 u3 u4 ov:Value) (g6 c6 g7 c7:Nat) (d:Aq):Array Value:=(kR d u0 u1 u2 u3 u4 ov (.slice (some ⟨g6,0,none⟩) d.ns c6) (.slice (some ⟨g7,0,none⟩) d.nq c7))
structure Bx (w W:World) (lo b r:Nat) (rs cs:Array Value):Prop where
 box:W.heap[b]?=some (.cells cs 49 (0,0))
 res:W.heap[r]?=some (.cells rs 49 (0,0))
 low:Below lo w W
 kept:Dv w W
 up:w.heap.size≤b
 up2:w.heap.size≤r
 ne:r≠b
 hl:lo≤w.heap.size
section
variable {w W W':World} {lo b r:Nat} {rs cs:Array Value}
theorem Bx.below (H:Bx w W lo b r rs cs) (L:Below W.heap.size W W'):Bx w W' lo b r rs cs :=
 ⟨Aa H.box L (Ac H.box),Aa H.res L (Ac H.res),H.low.trans (L.mono (Nat.le_trans H.hl H.low.size)),H.kept.trans (Dv.below L),H.up,H.up2,H.ne,H.hl⟩
theorem Bx.turn (H:Bx w W lo b r rs cs) (L:Below lo W W') (K:Dv W W'):Bx w W' lo b r rs cs :=
 ⟨K.2 _ _ _ H.box (by decide) (by decide),K.2 _ _ _ H.res (by decide) (by decide),H.low.trans L,H.kept.trans K,H.up,H.up2,H.ne,H.hl⟩
theorem Bx.wrote (H:Bx w W lo b r rs cs) {z:Nat} (hz:z=b∨z=r) (hw:Wrote (fun x _=>x=z) W W'):Below lo w W'∧Dv w W' :=
 have h1:=H.up;have h3:=H.up2;have h2:=H.hl
 ⟨H.low.trans (hw.below (Nat.le_trans H.hl H.low.size) (fun x o hb (e:x=z)=>by omega)),H.kept.wrote hw (fun x o hb (e:x=z)=>by exfalso; omega)⟩
theorem Bx.set (H:Bx w W lo b r rs cs) (cs':Array Value):Bx w (W.setRow b cs') lo b r rs cs' :=
 have hw:=Au H.box cs';have k:=H.wrote (Or.inl rfl) hw
 ⟨setRow_heap _ _ _ cs' _ _ H.box,Ah H.res hw (fun o (e:r=b)=>H.ne e),k.1,k.2,H.up,H.up2,H.ne,H.hl⟩
theorem Bx.out (H:Bx w W lo b r rs cs) (rs':Array Value):Bx w (W.setRow r rs') lo b r rs' cs :=
 have hw:=Au H.res rs';have k:=H.wrote (Or.inr rfl) hw
 ⟨Ah H.box hw (fun o (e:b=r)=>H.ne e.symm),setRow_heap _ _ _ rs' _ _ H.res,k.1,k.2,H.up,H.up2,H.ne,H.hl⟩
theorem Bx.cellW (H:Bx w W lo b r rs cs) (o:Nat) (v:Value):Wrote (fun x _=>x=b) W (W.setCell ⟨b,o,none⟩ v):=Wrote.setCell (b:=b) (o:=o) (R:=fun x _=>x=b) (Wrote.refl _ W) (fun _=>rfl) v
theorem Bx.cell (H:Bx w W lo b r rs cs) (o:Nat) (v:Value):Bx w (W.setCell ⟨b,o,none⟩ v) lo b r rs (cs.setIfInBounds o v) :=
 have hw:=H.cellW o v;have k:=H.wrote (Or.inl rfl) hw
 ⟨Af H.box v,Ah H.res hw (fun o (e:r=b)=>H.ne e),k.1,k.2,H.up,H.up2,H.ne,H.hl⟩
end
structure Lx (w W:World) (lo N b r:Nat) (E D:Nat→Nat→Prop) (u0 u1 u2 u3 u4 ov:Value) (gb cp:Nat→Nat) (g6 c6 g7 c7:Nat) (d:Aq):Prop where
 lp:A3 W lo N D u0 u1 u2 u3 u4 ov gb cp g6 c6 g7 c7 d
 ap:∀ i k,D i k→k≠b∧k≠r
 nr:Sg w E D
 nl:lo≤N
section
variable {w W W':World} {lo N b r:Nat} {E D:Nat→Nat→Prop} {u0 u1 u2 u3 u4 ov:Value} {gb cp:Nat→Nat} {g6 c6 g7 c7:Nat} {d:Aq} {rs cs:Array Value}
theorem Lx.below (H:Lx w W lo N b r E D u0 u1 u2 u3 u4 ov gb cp g6 c6 g7 c7 d) (L:Below W.heap.size W W'):Lx w W' lo N b r E D u0 u1 u2 u3 u4 ov gb cp g6 c6 g7 c7 d:=⟨H.lp.below L,H.ap,H.nr,H.nl⟩
theorem Lx.wrote (H:Lx w W lo N b r E D u0 u1 u2 u3 u4 ov gb cp g6 c6 g7 c7 d) (B:Bx w W lo b r rs cs) {z:Nat} (hz:z=b∨z=r) (hw:Wrote (fun x _=>x=z) W W'):Lx w W' lo N b r E D u0 u1 u2 u3 u4 ov gb cp g6 c6 g7 c7 d:=by
 have kz:∃ c,W.heap[z]?=some (.cells c 49 (0,0)):=by
  rcases hz with e | e
  ·exact ⟨_,e ▸ B.box⟩
  ·exact ⟨_,e ▸ B.res⟩
 obtain ⟨c,kz⟩:=kz;obtain ⟨k6,h6⟩:=H.lp.h6.cur;obtain ⟨k7,h7⟩:=H.lp.h7.cur;exact ⟨H.lp.keepD hw (fun i x o h (e:x=z)=>by have:=H.ap i x h; omega) (fun o (e:g6=z)=>Z8 h6 kz (by decide) e) (fun o (e:g7=z)=>Z8 h7 kz (by decide) e),H.ap,H.nr,H.nl⟩
theorem Lx.nmi (H:Lx w W lo N b r E D u0 u1 u2 u3 u4 ov gb cp g6 c6 g7 c7 d) (x:Bool):Lx w W lo N b r E D u0 u1 u2 u3 u4 ov gb cp g6 c6 g7 c7 { d with nmi:=x } :=
 ⟨⟨H.lp.h0,H.lp.h1,H.lp.h2,H.lp.h3,H.lp.h4,H.lp.h4D,H.lp.h6,H.lp.h6D,H.lp.h7,H.lp.h7D,H.lp.dis,H.lp.bd,H.lp.n6,H.lp.n7,H.lp.nN,H.lp.hps⟩,H.ap,H.nr,H.nl⟩
theorem Lx.cpu (H:Lx w W lo N b r E D u0 u1 u2 u3 u4 ov gb cp g6 c6 g7 c7 d) (c:A4):Lx w W lo N b r E D u0 u1 u2 u3 u4 ov gb cp g6 c6 g7 c7 (putCpu d d.g c) :=
 ⟨⟨H.lp.h0,H.lp.h1,H.lp.h2,H.lp.h3,H.lp.h4,H.lp.h4D,H.lp.h6,H.lp.h6D,H.lp.h7,H.lp.h7D,H.lp.dis,H.lp.bd,H.lp.n6,H.lp.n7,H.lp.nN,H.lp.hps⟩,H.ap,H.nr,H.nl⟩
theorem Lx.mem (H:Lx w W lo N b r E D u0 u1 u2 u3 u4 ov gb cp g6 c6 g7 c7 d) {p:Nat} {q:Value} {g:Nat→Int} (OI:Am W p q 512 g) (hr:d.nr=512) (hp:N≤p) (hb:b<p) (hr2:r<p) (hw:w.heap.size≤p) (hq:p≤W.heap.size) :
  ∃ D',Lx w W lo W.heap.size b r E D' u0 u1 q u3 u4 ov gb cp g6 c6 g7 c7 { d with g:=g }:=by
 rw [← hr] at OI;have P2:=(Bw.own (bank:=d.bank) OI).mono (E:=fun x=>p≤x∧x<W.heap.size) (fun x hx h=>⟨h,hx⟩);refine ⟨_,H.lp.mem P2 hp H.nl hq (Nat.le_refl _),fun i k h=>?_,fun i k h=>?_,?_⟩
 ·rcases h with ⟨-,h1,h2⟩ | ⟨-,h⟩
  ·omega
  ·exact H.ap _ _ h
 ·rcases h with ⟨-,h1,h2⟩ | ⟨-,h⟩
  ·exact Or.inr (by omega)
  ·exact H.nr _ _ h
 ·have:=H.nl; omega
theorem Lx.one (H:Lx w W lo N b r E D u0 u1 u2 u3 u4 ov gb cp g6 c6 g7 c7 d):(rowL u0 u1 u2 u3 u4 ov g6 c6 g7 c7 d).all (·.oneCell')=true:=by
 obtain ⟨a0,b0,rfl⟩:=H.lp.h0.form;obtain ⟨a1,b1,rfl⟩:=H.lp.h1.two;obtain ⟨a2,b2,e2⟩:=H.lp.h2.two;simp only [Value.agg.injEq,Array.mk.injEq,List.cons.injEq,and_true] at e2;subst e2;obtain ⟨a3,b3,a4,b4,e3⟩:=H.lp.h3.two;simp only [Value.agg.injEq,Array.mk.injEq,List.cons.injEq,and_true,true_and] at e3;obtain ⟨rfl,rfl⟩:=e3;obtain ⟨a5,b5,rfl⟩:=H.lp.h4.form
 simp [rowL,Value.oneCell']
theorem Lx.nx (H:Lx w W lo N b r E D u0 u1 u2 u3 u4 ov gb cp g6 c6 g7 c7 d):Hm w W lo E (.agg (rowL u0 u1 u2 u3 u4 ov g6 c6 g7 c7 d)) d:=H.lp.nx H.nr
theorem Hm.lx {v:Value} {V:World} (H:Hm V W lo D v d) (hap:∀ i k,D i k→k≠b∧k≠r) (hnr:Sg w E D) (hb:b<V.heap.size) (hr2:r<V.heap.size) (hw:w.heap.size≤V.heap.size) (hl:lo≤W.heap.size) :
  ∃ D' u0 u1 u2 u3 u4 ov gb cp g6 c6 g7 c7,v=.agg (rowL u0 u1 u2 u3 u4 ov g6 c6 g7 c7 d)∧Lx w W lo W.heap.size b r E D' u0 u1 u2 u3 u4 ov gb cp g6 c6 g7 c7 d:=by
 obtain ⟨D',⟨u0,u1,u2,u3,u4,ov,gb,cp,g6,c6,g7,c7,rfl,HP⟩,near⟩:=H;refine ⟨D',u0,u1,u2,u3,u4,ov,gb,cp,g6,c6,g7,c7,rfl,HP,fun i k h=>?_,fun i k h=>?_,hl⟩
 ·rcases near i k h with ⟨j,h'⟩ | h'
  ·exact hap j k h'
  ·omega
 ·rcases near i k h with ⟨j,h'⟩ | h'
  ·exact hnr j k h'
  ·exact Or.inr (by omega)
end
def spare (u:Value) (b o:Nat):Prop:=∃ n c,u=.slice (some ⟨b,0,none⟩) n c∧n≤o
theorem X3 (W:World) {o:Oper} {a:Act} {K:Act→World→Prop} {Q:Exit→Act→World→Prop} (s x:Operand) (hop:o.op=Op.call { callee:=Callee.builtin Builtin.append,args:=#[s,x],argTypes:=#[25,25] })
  (lo g n c:Nat) (f:Nat→Int) (hs:a.eval s=.slice (some ⟨g,0,none⟩) n c) (R:Row W lo g n c f) (hn:n<1048576) (q:Nat) (y:Int) (hx:a.eval x=.slice (some ⟨q,0,none⟩) 1 1) (hq:W.cell? ⟨q,0,none⟩=some (.i y))
  (h:∀ g' c' W',Row W' lo g' (n+1) c' (snoc f n y)→Wrote (spare (.slice (some ⟨g,0,none⟩) n c)) W W'→((g'=g∧n+1≤c)∨W.heap.size≤g')→K (a.put o.dst (.slice (some ⟨g',0,none⟩) (n+1) c')) W'):o.wp Tryz.prog a W K Q:=by
 obtain ⟨i0,hi,hz0,hz1,hz2⟩:=info_parts Is;have hp:=R.parts
 have hnews:∀ j u,[Value.i y][j]?=some u→W.cell? ((⟨q,0,none⟩:Addr).add j)=some u:=fun j u hh=>by
  cases j with
  | zero=>simp at hh; rw [← hh]; exact hq
  | succ j=>simp at hh
 by_cases hr:n+1≤c
 ·have hsp:(W.cell? ⟨g,n,none⟩).isSome=true∧W.frozen? ⟨g,n,none⟩=false:=by
   rcases R.own.2 with ⟨e,_⟩ | ⟨g',cap,cur,hv,hb,hg,h1,h2,h3,h4⟩
   ·cases e
   ·simp only [Value.slice.injEq,Option.some.injEq,Addr.mk.injEq,and_true,true_and] at hv
    obtain ⟨rfl,rfl⟩:=hv;refine ⟨?_,As hg n⟩;rw [Ag hg n,Array.getElem?_eq_getElem (by omega)]
    rfl
  have hrun:=run_append_room_cells (P:=Tryz.prog) W 25 o.type 3 i0 Tryz.underlying25 hi g 0 n c ⟨q,0,none⟩ 1 1 [.i y] (by rw [hz1]; rfl) hnews (fun u hu=>by simp at hu; rw [hu]; rfl) hr
   (fun j hj=>by have:j=0:=(by simpa using hj); subst this; rw [hz1]; simpa using hsp.1) (fun j hj=>by have:j=0:=(by simpa using hj); subst this; rw [hz1]; simpa using hsp.2)
  rw [hz1] at hrun;unfold Oper.wp
  simp [execOp,hop,resolve,invoke,builtin,hs,hx,hrun,Result.andThen,World.setCells]
  exact h g c _ (R.more hr hn y) (Wrote.setCell (R:=spare (.slice (some ⟨g,0,none⟩) n c)) (Wrote.refl _ W) (fun _=>⟨n,c,rfl,Nat.le_refl _⟩) _) (Or.inl ⟨rfl,hr⟩)
 ·obtain ⟨v',w',hrun,r1,r2⟩:=run_append_arg_grows (P:=Tryz.prog) W 25 o.type 3 i0 (.i 0) 1 8 Tryz.underlying25 hi hz0 hz1 hz2 rfl (by decide) ⟨g,0,none⟩ n c (rowVals n f) (by rw [A2,Nat.mul_one]) (Cy R.sl.row) ⟨q,0,none⟩ 1 1 [.i y] rfl hnews (by omega) (by unfold maxLen; omega) (by omega)
  rw [E6] at r1;obtain ⟨g',cap2,rfl,hg,hlt⟩:=r1.form (by omega);have L:Below W.heap.size W w':=(Below.refl _ _).grown r2 (Nat.le_refl _) (fun _ e=>by cases e);unfold Oper.wp
  simp [execOp,hop,resolve,invoke,builtin,hs,hx,hrun,Result.andThen]
  exact h g' cap2 w' ((Row.mk r1 (by omega)).mono (by omega)) (Ab L _) (Or.inr hg)
theorem Se (W:World) {o:Oper} {a:Act} {K:Act→World→Prop} {Q:Exit→Act→World→Prop} (s x:Operand) (hop:o.op=Op.call { callee:=Callee.builtin Builtin.append,args:=#[s,x],argTypes:=#[25,25] })
  (lo:Nat) (o7:Option Nat) (u:Value) (n:Nat) (f:Nat→Int) (hs:a.eval s=u) (R:A5 W lo o7 u n f) (hn:n<1048576) (hlo:lo≤W.heap.size) (q:Nat) (y:Int) (hx:a.eval x=.slice (some ⟨q,0,none⟩) 1 1) (hq:W.cell? ⟨q,0,none⟩=some (.i y))
  (h:∀ g' c' W',A5 W' lo (some g') (.slice (some ⟨g',0,none⟩) (n+1) c') (n+1) (snoc f n y)→Wrote (spare u) W W'→(o7=some g'∨W.heap.size≤g')→K (a.put o.dst (.slice (some ⟨g',0,none⟩) (n+1) c')) W'):o.wp Tryz.prog a W K Q:=by
 cases o7 with
 | some g =>
  obtain ⟨c,rfl,r⟩:=R;exact X3 W s x hop lo g n c f hs r hn q y hx hq (fun g' c' W' r1 r2 r3=>h g' c' W' ⟨c',rfl,r1⟩ r2 (by rcases r3 with ⟨e,-⟩ | e; (left; rw [e]); (right; exact e)))
 | none =>
  obtain ⟨rfl,rfl⟩:=R;obtain ⟨i0,hi,hz0,hz1,hz2⟩:=info_parts Is
  have hnews:∀ j u,[Value.i y][j]?=some u→W.cell? ((⟨q,0,none⟩:Addr).add j)=some u:=fun j u hh=>by
   cases j with
   | zero=>simp at hh; rw [← hh]; exact hq
   | succ j=>simp at hh
  have own:W.ownsRow lo 3 1 (.slice none 0 0) 0 []:=⟨rfl,Or.inl ⟨rfl,rfl⟩⟩
  obtain ⟨g',c',W',hrun,r1,r2,r3,r4⟩:=run_append_lies (P:=Tryz.prog) (w:=W) 25 o.type lo 3 i0 (.i 0) 1 8 Tryz.underlying25 hi hz0 hz1 hz2 rfl (by decide) (.slice none 0 0) 0 [] own ⟨q,0,none⟩ 1 1 [.i y] rfl hnews (fun u hu=>by simp at hu; rw [hu]; rfl) (by omega) (by unfold maxLen; omega) (by omega) hlo W.heap.size rfl;have L:Below W.heap.size W W':=(Below.refl _ _).grown r2 (Nat.le_refl _) (fun _ e=>by cases e)
  have e1:rowVals 1 (snoc f 0 y)=[.i y]:=by simp [rowVals,snoc]
  unfold Oper.wp
  simp [execOp,hop,resolve,invoke,builtin,hs,hx,hrun,Result.andThen]
  exact h g' c' W' ⟨c',rfl,by rw [Nat.zero_add,e1]; exact r1,by omega⟩ (Ab L _) (Or.inr (by rcases r3 with r3 | r3; cases r3; omega))
theorem Eh (W:World) {ops:Array Oper} {rest:List Oper} {o:Oper} {a:Act} {Q:Exit→Act→World→Prop} (hg:o.guard=none) (s x:Operand) (hop:o.op=Op.call { callee:=Callee.builtin Builtin.append,args:=#[s,x],argTypes:=#[25,25] })
  (lo:Nat) (o7:Option Nat) (u:Value) (n:Nat) (f:Nat→Int) (hs:a.eval s=u) (R:A5 W lo o7 u n f) (hn:n<1048576) (hlo:lo≤W.heap.size) (q:Nat) (y:Int) (hx:a.eval x=.slice (some ⟨q,0,none⟩) 1 1) (hq:W.cell? ⟨q,0,none⟩=some (.i y))
  (h:∀ g' c' W',A5 W' lo (some g') (.slice (some ⟨g',0,none⟩) (n+1) c') (n+1) (snoc f n y)→Wrote (spare u) W W'→(o7=some g'∨W.heap.size≤g')→wpList Tryz.prog ops Q rest (a.put o.dst (.slice (some ⟨g',0,none⟩) (n+1) c')) W'):wpList Tryz.prog ops Q (o :: rest) a W :=
 wpList_plain hg fun K hK=>Se W s x hop lo o7 u n f hs R hn hlo q y hx hq (fun g c W' r1 r2 r3=>hK _ _ (h g c W' r1 r2 r3))
theorem X4 (W:World) {o:Oper} {a:Act} {K:Act→World→Prop} {Q:Exit→Act→World→Prop} (s x:Operand) (hop:o.op=Op.call { callee:=Callee.builtin Builtin.append,args:=#[s,x],argTypes:=#[22,22] })
  (lo:Nat) (ov:Value) (n:Nat) (vs:List Value) (hs:a.eval s=ov) (own:W.ownsRow lo 25 1 ov n vs) (hn:n<1048576) (hlo:lo≤W.heap.size) (q:Nat) (y:Value) (hy:y.oneCell'=true) (hx:a.eval x=.slice (some ⟨q,0,none⟩) 1 1) (hq:W.cell? ⟨q,0,none⟩=some y)
  (h:∀ g' c' W',W'.ownsRow lo 25 1 (.slice (some ⟨g',0,none⟩) (n+1) c') (n+1) (vs++[y])→Wrote (spare ov) W W'→(ov.ownBlock=some g'∨W.heap.size≤g')→K (a.put o.dst (.slice (some ⟨g',0,none⟩) (n+1) c')) W'):o.wp Tryz.prog a W K Q:=by
 obtain ⟨i0,hi,hz0,hz1,hz2⟩:=info_parts Jl
 have hl:vs.length=n:=by have:=own.1; omega
 have hnews:∀ j u,[y][j]?=some u→W.cell? ((⟨q,0,none⟩:Addr).add j)=some u:=fun j u hh=>by
  cases j with
  | zero=>simp at hh; rw [← hh]; exact hq
  | succ j=>simp at hh
 have h1:∀ u∈[y],u.oneCell'=true:=fun u hu=>by simp at hu; rw [hu]; exact hy
 rcases id own.2 with ⟨e,e0⟩ | ⟨g,c,cur,hv,hb,hg,k1,k2,k3,k4⟩
 ·obtain ⟨g',c',W',hrun,r1,r2,r3,r4⟩:=run_append_lies (P:=Tryz.prog) (w:=W) 22 o.type lo 25 i0 (.slice none 0 0) 1 24 Tryz.underlying22 hi hz0 hz1 hz2 rfl (by decide) ov n vs own ⟨q,0,none⟩ 1 1 [y] rfl hnews h1 (by omega) (by unfold maxLen; omega) (by omega) hlo W.heap.size rfl
  have hb:ov.ownBlock=none:=by rw [e]; rfl
  rw [hb] at r2 r3;have L:Below W.heap.size W W':=(Below.refl _ _).grown r2 (Nat.le_refl _) (fun _ e=>by cases e);unfold Oper.wp
  simp [execOp,hop,resolve,invoke,builtin,hs,hx,hrun,Result.andThen]
  exact h g' c' W' r1 (Ab L _) (Or.inr (by rcases r3 with r3 | r3; cases r3; omega))
 ·subst hv
  have hob:(Value.slice (some ⟨g,0,none⟩) n c).ownBlock=some g:=rfl;have hgl:=Ac hg
  by_cases hr:n+1≤c
  ·have hsp:(W.cell? ⟨g,n,none⟩).isSome=true∧W.frozen? ⟨g,n,none⟩=false:=by
    refine ⟨?_,As hg n⟩;rw [Ag hg n,Array.getElem?_eq_getElem (by omega)]
    rfl
   have hrun:=run_append_room_cells (P:=Tryz.prog) W 22 o.type 25 i0 Tryz.underlying22 hi g 0 n c ⟨q,0,none⟩ 1 1 [y] (by rw [hz1]; rfl) hnews h1 hr
    (fun j hj=>by have:j=0:=(by simpa using hj); subst this; rw [hz1]; simpa using hsp.1) (fun j hj=>by have:j=0:=(by simpa using hj); subst this; rw [hz1]; simpa using hsp.2)
   rw [hz1] at hrun;unfold Oper.wp
   simp [execOp,hop,resolve,invoke,builtin,hs,hx,hrun,Result.andThen,World.setCells]
   exact h g c _ (Rn own hr y) (Wrote.setCell (R:=spare (.slice (some ⟨g,0,none⟩) n c)) (Wrote.refl _ W) (fun _=>⟨n,c,rfl,Nat.le_refl _⟩) _) (Or.inl hob)
  ·obtain ⟨v',w',hrun,r1,r2⟩:=run_append_arg_grows (P:=Tryz.prog) W 22 o.type 25 i0 (.slice none 0 0) 1 24 Tryz.underlying22 hi hz0 hz1 hz2 rfl (by decide) ⟨g,0,none⟩ n c vs (by rw [hl,Nat.mul_one]) (Gs own) ⟨q,0,none⟩ 1 1 [y] rfl hnews (by omega) (by unfold maxLen; omega) (by omega)
   obtain ⟨g',cap2,rfl,hg',hlt⟩:=r1.form (by omega);have L:Below W.heap.size W w':=(Below.refl _ _).grown r2 (Nat.le_refl _) (fun _ e=>by cases e);unfold Oper.wp
   simp [execOp,hop,resolve,invoke,builtin,hs,hx,hrun,Result.andThen]
   exact h g' cap2 w' (Mk r1 hlo) (Ab L _) (Or.inr hg')
theorem N4 (W:World) {ops:Array Oper} {rest:List Oper} {o:Oper} {a:Act} {Q:Exit→Act→World→Prop} (hg:o.guard=none) (s x:Operand) (hop:o.op=Op.call { callee:=Callee.builtin Builtin.append,args:=#[s,x],argTypes:=#[22,22] })
  (lo:Nat) (ov:Value) (n:Nat) (vs:List Value) (hs:a.eval s=ov) (own:W.ownsRow lo 25 1 ov n vs) (hn:n<1048576) (hlo:lo≤W.heap.size) (q:Nat) (y:Value) (hy:y.oneCell'=true) (hx:a.eval x=.slice (some ⟨q,0,none⟩) 1 1) (hq:W.cell? ⟨q,0,none⟩=some y)
  (h:∀ g' c' W',W'.ownsRow lo 25 1 (.slice (some ⟨g',0,none⟩) (n+1) c') (n+1) (vs++[y])→Wrote (spare ov) W W'→(ov.ownBlock=some g'∨W.heap.size≤g')→wpList Tryz.prog ops Q rest (a.put o.dst (.slice (some ⟨g',0,none⟩) (n+1) c')) W'):wpList Tryz.prog ops Q (o :: rest) a W :=
 wpList_plain hg fun K hK=>X4 W s x hop lo ov n vs hs own hn hlo q y hy hx hq (fun g c W' r1 r2 r3=>hK _ _ (h g c W' r1 r2 r3))
def RL (z:Nat) (u4 u5 u6 u7:Value) (b o:Nat):Prop:=b=z∨spare u4 b o∨spare u5 b o∨spare u6 b o∨spare u7 b o
structure Goes (w W:World) (z:Nat) (a4 a5 a6 a7 b4 b5 b6 b7:Value):Prop where
 wr:Wrote (RL z a4 a5 a6 a7) w W
 sp:∀ b o,b<w.heap.size→RL z b4 b5 b6 b7 b o→RL z a4 a5 a6 a7 b o
section
variable {w V W:World} {z:Nat} {a4 a5 a6 a7 b4 b5 b6 b7 c4 c5 c6 c7:Value}
theorem Goes.refl (w:World) (z:Nat) (a4 a5 a6 a7:Value):Goes w w z a4 a5 a6 a7 a4 a5 a6 a7:=⟨Wrote.refl _ _,fun _ _ _ h=>h⟩
theorem Goes.trans (h:Goes w V z a4 a5 a6 a7 b4 b5 b6 b7) (k:Goes V W z b4 b5 b6 b7 c4 c5 c6 c7):Goes w W z a4 a5 a6 a7 c4 c5 c6 c7:=by
 have hs:=h.wr.size;refine ⟨⟨k.wr.os.trans h.wr.os,k.wr.tape.trans h.wr.tape,k.wr.output.trans h.wr.output,Nat.le_trans hs k.wr.size,fun b hb hr=>?_,fun b o hb hr=>?_,fun b o hb=>?_⟩,fun b o hb hc=>h.sp b o hb (k.sp b o (by omega) hc)⟩
 ·exact (k.wr.block b (by omega) (fun o e=>hr o (h.sp b o hb e))).trans (h.wr.block b hb hr)
 ·exact (k.wr.cell b o (by omega) (fun e=>hr (h.sp b o hb e))).trans (h.wr.cell b o hb hr)
 ·exact (k.wr.frozen b o (by omega)).trans (h.wr.frozen b o hb)
theorem Goes.below (L:Below w.heap.size w W) (z:Nat) (a4 a5 a6 a7:Value):Goes w W z a4 a5 a6 a7 a4 a5 a6 a7:=⟨Ab L _,fun _ _ _ h=>h⟩
theorem Goes.box (h:Wrote (fun b _=>b=z) w W) (a4 a5 a6 a7:Value):Goes w W z a4 a5 a6 a7 a4 a5 a6 a7:=⟨h.mono (fun _ _ _ e=>Or.inl e),fun _ _ _ h=>h⟩
end
theorem Je {W:World} {lo N:Nat} {o7:Option Nat} {u:Value} {n g' c':Nat} {f:Nat→Int} (R:A5 W lo o7 u n f) (hat:o7=some g'∨N≤g') {b o:Nat} (hb:b<N) (h:spare (.slice (some ⟨g',0,none⟩) (n+1) c') b o):spare u b o:=by
 obtain ⟨n1,c1,e,ho⟩:=h;simp only [Value.slice.injEq,Option.some.injEq,Addr.mk.injEq,and_true] at e;obtain ⟨rfl,rfl,rfl⟩:=e
 rcases hat with rfl | h
 ·obtain ⟨y,rfl,-⟩:=R
  exact ⟨n,y,rfl,by omega⟩
 ·omega
theorem X6 {W:World} {lo N:Nat} {e:TypeId} {u:Value} {n g' c':Nat} {vs:List Value} (R:W.ownsRow lo e 1 u n vs) (hat:u.ownBlock=some g'∨N≤g') {b o:Nat} (hb:b<N) (h:spare (.slice (some ⟨g',0,none⟩) (n+1) c') b o):spare u b o:=by
 obtain ⟨n1,c1,e,ho⟩:=h;simp only [Value.slice.injEq,Option.some.injEq,Addr.mk.injEq,and_true] at e;obtain ⟨rfl,rfl,rfl⟩:=e
 rcases hat with h | h
 ·rcases R.2 with ⟨e,e0⟩ | ⟨g,c,cur,hv,-⟩
  ·rw [e] at h; cases h
  ·subst hv
   obtain rfl:g=g':=by simpa [Value.ownBlock] using h
   exact ⟨n,c,rfl,by omega⟩
 ·omega
structure Dg (W:World) (lo z:Nat) (d:Aq) (u4 u5 u6 u7:Value):Prop where
 ex:∃ D u0 u1 u2 u3 ob iv ov o6 o7,Bi W lo W.heap.size D u0 u1 u2 u3 u4 u5 u6 u7 ob iv ov o6 o7 d∧(∀ i b,D i b→b≠z)∧W.heap[z]?=some (.cells (kR d u0 u1 u2 u3 u4 u5 u6 u7) 49 (0,0))
structure Ei (w W:World) (lo z:Nat) (u4 u5 u6 u7:Value) (d:Aq):Prop where
 ex:∃ b4 b5 b6 b7,Dg W lo z d b4 b5 b6 b7∧Goes w W z u4 u5 u6 u7 b4 b5 b6 b7
end Go.Proofs.YtgcmimcalmjaaaaGreatDoor
