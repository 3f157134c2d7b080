import Derived.Test.YtijljlnooibbmaaGreatDoorI9
import Derived.Test.YtijljlnooibbmaaGreatDoorI2
namespace Go.Proofs.YtijljlnooibbmaaGreatDoor
set_option maxHeartbeats 8000000
set_option maxRecDepth 40000
open Go.Proofs.Tryz
set_option linter.unusedVariables false
set_option linter.unusedSimpArgs false
open Go.ChangeShapes Go.WideShapes Go.ChangeAt Go.RowKit
theorem SG.onD {W:World} {lo q:Nat} {ov:Value} {gb cp ln:Nat->Nat} {f:Nat->Nat->Int} (H:SG W lo ov q gb cp ln f) {D:Nat->Prop} (hD:∀ b,(ov.ownBlock=some b\/∃ i,i<q/\gb i=b)->D b) (hs:Dw ln q<=1099511627776):Cu W D ov q ln f:=by
 have key:∀ i,i<q->∀ b o,Cz (some ⟨gb i,0,none⟩) (ln i) b o->b=gb i:=fun i hi b o ⟨off,e,_,_⟩=>by
  simp only [Option.some.injEq,Addr.mk.injEq] at e;exact e.1.symm
 rcases id H.own.2 with ⟨e,e0⟩ | ⟨g,c,cur,hv,hb,hg,k1,k2,k3,k4⟩
 .have hq:q=0:=by simpa using e0
  subst hq;subst e;refine ⟨fun _=>none,fun _=>0,⟨⟨none,0,rfl,by omega,fun i hi=>absurd hi (Nat.not_lt_zero _)⟩,fun i hi=>absurd hi (Nat.not_lt_zero _),fun i j hi=>absurd hi (Nat.not_lt_zero _),hs⟩,fun i hi=>absurd hi (Nat.not_lt_zero _),fun i hi=>absurd hi (Nat.not_lt_zero _),fun a cap e b o hF=>absurd hF (A4 _ _ _),fun i hi=>absurd hi (Nat.not_lt_zero _)⟩
 .subst hv
  have hob:(Value.slice (some ⟨g,0,none⟩) q c).ownBlock=some g:=rfl
  have hcell:∀ i,i<q->W.cell? ⟨g,i,none⟩=some (.slice (some ⟨gb i,0,none⟩) (ln i) (cp i)):=fun i hi=>by
   have:=Ia H.own i (.slice (some ⟨gb i,0,none⟩) (ln i) (cp i)) (by unfold Nc; simp [hi])
   rwa [Ig,Nat.zero_add] at this
  refine ⟨fun i=>some ⟨gb i,0,none⟩,cp,⟨⟨_,_,rfl,H.small,fun i hi=>⟨g,0,rfl,by rw [Nat.zero_add]; exact hcell i hi,fun j hj hF=>H.dj g hob j hj (key j hj _ _ hF).symm⟩⟩,fun i hi=>(H.rows i hi).sl.free,fun i j hi hj hij b o h1 h2=>H.inj i j hi hj hij ((key i hi _ _ h1).symm.trans (key j hj _ _ h2)),hs⟩,fun i hi=>(H.rows i hi).sl.row,fun i hi b o hF=>?_,fun a cap e b o hF=>?_,fun i hi=>(H.rows i hi).small⟩
  .rw [key i hi b o hF]
   exact hD _ (Or.inr ⟨i,hi,rfl⟩)
  .simp only [Value.slice.injEq,true_and] at e
   obtain ⟨rfl,-⟩:=e;obtain ⟨off,e,_,_⟩:=hF;simp only [Option.some.injEq,Addr.mk.injEq] at e;rw [<- e.1];exact hD _ (Or.inl rfl)
theorem SG.mono {W:World} {lo lo' q:Nat} {ov:Value} {gb cp ln:Nat->Nat} {f:Nat->Nat->Int} (H:SG W lo ov q gb cp ln f) (h:lo'<=lo):SG W lo' ov q gb cp ln f :=
 ⟨Og H.own h,fun i hi=>(H.rows i hi).mono h,H.inj,H.dj,H.small⟩
theorem SG.form {W:World} {lo q:Nat} {ov:Value} {gb cp ln:Nat->Nat} {f:Nat->Nat->Int} (H:SG W lo ov q gb cp ln f):∃ oa oc,ov=.slice oa q oc:=by
 rcases H.own.2 with ⟨e,e0⟩ | ⟨g,c,cur,hv,-⟩
 .have:q=0:=by simpa using e0
  exact ⟨none,0,by rw [e,this]⟩
 .exact ⟨_,_,hv⟩
theorem Row.none0 {W:World} {lo g n c:Nat} {f:Nat->Int} (h:Row W lo g n c f) (hg:W.heap[g]?=some (.cells #[] 3 (0,0))):n=0/\c=0:=by
 rcases h.own.2 with ⟨e,_⟩ | ⟨g',cap,cur,hv,hb,hg',h1,h2,h3,h4⟩
 .cases e
 .simp only [Value.slice.injEq,Option.some.injEq,Addr.mk.injEq,and_true,true_and] at hv
  obtain ⟨rfl,rfl⟩:=hv;rw [hg] at hg';simp only [Option.some.injEq,Obj.cells.injEq,and_true] at hg'
  have:cur.size=0:=by rw [<- hg']; rfl
  omega
structure Dv (W:World) (lo:Nat) (v:Value) (d:Aq):Prop where
 ex:∃ (D:Nat->Nat->Prop) (u0 u1 u2 u3 u4 ov:Value) (gb cp:Nat->Nat) (g6 c6 g7 c7:Nat),v=.agg (kR d u0 u1 u2 u3 u4 ov (.slice (some ⟨g6,0,none⟩) d.ns c6) (.slice (some ⟨g7,0,none⟩) d.nq c7))/\Cu W (D 0) u0 d.m d.ln d.f/\Bs W (D 1) u1 d.np d.p/\Bw W (D 2) (.agg #[u2,.i d.bank]) d.nr d.g d.bank/\Co W (D 3) (.agg (pR d.t d.c d.s d.ad d.pl d.bl u3 u4)) d.t d.c d.s d.ad d.pl d.bl d.nt d.tb d.nd d.dt /\
  SG W lo ov d.mf gb cp d.lf d.fr/\(∀ b,(ov.ownBlock=some b\/∃ i,i<d.mf/\gb i=b)->D 4 b)/\Row W lo g6 d.ns c6 d.sm/\(D 5 g6\/(d.ns=0/\c6=0))/\Row W lo g7 d.nq c7 d.rd/\(D 6 g7\/(d.nq=0/\c7=0))/\Dis D/\(∀ i b,D i b->lo<=b/\b<W.heap.size)/\Dw d.lf d.mf<=1099511627776
theorem Row.onE {W:World} {lo g n c:Nat} {f:Nat->Int} {D:Nat->Prop} (h:Row W lo g n c f) (hd:D g\/(n=0/\c=0)):Bs W D (.slice (some ⟨g,0,none⟩) n c) n f:=by
 rcases hd with hd | ⟨rfl,-⟩
 .exact ⟨_,_,rfl,h.onD hd⟩
 .exact ⟨_,_,rfl,Bu.zero _ f⟩
theorem Dv.on {W:World} {lo:Nat} {v:Value} {d:Aq} (H:Dv W lo v d):∃ D,Aw W D v d/\Dis D/\∀ i b,D i b->lo<=b/\b<W.heap.size:=by
 obtain ⟨D,u0,u1,u2,u3,u4,ov,gb,cp,g6,c6,g7,c7,e,h0,h1,h2,h3,h4,h4D,h6,h6D,h7,h7D,dis,bd,hs⟩:=H;exact ⟨D,⟨u0,u1,u2,u3,u4,ov,_,_,e,h0,h1,h2,h3,_,_,_,rfl,h4.onD h4D hs,h6.onE h6D,h7.onE h7D⟩,dis,bd⟩
theorem Y5 (w:World) (D:Nat->Nat->Prop) (v:Value) (d:Aq) (H:Aw w D v d):Calls prog 18 #[v] w fun e w'=>∃ v',e=.returned v'/\Dv w' w.heap.size v' d/\Below w.heap.size w w':=by
 obtain ⟨u0,u1,u2,u3,u4,u5,u6,u7,rfl,h0,h1,h2,h3,h4⟩:=H;obtain ⟨v5,v6,v7,hv,h5,h6,h7⟩:=h4;simp only [Value.agg.injEq,Array.mk.injEq,List.cons.injEq,and_true] at hv;obtain ⟨rfl,rfl,rfl⟩:=hv;obtain ⟨y2,hy2,H2⟩:=h2.ints;simp only [Value.agg.injEq,Array.mk.injEq,List.cons.injEq,and_true] at hy2;subst hy2;obtain ⟨y3,y4,hy3,H3,H4⟩:=h3.ints;simp only [Value.agg.injEq,Array.mk.injEq,List.cons.injEq,and_true,true_and] at hy3;obtain ⟨rfl,rfl⟩:=hy3;have H0:=h0.ints;have H5:=h5.ints;obtain ⟨a6,c6,e6,s6⟩:=id h6;obtain ⟨a7,c7,e7,s7⟩:=id h7;obtain ⟨a1,c1,e1,s1⟩:=id h1;subst e6;subst e7;subst e1;have H1:=s1.ints c1;have H6:=s6.ints c6;have H7:=s7.ints c7;obtain ⟨a0,c0,rfl,-⟩:=id H0;obtain ⟨a5,c5,rfl,-⟩:=id H5;obtain ⟨a2,c2,rfl,-⟩:=id H2;obtain ⟨a3,c3,rfl,-⟩:=id H3;obtain ⟨a4,c4,rfl,-⟩:=id H4
 have hps:=h5.small;clear h0 h1 h2 h3 h5 h6 h7 s1 s6 s7;have L0:Below w.heap.size w ((w.alloc (.cells (kR d (.slice a0 d.m c0) (.slice a1 d.np c1) (.slice a2 d.nr c2) (.slice a3 d.nt c3) (.slice a4 d.nd c4) (.slice a5 d.mf c5) (.slice a6 d.ns c6) (.slice a7 d.nq c7)) 41)).alloc (.cells zR 41)):=((Below.refl _ _).alloc (Nat.le_refl _) _).alloc (by simp) _;have B0:((w.alloc (.cells (kR d (.slice a0 d.m c0) (.slice a1 d.np c1) (.slice a2 d.nr c2) (.slice a3 d.nt c3) (.slice a4 d.nd c4) (.slice a5 d.mf c5) (.slice a6 d.ns c6) (.slice a7 d.nq c7)) 41)).alloc (.cells zR 41)).heap[w.heap.size]?=some (.cells (kR d (.slice a0 d.m c0) (.slice a1 d.np c1) (.slice a2 d.nr c2) (.slice a3 d.nt c3) (.slice a4 d.nd c4) (.slice a5 d.mf c5) (.slice a6 d.ns c6) (.slice a7 d.nq c7)) 41 (0,0)):=Az (Ak w _ _) _
 have B1:((w.alloc (.cells (kR d (.slice a0 d.m c0) (.slice a1 d.np c1) (.slice a2 d.nr c2) (.slice a3 d.nt c3) (.slice a4 d.nd c4) (.slice a5 d.mf c5) (.slice a6 d.ns c6) (.slice a7 d.nq c7)) 41)).alloc (.cells zR 41)).heap[w.heap.size+1]?=some (.cells zR 41 (0,0)):=by simpa using Ak (w.alloc (.cells (kR d (.slice a0 d.m c0) (.slice a1 d.np c1) (.slice a2 d.nr c2) (.slice a3 d.nt c3) (.slice a4 d.nd c4) (.slice a5 d.mf c5) (.slice a6 d.ns c6) (.slice a7 d.nq c7)) 41)) zR 41
 go_enter func18,ntmps18
 go_upto_region 1 with (fail);generalize (w.alloc (.cells (kR d (.slice a0 d.m c0) (.slice a1 d.np c1) (.slice a2 d.nr c2) (.slice a3 d.nt c3) (.slice a4 d.nd c4) (.slice a5 d.mf c5) (.slice a6 d.ns c6) (.slice a7 d.nq c7)) 41)).alloc (.cells zR 41)=W0 at *
 obtain ⟨p0,hp0⟩:∃ p,Hid (p=W0.heap.size):=⟨_,rfl⟩
 have l0:w.heap.size+1<p0:=by rw [hp0.out]; exact Ad B1
 have c0':=Af B0;go_wp2_with fail;clear c0';refine (Ve _ _ _ d.m d.ln d.f (H0.keep (Aa L0 Aj) (fun _ _ _ x=>x))).mono ?_;rintro e W1 ⟨v0,rfl,G0,L⟩
 obtain ⟨p1,hp1⟩:∃ p,Hid (p=W1.heap.size):=⟨_,rfl⟩
 have l1:p0<=p1:=by rw [hp0.out,hp1.out]; exact L.size
 rw [<- hp0.out,<- hp1.out] at G0;replace L0:=Ah L0 L;replace B0:=Ab B0 L (Ad B0);replace B1:=Ab B1 L (Ad B1);clear L hp0;obtain ⟨x0,y0,rfl⟩:=G0.form;have c0':=Af B0;have f0':=Au B0;go_upto_region 2 with (fail);clear c0' f0';have TT:=Wrote.setCell (b:=w.heap.size) (o:=0) (R:=fun b _=>b=w.heap.size) (Wrote.refl _ W1) (fun _=>rfl) (.slice x0 d.m y0);replace L0:=L0.trans (TT.below L0.size (fun b o hb (h:b=_)=>by omega));replace B1:=Al B1 TT (fun o (h:_=_)=>by omega);replace B0:=Am (o:=0) B0 (.slice x0 d.m y0);simp only [Sa,Sb,Sc] at B0;replace G0:=G0.keep TT (fun b o hb _ (h:b=_)=>by obtain ⟨h1,h2⟩:=hb; omega)
 replace hp1:Hid (p1=(W1.setCell ⟨w.heap.size,0,none⟩ (.slice x0 d.m y0)).heap.size):=by show _=_; rw [hp1.out]; simp
 clear TT;generalize W1.setCell ⟨w.heap.size,0,none⟩ (.slice x0 d.m y0)=W2 at *;have LA:Below W2.heap.size W2 (W2.alloc (.cells #[] 3)):=(Below.refl _ _).alloc (Nat.le_refl _) _;have hE:=Ak W2 #[] 3;have c0':=Af (Ab B0 LA (Ad B0))
 have hsA:Hid ((W2.alloc (.cells #[] 3)).heap.size=p1+1):=by show _=_; rw [hp1.out]; simp
 go_wp2_with (at_builtin; refine Fe _ rfl _ _ rfl W2.heap.size rfl hE w.heap.size L0.size _ (.slice a1 d.np c1) d.np d.p rfl (H1.keep (Aa (Ah L0 LA) Aj) (fun _ _ _ x=>x)) ?_);intro g1 y1 W3 G1 L hat;clear c0' hE
 replace L:Below (W2.alloc (.cells #[] 3)).heap.size (W2.alloc (.cells #[] 3)) W3:=by simpa using L
 replace L:=Ah LA L
 have hg1:p1<=g1:=by have:=hp1.out; rcases hat with h | h; (omega); (have:W2.heap.size+1<=g1:=by simpa using h); omega
 clear hat LA hsA
 obtain ⟨p2,hp2⟩:∃ p,Hid (p=W3.heap.size):=⟨_,rfl⟩
 have l2:p1<=p2:=by rw [hp1.out,hp2.out]; exact L.size
 have G1':=G1
 replace G1:Bs W3 (fun b=>p1<=b/\b<p2) (.slice (some ⟨g1,0,none⟩) d.np y1) d.np d.p:=⟨_,_,rfl,G1'.onD ⟨hg1,by rw [hp2.out]; exact G1'.parts.2.1⟩⟩
 clear G1';replace L0:=Ah L0 L;replace B0:=Ab B0 L (Ad B0);replace B1:=Ab B1 L (Ad B1);replace G0:=G0.below L;clear L hp1;have c0':=Af B0;have f0':=Au B0;go_upto_region 3 with (fail);clear c0' f0';have TT:=Wrote.setCell (b:=w.heap.size) (o:=1) (R:=fun b _=>b=w.heap.size) (Wrote.refl _ W3) (fun _=>rfl) (.slice (some ⟨g1,0,none⟩) d.np y1);replace L0:=L0.trans (TT.below L0.size (fun b o hb (h:b=_)=>by omega));replace B1:=Al B1 TT (fun o (h:_=_)=>by omega);replace B0:=Am (o:=1) B0 (.slice (some ⟨g1,0,none⟩) d.np y1);simp only [Sa,Sb,Sc] at B0;replace G0:=G0.keep TT (fun b o hb _ (h:b=_)=>by obtain ⟨h1,h2⟩:=hb; omega);replace G1:=G1.keep TT (fun b o hb _ (h:b=_)=>by obtain ⟨h1,h2⟩:=hb; omega)
 replace hp2:Hid (p2=(W3.setCell ⟨w.heap.size,1,none⟩ (.slice (some ⟨g1,0,none⟩) d.np y1)).heap.size):=by show _=_; rw [hp2.out]; simp
 clear TT;generalize W3.setCell ⟨w.heap.size,1,none⟩ (.slice (some ⟨g1,0,none⟩) d.np y1)=W4 at *;have c0':=Af B0;go_wp2_with fail;clear c0';refine (Nv _ _ _ d.nr d.g d.bank (H2.keep (Aa L0 Aj) (fun _ _ _ x=>x))).mono ?_;rintro e W5 ⟨v2,rfl,G2,L⟩
 obtain ⟨p3,hp3⟩:∃ p,Hid (p=W5.heap.size):=⟨_,rfl⟩
 have l3:p2<=p3:=by rw [hp2.out,hp3.out]; exact L.size
 replace G2:=(Bw.own (bank:=d.bank) G2).mono (E:=fun b=>p2<=b/\b<p3) (fun b hb h=>⟨by rw [hp2.out]; exact h,by rw [hp3.out]; exact hb⟩);replace L0:=Ah L0 L;replace B0:=Ab B0 L (Ad B0);replace B1:=Ab B1 L (Ad B1);replace G0:=G0.below L;replace G1:=G1.below L;clear L hp2;obtain ⟨x2,y2,hx2⟩:=G2.two;simp only [Value.agg.injEq,Array.mk.injEq,List.cons.injEq,and_true] at hx2;subst hx2;have c0':=Af B0;have f0':=Au B0;go_upto_region 4 with (fail);clear c0' f0';have TT:=Wrote.setCell (b:=w.heap.size) (o:=3) (R:=fun b _=>b=w.heap.size) (Wrote.setCell (b:=w.heap.size) (o:=2) (R:=fun b _=>b=w.heap.size) (Wrote.refl _ W5) (fun _=>rfl) (.slice x2 d.nr y2)) (fun _=>rfl) (.i d.bank);replace L0:=L0.trans (TT.below L0.size (fun b o hb (h:b=_)=>by omega))
 replace B1:=Al B1 TT (fun o (h:_=_)=>by omega);replace B0:=Am (o:=2) B0 (.slice x2 d.nr y2);replace B0:=Am (o:=3) B0 (.i d.bank);simp only [Sa,Sb,Sc] at B0;replace G0:=G0.keep TT (fun b o hb _ (h:b=_)=>by obtain ⟨h1,h2⟩:=hb; omega);replace G1:=G1.keep TT (fun b o hb _ (h:b=_)=>by obtain ⟨h1,h2⟩:=hb; omega);replace G2:=G2.keep TT (fun b o hb _ (h:b=_)=>by obtain ⟨h1,h2⟩:=hb; omega)
 replace hp3:Hid (p3=((W5.setCell ⟨w.heap.size,2,none⟩ (.slice x2 d.nr y2)).setCell ⟨w.heap.size,3,none⟩ (.i d.bank)).heap.size):=by show _=_; rw [hp3.out]; simp
 clear TT;generalize (W5.setCell ⟨w.heap.size,2,none⟩ (.slice x2 d.nr y2)).setCell ⟨w.heap.size,3,none⟩ (.i d.bank)=W6 at *;have c0':=Af B0;go_wp2_with fail;clear c0';refine (Rx _ _ _ d.t d.c d.s d.ad d.pl d.bl _ _ d.nt d.tb d.nd d.dt (H3.keep (Aa L0 Aj) (fun _ _ _ x=>x)) (H4.keep (Aa L0 Aj) (fun _ _ _ x=>x))).mono ?_;rintro e W7 ⟨g3,y3,g4,y4,rfl,R3,R4,n34,L⟩
 obtain ⟨p4,hp4⟩:∃ p,Hid (p=W7.heap.size):=⟨_,rfl⟩
 have l4:p3<=p4:=by rw [hp3.out,hp4.out]; exact L.size
 have G3:Co W7 (fun b=>p3<=b/\b<p4) (.agg (pR d.t d.c d.s d.ad d.pl d.bl (.slice (some ⟨g3,0,none⟩) d.nt y3) (.slice (some ⟨g4,0,none⟩) d.nd y4))) d.t d.c d.s d.ad d.pl d.bl d.nt d.tb d.nd d.dt:=⟨_,_,_,_,rfl,R3.onD ⟨by rw [hp3.out]; exact R3.parts.1,by rw [hp4.out]; exact R3.parts.2.1⟩,R4.onD ⟨by rw [hp3.out]; exact R4.parts.1,by rw [hp4.out]; exact R4.parts.2.1⟩,Ik n34⟩
 clear R3 R4 n34;replace L0:=Ah L0 L;replace B0:=Ab B0 L (Ad B0);replace B1:=Ab B1 L (Ad B1);replace G0:=G0.below L;replace G1:=G1.below L;replace G2:=G2.below L;clear L hp3;have c0':=Af B0;have f0':=Au B0;go_upto_region 5 with (fail);clear c0' f0'
 have TT:=Wrote.setCell (b:=w.heap.size) (o:=19) (R:=fun b _=>b=w.heap.size) (Wrote.setCell (b:=w.heap.size) (o:=18) (R:=fun b _=>b=w.heap.size) (Wrote.setCell (b:=w.heap.size) (o:=17) (R:=fun b _=>b=w.heap.size) (Wrote.setCell (b:=w.heap.size) (o:=16) (R:=fun b _=>b=w.heap.size) (Wrote.setCell (b:=w.heap.size) (o:=15) (R:=fun b _=>b=w.heap.size) (Wrote.setCell (b:=w.heap.size) (o:=14) (R:=fun b _=>b=w.heap.size) (Wrote.setCell (b:=w.heap.size) (o:=13) (R:=fun b _=>b=w.heap.size) (Wrote.setCell (b:=w.heap.size) (o:=12) (R:=fun b _=>b=w.heap.size) (Wrote.refl _ W7) (fun _=>rfl) (.i d.t)) (fun _=>rfl) (.i d.c)) (fun _=>rfl) (.i d.s)) (fun _=>rfl) (.i d.ad)) (fun _=>rfl) (.i d.pl)) (fun _=>rfl) (.bool d.bl)) (fun _=>rfl) (.slice (some ⟨g3,0,none⟩) d.nt y3)) (fun _=>rfl) (.slice (some ⟨g4,0,none⟩) d.nd y4)
 replace L0:=L0.trans (TT.below L0.size (fun b o hb (h:b=_)=>by omega));replace B1:=Al B1 TT (fun o (h:_=_)=>by omega);replace B0:=Am (o:=12) B0 (.i d.t);replace B0:=Am (o:=13) B0 (.i d.c);replace B0:=Am (o:=14) B0 (.i d.s);replace B0:=Am (o:=15) B0 (.i d.ad);replace B0:=Am (o:=16) B0 (.i d.pl);replace B0:=Am (o:=17) B0 (.bool d.bl);replace B0:=Am (o:=18) B0 (.slice (some ⟨g3,0,none⟩) d.nt y3);replace B0:=Am (o:=19) B0 (.slice (some ⟨g4,0,none⟩) d.nd y4);simp only [Sa,Sb,Sc] at B0;replace G0:=G0.keep TT (fun b o hb _ (h:b=_)=>by obtain ⟨h1,h2⟩:=hb; omega);replace G1:=G1.keep TT (fun b o hb _ (h:b=_)=>by obtain ⟨h1,h2⟩:=hb; omega);replace G2:=G2.keep TT (fun b o hb _ (h:b=_)=>by obtain ⟨h1,h2⟩:=hb; omega)
 replace G3:=G3.keep TT (fun b o hb _ (h:b=_)=>by obtain ⟨h1,h2⟩:=hb; omega)
 replace hp4:Hid (p4=((((((((W7.setCell ⟨w.heap.size,12,none⟩ (.i d.t)).setCell ⟨w.heap.size,13,none⟩ (.i d.c)).setCell ⟨w.heap.size,14,none⟩ (.i d.s)).setCell ⟨w.heap.size,15,none⟩ (.i d.ad)).setCell ⟨w.heap.size,16,none⟩ (.i d.pl)).setCell ⟨w.heap.size,17,none⟩ (.bool d.bl)).setCell ⟨w.heap.size,18,none⟩ (.slice (some ⟨g3,0,none⟩) d.nt y3)).setCell ⟨w.heap.size,19,none⟩ (.slice (some ⟨g4,0,none⟩) d.nd y4)).heap.size):=by show _=_; rw [hp4.out]; simp
 clear TT;generalize (((((((W7.setCell ⟨w.heap.size,12,none⟩ (.i d.t)).setCell ⟨w.heap.size,13,none⟩ (.i d.c)).setCell ⟨w.heap.size,14,none⟩ (.i d.s)).setCell ⟨w.heap.size,15,none⟩ (.i d.ad)).setCell ⟨w.heap.size,16,none⟩ (.i d.pl)).setCell ⟨w.heap.size,17,none⟩ (.bool d.bl)).setCell ⟨w.heap.size,18,none⟩ (.slice (some ⟨g3,0,none⟩) d.nt y3)).setCell ⟨w.heap.size,19,none⟩ (.slice (some ⟨g4,0,none⟩) d.nd y4)=W8 at *
 obtain ⟨S,hS⟩:∃ S,Hid (S=W8.heap.size):=⟨_,rfl⟩
 rename_i KK hKK
 refine Ji [some 20,some 21,some 22,some 23,some 24,some 25,some 26,some 27,some 28,some 29,some 30,some 31,some 32,some 33,some 34,some 35,none] (by kernel_rfl) (by kernel_rfl) (by kernel_rfl) (by kernel_rfl) (by simp [slotsOf])
  (fun j b _=>j=16/\b=w.heap.size)
  (fun i V lo hi W=>match i with
   | 0=>V 0=(pt w.heap.size 31)
   | 1=>V 1=(pt w.heap.size 31)
   | 2=>V 2=.slice a5 d.mf c5
   | 3=>∃ gb cp,SG W lo (V 3) d.mf gb cp d.lf d.fr/\∀ b,((V 3).ownBlock=some b\/∃ i,i<d.mf/\gb i=b)->b<hi
   | 4=>∃ gE,V 4=.slice (some ⟨gE,0,none⟩) 0 0/\W.heap[gE]?=some (.cells #[] 3 (0,0))/\S<=gE
   | 5=>V 5=(pt w.heap.size 31)
   | 6=>V 6=(pt w.heap.size 32)
   | 7=>V 7=.slice a6 d.ns c6
   | 8=>∃ g c,V 8=.slice (some ⟨g,0,none⟩) d.ns c/\Row W S g d.ns c d.sm/\((lo<=g/\g<hi)\/(d.ns=0/\c=0))
   | 9=>∃ gE,V 9=.slice (some ⟨gE,0,none⟩) 0 0/\W.heap[gE]?=some (.cells #[] 3 (0,0))/\S<=gE
   | 10=>V 10=(pt w.heap.size 31)
   | 11=>V 11=(pt w.heap.size 33)
   | 12=>V 12=.slice a7 d.nq c7
   | 13=>∃ g c,V 13=.slice (some ⟨g,0,none⟩) d.nq c/\Row W S g d.nq c d.rd/\((lo<=g/\g<hi)\/(d.nq=0/\c=0))
   | 14=>V 14=.agg #[V 3,V 8,V 13]
   | 15=>V 15=(pt w.heap.size 31)
   | _=>W.heap[w.heap.size]?=some (.cells (kR d (.slice x0 d.m y0) (.slice (some ⟨g1,0,none⟩) d.np y1) (.slice x2 d.nr y2) (.slice (some ⟨g3,0,none⟩) d.nt y3) (.slice (some ⟨g4,0,none⟩) d.nd y4) (V 3) (V 8) (V 13)) 41 (0,0))) ?_ ?_ ?_
 .intro i j o V x lo hi W W' hij ho hnw hlo hhi hW h
  have hS':=hS.out;have hb1:=Ad B1
  have far:∀ (g k:Nat),S<=g->¬ (j=16/\g=w.heap.size):=fun g k hg hR=>by omega
  have nw:∀ k,A0 o k=true->k≠j:=fun k hk e=>by rw [e,hnw] at hk; cases hk
  match i,ho,hij,nw,h with
  | 0,_,hij,_,h=>exact (Ar V x hij).trans h
  | 1,_,hij,_,h=>exact (Ar V x hij).trans h
  | 2,_,hij,_,h=>exact (Ar V x hij).trans h
  | 5,_,hij,_,h=>exact (Ar V x hij).trans h
  | 6,_,hij,_,h=>exact (Ar V x hij).trans h
  | 7,_,hij,_,h=>exact (Ar V x hij).trans h
  | 10,_,hij,_,h=>exact (Ar V x hij).trans h
  | 11,_,hij,_,h=>exact (Ar V x hij).trans h
  | 12,_,hij,_,h=>exact (Ar V x hij).trans h
  | 15,_,hij,_,h=>exact (Ar V x hij).trans h
  | 3,_,hij,_,⟨gb,cp,h1,h2⟩ =>
   rw [<- Ar V x hij] at h1 h2;exact ⟨gb,cp,h1.keep hW (fun g o hg=>far g o (by have:=Df h1.own hg; omega)) (fun i o hi=>far _ o (by have:=(h1.rows i hi).parts.1; omega)),h2⟩
  | 4,_,hij,_,⟨gE,h1,h2,h3⟩=>exact ⟨gE,(Ar V x hij).trans h1,Al h2 hW (fun o=>far gE o h3),h3⟩
  | 9,_,hij,_,⟨gE,h1,h2,h3⟩=>exact ⟨gE,(Ar V x hij).trans h1,Al h2 hW (fun o=>far gE o h3),h3⟩
  | 8,_,hij,_,⟨g,c,h1,h2,h3⟩=>exact ⟨g,c,(Ar V x hij).trans h1,h2.keep hW (fun o=>far g o h2.parts.1),h3⟩
  | 13,_,hij,_,⟨g,c,h1,h2,h3⟩=>exact ⟨g,c,(Ar V x hij).trans h1,h2.keep hW (fun o=>far g o h2.parts.1),h3⟩
  | 14,ho,hij,nw,h =>
   cases ho
   show Dg V j x 14=.agg #[Dg V j x 3,Dg V j x 8,Dg V j x 13]
   rw [Ar V x hij,Ar V x (nw 3 (by kernel_rfl)),Ar V x (nw 8 (by kernel_rfl)),Ar V x (nw 13 (by kernel_rfl))];exact h
  | 16,ho,hij,nw,h =>
   cases ho
   show W'.heap[w.heap.size]?=some (.cells (kR d (.slice x0 d.m y0) (.slice (some ⟨g1,0,none⟩) d.np y1) (.slice x2 d.nr y2) (.slice (some ⟨g3,0,none⟩) d.nt y3) (.slice (some ⟨g4,0,none⟩) d.nd y4) (Dg V j x 3) (Dg V j x 8) (Dg V j x 13)) 41 (0,0))
   rw [Ar V x (nw 3 (by kernel_rfl)),Ar V x (nw 8 (by kernel_rfl)),Ar V x (nw 13 (by kernel_rfl))];exact Al h hW (fun o ⟨e,_⟩=>hij e.symm)
  | n+17,ho,_,_,_=>simp at ho
 .intro i o a' W K ho F L hw hK
  have hS':=hS.out;have t1:=F.get (t:=1) (v:=(pt w.heap.size 0)) (by decide) rfl;have LW:Below w.heap.size w W:=L0.trans (L.below L0.size (fun b o hb ⟨j,_,_,_,_,h⟩=>by omega))
  have WS:S<=W.heap.size:=by have:=L.size; omega
  have r0:i≠16->(∀ oi,A0 oi i=true\/True)->True:=fun _ _=>trivial
  match i with
  | 0 =>
    cases ho;go_simp;exact Hk hK (Ai _ _ _)
  | 1 =>
    cases ho;obtain ⟨_,_,_,_,q0⟩:=Hr hw 0;replace q0:a'.tmps[20]?.getD undef=(pt w.heap.size 31):=q0;go_simp;exact Hk hK (Ai _ _ _)
  | 2 =>
    cases ho;obtain ⟨_,_,_,_,q1⟩:=Hr hw 1;replace q1:a'.tmps[21]?.getD undef=(pt w.heap.size 31):=q1
    have rb:=Af (Al B0 L (fun k ⟨j,oj,hj,hoj,hwj,hR⟩=>by
     obtain ⟨rfl,-⟩:=hR;simp only [Sg,Sh,Si,Option.some.injEq] at hoj;subst hoj
     cases hwj.symm.trans (show A0 _ 2=true by kernel_rfl)))
    go_simp;exact Hk hK (Ai _ _ _)
  | 3 =>
    cases ho;obtain ⟨_,_,_,_,q2⟩:=Hr hw 2;replace q2:a'.tmps[22]?.getD undef=.slice a5 d.mf c5:=q2;go_simp;refine (Jeq W _ _ d.mf d.lf d.fr (H5.keep (Aa LW Aj) (fun _ _ _ x=>x))).mono ?_;rintro e W' ⟨ov,gb,cp,rfl,hG,hB⟩;refine hK _ _ (Aa hB _) ?_
    show ∃ gb cp,SG W' W.heap.size (Dg _ 3 ov 3) d.mf gb cp d.lf d.fr/\_
    rw [Ai]
    exact ⟨gb,cp,hG,fun b h=>by
     rcases h with h | ⟨i,hi,rfl⟩
     .exact (Df hG.own h).2
     .exact (hG.rows i hi).parts.2.1⟩
  | 4 =>
    cases ho;go_simp;exact hK _ _ ((Wrote.refl _ W).alloc _) ⟨_,Ai _ _ _,Ak W #[] 3,WS⟩
  | 5 =>
    cases ho;go_simp;exact Hk hK (Ai _ _ _)
  | 6 =>
    cases ho;obtain ⟨_,_,_,_,q5⟩:=Hr hw 5;replace q5:a'.tmps[25]?.getD undef=(pt w.heap.size 31):=q5;go_simp;exact Hk hK (Ai _ _ _)
  | 7 =>
    cases ho;obtain ⟨_,_,_,_,q6⟩:=Hr hw 6;replace q6:a'.tmps[26]?.getD undef=(pt w.heap.size 32):=q6
    have rb:=Af (Al B0 L (fun k ⟨j,oj,hj,hoj,hwj,hR⟩=>by
     obtain ⟨rfl,-⟩:=hR;simp only [Sg,Sh,Si,Option.some.injEq] at hoj;subst hoj
     cases hwj.symm.trans (show A0 _ 7=true by kernel_rfl)))
    go_simp;exact Hk hK (Ai _ _ _)
  | 8 =>
    cases ho;obtain ⟨_,_,_,_,gE,q0,q1,q2⟩:=Hr hw 4;replace q0:a'.tmps[24]?.getD undef=.slice (some ⟨gE,0,none⟩) 0 0:=q0;obtain ⟨_,_,_,_,q7⟩:=Hr hw 7;replace q7:a'.tmps[27]?.getD undef=.slice a6 d.ns c6:=q7;refine Jq W (.tmp 24) (.tmp 27) rfl gE (by simpa [Act.eval] using q0) q1 S q2 _ _ d.ns d.sm (by simpa [Act.eval] using q7) (H6.keep (Aa LW Aj) (fun _ _ _ x=>x)) ?_;intro g c W' hR hB hat;refine hK _ _ (Aa hB _) ⟨g,c,Ai _ _ _,hR,?_⟩
    rcases hat with h | h
    .exact Or.inr (hR.none0 (by rw [h]; exact Ab q1 hB (Ad q1)))
    .exact Or.inl ⟨h,hR.parts.2.1⟩
  | 9 =>
    cases ho;go_simp;exact hK _ _ ((Wrote.refl _ W).alloc _) ⟨_,Ai _ _ _,Ak W #[] 3,WS⟩
  | 10 =>
    cases ho;go_simp;exact Hk hK (Ai _ _ _)
  | 11 =>
    cases ho;obtain ⟨_,_,_,_,q10⟩:=Hr hw 10;replace q10:a'.tmps[30]?.getD undef=(pt w.heap.size 31):=q10;go_simp;exact Hk hK (Ai _ _ _)
  | 12 =>
    cases ho;obtain ⟨_,_,_,_,q11⟩:=Hr hw 11;replace q11:a'.tmps[31]?.getD undef=(pt w.heap.size 33):=q11
    have rb:=Af (Al B0 L (fun k ⟨j,oj,hj,hoj,hwj,hR⟩=>by
     obtain ⟨rfl,-⟩:=hR;simp only [Sg,Sh,Si,Option.some.injEq] at hoj;subst hoj
     cases hwj.symm.trans (show A0 _ 12=true by kernel_rfl)))
    go_simp;exact Hk hK (Ai _ _ _)
  | 13 =>
    cases ho;obtain ⟨_,_,_,_,gE,q0,q1,q2⟩:=Hr hw 9;replace q0:a'.tmps[29]?.getD undef=.slice (some ⟨gE,0,none⟩) 0 0:=q0;obtain ⟨_,_,_,_,q12⟩:=Hr hw 12;replace q12:a'.tmps[32]?.getD undef=.slice a7 d.nq c7:=q12;refine Jq W (.tmp 29) (.tmp 32) rfl gE (by simpa [Act.eval] using q0) q1 S q2 _ _ d.nq d.rd (by simpa [Act.eval] using q12) (H7.keep (Aa LW Aj) (fun _ _ _ x=>x)) ?_;intro g c W' hR hB hat;refine hK _ _ (Aa hB _) ⟨g,c,Ai _ _ _,hR,?_⟩
    rcases hat with h | h
    .exact Or.inr (hR.none0 (by rw [h]; exact Ab q1 hB (Ad q1)))
    .exact Or.inl ⟨h,hR.parts.2.1⟩
  | 14 =>
    cases ho;obtain ⟨_,_,_,_,gb,cp,q3,_⟩:=Hr hw 3;obtain ⟨oa,oc,e3⟩:=q3.form;obtain ⟨_,_,_,_,g8,c8,e8,_⟩:=Hr hw 8;obtain ⟨_,_,_,_,g13,c13,e13,_⟩:=Hr hw 13;have t23:a'.tmps[23]?.getD undef=.slice oa d.mf oc:=e3;have t28:a'.tmps[28]?.getD undef=.slice (some ⟨g8,0,none⟩) d.ns c8:=e8;have t33:a'.tmps[33]?.getD undef=.slice (some ⟨g13,0,none⟩) d.nq c13:=e13;go_simp;refine Hk hK ?_
    show Dg (Bi [some 20,some 21,some 22,some 23,some 24,some 25,some 26,some 27,some 28,some 29,some 30,some 31,some 32,some 33,some 34,some 35,none] a') 14 _ 14=.agg #[Dg (Bi [some 20,some 21,some 22,some 23,some 24,some 25,some 26,some 27,some 28,some 29,some 30,some 31,some 32,some 33,some 34,some 35,none] a') 14 _ 3,Dg (Bi [some 20,some 21,some 22,some 23,some 24,some 25,some 26,some 27,some 28,some 29,some 30,some 31,some 32,some 33,some 34,some 35,none] a') 14 _ 8,Dg (Bi [some 20,some 21,some 22,some 23,some 24,some 25,some 26,some 27,some 28,some 29,some 30,some 31,some 32,some 33,some 34,some 35,none] a') 14 _ 13]
    rw [Ai,Ar _ _ (by decide),Ar _ _ (by decide),Ar _ _ (by decide),e3,e8,e13]
    rfl
  | 15 =>
    cases ho;go_simp;exact Hk hK (Ai _ _ _)
  | 16 =>
    cases ho;obtain ⟨_,_,_,_,gb,cp,q3,_⟩:=Hr hw 3;obtain ⟨oa,oc,e3⟩:=q3.form;obtain ⟨_,_,_,_,g8,c8,e8,_⟩:=Hr hw 8;obtain ⟨_,_,_,_,g13,c13,e13,_⟩:=Hr hw 13;have t23:a'.tmps[23]?.getD undef=.slice oa d.mf oc:=e3;have t28:a'.tmps[28]?.getD undef=.slice (some ⟨g8,0,none⟩) d.ns c8:=e8;have t33:a'.tmps[33]?.getD undef=.slice (some ⟨g13,0,none⟩) d.nq c13:=e13;obtain ⟨_,_,_,_,q15⟩:=Hr hw 15;replace q15:a'.tmps[35]?.getD undef=(pt w.heap.size 31):=q15;obtain ⟨_,_,_,_,q14⟩:=Hr hw 14
    replace q14:a'.tmps[34]?.getD undef=.agg #[.slice oa d.mf oc,.slice (some ⟨g8,0,none⟩) d.ns c8,.slice (some ⟨g13,0,none⟩) d.nq c13]:=by
     have:=q14;rw [e3,e8,e13] at this;exact this
    have rb:=Al B0 L (fun k ⟨j,oj,hj,hoj,hwj,hR⟩=>hj hR.1);have c0':=Af rb;have f0':=Au rb;have HB:=Am (o:=33) (Am (o:=32) (Am (o:=31) rb (.slice oa d.mf oc)) (.slice (some ⟨g8,0,none⟩) d.ns c8)) (.slice (some ⟨g13,0,none⟩) d.nq c13);simp only [Sa,Sb,Sc] at HB;have HBB:=Ac HB;clear HB rb B0 B1;go_simp;refine hK undef _ (Wrote.setCell (Wrote.setCell (Wrote.setCell (Wrote.refl _ W) (fun _=>⟨rfl,rfl⟩) _) (fun _=>⟨rfl,rfl⟩) _) (fun _=>⟨rfl,rfl⟩) _) ?_;have n3:=Ar (Bi [some 20,some 21,some 22,some 23,some 24,some 25,some 26,some 27,some 28,some 29,some 30,some 31,some 32,some 33,some 34,some 35,none] a') (i:=16) (k:=3) undef (by decide)
    have n8:=Ar (Bi [some 20,some 21,some 22,some 23,some 24,some 25,some 26,some 27,some 28,some 29,some 30,some 31,some 32,some 33,some 34,some 35,none] a') (i:=16) (k:=8) undef (by decide);have n13:=Ar (Bi [some 20,some 21,some 22,some 23,some 24,some 25,some 26,some 27,some 28,some 29,some 30,some 31,some 32,some 33,some 34,some 35,none] a') (i:=16) (k:=13) undef (by decide);rw [e3] at n3;rw [e8] at n8;rw [e13] at n13
    show (_:World).heap[w.heap.size]?=some (.cells (kR d (.slice x0 d.m y0) (.slice (some ⟨g1,0,none⟩) d.np y1) (.slice x2 d.nr y2) (.slice (some ⟨g3,0,none⟩) d.nt y3) (.slice (some ⟨g4,0,none⟩) d.nd y4) (Dg (Bi [some 20,some 21,some 22,some 23,some 24,some 25,some 26,some 27,some 28,some 29,some 30,some 31,some 32,some 33,some 34,some 35,none] a') 16 undef 3) (Dg (Bi [some 20,some 21,some 22,some 23,some 24,some 25,some 26,some 27,some 28,some 29,some 30,some 31,some 32,some 33,some 34,some 35,none] a') 16 undef 8) (Dg (Bi [some 20,some 21,some 22,some 23,some 24,some 25,some 26,some 27,some 28,some 29,some 30,some 31,some 32,some 33,some 34,some 35,none] a') 16 undef 13)) 41 (0,0))
    rw [n3,n8,n13];exact HBB.out
  | n+17=>simp at ho
 .intro a' W F L lo hi hφ hdj
  have hS':=hS.out;have hp4':=hp4.out;have hb1:=Ad B1;obtain ⟨b3a,b3b,b3c,gb,cp,G4,G4h⟩:=Hd hφ 3;obtain ⟨b8a,b8b,b8c,g6,y6,e8,R6,R6h⟩:=Hd hφ 8;obtain ⟨b13a,b13b,b13c,g7,y7,e13,R7,R7h⟩:=Hd hφ 13;obtain ⟨-,-,-,BX⟩:=Hd hφ 16;have d1:=hdj 3 8 (by decide) (by decide) (by decide);have d2:=hdj 3 13 (by decide) (by decide) (by decide);have d3:=hdj 8 13 (by decide) (by decide) (by decide);obtain ⟨oa,oc,e3⟩:=G4.form;rw [e3] at G4 G4h
  replace BX:W.heap[w.heap.size]?=some (.cells (kR d (.slice x0 d.m y0) (.slice (some ⟨g1,0,none⟩) d.np y1) (.slice x2 d.nr y2) (.slice (some ⟨g3,0,none⟩) d.nt y3) (.slice (some ⟨g4,0,none⟩) d.nd y4) (.slice oa d.mf oc) (.slice (some ⟨g6,0,none⟩) d.ns y6) (.slice (some ⟨g7,0,none⟩) d.nq y7)) 41 (0,0)):=by
   have:=BX;simp only [e3,e8,e13] at this;exact this
  have LW:Below w.heap.size w W:=L0.trans (L.below L0.size (fun b o hb ⟨j,h⟩=>by omega));have rB1:=Al B1 L (fun o ⟨j,h⟩=>by omega);replace G0:=G0.keep L (fun b o hb _ ⟨j,_,e⟩=>by obtain ⟨h1,h2⟩:=hb; omega);replace G1:=G1.keep L (fun b o hb _ ⟨j,_,e⟩=>by obtain ⟨h1,h2⟩:=hb; omega);replace G2:=G2.keep L (fun b o hb _ ⟨j,_,e⟩=>by obtain ⟨h1,h2⟩:=hb; omega);replace G3:=G3.keep L (fun b o hb _ ⟨j,_,e⟩=>by obtain ⟨h1,h2⟩:=hb; omega);rw [F.same,show slotsOf [some 20,some 21,some 22,some 23,some 24,some 25,some 26,some 27,some 28,some 29,some 30,some 31,some 32,some 33,some 34,some 35,none]=[20,21,22,23,24,25,26,27,28,29,30,31,32,33,34,35] from rfl];simp only [List.foldl_cons,List.foldl_nil];clear hφ hdj e3 e8 e13 F L B0 B1 H0 H1 H2 H3 H4 H5 H6 H7 L0;generalize a'.tmps[20]?.getD undef=s20
  generalize a'.tmps[21]?.getD undef=s21;generalize a'.tmps[22]?.getD undef=s22;generalize a'.tmps[23]?.getD undef=s23;generalize a'.tmps[24]?.getD undef=s24;generalize a'.tmps[25]?.getD undef=s25;generalize a'.tmps[26]?.getD undef=s26;generalize a'.tmps[27]?.getD undef=s27;generalize a'.tmps[28]?.getD undef=s28;generalize a'.tmps[29]?.getD undef=s29;generalize a'.tmps[30]?.getD undef=s30;generalize a'.tmps[31]?.getD undef=s31;generalize a'.tmps[32]?.getD undef=s32;generalize a'.tmps[33]?.getD undef=s33;generalize a'.tmps[34]?.getD undef=s34;generalize a'.tmps[35]?.getD undef=s35;refine hKK _ _ ?_;clear hKK;go_simp;go_upto_region 6 with (fail);rename_i K2 hK2;refine wp_region_lit ?_;refine wpList_load_row rfl _ _ rfl w.heap.size rfl _ _ _ _ BX underlying41 rfl An ?_
  refine wpList_store_row rfl _ _ _ rfl (w.heap.size+1) _ rfl rfl _ _ rB1 An rfl (by first | kernel_rfl | simp [Value.oneCell']) ?_;refine hK2 _ _ ?_;have B3:=setRow_heap _ _ _ (kR d (.slice x0 d.m y0) (.slice (some ⟨g1,0,none⟩) d.np y1) (.slice x2 d.nr y2) (.slice (some ⟨g3,0,none⟩) d.nt y3) (.slice (some ⟨g4,0,none⟩) d.nd y4) (.slice oa d.mf oc) (.slice (some ⟨g6,0,none⟩) d.ns y6) (.slice (some ⟨g7,0,none⟩) d.nq y7)) _ _ rB1;have WW:=As rB1 (kR d (.slice x0 d.m y0) (.slice (some ⟨g1,0,none⟩) d.np y1) (.slice x2 d.nr y2) (.slice (some ⟨g3,0,none⟩) d.nt y3) (.slice (some ⟨g4,0,none⟩) d.nd y4) (.slice oa d.mf oc) (.slice (some ⟨g6,0,none⟩) d.ns y6) (.slice (some ⟨g7,0,none⟩) d.nq y7));have HR:=Ac (And.intro G0 (And.intro G1 (And.intro G2 (And.intro G3 (And.intro G4 (And.intro R6 R7))))));clear G0 G1 G2 G3 G4 R6 R7 BX;go_wp2
  refine bodyPost_ret (v:=.agg (kR d (.slice x0 d.m y0) (.slice (some ⟨g1,0,none⟩) d.np y1) (.slice x2 d.nr y2) (.slice (some ⟨g3,0,none⟩) d.nt y3) (.slice (some ⟨g4,0,none⟩) d.nd y4) (.slice oa d.mf oc) (.slice (some ⟨g6,0,none⟩) d.ns y6) (.slice (some ⟨g7,0,none⟩) d.nq y7))) (results_cell_row (by rfl) _ _ (w.heap.size+1) _ _ _ _ rfl B3 underlying41 rfl An) rfl ?_;have hW9:=WW.size;generalize W.setRow (w.heap.size+1) (kR d (.slice x0 d.m y0) (.slice (some ⟨g1,0,none⟩) d.np y1) (.slice x2 d.nr y2) (.slice (some ⟨g3,0,none⟩) d.nt y3) (.slice (some ⟨g4,0,none⟩) d.nd y4) (.slice oa d.mf oc) (.slice (some ⟨g6,0,none⟩) d.ns y6) (.slice (some ⟨g7,0,none⟩) d.nq y7))=W9 at *;obtain ⟨G0,G1,G2,G3,G4,R6,R7⟩:=HR.out
  have k4:=G4.keep WW (fun g o hg (e:g=_)=>by have:=Df G4.own hg; omega) (fun i o hi (e:_=_)=>by have:=(G4.rows i hi).parts.1; omega)
  refine ⟨_,rfl,⟨fun i b=>(i=0/\p0<=b/\b<p1)\/(i=1/\p1<=b/\b<p2)\/(i=2/\p2<=b/\b<p3)\/(i=3/\p3<=b/\b<p4)\/(i=4/\lo 3<=b/\b<hi 3)\/(i=5/\lo 8<=b/\b<hi 8)\/(i=6/\lo 13<=b/\b<hi 13),
   _,_,_,_,_,_,gb,cp,g6,y6,g7,y7,rfl,
   (G0.keep WW (fun b o hb _ (h:b=_)=>by obtain ⟨h1,h2⟩:=hb; omega)).mono (fun b _ h=>Or.inl ⟨rfl,h⟩),
   (G1.keep WW (fun b o hb _ (h:b=_)=>by obtain ⟨h1,h2⟩:=hb; omega)).mono (fun b _ h=>Or.inr (Or.inl ⟨rfl,h⟩)),
   (G2.keep WW (fun b o hb _ (h:b=_)=>by obtain ⟨h1,h2⟩:=hb; omega)).mono (fun b _ h=>Or.inr (Or.inr (Or.inl ⟨rfl,h⟩))),
   (G3.keep WW (fun b o hb _ (h:b=_)=>by obtain ⟨h1,h2⟩:=hb; omega)).mono (fun b _ h=>Or.inr (Or.inr (Or.inr (Or.inl ⟨rfl,h⟩)))),
   k4.mono (by omega),?_,
   (R6.keep WW (fun o (h:_=_)=>by have:=R6.parts.1; omega)).mono (by omega),?_,
   (R7.keep WW (fun o (h:_=_)=>by have:=R7.parts.1; omega)).mono (by omega),?_,?_,?_,hps⟩,LW.trans (WW.below LW.size (fun b o hb (h:b=_)=>by omega))⟩
  .intro b hb
   have:=G4h b hb
   rcases hb with hb | ⟨i,hi',rfl⟩
   .have:=Df G4.own hb
    exact Or.inr (Or.inr (Or.inr (Or.inr (Or.inl ⟨rfl,by omega,by omega⟩))))
   .have:=(G4.rows i hi').parts.1
    exact Or.inr (Or.inr (Or.inr (Or.inr (Or.inl ⟨rfl,by omega,by omega⟩))))
  .rcases R6h with h | h
   .exact Or.inl (Or.inr (Or.inr (Or.inr (Or.inr (Or.inr (Or.inl ⟨rfl,h⟩))))))
   .exact Or.inr h
  .rcases R7h with h | h
   .exact Or.inl (Or.inr (Or.inr (Or.inr (Or.inr (Or.inr (Or.inr ⟨rfl,h⟩))))))
   .exact Or.inr h
  .intro i j b h1 h2
   rcases h1 with ⟨rfl,_,_⟩ | ⟨rfl,_,_⟩ | ⟨rfl,_,_⟩ | ⟨rfl,_,_⟩ | ⟨rfl,_,_⟩ | ⟨rfl,_,_⟩ | ⟨rfl,_,_⟩ <;> rcases h2 with ⟨rfl,_,_⟩ | ⟨rfl,_,_⟩ | ⟨rfl,_,_⟩ | ⟨rfl,_,_⟩ | ⟨rfl,_,_⟩ | ⟨rfl,_,_⟩ | ⟨rfl,_,_⟩ <;> first | rfl | omega
  .intro i b h
   rcases h with ⟨rfl,_,_⟩ | ⟨rfl,_,_⟩ | ⟨rfl,_,_⟩ | ⟨rfl,_,_⟩ | ⟨rfl,_,_⟩ | ⟨rfl,_,_⟩ | ⟨rfl,_,_⟩ <;> omega
end Go.Proofs.YtijljlnooibbmaaGreatDoor
