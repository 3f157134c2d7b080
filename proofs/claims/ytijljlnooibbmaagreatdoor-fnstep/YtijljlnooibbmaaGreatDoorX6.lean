import Derived.Test.YtijljlnooibbmaaGreatDoorX4
import Derived.Test.YtijljlnooibbmaaGreatDoorKS
import Derived.Test.YtijljlnooibbmaaGreatDoorSP
namespace Go.Proofs.YtijljlnooibbmaaGreatDoor
open Go.ChangeShapes Go.WideShapes Go.ChangeAt Go.RowKit
theorem Code.up {w w':World} {B:Nat} {a:Option Addr} {len:Nat} (H:Code w B a len) (hb:Below B w w') {B':Nat} (h:B<=B'):Code w' B' a len :=
 ⟨H.le,fun i hi=>by
  obtain ⟨b,off,ha,hlt,n,hc,h0,h1⟩:=H.at_ i hi
  exact ⟨b,off,ha,by omega,n,(hb.cell (p:=⟨b,off+i,none⟩) hlt).trans hc,h0,h1⟩⟩
theorem Dl.box {w:World} {lo lo' b:Nat} {v x:Value} {m:Nat} {ra:Nat->Option Addr} {ln rc:Nat->Nat} {f:Nat->Nat->Int} (h:Dl w lo v m ra ln rc f) (hb:b<lo) (hl:lo'<=b):Dl (w.setCell ⟨b,0,none⟩ x) lo' v m ra ln rc f :=
 (h.lower (by omega:b+1<=lo)).set_low hl
set_option linter.unusedVariables false
theorem Ao.blocks {w w':World} {lo:Nat} {v:Value} {n:Nat} {f:Nat->Int} (h:Ao w lo v n f) (hs:w.heap.size<=w'.heap.size) (hb:∀ k,lo<=k->k<w.heap.size->w'.heap[k]?=w.heap[k]?):Ao w' lo v n f:=by
 obtain ⟨a,cap,hv,hn,hr,hF,hL⟩:=h;refine ⟨a,cap,hv,hn,fun i hi=>?_,fun b o hf=>?_,hL⟩
 .obtain ⟨b,off,ha,hc⟩:=hr i hi
  exact ⟨b,off,ha,(World.cell?_of_block (a:=⟨b,off+i,none⟩) (hb b (hL b (off+i) (by rw [ha]; exact Cc hi)) (block_lt_of_cell hc))).trans hc⟩
 .obtain ⟨h1,h2⟩:=hF b o hf
  exact ⟨Nat.lt_of_lt_of_le h1 hs,(World.frozen?_of_block (a:=⟨b,o,none⟩) (hb b (hL b o hf) h1)).trans h2⟩
set_option linter.unusedSimpArgs false
theorem Dv.agg {W:World} {lo:Nat} {v:Value} {d:Aq} (H:Dv W lo v d):∃ cs,v=.agg cs/\cs.size=34/\cs.all (·.oneCell')=true:=by
 obtain ⟨D,h,-⟩:=H.on;exact h.agg
theorem Dv.below {W W':World} {lo:Nat} {v:Value} {d:Aq} (H:Dv W lo v d) (L:Below W.heap.size W W'):Dv W' lo v d:=by
 obtain ⟨D,u0,u1,u2,u3,u4,ov,gb,cp,g6,c6,g7,c7,rfl,h⟩:=A9.of H;exact (h.below L).ow
theorem Dv.low {R:Nat->Nat->Prop} {W W':World} {lo:Nat} {v:Value} {d:Aq} (H:Dv W lo v d) (hw:Wrote R W W') (hn:∀ b o,R b o->b<lo):Dv W' lo v d:=by
 obtain ⟨D,u0,u1,u2,u3,u4,ov,gb,cp,g6,c6,g7,c7,rfl,h⟩:=A9.of H;exact (h.keepD hw (fun i b o x y=>by have:=h.bd _ _ x; have:=hn _ _ y; omega) (fun o y=>by have:=h.h6.parts.1; have:=hn _ _ y; omega) (fun o y=>by have:=h.h7.parts.1; have:=hn _ _ y; omega)).ow
set_option maxHeartbeats 8000000
set_option maxRecDepth 40000
open Go.Proofs.Tryz
def Told (W:World) (lo:Nat) (v:Value) (d:Aq):Prop:=∃ D',Aw W D' v d/\Dis D'/\∀ i b,D' i b->lo<=b/\b<W.heap.size
theorem Dv.told {W:World} {lo lo':Nat} {v:Value} {d:Aq} (H:Dv W lo v d) (h:lo'<=lo):Told W lo' v d:=by
 obtain ⟨D,a,b,c⟩:=H.on;exact ⟨D,a,b,fun i x e=>by have:=c i x e; omega⟩
def Fo (W:World) (lo:Nat) (v:Value) (d:Aq):Prop:=(v=.agg zero34/\d=Jm)\/∃ l,lo<=l/\Dv W l v d
theorem Fo.told {W:World} {lo:Nat} {v:Value} {d:Aq} (h:Fo W lo v d):Told W lo v d:=by
 rcases h with ⟨rfl,rfl⟩ | ⟨l,hl,H⟩
 .exact ⟨fun _ _=>False,Pf,fun i j b h=>h.elim,fun i b h=>h.elim⟩
 .exact H.told hl
theorem Pn {d:Aq} (h:okLock d=false):Ey d=Jm/\stepQ d=false:=by
 unfold Ey stepQ;rw [if_neg (by rw [h]; decide),h];exact ⟨rfl,rfl⟩
theorem Kh {d:Aq} (h:okLock d=true) (h':D7 d=false):Ey d=d/\stepQ d=false:=by
 unfold Ey stepQ;rw [if_pos h,if_neg (by rw [h']; decide),h,h'];exact ⟨rfl,rfl⟩
theorem Mu {d:Aq} (h:okLock d=true) (h':D7 d=true):Ey d=stepD d/\stepQ d=true:=by
 unfold Ey stepQ;rw [if_pos h,if_pos h',h,h'];exact ⟨rfl,rfl⟩
theorem Lz (w:World) (D:Nat->Nat->Prop) (v:Value) (d:Aq) (H:Aw w D v d) (hnq:okLock d=true->d.nq<1048576):Calls prog 7 #[v] w fun e w'=>∃ v',e=.returned (.tuple #[v',.bool (stepQ d)])/\Fo w' w.heap.size v' (Ey d)/\Below w.heap.size w w':=by
 obtain ⟨cs,rfl,hsz,hone⟩:=H.agg;have BX:=Bx.start w cs zR (Nat.le_refl _);have L0:Below w.heap.size w ((w.alloc (.cells cs 41)).alloc (.cells zR 41)):=((Below.refl _ _).alloc (Nat.le_refl _) _).alloc (by simp) _;have H0:=H.below L0;have HSZ:=Ac hsz;have HONE:=Ac hone;clear hsz hone H L0
 obtain ⟨ok,hok⟩:∃ x,Hid (x=okLock d):=⟨_,rfl⟩
 have HLO:=Ac (fun W D (k:Aw W D (.agg cs) d)=>Is W D (.agg cs) d k);rw [<- hok.out] at HLO
 go_enter func7,ntmps7
 go_upto_region 1 with (fail);generalize (w.alloc (.cells cs 41)).alloc (.cells zR 41)=W0 at *;generalize hrs:(zR:Array Value)=rs at BX
 have HRS:Hid (rs.size=34):=by show _=_; rw [<- hrs]; rfl
 clear hrs;rename_i K3 hK3;refine wp_region_lit ?_;refine wpList_load_row rfl _ _ rfl w.heap.size rfl _ _ _ _ BX.box underlying41 rfl (infoAt An HSZ.out) ?_;refine A3 rfl _ _ (by kernel_rfl) (HLO.out W0 _ H0) ?_;rintro e W1 ⟨rfl,L⟩;refine ⟨_,rfl,?_⟩;have H1:=H0.below L;replace BX:=BX.below L;clear L H0 HLO
 iterate 1 (refine wpList_plain rfl (fun K9 hK9=>?_); go_simp; refine hK9 _ _ ?_; clear hK9)
 refine hK3 _ _ ?_;clear hK3;cases ok
 .have hv:=Pn hok.out.symm
  go_upto_region 2 with (fail);rename_i K3 hK3;refine wp_region_lit ?_
  iterate 1 (refine wpList_plain rfl (fun K9 hK9=>?_); go_simp; refine hK9 _ _ ?_; clear hK9)
  refine wpList_store_row rfl _ _ _ rfl (w.heap.size+1) zero34 rfl rfl _ _ BX.res An HRS.out (by first | kernel_rfl | rfl | simp [zero34,Value.oneCell']) ?_
  iterate 1 (refine wpList_plain rfl (fun K9 hK9=>?_); go_simp; refine hK9 _ _ ?_; clear hK9)
  have BXF:=BX.out zero34;generalize W1.setRow (w.heap.size+1) zero34=W2 at *;refine hK3 _ _ ?_;clear hK3;go_wp2;refine bodyPost_ret (v:=.tuple #[.agg zero34,.bool false]) (A2 results7 _ _ (w.heap.size+1) _ _ _ _ rfl BXF.res underlying41 rfl An) rfl ?_;rw [hv.1,hv.2];exact ⟨_,rfl,Or.inl ⟨rfl,rfl⟩,BXF.low⟩
 .have hk:=hok.out.symm
  have hokL:=It hk;have hnq':=hnq hk;have HK:=Ac hk;have HCP:=Ac (fun W D (k:Aw W D (.agg cs) d)=>Y5 W D (.agg cs) d k);have HST:=Ac (fun W lo D v h hl=>Jdn W lo D v d h hl hokL hnq')
  obtain ⟨sb,hsb⟩:∃ x,Hid (x=D7 d):=⟨_,rfl⟩
  rw [<- hsb.out] at HST;clear hk hokL hnq';go_upto_region 3 with (fail);rename_i K3 hK3;refine wp_region_lit ?_;refine wpList_load_row rfl _ _ rfl w.heap.size rfl _ _ _ _ BX.box underlying41 rfl (infoAt An HSZ.out) ?_;refine A3 rfl _ _ (by kernel_rfl) (HCP.out W1 _ H1) ?_;rintro e W2 ⟨v2,rfl,OW,L⟩;refine ⟨_,rfl,?_⟩;have hz1:=BX.low.size;have hzL:=L.size;have hb1:=Ad BX.box;have hr1:=Ad BX.res;replace BX:=BX.below L;obtain ⟨D2,HX⟩:=Fl.of OW;refine A3 rfl _ _ (by kernel_rfl) (HST.out W2 W1.heap.size D2 v2 HX hzL) ?_;rintro e W3 ⟨c3,rfl,hone3,HN,LB⟩;refine ⟨_,rfl,?_⟩;have hzB:=LB.size;have b3:=Ab BX.box LB hb1;have r3:=Ab BX.res LB hr1;have r3lt:=Ad r3;have C3:=BX.low.trans (LB.mono (by omega));have H3:=H1.below (L.trans LB);clear BX L LB H1;clear HX OW HST;have HN3:=Ac HN
  have HONE3:Hid (Jg8 c3):=hone3;clear HN hone3
  iterate 4 (refine wpList_plain rfl (fun K9 hK9=>?_); go_simp; refine hK9 _ _ ?_; clear hK9)
  have LA:Below W3.heap.size W3 (W3.alloc (.cells zR 41)):=(Below.refl _ _).alloc (Nat.le_refl _) _;have kp:=Ak W3 zR 41
  obtain ⟨pp,hpp⟩:∃ x,Hid (x=W3.heap.size):=⟨_,rfl⟩
  have lpp:w.heap.size+1<pp:=by rw [hpp.out]; exact r3lt
  rw [<- hpp.out] at kp ⊢;generalize hWA:W3.alloc (.cells zR 41)=WA at *;have HWA:=Ac hWA;clear hWA;refine wpList_store_row rfl _ _ _ rfl pp c3 rfl rfl _ _ kp (infoAt An HONE3.out.1) HONE3.out.1.symm HONE3.out.2 ?_;have WP:=As kp c3;have kp2:=setRow_heap _ _ _ c3 _ _ kp;have LP:Below W3.heap.size W3 (WA.setRow pp c3):=LA.trans (WP.below LA.size (fun b o hb (e:b=pp)=>by have:=hpp.out; omega));clear kp WP LA HWA;generalize WA.setRow pp c3=W4 at *
  iterate 1 (refine wpList_plain rfl (fun K9 hK9=>?_); go_simp; refine hK9 _ _ ?_; clear hK9)
  refine hK3 _ _ ?_;clear hK3;have H4:=H3.below LP;have b4:=Ab b3 LP (Ad b3);have r4:=Ab r3 LP r3lt;have C4:=C3.trans (LP.mono C3.size);have hz4:=LP.size;have HLP:=Ac LP;clear H3 b3 r3 C3 LP;cases sb
  .have hv:=Kh HK.out hsb.out.symm
   clear HN3;go_upto_region 5 with (fail);rename_i K3 hK3;refine wp_region_lit ?_;refine wpList_load_row rfl _ _ rfl w.heap.size rfl _ _ _ _ b4 underlying41 rfl (infoAt An HSZ.out) ?_;refine A3 rfl _ _ (by kernel_rfl) (HCP.out W4 _ H4) ?_;rintro e W5 ⟨v5,rfl,OW,L⟩;refine ⟨_,rfl,?_⟩;obtain ⟨c5,rfl,hs5,ho5⟩:=OW.agg;have r5:=Ab r4 L (by omega);have C5:=C4.trans (L.mono C4.size);refine wpList_store_row rfl _ _ _ rfl (w.heap.size+1) c5 rfl rfl _ _ r5 (infoAt An hs5) (HRS.out.trans hs5.symm) ho5 ?_;have WF:=As r5 c5;have r6:=setRow_heap _ _ _ c5 _ _ r5;have OF:=OW.low WF (fun b o (e:b=w.heap.size+1)=>by omega);have CF:=C5.trans (WF.below C5.size (fun b o hb (e:b=w.heap.size+1)=>by omega));generalize W5.setRow (w.heap.size+1) c5=W6 at *
   iterate 1 (refine wpList_plain rfl (fun K9 hK9=>?_); go_simp; refine hK9 _ _ ?_; clear hK9)
   refine hK3 _ _ ?_;clear hK3 OW L WF H4;have OF':=Ac (show Fo _ w.heap.size _ _ from Or.inr ⟨_,by omega,OF⟩);have CF':=Ac CF;have HS5:=Ac hs5;clear OF CF C5 C4 hs5 ho5;go_wp2;refine bodyPost_ret (v:=.tuple #[.agg c5,.bool false]) (A2 results7 _ _ (w.heap.size+1) _ _ _ _ rfl r6 underlying41 rfl (infoAt An HS5.out)) rfl ?_;rw [hv.1,hv.2];exact ⟨_,rfl,OF'.out,CF'.out⟩
  .have hv:=Mu HK.out hsb.out.symm
   have OW:Dv W4 W1.heap.size (.agg c3) (stepD d):=by
    obtain ⟨D5,X5,-⟩:=HN3.out rfl;exact X5.ow.below HLP.out
   clear HN3 H4;go_upto_region 6 with (fail);rename_i K3 hK3;refine wp_region_lit ?_;refine wpList_load_row rfl _ _ rfl pp rfl _ _ _ _ kp2 underlying41 rfl (infoAt An HONE3.out.1) ?_;refine wpList_store_row rfl _ _ _ rfl (w.heap.size+1) c3 rfl rfl _ _ r4 (infoAt An HONE3.out.1) (HRS.out.trans HONE3.out.1.symm) HONE3.out.2 ?_;have WF:=As r4 c3;have r6:=setRow_heap _ _ _ c3 _ _ r4;have OF:=OW.low WF (fun b o (e:b=w.heap.size+1)=>by omega);have CF:=C4.trans (WF.below C4.size (fun b o hb (e:b=w.heap.size+1)=>by omega));generalize W4.setRow (w.heap.size+1) c3=W6 at *
   iterate 1 (refine wpList_plain rfl (fun K9 hK9=>?_); go_simp; refine hK9 _ _ ?_; clear hK9)
   refine hK3 _ _ ?_;have OF':=Ac (show Fo _ w.heap.size _ _ from Or.inr ⟨_,by omega,OF⟩);have CF':=Ac CF;clear hK3 OW WF OF CF C4;go_wp2;refine bodyPost_ret (v:=.tuple #[.agg c3,.bool true]) (A2 results7 _ _ (w.heap.size+1) _ _ _ _ rfl r6 underlying41 rfl (infoAt An HONE3.out.1)) rfl ?_;rw [hv.1,hv.2];exact ⟨_,rfl,OF'.out,CF'.out⟩
set_option maxHeartbeats 8000000
set_option maxRecDepth 40000
open Go.Sort
structure Dq (m:Nat) (d:Aq):Prop where
 nq:d.nq<=m
 ns:d.ns<=m
 mf:d.mf<=m
theorem Dq.mono {m m':Nat} {d:Aq} (h:Dq m d) (hm:m<=m'):Dq m' d:=⟨Nat.le_trans h.nq hm,Nat.le_trans h.ns hm,Nat.le_trans h.mf hm⟩
theorem Dq.tick {m:Nat} {d:Aq} (h:Dq m d):Dq (m+1) (Ds d):=by
 obtain ⟨h1,h2,h3⟩:=h;refine ⟨?_,?_,?_⟩
 .show d.nq<=m+1
  omega
 .show (if Eb d.T=true then d.ns+1 else d.ns)<=m+1
  split <;> omega
 .show (if d.t%64=48 then d.mf+1 else d.mf)<=m+1
  split <;> omega
theorem Dq.ticks {d:Aq}:∀ (k:Nat) {m:Nat},Dq m d->Dq (m+k) (tickN k d)
 | 0,m,h=>h
 | k+1,m,h=>by rw [Ke]; exact (Dq.ticks k h).tick
theorem Dq.put {m:Nat} {d:Aq} (h:Dq m d) (g:Nat->Int) (c:A7):Dq m (putCpu d g c):=⟨h.nq,h.ns,h.mf⟩
theorem Dq.read {m:Nat} {d:Aq} (h:Dq m d) (a:Int):Dq (m+1) (Cl d a):=by
 obtain ⟨h1,h2,h3⟩:=h;unfold Cl;split
 .exact ⟨by show d.nq+1<=m+1; omega,by show d.ns<=m+1; omega,by show d.mf<=m+1; omega⟩
 split
 .exact ⟨by show d.nq+1<=m+1; omega,by show d.ns<=m+1; omega,by show d.mf<=m+1; omega⟩
 split
 .exact ⟨by show d.nq+1<=m+1; omega,by show d.ns<=m+1; omega,by show d.mf<=m+1; omega⟩
 exact ⟨by omega,by omega,by omega⟩
theorem Dq.write {m:Nat} {d:Aq} (h:Dq m d) (a y:Int):Dq m (Br d a y):=by
 obtain ⟨h1,h2,h3⟩:=h;unfold Br
 repeat' split
 all_goals exact ⟨h1,h2,h3⟩
theorem Dq.act {m:Nat} {d:Aq} (h:Dq m d):Dq (m+1) (actD d):=by
 have h':=h.mono (Nat.le_succ m);unfold actD;split
 .exact Dq.put (d:=noNmi d) ⟨h'.nq,h'.ns,h'.mf⟩ _ _
 split
 .exact h'.put _ _
 .unfold opD Jdb Cq
  refine Dq.put ?_ _ _;split
  .exact h.read _
  split
  .exact h'.write _ _
  .exact h'
theorem Dq.none (m:Nat) {d:Aq} (h1:d.nq=0) (h2:d.ns=0) (h3:d.mf=0):Dq m d:=⟨by omega,by omega,by omega⟩
theorem Dq.step {m:Nat} {d:Aq} (h:Dq m d):Dq (m+8) (Ey d):=by
 unfold Ey;split
 .split
  .have hn:=G8 d
   have:=(h.act.ticks (actN d).toNat).mono (m':=m+8) (by omega);exact ⟨this.nq,this.ns,this.mf⟩
  .exact h.mono (by omega)
 .exact Dq.none _ rfl rfl rfl
def Whole (d:Aq):Prop:=∀ i,i<d.mf->d.lf i=48
theorem Whole.none {d:Aq} (h:d.mf=0):Whole d:=fun i hi=>by omega
theorem Whole.step {d:Aq} (h:Whole d):Whole (Ey d):=by
 unfold Ey;split
 .rename_i hok
  split
  .rename_i hB
   have hn:=G8 d;have ok:=(It hok).t.act.ticks (actN d).toNat (by have:=of_decide_eq_true hB; omega)
   exact fun i hi=>ok.lf i hi
  .exact h
 .exact Whole.none rfl
structure Few (m:Nat) (d:Aq):Prop extends Dq m d where
 lf:Whole d
theorem Few.mono {m m':Nat} {d:Aq} (h:Few m d) (hm:m<=m'):Few m' d:=⟨h.toDq.mono hm,h.lf⟩
theorem Few.none (m:Nat) {d:Aq} (h1:d.nq=0) (h2:d.ns=0) (h3:d.mf=0):Few m d:=⟨Dq.none m h1 h2 h3,Whole.none h3⟩
theorem A9.lockOn {W:World} {lo N:Nat} {D:Nat->Nat->Prop} {u0 u1 u2 u3 u4 ov:Value} {gb cp:Nat->Nat} {g6 c6 g7 c7:Nat} {d:Aq} (H:A9 W lo N D u0 u1 u2 u3 u4 ov gb cp g6 c6 g7 c7 d):Aw W D (.agg (rowL u0 u1 u2 u3 u4 ov g6 c6 g7 c7 d)) d :=
 ⟨u0,u1,u2,u3,u4,ov,_,_,rfl,H.h0,H.h1,H.h2,H.h3,_,_,_,rfl,H.h4.onD H.h4D H.hps,H.h6.onE H.h6D,H.h7.onE H.h7D⟩
def Ft (W:World) (p N:Nat) (v:Value) (d:Aq):Prop:=(v=.agg zero34/\d=Jm)\/∃ (q:Nat) (E:Nat->Nat->Prop) (u0 u1 u2 u3 u4 ov:Value) (gb cp:Nat->Nat) (g6 c6 g7 c7:Nat),p<=q/\v=.agg (rowL u0 u1 u2 u3 u4 ov g6 c6 g7 c7 d)/\A9 W q N E u0 u1 u2 u3 u4 ov gb cp g6 c6 g7 c7 d
section
variable {W W':World} {p N:Nat} {v:Value} {d:Aq} {R:Nat->Nat->Prop}
theorem Fo.y (h:Fo W p v d):Ft W p W.heap.size v d:=by
 rcases h with h | ⟨l,hl,H⟩
 .exact Or.inl h
 .obtain ⟨D,u0,u1,u2,u3,u4,ov,gb,cp,g6,c6,g7,c7,e,HP⟩:=A9.of H
  exact Or.inr ⟨l,D,u0,u1,u2,u3,u4,ov,gb,cp,g6,c6,g7,c7,hl,e,HP⟩
theorem Ft.keep (h:Ft W p N v d) (hw:Wrote R W W') (hR:∀ b o,R b o->¬ (p<=b/\b<N)):Ft W' p N v d:=by
 rcases h with h | ⟨q,E,u0,u1,u2,u3,u4,ov,gb,cp,g6,c6,g7,c7,hq,e,HP⟩
 .exact Or.inl h
 .refine Or.inr ⟨q,E,u0,u1,u2,u3,u4,ov,gb,cp,g6,c6,g7,c7,hq,e,HP.keepD hw (fun i b o hd hr=>hR b o hr ?_) (fun o hr=>hR _ o hr ?_) (fun o hr=>hR _ o hr ?_)⟩
  .have:=HP.bd i b hd; omega
  .have:=HP.h6.parts.1; have:=HP.n6; omega
  .have:=HP.h7.parts.1; have:=HP.n7; omega
theorem Ft.below (h:Ft W p N v d) (L:Below W.heap.size W W'):Ft W' p N v d:=h.keep (Aa L Aj) (fun _ _ x=>x.elim)
theorem Ft.on (h:Ft W p N v d):∃ E,Aw W E v d/\Dis E/\∀ i b,E i b->p<=b/\b<N:=by
 rcases h with ⟨rfl,rfl⟩ | ⟨q,E,u0,u1,u2,u3,u4,ov,gb,cp,g6,c6,g7,c7,hq,rfl,HP⟩
 .exact ⟨fun _ _=>False,Pf,fun i j b h=>h.elim,fun i b h=>h.elim⟩
 .exact ⟨E,HP.lockOn,HP.dis,fun i b h=>⟨Nat.le_trans hq (HP.bd i b h).1,(HP.bd i b h).2⟩⟩
theorem Ft.tell (h:Ft W p N v d) {lo:Nat} (hl:lo<=p):Fo W lo v d:=by
 rcases h with h | ⟨q,E,u0,u1,u2,u3,u4,ov,gb,cp,g6,c6,g7,c7,hq,rfl,HP⟩
 .exact Or.inl h
 .exact Or.inr ⟨q,Nat.le_trans hl hq,HP.ow⟩
end
structure Wj (w:World) (p N:Nat) (W:World) (l:Mq) (v:Value) (d:Aq):Prop extends E4 w (fun b=>p<=b/\b<N) W l where
 y:Ft W p N v d
 lo:w.heap.size<=p
section
variable {w W W':World} {D:Nat->Prop} {p N:Nat} {l:Mq} {i b:Nat} {cs:Array Value} {t:TypeId} {v:Value} {d:Aq}
theorem E4.told (h:E4 w D W l) (L:Below W.heap.size W W') (T:Fo W' W.heap.size v d):Wj w W.heap.size W'.heap.size W' l v d:=⟨h.re L,T.y,h.below.size⟩
theorem Wj.call (h:Wj w p N W l v d) (L:Below W.heap.size W W'):Wj w p N W' l v d:=⟨h.toE4.call L,h.y.below L,h.lo⟩
theorem Wj.alloc (h:Wj w p N W l v d) (cs:Array Value) (t:TypeId) (n:Nat) (e:W.heap.size=n):Wj w p N (W.alloc (.cells cs t)) (l++[(n,cs,t)]) v d:=⟨h.toE4.alloc cs t n e,h.y.below ((Below.refl _ _).alloc (Nat.le_refl _) _),h.lo⟩
theorem Wj.row (h:Wj w p N W l v d) (i:Nat) (e:l[i]?=some (b,cs,t)) (cs':Array Value):Wj w p N (W.setRow b cs') (l.set i (b,cs',t)) v d:=⟨h.toE4.row i e cs',h.y.keep (Bn (h.ret i e) cs') (fun b' o (he:b'=b)=>he ▸ h.no i e),h.lo⟩
theorem Wj.take (h:Wj w p N W l v d) (n:Nat):Wj w p N W (l.take n) v d:=⟨h.toE4.take n,h.y,h.lo⟩
theorem Wj.tell (h:Wj w p N W l v d):Fo W w.heap.size v d:=h.y.tell h.lo
end
theorem Ti (w:World) (D:Nat->Nat->Prop) (v:Value) (d:Aq) (n:Int) (m:Nat) (Q:Aq->Prop) (hQ:∀ d,Q d->Q (Ey d)) (hz:Q Jm) (H:Aw w D v d) (hn:n<=100) (hm:Dq m d/\Q d) (hm2:m<=100000):Calls prog 79 #[v,.i n] w fun e w'=>∃ v' k d',e=.returned (.tuple #[v',.i k])/\Fo w' w.heap.size v' d'/\(Dq (m+800) d'/\Q d')/\Below w.heap.size w w':=by
 have HQ:=Ac (And.intro hQ hz);clear hQ hz;obtain ⟨cs,rfl,hsz,hone⟩:=H.agg;have B:=((E4.nil w).alloc cs 41 w.heap.size rfl).alloc zR 41 (w.heap.size+1) (by simp);have H0:=H.below B.below;have HSZ:=Ac hsz;clear hsz hone H
 obtain ⟨ok,hok⟩:∃ x,Hid (x=okLock d):=⟨_,rfl⟩
 have HLO:=Ac (fun W D (k:Aw W D (.agg cs) d)=>Is W D (.agg cs) d k);rw [<- hok.out] at HLO;have HM:=Ac hm;clear hm
 go_enter func79,ntmps79
 go_upto_region 1 with (fail);generalize (w.alloc (.cells cs 41)).alloc (.cells zR 41)=W0 at *;generalize hrs:(zR:Array Value)=rs at *
 have HRS:Hid (rs.size=34):=by show _=_; rw [<- hrs]; rfl
 clear hrs;rename_i K3 hK3;refine wp_region_lit ?_;refine wpList_load_row rfl _ _ rfl (w.heap.size) rfl _ _ _ _ (B.ret 0 rfl) underlying41 rfl (infoAt An HSZ.out) ?_;refine A3 rfl _ _ (by kernel_rfl) (HLO.out W0 _ H0) ?_;rintro e W1 ⟨rfl,L⟩;refine ⟨_,rfl,?_⟩;replace B:=B.call L;replace H0:=H0.below L;clear L HLO
 (refine wpList_plain rfl (fun K9 hK9=>?_); go_simp; refine hK9 _ _ ?_; clear hK9)
 refine hK3 _ _ ?_;clear hK3;cases ok
 .go_upto_region 2 with (fail)
  rename_i K3 hK3;refine wp_region_lit ?_
  (refine wpList_plain rfl (fun K9 hK9=>?_); go_simp; refine hK9 _ _ ?_; clear hK9)
  refine wpList_store_row rfl _ _ _ rfl (w.heap.size+1) zero34 rfl rfl _ _ (B.ret 1 rfl) (infoAt An Jl) (HRS.out.trans Jl.symm) (by first | kernel_rfl | rfl | simp [zero34,Value.oneCell']) ?_
  (refine wpList_plain rfl (fun K9 hK9=>?_); go_simp; refine hK9 _ _ ?_; clear hK9)
  replace B:=B.row 1 rfl zero34;have hcs:=Jl;generalize W1.setRow (w.heap.size+1) zero34=W2 at *;refine hK3 _ _ ?_;clear hK3;go_wp2;refine bodyPost_ret (v:=.tuple #[.agg zero34,.i _]) (A2 results79 _ _ (w.heap.size+1) _ _ _ _ rfl (B.ret 1 rfl) underlying41 rfl (infoAt An hcs)) rfl ?_;exact ⟨_,_,Jm,rfl,Or.inl ⟨rfl,rfl⟩,⟨Dq.none _ rfl rfl rfl,HQ.out.2⟩,B.below⟩
 .go_upto_region 3 with (fail)
  rename_i K3 hK3;refine wp_region_lit ?_;refine wpList_load_row rfl _ _ rfl (w.heap.size) rfl _ _ _ _ (B.ret 0 rfl) underlying41 rfl (infoAt An HSZ.out) ?_;refine A3 rfl _ _ (by kernel_rfl) (Y5 W1 _ _ d H0) ?_;rintro e W2 ⟨v2,rfl,O,L⟩;refine ⟨_,rfl,?_⟩;have K:=B.told L (show Fo _ _ _ _ from Or.inr ⟨_,Nat.le_refl _,O⟩);obtain ⟨E,KE,-⟩:=K.y.on;obtain ⟨co,rfl,hco,ho1⟩:=KE.agg;clear KE;clear B O L H0
  (refine wpList_plain rfl (fun K9 hK9=>?_); go_simp; refine hK9 _ _ ?_; clear hK9)
  replace K:=K.alloc zR 41 _ rfl;generalize W2.heap.size=bo at *;generalize W2.alloc (.cells zR 41)=W3 at *;refine wpList_store_row rfl _ _ _ rfl (bo) co rfl rfl _ _ (K.ret 2 rfl) (infoAt An hco) (hco.symm) ho1 ?_;replace K:=K.row 2 rfl co;generalize W3.setRow bo co=W4 at *;refine hK3 _ _ ?_;clear hK3;have HC:=Ac hco;have HO:=Ac ho1;have HK:=Ac K;clear hco ho1 K;go_wp2_with fail
  go_loopw [7] (fun i wr=>∃ (q p N:Nat) (co:Array Value) (d':Aq),q<=100/\i=.i q/\Wj w p N wr [(w.heap.size,cs,41),(w.heap.size+1,rs,41),(bo,co,41)] (.agg co) d'/\co.size=34/\co.all (·.oneCell')=true/\(Dq (m+8*q) d'/\Q d')) (fun i _=>100-(intOf i).toNat)
  case atStart=>exact ⟨0,_,_,co,d,by omega,rfl,HK.out,HC.out,HO.out,HM.out⟩
  case round =>
   obtain ⟨q,p,N,co,d',hq,rfl,K,hco,ho1,hF⟩:=hrel;obtain ⟨E,KE,-⟩:=K.y.on
   have hnq:d'.nq<1048576:=by have:=hF.1.nq; omega
   by_cases hlt:(q:Int)<min n 3000
   .go_wp2_with fail
    refine (Jg2 _ _ _).mono ?_;rintro e w9 ⟨rfl,rfl⟩;go_upto_region 6 with (fail);rename_i K3 hK3;refine wp_region_lit ?_;refine wpList_load_row rfl _ _ rfl (bo) rfl _ _ _ _ (K.ret 2 rfl) underlying41 rfl (infoAt An hco) ?_;refine A3 rfl _ _ (by kernel_rfl) (Lz _ _ _ d' KE (fun _=>hnq)) ?_;rintro e W5 ⟨v2,rfl,T,L⟩;refine ⟨_,rfl,?_⟩;have K2:=K.toE4.told L T;replace K:=K.call L;obtain ⟨E2,KE2,-⟩:=K2.y.on;obtain ⟨c2,rfl,hc2,ho2⟩:=KE2.agg;clear T L KE KE2;generalize stepQ d'=sq at *
    iterate 4 (refine wpList_plain rfl (fun K9 hK9=>?_); go_simp; refine hK9 _ _ ?_; clear hK9)
    replace K2:=K2.alloc zR 41 _ rfl;replace K:=K.alloc zR 41 _ rfl;generalize W5.heap.size=bn at *;generalize W5.alloc (.cells zR 41)=W6 at *;refine wpList_store_row rfl _ _ _ rfl (bn) c2 rfl rfl _ _ (K2.ret 3 rfl) (infoAt An hc2) (hc2.symm) ho2 ?_;replace K2:=K2.row 3 rfl c2;replace K:=K.row 3 rfl c2;generalize W6.setRow bn c2=W7 at *
    (refine wpList_plain rfl (fun K9 hK9=>?_); go_simp; refine hK9 _ _ ?_; clear hK9)
    refine hK3 _ _ ?_;clear hK3;cases sq
    .go_upto_region 8 with (fail)
     rename_i K3 hK3;refine wp_region_lit ?_;refine wpList_load_row rfl _ _ rfl (bo) rfl _ _ _ _ (K.ret 2 rfl) underlying41 rfl (infoAt An hco) ?_
     (refine wpList_plain rfl (fun K9 hK9=>?_); go_simp; refine hK9 _ _ ?_; clear hK9)
     refine wpList_store_row rfl _ _ _ rfl (w.heap.size+1) co rfl rfl _ _ (K.ret 1 rfl) (infoAt An hco) ((HRS.out.trans hco.symm)) ho1 ?_;replace K:=K.row 1 rfl co;have hcs:=hco
     (refine wpList_plain rfl (fun K9 hK9=>?_); go_simp; refine hK9 _ _ ?_; clear hK9)
     refine hK3 _ _ ?_;clear hK3;go_wp2;refine bodyPost_ret (v:=.tuple #[.agg co,.i _]) (A2 results79 _ _ (w.heap.size+1) _ _ _ _ rfl (K.ret 1 rfl) underlying41 rfl (infoAt An hcs)) rfl ?_
     first | exact ⟨_,_,d',rfl,K.tell,⟨hF.1.mono (by omega),hF.2⟩,K.below⟩ | exact ⟨_,⟨_,rfl⟩,d',K.tell,⟨hF.1.mono (by omega),hF.2⟩,K.below⟩
    .go_upto_region 9 with (fail)
     rename_i K3 hK3;refine wp_region_lit ?_;refine wpList_load_row rfl _ _ rfl (bn) rfl _ _ _ _ (K2.ret 3 rfl) underlying41 rfl (infoAt An hc2) ?_;refine wpList_store_row rfl _ _ _ rfl (bo) c2 rfl rfl _ _ (K2.ret 2 rfl) (infoAt An hc2) ((hco.trans hc2.symm)) ho2 ?_;replace K2:=(K2.row 2 rfl c2).take 3;generalize W7.setRow bo c2=W8 at *;refine hK3 _ _ ?_;clear hK3;go_wp2;go_roundw
     case rel=>exact ⟨q+1,_,_,c2,Ey d',by omega,by go_num,K2,hc2,ho2,⟨hF.1.step.mono (by omega),HQ.out.1 _ hF.2⟩⟩
     case measure=>simp [intOf]; omega
   .go_wp2_with fail
    refine (Jg2 _ _ _).mono ?_;rintro e w9 ⟨rfl,rfl⟩;go_upto_region 11 with (fail);rename_i K3 hK3;refine wp_region_lit ?_;refine wpList_load_row rfl _ _ rfl (bo) rfl _ _ _ _ (K.ret 2 rfl) underlying41 rfl (infoAt An hco) ?_
    (refine wpList_plain rfl (fun K9 hK9=>?_); go_simp; refine hK9 _ _ ?_; clear hK9)
    refine wpList_store_row rfl _ _ _ rfl (w.heap.size+1) co rfl rfl _ _ (K.ret 1 rfl) (infoAt An hco) ((HRS.out.trans hco.symm)) ho1 ?_;replace K:=K.row 1 rfl co;have hcs:=hco
    (refine wpList_plain rfl (fun K9 hK9=>?_); go_simp; refine hK9 _ _ ?_; clear hK9)
    refine hK3 _ _ ?_;clear hK3;go_wp2;refine bodyPost_ret (v:=.tuple #[.agg co,.i _]) (A2 results79 _ _ (w.heap.size+1) _ _ _ _ rfl (K.ret 1 rfl) underlying41 rfl (infoAt An hcs)) rfl ?_
    first | exact ⟨_,_,d',rfl,K.tell,⟨hF.1.mono (by omega),hF.2⟩,K.below⟩ | exact ⟨_,⟨_,rfl⟩,d',K.tell,⟨hF.1.mono (by omega),hF.2⟩,K.below⟩
theorem Wa (w:World) (D:Nat->Nat->Prop) (v:Value) (d:Aq) (n:Int) (m:Nat) (H:Aw w D v d) (hn:n<=100) (hm:Few m d) (hm2:m<=100000):Calls prog 79 #[v,.i n] w fun e w'=>∃ v' k d',e=.returned (.tuple #[v',.i k])/\Fo w' w.heap.size v' d'/\Few (m+800) d'/\Below w.heap.size w w' :=
 (Ti w D v d n m Whole (fun _=>Whole.step) (Whole.none rfl) H hn ⟨hm.toDq,hm.lf⟩ hm2).mono fun e w' ⟨v',k,d',h1,h2,h3,h4⟩=>⟨v',k,d',h1,h2,⟨h3.1,h3.2⟩,h4⟩
end Go.Proofs.YtijljlnooibbmaaGreatDoor
