import Derived.Test.YtgcmimcalmjaaaaGreatDoorSP
import Derived.Test.YtgcmimcalmjaaaaGreatDoorSJ
namespace Go.Proofs.YtgcmimcalmjaaaaGreatDoor
set_option maxHeartbeats 8000000
set_option maxRecDepth 40000
set_option linter.unusedVariables false
set_option linter.unusedSimpArgs false
open Go.ChangeShapes Go.WideShapes Go.ChangeAt Go.RowKit
def Told (W:World) (lo:Nat) (v:Value) (d:Aq):Prop:=∃ D',Bh W D' v d∧Xb D'∧∀ i b,D' i b→lo≤b∧b<W.heap.size
theorem Dm.told {W:World} {lo lo':Nat} {v:Value} {d:Aq} (H:Dm W lo v d) (h:lo'≤lo):Told W lo' v d:=by
 obtain ⟨D,a,b,c⟩:=H.on;exact ⟨D,a,b,fun i x e=>by have:=c i x e; omega⟩
theorem Sk {d:Aq} (h:Cd d=false):Ge d=Sc∧Hl d=false:=by
 unfold Ge Hl;rw [if_neg (by rw [h]; decide),h];exact ⟨rfl,rfl⟩
theorem Nk {d:Aq} (h:Cd d=true) (h':D8 d=false):Ge d=d∧Hl d=false:=by
 unfold Ge Hl;rw [if_pos h,if_neg (by rw [h']; decide),h,h'];exact ⟨rfl,rfl⟩
theorem O9 {d:Aq} (h:Cd d=true) (h':D8 d=true):Ge d=Ij d∧Hl d=true:=by
 unfold Ge Hl;rw [if_pos h,if_pos h',h,h'];exact ⟨rfl,rfl⟩
theorem Qo (w:World) (D:Nat→Nat→Prop) (v:Value) (d:Aq) (H:Bh w D v d) (hnq:Cd d=true→d.nq<1048576):Calls Tryz.prog 5 #[v] w fun e w'=>∃ v',e=.returned (.tuple #[v',.bool (Hl d)])∧Told w' w.heap.size v' (Ge d)∧Below w.heap.size w w':=by
 obtain ⟨cs,rfl,hsz,hone⟩:=H.agg;have BX:=Bx.start w cs zR (Nat.le_refl _);have L0:Below w.heap.size w ((w.alloc (.cells cs 49)).alloc (.cells zR 49)):=((Below.refl _ _).alloc (Nat.le_refl _) _).alloc (by simp) _;have H0:=H.below L0;have HSZ:=Ad hsz;have HONE:=Ad hone;clear hsz hone H L0
 obtain ⟨ok,hok⟩:∃ x,Hid (x=Cd d):=⟨_,rfl⟩
 have HLO:=Ad (fun W D (k:Bh W D (.agg cs) d)=>Tp W D (.agg cs) d k);rw [← hok.out] at HLO
 go_enter Tryz.func5,Tryz.ntmps5
 go_upto_region 1 with (fail);generalize (w.alloc (.cells cs 49)).alloc (.cells zR 49)=W0 at *;generalize hrs:(zR:Array Value)=rs at BX
 have HRS:Hid (rs.size=34):=by show _=_; rw [← hrs]; rfl
 clear hrs;rename_i K3 hK3;refine wp_region_lit ?_;refine wpList_load_row rfl _ _ rfl w.heap.size rfl _ _ _ _ BX.box Tryz.underlying49 rfl (infoAt Ao HSZ.out) ?_;refine Br rfl _ _ (by kernel_rfl) (HLO.out W0 _ H0) ?_;rintro e W1 ⟨rfl,L⟩;refine ⟨_,rfl,?_⟩;have H1:=H0.below L;replace BX:=BX.below L;clear L H0 HLO
 iterate 1 (refine wpList_plain rfl (fun K9 hK9=>?_); go_simp; refine hK9 _ _ ?_; clear hK9)
 refine hK3 _ _ ?_;clear hK3;cases ok
 ·have hv:=Sk hok.out.symm
  go_upto_region 2 with (fail);rename_i K3 hK3;refine wp_region_lit ?_
  iterate 1 (refine wpList_plain rfl (fun K9 hK9=>?_); go_simp; refine hK9 _ _ ?_; clear hK9)
  refine wpList_store_row rfl _ _ _ rfl (w.heap.size+1) zero34 rfl rfl _ _ BX.res Ao HRS.out (by first | kernel_rfl | rfl | simp [zero34,Value.oneCell']) ?_
  iterate 1 (refine wpList_plain rfl (fun K9 hK9=>?_); go_simp; refine hK9 _ _ ?_; clear hK9)
  have BXF:=BX.out zero34;generalize W1.setRow (w.heap.size+1) zero34=W2 at *;refine hK3 _ _ ?_;clear hK3;go_wp2;refine bodyPost_ret (v:=.tuple #[.agg zero34,.bool false]) (A9 Tryz.results5 _ _ (w.heap.size+1) _ _ _ _ rfl BXF.res Tryz.underlying49 rfl Ao) rfl ?_;rw [hv.1,hv.2];exact ⟨_,rfl,⟨fun _ _=>False,Sd,fun i j b h=>h.elim,fun i b h=>h.elim⟩,BXF.low⟩
 ·have hk:=hok.out.symm
  have hokL:=Up hk;have hnq':=hnq hk;have HK:=Ad hk;have HCP:=Ad (fun W D (k:Bh W D (.agg cs) d)=>Jbh W D (.agg cs) d k);have HST:=Ad (fun W lo D v h hl=>Jaa W lo D v d h hl hokL hnq')
  obtain ⟨sb,hsb⟩:∃ x,Hid (x=D8 d):=⟨_,rfl⟩
  rw [← hsb.out] at HST;clear hk hokL hnq';go_upto_region 3 with (fail);rename_i K3 hK3;refine wp_region_lit ?_;refine wpList_load_row rfl _ _ rfl w.heap.size rfl _ _ _ _ BX.box Tryz.underlying49 rfl (infoAt Ao HSZ.out) ?_;refine Br rfl _ _ (by kernel_rfl) (HCP.out W1 _ H1) ?_;rintro e W2 ⟨v2,rfl,OW,L⟩;refine ⟨_,rfl,?_⟩;have hz1:=BX.low.size;have hzL:=L.size;have hb1:=Ac BX.box;have hr1:=Ac BX.res;replace BX:=BX.below L;obtain ⟨D2,HX⟩:=Ez.of OW;refine Br rfl _ _ (by kernel_rfl) (HST.out W2 W1.heap.size D2 v2 HX hzL) ?_;rintro e W3 ⟨c3,rfl,hone3,HN,LB⟩;refine ⟨_,rfl,?_⟩;have hzB:=LB.size;have b3:=Aa BX.box LB hb1;have r3:=Aa BX.res LB hr1;have r3lt:=Ac r3;have C3:=BX.low.trans (LB.mono (by omega));have H3:=H1.below (L.trans LB);clear BX L LB H1;clear HX OW HST;have HN3:=Ad HN
  have HONE3:Hid (Jdk c3):=hone3;clear HN hone3
  iterate 4 (refine wpList_plain rfl (fun K9 hK9=>?_); go_simp; refine hK9 _ _ ?_; clear hK9)
  have LA:Below W3.heap.size W3 (W3.alloc (.cells zR 49)):=(Below.refl _ _).alloc (Nat.le_refl _) _;have kp:=Al W3 zR 49
  obtain ⟨pp,hpp⟩:∃ x,Hid (x=W3.heap.size):=⟨_,rfl⟩
  have lpp:w.heap.size+1<pp:=by rw [hpp.out]; exact r3lt
  rw [← hpp.out] at kp ⊢;generalize hWA:W3.alloc (.cells zR 49)=WA at *;have HWA:=Ad hWA;clear hWA;refine wpList_store_row rfl _ _ _ rfl pp c3 rfl rfl _ _ kp (infoAt Ao HONE3.out.1) HONE3.out.1.symm HONE3.out.2 ?_;have WP:=Au kp c3;have kp2:=setRow_heap _ _ _ c3 _ _ kp;have LP:Below W3.heap.size W3 (WA.setRow pp c3):=LA.trans (WP.below LA.size (fun b o hb (e:b=pp)=>by have:=hpp.out; omega));clear kp WP LA HWA;generalize WA.setRow pp c3=W4 at *
  iterate 1 (refine wpList_plain rfl (fun K9 hK9=>?_); go_simp; refine hK9 _ _ ?_; clear hK9)
  refine hK3 _ _ ?_;clear hK3;have H4:=H3.below LP;have b4:=Aa b3 LP (Ac b3);have r4:=Aa r3 LP r3lt;have C4:=C3.trans (LP.mono C3.size);have hz4:=LP.size;have HLP:=Ad LP;clear H3 b3 r3 C3 LP;cases sb
  ·have hv:=Nk HK.out hsb.out.symm
   clear HN3;go_upto_region 5 with (fail);rename_i K3 hK3;refine wp_region_lit ?_;refine wpList_load_row rfl _ _ rfl w.heap.size rfl _ _ _ _ b4 Tryz.underlying49 rfl (infoAt Ao HSZ.out) ?_;refine Br rfl _ _ (by kernel_rfl) (HCP.out W4 _ H4) ?_;rintro e W5 ⟨v5,rfl,OW,L⟩;refine ⟨_,rfl,?_⟩;obtain ⟨c5,rfl,hs5,ho5⟩:=OW.agg;have r5:=Aa r4 L (by omega);have C5:=C4.trans (L.mono C4.size);refine wpList_store_row rfl _ _ _ rfl (w.heap.size+1) c5 rfl rfl _ _ r5 (infoAt Ao hs5) (HRS.out.trans hs5.symm) ho5 ?_;have WF:=Au r5 c5;have r6:=setRow_heap _ _ _ c5 _ _ r5;have OF:=OW.low WF (fun b o (e:b=w.heap.size+1)=>by omega);have CF:=C5.trans (WF.below C5.size (fun b o hb (e:b=w.heap.size+1)=>by omega));generalize W5.setRow (w.heap.size+1) c5=W6 at *
   iterate 1 (refine wpList_plain rfl (fun K9 hK9=>?_); go_simp; refine hK9 _ _ ?_; clear hK9)
   refine hK3 _ _ ?_;clear hK3 OW L WF H4;have OF':=Ad (OF.told (lo':=w.heap.size) (by omega));have CF':=Ad CF;have HS5:=Ad hs5;clear OF CF C5 C4 hs5 ho5;go_wp2;refine bodyPost_ret (v:=.tuple #[.agg c5,.bool false]) (A9 Tryz.results5 _ _ (w.heap.size+1) _ _ _ _ rfl r6 Tryz.underlying49 rfl (infoAt Ao HS5.out)) rfl ?_;rw [hv.1,hv.2];exact ⟨_,rfl,OF'.out,CF'.out⟩
  ·have hv:=O9 HK.out hsb.out.symm
   have OW:Dm W4 W1.heap.size (.agg c3) (Ij d):=by
    obtain ⟨D5,X5,-⟩:=HN3.out rfl;exact X5.ow.below HLP.out
   clear HN3 H4;go_upto_region 6 with (fail);rename_i K3 hK3;refine wp_region_lit ?_;refine wpList_load_row rfl _ _ rfl pp rfl _ _ _ _ kp2 Tryz.underlying49 rfl (infoAt Ao HONE3.out.1) ?_;refine wpList_store_row rfl _ _ _ rfl (w.heap.size+1) c3 rfl rfl _ _ r4 (infoAt Ao HONE3.out.1) (HRS.out.trans HONE3.out.1.symm) HONE3.out.2 ?_;have WF:=Au r4 c3;have r6:=setRow_heap _ _ _ c3 _ _ r4;have OF:=OW.low WF (fun b o (e:b=w.heap.size+1)=>by omega);have CF:=C4.trans (WF.below C4.size (fun b o hb (e:b=w.heap.size+1)=>by omega));generalize W4.setRow (w.heap.size+1) c3=W6 at *
   iterate 1 (refine wpList_plain rfl (fun K9 hK9=>?_); go_simp; refine hK9 _ _ ?_; clear hK9)
   refine hK3 _ _ ?_;have OF':=Ad (OF.told (lo':=w.heap.size) (by omega));have CF':=Ad CF;clear hK3 OW WF OF CF C4;go_wp2;refine bodyPost_ret (v:=.tuple #[.agg c3,.bool true]) (A9 Tryz.results5 _ _ (w.heap.size+1) _ _ _ _ rfl r6 Tryz.underlying49 rfl (infoAt Ao HONE3.out.1)) rfl ?_;rw [hv.1,hv.2];exact ⟨_,rfl,OF'.out,CF'.out⟩
set_option maxHeartbeats 8000000
set_option maxRecDepth 40000
theorem Gx {P:Program} {ops:Array Oper} {rest:List Oper} {o:Oper} {a:Act} {w:World} {Q:Exit→Act→World→Prop} (hw:Region.wanted o (yielded ops a.tmps)=true) (ty:TypeId) (x:Operand) (ho:o.op=.load ty x)
  (g:Nat) (hx:a.eval x=(pt g 0)) (t:TypeId) (cs:Array Value) (fr:Nat × Nat) (d:TypeDesc) (hg:w.heap[g]?=some (.cells cs t fr))
  (hu:P.underlying ty=some d) (hd:(match d with | .struct _ | .array _ _=>true | _=>false)=true) (hi:(P.info? ty).map (·.size)=some cs.size)
  (h:wpList P ops Q rest (a.put o.dst (.agg cs)) w):wpList P ops Q (o :: rest) a w :=
 wpList_step fun K hK=>by rw [if_pos hw]; exact wp_load_row ty x ho g hx t cs fr d hg hu hd hi (hK _ _ h)
theorem Sl {d:Aq} (hs:szD d≤1048576):1+Ds d≤1099511627776∧0≤Ds d:=by
 unfold szD at hs;unfold Ds
 omega
structure Vi (e d:Aq):Prop where
 m:e.m=d.m
 ln:e.ln=d.ln
 np:e.np=d.np
 nr:e.nr=d.nr
 nq:e.nq≤d.nq+1
theorem Uv (d:Aq) (a:Int):Vi (Cn d a) d:=by
 unfold Cn;split
 ·exact ⟨rfl,rfl,rfl,rfl,Nat.le_refl _⟩
 ·split
  ·exact ⟨rfl,rfl,rfl,rfl,Nat.le_refl _⟩
  ·split
   ·exact ⟨rfl,rfl,rfl,rfl,Nat.le_refl _⟩
   ·exact ⟨rfl,rfl,rfl,rfl,Nat.le_succ _⟩
theorem Sm (d:Aq) (a y:Int):Vi (Bu d a y) d:=by
 unfold Bu
 repeat' split
 all_goals exact ⟨rfl,rfl,rfl,rfl,Nat.le_succ _⟩
theorem Ya (d:Aq):Vi (actD d) d:=by
 unfold actD;split
 ·exact ⟨rfl,rfl,rfl,rfl,Nat.le_succ _⟩
 ·split
  ·exact ⟨rfl,rfl,rfl,rfl,Nat.le_succ _⟩
  ·have h:Vi (Cj d (X2 d) (opA d)) d:=by
    unfold Cj;split
    ·exact Uv _ _
    ·split
     ·exact Sm _ _ _
     ·exact ⟨rfl,rfl,rfl,rfl,Nat.le_succ _⟩
   exact ⟨h.m,h.ln,h.np,h.nr,h.nq⟩
theorem Sn (k:Nat):∀ d:Aq,(tickN k d).m=d.m∧(tickN k d).ln=d.ln∧(tickN k d).np=d.np∧(tickN k d).nr=d.nr∧(tickN k d).nq=d.nq:=by
 induction k with
 | zero=>intro d; exact ⟨rfl,rfl,rfl,rfl,rfl⟩
 | succ k ih=>intro d; exact ih (B8 d)
theorem Uw {d:Aq} (hs:szD d≤1048576):1+Ds (Ge d)≤1099511627776∧0≤Ds (Ge d):=by
 cases hk:Cd d
 ·rw [(Sk hk).1]
  have:Ds Sc=0:=rfl
  omega
 ·cases hb:D8 d
  ·rw [(Nk hk hb).1]
   exact Sl hs
  ·rw [(O9 hk hb).1]
   have hL:=Up hk;have hb':(actD d).t+actN d≤20000:=of_decide_eq_true hb;have hn:=J6 d;have S:=Ya d;obtain ⟨e1,e2,e3,e4,e5⟩:=Sn (actN d).toNat (actD d);have T:=hL.t.act.ticks (actN d).toNat (by omega);have h1:Ds (Ij d)=Ds (tickN (actN d).toNat (actD d)):=rfl;have h2:psum (tickN (actN d).toNat (actD d)).lf (tickN (actN d).toNat (actD d)).mf≤(tickN (actN d).toNat (actD d)).mf*48:=Ja (fun i hi=>by rw [T.lf i hi]; omega);have h3:=T.mf;have h4:=T.ns;have h5:=T.ppu.t0;have h6:=T.ppu.t1;have h7:=T.ppu.n16;have h8:=T.ppu.dots
   have h9:Dk (tickN (actN d).toNat (actD d)).t≤64:=by unfold Dk; split <;> omega
   have s1:=S.nq;rw [h1];unfold Ds;rw [e1,e2,e3,e4,e5,S.m,S.ln,S.np,S.nr];unfold szD at hs;unfold Va at h3;generalize psum (tickN (actN d).toNat (actD d)).lf (tickN (actN d).toNat (actD d)).mf=X at *;generalize tickN (actN d).toNat (actD d)=Y at *
   omega
theorem hnq {d:Aq} (hs:szD d≤1048576) (hok:Cd d=true):d.nq<1048576:=by
 have h:=(Fg (Eg hok).2.1).2.1;unfold szD at hs
 omega
theorem Sp (w:World) (d:Aq) (u0:Value) (ra0:Nat→Option Addr) (rc0:Nat→Nat) (a1:Option Addr) (c1:Nat) (a2:Option Addr) (c2:Nat) (a3:Option Addr) (c3:Nat) (a4:Option Addr) (c4:Nat) (u5:Value) (ra5:Nat→Option Addr) (rc5:Nat→Nat) (a6:Option Addr) (c6:Nat) (a7:Option Addr) (c7:Nat) (hT:Dc w) (H:Jcn w d u0 ra0 rc0 a1 c1 a2 c2 a3 c3 a4 c4 u5 ra5 rc5 a6 c6 a7 c7) :
  Calls Tryz.prog 3 #[.agg (kR d u0 (.slice a1 d.np c1) (.slice a2 d.nr c2) (.slice a3 d.nt c3) (.slice a4 d.nd c4) u5 (.slice a6 d.ns c6) (.slice a7 d.nq c7))] w fun e w'=>e=.returned (.bool true)∧Below w.heap.size w w':=by
 have HTB:=Ad hT;clear hT
 obtain ⟨cs,hcs⟩:∃ cs:Array Value,Hid (cs=(kR d u0 (.slice a1 d.np c1) (.slice a2 d.nr c2) (.slice a3 d.nt c3) (.slice a4 d.nd c4) u5 (.slice a6 d.ns c6) (.slice a7 d.nq c7))):=⟨_,rfl⟩
 have hsz:cs.size=34:=by rw [hcs.out]; rfl
 have HZ:Hid (∀ W,Ed W u0 d.m ra0 d.ln rc0 d.f→Ed W u5 d.mf ra5 d.lf rc5 d.fr→Calls Tryz.prog 4 #[.agg cs,.i 1048576] W fun e w'=>e=.returned (.i (Db 1048576 (szD d)))∧Below W.heap.size W w'):=fun W h0 h5=>by
  rw [hcs.out];exact Jcm W d u0 ra0 rc0 a1 c1 a2 c2 a3 c3 a4 c4 u5 ra5 rc5 a6 c6 a7 c7 1048576 h0 h5 H.n1 H.n2 H.n3 H.n4 H.n6 H.n7 (by omega) (by omega)
 have HT:Hid (szD d≤1048576→∀ W,Below w.heap.size w W→Calls Tryz.prog 6 #[.agg cs] W fun e w'=>∃ cs',cs'.size=34∧cs'.all (·.oneCell')=true∧e=.returned (.agg cs')∧(∃ D,Bh w' D (.agg cs') d∧Xb D∧∀ i b,D i b→W.heap.size≤b∧b<w'.heap.size)∧Below W.heap.size W w'):=fun hs W L=>by
  rw [hcs.out];refine (Zc W u0 (.slice a1 d.np c1) (.slice a2 d.nr c2) (.slice a3 d.nt c3) (.slice a4 d.nd c4) u5 (.slice a6 d.ns c6) (.slice a7 d.nq c7) d (H.raw hs L) (Ox hs).1 (Ox hs).2).mono ?_;rintro e w' ⟨v,rfl,⟨D,o,h1,h2⟩,L'⟩;obtain ⟨cs',rfl,hs',ho'⟩:=o.agg;exact ⟨cs',hs',ho',rfl,⟨D,o,h1,h2⟩,L'⟩
 rw [← hcs.out];clear hcs;have C0:Below w.heap.size w (w.alloc (.cells cs 39)):=(Below.refl _ _).alloc (Nat.le_refl _) _;have k0:=Al w cs 39;have R0:=Ad (H.r0.below C0);have R5:=Ad (H.r5.below C0);clear H
 go_enter Tryz.func3,Tryz.ntmps3
 go_upto_region 2 with (fail);generalize w.alloc (.cells cs 39)=W0 at *;refine wp_region_lit ?_;refine wpList_load_row rfl _ _ rfl (w.heap.size) rfl _ _ _ _ k0 Tryz.underlying39 rfl (infoAt Ih hsz) ?_;go_wp2_with fail;refine (HZ.out _ R0.out R5.out).mono ?_;rintro e W1 ⟨rfl,L⟩;have C1:=Ae C0 L;replace k0:=Aa k0 L (Ac k0);have hk00:=Ac k0;clear L C0 R0 R5 HZ
 by_cases hbig:(1048576:Int)<(szD d:Int)
 ·have HZ:=Ad (B4 hbig)
  rw [HZ.out];go_wp2;go_ret;exact ⟨rfl,C1⟩
 have HZ:=Ad (Cl (show (szD d:Int)≤1048576 by omega));rw [HZ.out];replace HT:=Ad (HT.out (by omega));have HS:=Ad (show szD d≤1048576 by omega)
 obtain ⟨lf,hlf⟩:∃ lf:Int,Hid (lf=1048576-(szD d:Int)):=⟨_,rfl⟩
 rw [← hlf.out]
 have hnn:¬ (lf<0):=by rw [hlf.out]; omega
 clear HZ hbig hlf;go_upto_region 5 with (fail);refine wp_region_lit ?_;refine wpList_load_row rfl _ _ rfl (w.heap.size) rfl _ _ _ _ k0 Tryz.underlying39 rfl (infoAt Ih hsz) ?_;go_wp2_with fail;refine (HT.out _ C1).mono ?_;rintro e W2 ⟨cS,scS,onecS,rfl,⟨DS,oS,-,-⟩,L⟩;have C2:=Ae C1 L;replace k0:=Aa k0 L (Ac k0);have sz2:=L.size;clear L C1;go_wp2_with fail;refine (Qo _ DS _ d oS (fun h=>hnq HS.out h)).mono ?_;rintro e W3 ⟨vW,rfl,oW',L⟩;have C3:=Ae C2 L;replace k0:=Aa k0 L (Ac k0);have sz3:=L.size;clear L C2;clear oS;obtain ⟨DW,oW,-,bW⟩:=oW';obtain ⟨cW,rfl,scW,onecW⟩:=oW.agg
 obtain ⟨rd,hrd⟩:∃ x,Hid (x=Ge d):=⟨_,rfl⟩
 obtain ⟨rv,hrv⟩:∃ x,Hid (x=Hl d):=⟨_,rfl⟩
 have HI:=Ad (fun W D v h (L:Below w.heap.size w W)=>Qn W D v d h (HTB.out.mono L) (fun h=>hnq HS.out h));rw [← hrd.out,← hrv.out] at HI;rw [← hrd.out] at oW;rw [← hrv.out]
 have HMR:Hid (1+Ds rd≤1099511627776∧0≤Ds rd):=by rw [hrd.out]; exact Uw HS.out
 have HMD:Hid (1+Ds d≤1099511627776∧0≤Ds d):=Sl HS.out;clear hrd hrv;have hst:=run_storeCells_new (P:=Tryz.prog) W3 49 zR cW (infoAt Ao scW) (by rw [scW]; rfl) onecW;have bxW:=Al W3 cW 49;have LA:Below W3.heap.size W3 (W3.alloc (.cells cW 49)):=(Below.refl _ _).alloc (Nat.le_refl _) _;go_upto_region 6 with (fail);clear hst;have C4:=Ae C3 LA;replace k0:=Aa k0 LA (Ac k0);replace oW:=oW.below LA;have sz4:=LA.size;clear LA C3
 obtain ⟨zbxW,hzbxW⟩:∃ z,Hid (z=W3.heap.size):=⟨_,rfl⟩
 rw [← hzbxW.out] at bxW ⊢;generalize W3.alloc (.cells cW 49)=W4 at *
 have gzbxW:W3.heap.size≤zbxW:=by rw [hzbxW.out]; exact Nat.le_refl _
 have lzbxW:=Ac bxW;clear hzbxW;refine wp_region_lit ?_;refine wpList_load_row rfl _ _ rfl (w.heap.size) rfl _ _ _ _ k0 Tryz.underlying39 rfl (infoAt Ih hsz) ?_;go_wp2_with fail;refine (HT.out _ C4).mono ?_;rintro e W5 ⟨c0,sc0,onec0,rfl,⟨D0,o0,d0,b0⟩,L⟩;have C5:=Ae C4 L;replace k0:=Aa k0 L (Ac k0);replace bxW:=Aa bxW L (Ac bxW);replace oW:=oW.below L;have sz5:=L.size;clear L C4;have hst:=run_storeCells_new (P:=Tryz.prog) W5 49 zR c0 (infoAt Ao sc0) (by rw [sc0]; rfl) onec0;have bx0:=Al W5 c0 49;have LA:Below W5.heap.size W5 (W5.alloc (.cells c0 49)):=(Below.refl _ _).alloc (Nat.le_refl _) _;go_upto_region 7 with (fail);clear hst;have C6:=Ae C5 LA;replace k0:=Aa k0 LA (Ac k0);replace bxW:=Aa bxW LA (Ac bxW);replace oW:=oW.below LA;replace o0:=o0.below LA;have sz6:=LA.size
 clear LA C5
 obtain ⟨zbx0,hzbx0⟩:∃ z,Hid (z=W5.heap.size):=⟨_,rfl⟩
 rw [← hzbx0.out] at bx0 ⊢;generalize W5.alloc (.cells c0 49)=W6 at *
 have gzbx0:W5.heap.size≤zbx0:=by rw [hzbx0.out]; exact Nat.le_refl _
 have lzbx0:=Ac bx0;clear hzbx0;refine wp_region_lit ?_;refine wpList_load_row rfl _ _ rfl (zbx0) rfl _ _ _ _ bx0 Tryz.underlying49 rfl (infoAt Ao sc0) ?_;go_wp2_with fail;refine (HI.out _ D0 _ o0 C6).mono ?_;rintro e W7 ⟨vG,rfl,⟨DG,oG,dG,bG⟩,L⟩;have C7:=Ae C6 L;replace k0:=Aa k0 L (Ac k0);replace bxW:=Aa bxW L (Ac bxW);replace bx0:=Aa bx0 L (Ac bx0);replace oW:=oW.below L;replace o0:=o0.below L;have sz7:=L.size;clear L C6;obtain ⟨cG,rfl,scG,onecG⟩:=oG.agg;have hst:=run_storeCells_new (P:=Tryz.prog) W7 49 zR cG (infoAt Ao scG) (by rw [scG]; rfl) onecG;have bxG:=Al W7 cG 49;have LA:Below W7.heap.size W7 (W7.alloc (.cells cG 49)):=(Below.refl _ _).alloc (Nat.le_refl _) _;go_upto_region 8 with (fail);clear hst;have C8:=Ae C7 LA;replace k0:=Aa k0 LA (Ac k0)
 replace bxW:=Aa bxW LA (Ac bxW);replace bx0:=Aa bx0 LA (Ac bx0);replace oW:=oW.below LA;replace o0:=o0.below LA;replace oG:=oG.below LA;have sz8:=LA.size;clear LA C7
 obtain ⟨zbxG,hzbxG⟩:∃ z,Hid (z=W7.heap.size):=⟨_,rfl⟩
 rw [← hzbxG.out] at bxG ⊢;generalize W7.alloc (.cells cG 49)=W8 at *
 have gzbxG:W7.heap.size≤zbxG:=by rw [hzbxG.out]; exact Nat.le_refl _
 have lzbxG:=Ac bxG;clear hzbxG;refine wp_region_lit ?_;refine wpList_load_row rfl _ _ rfl (zbxG) rfl _ _ _ _ bxG Tryz.underlying49 rfl (infoAt Ao scG) ?_;refine wpList_load_row rfl _ _ rfl (zbxW) rfl _ _ _ _ bxW Tryz.underlying49 rfl (infoAt Ao scW) ?_;go_wp2_with fail;refine (Jy _ _ _ _ _ rd oG oW).mono ?_;rintro e W9 ⟨rfl,L⟩;have C9:=Ae C8 L;replace k0:=Aa k0 L (Ac k0);replace bxW:=Aa bxW L (Ac bxW);replace bx0:=Aa bx0 L (Ac bx0);replace bxG:=Aa bxG L (Ac bxG);replace oW:=oW.below L;replace o0:=o0.below L;replace oG:=oG.below L;have sz9:=L.size;clear L C8
 have hrr:(rv != rv)=false:=by cases rv <;> rfl
 go_upto_region 10 with (fail);rename_i K2 hK2 K3' hK3'
 refine A8 [some 41,some 42,some 43,some 44,some 45] (by kernel_rfl) (by kernel_rfl) (by kernel_rfl) (by kernel_rfl) (by simp [slotsOf])
  (fun _ _ _=>False)
  (fun i v W=>match i with
   | 0=>v=.agg c0
   | 1=>v=.agg cs
   | 2=>∃ cX DX,v=.agg cX∧Bh W DX (.agg cX) d
   | 3=>v=.bool true
   | _=>v=.bool false) ?_ ?_ ?_
 ·intro i j o v W W' hij _ _ hW h
  match i,h with
  | 0,h=>exact h
  | 1,h=>exact h
  | 2,⟨cX,DX,h1,h2⟩=>exact ⟨cX,DX,h1,h2.keep hW (fun _ _ _ _ _ x=>x)⟩
  | 3,h=>exact h
  | _+4,h=>exact h
 ·intro i o a' W K ho F L hw hK
  have t1:=F.get (t:=1) (v:=(pt w.heap.size 0)) (by decide) rfl;have t5:=F.get (t:=6) (v:=(pt zbx0 0)) (by decide) rfl;have LB:Below W9.heap.size W9 W:=L.below (Nat.le_refl _) (fun b o _ ⟨j,_,_,_,_,h⟩=>h)
  match i with
  | 0 =>
    cases ho;refine wp_load_row _ _ rfl zbx0 (by simpa [Act.eval] using t5) _ _ _ _ (Aa bx0 LB (Ac bx0)) Tryz.underlying49 rfl (infoAt Ao sc0) ?_;exact Hk hK rfl
  | 1 =>
    cases ho;refine wp_load_row _ _ rfl w.heap.size (by simpa [Act.eval] using t1) _ _ _ _ (Aa k0 LB (Ac k0)) Tryz.underlying39 rfl (infoAt Ih hsz) ?_;exact Hk hK rfl
  | 2 =>
    cases ho;have q1:tv a' 42=_:=Hr hw 1;go_simp;refine (HT.out W (Ae C9 LB)).mono ?_;rintro e W' ⟨cX,-,-,rfl,⟨DX,oX,-,-⟩,LX⟩;exact hK _ _ (Ab LX _) ⟨cX,DX,rfl,oX⟩
  | 3 =>
    cases ho;have q0:tv a' 41=_:=Hr hw 0;obtain ⟨cX,DX,q2,oX⟩:∃ cX DX,a'.tmps[43]?.getD undef=.agg cX∧Bh W DX (.agg cX) d:=Hr hw 2;go_simp;refine (Jy W _ _ _ _ d (o0.below LB) oX).mono ?_;rintro e W' ⟨rfl,LX⟩;exact hK _ _ (Ab LX _) rfl
  | 4 =>
    cases ho;have q3:tv a' 44=_:=Hr hw 3;go_simp;exact Hk hK rfl
  | _+5=>simp at ho
 ·intro a' W F L hφ
  have LB:Below W9.heap.size W9 W:=L.below (Nat.le_refl _) (fun b o _ ⟨j,h⟩=>h);have v4:a'.tmps[45]?.getD undef=.bool false:=Hd hφ 4;rw [F.same,show slotsOf [some 41,some 42,some 43,some 44,some 45]=[41,42,43,44,45] from rfl];simp only [List.foldl_cons,List.foldl_nil];rw [v4];generalize a'.tmps[41]?.getD undef=s0;generalize a'.tmps[42]?.getD undef=s1;generalize a'.tmps[43]?.getD undef=s2;generalize a'.tmps[44]?.getD undef=s3;clear hφ L F v4;refine hK3' _ _ ?_;go_simp
  obtain ⟨W10,hWW⟩:∃ x,x=W:=⟨_,rfl⟩
  subst hWW;have C10:=Ae C9 LB;replace k0:=Aa k0 LB (Ac k0);replace bxW:=Aa bxW LB (Ac bxW);replace bx0:=Aa bx0 LB (Ac bx0);replace bxG:=Aa bxG LB (Ac bxG);replace oW:=oW.below LB;replace o0:=o0.below LB;replace oG:=oG.below LB;have sz10:=LB.size;clear LB C9;go_upto_region 13 with (fail);refine wp_region_lit ?_;refine wpList_load_row rfl _ _ rfl (zbx0) rfl _ _ _ _ bx0 Tryz.underlying49 rfl (infoAt Ao sc0) ?_;go_wp2_with fail;refine (Mj _ D0 _ d 1 o0 d0 (fun i b h=>by have:=b0 _ _ h; omega) (by omega) HMD.out.1).mono ?_;rintro e W11 ⟨rfl,-,T⟩;have C11:=C10.trans (T.below C10.size (fun b o hb ⟨i,h⟩=>by have:=b0 _ _ h; omega));replace k0:=Ah k0 T (fun o ⟨i,h⟩=>by have:=b0 _ _ h; omega);replace bxW:=Ah bxW T (fun o ⟨i,h⟩=>by have:=b0 _ _ h; omega)
  replace bx0:=Ah bx0 T (fun o ⟨i,h⟩=>by have:=b0 _ _ h; omega);replace bxG:=Ah bxG T (fun o ⟨i,h⟩=>by have:=b0 _ _ h; omega);replace oW:=oW.keep T (fun i b o hb _ ⟨i',h⟩=>by have:=b0 _ _ h; have:=bW _ _ hb; omega);replace oG:=oG.keep T (fun i b o hb _ ⟨i',h⟩=>by have:=b0 _ _ h; have:=bG _ _ hb; omega);have sz11:=T.size;clear T C10;clear o0;have HMD':=HMD.out.2
  obtain ⟨kd,hkd⟩:∃ k,Hid (k=1+Ds d):=⟨_,rfl⟩
  rw [← hkd.out]
  have hk0:¬ (kd<0):=by rw [hkd.out]; omega
  have hk0':decide (kd<0)=false:=decide_eq_false hk0;clear hkd HMD';go_upto_region 14 with (fail);refine wp_region_lit ?_;refine wpList_plain rfl (fun K3 hK3=>?_);go_simp;refine hK3 _ _ ?_;clear hK3;refine wpList_plain rfl (fun K3 hK3=>?_);go_simp;refine hK3 _ _ ?_;clear hK3;refine wpList_plain rfl (fun K3 hK3=>?_);go_simp;refine hK3 _ _ ?_;clear hK3;refine Gx (by kernel_rfl) _ _ rfl (zbxG) rfl _ _ _ _ bxG Tryz.underlying49 rfl (infoAt Ao scG) ?_;refine Gx (by kernel_rfl) _ _ rfl (zbxW) rfl _ _ _ _ bxW Tryz.underlying49 rfl (infoAt Ao scW) ?_;go_wp2_with fail;refine (Jy _ _ _ _ _ rd oG oW).mono ?_;rintro e W12 ⟨rfl,L⟩;have C12:=Ae C11 L;replace k0:=Aa k0 L (Ac k0);replace bxW:=Aa bxW L (Ac bxW);replace bx0:=Aa bx0 L (Ac bx0);replace bxG:=Aa bxG L (Ac bxG)
  replace oW:=oW.below L;replace oG:=oG.below L;have sz12:=L.size;clear L C11;go_upto_region 17 with (fail);refine wp_region_lit ?_;refine wpList_load_row rfl _ _ rfl (zbxG) rfl _ _ _ _ bxG Tryz.underlying49 rfl (infoAt Ao scG) ?_;go_wp2_with fail;refine (Mj _ DG _ rd 1 oG dG (fun i b h=>by have:=bG _ _ h; omega) (by omega) HMR.out.1).mono ?_;rintro e W13 ⟨rfl,oK,T⟩;have C13:=C12.trans (T.below C12.size (fun b o hb ⟨i,h⟩=>by have:=bG _ _ h; omega));replace k0:=Ah k0 T (fun o ⟨i,h⟩=>by have:=bG _ _ h; omega);replace bxW:=Ah bxW T (fun o ⟨i,h⟩=>by have:=bG _ _ h; omega);replace bx0:=Ah bx0 T (fun o ⟨i,h⟩=>by have:=bG _ _ h; omega);replace bxG:=Ah bxG T (fun o ⟨i,h⟩=>by have:=bG _ _ h; omega);replace oW:=oW.keep T (fun i b o hb _ ⟨i',h⟩=>by have:=bG _ _ h; have:=bW _ _ hb; omega)
  have sz13:=T.size;clear T C12;clear oG;have HHD:=Ad (fun W h=>Tn W DG (.agg cG) rd 1 h (by omega) HMR.out.1)
  obtain ⟨km,hkm⟩:∃ k,Hid (k=1+Ds rd):=⟨_,rfl⟩
  rw [← hkm.out] at HHD ⊢
  have hm0:¬ (km<0):=by have:=HMR.out.2; rw [hkm.out]; omega
  have hmm:(km != km)=false:=by simp
  clear hkm;go_upto_region 19 with (fail);refine wp_region_lit ?_;refine wpList_load_row rfl _ _ rfl (zbxG) rfl _ _ _ _ bxG Tryz.underlying49 rfl (infoAt Ao scG) ?_;go_wp2_with fail;refine (HHD.out _ oK).mono ?_;rintro e W14 ⟨rfl,L⟩;have C14:=Ae C13 L;replace k0:=Aa k0 L (Ac k0);replace bxW:=Aa bxW L (Ac bxW);replace bx0:=Aa bx0 L (Ac bx0);replace bxG:=Aa bxG L (Ac bxG);replace oW:=oW.below L;replace oK:=oK.below L;have sz14:=L.size;clear L C13;go_upto_region 24 with (fail);refine wp_region_lit ?_;refine wpList_load_row rfl _ _ rfl (w.heap.size) rfl _ _ _ _ k0 Tryz.underlying39 rfl (infoAt Ih hsz) ?_;go_wp2_with fail;refine (HT.out _ C14).mono ?_;rintro e W15 ⟨cY,scY,onecY,rfl,⟨DY,oY,-,-⟩,L⟩;have C15:=Ae C14 L;replace k0:=Aa k0 L (Ac k0);replace bxW:=Aa bxW L (Ac bxW)
  replace bx0:=Aa bx0 L (Ac bx0);replace bxG:=Aa bxG L (Ac bxG);replace oW:=oW.below L;replace oK:=oK.below L;have sz15:=L.size;clear L C14;go_wp2_with fail;refine (HI.out _ DY _ oY C15).mono ?_;rintro e W16 ⟨vH,rfl,⟨DH,oH,-,-⟩,L⟩;have C16:=Ae C15 L;replace k0:=Aa k0 L (Ac k0);replace bxW:=Aa bxW L (Ac bxW);replace bx0:=Aa bx0 L (Ac bx0);replace bxG:=Aa bxG L (Ac bxG);replace oW:=oW.below L;replace oK:=oK.below L;have sz16:=L.size;clear L C15;clear oY;obtain ⟨cH,rfl,scH,onecH⟩:=oH.agg;have hst:=run_storeCells_new (P:=Tryz.prog) W16 49 zR cH (infoAt Ao scH) (by rw [scH]; rfl) onecH;have bxH:=Al W16 cH 49;have LA:Below W16.heap.size W16 (W16.alloc (.cells cH 49)):=(Below.refl _ _).alloc (Nat.le_refl _) _;go_upto_region 25 with (fail);clear hst;have C17:=Ae C16 LA
  replace k0:=Aa k0 LA (Ac k0);replace bxW:=Aa bxW LA (Ac bxW);replace bx0:=Aa bx0 LA (Ac bx0);replace bxG:=Aa bxG LA (Ac bxG);replace oW:=oW.below LA;replace oK:=oK.below LA;replace oH:=oH.below LA;have sz17:=LA.size;clear LA C16
  obtain ⟨zbxH,hzbxH⟩:∃ z,Hid (z=W16.heap.size):=⟨_,rfl⟩
  rw [← hzbxH.out] at bxH ⊢;generalize W16.alloc (.cells cH 49)=W17 at *
  have gzbxH:W16.heap.size≤zbxH:=by rw [hzbxH.out]; exact Nat.le_refl _
  have lzbxH:=Ac bxH;clear hzbxH;refine wp_region_lit ?_;refine wpList_load_row rfl _ _ rfl (zbxH) rfl _ _ _ _ bxH Tryz.underlying49 rfl (infoAt Ao scH) ?_;refine wpList_load_row rfl _ _ rfl (zbxW) rfl _ _ _ _ bxW Tryz.underlying49 rfl (infoAt Ao scW) ?_;go_wp2_with fail;refine (Jy _ _ _ _ _ rd oH oW).mono ?_;rintro e W18 ⟨rfl,L⟩;have C18:=Ae C17 L;replace k0:=Aa k0 L (Ac k0);replace bxW:=Aa bxW L (Ac bxW);replace bx0:=Aa bx0 L (Ac bx0);replace bxG:=Aa bxG L (Ac bxG);replace bxH:=Aa bxH L (Ac bxH);replace oW:=oW.below L;replace oK:=oK.below L;replace oH:=oH.below L;have sz18:=L.size;clear L C17;go_upto_region 28 with (fail);refine wp_region_lit ?_;refine wpList_load_row rfl _ _ rfl (zbxG) rfl _ _ _ _ bxG Tryz.underlying49 rfl (infoAt Ao scG) ?_;go_wp2_with fail
  refine (HHD.out _ oK).mono ?_;rintro e W19 ⟨rfl,L⟩;have C19:=Ae C18 L;replace k0:=Aa k0 L (Ac k0);replace bxW:=Aa bxW L (Ac bxW);replace bx0:=Aa bx0 L (Ac bx0);replace bxG:=Aa bxG L (Ac bxG);replace bxH:=Aa bxH L (Ac bxH);replace oW:=oW.below L;replace oK:=oK.below L;replace oH:=oH.below L;have sz19:=L.size;clear L C18;go_wp2;go_ret;exact ⟨rfl,C19⟩
end Go.Proofs.YtgcmimcalmjaaaaGreatDoor
