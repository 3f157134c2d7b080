import Derived.Test.YtgcmimcalmjaaaaGreatDoorSM
import Derived.Test.YtgcmimcalmjaaaaGreatDoorSL
import Derived.Test.YtgcmimcalmjaaaaGreatDoorSI
namespace Go.Proofs.YtgcmimcalmjaaaaGreatDoor
set_option maxHeartbeats 8000000
set_option maxRecDepth 40000
set_option linter.unusedVariables false
set_option linter.unusedSimpArgs false
open Go.ChangeShapes Go.WideShapes Go.ChangeAt Go.RowKit
theorem Bx.far {w W W':World} {lo b r:Nat} {rs cs:Array Value} (H:Bx w W lo b r rs cs) {z:Nat} (h0:w.heap.size≤z) (hz:z≠b) (hz2:z≠r) (hw:Wrote (fun x _=>x=z) W W'):Bx w W' lo b r rs cs :=
 have h2:=H.hl
 ⟨Ah H.box hw (fun o (e:b=z)=>hz e.symm),Ah H.res hw (fun o (e:r=z)=>hz2 e.symm),H.low.trans (hw.below (Nat.le_trans H.hl H.low.size) (fun x o hb (e:x=z)=>by omega)),H.kept.wrote hw (fun x o hb (e:x=z)=>by exfalso; omega),H.up,H.up2,H.ne,H.hl⟩
theorem Z9 (w:World) (lo:Nat) (D:Nat→Nat→Prop) (v:Value) (d:Aq) (H:Ez w lo D v d) (hlo:lo≤w.heap.size) (hok:OkL d) (hnq:d.nq<1048576) (hnm:d.nmi=false) (hnc:(d.R && !d.I)=false):Calls Tryz.prog 57 #[v] w fun e w'=>∃ v',e=.returned (.tuple #[v',.i (actN d)])∧Hm w w' lo D v' (actD d)∧Below lo w w'∧Dv w w':=by
 obtain ⟨y0,y1,y2,y3,y4,ov,gb,cp,g6,c6,g7,c7,rfl,LX⟩:=H.start hlo (Below.refl w.heap.size w);replace LX:=LX.below (((Below.refl w.heap.size w).alloc (Nat.le_refl _) (.cells (rowL y0 y1 y2 y3 y4 ov g6 c6 g7 c7 d) 49)).alloc (by simp) (.cells zR 49));have BX:=Bx.start w (rowL y0 y1 y2 y3 y4 ov g6 c6 g7 c7 d) zR hlo
 go_enter Tryz.func57,Tryz.ntmps57
 go_upto_region 1 with (fail);generalize (w.alloc (.cells (rowL y0 y1 y2 y3 y4 ov g6 c6 g7 c7 d) 49)).alloc (.cells zR 49)=W0 at *;generalize hrs:(zR:Array Value)=rs at BX
 have HRS:Hid (rs.size=34):=by show _=_; rw [← hrs]; rfl
 clear hrs;have c0:=Ag BX.box;have f0:=As BX.box
 obtain ⟨rr,hrr⟩:∃ x,Hid (x=d.R):=⟨_,rfl⟩
 obtain ⟨ii,hii⟩:∃ x,Hid (x=d.I):=⟨_,rfl⟩
 have hc:Hid ((rr && !ii)=false):=by show _=_; rw [hrr.out,hii.out]; exact hnc
 have f29:(rowL y0 y1 y2 y3 y4 ov g6 c6 g7 c7 d)[29]?=some (.bool false):=by rw [← hnm]; rfl
 have f26:(rowL y0 y1 y2 y3 y4 ov g6 c6 g7 c7 d)[26]?=some (.bool rr):=by rw [hrr.out]; rfl
 have f11:(rowL y0 y1 y2 y3 y4 ov g6 c6 g7 c7 d)[11]?=some (.bool ii):=by rw [hii.out]; rfl
 replace hnm:=Ad hnm;replace hnc:=Ad hnc;go_upto_region 5 with (fail)
 go_cut [33] (fun s wc=>s=.bool false∧wc=W0)
 case first =>
  cases rr with
  | false =>
   go_wp2_with fail
   go_meet
   exact ⟨rfl,rfl⟩
  | true =>
   cases ii with
   | false=>exact absurd hc.out (by decide)
   | true =>
    go_wp2_with fail
    go_meet
    exact ⟨rfl,rfl⟩
 case rest =>
 obtain ⟨rfl,rfl⟩:=hcut;clear hrr hii hc rr ii f26 f11;go_upto_region 8 with (fail);clear c0 f0 f29
 obtain ⟨op,hop⟩:∃ x,Hid (x=peekV d.m d.ln d.f d.nr d.g d.bank d.Pc):=⟨_,rfl⟩
 obtain ⟨ar,har⟩:∃ x,Hid (x=Ib (peekV d.m d.ln d.f d.nr d.g d.bank) d.Pc):=⟨_,rfl⟩
 have HFE:=Ad (fun W F G v u h (k:Ints .i64 W G u d.nr d.g)=>Wi W F G v u d.m d.ln d.f d.nr d.g d.bank d.Pc h k);rw [← har.out,← hop.out] at HFE
 obtain ⟨ac,hac⟩:∃ x,Hid (x=B9 op):=⟨_,rfl⟩
 obtain ⟨at',hat⟩:∃ x,Hid (x=F9 op ar d.X):=⟨_,rfl⟩
 obtain ⟨va,hva⟩:∃ x,Hid (x=Lt op d.A):=⟨_,rfl⟩
 obtain ⟨cy,hcy⟩:∃ x,Hid (x=Sb op):=⟨_,rfl⟩
 obtain ⟨d2,hd2⟩:∃ x,Hid (x=Cj d op ar):=⟨_,rfl⟩
 obtain ⟨xx,hxx⟩:∃ x,Hid (x=Gg d op ar):=⟨_,rfl⟩
 obtain ⟨gx,hgx⟩:∃ x,Hid (x=Ew d2.g (Dt d2) op):=⟨_,rfl⟩
 obtain ⟨cx,hcx⟩:∃ x,Hid (x=Dy d2.g (Dt d2) op ar xx):=⟨_,rfl⟩
 have HAC:=Ad (fun W=>S8 W op ar d.A d.X d.S d.Pc d.Z d.N d.C d.I);rw [← hac.out,← hat.out,← hva.out] at HAC;have HRD:=Ad (fun W v h hl=>Z6 W lo D v d at' h hl hok.ok hnq);have HWR:=Ad (fun W v h hl=>X9 W lo D v d at' va h hl hok.ok);have M2:=Ik d op ar hok.row;rw [← hd2.out] at M2;have N5:d2.nr=512:=M2.2.2.1.trans hok.nr
 have P5:0≤(Dt d2).Pc∧(Dt d2).Pc≤65535:=by rw [M2.2.2.2.2.1]; exact hok.cpu.2.2.2
 have HEX:=Ad (fun W G u (k:Ints .i64 W G u d2.nr d2.g)=>Qg W G u d2.g d2.bank (N5 ▸ k) (Dt d2) P5 op ar xx);rw [← hgx.out,← hcx.out] at HEX;simp only [Dt,A4.v] at HEX
 have HCY:Hid (∀ W,Calls Tryz.prog 92 #[.i op] W fun e w'=>e=.returned (.i cy)∧Below W.heap.size W w'):=fun W=>by rw [hcy.out]; exact Pj W op
 have HVC:Hid (d.nmi=false→(d.R && !d.I)=false→actD d=putCpu d2 gx cx∧actN d=cy):=by
  intro e1 e2;unfold actD actN;rw [if_neg (by rw [e1]; decide),if_neg (by rw [e2]; decide),if_neg (by rw [e1]; decide),if_neg (by rw [e2]; decide)];unfold opD Jbv X2 opA;rw [← hop.out,← har.out,← hd2.out,← hxx.out,← hgx.out,← hcx.out,hcy.out];exact ⟨rfl,rfl⟩
 have HR1:Hid (ac=1→Cn d at'=d2∧Do d at'=xx):=by
  intro e
  have e':B9 op=1:=by rw [← hac.out]; exact e
  rw [hd2.out,hxx.out,hat.out];unfold Cj Gg;rw [if_pos e',if_pos e'];exact ⟨rfl,rfl⟩
 have HR2:Hid (ac=2→Bu d at' va=d2∧(0:Int)=xx):=by
  intro e
  have e':B9 op=2:=by rw [← hac.out]; exact e
  rw [hd2.out,hxx.out,hat.out,hva.out];unfold Cj Gg;rw [if_neg (by rw [e']; decide),if_pos e',if_neg (by rw [e']; decide)];exact ⟨rfl,rfl⟩
 have HR0:Hid (ac≠1→ac≠2→d=d2∧(0:Int)=xx):=by
  intro e1 e2
  have e1':¬ B9 op=1:=by rw [← hac.out]; exact e1
  have e2':¬ B9 op=2:=by rw [← hac.out]; exact e2
  rw [hd2.out,hxx.out];unfold Cj Gg;rw [if_neg e1',if_neg e2',if_neg e1'];exact ⟨rfl,rfl⟩
 clear hop har hat hva hcy hac M2 P5;replace N5:=Ad N5;rename_i K3 hK3;refine wp_region_lit ?_
 iterate 1 (refine wpList_plain rfl (fun K9 hK9=>?_); go_simp; refine hK9 _ _ ?_; clear hK9)
 refine Bf rfl _ _ rfl w.heap.size 0 rfl _ _ #[y0] _ _ BX.box (Zj rfl) Tryz.underlying41 rfl Ni ?_
 iterate 1 (refine wpList_plain rfl (fun K9 hK9=>?_); go_simp; refine hK9 _ _ ?_; clear hK9)
 refine Bf rfl _ _ rfl w.heap.size 2 rfl _ _ #[y2,.i d.bank] _ _ BX.box (Ve rfl rfl) Tryz.underlying42 rfl Bq ?_
 iterate 2 (refine wpList_plain rfl (fun K9 hK9=>?_); go_simp; refine hK9 _ _ ?_; clear hK9)
 have c0:=Ag BX.box;have f7:(rowL y0 y1 y2 y3 y4 ov g6 c6 g7 c7 d)[7]?=some (.i d.Pc):=rfl
 iterate 1 (refine wpList_plain rfl (fun K9 hK9=>?_); go_simp; refine hK9 _ _ ?_; clear hK9)
 clear c0 f7;refine Br rfl _ _ (by kernel_rfl) (HFE.out _ _ _ _ _ LX.lp.h0.ints LX.lp.h2.int1) ?_;rintro e W1 ⟨rfl,L⟩;refine ⟨_,rfl,?_⟩;replace BX:=BX.below L;replace LX:=LX.below L;clear L HFE
 iterate 2 (refine wpList_plain rfl (fun K9 hK9=>?_); go_simp; refine hK9 _ _ ?_; clear hK9)
 have LA:Below W1.heap.size W1 (W1.alloc (.cells #[.i op,.i ar] 109)):=(Below.refl _ _).alloc (Nat.le_refl _) _;have kp:=Al W1 #[.i op,.i ar] 109
 obtain ⟨pp,hpp⟩:∃ x,Hid (x=W1.heap.size):=⟨_,rfl⟩
 have lpp:w.heap.size+1<pp:=by rw [hpp.out]; exact Ac BX.res
 rw [← hpp.out] at kp ⊢;replace BX:=BX.below LA;replace LX:=LX.below LA;clear LA hpp;generalize W1.alloc (.cells #[.i op,.i ar] 109)=WA at *;refine hK3 _ _ ?_;clear hK3;go_upto_region 9 with (fail);rename_i K3 hK3;refine wp_region_lit ?_;refine wpList_load_row rfl _ _ rfl pp rfl _ _ _ _ kp Tryz.underlying109 rfl Nj ?_
 iterate 1 (refine wpList_plain rfl (fun K9 hK9=>?_); go_simp; refine hK9 _ _ ?_; clear hK9)
 refine Bf rfl _ _ rfl w.heap.size 4 rfl _ _ (cR d.A d.X d.S d.Pc d.Z d.N d.C d.I) _ _ BX.box (Gu rfl rfl rfl rfl rfl rfl rfl rfl) Tryz.underlying43 rfl Aw ?_;refine Br rfl _ _ (by kernel_rfl) (HAC.out WA) ?_;rintro e W2 ⟨rfl,L⟩;refine ⟨_,rfl,?_⟩;replace BX:=BX.below L;replace LX:=LX.below L;replace kp:=Aa kp L (Ac kp);clear L HAC
 iterate 7 (refine wpList_plain rfl (fun K9 hK9=>?_); go_simp; refine hK9 _ _ ?_; clear hK9)
 refine hK3 _ _ ?_;clear hK3
 go_upto_block 0 with (fail)
 go_cut [8] (fun s WX=>s=.i xx∧∃ (N0:Nat) (D3:Nat→Nat→Prop) (y0 y1 y2 y3 y4 ov:Value) (gb cp:Nat→Nat) (g6 c6 g7 c7:Nat),Bx w WX lo w.heap.size (w.heap.size+1) rs (rowL y0 y1 y2 y3 y4 ov g6 c6 g7 c7 d2)∧Lx w WX lo N0 w.heap.size (w.heap.size+1) D D3 y0 y1 y2 y3 y4 ov gb cp g6 c6 g7 c7 d2∧WX.heap[pp]?=some (.cells #[.i op,.i ar] 109 (0,0)))
 case first =>
  by_cases r1:ac=1
  ·obtain ⟨eD,eX⟩:=HR1.out r1
   have q1:(ac==1)=true:=by simp [r1]
   clear r1;clear HR1 HR2 HR0;go_upto_region 13 with (fail);rename_i K3 hK3;refine wp_region_lit ?_;have hz2:=BX.low.size;have hlw:=BX.hl;refine wpList_load_row rfl _ _ rfl w.heap.size rfl _ _ _ _ BX.box Tryz.underlying49 rfl Ao ?_
   iterate 1 (refine wpList_plain rfl (fun K9 hK9=>?_); go_simp; refine hK9 _ _ ?_; clear hK9)
   refine Br rfl _ _ (by kernel_rfl) (HRD.out _ _ LX.lp.x (by omega)) ?_;rintro e W3 ⟨v3,rfl,HN,LB,KB⟩;refine ⟨_,rfl,?_⟩;rw [eD] at HN;rw [eX];have hz3:=LB.size;obtain ⟨D3,y0,y1,y2,y3,y4,ov,gb,cp,g6,c6,g7,c7,rfl,LX3⟩:=HN.lx LX.ap LX.nr (Ac BX.box) (Ac BX.res) hz2 (by omega);replace BX:=BX.turn LB KB;replace kp:=KB.2 _ _ _ kp (by decide) (by decide);clear HN LB KB LX HRD HWR
   iterate 3 (refine wpList_plain rfl (fun K9 hK9=>?_); go_simp; refine hK9 _ _ ?_; clear hK9)
   refine wpList_store_row rfl _ _ _ rfl w.heap.size _ rfl rfl _ _ BX.box Ao rfl LX3.one ?_
   iterate 1 (refine wpList_plain rfl (fun K9 hK9=>?_); go_simp; refine hK9 _ _ ?_; clear hK9)
   have LX:=LX3.wrote BX (Or.inl rfl) (Au BX.box (rowL y0 y1 y2 y3 y4 ov g6 c6 g7 c7 d2));replace kp:=Ah kp (Au BX.box (rowL y0 y1 y2 y3 y4 ov g6 c6 g7 c7 d2)) (fun o (e:pp=_)=>by omega);replace BX:=BX.set (rowL y0 y1 y2 y3 y4 ov g6 c6 g7 c7 d2);clear LX3;generalize W3.setRow w.heap.size (rowL y0 y1 y2 y3 y4 ov g6 c6 g7 c7 d2)=W4 at *;refine hK3 _ _ ?_;clear hK3;go_wp2_with fail
   go_meet
   exact ⟨rfl,_,_,_,_,_,_,_,_,_,_,_,_,_,_,BX,LX,kp⟩
  ·by_cases r2:ac=2
   ·obtain ⟨eD,eX⟩:=HR2.out r2
    have q1:(ac==1)=false:=by simp [r1]
    have q2:(ac==2)=true:=by simp [r2]
    clear r1 r2;clear HR1 HR2 HR0;go_upto_region 15 with (fail);rename_i K3 hK3;refine wp_region_lit ?_;have hz2:=BX.low.size;have hlw:=BX.hl;refine wpList_load_row rfl _ _ rfl w.heap.size rfl _ _ _ _ BX.box Tryz.underlying49 rfl Ao ?_
    iterate 2 (refine wpList_plain rfl (fun K9 hK9=>?_); go_simp; refine hK9 _ _ ?_; clear hK9)
    refine Br rfl _ _ (by kernel_rfl) (HWR.out _ _ LX.lp.x (by omega)) ?_;rintro e W3 ⟨v3,rfl,HN,LB'⟩;refine ⟨_,rfl,?_⟩;rw [eD] at HN;have KB:=Dv.below LB';have LB:=LB'.mono (show lo≤W2.heap.size by omega);clear LB';have hz3:=LB.size;obtain ⟨D3,y0,y1,y2,y3,y4,ov,gb,cp,g6,c6,g7,c7,rfl,LX3⟩:=HN.lx LX.ap LX.nr (Ac BX.box) (Ac BX.res) hz2 (by omega);replace BX:=BX.turn LB KB;replace kp:=KB.2 _ _ _ kp (by decide) (by decide);clear HN LB KB LX HRD HWR;refine wpList_store_row rfl _ _ _ rfl w.heap.size _ rfl rfl _ _ BX.box Ao rfl LX3.one ?_;have LX:=LX3.wrote BX (Or.inl rfl) (Au BX.box (rowL y0 y1 y2 y3 y4 ov g6 c6 g7 c7 d2));replace kp:=Ah kp (Au BX.box (rowL y0 y1 y2 y3 y4 ov g6 c6 g7 c7 d2)) (fun o (e:pp=_)=>by omega);replace BX:=BX.set (rowL y0 y1 y2 y3 y4 ov g6 c6 g7 c7 d2);clear LX3
    generalize W3.setRow w.heap.size (rowL y0 y1 y2 y3 y4 ov g6 c6 g7 c7 d2)=W4 at *;refine hK3 _ _ ?_;clear hK3;subst eX;go_wp2_with fail
    go_meet
    exact ⟨rfl,_,_,_,_,_,_,_,_,_,_,_,_,_,_,BX,LX,kp⟩
   ·obtain ⟨eD,eX⟩:=HR0.out r1 r2
    have q1:(ac==1)=false:=by simp [r1]
    have q2:(ac==2)=false:=by simp [r2]
    clear r1 r2 HR1 HR2 HR0 HRD HWR;subst eD;subst eX;go_wp2_with fail
    go_meet
    exact ⟨rfl,_,_,_,_,_,_,_,_,_,_,_,_,_,_,BX,LX,kp⟩
 case rest =>
 clear BX LX kp HR1 HR2 HR0 HRD HWR;obtain ⟨rfl,N0,D3,y0,y1,y2,y3,y4,ov,gb,cp,g6,c6,g7,c7,BX,LX,kp⟩:=hcut
 obtain ⟨W4,hW4⟩:∃ x,x=wc:=⟨_,rfl⟩
 subst hW4;go_upto_region 16 with (fail);rename_i K3 hK3;refine wp_region_lit ?_
 iterate 1 (refine wpList_plain rfl (fun K9 hK9=>?_); go_simp; refine hK9 _ _ ?_; clear hK9)
 refine Bf rfl _ _ rfl w.heap.size 2 rfl _ _ #[y2,.i d2.bank] _ _ BX.box (Ve rfl rfl) Tryz.underlying42 rfl Bq ?_
 iterate 1 (refine wpList_plain rfl (fun K9 hK9=>?_); go_simp; refine hK9 _ _ ?_; clear hK9)
 refine Bf rfl _ _ rfl w.heap.size 4 rfl _ _ (cR d2.A d2.X d2.S d2.Pc d2.Z d2.N d2.C d2.I) _ _ BX.box (Gu rfl rfl rfl rfl rfl rfl rfl rfl) Tryz.underlying43 rfl Aw ?_;refine wpList_load_row rfl _ _ rfl pp rfl _ _ _ _ kp Tryz.underlying109 rfl Nj ?_
 iterate 1 (refine wpList_plain rfl (fun K9 hK9=>?_); go_simp; refine hK9 _ _ ?_; clear hK9)
 refine Br rfl _ _ (by kernel_rfl) (HEX.out _ _ _ LX.lp.h2.int1) ?_;rintro e W5 ⟨q,rfl,OI,L⟩;refine ⟨_,rfl,?_⟩;replace kp:=Aa kp L (Ac kp);clear HEX;have hz1:=Ac BX.res;have hz4:=Ac BX.box;have hz2:=L.size;have hz0:=BX.low.size;replace BX:=BX.below L;obtain ⟨D',LX⟩:=(LX.below L).mem OI N5.out LX.lp.nN hz4 hz1 (by omega) hz2;obtain ⟨qa,qc,rfl,-⟩:=OI.ex;clear OI L
 iterate 4 (refine wpList_plain rfl (fun K9 hK9=>?_); go_simp; refine hK9 _ _ ?_; clear hK9)
 refine Bv rfl _ _ _ rfl w.heap.size 2 #[.slice qa 512 qc,.i d2.bank] rfl rfl _ _ BX.box Bq (by show (2+2:Nat)≤34; omega) (by first | rfl | simp [Value.oneCell']) ?_;replace kp:=Ah kp (Au BX.box (putAt (rowL y0 y1 y2 y3 y4 ov g6 c6 g7 c7 d2) 2 #[.slice qa 512 qc,.i d2.bank])) (fun o (e:pp=_)=>by omega);have LX':=LX.wrote BX (Or.inl rfl) (Au BX.box (putAt (rowL y0 y1 y2 y3 y4 ov g6 c6 g7 c7 d2) 2 #[.slice qa 512 qc,.i d2.bank]));replace BX:=BX.set (putAt (rowL y0 y1 y2 y3 y4 ov g6 c6 g7 c7 d2) 2 #[.slice qa 512 qc,.i d2.bank]);replace LX:=LX';clear LX';generalize W5.setRow w.heap.size (putAt (rowL y0 y1 y2 y3 y4 ov g6 c6 g7 c7 d2) 2 #[.slice qa 512 qc,.i d2.bank])=W6 at *;replace BX:Bx w W6 lo w.heap.size (w.heap.size+1) rs (rowL y0 y1 (.slice qa 512 qc) y3 y4 ov g6 c6 g7 c7 { d2 with g:=gx }):=BX
 iterate 1 (refine wpList_plain rfl (fun K9 hK9=>?_); go_simp; refine hK9 _ _ ?_; clear hK9)
 refine Bv rfl _ _ _ rfl w.heap.size 4 (cR cx.A cx.X cx.S cx.Pc cx.Z cx.N cx.C cx.I) rfl rfl _ _ BX.box Aw (by show (4+8:Nat)≤34; omega) (by first | rfl | simp [Value.oneCell']) ?_;replace kp:=Ah kp (Au BX.box (putAt (rowL y0 y1 (.slice qa 512 qc) y3 y4 ov g6 c6 g7 c7 { d2 with g:=gx }) 4 (cR cx.A cx.X cx.S cx.Pc cx.Z cx.N cx.C cx.I))) (fun o (e:pp=_)=>by omega);have LX':=LX.wrote BX (Or.inl rfl) (Au BX.box (putAt (rowL y0 y1 (.slice qa 512 qc) y3 y4 ov g6 c6 g7 c7 { d2 with g:=gx }) 4 (cR cx.A cx.X cx.S cx.Pc cx.Z cx.N cx.C cx.I)));replace BX:=BX.set (putAt (rowL y0 y1 (.slice qa 512 qc) y3 y4 ov g6 c6 g7 c7 { d2 with g:=gx }) 4 (cR cx.A cx.X cx.S cx.Pc cx.Z cx.N cx.C cx.I));replace LX:=LX';clear LX'
 generalize W6.setRow w.heap.size (putAt (rowL y0 y1 (.slice qa 512 qc) y3 y4 ov g6 c6 g7 c7 { d2 with g:=gx }) 4 (cR cx.A cx.X cx.S cx.Pc cx.Z cx.N cx.C cx.I))=W7 at *;replace LX:=LX.cpu cx;replace BX:Bx w W7 lo w.heap.size (w.heap.size+1) rs (rowL y0 y1 (.slice qa 512 qc) y3 y4 ov g6 c6 g7 c7 (putCpu d2 gx cx)):=BX;refine hK3 _ _ ?_;clear hK3;go_upto_region 17 with (fail);rename_i K2 hK2;have HBX:=Ad BX;have HLX:=Ad LX;have lqq:=Ac BX.res
 refine A8 [some 90,some 91,some 92,some 93,none,some 3] (by kernel_rfl) (by kernel_rfl) (by kernel_rfl) (by kernel_rfl) (by first | (simp [slotsOf]; done) | (simp [slotsOf,Act.put]; done))
  (fun j b _=>j=4∧b=w.heap.size+1)
  (fun i v W=>match i with
   | 0=>v=.agg (rowL y0 y1 (.slice qa 512 qc) y3 y4 ov g6 c6 g7 c7 (putCpu d2 gx cx))
   | 1=>v=(pt pp 0)
   | 2=>v=.i op
   | 3=>v=.i cy
   | 4=>W.heap[w.heap.size+1]?=some (.cells (rowL y0 y1 (.slice qa 512 qc) y3 y4 ov g6 c6 g7 c7 (putCpu d2 gx cx)) 49 (0,0))
   | _=>v=.i cy) ?_ ?_ ?_
 ·intro i j o v W W' hij _ _ hW h
  match i,hij,h with
  | 0,_,h=>exact h
  | 1,_,h=>exact h
  | 2,_,h=>exact h
  | 3,_,h=>exact h
  | 4,hij,h=>exact Ah h hW (fun o e=>hij e.1.symm)
  | _+5,_,h=>exact h
 ·intro i o a' W K ho F L hw hK
  have t1:=F.get (t:=1) (v:=(pt w.heap.size 0)) (by decide) rfl;have t2:=F.get (t:=2) (v:=(pt (w.heap.size+1) 0)) (by decide) rfl;have t4:=F.get (t:=4) (v:=(pt pp 0)) (by decide) rfl;have rB:=Ah HBX.out.box L (fun o ⟨j,_,_,_,_,_,e⟩=>by omega);have rP:=Ah kp L (fun o ⟨j,_,_,_,_,_,e⟩=>by omega);have rp:=Ag rP
  match i with
  | 0 =>
   cases ho;refine wp_load_row _ _ rfl w.heap.size (by simpa [Act.eval] using t1) _ _ _ _ rB Tryz.underlying49 rfl Ao ?_;exact Hk hK rfl
  | 1 =>
   cases ho;go_simp;exact Hk hK rfl
  | 2 =>
   cases ho;have q1:tv a' 91=_:=Hr hw 1;go_simp;exact Hk hK rfl
  | 3 =>
   cases ho;have q2:tv a' 92=_:=Hr hw 2;go_simp;refine (HCY.out W).mono ?_;rintro e W' ⟨rfl,LX⟩;exact hK _ _ (Ab LX _) rfl
  | 4 =>
   cases ho;have q0:tv a' 90=_:=Hr hw 0;have rB1:=Ah HBX.out.res L (fun o ⟨j,_,hj,_,_,e,_⟩=>hj e);refine wp_store_row _ _ _ rfl (w.heap.size+1) (rowL y0 y1 (.slice qa 512 qc) y3 y4 ov g6 c6 g7 c7 (putCpu d2 gx cx)) (by simpa [Act.eval] using t2) (by simpa [Act.eval] using q0) _ _ rB1 Ao HRS.out HLX.out.one ?_;exact hK undef _ ((Au rB1 _).mono (fun b o _ h=>⟨rfl,h⟩)) (setRow_heap _ _ _ _ _ _ rB1)
  | 5 =>
   cases ho;have q3:tv a' 93=_:=Hr hw 3;go_simp;exact Hk hK rfl
  | _+6=>simp at ho
 ·intro a' W F L hφ
  have p4:W.heap[w.heap.size+1]?=some (.cells (rowL y0 y1 (.slice qa 512 qc) y3 y4 ov g6 c6 g7 c7 (putCpu d2 gx cx)) 49 (0,0)):=Hd hφ 4;have p5:a'.tmps[3]?.getD undef=_:=Hd hφ 5;have L':Wrote (fun x _=>x=w.heap.size+1) W7 W:=L.mono (fun b o _ ⟨j,_,e⟩=>e);have LXF:=Ad (HLX.out.wrote HBX.out (Or.inr rfl) L');have LKF:=Ad (HBX.out.wrote (Or.inr rfl) L');rw [F.same,show slotsOf [some 90,some 91,some 92,some 93,none,some 3]=[90,91,92,93,3] from rfl];simp only [List.foldl_cons,List.foldl_nil];rw [p5];generalize a'.tmps[90]?.getD undef=s90;generalize a'.tmps[91]?.getD undef=s91;generalize a'.tmps[92]?.getD undef=s92;generalize a'.tmps[93]?.getD undef=s93;clear hφ L F p5 L' HLX HBX kp BX LX;refine hK2 _ _ ?_;go_simp;go_wp2
  refine bodyPost_ret (v:=.tuple #[.agg (rowL y0 y1 (.slice qa 512 qc) y3 y4 ov g6 c6 g7 c7 (putCpu d2 gx cx)),.i cy]) (A9 Tryz.results57 _ _ (w.heap.size+1) _ _ _ _ rfl p4 Tryz.underlying49 rfl Ao) rfl ?_;rw [(HVC.out hnm.out hnc.out).1,(HVC.out hnm.out hnc.out).2];exact ⟨_,rfl,LXF.out.nx,LKF.out.1,LKF.out.2⟩
set_option maxHeartbeats 8000000
set_option maxRecDepth 40000
theorem Jcv (w:World) (lo:Nat) (D:Nat→Nat→Prop) (v:Value) (d:Aq) (H:Ez w lo D v d) (hlo:lo≤w.heap.size) (hok:OkL d) (hnq:d.nq<1048576):Calls Tryz.prog 57 #[v] w fun e w'=>∃ v',e=.returned (.tuple #[v',.i (actN d)])∧Hm w w' lo D v' (actD d)∧Below lo w w'∧Dv w w':=by
 cases hnm:d.nmi
 ·cases hrr:d.R
  ·exact Z9 w lo D v d H hlo hok hnq hnm (by rw [hrr]; rfl)
  ·cases hii:d.I
   ·exact Jcu w lo D v d H hlo hok hnm hrr hii
   ·exact Z9 w lo D v d H hlo hok hnq hnm (by rw [hrr,hii]; rfl)
 ·exact Jct w lo D v d H hlo hok hnm
def Jdk (cs:Array Value):Prop:=cs.size=34∧cs.all (·.oneCell')=true
theorem Lx.st {w W:World} {lo N b r:Nat} {E D:Nat→Nat→Prop} {u0 u1 u2 u3 u4 ov:Value} {gb cp:Nat→Nat} {g6 c6 g7 c7:Nat} {d:Aq} (H:Lx w W lo N b r E D u0 u1 u2 u3 u4 ov gb cp g6 c6 g7 c7 d) (x:Int):Lx w W lo N b r E D u0 u1 u2 u3 u4 ov gb cp g6 c6 g7 c7 (withSt d x) :=
 ⟨⟨H.lp.h0,H.lp.h1,H.lp.h2,H.lp.h3,H.lp.h4,H.lp.h4D,H.lp.h6,H.lp.h6D,H.lp.h7,H.lp.h7D,H.lp.dis,H.lp.bd,H.lp.n6,H.lp.n7,H.lp.nN,H.lp.hps⟩,H.ap,H.nr,H.nl⟩
theorem Jaa (w:World) (lo:Nat) (D:Nat→Nat→Prop) (v:Value) (d:Aq) (H:Ez w lo D v d) (hlo:lo≤w.heap.size) (hok:OkL d) (hnq:d.nq<1048576):Calls Tryz.prog 17 #[v] w fun e w'=>∃ cs,e=.returned (.tuple #[.agg cs,.bool (D8 d)])∧Jdk cs∧(D8 d=true→Hm w w' lo D (.agg cs) (Ij d))∧Below lo w w':=by
 obtain ⟨u0,u1,u2,u3,u4,ov,gb,cp,g6,c6,g7,c7,rfl,LX⟩:=H.start hlo (Below.refl w.heap.size w);have HONE:=Ad LX.one;replace LX:=LX.below (((Below.refl w.heap.size w).alloc (Nat.le_refl _) (.cells (rowL u0 u1 u2 u3 u4 ov g6 c6 g7 c7 d) 49)).alloc (by simp) (.cells zR 49));have BX:=Bx.start w (rowL u0 u1 u2 u3 u4 ov g6 c6 g7 c7 d) zR hlo
 obtain ⟨n,hn⟩:∃ n:Nat,Hid ((n:Int)=actN d):=⟨(actN d).toNat,by show _=_; have:=J6 d; omega⟩
 have hn7:n≤7:=by have:=J6 d; have:=hn.out; omega
 obtain ⟨T0,hT0⟩:∃ x,Hid (x=d.t):=⟨_,rfl⟩
 have h0:0≤T0:=by rw [hT0.out]; exact hok.t.ppu.t0
 have h1:T0≤20000:=by rw [hT0.out]; exact hok.t.ppu.t1
 have hAt:Hid ((actD d).t=T0):=by show _=_; rw [hT0.out]; exact (Ir d hok.row).1
 have hAs:Hid ((actD d).st=d.st):=(Ir d hok.row).2.1;have hAk:Hid (Hj (actD d)):=hok.t.act
 have HB:Hid (D8 d=decide (T0+n≤20000)):=by show _=_; unfold D8; rw [hAt.out,hn.out]
 have HD:Hid (Ij d=withSt (tickN n (actD d)) (d.st+1)):=by
  show _=_
  unfold Ij
  have e:(actN d).toNat=n:=by have:=hn.out; omega
  have es:∀ k (d:Aq),(tickN k d).st=d.st:=fun k=>by
   induction k with
   | zero=>intro d; rfl
   | succ k ih=>intro d; exact ih (B8 d)
  rw [e,es,hAs.out]
 have hst:Hid (0≤d.st∧d.st≤20000):=⟨hok.st.1,by have:=hok.st.2; rw [← hT0.out] at this; omega⟩
 go_enter Tryz.func17,Tryz.ntmps17
 go_upto_region 1 with (fail);generalize (w.alloc (.cells (rowL u0 u1 u2 u3 u4 ov g6 c6 g7 c7 d) 49)).alloc (.cells zR 49)=W0 at *;generalize hrs:(zR:Array Value)=rs at BX
 have HRS:Hid (rs.size=34):=by show _=_; rw [← hrs]; rfl
 clear hrs;have HDO:=Ad (fun W v h hl=>Jcv W lo D v d h hl hok hnq);rw [← hn.out] at HDO;rename_i K3 hK3;refine wp_region_lit ?_;refine wpList_load_row rfl _ _ rfl w.heap.size rfl _ _ _ _ BX.box Tryz.underlying49 rfl Ao ?_;have hz2:=BX.low.size;refine Br rfl _ _ (by kernel_rfl) (HDO.out W0 _ LX.lp.x (by omega)) ?_;rintro e W1 ⟨v1,rfl,HN,LB,KB⟩;refine ⟨_,rfl,?_⟩;have hz3:=LB.size;obtain ⟨D1,a0,a1,a2,a3,a4,av,gb',cp',h6,i6,h7,i7,rfl,LX1⟩:=HN.lx LX.ap LX.nr (Ac BX.box) (Ac BX.res) hz2 (by omega);replace BX:=BX.turn LB KB;clear HN LB KB LX HDO
 iterate 4 (refine wpList_plain rfl (fun K9 hK9=>?_); go_simp; refine hK9 _ _ ?_; clear hK9)
 have LA:Below W1.heap.size W1 (W1.alloc (.cells zR 49)):=(Below.refl _ _).alloc (Nat.le_refl _) _;have kp:=Al W1 zR 49
 obtain ⟨pp,hpp⟩:∃ x,Hid (x=W1.heap.size):=⟨_,rfl⟩
 have lpp:w.heap.size+1<pp:=by rw [hpp.out]; exact Ac BX.res
 rw [← hpp.out] at kp ⊢;replace BX:=BX.below LA;replace LX1:=LX1.below LA;clear LA;generalize W1.alloc (.cells zR 49)=WA at *
 have BP:Bx w WA lo pp (w.heap.size+1) rs zR:=⟨kp,BX.res,BX.low,BX.kept,by omega,by omega,by omega,hlo⟩
 have LP:Lx w WA lo W1.heap.size pp (w.heap.size+1) D D1 a0 a1 a2 a3 a4 av gb' cp' h6 i6 h7 i7 (actD d):=⟨LX1.lp,fun i k h=>⟨by have:=(LX1.lp.bd i k h).2; rw [hpp.out]; omega,(LX1.ap i k h).2⟩,LX1.nr,LX1.nl⟩
 refine wpList_store_row rfl _ _ _ rfl pp _ rfl rfl _ _ kp Ao rfl LX1.one ?_
 iterate 1 (refine wpList_plain rfl (fun K9 hK9=>?_); go_simp; refine hK9 _ _ ?_; clear hK9)
 have LP2:=LP.wrote BP (Or.inl rfl) (Au BP.box (rowL a0 a1 a2 a3 a4 av h6 i6 h7 i7 (actD d)));replace BP:=BP.set (rowL a0 a1 a2 a3 a4 av h6 i6 h7 i7 (actD d));replace BX:=BX.far (by omega) (by omega) (by omega) (Au kp (rowL a0 a1 a2 a3 a4 av h6 i6 h7 i7 (actD d)));clear LP LX1 kp hpp;generalize WA.setRow pp (rowL a0 a1 a2 a3 a4 av h6 i6 h7 i7 (actD d))=W2 at *;refine hK3 _ _ ?_;clear hK3;have c0:=Ag BP.box
 have f12:(rowL a0 a1 a2 a3 a4 av h6 i6 h7 i7 (actD d))[12]?=some (.i T0):=by rw [← hAt.out]; rfl
 by_cases hT:T0+(n:Int)≤20000
 ·have hnT:¬ (20000:Int)<T0+(n:Int):=by omega
  have HBt:Hid (D8 d=true):=by show _=_; rw [HB.out,decide_eq_true hT]
  have HT:=Ad hT;clear hT;go_wp2_with fail;clear c0 f12
  go_loopw [6] (fun kx wr=>∃ k:Nat,k≤n∧kx=.i k∧∃ (N:Nat) (D':Nat→Nat→Prop) (b0 b1 b2 b3 b4 bv:Value) (gb cp:Nat→Nat) (j6 e6 j7 e7:Nat),Bx w wr lo pp (w.heap.size+1) rs (rowL b0 b1 b2 b3 b4 bv j6 e6 j7 e7 (tickN k (actD d)))∧Lx w wr lo N pp (w.heap.size+1) D D' b0 b1 b2 b3 b4 bv gb cp j6 e6 j7 e7 (tickN k (actD d))) (fun kx _=>n-(intOf kx).toNat)
  case atStart=>exact ⟨0,Nat.zero_le _,rfl,_,_,_,_,_,_,_,_,_,_,_,_,_,_,BP,LP2⟩
  case round =>
   clear BP LP2 BX;obtain ⟨k,hk,rfl,N,D',b0,b1,b2,b3,b4,bv,gb2,cp2,j6,e6,j7,e7,BR,LR⟩:=hrel
   by_cases hlt:k<n
   ·have hlt':(k:Int)<(n:Int):=by omega
    have hkt:(tickN k (actD d)).t=T0+k:=by rw [La k (actD d) (by rw [hAt.out]; have:=HT.out; omega),hAt.out]
    have hkk:Hj (tickN k (actD d)):=hAk.out.ticks k (by rw [hAt.out]; have:=HT.out; omega);have HTI:=Ad (fun W v h hl=>Z7 W lo D' v (tickN k (actD d)) h hl hkk (by rw [hkt]; have:=HT.out; omega));have HS:=Ad (Nc k (actD d));clear hkt hkk;go_upto_region 7 with (fail);rename_i K3 hK3;refine wp_region_lit ?_;refine wpList_load_row rfl _ _ rfl pp rfl _ _ _ _ BR.box Tryz.underlying49 rfl Ao ?_;have hz4:=BR.low.size;refine Br rfl _ _ (by kernel_rfl) (HTI.out wr _ LR.lp.x (by omega)) ?_;rintro e W3 ⟨v3,rfl,HN,LB,KB⟩;refine ⟨_,rfl,?_⟩;have hz5:=LB.size;rw [← HS.out] at HN;obtain ⟨D3,m0,m1,m2,m3,m4,mv,gb3,cp3,y6,z6,y7,z7,rfl,LR3⟩:=HN.lx LR.ap LR.nr (Ac BR.box) (Ac BR.res) hz4 (by omega);replace BR:=BR.turn LB KB;clear HN LB KB LR HTI;refine wpList_store_row rfl _ _ _ rfl pp _ rfl rfl _ _ BR.box Ao rfl LR3.one ?_
    have LR4:=LR3.wrote BR (Or.inl rfl) (Au BR.box (rowL m0 m1 m2 m3 m4 mv y6 z6 y7 z7 (tickN (k+1) (actD d))));replace BR:=BR.set (rowL m0 m1 m2 m3 m4 mv y6 z6 y7 z7 (tickN (k+1) (actD d)));clear LR3;generalize W3.setRow pp (rowL m0 m1 m2 m3 m4 mv y6 z6 y7 z7 (tickN (k+1) (actD d)))=W4 at *;refine hK3 _ _ ?_;clear hK3;go_wp2;go_roundw
    case rel=>exact ⟨k+1,by omega,by go_num,_,_,_,_,_,_,_,_,_,_,_,_,_,_,BR,LR4⟩
    case measure=>simp [intOf]; omega
   ·have hkn:k=n:=by omega
    subst hkn
    have hlt':¬ (k:Int)<(k:Int):=by omega
    have es:(tickN k (actD d)).st=d.st:=by
     have:=congrArg Aq.st HD.out
     have es:∀ k (d:Aq),(tickN k d).st=d.st:=fun k=>by
      induction k with
      | zero=>intro d; rfl
      | succ k ih=>intro d; exact ih (B8 d)
     rw [es,hAs.out]
    have hst0:=hst.out.1;have hst1:=hst.out.2
    obtain ⟨S0,hS0⟩:∃ x,Hid (x=d.st):=⟨_,rfl⟩
    rw [← hS0.out] at hst0 hst1 es;have c0:=Ag BR.box;have f0:=As BR.box
    have f30:(rowL b0 b1 b2 b3 b4 bv j6 e6 j7 e7 (tickN k (actD d)))[30]?=some (.i S0):=by rw [← es]; rfl
    go_upto_region 9 with (fail);clear c0 f0 f30;rename_i K3 hK3;have LR5:=LR.wrote BR (Or.inl rfl) (BR.cellW 30 (.i (S0+1)));replace BR:=BR.cell 30 (.i (S0+1));generalize wr.setCell ⟨pp,30,none⟩ (.i (S0+1))=W5 at *;replace BR:Bx w W5 lo pp (w.heap.size+1) rs (rowL b0 b1 b2 b3 b4 bv j6 e6 j7 e7 (withSt (tickN k (actD d)) (S0+1))):=BR;have LR6:Lx w W5 lo N pp (w.heap.size+1) D D' b0 b1 b2 b3 b4 bv gb2 cp2 j6 e6 j7 e7 (withSt (tickN k (actD d)) (S0+1)):=LR5.st (S0+1);clear LR5 LR;refine wp_region_lit ?_;refine wpList_load_row rfl _ _ rfl pp rfl _ _ _ _ BR.box Tryz.underlying49 rfl Ao ?_;refine wpList_store_row rfl _ _ _ rfl (w.heap.size+1) _ rfl rfl _ _ BR.res Ao HRS.out LR6.one ?_
    iterate 1 (refine wpList_plain rfl (fun K9 hK9=>?_); go_simp; refine hK9 _ _ ?_; clear hK9)
    have LXF:=LR6.wrote BR (Or.inr rfl) (Au BR.res (rowL b0 b1 b2 b3 b4 bv j6 e6 j7 e7 (withSt (tickN k (actD d)) (S0+1))));have BXF:=BR.out (rowL b0 b1 b2 b3 b4 bv j6 e6 j7 e7 (withSt (tickN k (actD d)) (S0+1)));generalize W5.setRow (w.heap.size+1) (rowL b0 b1 b2 b3 b4 bv j6 e6 j7 e7 (withSt (tickN k (actD d)) (S0+1)))=W6 at *;refine hK3 _ _ ?_;clear hK3;go_wp2;refine bodyPost_ret (v:=.tuple #[.agg (rowL b0 b1 b2 b3 b4 bv j6 e6 j7 e7 (withSt (tickN k (actD d)) (S0+1))),.bool true]) (A9 Tryz.results17 _ _ (w.heap.size+1) _ _ _ _ rfl BXF.res Tryz.underlying49 rfl Ao) rfl ?_;rw [HBt.out];exact ⟨_,rfl,⟨rfl,LXF.one⟩,fun _=>by rw [HD.out,← hS0.out]; exact LXF.nx,BXF.low⟩
 ·have hnT:(20000:Int)<T0+(n:Int):=by omega
  have HBt:Hid (D8 d=false):=by show _=_; rw [HB.out,decide_eq_false hT]
  clear hT LP2 BP;go_upto_region 3 with (fail);clear c0 f12;rename_i K3 hK3;refine wp_region_lit ?_;refine wpList_load_row rfl _ _ rfl w.heap.size rfl _ _ _ _ BX.box Tryz.underlying49 rfl Ao ?_;refine wpList_store_row rfl _ _ _ rfl (w.heap.size+1) _ rfl rfl _ _ BX.res Ao HRS.out HONE.out ?_
  iterate 1 (refine wpList_plain rfl (fun K9 hK9=>?_); go_simp; refine hK9 _ _ ?_; clear hK9)
  have BXF:=BX.out (rowL u0 u1 u2 u3 u4 ov g6 c6 g7 c7 d);generalize W2.setRow (w.heap.size+1) (rowL u0 u1 u2 u3 u4 ov g6 c6 g7 c7 d)=W6 at *;refine hK3 _ _ ?_;clear hK3;go_wp2;refine bodyPost_ret (v:=.tuple #[.agg (rowL u0 u1 u2 u3 u4 ov g6 c6 g7 c7 d),.bool false]) (A9 Tryz.results17 _ _ (w.heap.size+1) _ _ _ _ rfl BXF.res Tryz.underlying49 rfl Ao) rfl ?_;rw [HBt.out];exact ⟨_,rfl,⟨rfl,HONE.out⟩,fun h=>absurd h (by decide),BXF.low⟩
set_option maxHeartbeats 8000000
set_option maxRecDepth 40000
def Told (W:World) (lo:Nat) (v:Value) (d:Aq):Prop:=∃ D',Bh W D' v d∧Xb D'∧∀ i b,D' i b→lo≤b∧b<W.heap.size
theorem Dm.told {W:World} {lo lo':Nat} {v:Value} {d:Aq} (H:Dm W lo v d) (h:lo'≤lo):Told W lo' v d:=by
 obtain ⟨D,a,b,c⟩:=H.on;exact ⟨D,a,b,fun i x e=>by have:=c i x e; omega⟩
theorem Sk {d:Aq} (h:Cd d=false):Ge d=Rz∧Hl d=false:=by
 unfold Ge Hl;rw [if_neg (by rw [h]; decide),h];exact ⟨rfl,rfl⟩
theorem Nk {d:Aq} (h:Cd d=true) (h':D8 d=false):Ge d=d∧Hl d=false:=by
 unfold Ge Hl;rw [if_pos h,if_neg (by rw [h']; decide),h,h'];exact ⟨rfl,rfl⟩
theorem O9 {d:Aq} (h:Cd d=true) (h':D8 d=true):Ge d=Ij d∧Hl d=true:=by
 unfold Ge Hl;rw [if_pos h,if_pos h',h,h'];exact ⟨rfl,rfl⟩
theorem Qo (w:World) (D:Nat→Nat→Prop) (v:Value) (d:Aq) (H:Bh w D v d) (hnq:Cd d=true→d.nq<1048576):Calls Tryz.prog 5 #[v] w fun e w'=>∃ v',e=.returned (.tuple #[v',.bool (Hl d)])∧Told w' w.heap.size v' (Ge d)∧Below w.heap.size w w':=by
 obtain ⟨cs,rfl,hsz,hone⟩:=H.agg;have BX:=Bx.start w cs zR (Nat.le_refl _);have L0:Below w.heap.size w ((w.alloc (.cells cs 49)).alloc (.cells zR 49)):=((Below.refl _ _).alloc (Nat.le_refl _) _).alloc (by simp) _;have H0:=H.below L0;have HSZ:=Ad hsz;have HONE:=Ad hone;clear hsz hone H L0
 obtain ⟨ok,hok⟩:∃ x,Hid (x=Cd d):=⟨_,rfl⟩
 have HLO:=Ad (fun W D (k:Bh W D (.agg cs) d)=>Tp W D (.agg cs) d k);rw [← hok.out] at HLO
 go_enter Tryz.func5,Tryz.ntmps5
 go_upto_region 1 with (fail);generalize (w.alloc (.cells cs 49)).alloc (.cells zR 49)=W0 at *;generalize hrs:(zR:Array Value)=rs at BX
 have HRS:Hid (rs.size=34):=by show _=_; rw [← hrs]; rfl
 clear hrs;rename_i K3 hK3;refine wp_region_lit ?_;refine wpList_load_row rfl _ _ rfl w.heap.size rfl _ _ _ _ BX.box Tryz.underlying49 rfl (infoAt Ao HSZ.out) ?_;refine Br rfl _ _ (by kernel_rfl) (HLO.out W0 _ H0) ?_;rintro e W1 ⟨rfl,L⟩;refine ⟨_,rfl,?_⟩;have H1:=H0.below L;replace BX:=BX.below L;clear L H0 HLO
 iterate 1 (refine wpList_plain rfl (fun K9 hK9=>?_); go_simp; refine hK9 _ _ ?_; clear hK9)
 refine hK3 _ _ ?_;clear hK3;cases ok
 ·have hv:=Sk hok.out.symm
  go_upto_region 2 with (fail);rename_i K3 hK3;refine wp_region_lit ?_
  iterate 1 (refine wpList_plain rfl (fun K9 hK9=>?_); go_simp; refine hK9 _ _ ?_; clear hK9)
  refine wpList_store_row rfl _ _ _ rfl (w.heap.size+1) zero34 rfl rfl _ _ BX.res Ao HRS.out (by first | kernel_rfl | rfl | simp [zero34,Value.oneCell']) ?_
  iterate 1 (refine wpList_plain rfl (fun K9 hK9=>?_); go_simp; refine hK9 _ _ ?_; clear hK9)
  have BXF:=BX.out zero34;generalize W1.setRow (w.heap.size+1) zero34=W2 at *;refine hK3 _ _ ?_;clear hK3;go_wp2;refine bodyPost_ret (v:=.tuple #[.agg zero34,.bool false]) (A9 Tryz.results5 _ _ (w.heap.size+1) _ _ _ _ rfl BXF.res Tryz.underlying49 rfl Ao) rfl ?_;rw [hv.1,hv.2];exact ⟨_,rfl,⟨fun _ _=>False,Sa,fun i j b h=>h.elim,fun i b h=>h.elim⟩,BXF.low⟩
 ·have hk:=hok.out.symm
  have hokL:=Up hk;have hnq':=hnq hk;have HK:=Ad hk;have HCP:=Ad (fun W D (k:Bh W D (.agg cs) d)=>Jbh W D (.agg cs) d k);have HST:=Ad (fun W lo D v h hl=>Jaa W lo D v d h hl hokL hnq')
  obtain ⟨sb,hsb⟩:∃ x,Hid (x=D8 d):=⟨_,rfl⟩
  rw [← hsb.out] at HST;clear hk hokL hnq';go_upto_region 3 with (fail);rename_i K3 hK3;refine wp_region_lit ?_;refine wpList_load_row rfl _ _ rfl w.heap.size rfl _ _ _ _ BX.box Tryz.underlying49 rfl (infoAt Ao HSZ.out) ?_;refine Br rfl _ _ (by kernel_rfl) (HCP.out W1 _ H1) ?_;rintro e W2 ⟨v2,rfl,OW,L⟩;refine ⟨_,rfl,?_⟩;have hz1:=BX.low.size;have hzL:=L.size;have hb1:=Ac BX.box;have hr1:=Ac BX.res;replace BX:=BX.below L;obtain ⟨D2,HX⟩:=Ez.of OW;refine Br rfl _ _ (by kernel_rfl) (HST.out W2 W1.heap.size D2 v2 HX hzL) ?_;rintro e W3 ⟨c3,rfl,hone3,HN,LB⟩;refine ⟨_,rfl,?_⟩;have hzB:=LB.size;have b3:=Aa BX.box LB hb1;have r3:=Aa BX.res LB hr1;have r3lt:=Ac r3;have C3:=BX.low.trans (LB.mono (by omega));have H3:=H1.below (L.trans LB);clear BX L LB H1;clear HX OW HST;have HN3:=Ad HN
  have HONE3:Hid (Jdk c3):=hone3;clear HN hone3
  iterate 4 (refine wpList_plain rfl (fun K9 hK9=>?_); go_simp; refine hK9 _ _ ?_; clear hK9)
  have LA:Below W3.heap.size W3 (W3.alloc (.cells zR 49)):=(Below.refl _ _).alloc (Nat.le_refl _) _;have kp:=Al W3 zR 49
  obtain ⟨pp,hpp⟩:∃ x,Hid (x=W3.heap.size):=⟨_,rfl⟩
  have lpp:w.heap.size+1<pp:=by rw [hpp.out]; exact r3lt
  rw [← hpp.out] at kp ⊢;generalize hWA:W3.alloc (.cells zR 49)=WA at *;have HWA:=Ad hWA;clear hWA;refine wpList_store_row rfl _ _ _ rfl pp c3 rfl rfl _ _ kp (infoAt Ao HONE3.out.1) HONE3.out.1.symm HONE3.out.2 ?_;have WP:=Au kp c3;have kp2:=setRow_heap _ _ _ c3 _ _ kp;have LP:Below W3.heap.size W3 (WA.setRow pp c3):=LA.trans (WP.below LA.size (fun b o hb (e:b=pp)=>by have:=hpp.out; omega));clear kp WP LA HWA;generalize WA.setRow pp c3=W4 at *
  iterate 1 (refine wpList_plain rfl (fun K9 hK9=>?_); go_simp; refine hK9 _ _ ?_; clear hK9)
  refine hK3 _ _ ?_;clear hK3;have H4:=H3.below LP;have b4:=Aa b3 LP (Ac b3);have r4:=Aa r3 LP r3lt;have C4:=C3.trans (LP.mono C3.size);have hz4:=LP.size;have HLP:=Ad LP;clear H3 b3 r3 C3 LP;cases sb
  ·have hv:=Nk HK.out hsb.out.symm
   clear HN3;go_upto_region 5 with (fail);rename_i K3 hK3;refine wp_region_lit ?_;refine wpList_load_row rfl _ _ rfl w.heap.size rfl _ _ _ _ b4 Tryz.underlying49 rfl (infoAt Ao HSZ.out) ?_;refine Br rfl _ _ (by kernel_rfl) (HCP.out W4 _ H4) ?_;rintro e W5 ⟨v5,rfl,OW,L⟩;refine ⟨_,rfl,?_⟩;obtain ⟨c5,rfl,hs5,ho5⟩:=OW.agg;have r5:=Aa r4 L (by omega);have C5:=C4.trans (L.mono C4.size);refine wpList_store_row rfl _ _ _ rfl (w.heap.size+1) c5 rfl rfl _ _ r5 (infoAt Ao hs5) (HRS.out.trans hs5.symm) ho5 ?_;have WF:=Au r5 c5;have r6:=setRow_heap _ _ _ c5 _ _ r5;have OF:=OW.low WF (fun b o (e:b=w.heap.size+1)=>by omega);have CF:=C5.trans (WF.below C5.size (fun b o hb (e:b=w.heap.size+1)=>by omega));generalize W5.setRow (w.heap.size+1) c5=W6 at *
   iterate 1 (refine wpList_plain rfl (fun K9 hK9=>?_); go_simp; refine hK9 _ _ ?_; clear hK9)
   refine hK3 _ _ ?_;clear hK3 OW L WF H4;have OF':=Ad (OF.told (lo':=w.heap.size) (by omega));have CF':=Ad CF;have HS5:=Ad hs5;clear OF CF C5 C4 hs5 ho5;go_wp2;refine bodyPost_ret (v:=.tuple #[.agg c5,.bool false]) (A9 Tryz.results5 _ _ (w.heap.size+1) _ _ _ _ rfl r6 Tryz.underlying49 rfl (infoAt Ao HS5.out)) rfl ?_;rw [hv.1,hv.2];exact ⟨_,rfl,OF'.out,CF'.out⟩
  ·have hv:=O9 HK.out hsb.out.symm
   have OW:Dm W4 W1.heap.size (.agg c3) (Ij d):=by
    obtain ⟨D5,X5,-⟩:=HN3.out rfl;exact X5.ow.below HLP.out
   clear HN3 H4;go_upto_region 6 with (fail);rename_i K3 hK3;refine wp_region_lit ?_;refine wpList_load_row rfl _ _ rfl pp rfl _ _ _ _ kp2 Tryz.underlying49 rfl (infoAt Ao HONE3.out.1) ?_;refine wpList_store_row rfl _ _ _ rfl (w.heap.size+1) c3 rfl rfl _ _ r4 (infoAt Ao HONE3.out.1) (HRS.out.trans HONE3.out.1.symm) HONE3.out.2 ?_;have WF:=Au r4 c3;have r6:=setRow_heap _ _ _ c3 _ _ r4;have OF:=OW.low WF (fun b o (e:b=w.heap.size+1)=>by omega);have CF:=C4.trans (WF.below C4.size (fun b o hb (e:b=w.heap.size+1)=>by omega));generalize W4.setRow (w.heap.size+1) c3=W6 at *
   iterate 1 (refine wpList_plain rfl (fun K9 hK9=>?_); go_simp; refine hK9 _ _ ?_; clear hK9)
   refine hK3 _ _ ?_;have OF':=Ad (OF.told (lo':=w.heap.size) (by omega));have CF':=Ad CF;clear hK3 OW WF OF CF C4;go_wp2;refine bodyPost_ret (v:=.tuple #[.agg c3,.bool true]) (A9 Tryz.results5 _ _ (w.heap.size+1) _ _ _ _ rfl r6 Tryz.underlying49 rfl (infoAt Ao HONE3.out.1)) rfl ?_;rw [hv.1,hv.2];exact ⟨_,rfl,OF'.out,CF'.out⟩
end Go.Proofs.YtgcmimcalmjaaaaGreatDoor
