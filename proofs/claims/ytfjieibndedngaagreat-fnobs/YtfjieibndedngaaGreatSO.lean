import Derived.Test.YtfjieibndedngaaGreatX3
namespace Go.Proofs.YtfjieibndedngaaGreat
set_option maxHeartbeats 8000000
set_option maxRecDepth 40000
set_option linter.unusedVariables false
set_option linter.unusedSimpArgs false
open Go.ChangeShapes Go.WideShapes Go.ChangeAt Go.RowKit
theorem Bx.far {w W W':World} {lo b r:Nat} {rs cs:Array Value} (H:Bx w W lo b r rs cs) {z:Nat} (h0:w.heap.size≤z) (hz:z≠b) (hz2:z≠r) (hw:Wrote (fun x _=>x=z) W W'):Bx w W' lo b r rs cs :=
 have h2:=H.hl
 ⟨Ag H.box hw (fun o (e:b=z)=>hz e.symm),Ag H.res hw (fun o (e:r=z)=>hz2 e.symm),H.low.trans (hw.below (Nat.le_trans H.hl H.low.size) (fun x o hb (e:x=z)=>by omega)),H.kept.wrote hw (fun x o hb (e:x=z)=>by exfalso; omega),H.up,H.up2,H.ne,H.hl⟩
theorem Ty (w:World) (lo:Nat) (D:Nat→Nat→Prop) (v:Value) (d:Am) (H:D8 w lo D v d) (hlo:lo≤w.heap.size) (hok:Vx d) (hnq:d.nq<1048576) (hnm:d.nmi=false) (hnc:(d.R && !d.I)=false):Calls Tryz.prog 65 #[v] w fun e w'=>∃ v',e=.returned (.tuple #[v',.i (Fg d)])∧F0 w w' lo D v' (actD d)∧Below lo w w'∧C7 w w':=by
 obtain ⟨y0,y1,y2,y3,y4,ov,gb,cp,g6,c6,g7,c7,rfl,LX⟩:=H.start hlo (Below.refl w.heap.size w);replace LX:=LX.below (((Below.refl w.heap.size w).alloc (Nat.le_refl _) (.cells (rowL y0 y1 y2 y3 y4 ov g6 c6 g7 c7 d) 44)).alloc (by simp) (.cells zR 44));have BX:=Bx.start w (rowL y0 y1 y2 y3 y4 ov g6 c6 g7 c7 d) zR hlo
 go_enter Tryz.func65,Tryz.ntmps65
 go_upto_region 1 with (fail);generalize (w.alloc (.cells (rowL y0 y1 y2 y3 y4 ov g6 c6 g7 c7 d) 44)).alloc (.cells zR 44)=W0 at *;generalize hrs:(zR:Array Value)=rs at BX
 have HRS:Hid (rs.size=34):=by show _=_; rw [← hrs]; rfl
 clear hrs;have c0:=Aj BX.box;have f0:=Ax BX.box
 obtain ⟨rr,hrr⟩:∃ x,Hid (x=d.R):=⟨_,rfl⟩
 obtain ⟨ii,hii⟩:∃ x,Hid (x=d.I):=⟨_,rfl⟩
 have hc:Hid ((rr && !ii)=false):=by show _=_; rw [hrr.out,hii.out]; exact hnc
 have f29:(rowL y0 y1 y2 y3 y4 ov g6 c6 g7 c7 d)[29]?=some (.bool false):=by rw [← hnm]; rfl
 have f26:(rowL y0 y1 y2 y3 y4 ov g6 c6 g7 c7 d)[26]?=some (.bool rr):=by rw [hrr.out]; rfl
 have f11:(rowL y0 y1 y2 y3 y4 ov g6 c6 g7 c7 d)[11]?=some (.bool ii):=by rw [hii.out]; rfl
 replace hnm:=Ad hnm;replace hnc:=Ad hnc;go_upto_region 5 with (fail)
 go_cut [33] (fun s wc=>s=.bool false∧wc=W0)
 case first =>
  cases rr with
  | false =>
   go_wp2_with fail
   go_meet
   exact ⟨rfl,rfl⟩
  | true =>
   cases ii with
   | false=>exact absurd hc.out (by decide)
   | true =>
    go_wp2_with fail
    go_meet
    exact ⟨rfl,rfl⟩
 case rest =>
 obtain ⟨rfl,rfl⟩:=hcut;clear hrr hii hc rr ii f26 f11;go_upto_region 8 with (fail);clear c0 f0 f29
 obtain ⟨op,hop⟩:∃ x,Hid (x=peekV d.m d.ln d.f d.nr d.g d.bank d.Pc):=⟨_,rfl⟩
 obtain ⟨ar,har⟩:∃ x,Hid (x=Jk (peekV d.m d.ln d.f d.nr d.g d.bank) d.Pc):=⟨_,rfl⟩
 have HFE:=Ad (fun W F G v u h (k:Ints .i64 W G u d.nr d.g)=>Rq W F G v u d.m d.ln d.f d.nr d.g d.bank d.Pc h k);rw [← har.out,← hop.out] at HFE
 obtain ⟨ac,hac⟩:∃ x,Hid (x=Di op):=⟨_,rfl⟩
 obtain ⟨at',hat⟩:∃ x,Hid (x=Ho op ar d.X):=⟨_,rfl⟩
 obtain ⟨va,hva⟩:∃ x,Hid (x=Rp op d.A):=⟨_,rfl⟩
 obtain ⟨cy,hcy⟩:∃ x,Hid (x=Tt op):=⟨_,rfl⟩
 obtain ⟨d2,hd2⟩:∃ x,Hid (x=De d op ar):=⟨_,rfl⟩
 obtain ⟨xx,hxx⟩:∃ x,Hid (x=J4 d op ar):=⟨_,rfl⟩
 obtain ⟨gx,hgx⟩:∃ x,Hid (x=Ge d2.g (E9 d2) op):=⟨_,rfl⟩
 obtain ⟨cx,hcx⟩:∃ x,Hid (x=Ex d2.g (E9 d2) op ar xx):=⟨_,rfl⟩
 have HAC:=Ad (fun W=>Py W op ar d.A d.X d.S d.Pc d.Z d.N d.C d.I);rw [← hac.out,← hat.out,← hva.out] at HAC;have HRD:=Ad (fun W v h hl=>Tv W lo D v d at' h hl hok.ok hnq);have HWR:=Ad (fun W v h hl=>Rz W lo D v d at' va h hl hok.ok);have M2:=Iv d op ar hok.row;rw [← hd2.out] at M2;have N5:d2.nr=512:=M2.2.2.1.trans hok.nr
 have P5:0≤(E9 d2).Pc∧(E9 d2).Pc≤65535:=by rw [M2.2.2.2.2.1]; exact hok.cpu.2.2.2
 have HEX:=Ad (fun W G u (k:Ints .i64 W G u d2.nr d2.g)=>Mx W G u d2.g d2.bank (N5 ▸ k) (E9 d2) P5 op ar xx);rw [← hgx.out,← hcx.out] at HEX;simp only [E9,Bd.v] at HEX
 have HCY:Hid (∀ W,Calls Tryz.prog 78 #[.i op] W fun e w'=>e=.returned (.i cy)∧Below W.heap.size W w'):=fun W=>by rw [hcy.out]; exact Ma W op
 have HVC:Hid (d.nmi=false→(d.R && !d.I)=false→actD d=putCpu d2 gx cx∧Fg d=cy):=by
  intro e1 e2;unfold actD Fg;rw [if_neg (by rw [e1]; decide),if_neg (by rw [e2]; decide),if_neg (by rw [e1]; decide),if_neg (by rw [e2]; decide)];unfold Wo Ts We Wn;rw [← hop.out,← har.out,← hd2.out,← hxx.out,← hgx.out,← hcx.out,hcy.out];exact ⟨rfl,rfl⟩
 have HR1:Hid (ac=1→Cz d at'=d2∧E8 d at'=xx):=by
  intro e
  have e':Di op=1:=by rw [← hac.out]; exact e
  rw [hd2.out,hxx.out,hat.out];unfold De J4;rw [if_pos e',if_pos e'];exact ⟨rfl,rfl⟩
 have HR2:Hid (ac=2→Cc d at' va=d2∧(0:Int)=xx):=by
  intro e
  have e':Di op=2:=by rw [← hac.out]; exact e
  rw [hd2.out,hxx.out,hat.out,hva.out];unfold De J4;rw [if_neg (by rw [e']; decide),if_pos e',if_neg (by rw [e']; decide)];exact ⟨rfl,rfl⟩
 have HR0:Hid (ac≠1→ac≠2→d=d2∧(0:Int)=xx):=by
  intro e1 e2
  have e1':¬ Di op=1:=by rw [← hac.out]; exact e1
  have e2':¬ Di op=2:=by rw [← hac.out]; exact e2
  rw [hd2.out,hxx.out];unfold De J4;rw [if_neg e1',if_neg e2',if_neg e1'];exact ⟨rfl,rfl⟩
 clear hop har hat hva hcy hac M2 P5;replace N5:=Ad N5;rename_i K3 hK3;refine wp_region_lit ?_
 iterate 1 (refine wpList_plain rfl (fun K9 hK9=>?_); go_simp; refine hK9 _ _ ?_; clear hK9)
 refine A4 rfl _ _ rfl w.heap.size 0 rfl _ _ #[y0] _ _ BX.box (S8 rfl) Tryz.underlying32 rfl J6 ?_
 iterate 1 (refine wpList_plain rfl (fun K9 hK9=>?_); go_simp; refine hK9 _ _ ?_; clear hK9)
 refine A4 rfl _ _ rfl w.heap.size 2 rfl _ _ #[y2,.i d.bank] _ _ BX.box (Qu rfl rfl) Tryz.underlying34 rfl Bf ?_
 iterate 2 (refine wpList_plain rfl (fun K9 hK9=>?_); go_simp; refine hK9 _ _ ?_; clear hK9)
 have c0:=Aj BX.box;have f7:(rowL y0 y1 y2 y3 y4 ov g6 c6 g7 c7 d)[7]?=some (.i d.Pc):=rfl
 iterate 1 (refine wpList_plain rfl (fun K9 hK9=>?_); go_simp; refine hK9 _ _ ?_; clear hK9)
 clear c0 f7;refine Ap rfl _ _ (by kernel_rfl) (HFE.out _ _ _ _ _ LX.lp.h0.ints LX.lp.h2.int1) ?_;rintro e W1 ⟨rfl,L⟩;refine ⟨_,rfl,?_⟩;replace BX:=BX.below L;replace LX:=LX.below L;clear L HFE
 iterate 2 (refine wpList_plain rfl (fun K9 hK9=>?_); go_simp; refine hK9 _ _ ?_; clear hK9)
 have LA:Below W1.heap.size W1 (W1.alloc (.cells #[.i op,.i ar] 106)):=(Below.refl _ _).alloc (Nat.le_refl _) _;have kp:=Ak W1 #[.i op,.i ar] 106
 obtain ⟨pp,hpp⟩:∃ x,Hid (x=W1.heap.size):=⟨_,rfl⟩
 have lpp:w.heap.size+1<pp:=by rw [hpp.out]; exact Af BX.res
 rw [← hpp.out] at kp ⊢;replace BX:=BX.below LA;replace LX:=LX.below LA;clear LA hpp;generalize W1.alloc (.cells #[.i op,.i ar] 106)=WA at *;refine hK3 _ _ ?_;clear hK3;go_upto_region 9 with (fail);rename_i K3 hK3;refine wp_region_lit ?_;refine wpList_load_row rfl _ _ rfl pp rfl _ _ _ _ kp Tryz.underlying106 rfl J7 ?_
 iterate 1 (refine wpList_plain rfl (fun K9 hK9=>?_); go_simp; refine hK9 _ _ ?_; clear hK9)
 refine A4 rfl _ _ rfl w.heap.size 4 rfl _ _ (cR d.A d.X d.S d.Pc d.Z d.N d.C d.I) _ _ BX.box (Qv rfl rfl rfl rfl rfl rfl rfl rfl) Tryz.underlying36 rfl Aq ?_;refine Ap rfl _ _ (by kernel_rfl) (HAC.out WA) ?_;rintro e W2 ⟨rfl,L⟩;refine ⟨_,rfl,?_⟩;replace BX:=BX.below L;replace LX:=LX.below L;replace kp:=Ac kp L (Af kp);clear L HAC
 iterate 7 (refine wpList_plain rfl (fun K9 hK9=>?_); go_simp; refine hK9 _ _ ?_; clear hK9)
 refine hK3 _ _ ?_;clear hK3
 go_upto_block 0 with (fail)
 go_cut [8] (fun s WX=>s=.i xx∧∃ (N0:Nat) (D3:Nat→Nat→Prop) (y0 y1 y2 y3 y4 ov:Value) (gb cp:Nat→Nat) (g6 c6 g7 c7:Nat),Bx w WX lo w.heap.size (w.heap.size+1) rs (rowL y0 y1 y2 y3 y4 ov g6 c6 g7 c7 d2)∧Lx w WX lo N0 w.heap.size (w.heap.size+1) D D3 y0 y1 y2 y3 y4 ov gb cp g6 c6 g7 c7 d2∧WX.heap[pp]?=some (.cells #[.i op,.i ar] 106 (0,0)))
 case first =>
  by_cases r1:ac=1
  ·obtain ⟨eD,eX⟩:=HR1.out r1
   have q1:(ac==1)=true:=by simp [r1]
   clear r1;clear HR1 HR2 HR0;go_upto_region 13 with (fail);rename_i K3 hK3;refine wp_region_lit ?_;have hz2:=BX.low.size;have hlw:=BX.hl;refine wpList_load_row rfl _ _ rfl w.heap.size rfl _ _ _ _ BX.box Tryz.underlying44 rfl Ae ?_
   iterate 1 (refine wpList_plain rfl (fun K9 hK9=>?_); go_simp; refine hK9 _ _ ?_; clear hK9)
   refine Ap rfl _ _ (by kernel_rfl) (HRD.out _ _ LX.lp.x (by omega)) ?_;rintro e W3 ⟨v3,rfl,HN,LB,KB⟩;refine ⟨_,rfl,?_⟩;rw [eD] at HN;rw [eX];have hz3:=LB.size;obtain ⟨D3,y0,y1,y2,y3,y4,ov,gb,cp,g6,c6,g7,c7,rfl,LX3⟩:=HN.lx LX.ap LX.nr (Af BX.box) (Af BX.res) hz2 (by omega);replace BX:=BX.turn LB KB;replace kp:=KB.2 _ _ _ kp (by decide) (by decide);clear HN LB KB LX HRD HWR
   iterate 3 (refine wpList_plain rfl (fun K9 hK9=>?_); go_simp; refine hK9 _ _ ?_; clear hK9)
   refine wpList_store_row rfl _ _ _ rfl w.heap.size _ rfl rfl _ _ BX.box Ae rfl LX3.one ?_
   iterate 1 (refine wpList_plain rfl (fun K9 hK9=>?_); go_simp; refine hK9 _ _ ?_; clear hK9)
   have LX:=LX3.wrote BX (Or.inl rfl) (Ao BX.box (rowL y0 y1 y2 y3 y4 ov g6 c6 g7 c7 d2));replace kp:=Ag kp (Ao BX.box (rowL y0 y1 y2 y3 y4 ov g6 c6 g7 c7 d2)) (fun o (e:pp=_)=>by omega);replace BX:=BX.set (rowL y0 y1 y2 y3 y4 ov g6 c6 g7 c7 d2);clear LX3;generalize W3.setRow w.heap.size (rowL y0 y1 y2 y3 y4 ov g6 c6 g7 c7 d2)=W4 at *;refine hK3 _ _ ?_;clear hK3;go_wp2_with fail
   go_meet
   exact ⟨rfl,_,_,_,_,_,_,_,_,_,_,_,_,_,_,BX,LX,kp⟩
  ·by_cases r2:ac=2
   ·obtain ⟨eD,eX⟩:=HR2.out r2
    have q1:(ac==1)=false:=by simp [r1]
    have q2:(ac==2)=true:=by simp [r2]
    clear r1 r2;clear HR1 HR2 HR0;go_upto_region 15 with (fail);rename_i K3 hK3;refine wp_region_lit ?_;have hz2:=BX.low.size;have hlw:=BX.hl;refine wpList_load_row rfl _ _ rfl w.heap.size rfl _ _ _ _ BX.box Tryz.underlying44 rfl Ae ?_
    iterate 2 (refine wpList_plain rfl (fun K9 hK9=>?_); go_simp; refine hK9 _ _ ?_; clear hK9)
    refine Ap rfl _ _ (by kernel_rfl) (HWR.out _ _ LX.lp.x (by omega)) ?_;rintro e W3 ⟨v3,rfl,HN,LB'⟩;refine ⟨_,rfl,?_⟩;rw [eD] at HN;have KB:=C7.below LB';have LB:=LB'.mono (show lo≤W2.heap.size by omega);clear LB';have hz3:=LB.size;obtain ⟨D3,y0,y1,y2,y3,y4,ov,gb,cp,g6,c6,g7,c7,rfl,LX3⟩:=HN.lx LX.ap LX.nr (Af BX.box) (Af BX.res) hz2 (by omega);replace BX:=BX.turn LB KB;replace kp:=KB.2 _ _ _ kp (by decide) (by decide);clear HN LB KB LX HRD HWR;refine wpList_store_row rfl _ _ _ rfl w.heap.size _ rfl rfl _ _ BX.box Ae rfl LX3.one ?_;have LX:=LX3.wrote BX (Or.inl rfl) (Ao BX.box (rowL y0 y1 y2 y3 y4 ov g6 c6 g7 c7 d2));replace kp:=Ag kp (Ao BX.box (rowL y0 y1 y2 y3 y4 ov g6 c6 g7 c7 d2)) (fun o (e:pp=_)=>by omega);replace BX:=BX.set (rowL y0 y1 y2 y3 y4 ov g6 c6 g7 c7 d2);clear LX3
    generalize W3.setRow w.heap.size (rowL y0 y1 y2 y3 y4 ov g6 c6 g7 c7 d2)=W4 at *;refine hK3 _ _ ?_;clear hK3;subst eX;go_wp2_with fail
    go_meet
    exact ⟨rfl,_,_,_,_,_,_,_,_,_,_,_,_,_,_,BX,LX,kp⟩
   ·obtain ⟨eD,eX⟩:=HR0.out r1 r2
    have q1:(ac==1)=false:=by simp [r1]
    have q2:(ac==2)=false:=by simp [r2]
    clear r1 r2 HR1 HR2 HR0 HRD HWR;subst eD;subst eX;go_wp2_with fail
    go_meet
    exact ⟨rfl,_,_,_,_,_,_,_,_,_,_,_,_,_,_,BX,LX,kp⟩
 case rest =>
 clear BX LX kp HR1 HR2 HR0 HRD HWR;obtain ⟨rfl,N0,D3,y0,y1,y2,y3,y4,ov,gb,cp,g6,c6,g7,c7,BX,LX,kp⟩:=hcut
 obtain ⟨W4,hW4⟩:∃ x,x=wc:=⟨_,rfl⟩
 subst hW4;go_upto_region 16 with (fail);rename_i K3 hK3;refine wp_region_lit ?_
 iterate 1 (refine wpList_plain rfl (fun K9 hK9=>?_); go_simp; refine hK9 _ _ ?_; clear hK9)
 refine A4 rfl _ _ rfl w.heap.size 2 rfl _ _ #[y2,.i d2.bank] _ _ BX.box (Qu rfl rfl) Tryz.underlying34 rfl Bf ?_
 iterate 1 (refine wpList_plain rfl (fun K9 hK9=>?_); go_simp; refine hK9 _ _ ?_; clear hK9)
 refine A4 rfl _ _ rfl w.heap.size 4 rfl _ _ (cR d2.A d2.X d2.S d2.Pc d2.Z d2.N d2.C d2.I) _ _ BX.box (Qv rfl rfl rfl rfl rfl rfl rfl rfl) Tryz.underlying36 rfl Aq ?_;refine wpList_load_row rfl _ _ rfl pp rfl _ _ _ _ kp Tryz.underlying106 rfl J7 ?_
 iterate 1 (refine wpList_plain rfl (fun K9 hK9=>?_); go_simp; refine hK9 _ _ ?_; clear hK9)
 refine Ap rfl _ _ (by kernel_rfl) (HEX.out _ _ _ LX.lp.h2.int1) ?_;rintro e W5 ⟨q,rfl,OI,L⟩;refine ⟨_,rfl,?_⟩;replace kp:=Ac kp L (Af kp);clear HEX;have hz1:=Af BX.res;have hz4:=Af BX.box;have hz2:=L.size;have hz0:=BX.low.size;replace BX:=BX.below L;obtain ⟨D',LX⟩:=(LX.below L).mem OI N5.out LX.lp.nN hz4 hz1 (by omega) hz2;obtain ⟨qa,qc,rfl,-⟩:=OI.ex;clear OI L
 iterate 4 (refine wpList_plain rfl (fun K9 hK9=>?_); go_simp; refine hK9 _ _ ?_; clear hK9)
 refine Bb rfl _ _ _ rfl w.heap.size 2 #[.slice qa 512 qc,.i d2.bank] rfl rfl _ _ BX.box Bf (by show (2+2:Nat)≤34; omega) (by first | rfl | simp [Value.oneCell']) ?_;replace kp:=Ag kp (Ao BX.box (putAt (rowL y0 y1 y2 y3 y4 ov g6 c6 g7 c7 d2) 2 #[.slice qa 512 qc,.i d2.bank])) (fun o (e:pp=_)=>by omega);have LX':=LX.wrote BX (Or.inl rfl) (Ao BX.box (putAt (rowL y0 y1 y2 y3 y4 ov g6 c6 g7 c7 d2) 2 #[.slice qa 512 qc,.i d2.bank]));replace BX:=BX.set (putAt (rowL y0 y1 y2 y3 y4 ov g6 c6 g7 c7 d2) 2 #[.slice qa 512 qc,.i d2.bank]);replace LX:=LX';clear LX';generalize W5.setRow w.heap.size (putAt (rowL y0 y1 y2 y3 y4 ov g6 c6 g7 c7 d2) 2 #[.slice qa 512 qc,.i d2.bank])=W6 at *;replace BX:Bx w W6 lo w.heap.size (w.heap.size+1) rs (rowL y0 y1 (.slice qa 512 qc) y3 y4 ov g6 c6 g7 c7 { d2 with g:=gx }):=BX
 iterate 1 (refine wpList_plain rfl (fun K9 hK9=>?_); go_simp; refine hK9 _ _ ?_; clear hK9)
 refine Bb rfl _ _ _ rfl w.heap.size 4 (cR cx.A cx.X cx.S cx.Pc cx.Z cx.N cx.C cx.I) rfl rfl _ _ BX.box Aq (by show (4+8:Nat)≤34; omega) (by first | rfl | simp [Value.oneCell']) ?_;replace kp:=Ag kp (Ao BX.box (putAt (rowL y0 y1 (.slice qa 512 qc) y3 y4 ov g6 c6 g7 c7 { d2 with g:=gx }) 4 (cR cx.A cx.X cx.S cx.Pc cx.Z cx.N cx.C cx.I))) (fun o (e:pp=_)=>by omega);have LX':=LX.wrote BX (Or.inl rfl) (Ao BX.box (putAt (rowL y0 y1 (.slice qa 512 qc) y3 y4 ov g6 c6 g7 c7 { d2 with g:=gx }) 4 (cR cx.A cx.X cx.S cx.Pc cx.Z cx.N cx.C cx.I)));replace BX:=BX.set (putAt (rowL y0 y1 (.slice qa 512 qc) y3 y4 ov g6 c6 g7 c7 { d2 with g:=gx }) 4 (cR cx.A cx.X cx.S cx.Pc cx.Z cx.N cx.C cx.I));replace LX:=LX';clear LX'
 generalize W6.setRow w.heap.size (putAt (rowL y0 y1 (.slice qa 512 qc) y3 y4 ov g6 c6 g7 c7 { d2 with g:=gx }) 4 (cR cx.A cx.X cx.S cx.Pc cx.Z cx.N cx.C cx.I))=W7 at *;replace LX:=LX.cpu cx;replace BX:Bx w W7 lo w.heap.size (w.heap.size+1) rs (rowL y0 y1 (.slice qa 512 qc) y3 y4 ov g6 c6 g7 c7 (putCpu d2 gx cx)):=BX;refine hK3 _ _ ?_;clear hK3;go_upto_region 17 with (fail);rename_i K2 hK2;have HBX:=Ad BX;have HLX:=Ad LX;have lqq:=Af BX.res
 refine B7 [some 90,some 91,some 92,some 93,none,some 3] (by kernel_rfl) (by kernel_rfl) (by kernel_rfl) (by kernel_rfl) (by first | (simp [slotsOf]; done) | (simp [slotsOf,Act.put]; done))
  (fun j b _=>j=4∧b=w.heap.size+1)
  (fun i v W=>match i with
   | 0=>v=.agg (rowL y0 y1 (.slice qa 512 qc) y3 y4 ov g6 c6 g7 c7 (putCpu d2 gx cx))
   | 1=>v=(pt pp 0)
   | 2=>v=.i op
   | 3=>v=.i cy
   | 4=>W.heap[w.heap.size+1]?=some (.cells (rowL y0 y1 (.slice qa 512 qc) y3 y4 ov g6 c6 g7 c7 (putCpu d2 gx cx)) 44 (0,0))
   | _=>v=.i cy) ?_ ?_ ?_
 ·intro i j o v W W' hij _ _ hW h
  match i,hij,h with
  | 0,_,h=>exact h
  | 1,_,h=>exact h
  | 2,_,h=>exact h
  | 3,_,h=>exact h
  | 4,hij,h=>exact Ag h hW (fun o e=>hij e.1.symm)
  | _+5,_,h=>exact h
 ·intro i o a' W K ho F L hw hK
  have t1:=F.get (t:=1) (v:=(pt w.heap.size 0)) (by decide) rfl;have t2:=F.get (t:=2) (v:=(pt (w.heap.size+1) 0)) (by decide) rfl;have t4:=F.get (t:=4) (v:=(pt pp 0)) (by decide) rfl;have rB:=Ag HBX.out.box L (fun o ⟨j,_,_,_,_,_,e⟩=>by omega);have rP:=Ag kp L (fun o ⟨j,_,_,_,_,_,e⟩=>by omega);have rp:=Aj rP
  match i with
  | 0 =>
   cases ho;refine wp_load_row _ _ rfl w.heap.size (by simpa [Act.eval] using t1) _ _ _ _ rB Tryz.underlying44 rfl Ae ?_;exact Hk hK rfl
  | 1 =>
   cases ho;go_simp;exact Hk hK rfl
  | 2 =>
   cases ho;have q1:tv a' 91=_:=Hr hw 1;go_simp;exact Hk hK rfl
  | 3 =>
   cases ho;have q2:tv a' 92=_:=Hr hw 2;go_simp;refine (HCY.out W).mono ?_;rintro e W' ⟨rfl,LX⟩;exact hK _ _ (Aa LX _) rfl
  | 4 =>
   cases ho;have q0:tv a' 90=_:=Hr hw 0;have rB1:=Ag HBX.out.res L (fun o ⟨j,_,hj,_,_,e,_⟩=>hj e);refine wp_store_row _ _ _ rfl (w.heap.size+1) (rowL y0 y1 (.slice qa 512 qc) y3 y4 ov g6 c6 g7 c7 (putCpu d2 gx cx)) (by simpa [Act.eval] using t2) (by simpa [Act.eval] using q0) _ _ rB1 Ae HRS.out HLX.out.one ?_;exact hK undef _ ((Ao rB1 _).mono (fun b o _ h=>⟨rfl,h⟩)) (setRow_heap _ _ _ _ _ _ rB1)
  | 5 =>
   cases ho;have q3:tv a' 93=_:=Hr hw 3;go_simp;exact Hk hK rfl
  | _+6=>simp at ho
 ·intro a' W F L hφ
  have p4:W.heap[w.heap.size+1]?=some (.cells (rowL y0 y1 (.slice qa 512 qc) y3 y4 ov g6 c6 g7 c7 (putCpu d2 gx cx)) 44 (0,0)):=Hd hφ 4;have p5:a'.tmps[3]?.getD undef=_:=Hd hφ 5;have L':Wrote (fun x _=>x=w.heap.size+1) W7 W:=L.mono (fun b o _ ⟨j,_,e⟩=>e);have LXF:=Ad (HLX.out.wrote HBX.out (Or.inr rfl) L');have LKF:=Ad (HBX.out.wrote (Or.inr rfl) L');rw [F.same,show slotsOf [some 90,some 91,some 92,some 93,none,some 3]=[90,91,92,93,3] from rfl];simp only [List.foldl_cons,List.foldl_nil];rw [p5];generalize a'.tmps[90]?.getD undef=s90;generalize a'.tmps[91]?.getD undef=s91;generalize a'.tmps[92]?.getD undef=s92;generalize a'.tmps[93]?.getD undef=s93;clear hφ L F p5 L' HLX HBX kp BX LX;refine hK2 _ _ ?_;go_simp;go_wp2
  refine bodyPost_ret (v:=.tuple #[.agg (rowL y0 y1 (.slice qa 512 qc) y3 y4 ov g6 c6 g7 c7 (putCpu d2 gx cx)),.i cy]) (A0 Tryz.results65 _ _ (w.heap.size+1) _ _ _ _ rfl p4 Tryz.underlying44 rfl Ae) rfl ?_;rw [(HVC.out hnm.out hnc.out).1,(HVC.out hnm.out hnc.out).2];exact ⟨_,rfl,LXF.out.nx,LKF.out.1,LKF.out.2⟩
end Go.Proofs.YtfjieibndedngaaGreat
