import Derived.Test.YtgcmimcalmjaaaaGreatDoorE9
import Derived.Test.YtgcmimcalmjaaaaGreatDoorSD
namespace Go.Proofs.YtgcmimcalmjaaaaGreatDoor
set_option maxHeartbeats 8000000
set_option maxRecDepth 40000
set_option linter.unusedVariables false
set_option linter.unusedSimpArgs false
open Go.ChangeShapes Go.WideShapes Go.ChangeAt Go.RowKit
theorem Ni:(Tryz.prog.info? 41).map (·.size)=some 1:=by kernel_rfl
theorem Nj:(Tryz.prog.info? 109).map (·.size)=some 2:=by kernel_rfl
theorem Bx.start (w:World) {lo:Nat} (cs zs:Array Value) (h:lo≤w.heap.size):Bx w ((w.alloc (.cells cs 49)).alloc (.cells zs 49)) lo w.heap.size (w.heap.size+1) zs cs :=
 have L:Below w.heap.size w ((w.alloc (.cells cs 49)).alloc (.cells zs 49)):=((Below.refl _ _).alloc (Nat.le_refl _) _).alloc (by simp) _
 ⟨Ax (Al w cs 49) _,by simpa using Al (w.alloc (.cells cs 49)) zs 49,L.mono h,Dv.below L,Nat.le_refl _,Nat.le_succ _,by omega,h⟩
theorem Ez.start {w:World} {lo:Nat} {D:Nat→Nat→Prop} {v:Value} {d:Aq} (H:Ez w lo D v d) (h:lo≤w.heap.size) {W:World} (L:Below w.heap.size w W) :
  ∃ (u0 u1 u2 u3 u4 ov:Value) (gb cp:Nat→Nat) (g6 c6 g7 c7:Nat),v=.agg (rowL u0 u1 u2 u3 u4 ov g6 c6 g7 c7 d)∧Lx w W lo w.heap.size w.heap.size (w.heap.size+1) D D u0 u1 u2 u3 u4 ov gb cp g6 c6 g7 c7 d:=by
 obtain ⟨u0,u1,u2,u3,u4,ov,gb,cp,g6,c6,g7,c7,rfl,HP⟩:=H;exact ⟨u0,u1,u2,u3,u4,ov,gb,cp,g6,c6,g7,c7,rfl,HP.below L,fun i k e=>by have:=HP.bd i k e; omega,fun i k e=>Or.inl ⟨_,e⟩,h⟩
theorem Jct (w:World) (lo:Nat) (D:Nat→Nat→Prop) (v:Value) (d:Aq) (H:Ez w lo D v d) (hlo:lo≤w.heap.size) (hok:OkL d) (hnm:d.nmi=true):Calls Tryz.prog 57 #[v] w fun e w'=>∃ v',e=.returned (.tuple #[v',.i (actN d)])∧Hm w w' lo D v' (actD d)∧Below lo w w'∧Dv w w':=by
 obtain ⟨u0,u1,u2,u3,u4,ov,gb,cp,g6,c6,g7,c7,rfl,LX⟩:=H.start hlo (Below.refl w.heap.size w);replace LX:=LX.below (((Below.refl w.heap.size w).alloc (Nat.le_refl _) (.cells (rowL u0 u1 u2 u3 u4 ov g6 c6 g7 c7 d) 49)).alloc (by simp) (.cells zR 49));have BX:=Bx.start w (rowL u0 u1 u2 u3 u4 ov g6 c6 g7 c7 d) zR hlo
 go_enter Tryz.func57,Tryz.ntmps57
 go_upto_region 1 with (fail);generalize (w.alloc (.cells (rowL u0 u1 u2 u3 u4 ov g6 c6 g7 c7 d) 49)).alloc (.cells zR 49)=W0 at *;generalize hrs:(zR:Array Value)=rs at BX
 have HRS:Hid (rs.size=34):=by show _=_; rw [← hrs]; rfl
 clear hrs;have c0:=Ag BX.box;have f0:=As BX.box
 have f29:(rowL u0 u1 u2 u3 u4 ov g6 c6 g7 c7 d)[29]?=some (.bool true):=by rw [← hnm]; rfl
 replace hnm:=Ad hnm;go_upto_region 3 with (fail);clear c0 f0 f29;have LX':=(LX.wrote BX (Or.inl rfl) (BX.cellW 29 (.bool false))).nmi false;replace BX:=BX.cell 29 (.bool false);replace LX:=LX';clear LX';generalize W0.setCell ⟨w.heap.size,29,none⟩ (.bool false)=W1 at *;replace BX:Bx w W1 lo w.heap.size (w.heap.size+1) rs (rowL u0 u1 u2 u3 u4 ov g6 c6 g7 c7 (noNmi d)):=BX;rename_i K3 hK3;refine wp_region_lit ?_
 iterate 1 (refine wpList_plain rfl (fun K9 hK9=>?_); go_simp; refine hK9 _ _ ?_; clear hK9)
 refine Bf rfl _ _ rfl w.heap.size 0 rfl _ _ #[u0] _ _ BX.box (Zj rfl) Tryz.underlying41 rfl Ni ?_
 iterate 1 (refine wpList_plain rfl (fun K9 hK9=>?_); go_simp; refine hK9 _ _ ?_; clear hK9)
 refine Bf rfl _ _ rfl w.heap.size 2 rfl _ _ #[u2,.i (noNmi d).bank] _ _ BX.box (Ve rfl rfl) Tryz.underlying42 rfl Bq ?_
 iterate 1 (refine wpList_plain rfl (fun K9 hK9=>?_); go_simp; refine hK9 _ _ ?_; clear hK9)
 refine Bf rfl _ _ rfl w.heap.size 4 rfl _ _ (cR ((noNmi d).A) ((noNmi d).X) ((noNmi d).S) ((noNmi d).Pc) ((noNmi d).Z) ((noNmi d).N) ((noNmi d).C) ((noNmi d).I)) _ _ BX.box (Gu rfl rfl rfl rfl rfl rfl rfl rfl) Tryz.underlying43 rfl Aw ?_;refine Br rfl _ _ (by kernel_rfl) (Iu W1 _ _ u0 u2 d.m d.ln d.f d.g d.bank LX.lp.h0.ints (hok.nr ▸ LX.lp.h2.int1) d.A d.X d.S d.Pc d.Z d.N d.C d.I 65530) ?_;rintro e W2 ⟨q,rfl,OI,L⟩;refine ⟨_,rfl,?_⟩;have hz1:=Ac BX.res;have hz4:=Ac BX.box;have hz2:=L.size;have hz0:=BX.low.size;replace BX:=BX.below L;obtain ⟨D',LX⟩:=(LX.below L).mem OI hok.nr LX.lp.nN hz4 hz1 (by omega) hz2;obtain ⟨qa,qc,rfl,-⟩:=OI.ex;clear OI L
 iterate 4 (refine wpList_plain rfl (fun K9 hK9=>?_); go_simp; refine hK9 _ _ ?_; clear hK9)
 refine Bv rfl _ _ _ rfl w.heap.size 2 #[.slice qa 512 qc,.i (noNmi d).bank] rfl rfl _ _ BX.box Bq (by show (2+2:Nat)≤34; omega) (by first | rfl | simp [Value.oneCell']) ?_;have LX':=LX.wrote BX (Or.inl rfl) (Au BX.box (putAt (rowL u0 u1 u2 u3 u4 ov g6 c6 g7 c7 (noNmi d)) 2 #[.slice qa 512 qc,.i (noNmi d).bank]));replace BX:=BX.set (putAt (rowL u0 u1 u2 u3 u4 ov g6 c6 g7 c7 (noNmi d)) 2 #[.slice qa 512 qc,.i (noNmi d).bank]);replace LX:=LX';clear LX';generalize W2.setRow w.heap.size (putAt (rowL u0 u1 u2 u3 u4 ov g6 c6 g7 c7 (noNmi d)) 2 #[.slice qa 512 qc,.i (noNmi d).bank])=W3 at *;replace BX:Bx w W3 lo w.heap.size (w.heap.size+1) rs (rowL u0 u1 (.slice qa 512 qc) u3 u4 ov g6 c6 g7 c7 { (noNmi d) with g:=(enterG d.g d.S d.Pc d.Z d.N d.C d.I) }):=BX
 iterate 1 (refine wpList_plain rfl (fun K9 hK9=>?_); go_simp; refine hK9 _ _ ?_; clear hK9)
 refine Bv rfl _ _ _ rfl w.heap.size 4 (cR ((entC (noNmi d) 65530).A) ((entC (noNmi d) 65530).X) ((entC (noNmi d) 65530).S) ((entC (noNmi d) 65530).Pc) ((entC (noNmi d) 65530).Z) ((entC (noNmi d) 65530).N) ((entC (noNmi d) 65530).C) ((entC (noNmi d) 65530).I)) rfl rfl _ _ BX.box Aw (by show (4+8:Nat)≤34; omega) (by first | rfl | simp [Value.oneCell']) ?_;have LX':=LX.wrote BX (Or.inl rfl) (Au BX.box (putAt (rowL u0 u1 (.slice qa 512 qc) u3 u4 ov g6 c6 g7 c7 { (noNmi d) with g:=(enterG d.g d.S d.Pc d.Z d.N d.C d.I) }) 4 (cR ((entC (noNmi d) 65530).A) ((entC (noNmi d) 65530).X) ((entC (noNmi d) 65530).S) ((entC (noNmi d) 65530).Pc) ((entC (noNmi d) 65530).Z) ((entC (noNmi d) 65530).N) ((entC (noNmi d) 65530).C) ((entC (noNmi d) 65530).I))))
 replace BX:=BX.set (putAt (rowL u0 u1 (.slice qa 512 qc) u3 u4 ov g6 c6 g7 c7 { (noNmi d) with g:=(enterG d.g d.S d.Pc d.Z d.N d.C d.I) }) 4 (cR ((entC (noNmi d) 65530).A) ((entC (noNmi d) 65530).X) ((entC (noNmi d) 65530).S) ((entC (noNmi d) 65530).Pc) ((entC (noNmi d) 65530).Z) ((entC (noNmi d) 65530).N) ((entC (noNmi d) 65530).C) ((entC (noNmi d) 65530).I)));replace LX:=LX';clear LX';generalize W3.setRow w.heap.size (putAt (rowL u0 u1 (.slice qa 512 qc) u3 u4 ov g6 c6 g7 c7 { (noNmi d) with g:=(enterG d.g d.S d.Pc d.Z d.N d.C d.I) }) 4 (cR ((entC (noNmi d) 65530).A) ((entC (noNmi d) 65530).X) ((entC (noNmi d) 65530).S) ((entC (noNmi d) 65530).Pc) ((entC (noNmi d) 65530).Z) ((entC (noNmi d) 65530).N) ((entC (noNmi d) 65530).C) ((entC (noNmi d) 65530).I)))=W4 at *;replace LX:=LX.cpu (entC (noNmi d) 65530)
 replace BX:Bx w W4 lo w.heap.size (w.heap.size+1) rs (rowL u0 u1 (.slice qa 512 qc) u3 u4 ov g6 c6 g7 c7 (putCpu (noNmi d) (enterG d.g d.S d.Pc d.Z d.N d.C d.I) (entC (noNmi d) 65530))):=BX;refine hK3 _ _ ?_;clear hK3;go_upto_region 4 with (fail);rename_i K3 hK3;refine wp_region_lit ?_;refine wpList_load_row rfl _ _ rfl w.heap.size rfl _ _ _ _ BX.box Tryz.underlying49 rfl Ao ?_;refine wpList_store_row rfl _ _ _ rfl (w.heap.size+1) _ rfl rfl _ _ BX.res Ao HRS.out LX.one ?_
 iterate 1 (refine wpList_plain rfl (fun K9 hK9=>?_); go_simp; refine hK9 _ _ ?_; clear hK9)
 have LXF:=LX.wrote BX (Or.inr rfl) (Au BX.res (rowL u0 u1 (.slice qa 512 qc) u3 u4 ov g6 c6 g7 c7 (putCpu (noNmi d) (enterG d.g d.S d.Pc d.Z d.N d.C d.I) (entC (noNmi d) 65530))));have BXF:=BX.out (rowL u0 u1 (.slice qa 512 qc) u3 u4 ov g6 c6 g7 c7 (putCpu (noNmi d) (enterG d.g d.S d.Pc d.Z d.N d.C d.I) (entC (noNmi d) 65530)));generalize W4.setRow (w.heap.size+1) (rowL u0 u1 (.slice qa 512 qc) u3 u4 ov g6 c6 g7 c7 (putCpu (noNmi d) (enterG d.g d.S d.Pc d.Z d.N d.C d.I) (entC (noNmi d) 65530)))=W5 at *;refine hK3 _ _ ?_;clear hK3;go_wp2;refine bodyPost_ret (v:=.tuple #[.agg (rowL u0 u1 (.slice qa 512 qc) u3 u4 ov g6 c6 g7 c7 (putCpu (noNmi d) (enterG d.g d.S d.Pc d.Z d.N d.C d.I) (entC (noNmi d) 65530))),.i 7]) (A9 Tryz.results57 _ _ (w.heap.size+1) _ _ _ _ rfl BXF.res Tryz.underlying49 rfl Ao) rfl ?_
 have hv:actD d=putCpu (noNmi d) (enterG d.g d.S d.Pc d.Z d.N d.C d.I) (entC (noNmi d) 65530)∧actN d=7:=by
  unfold actD actN;rw [if_pos hnm.out,if_pos hnm.out];exact ⟨rfl,rfl⟩
 rw [hv.1,hv.2];exact ⟨_,rfl,LXF.nx,BXF.low,BXF.kept⟩
theorem Jcu (w:World) (lo:Nat) (D:Nat→Nat→Prop) (v:Value) (d:Aq) (H:Ez w lo D v d) (hlo:lo≤w.heap.size) (hok:OkL d) (hnm:d.nmi=false) (hrr:d.R=true) (hii:d.I=false):Calls Tryz.prog 57 #[v] w fun e w'=>∃ v',e=.returned (.tuple #[v',.i (actN d)])∧Hm w w' lo D v' (actD d)∧Below lo w w'∧Dv w w':=by
 obtain ⟨u0,u1,u2,u3,u4,ov,gb,cp,g6,c6,g7,c7,rfl,LX⟩:=H.start hlo (Below.refl w.heap.size w);replace LX:=LX.below (((Below.refl w.heap.size w).alloc (Nat.le_refl _) (.cells (rowL u0 u1 u2 u3 u4 ov g6 c6 g7 c7 d) 49)).alloc (by simp) (.cells zR 49));have BX:=Bx.start w (rowL u0 u1 u2 u3 u4 ov g6 c6 g7 c7 d) zR hlo
 go_enter Tryz.func57,Tryz.ntmps57
 go_upto_region 1 with (fail);generalize (w.alloc (.cells (rowL u0 u1 u2 u3 u4 ov g6 c6 g7 c7 d) 49)).alloc (.cells zR 49)=W0 at *;generalize hrs:(zR:Array Value)=rs at BX
 have HRS:Hid (rs.size=34):=by show _=_; rw [← hrs]; rfl
 clear hrs;have c0:=Ag BX.box;have f0:=As BX.box
 have f29:(rowL u0 u1 u2 u3 u4 ov g6 c6 g7 c7 d)[29]?=some (.bool false):=by rw [← hnm]; rfl
 have f26:(rowL u0 u1 u2 u3 u4 ov g6 c6 g7 c7 d)[26]?=some (.bool true):=by rw [← hrr]; rfl
 have f11:(rowL u0 u1 u2 u3 u4 ov g6 c6 g7 c7 d)[11]?=some (.bool false):=by rw [← hii]; rfl
 replace hnm:=Ad hnm;replace hrr:=Ad hrr;replace hii:=Ad hii;go_upto_region 6 with (fail);clear c0 f0 f29 f26 f11;rename_i K3 hK3;refine wp_region_lit ?_
 iterate 1 (refine wpList_plain rfl (fun K9 hK9=>?_); go_simp; refine hK9 _ _ ?_; clear hK9)
 refine Bf rfl _ _ rfl w.heap.size 0 rfl _ _ #[u0] _ _ BX.box (Zj rfl) Tryz.underlying41 rfl Ni ?_
 iterate 1 (refine wpList_plain rfl (fun K9 hK9=>?_); go_simp; refine hK9 _ _ ?_; clear hK9)
 refine Bf rfl _ _ rfl w.heap.size 2 rfl _ _ #[u2,.i d.bank] _ _ BX.box (Ve rfl rfl) Tryz.underlying42 rfl Bq ?_
 iterate 1 (refine wpList_plain rfl (fun K9 hK9=>?_); go_simp; refine hK9 _ _ ?_; clear hK9)
 refine Bf rfl _ _ rfl w.heap.size 4 rfl _ _ (cR d.A d.X d.S d.Pc d.Z d.N d.C d.I) _ _ BX.box (Gu rfl rfl rfl rfl rfl rfl rfl rfl) Tryz.underlying43 rfl Aw ?_;refine Br rfl _ _ (by kernel_rfl) (Iu W0 _ _ u0 u2 d.m d.ln d.f d.g d.bank LX.lp.h0.ints (hok.nr ▸ LX.lp.h2.int1) d.A d.X d.S d.Pc d.Z d.N d.C d.I 65534) ?_;rintro e W2 ⟨q,rfl,OI,L⟩;refine ⟨_,rfl,?_⟩;have hz1:=Ac BX.res;have hz4:=Ac BX.box;have hz2:=L.size;have hz0:=BX.low.size;replace BX:=BX.below L;obtain ⟨D',LX⟩:=(LX.below L).mem OI hok.nr LX.lp.nN hz4 hz1 (by omega) hz2;obtain ⟨qa,qc,rfl,-⟩:=OI.ex;clear OI L
 iterate 4 (refine wpList_plain rfl (fun K9 hK9=>?_); go_simp; refine hK9 _ _ ?_; clear hK9)
 refine Bv rfl _ _ _ rfl w.heap.size 2 #[.slice qa 512 qc,.i d.bank] rfl rfl _ _ BX.box Bq (by show (2+2:Nat)≤34; omega) (by first | rfl | simp [Value.oneCell']) ?_;have LX':=LX.wrote BX (Or.inl rfl) (Au BX.box (putAt (rowL u0 u1 u2 u3 u4 ov g6 c6 g7 c7 d) 2 #[.slice qa 512 qc,.i d.bank]));replace BX:=BX.set (putAt (rowL u0 u1 u2 u3 u4 ov g6 c6 g7 c7 d) 2 #[.slice qa 512 qc,.i d.bank]);replace LX:=LX';clear LX';generalize W2.setRow w.heap.size (putAt (rowL u0 u1 u2 u3 u4 ov g6 c6 g7 c7 d) 2 #[.slice qa 512 qc,.i d.bank])=W3 at *;replace BX:Bx w W3 lo w.heap.size (w.heap.size+1) rs (rowL u0 u1 (.slice qa 512 qc) u3 u4 ov g6 c6 g7 c7 { d with g:=(enterG d.g d.S d.Pc d.Z d.N d.C d.I) }):=BX
 iterate 1 (refine wpList_plain rfl (fun K9 hK9=>?_); go_simp; refine hK9 _ _ ?_; clear hK9)
 refine Bv rfl _ _ _ rfl w.heap.size 4 (cR ((entC d 65534).A) ((entC d 65534).X) ((entC d 65534).S) ((entC d 65534).Pc) ((entC d 65534).Z) ((entC d 65534).N) ((entC d 65534).C) ((entC d 65534).I)) rfl rfl _ _ BX.box Aw (by show (4+8:Nat)≤34; omega) (by first | rfl | simp [Value.oneCell']) ?_;have LX':=LX.wrote BX (Or.inl rfl) (Au BX.box (putAt (rowL u0 u1 (.slice qa 512 qc) u3 u4 ov g6 c6 g7 c7 { d with g:=(enterG d.g d.S d.Pc d.Z d.N d.C d.I) }) 4 (cR ((entC d 65534).A) ((entC d 65534).X) ((entC d 65534).S) ((entC d 65534).Pc) ((entC d 65534).Z) ((entC d 65534).N) ((entC d 65534).C) ((entC d 65534).I))))
 replace BX:=BX.set (putAt (rowL u0 u1 (.slice qa 512 qc) u3 u4 ov g6 c6 g7 c7 { d with g:=(enterG d.g d.S d.Pc d.Z d.N d.C d.I) }) 4 (cR ((entC d 65534).A) ((entC d 65534).X) ((entC d 65534).S) ((entC d 65534).Pc) ((entC d 65534).Z) ((entC d 65534).N) ((entC d 65534).C) ((entC d 65534).I)));replace LX:=LX';clear LX';generalize W3.setRow w.heap.size (putAt (rowL u0 u1 (.slice qa 512 qc) u3 u4 ov g6 c6 g7 c7 { d with g:=(enterG d.g d.S d.Pc d.Z d.N d.C d.I) }) 4 (cR ((entC d 65534).A) ((entC d 65534).X) ((entC d 65534).S) ((entC d 65534).Pc) ((entC d 65534).Z) ((entC d 65534).N) ((entC d 65534).C) ((entC d 65534).I)))=W4 at *;replace LX:=LX.cpu (entC d 65534);replace BX:Bx w W4 lo w.heap.size (w.heap.size+1) rs (rowL u0 u1 (.slice qa 512 qc) u3 u4 ov g6 c6 g7 c7 (putCpu d (enterG d.g d.S d.Pc d.Z d.N d.C d.I) (entC d 65534))):=BX;refine hK3 _ _ ?_;clear hK3
 go_upto_region 7 with (fail);rename_i K3 hK3;refine wp_region_lit ?_;refine wpList_load_row rfl _ _ rfl w.heap.size rfl _ _ _ _ BX.box Tryz.underlying49 rfl Ao ?_;refine wpList_store_row rfl _ _ _ rfl (w.heap.size+1) _ rfl rfl _ _ BX.res Ao HRS.out LX.one ?_
 iterate 1 (refine wpList_plain rfl (fun K9 hK9=>?_); go_simp; refine hK9 _ _ ?_; clear hK9)
 have LXF:=LX.wrote BX (Or.inr rfl) (Au BX.res (rowL u0 u1 (.slice qa 512 qc) u3 u4 ov g6 c6 g7 c7 (putCpu d (enterG d.g d.S d.Pc d.Z d.N d.C d.I) (entC d 65534))));have BXF:=BX.out (rowL u0 u1 (.slice qa 512 qc) u3 u4 ov g6 c6 g7 c7 (putCpu d (enterG d.g d.S d.Pc d.Z d.N d.C d.I) (entC d 65534)));generalize W4.setRow (w.heap.size+1) (rowL u0 u1 (.slice qa 512 qc) u3 u4 ov g6 c6 g7 c7 (putCpu d (enterG d.g d.S d.Pc d.Z d.N d.C d.I) (entC d 65534)))=W5 at *;refine hK3 _ _ ?_;clear hK3;go_wp2;refine bodyPost_ret (v:=.tuple #[.agg (rowL u0 u1 (.slice qa 512 qc) u3 u4 ov g6 c6 g7 c7 (putCpu d (enterG d.g d.S d.Pc d.Z d.N d.C d.I) (entC d 65534))),.i 7]) (A9 Tryz.results57 _ _ (w.heap.size+1) _ _ _ _ rfl BXF.res Tryz.underlying49 rfl Ao) rfl ?_
 have hv:actD d=putCpu d (enterG d.g d.S d.Pc d.Z d.N d.C d.I) (entC d 65534)∧actN d=7:=by
  unfold actD actN;rw [if_neg (by rw [hnm.out]; decide),if_pos (by rw [hrr.out,hii.out]; rfl),if_neg (by rw [hnm.out]; decide),if_pos (by rw [hrr.out,hii.out]; rfl)];exact ⟨rfl,rfl⟩
 rw [hv.1,hv.2];exact ⟨_,rfl,LXF.nx,BXF.low,BXF.kept⟩
set_option maxHeartbeats 8000000
set_option maxRecDepth 20000
theorem Sf (m:Nat) (f:Nat→Value) (y:Value):Cz m f++[y]=Cz (m+1) (fun i=>if i=m then y else f i):=by
 unfold Cz;rw [List.range_succ,List.map_append]
 congr 1
 ·apply List.map_congr_left
  intro i hi;have:=List.mem_range.1 hi
  show f i=(if i=m then y else f i)
  rw [if_neg (by omega)]
 ·simp
theorem SA.push {W W':World} {lo m:Nat} {v:Value} {ob:Nat→Option Nat} {iv ov:Nat→Value} {ln:Nat→Nat} {f:Nat→Nat→Int} {g' c' k:Nat} {o3:Option Nat} {tv:Value} {h:Nat→Int} (H:SA W lo v m m ob iv ov ln f) (hw:Wrote (fun b _=>v.ownBlock=some b) W W')
  (own':W'.ownsRow lo 25 1 (.slice (some ⟨g',0,none⟩) (m+1) c') (m+1) (Cz m (fun i=>if i<m then iv i else ov i)++[tv])) (hat:v.ownBlock=some g'∨W.heap.size≤g') (RN:A5 W lo o3 tv k h) (hN1:∀ b,o3=some b→v.ownBlock≠some b) (hN2:∀ i,i<m→Pz (ob i) o3) (hq:m<1048576) :
  SA W' lo (.slice (some ⟨g',0,none⟩) (m+1) c') (m+1) (m+1) (fun i=>if i=m then o3 else ob i) (fun i=>if i=m then tv else iv i) ov (Ej ln m k) (Iy f m h):=by
 rw [Sf,Hi (g:=fun i=>if i<m+1 then (if i=m then tv else iv i) else ov i) (fun i hi=>?_)] at own'
 ·refine ⟨own',fun i hi=>?_,fun i j hi hj hij=>?_,fun g hg i hi=>?_,by omega⟩
  ·by_cases e:i=m
   ·subst e
    unfold Ej Iy;simp only [if_true];exact RN.keep hw (fun b hb _ _ o x=>hN1 b hb x)
   ·unfold Ej Iy
    simp only [if_neg e];exact (H.rows i (by omega)).keep hw (fun b hb _ _ o x=>H.dj b x i (by omega) hb)
  ·by_cases e:i=m
   ·rw [if_pos e,if_neg (by omega)]
    exact fun q h1 h2=>hN2 j (by omega) q h2 h1
   ·by_cases e':j=m
    ·rw [if_neg e,if_pos e']
     exact hN2 i (by omega)
    ·rw [if_neg e,if_neg e']
     exact H.inj i j (by omega) (by omega) hij
  ·obtain rfl:g'=g:=by simpa [Value.ownBlock] using hg
   by_cases e:i=m
   ·rw [if_pos e]
    intro x
    rcases hat with h | h
    ·exact hN1 _ x h
    ·subst x
     have:=RN.lt
     omega
   ·rw [if_neg e]
    intro x
    rcases hat with h | h
    ·exact H.dj _ h i (by omega) x
    ·have h3:=H.rows i (by omega)
     rw [x] at h3;have:=h3.lt
     omega
 ·show (if i=m then tv else if i<m then iv i else ov i)=(if i<m+1 then (if i=m then tv else iv i) else ov i)
  rw [if_pos hi]
  by_cases e:i=m
  ·rw [if_pos e,if_pos e]
  ·rw [if_neg e,if_neg e,if_pos (by omega)]
theorem Goes.push5 {V W:World} {b5:Value} {lo:Nat} {e:TypeId} {n g' c':Nat} {vs:List Value} (hw:Wrote (spare b5) V W) (R:V.ownsRow lo e 1 b5 n vs) (hat:b5.ownBlock=some g'∨V.heap.size≤g') (z:Nat) (a4 a6 a7:Value):Goes V W z a4 b5 a6 a7 a4 (.slice (some ⟨g',0,none⟩) (n+1) c') a6 a7 :=
 ⟨hw.mono (fun b o _ e=>Or.inr (Or.inr (Or.inl e))),fun b o hb k=>by
  rcases k with k | k | k | k
  ·exact Or.inl k
  ·exact Or.inr (Or.inl k)
  ·exact Or.inr (Or.inr (Or.inl (X6 R hat hb k)))
  ·exact Or.inr (Or.inr (Or.inr k))⟩
theorem Goes.push6 {V W:World} {b6:Value} {lo:Nat} {o6:Option Nat} {n g' c':Nat} {f:Nat→Int} (hw:Wrote (spare b6) V W) (R:A5 V lo o6 b6 n f) (hat:o6=some g'∨V.heap.size≤g') (z:Nat) (a4 a5 a7:Value):Goes V W z a4 a5 b6 a7 a4 a5 (.slice (some ⟨g',0,none⟩) (n+1) c') a7 :=
 ⟨hw.mono (fun b o _ e=>Or.inr (Or.inr (Or.inr (Or.inl e)))),fun b o hb k=>by
  rcases k with k | k | k | k | k
  ·exact Or.inl k
  ·exact Or.inr (Or.inl k)
  ·exact Or.inr (Or.inr (Or.inl k))
  ·exact Or.inr (Or.inr (Or.inr (Or.inl (Je R hat hb k))))
  ·exact Or.inr (Or.inr (Or.inr (Or.inr k)))⟩
def E7 (d:Aq):Aq:={ d with t:=Ga d.t,bl:=Ho d.t d.bl,nd:=tkM d.t d.nd,dt:=Kz d.t d.tb d.s d.pl d.nd d.dt }
def frameT (d:Aq) (k:Nat) (h:Nat→Int):Aq:={ d with mf:=d.mf+1,lf:=Ej d.lf d.mf k,fr:=Iy d.fr d.mf h }
def Il (d:Aq) (x:Int):Aq:={ d with ns:=d.ns+1,sm:=snoc d.sm d.ns x }
section
variable {R:Nat→Nat→Prop} {W W':World} {lo N:Nat} {D:Nat→Nat→Prop} {u0 u1 u2 u3 u4 u5 u6 u7:Value} {ob:Nat→Option Nat} {iv ov:Nat→Value} {o6 o7:Option Nat} {d:Aq}
theorem Bi.ticked (H:Bi W lo N D u0 u1 u2 u3 u4 u5 u6 u7 ob iv ov o6 o7 d) (hN:N=W.heap.size) (hl:lo≤N) {o1 o2 o2' o3:Option Nat} {w4 tv:Value} {k:Nat} {h:Nat→Int} (R1:A5 W' lo o1 u3 d.nt d.tb) (d1:∀ b,o1=some b→D 3 b) (d2:∀ b,o2=some b→D 3 b) (R2:A5 W' lo o2' w4 (tkM d.t d.nd) (Kz d.t d.tb d.s d.pl d.nd d.dt)) (R3:A5 W' lo o3 tv k h)
  (t12:Pz o1 o2') (t13:Pz o1 o3) (t23:Pz o2' o3) (hw:Wrote R W W') (hR:∀ b o,b<W.heap.size→R b o→(∀ i,¬ D i b)∨o2=some b) (hn:∀ q,(o2'=some q∨o3=some q)→o2=some q∨W.heap.size≤q) :
  Bi W' lo W'.heap.size (fun i b=>(i=3∧(o1=some b∨o2'=some b))∨(i=7∧o3=some b)∨(i≠3∧i≠7∧D i b)) u0 u1 u2 u3 w4 u5 u6 u7 ob iv ov o6 o7 (E7 d):=by
 have hsz:=hw.size
 have far:∀ i b o,i≠3→D i b→¬ R b o:=fun i b o hi hb hr=>by
  rcases hR b o (by have:=H.bd i b hb; omega) hr with x | x
  ·exact x i hb
  ·exact hi (H.dis i 3 b hb (d2 b x))
 have key:∀ i b,i≠3→D i b→(o1=some b∨o2'=some b∨o3=some b)→False:=fun i b hi hb h=>by
  have hbd:=H.bd i b hb
  rcases h with h | h
  ·exact hi (H.dis i 3 b hb (d1 b h))
  ·rcases hn b h with x | x
   ·exact hi (H.dis i 3 b hb (d2 b x))
   ·omega
 refine ⟨(H.h0.keep hw (fun b o h _=>far 0 b o (by decide) h)).mono (fun b _ h=>Or.inr (Or.inr ⟨by decide,by decide,h⟩)),(H.h1.keep hw (fun b o h _=>far 1 b o (by decide) h)).mono (fun b _ h=>Or.inr (Or.inr ⟨by decide,by decide,h⟩)),(H.h2.keep hw (fun b o h _=>far 2 b o (by decide) h)).mono (fun b _ h=>Or.inr (Or.inr ⟨by decide,by decide,h⟩)),
  ⟨u3,w4,o1,o2',rfl,R1,R2,t12,fun b h=>Or.inl ⟨rfl,h⟩⟩,H.h5.keep hw (fun g o hg=>far 4 g o (by decide) (H.h5D g (Or.inl hg))) (fun i b o hi hb=>far 4 b o (by decide) (H.h5D b (Or.inr ⟨i,hi,hb⟩))),fun b h=>Or.inr (Or.inr ⟨by decide,by decide,H.h5D b h⟩),H.h6.keep hw (fun b hb _ _ o=>far 5 b o (by decide) (H.h6D b hb)),fun b h=>Or.inr (Or.inr ⟨by decide,by decide,H.h6D b h⟩),H.h7.keep hw (fun b hb _ _ o=>far 6 b o (by decide) (H.h7D b hb)),fun b h=>Or.inr (Or.inr ⟨by decide,by decide,H.h7D b h⟩),?_,?_,Nat.le_refl _,H.hps⟩
 ·intro i j b h1 h2
  rcases h1 with ⟨rfl,h1⟩ | ⟨rfl,h1⟩ | ⟨n1,m1,h1⟩ <;> rcases h2 with ⟨rfl,h2⟩ | ⟨rfl,h2⟩ | ⟨n2,m2,h2⟩
  ·rfl
  ·rcases h1 with h1 | h1
   ·exact (t13 b h1 h2).elim
   ·exact (t23 b h1 h2).elim
  ·exact (key j b n2 h2 (by rcases h1 with h1 | h1; exact Or.inl h1; exact Or.inr (Or.inl h1))).elim
  ·rcases h2 with h2 | h2
   ·exact (t13 b h2 h1).elim
   ·exact (t23 b h2 h1).elim
  ·rfl
  ·exact (key j b n2 h2 (Or.inr (Or.inr h1))).elim
  ·exact (key i b n1 h1 (by rcases h2 with h2 | h2; exact Or.inl h2; exact Or.inr (Or.inl h2))).elim
  ·exact (key i b n1 h1 (Or.inr (Or.inr h2))).elim
  ·exact H.dis _ _ _ h1 h2
 ·intro i b h
  rcases h with ⟨rfl,h | h⟩ | ⟨rfl,h⟩ | ⟨n1,m1,h⟩
  ·subst h; exact R1.lt
  ·subst h; exact R2.lt
  ·subst h; exact R3.lt
  ·have:=H.bd _ _ h; omega
theorem Bi.frame (H:Bi W lo N D u0 u1 u2 u3 u4 u5 u6 u7 ob iv ov o6 o7 d) (hN:N=W.heap.size) {g' c' k:Nat} {o3:Option Nat} {tv:Value} {h:Nat→Int} (hw:Wrote (fun b _=>u5.ownBlock=some b) W W') (own':W'.ownsRow lo 25 1 (.slice (some ⟨g',0,none⟩) (d.mf+1) c') (d.mf+1) (Cz d.mf (fun i=>if i<d.mf then iv i else ov i)++[tv]))
  (hat:u5.ownBlock=some g'∨W.heap.size≤g') (R3:A5 W lo o3 tv k h) (d7:∀ b,o3=some b→D 7 b) (hq:d.mf<1048576) (hp:psum (Ej d.lf d.mf k) (d.mf+1)≤1099511627776) :
  Bi W' lo W'.heap.size (fun i b=>(i=4∧(b=g'∨D 4 b∨D 7 b))∨(i≠4∧i≠7∧D i b)) u0 u1 u2 u3 u4 (.slice (some ⟨g',0,none⟩) (d.mf+1) c') u6 u7 (fun i=>if i=d.mf then o3 else ob i) (fun i=>if i=d.mf then tv else iv i) ov o6 o7 (frameT d k h):=by
 have hsz:=hw.size
 have far:∀ i b (o:Nat),i≠4→D i b→¬ (u5.ownBlock=some b):=fun i b o hi hb e=>hi (H.dis i 4 b hb (H.h5D b (Or.inl e)))
 have key:∀ i,i≠4→D i g'→False:=fun i hi h=>by
  rcases hat with e | h'
  ·exact far i g' 0 hi h e
  ·have:=H.bd _ _ h; omega
 have S:=H.h5.push hw own' hat R3 (fun b hb e=>far 7 b 0 (by decide) (d7 b hb) e) (fun i hi b h1 h2=>by
  have:=H.dis 4 7 b (H.h5D b (Or.inr ⟨i,hi,h1⟩)) (d7 b h2)
  omega) hq
 refine ⟨(H.h0.keep hw (fun b o h _=>far 0 b o (by decide) h)).mono (fun b _ h=>Or.inr ⟨by decide,by decide,h⟩),(H.h1.keep hw (fun b o h _=>far 1 b o (by decide) h)).mono (fun b _ h=>Or.inr ⟨by decide,by decide,h⟩),(H.h2.keep hw (fun b o h _=>far 2 b o (by decide) h)).mono (fun b _ h=>Or.inr ⟨by decide,by decide,h⟩),(H.h3.keep hw (fun b o h _=>far 3 b o (by decide) h)).mono (fun b _ h=>Or.inr ⟨by decide,by decide,h⟩),
  S,fun b hb=>Or.inl ⟨rfl,?_⟩,H.h6.keep hw (fun b hb _ _ o=>far 5 b o (by decide) (H.h6D b hb)),fun b h=>Or.inr ⟨by decide,by decide,H.h6D b h⟩,H.h7.keep hw (fun b hb _ _ o=>far 6 b o (by decide) (H.h7D b hb)),fun b h=>Or.inr ⟨by decide,by decide,H.h7D b h⟩,?_,?_,Nat.le_refl _,hp⟩
 ·rcases hb with hb | ⟨i,hi,hb⟩
  ·exact Or.inl (by simpa [Value.ownBlock] using hb.symm)
  ·replace hi:i<d.mf+1:=hi
   by_cases e:i=d.mf
   ·rw [if_pos e] at hb
    exact Or.inr (Or.inr (d7 b hb))
   ·rw [if_neg e] at hb
    exact Or.inr (Or.inl (H.h5D b (Or.inr ⟨i,by omega,hb⟩)))
 ·intro i j b h1 h2
  have k4:∀ i,i≠4→i≠7→D i b→(b=g'∨D 4 b∨D 7 b)→False:=fun i n m hb h=>by
   rcases h with rfl | h | h
   ·exact key i n hb
   ·exact n (H.dis i 4 b hb h)
   ·exact m (H.dis i 7 b hb h)
  rcases h1 with ⟨rfl,h1⟩ | ⟨n1,m1,h1⟩ <;> rcases h2 with ⟨rfl,h2⟩ | ⟨n2,m2,h2⟩
  ·rfl
  ·exact (k4 j n2 m2 h2 h1).elim
  ·exact (k4 i n1 m1 h1 h2).elim
  ·exact H.dis _ _ _ h1 h2
 ·intro i b h
  rcases h with ⟨rfl,rfl | h | h⟩ | ⟨_,_,h⟩
  ·rcases own'.2 with ⟨e,_⟩ | ⟨g,c,cur,hv,hb,hg,_⟩
   ·cases e
   ·simp only [Value.slice.injEq,Option.some.injEq,Addr.mk.injEq,and_true,true_and] at hv
    obtain ⟨rfl,rfl⟩:=hv;exact ⟨hb,Ac hg⟩
  ·have:=H.bd _ _ h; omega
  ·have:=H.bd _ _ h; omega
  ·have:=H.bd _ _ h; omega
theorem Bi.samp (H:Bi W lo N D u0 u1 u2 u3 u4 u5 u6 u7 ob iv ov o6 o7 d) (hN:N=W.heap.size) {g':Nat} {u':Value} {x:Int} (hw:Wrote (fun b _=>o6=some b) W W') (R6:A5 W' lo (some g') u' (d.ns+1) (snoc d.sm d.ns x)) (hat:o6=some g'∨W.heap.size≤g') :
  Bi W' lo W'.heap.size (fun i b=>(i=5∧b=g')∨(i≠5∧D i b)) u0 u1 u2 u3 u4 u5 u' u7 ob iv ov (some g') o7 (Il d x):=by
 have hz:=hw.size
 have far:∀ i b (o:Nat),i≠5→D i b→¬ (o6=some b):=fun i b o hi hb e=>hi (H.dis i 5 b hb (H.h6D b e))
 have key:∀ i,i≠5→D i g'→False:=fun i hi h=>by
  rcases hat with e | h'
  ·exact far i g' 0 hi h e
  ·have:=H.bd _ _ h; omega
 refine ⟨(H.h0.keep hw (fun b o h _=>far 0 b o (by decide) h)).mono (fun b _ h=>Or.inr ⟨by decide,h⟩),(H.h1.keep hw (fun b o h _=>far 1 b o (by decide) h)).mono (fun b _ h=>Or.inr ⟨by decide,h⟩),(H.h2.keep hw (fun b o h _=>far 2 b o (by decide) h)).mono (fun b _ h=>Or.inr ⟨by decide,h⟩),(H.h3.keep hw (fun b o h _=>far 3 b o (by decide) h)).mono (fun b _ h=>Or.inr ⟨by decide,h⟩),
  H.h5.keep hw (fun g o hg=>far 4 g o (by decide) (H.h5D g (Or.inl hg))) (fun i b o hi hb=>far 4 b o (by decide) (H.h5D b (Or.inr ⟨i,hi,hb⟩))),fun b h=>Or.inr ⟨by decide,H.h5D b h⟩,R6,fun b h=>Or.inl ⟨rfl,(Option.some.inj h).symm⟩,H.h7.keep hw (fun b hb _ _ o=>far 6 b o (by decide) (H.h7D b hb)),fun b h=>Or.inr ⟨by decide,H.h7D b h⟩,?_,?_,Nat.le_refl _,H.hps⟩
 ·intro i j b h1 h2
  rcases h1 with ⟨rfl,rfl⟩ | ⟨n1,h1⟩ <;> rcases h2 with ⟨rfl,e2⟩ | ⟨n2,h2⟩
  ·rfl
  ·exact (key _ n2 h2).elim
  ·subst e2; exact (key _ n1 h1).elim
  ·exact H.dis _ _ _ h1 h2
 ·intro i b h
  rcases h with ⟨rfl,rfl⟩ | ⟨_,h⟩
  ·exact R6.lt
  ·have:=H.bd _ _ h; omega
end
theorem Jcq (w:World) (lo z:Nat) (d:Aq) (u4 u5 u6 u7:Value) (H:Dg w lo z d u4 u5 u6 u7) (hlo:lo≤z) (hok:Hj d) (ht:d.t≠20000):Calls Tryz.prog 108 #[(pt z 0)] w fun e w'=>e=.returned (.tuple #[])∧Ei w w' lo z u4 u5 u6 u7 (B8 d):=by
 obtain ⟨D,u0,u1,u2,u3,ob,iv,ov,o6,o7,HQ,hz,B0⟩:=H.ex;clear H;obtain ⟨v3,v4,o1,o2,e34,R1,R2,h12,d3⟩:=HQ.h3.ex;simp only [Value.agg.injEq,Array.mk.injEq,List.cons.injEq,and_true,true_and] at e34;obtain ⟨rfl,rfl⟩:=e34;have hzl:=Ac B0
 have hlw:lo≤w.heap.size:=by omega
 have HT:=Ad (Zx w lo z (fun i=>match i with | 0=>u0 | 1=>u1 | 2=>u2 | 3=>.i d.bank | 4=>.i d.A | 5=>.i d.X | 6=>.i d.S | 7=>.i d.Pc | 8=>.bool d.Z | 9=>.bool d.N | 10=>.bool d.C | 11=>.bool d.I | 20=>.i d.T | 21=>.i d.P | 22=>.i d.K | 23=>.i d.B | 24=>.i d.L | 25=>.bool d.Q | 26=>.bool d.R | 27=>.bool d.hd | 28=>.i d.sh | 29=>.bool d.nmi | 30=>.i d.st | 31=>u5 | 32=>u6 | 33=>u7 | _=>undef) o1 o2 u3 u4 d.t d.c d.s d.ad d.pl d.bl d.nt d.tb d.nd d.dt B0 R1 R2 h12 (fun q h=>hz 3 q (d3 q h)) hlw (Q6 hok.ppu) ht)
 obtain ⟨an,han⟩:∃ x,Hid (x=Py d.t d.c):=⟨_,rfl⟩
 rw [← han.out] at HT;have HR2:=Ad R2
 have T13:Dx d.T=decide (d.t%16=15):=by unfold Dx; rw [hok.same]
 have HA:=Ad (fun W h=>X8 W z h d.T d.P d.K d.B d.L d.Q d.R)
 by_cases h48:d.t%64=48
 ·have HV:Hid (Ki d.t d.nd=48):=by show _=_; unfold Ki; rw [if_neg ht,if_pos h48]; exact hok.nd48 h48
  go_enter Tryz.func108,Tryz.ntmps108
  go_wp2_with fail;refine HT.out.mono ?_;rintro e W1 ⟨tv,rfl,TB⟩;clear HT B0 R1 R2;obtain ⟨o2',w4,o3,b1,r1,r2,r3,t12,t13,t23,hz1,hw1,hn1,hs1⟩:=TB.ex;clear TB;replace b1:W1.heap[z]?=some (.cells (kR { d with t:=(Ga d.t),bl:=(Ho d.t d.bl) } u0 u1 u2 u3 w4 u5 u6 u7) 49 (0,0)):=b1;rw [HV.out] at r3;obtain ⟨ta,tx,rfl⟩:=r3.form
  have G1:Goes w W1 z u4 u5 u6 u7 w4 u5 u6 u7:=⟨hw1.mono (fun b o _ e=>by rcases e with e | e; exact Or.inl e; exact Or.inr (Or.inl e)),fun b o hb h=>by
   rcases h with h | h | h
   ·exact Or.inl h
   ·exact Or.inr (Or.inl (hs1 b o hb h))
   ·exact Or.inr (Or.inr h)⟩
  have H1:=HQ.ticked rfl hlw r1 (fun b h=>d3 b (Or.inl h)) (fun b h=>d3 b (Or.inr h)) r2 r3 t12 t13 t23 hw1 (fun b o hb h=>by
   rcases h with h | h
   ·left
    intro i hi;exact hz i b hi h
   ·exact Or.inr (Dj HR2.out h)) hn1
  have hz1':∀ i b,((i=3∧(o1=some b∨o2'=some b))∨(i=7∧o3=some b)∨(i≠3∧i≠7∧D i b))→b≠z:=fun i b h=>by
   rcases h with ⟨-,h | h⟩ | ⟨-,h⟩ | ⟨-,-,h⟩
   ·exact hz1 b (Or.inl h)
   ·exact hz1 b (Or.inr (Or.inl h))
   ·exact hz1 b (Or.inr (Or.inr h))
   ·exact hz i b h
  have LA:Below W1.heap.size W1 (W1.alloc (.cells #[.slice ta 48 tx] 25)):=(Below.refl _ _).alloc (Nat.le_refl _) _;have hE:=Ag (Al W1 #[.slice ta 48 tx] 25) 0;have c0':=Ag (Aa b1 LA (Ac b1));have c0s:=Ag b1;have HQA:=Ad ((H1.below LA).upTo LA.size (Nat.le_refl _));have GA:=Ad (G1.trans (Goes.below LA z _ _ _ _));have BA:=Ad (Aa b1 LA (Ac b1));have R3A:=Ad (r3.below LA);clear H1 LA b1 G1 r1 r2 r3 hw1 HQ;go_wp2_with (at_builtin; refine N4 _ rfl _ _ rfl lo u5 d.mf _ rfl HQA.out.h5.own hok.mfs (Nat.le_trans hlw GA.out.wr.size) W1.heap.size (.slice ta 48 tx) rfl rfl hE ?_);intro g9 c9 W9 own9 hWw hat9;clear c0' c0s hE
  replace hat9:u5.ownBlock=some g9∨(W1.alloc (.cells #[.slice ta 48 tx] 25)).heap.size≤g9:=by simpa using hat9
  have hW:=hWw.mono (S:=fun b _=>u5.ownBlock=some b) (fun b o _ ⟨n,c,e,_⟩=>by rw [e]; rfl)
  have hp5:psum (Ej (E7 d).lf (E7 d).mf 48) ((E7 d).mf+1)≤1099511627776:=Mm (by have:=hok.mfs; show d.mf+1≤1048576; omega) (fun i hi=>by
   show (if i=d.mf then 48 else d.lf i)≤1048576
   split
   ·omega
   ·rw [hok.lf i (by replace hi:i<d.mf+1:=hi; omega)]; omega)
  have H9:=Ad (HQA.out.frame rfl hW own9 hat9 R3A.out (fun b hb=>Or.inr (Or.inl ⟨rfl,hb⟩)) hok.mfs hp5);have kz:=Ah BA.out hW (fun o e=>hz1' 4 z (HQA.out.h5D z (Or.inl e)) rfl)
  have hg9:g9≠z:=fun e=>by
   subst e
   rcases hat9 with e | h
   ·exact hz1' 4 g9 (HQA.out.h5D g9 (Or.inl e)) rfl
   ·have:=Ac BA.out; omega
  have G9:=Ad (GA.out.trans (Goes.push5 (n:=d.mf) (c':=c9) hWw HQA.out.h5.own hat9 z w4 u6 u7))
  have hzD:∀ i b,((i=4∧(b=g9∨((4=3∧(o1=some b∨o2'=some b))∨(4=7∧o3=some b)∨(4≠3∧4≠7∧D 4 b))∨((7=3∧(o1=some b∨o2'=some b))∨(7=7∧o3=some b)∨(7≠3∧7≠7∧D 7 b))))∨(i≠4∧i≠7∧((i=3∧(o1=some b∨o2'=some b))∨(i=7∧o3=some b)∨(i≠3∧i≠7∧D i b))))→b≠z:=fun i b h=>by
   rcases h with ⟨-,h | h | h⟩ | ⟨-,-,h⟩
   ·rw [h]; exact hg9
   ·exact hz1' 4 b h
   ·exact hz1' 7 b h
   ·exact hz1' i b h
  obtain ⟨DD,HD,hzD'⟩:∃ DD,Hid (Bi W9 lo W9.heap.size DD u0 u1 u2 u3 w4 (.slice (some ⟨g9,0,none⟩) (d.mf+1) c9) u6 u7 (fun i=>if i=d.mf then o3 else ob i) (fun i=>if i=d.mf then .slice ta 48 tx else iv i) ov o6 o7 (frameT (E7 d) 48 d.dt))∧∀ i b,DD i b→b≠z:=⟨_,H9,hzD⟩
  clear hWw hW own9 hat9 HQA GA BA R3A hp5 H9 hzD hz1' hz1 hn1 hs1 hz;have e1:Dx d.T=false:=T13.trans (decide_eq_false (by omega))
  obtain ⟨nm,hnm⟩:∃ x,Hid (x=d.nmi):=⟨_,rfl⟩
  rw [← hnm.out] at kz;have HTo:=Ad e1;rw [e1] at HA;clear e1;cases nm
  ·have d9:=Ag kz
   have f9:=As kz;have k2:=Af (o:=29) (Af (o:=31) (kz) (.slice (some ⟨g9,0,none⟩) (d.mf+1) c9)) (.bool an);simp only [List.setIfInBounds_toArray,List.set_cons_succ,List.set_cons_zero] at k2;have T2:=Wrote.setCell (b:=z) (o:=29) (R:=fun b _=>b=z) (Wrote.setCell (b:=z) (o:=31) (R:=fun b _=>b=z) (Wrote.refl (fun b _=>b=z) W9) (fun _=>rfl) (.slice (some ⟨g9,0,none⟩) (d.mf+1) c9)) (fun _=>rfl) (.bool an);go_wp2_with fail;clear d9 f9 kz
   refine (HA.out _ (fun i=>match i with | 0=>u0 | 1=>u1 | 2=>u2 | 3=>.i d.bank | 4=>.i d.A | 5=>.i d.X | 6=>.i d.S | 7=>.i d.Pc | 8=>.bool d.Z | 9=>.bool d.N | 10=>.bool d.C | 11=>.bool d.I | 12=>.i (Ga d.t) | 13=>.i d.c | 14=>.i d.s | 15=>.i d.ad | 16=>.i d.pl | 17=>.bool (Ho d.t d.bl) | 18=>u3 | 19=>w4 | 27=>.bool d.hd | 28=>.i d.sh | 29=>.bool an | 30=>.i d.st | 31=>.slice (some ⟨g9,0,none⟩) (d.mf+1) c9 | 32=>u6 | 33=>u7 | _=>undef) k2 hok.apu (by rw [← hok.same]; exact ht)).mono ?_;rintro e W5 ⟨rfl,k5,L5⟩;replace k5:W5.heap[z]?=some (.cells (kR { d with t:=(Ga d.t),bl:=(Ho d.t d.bl),T:=(d.T+1),K:=(Ft d.P d.K),B:=(Fa d.K d.B d.L),L:=(Fu d.T d.L),R:=(Gq d.T d.L d.Q d.R),nmi:=an } u0 u1 u2 u3 w4 (.slice (some ⟨g9,0,none⟩) (d.mf+1) c9) u6 u7) 49 (0,0)):=k5;have T5:=T2.trans L5
   have H5:=Ad ((HD.out.keepD T5 (fun i b o h (e:b=z)=>hzD' i b h e)).upTo T5.size (Nat.le_refl _));have G5:=Ad (G9.out.trans (Goes.box T5 _ _ _ _));clear HD G9 k2 T2 L5 T5 HA
   have HE:Hid (B8 d={ frameT (E7 d) 48 d.dt with T:=d.T+1,K:=Ft d.P d.K,B:=Fa d.K d.B d.L,L:=Fu d.T d.L,R:=Gq d.T d.L d.Q d.R,nmi:=an }):=by
    show _=_
    rw [← hok.nd48 h48];simp only [B8,Il,frameT,E7,h48,HTo.out,← hnm.out,← han.out,Bool.true_or,Bool.false_or,if_true,Bool.false_eq_true,if_false]
   have KF:=Ad k5;have d5:=Ag k5;clear k5;go_wp2
   ((try simp only [Exit.inBlock,Exit.then]); first | (refine bodyPost_ret (results_none rfl _ _ _) rfl ?_) | (refine bodyPost_end (results_none rfl _ _ _) rfl ?_))
   rw [HE.out]
   have HL:Bi W5 lo W5.heap.size DD _ _ _ _ _ _ _ _ _ _ _ _ _ { frameT (E7 d) 48 d.dt with T:=d.T+1,K:=Ft d.P d.K,B:=Fa d.K d.B d.L,L:=Fu d.T d.L,R:=Gq d.T d.L d.Q d.R,nmi:=an }:=⟨H5.out.h0,H5.out.h1,H5.out.h2,H5.out.h3,H5.out.h5,H5.out.h5D,H5.out.h6,H5.out.h6D,H5.out.h7,H5.out.h7D,H5.out.dis,H5.out.bd,H5.out.nN,H5.out.hps⟩
   exact ⟨rfl,⟨_,_,_,_,⟨_,_,_,_,_,_,_,_,_,_,HL,hzD',KF.out⟩,G5.out⟩⟩
  ·have d9:=Ag kz
   have f9:=As kz;have k2:=Af (o:=29) (Af (o:=31) (kz) (.slice (some ⟨g9,0,none⟩) (d.mf+1) c9)) (.bool true);simp only [List.setIfInBounds_toArray,List.set_cons_succ,List.set_cons_zero] at k2;have T2:=Wrote.setCell (b:=z) (o:=29) (R:=fun b _=>b=z) (Wrote.setCell (b:=z) (o:=31) (R:=fun b _=>b=z) (Wrote.refl (fun b _=>b=z) W9) (fun _=>rfl) (.slice (some ⟨g9,0,none⟩) (d.mf+1) c9)) (fun _=>rfl) (.bool true);go_wp2_with fail;clear d9 f9 kz
   refine (HA.out _ (fun i=>match i with | 0=>u0 | 1=>u1 | 2=>u2 | 3=>.i d.bank | 4=>.i d.A | 5=>.i d.X | 6=>.i d.S | 7=>.i d.Pc | 8=>.bool d.Z | 9=>.bool d.N | 10=>.bool d.C | 11=>.bool d.I | 12=>.i (Ga d.t) | 13=>.i d.c | 14=>.i d.s | 15=>.i d.ad | 16=>.i d.pl | 17=>.bool (Ho d.t d.bl) | 18=>u3 | 19=>w4 | 27=>.bool d.hd | 28=>.i d.sh | 29=>.bool true | 30=>.i d.st | 31=>.slice (some ⟨g9,0,none⟩) (d.mf+1) c9 | 32=>u6 | 33=>u7 | _=>undef) k2 hok.apu (by rw [← hok.same]; exact ht)).mono ?_;rintro e W5 ⟨rfl,k5,L5⟩;replace k5:W5.heap[z]?=some (.cells (kR { d with t:=(Ga d.t),bl:=(Ho d.t d.bl),T:=(d.T+1),K:=(Ft d.P d.K),B:=(Fa d.K d.B d.L),L:=(Fu d.T d.L),R:=(Gq d.T d.L d.Q d.R),nmi:=true } u0 u1 u2 u3 w4 (.slice (some ⟨g9,0,none⟩) (d.mf+1) c9) u6 u7) 49 (0,0)):=k5;have T5:=T2.trans L5
   have H5:=Ad ((HD.out.keepD T5 (fun i b o h (e:b=z)=>hzD' i b h e)).upTo T5.size (Nat.le_refl _));have G5:=Ad (G9.out.trans (Goes.box T5 _ _ _ _));clear HD G9 k2 T2 L5 T5 HA
   have HE:Hid (B8 d={ frameT (E7 d) 48 d.dt with T:=d.T+1,K:=Ft d.P d.K,B:=Fa d.K d.B d.L,L:=Fu d.T d.L,R:=Gq d.T d.L d.Q d.R,nmi:=true }):=by
    show _=_
    rw [← hok.nd48 h48];simp only [B8,Il,frameT,E7,h48,HTo.out,← hnm.out,← han.out,Bool.true_or,Bool.false_or,if_true,Bool.false_eq_true,if_false]
   have KF:=Ad k5;have d5:=Ag k5;clear k5;go_wp2
   ((try simp only [Exit.inBlock,Exit.then]); first | (refine bodyPost_ret (results_none rfl _ _ _) rfl ?_) | (refine bodyPost_end (results_none rfl _ _ _) rfl ?_))
   rw [HE.out]
   have HL:Bi W5 lo W5.heap.size DD _ _ _ _ _ _ _ _ _ _ _ _ _ { frameT (E7 d) 48 d.dt with T:=d.T+1,K:=Ft d.P d.K,B:=Fa d.K d.B d.L,L:=Fu d.T d.L,R:=Gq d.T d.L d.Q d.R,nmi:=true }:=⟨H5.out.h0,H5.out.h1,H5.out.h2,H5.out.h3,H5.out.h5,H5.out.h5D,H5.out.h6,H5.out.h6D,H5.out.h7,H5.out.h7D,H5.out.dis,H5.out.bd,H5.out.nN,H5.out.hps⟩
   exact ⟨rfl,⟨_,_,_,_,⟨_,_,_,_,_,_,_,_,_,_,HL,hzD',KF.out⟩,G5.out⟩⟩
 ·have HV:Hid (Ki d.t d.nd=0):=by show _=_; unfold Ki; rw [if_neg ht,if_neg h48]
  go_enter Tryz.func108,Tryz.ntmps108
  go_wp2_with fail;refine HT.out.mono ?_;rintro e W1 ⟨tv,rfl,TB⟩;clear HT B0 R1 R2;obtain ⟨o2',w4,o3,b1,r1,r2,r3,t12,t13,t23,hz1,hw1,hn1,hs1⟩:=TB.ex;clear TB;replace b1:W1.heap[z]?=some (.cells (kR { d with t:=(Ga d.t),bl:=(Ho d.t d.bl) } u0 u1 u2 u3 w4 u5 u6 u7) 49 (0,0)):=b1;rw [HV.out] at r3;obtain ⟨ta,tx,rfl⟩:=r3.form
  have G9:=Ad (show Goes w W1 z u4 u5 u6 u7 w4 u5 u6 u7 from ⟨hw1.mono (fun b o _ e=>by rcases e with e | e; exact Or.inl e; exact Or.inr (Or.inl e)),fun b o hb h=>by
   rcases h with h | h | h
   ·exact Or.inl h
   ·exact Or.inr (Or.inl (hs1 b o hb h))
   ·exact Or.inr (Or.inr h)⟩)
  have H1:=HQ.ticked rfl hlw r1 (fun b h=>d3 b (Or.inl h)) (fun b h=>d3 b (Or.inr h)) r2 r3 t12 t13 t23 hw1 (fun b o hb h=>by
   rcases h with h | h
   ·left
    intro i hi;exact hz i b hi h
   ·exact Or.inr (Dj HR2.out h)) hn1
  obtain ⟨DD,HD,hzD'⟩:∃ DD,Hid (Bi W1 lo W1.heap.size DD u0 u1 u2 u3 w4 u5 u6 u7 ob iv ov o6 o7 (E7 d))∧∀ i b,DD i b→b≠z:=⟨_,Ad H1,fun i b h=>by
   rcases h with ⟨-,h | h⟩ | ⟨-,h⟩ | ⟨-,-,h⟩
   ·exact hz1 b (Or.inl h)
   ·exact hz1 b (Or.inr (Or.inl h))
   ·exact hz1 b (Or.inr (Or.inr h))
   ·exact hz i b h⟩
  have kz:=b1;clear H1 r1 r2 r3 hw1 HQ hz1 hn1 hs1 hz b1
  by_cases h16:d.t%16=15
  ·have e1:Dx d.T=true:=T13.trans (decide_eq_true h16)
   obtain ⟨nm,hnm⟩:∃ x,Hid (x=d.nmi):=⟨_,rfl⟩
   rw [← hnm.out] at kz;have HTo:=Ad e1;rw [e1] at HA;clear e1;cases nm
   ·have d9:=Ag kz
    have f9:=As kz;have k2:=Af (o:=29) (kz) (.bool an);simp only [List.setIfInBounds_toArray,List.set_cons_succ,List.set_cons_zero] at k2;have T2:=Wrote.setCell (b:=z) (o:=29) (R:=fun b _=>b=z) (Wrote.refl (fun b _=>b=z) W1) (fun _=>rfl) (.bool an);go_wp2_with fail;clear d9 f9 kz;refine (HA.out _ (fun i=>match i with | 0=>u0 | 1=>u1 | 2=>u2 | 3=>.i d.bank | 4=>.i d.A | 5=>.i d.X | 6=>.i d.S | 7=>.i d.Pc | 8=>.bool d.Z | 9=>.bool d.N | 10=>.bool d.C | 11=>.bool d.I | 12=>.i (Ga d.t) | 13=>.i d.c | 14=>.i d.s | 15=>.i d.ad | 16=>.i d.pl | 17=>.bool (Ho d.t d.bl) | 18=>u3 | 19=>w4 | 27=>.bool d.hd | 28=>.i d.sh | 29=>.bool an | 30=>.i d.st | 31=>u5 | 32=>u6 | 33=>u7 | _=>undef) k2 hok.apu (by rw [← hok.same]; exact ht)).mono ?_;rintro e W5 ⟨rfl,k5,L5⟩
    replace k5:W5.heap[z]?=some (.cells (kR { d with t:=(Ga d.t),bl:=(Ho d.t d.bl),T:=(d.T+1),K:=(Ft d.P d.K),B:=(Fa d.K d.B d.L),L:=(Fu d.T d.L),R:=(Gq d.T d.L d.Q d.R),nmi:=an } u0 u1 u2 u3 w4 u5 u6 u7) 49 (0,0)):=k5;have T5:=T2.trans L5;have H5:=Ad ((HD.out.keepD T5 (fun i b o h (e:b=z)=>hzD' i b h e)).upTo T5.size (Nat.le_refl _));have G5:=Ad (G9.out.trans (Goes.box T5 _ _ _ _));clear HD G9 k2 T2 L5 T5 HA
    have HE:Hid (B8 d={ Il (E7 d) (Kq d.T d.K d.B d.L) with T:=d.T+1,K:=Ft d.P d.K,B:=Fa d.K d.B d.L,L:=Fu d.T d.L,R:=Gq d.T d.L d.Q d.R,nmi:=an }):=by
     show _=_
     simp only [B8,Il,frameT,E7,h48,HTo.out,← hnm.out,← han.out,Bool.true_or,Bool.false_or,if_true,Bool.false_eq_true,if_false]
    have LA:Below W5.heap.size W5 (W5.alloc (.cells #[.i (Kq d.T d.K d.B d.L)] 3)):=(Below.refl _ _).alloc (Nat.le_refl _) _;have hE:=Ag (Al W5 #[.i (Kq d.T d.K d.B d.L)] 3) 0;have c0':=Ag (Aa k5 LA (Ac k5));have c0s:=Ag k5;have HQA:=Ad ((H5.out.below LA).upTo LA.size (Nat.le_refl _));have GA:=Ad (G5.out.trans (Goes.below LA z _ _ _ _));have BA:=Ad (Aa k5 LA (Ac k5));obtain ⟨x6,y6,e6⟩:=HQA.out.h6.form;subst e6;clear H5 LA k5 G5;go_wp2_with (at_builtin; refine Eh _ rfl _ _ rfl lo o6 (.slice x6 d.ns y6) d.ns d.sm rfl HQA.out.h6 hok.nss (Nat.le_trans hlw GA.out.wr.size) W5.heap.size (Kq d.T d.K d.B d.L) rfl hE ?_);intro g7 c7 W7 R7 hWw hat7;clear c0' c0s hE
    replace hat7:o6=some g7∨(W5.alloc (.cells #[.i (Kq d.T d.K d.B d.L)] 3)).heap.size≤g7:=by simpa using hat7
    have hW:=hWw.mono (S:=fun b _=>o6=some b) (fun b o _ e=>Dj HQA.out.h6 e);have H7:=HQA.out.samp rfl hW R7 hat7;have k7:=Ah BA.out hW (fun o e=>hzD' 5 z (HQA.out.h6D z e) rfl)
    have hg7:g7≠z:=fun e=>by
     subst e
     rcases hat7 with e | h
     ·exact hzD' 5 g7 (HQA.out.h6D g7 e) rfl
     ·have:=Ac BA.out; simp at this h; omega
    have G7:=GA.out.trans (Goes.push6 (n:=d.ns) (f:=d.sm) (c':=c7) hWw HQA.out.h6 hat7 z w4 u5 u7);have TZ:=Wrote.setCell (b:=z) (o:=32) (R:=fun b _=>b=z) (Wrote.refl _ W7) (fun _=>rfl) (.slice (some ⟨g7,0,none⟩) (d.ns+1) c7)
    have hz7:∀ i b,(i=5∧b=g7)∨(i≠5∧DD i b)→b≠z:=fun i b h e=>by
     rcases h with ⟨-,rfl⟩ | ⟨-,h⟩
     ·exact hg7 e
     ·exact hzD' i b h e
    have HF:=Ad ((H7.keepD TZ (fun i b o h (e:b=z)=>hz7 i b h e)).upTo TZ.size (Nat.le_refl _));have GF:=Ad (G7.trans (Goes.box TZ _ _ _ _));have KF:=Af (o:=32) k7 (.slice (some ⟨g7,0,none⟩) (d.ns+1) c7);simp only [List.setIfInBounds_toArray,List.set_cons_succ,List.set_cons_zero] at KF;have KFF:=Ad KF;have d7:=Ag k7;have f7:=As k7;clear HQA GA BA hW hWw R7 hat7 H7 G7 TZ KF k7;go_wp2
    ((try simp only [Exit.inBlock,Exit.then]); first | (refine bodyPost_ret (results_none rfl _ _ _) rfl ?_) | (refine bodyPost_end (results_none rfl _ _ _) rfl ?_))
    rw [HE.out]
    have HL:Bi _ lo _ _ _ _ _ _ _ _ _ _ _ _ _ _ _ { Il (E7 d) (Kq d.T d.K d.B d.L) with T:=d.T+1,K:=Ft d.P d.K,B:=Fa d.K d.B d.L,L:=Fu d.T d.L,R:=Gq d.T d.L d.Q d.R,nmi:=an }:=⟨HF.out.h0,HF.out.h1,HF.out.h2,HF.out.h3,HF.out.h5,HF.out.h5D,HF.out.h6,HF.out.h6D,HF.out.h7,HF.out.h7D,HF.out.dis,HF.out.bd,HF.out.nN,HF.out.hps⟩
    exact ⟨rfl,⟨_,_,_,_,⟨_,_,_,_,_,_,_,_,_,_,HL,hz7,KFF.out⟩,GF.out⟩⟩
   ·have d9:=Ag kz
    have f9:=As kz;have k2:=Af (o:=29) (kz) (.bool true);simp only [List.setIfInBounds_toArray,List.set_cons_succ,List.set_cons_zero] at k2;have T2:=Wrote.setCell (b:=z) (o:=29) (R:=fun b _=>b=z) (Wrote.refl (fun b _=>b=z) W1) (fun _=>rfl) (.bool true);go_wp2_with fail;clear d9 f9 kz;refine (HA.out _ (fun i=>match i with | 0=>u0 | 1=>u1 | 2=>u2 | 3=>.i d.bank | 4=>.i d.A | 5=>.i d.X | 6=>.i d.S | 7=>.i d.Pc | 8=>.bool d.Z | 9=>.bool d.N | 10=>.bool d.C | 11=>.bool d.I | 12=>.i (Ga d.t) | 13=>.i d.c | 14=>.i d.s | 15=>.i d.ad | 16=>.i d.pl | 17=>.bool (Ho d.t d.bl) | 18=>u3 | 19=>w4 | 27=>.bool d.hd | 28=>.i d.sh | 29=>.bool true | 30=>.i d.st | 31=>u5 | 32=>u6 | 33=>u7 | _=>undef) k2 hok.apu (by rw [← hok.same]; exact ht)).mono ?_;rintro e W5 ⟨rfl,k5,L5⟩
    replace k5:W5.heap[z]?=some (.cells (kR { d with t:=(Ga d.t),bl:=(Ho d.t d.bl),T:=(d.T+1),K:=(Ft d.P d.K),B:=(Fa d.K d.B d.L),L:=(Fu d.T d.L),R:=(Gq d.T d.L d.Q d.R),nmi:=true } u0 u1 u2 u3 w4 u5 u6 u7) 49 (0,0)):=k5;have T5:=T2.trans L5;have H5:=Ad ((HD.out.keepD T5 (fun i b o h (e:b=z)=>hzD' i b h e)).upTo T5.size (Nat.le_refl _));have G5:=Ad (G9.out.trans (Goes.box T5 _ _ _ _));clear HD G9 k2 T2 L5 T5 HA
    have HE:Hid (B8 d={ Il (E7 d) (Kq d.T d.K d.B d.L) with T:=d.T+1,K:=Ft d.P d.K,B:=Fa d.K d.B d.L,L:=Fu d.T d.L,R:=Gq d.T d.L d.Q d.R,nmi:=true }):=by
     show _=_
     simp only [B8,Il,frameT,E7,h48,HTo.out,← hnm.out,← han.out,Bool.true_or,Bool.false_or,if_true,Bool.false_eq_true,if_false]
    have LA:Below W5.heap.size W5 (W5.alloc (.cells #[.i (Kq d.T d.K d.B d.L)] 3)):=(Below.refl _ _).alloc (Nat.le_refl _) _;have hE:=Ag (Al W5 #[.i (Kq d.T d.K d.B d.L)] 3) 0;have c0':=Ag (Aa k5 LA (Ac k5));have c0s:=Ag k5;have HQA:=Ad ((H5.out.below LA).upTo LA.size (Nat.le_refl _));have GA:=Ad (G5.out.trans (Goes.below LA z _ _ _ _));have BA:=Ad (Aa k5 LA (Ac k5));obtain ⟨x6,y6,e6⟩:=HQA.out.h6.form;subst e6;clear H5 LA k5 G5;go_wp2_with (at_builtin; refine Eh _ rfl _ _ rfl lo o6 (.slice x6 d.ns y6) d.ns d.sm rfl HQA.out.h6 hok.nss (Nat.le_trans hlw GA.out.wr.size) W5.heap.size (Kq d.T d.K d.B d.L) rfl hE ?_);intro g7 c7 W7 R7 hWw hat7;clear c0' c0s hE
    replace hat7:o6=some g7∨(W5.alloc (.cells #[.i (Kq d.T d.K d.B d.L)] 3)).heap.size≤g7:=by simpa using hat7
    have hW:=hWw.mono (S:=fun b _=>o6=some b) (fun b o _ e=>Dj HQA.out.h6 e);have H7:=HQA.out.samp rfl hW R7 hat7;have k7:=Ah BA.out hW (fun o e=>hzD' 5 z (HQA.out.h6D z e) rfl)
    have hg7:g7≠z:=fun e=>by
     subst e
     rcases hat7 with e | h
     ·exact hzD' 5 g7 (HQA.out.h6D g7 e) rfl
     ·have:=Ac BA.out; simp at this h; omega
    have G7:=GA.out.trans (Goes.push6 (n:=d.ns) (f:=d.sm) (c':=c7) hWw HQA.out.h6 hat7 z w4 u5 u7);have TZ:=Wrote.setCell (b:=z) (o:=32) (R:=fun b _=>b=z) (Wrote.refl _ W7) (fun _=>rfl) (.slice (some ⟨g7,0,none⟩) (d.ns+1) c7)
    have hz7:∀ i b,(i=5∧b=g7)∨(i≠5∧DD i b)→b≠z:=fun i b h e=>by
     rcases h with ⟨-,rfl⟩ | ⟨-,h⟩
     ·exact hg7 e
     ·exact hzD' i b h e
    have HF:=Ad ((H7.keepD TZ (fun i b o h (e:b=z)=>hz7 i b h e)).upTo TZ.size (Nat.le_refl _));have GF:=Ad (G7.trans (Goes.box TZ _ _ _ _));have KF:=Af (o:=32) k7 (.slice (some ⟨g7,0,none⟩) (d.ns+1) c7);simp only [List.setIfInBounds_toArray,List.set_cons_succ,List.set_cons_zero] at KF;have KFF:=Ad KF;have d7:=Ag k7;have f7:=As k7;clear HQA GA BA hW hWw R7 hat7 H7 G7 TZ KF k7;go_wp2
    ((try simp only [Exit.inBlock,Exit.then]); first | (refine bodyPost_ret (results_none rfl _ _ _) rfl ?_) | (refine bodyPost_end (results_none rfl _ _ _) rfl ?_))
    rw [HE.out]
    have HL:Bi _ lo _ _ _ _ _ _ _ _ _ _ _ _ _ _ _ { Il (E7 d) (Kq d.T d.K d.B d.L) with T:=d.T+1,K:=Ft d.P d.K,B:=Fa d.K d.B d.L,L:=Fu d.T d.L,R:=Gq d.T d.L d.Q d.R,nmi:=true }:=⟨HF.out.h0,HF.out.h1,HF.out.h2,HF.out.h3,HF.out.h5,HF.out.h5D,HF.out.h6,HF.out.h6D,HF.out.h7,HF.out.h7D,HF.out.dis,HF.out.bd,HF.out.nN,HF.out.hps⟩
    exact ⟨rfl,⟨_,_,_,_,⟨_,_,_,_,_,_,_,_,_,_,HL,hz7,KFF.out⟩,GF.out⟩⟩
  ·have e1:Dx d.T=false:=T13.trans (decide_eq_false h16)
   obtain ⟨nm,hnm⟩:∃ x,Hid (x=d.nmi):=⟨_,rfl⟩
   rw [← hnm.out] at kz;have HTo:=Ad e1;rw [e1] at HA;clear e1;cases nm
   ·have d9:=Ag kz
    have f9:=As kz;have k2:=Af (o:=29) (kz) (.bool an);simp only [List.setIfInBounds_toArray,List.set_cons_succ,List.set_cons_zero] at k2;have T2:=Wrote.setCell (b:=z) (o:=29) (R:=fun b _=>b=z) (Wrote.refl (fun b _=>b=z) W1) (fun _=>rfl) (.bool an);go_wp2_with fail;clear d9 f9 kz;refine (HA.out _ (fun i=>match i with | 0=>u0 | 1=>u1 | 2=>u2 | 3=>.i d.bank | 4=>.i d.A | 5=>.i d.X | 6=>.i d.S | 7=>.i d.Pc | 8=>.bool d.Z | 9=>.bool d.N | 10=>.bool d.C | 11=>.bool d.I | 12=>.i (Ga d.t) | 13=>.i d.c | 14=>.i d.s | 15=>.i d.ad | 16=>.i d.pl | 17=>.bool (Ho d.t d.bl) | 18=>u3 | 19=>w4 | 27=>.bool d.hd | 28=>.i d.sh | 29=>.bool an | 30=>.i d.st | 31=>u5 | 32=>u6 | 33=>u7 | _=>undef) k2 hok.apu (by rw [← hok.same]; exact ht)).mono ?_;rintro e W5 ⟨rfl,k5,L5⟩
    replace k5:W5.heap[z]?=some (.cells (kR { d with t:=(Ga d.t),bl:=(Ho d.t d.bl),T:=(d.T+1),K:=(Ft d.P d.K),B:=(Fa d.K d.B d.L),L:=(Fu d.T d.L),R:=(Gq d.T d.L d.Q d.R),nmi:=an } u0 u1 u2 u3 w4 u5 u6 u7) 49 (0,0)):=k5;have T5:=T2.trans L5;have H5:=Ad ((HD.out.keepD T5 (fun i b o h (e:b=z)=>hzD' i b h e)).upTo T5.size (Nat.le_refl _));have G5:=Ad (G9.out.trans (Goes.box T5 _ _ _ _));clear HD G9 k2 T2 L5 T5 HA
    have HE:Hid (B8 d={ E7 d with T:=d.T+1,K:=Ft d.P d.K,B:=Fa d.K d.B d.L,L:=Fu d.T d.L,R:=Gq d.T d.L d.Q d.R,nmi:=an }):=by
     show _=_
     simp only [B8,Il,frameT,E7,h48,HTo.out,← hnm.out,← han.out,Bool.true_or,Bool.false_or,if_true,Bool.false_eq_true,if_false]
    have KF:=Ad k5;have d5:=Ag k5;clear k5;go_wp2
    ((try simp only [Exit.inBlock,Exit.then]); first | (refine bodyPost_ret (results_none rfl _ _ _) rfl ?_) | (refine bodyPost_end (results_none rfl _ _ _) rfl ?_))
    rw [HE.out]
    have HL:Bi W5 lo W5.heap.size DD _ _ _ _ _ _ _ _ _ _ _ _ _ { E7 d with T:=d.T+1,K:=Ft d.P d.K,B:=Fa d.K d.B d.L,L:=Fu d.T d.L,R:=Gq d.T d.L d.Q d.R,nmi:=an }:=⟨H5.out.h0,H5.out.h1,H5.out.h2,H5.out.h3,H5.out.h5,H5.out.h5D,H5.out.h6,H5.out.h6D,H5.out.h7,H5.out.h7D,H5.out.dis,H5.out.bd,H5.out.nN,H5.out.hps⟩
    exact ⟨rfl,⟨_,_,_,_,⟨_,_,_,_,_,_,_,_,_,_,HL,hzD',KF.out⟩,G5.out⟩⟩
   ·have d9:=Ag kz
    have f9:=As kz;have k2:=Af (o:=29) (kz) (.bool true);simp only [List.setIfInBounds_toArray,List.set_cons_succ,List.set_cons_zero] at k2;have T2:=Wrote.setCell (b:=z) (o:=29) (R:=fun b _=>b=z) (Wrote.refl (fun b _=>b=z) W1) (fun _=>rfl) (.bool true);go_wp2_with fail;clear d9 f9 kz;refine (HA.out _ (fun i=>match i with | 0=>u0 | 1=>u1 | 2=>u2 | 3=>.i d.bank | 4=>.i d.A | 5=>.i d.X | 6=>.i d.S | 7=>.i d.Pc | 8=>.bool d.Z | 9=>.bool d.N | 10=>.bool d.C | 11=>.bool d.I | 12=>.i (Ga d.t) | 13=>.i d.c | 14=>.i d.s | 15=>.i d.ad | 16=>.i d.pl | 17=>.bool (Ho d.t d.bl) | 18=>u3 | 19=>w4 | 27=>.bool d.hd | 28=>.i d.sh | 29=>.bool true | 30=>.i d.st | 31=>u5 | 32=>u6 | 33=>u7 | _=>undef) k2 hok.apu (by rw [← hok.same]; exact ht)).mono ?_;rintro e W5 ⟨rfl,k5,L5⟩
    replace k5:W5.heap[z]?=some (.cells (kR { d with t:=(Ga d.t),bl:=(Ho d.t d.bl),T:=(d.T+1),K:=(Ft d.P d.K),B:=(Fa d.K d.B d.L),L:=(Fu d.T d.L),R:=(Gq d.T d.L d.Q d.R),nmi:=true } u0 u1 u2 u3 w4 u5 u6 u7) 49 (0,0)):=k5;have T5:=T2.trans L5;have H5:=Ad ((HD.out.keepD T5 (fun i b o h (e:b=z)=>hzD' i b h e)).upTo T5.size (Nat.le_refl _));have G5:=Ad (G9.out.trans (Goes.box T5 _ _ _ _));clear HD G9 k2 T2 L5 T5 HA
    have HE:Hid (B8 d={ E7 d with T:=d.T+1,K:=Ft d.P d.K,B:=Fa d.K d.B d.L,L:=Fu d.T d.L,R:=Gq d.T d.L d.Q d.R,nmi:=true }):=by
     show _=_
     simp only [B8,Il,frameT,E7,h48,HTo.out,← hnm.out,← han.out,Bool.true_or,Bool.false_or,if_true,Bool.false_eq_true,if_false]
    have KF:=Ad k5;have d5:=Ag k5;clear k5;go_wp2
    ((try simp only [Exit.inBlock,Exit.then]); first | (refine bodyPost_ret (results_none rfl _ _ _) rfl ?_) | (refine bodyPost_end (results_none rfl _ _ _) rfl ?_))
    rw [HE.out]
    have HL:Bi W5 lo W5.heap.size DD _ _ _ _ _ _ _ _ _ _ _ _ _ { E7 d with T:=d.T+1,K:=Ft d.P d.K,B:=Fa d.K d.B d.L,L:=Fu d.T d.L,R:=Gq d.T d.L d.Q d.R,nmi:=true }:=⟨H5.out.h0,H5.out.h1,H5.out.h2,H5.out.h3,H5.out.h5,H5.out.h5D,H5.out.h6,H5.out.h6D,H5.out.h7,H5.out.h7D,H5.out.dis,H5.out.bd,H5.out.nN,H5.out.hps⟩
    exact ⟨rfl,⟨_,_,_,_,⟨_,_,_,_,_,_,_,_,_,_,HL,hzD',KF.out⟩,G5.out⟩⟩
set_option maxHeartbeats 8000000
set_option maxRecDepth 40000
theorem Bx.far {w W W':World} {lo b r:Nat} {rs cs:Array Value} (H:Bx w W lo b r rs cs) {z:Nat} (h0:w.heap.size≤z) (hz:z≠b) (hz2:z≠r) (hw:Wrote (fun x _=>x=z) W W'):Bx w W' lo b r rs cs :=
 have h2:=H.hl
 ⟨Ah H.box hw (fun o (e:b=z)=>hz e.symm),Ah H.res hw (fun o (e:r=z)=>hz2 e.symm),H.low.trans (hw.below (Nat.le_trans H.hl H.low.size) (fun x o hb (e:x=z)=>by omega)),H.kept.wrote hw (fun x o hb (e:x=z)=>by exfalso; omega),H.up,H.up2,H.ne,H.hl⟩
theorem Z9 (w:World) (lo:Nat) (D:Nat→Nat→Prop) (v:Value) (d:Aq) (H:Ez w lo D v d) (hlo:lo≤w.heap.size) (hok:OkL d) (hnq:d.nq<1048576) (hnm:d.nmi=false) (hnc:(d.R && !d.I)=false):Calls Tryz.prog 57 #[v] w fun e w'=>∃ v',e=.returned (.tuple #[v',.i (actN d)])∧Hm w w' lo D v' (actD d)∧Below lo w w'∧Dv w w':=by
 obtain ⟨y0,y1,y2,y3,y4,ov,gb,cp,g6,c6,g7,c7,rfl,LX⟩:=H.start hlo (Below.refl w.heap.size w);replace LX:=LX.below (((Below.refl w.heap.size w).alloc (Nat.le_refl _) (.cells (rowL y0 y1 y2 y3 y4 ov g6 c6 g7 c7 d) 49)).alloc (by simp) (.cells zR 49));have BX:=Bx.start w (rowL y0 y1 y2 y3 y4 ov g6 c6 g7 c7 d) zR hlo
 go_enter Tryz.func57,Tryz.ntmps57
 go_upto_region 1 with (fail);generalize (w.alloc (.cells (rowL y0 y1 y2 y3 y4 ov g6 c6 g7 c7 d) 49)).alloc (.cells zR 49)=W0 at *;generalize hrs:(zR:Array Value)=rs at BX
 have HRS:Hid (rs.size=34):=by show _=_; rw [← hrs]; rfl
 clear hrs;have c0:=Ag BX.box;have f0:=As BX.box
 obtain ⟨rr,hrr⟩:∃ x,Hid (x=d.R):=⟨_,rfl⟩
 obtain ⟨ii,hii⟩:∃ x,Hid (x=d.I):=⟨_,rfl⟩
 have hc:Hid ((rr && !ii)=false):=by show _=_; rw [hrr.out,hii.out]; exact hnc
 have f29:(rowL y0 y1 y2 y3 y4 ov g6 c6 g7 c7 d)[29]?=some (.bool false):=by rw [← hnm]; rfl
 have f26:(rowL y0 y1 y2 y3 y4 ov g6 c6 g7 c7 d)[26]?=some (.bool rr):=by rw [hrr.out]; rfl
 have f11:(rowL y0 y1 y2 y3 y4 ov g6 c6 g7 c7 d)[11]?=some (.bool ii):=by rw [hii.out]; rfl
 replace hnm:=Ad hnm;replace hnc:=Ad hnc;go_upto_region 5 with (fail)
 go_cut [33] (fun s wc=>s=.bool false∧wc=W0)
 case first =>
  cases rr with
  | false =>
   go_wp2_with fail
   go_meet
   exact ⟨rfl,rfl⟩
  | true =>
   cases ii with
   | false=>exact absurd hc.out (by decide)
   | true =>
    go_wp2_with fail
    go_meet
    exact ⟨rfl,rfl⟩
 case rest =>
 obtain ⟨rfl,rfl⟩:=hcut;clear hrr hii hc rr ii f26 f11;go_upto_region 8 with (fail);clear c0 f0 f29
 obtain ⟨op,hop⟩:∃ x,Hid (x=peekV d.m d.ln d.f d.nr d.g d.bank d.Pc):=⟨_,rfl⟩
 obtain ⟨ar,har⟩:∃ x,Hid (x=Ib (peekV d.m d.ln d.f d.nr d.g d.bank) d.Pc):=⟨_,rfl⟩
 have HFE:=Ad (fun W F G v u h (k:Ints .i64 W G u d.nr d.g)=>Wi W F G v u d.m d.ln d.f d.nr d.g d.bank d.Pc h k);rw [← har.out,← hop.out] at HFE
 obtain ⟨ac,hac⟩:∃ x,Hid (x=B9 op):=⟨_,rfl⟩
 obtain ⟨at',hat⟩:∃ x,Hid (x=F9 op ar d.X):=⟨_,rfl⟩
 obtain ⟨va,hva⟩:∃ x,Hid (x=Lt op d.A):=⟨_,rfl⟩
 obtain ⟨cy,hcy⟩:∃ x,Hid (x=Rz op):=⟨_,rfl⟩
 obtain ⟨d2,hd2⟩:∃ x,Hid (x=Cj d op ar):=⟨_,rfl⟩
 obtain ⟨xx,hxx⟩:∃ x,Hid (x=Gg d op ar):=⟨_,rfl⟩
 obtain ⟨gx,hgx⟩:∃ x,Hid (x=Ew d2.g (Dt d2) op):=⟨_,rfl⟩
 obtain ⟨cx,hcx⟩:∃ x,Hid (x=Dy d2.g (Dt d2) op ar xx):=⟨_,rfl⟩
 have HAC:=Ad (fun W=>S8 W op ar d.A d.X d.S d.Pc d.Z d.N d.C d.I);rw [← hac.out,← hat.out,← hva.out] at HAC;have HRD:=Ad (fun W v h hl=>Z6 W lo D v d at' h hl hok.ok hnq);have HWR:=Ad (fun W v h hl=>X9 W lo D v d at' va h hl hok.ok);have M2:=Ik d op ar hok.row;rw [← hd2.out] at M2;have N5:d2.nr=512:=M2.2.2.1.trans hok.nr
 have P5:0≤(Dt d2).Pc∧(Dt d2).Pc≤65535:=by rw [M2.2.2.2.2.1]; exact hok.cpu.2.2.2
 have HEX:=Ad (fun W G u (k:Ints .i64 W G u d2.nr d2.g)=>Qg W G u d2.g d2.bank (N5 ▸ k) (Dt d2) P5 op ar xx);rw [← hgx.out,← hcx.out] at HEX;simp only [Dt,A4.v] at HEX
 have HCY:Hid (∀ W,Calls Tryz.prog 92 #[.i op] W fun e w'=>e=.returned (.i cy)∧Below W.heap.size W w'):=fun W=>by rw [hcy.out]; exact Pj W op
 have HVC:Hid (d.nmi=false→(d.R && !d.I)=false→actD d=putCpu d2 gx cx∧actN d=cy):=by
  intro e1 e2;unfold actD actN;rw [if_neg (by rw [e1]; decide),if_neg (by rw [e2]; decide),if_neg (by rw [e1]; decide),if_neg (by rw [e2]; decide)];unfold opD Jbv X2 opA;rw [← hop.out,← har.out,← hd2.out,← hxx.out,← hgx.out,← hcx.out,hcy.out];exact ⟨rfl,rfl⟩
 have HR1:Hid (ac=1→Cn d at'=d2∧Do d at'=xx):=by
  intro e
  have e':B9 op=1:=by rw [← hac.out]; exact e
  rw [hd2.out,hxx.out,hat.out];unfold Cj Gg;rw [if_pos e',if_pos e'];exact ⟨rfl,rfl⟩
 have HR2:Hid (ac=2→Bu d at' va=d2∧(0:Int)=xx):=by
  intro e
  have e':B9 op=2:=by rw [← hac.out]; exact e
  rw [hd2.out,hxx.out,hat.out,hva.out];unfold Cj Gg;rw [if_neg (by rw [e']; decide),if_pos e',if_neg (by rw [e']; decide)];exact ⟨rfl,rfl⟩
 have HR0:Hid (ac≠1→ac≠2→d=d2∧(0:Int)=xx):=by
  intro e1 e2
  have e1':¬ B9 op=1:=by rw [← hac.out]; exact e1
  have e2':¬ B9 op=2:=by rw [← hac.out]; exact e2
  rw [hd2.out,hxx.out];unfold Cj Gg;rw [if_neg e1',if_neg e2',if_neg e1'];exact ⟨rfl,rfl⟩
 clear hop har hat hva hcy hac M2 P5;replace N5:=Ad N5;rename_i K3 hK3;refine wp_region_lit ?_
 iterate 1 (refine wpList_plain rfl (fun K9 hK9=>?_); go_simp; refine hK9 _ _ ?_; clear hK9)
 refine Bf rfl _ _ rfl w.heap.size 0 rfl _ _ #[y0] _ _ BX.box (Zj rfl) Tryz.underlying41 rfl Ni ?_
 iterate 1 (refine wpList_plain rfl (fun K9 hK9=>?_); go_simp; refine hK9 _ _ ?_; clear hK9)
 refine Bf rfl _ _ rfl w.heap.size 2 rfl _ _ #[y2,.i d.bank] _ _ BX.box (Ve rfl rfl) Tryz.underlying42 rfl Bq ?_
 iterate 2 (refine wpList_plain rfl (fun K9 hK9=>?_); go_simp; refine hK9 _ _ ?_; clear hK9)
 have c0:=Ag BX.box;have f7:(rowL y0 y1 y2 y3 y4 ov g6 c6 g7 c7 d)[7]?=some (.i d.Pc):=rfl
 iterate 1 (refine wpList_plain rfl (fun K9 hK9=>?_); go_simp; refine hK9 _ _ ?_; clear hK9)
 clear c0 f7;refine Br rfl _ _ (by kernel_rfl) (HFE.out _ _ _ _ _ LX.lp.h0.ints LX.lp.h2.int1) ?_;rintro e W1 ⟨rfl,L⟩;refine ⟨_,rfl,?_⟩;replace BX:=BX.below L;replace LX:=LX.below L;clear L HFE
 iterate 2 (refine wpList_plain rfl (fun K9 hK9=>?_); go_simp; refine hK9 _ _ ?_; clear hK9)
 have LA:Below W1.heap.size W1 (W1.alloc (.cells #[.i op,.i ar] 109)):=(Below.refl _ _).alloc (Nat.le_refl _) _;have kp:=Al W1 #[.i op,.i ar] 109
 obtain ⟨pp,hpp⟩:∃ x,Hid (x=W1.heap.size):=⟨_,rfl⟩
 have lpp:w.heap.size+1<pp:=by rw [hpp.out]; exact Ac BX.res
 rw [← hpp.out] at kp ⊢;replace BX:=BX.below LA;replace LX:=LX.below LA;clear LA hpp;generalize W1.alloc (.cells #[.i op,.i ar] 109)=WA at *;refine hK3 _ _ ?_;clear hK3;go_upto_region 9 with (fail);rename_i K3 hK3;refine wp_region_lit ?_;refine wpList_load_row rfl _ _ rfl pp rfl _ _ _ _ kp Tryz.underlying109 rfl Nj ?_
 iterate 1 (refine wpList_plain rfl (fun K9 hK9=>?_); go_simp; refine hK9 _ _ ?_; clear hK9)
 refine Bf rfl _ _ rfl w.heap.size 4 rfl _ _ (cR d.A d.X d.S d.Pc d.Z d.N d.C d.I) _ _ BX.box (Gu rfl rfl rfl rfl rfl rfl rfl rfl) Tryz.underlying43 rfl Aw ?_;refine Br rfl _ _ (by kernel_rfl) (HAC.out WA) ?_;rintro e W2 ⟨rfl,L⟩;refine ⟨_,rfl,?_⟩;replace BX:=BX.below L;replace LX:=LX.below L;replace kp:=Aa kp L (Ac kp);clear L HAC
 iterate 7 (refine wpList_plain rfl (fun K9 hK9=>?_); go_simp; refine hK9 _ _ ?_; clear hK9)
 refine hK3 _ _ ?_;clear hK3
 go_upto_block 0 with (fail)
 go_cut [8] (fun s WX=>s=.i xx∧∃ (N0:Nat) (D3:Nat→Nat→Prop) (y0 y1 y2 y3 y4 ov:Value) (gb cp:Nat→Nat) (g6 c6 g7 c7:Nat),Bx w WX lo w.heap.size (w.heap.size+1) rs (rowL y0 y1 y2 y3 y4 ov g6 c6 g7 c7 d2)∧Lx w WX lo N0 w.heap.size (w.heap.size+1) D D3 y0 y1 y2 y3 y4 ov gb cp g6 c6 g7 c7 d2∧WX.heap[pp]?=some (.cells #[.i op,.i ar] 109 (0,0)))
 case first =>
  by_cases r1:ac=1
  ·obtain ⟨eD,eX⟩:=HR1.out r1
   have q1:(ac==1)=true:=by simp [r1]
   clear r1;clear HR1 HR2 HR0;go_upto_region 13 with (fail);rename_i K3 hK3;refine wp_region_lit ?_;have hz2:=BX.low.size;have hlw:=BX.hl;refine wpList_load_row rfl _ _ rfl w.heap.size rfl _ _ _ _ BX.box Tryz.underlying49 rfl Ao ?_
   iterate 1 (refine wpList_plain rfl (fun K9 hK9=>?_); go_simp; refine hK9 _ _ ?_; clear hK9)
   refine Br rfl _ _ (by kernel_rfl) (HRD.out _ _ LX.lp.x (by omega)) ?_;rintro e W3 ⟨v3,rfl,HN,LB,KB⟩;refine ⟨_,rfl,?_⟩;rw [eD] at HN;rw [eX];have hz3:=LB.size;obtain ⟨D3,y0,y1,y2,y3,y4,ov,gb,cp,g6,c6,g7,c7,rfl,LX3⟩:=HN.lx LX.ap LX.nr (Ac BX.box) (Ac BX.res) hz2 (by omega);replace BX:=BX.turn LB KB;replace kp:=KB.2 _ _ _ kp (by decide) (by decide);clear HN LB KB LX HRD HWR
   iterate 3 (refine wpList_plain rfl (fun K9 hK9=>?_); go_simp; refine hK9 _ _ ?_; clear hK9)
   refine wpList_store_row rfl _ _ _ rfl w.heap.size _ rfl rfl _ _ BX.box Ao rfl LX3.one ?_
   iterate 1 (refine wpList_plain rfl (fun K9 hK9=>?_); go_simp; refine hK9 _ _ ?_; clear hK9)
   have LX:=LX3.wrote BX (Or.inl rfl) (Au BX.box (rowL y0 y1 y2 y3 y4 ov g6 c6 g7 c7 d2));replace kp:=Ah kp (Au BX.box (rowL y0 y1 y2 y3 y4 ov g6 c6 g7 c7 d2)) (fun o (e:pp=_)=>by omega);replace BX:=BX.set (rowL y0 y1 y2 y3 y4 ov g6 c6 g7 c7 d2);clear LX3;generalize W3.setRow w.heap.size (rowL y0 y1 y2 y3 y4 ov g6 c6 g7 c7 d2)=W4 at *;refine hK3 _ _ ?_;clear hK3;go_wp2_with fail
   go_meet
   exact ⟨rfl,_,_,_,_,_,_,_,_,_,_,_,_,_,_,BX,LX,kp⟩
  ·by_cases r2:ac=2
   ·obtain ⟨eD,eX⟩:=HR2.out r2
    have q1:(ac==1)=false:=by simp [r1]
    have q2:(ac==2)=true:=by simp [r2]
    clear r1 r2;clear HR1 HR2 HR0;go_upto_region 15 with (fail);rename_i K3 hK3;refine wp_region_lit ?_;have hz2:=BX.low.size;have hlw:=BX.hl;refine wpList_load_row rfl _ _ rfl w.heap.size rfl _ _ _ _ BX.box Tryz.underlying49 rfl Ao ?_
    iterate 2 (refine wpList_plain rfl (fun K9 hK9=>?_); go_simp; refine hK9 _ _ ?_; clear hK9)
    refine Br rfl _ _ (by kernel_rfl) (HWR.out _ _ LX.lp.x (by omega)) ?_;rintro e W3 ⟨v3,rfl,HN,LB'⟩;refine ⟨_,rfl,?_⟩;rw [eD] at HN;have KB:=Dv.below LB';have LB:=LB'.mono (show lo≤W2.heap.size by omega);clear LB';have hz3:=LB.size;obtain ⟨D3,y0,y1,y2,y3,y4,ov,gb,cp,g6,c6,g7,c7,rfl,LX3⟩:=HN.lx LX.ap LX.nr (Ac BX.box) (Ac BX.res) hz2 (by omega);replace BX:=BX.turn LB KB;replace kp:=KB.2 _ _ _ kp (by decide) (by decide);clear HN LB KB LX HRD HWR;refine wpList_store_row rfl _ _ _ rfl w.heap.size _ rfl rfl _ _ BX.box Ao rfl LX3.one ?_;have LX:=LX3.wrote BX (Or.inl rfl) (Au BX.box (rowL y0 y1 y2 y3 y4 ov g6 c6 g7 c7 d2));replace kp:=Ah kp (Au BX.box (rowL y0 y1 y2 y3 y4 ov g6 c6 g7 c7 d2)) (fun o (e:pp=_)=>by omega);replace BX:=BX.set (rowL y0 y1 y2 y3 y4 ov g6 c6 g7 c7 d2);clear LX3
    generalize W3.setRow w.heap.size (rowL y0 y1 y2 y3 y4 ov g6 c6 g7 c7 d2)=W4 at *;refine hK3 _ _ ?_;clear hK3;subst eX;go_wp2_with fail
    go_meet
    exact ⟨rfl,_,_,_,_,_,_,_,_,_,_,_,_,_,_,BX,LX,kp⟩
   ·obtain ⟨eD,eX⟩:=HR0.out r1 r2
    have q1:(ac==1)=false:=by simp [r1]
    have q2:(ac==2)=false:=by simp [r2]
    clear r1 r2 HR1 HR2 HR0 HRD HWR;subst eD;subst eX;go_wp2_with fail
    go_meet
    exact ⟨rfl,_,_,_,_,_,_,_,_,_,_,_,_,_,_,BX,LX,kp⟩
 case rest =>
 clear BX LX kp HR1 HR2 HR0 HRD HWR;obtain ⟨rfl,N0,D3,y0,y1,y2,y3,y4,ov,gb,cp,g6,c6,g7,c7,BX,LX,kp⟩:=hcut
 obtain ⟨W4,hW4⟩:∃ x,x=wc:=⟨_,rfl⟩
 subst hW4;go_upto_region 16 with (fail);rename_i K3 hK3;refine wp_region_lit ?_
 iterate 1 (refine wpList_plain rfl (fun K9 hK9=>?_); go_simp; refine hK9 _ _ ?_; clear hK9)
 refine Bf rfl _ _ rfl w.heap.size 2 rfl _ _ #[y2,.i d2.bank] _ _ BX.box (Ve rfl rfl) Tryz.underlying42 rfl Bq ?_
 iterate 1 (refine wpList_plain rfl (fun K9 hK9=>?_); go_simp; refine hK9 _ _ ?_; clear hK9)
 refine Bf rfl _ _ rfl w.heap.size 4 rfl _ _ (cR d2.A d2.X d2.S d2.Pc d2.Z d2.N d2.C d2.I) _ _ BX.box (Gu rfl rfl rfl rfl rfl rfl rfl rfl) Tryz.underlying43 rfl Aw ?_;refine wpList_load_row rfl _ _ rfl pp rfl _ _ _ _ kp Tryz.underlying109 rfl Nj ?_
 iterate 1 (refine wpList_plain rfl (fun K9 hK9=>?_); go_simp; refine hK9 _ _ ?_; clear hK9)
 refine Br rfl _ _ (by kernel_rfl) (HEX.out _ _ _ LX.lp.h2.int1) ?_;rintro e W5 ⟨q,rfl,OI,L⟩;refine ⟨_,rfl,?_⟩;replace kp:=Aa kp L (Ac kp);clear HEX;have hz1:=Ac BX.res;have hz4:=Ac BX.box;have hz2:=L.size;have hz0:=BX.low.size;replace BX:=BX.below L;obtain ⟨D',LX⟩:=(LX.below L).mem OI N5.out LX.lp.nN hz4 hz1 (by omega) hz2;obtain ⟨qa,qc,rfl,-⟩:=OI.ex;clear OI L
 iterate 4 (refine wpList_plain rfl (fun K9 hK9=>?_); go_simp; refine hK9 _ _ ?_; clear hK9)
 refine Bv rfl _ _ _ rfl w.heap.size 2 #[.slice qa 512 qc,.i d2.bank] rfl rfl _ _ BX.box Bq (by show (2+2:Nat)≤34; omega) (by first | rfl | simp [Value.oneCell']) ?_;replace kp:=Ah kp (Au BX.box (putAt (rowL y0 y1 y2 y3 y4 ov g6 c6 g7 c7 d2) 2 #[.slice qa 512 qc,.i d2.bank])) (fun o (e:pp=_)=>by omega);have LX':=LX.wrote BX (Or.inl rfl) (Au BX.box (putAt (rowL y0 y1 y2 y3 y4 ov g6 c6 g7 c7 d2) 2 #[.slice qa 512 qc,.i d2.bank]));replace BX:=BX.set (putAt (rowL y0 y1 y2 y3 y4 ov g6 c6 g7 c7 d2) 2 #[.slice qa 512 qc,.i d2.bank]);replace LX:=LX';clear LX';generalize W5.setRow w.heap.size (putAt (rowL y0 y1 y2 y3 y4 ov g6 c6 g7 c7 d2) 2 #[.slice qa 512 qc,.i d2.bank])=W6 at *;replace BX:Bx w W6 lo w.heap.size (w.heap.size+1) rs (rowL y0 y1 (.slice qa 512 qc) y3 y4 ov g6 c6 g7 c7 { d2 with g:=gx }):=BX
 iterate 1 (refine wpList_plain rfl (fun K9 hK9=>?_); go_simp; refine hK9 _ _ ?_; clear hK9)
 refine Bv rfl _ _ _ rfl w.heap.size 4 (cR cx.A cx.X cx.S cx.Pc cx.Z cx.N cx.C cx.I) rfl rfl _ _ BX.box Aw (by show (4+8:Nat)≤34; omega) (by first | rfl | simp [Value.oneCell']) ?_;replace kp:=Ah kp (Au BX.box (putAt (rowL y0 y1 (.slice qa 512 qc) y3 y4 ov g6 c6 g7 c7 { d2 with g:=gx }) 4 (cR cx.A cx.X cx.S cx.Pc cx.Z cx.N cx.C cx.I))) (fun o (e:pp=_)=>by omega);have LX':=LX.wrote BX (Or.inl rfl) (Au BX.box (putAt (rowL y0 y1 (.slice qa 512 qc) y3 y4 ov g6 c6 g7 c7 { d2 with g:=gx }) 4 (cR cx.A cx.X cx.S cx.Pc cx.Z cx.N cx.C cx.I)));replace BX:=BX.set (putAt (rowL y0 y1 (.slice qa 512 qc) y3 y4 ov g6 c6 g7 c7 { d2 with g:=gx }) 4 (cR cx.A cx.X cx.S cx.Pc cx.Z cx.N cx.C cx.I));replace LX:=LX';clear LX'
 generalize W6.setRow w.heap.size (putAt (rowL y0 y1 (.slice qa 512 qc) y3 y4 ov g6 c6 g7 c7 { d2 with g:=gx }) 4 (cR cx.A cx.X cx.S cx.Pc cx.Z cx.N cx.C cx.I))=W7 at *;replace LX:=LX.cpu cx;replace BX:Bx w W7 lo w.heap.size (w.heap.size+1) rs (rowL y0 y1 (.slice qa 512 qc) y3 y4 ov g6 c6 g7 c7 (putCpu d2 gx cx)):=BX;refine hK3 _ _ ?_;clear hK3;go_upto_region 17 with (fail);rename_i K2 hK2;have HBX:=Ad BX;have HLX:=Ad LX;have lqq:=Ac BX.res
 refine A8 [some 90,some 91,some 92,some 93,none,some 3] (by kernel_rfl) (by kernel_rfl) (by kernel_rfl) (by kernel_rfl) (by first | (simp [slotsOf]; done) | (simp [slotsOf,Act.put]; done))
  (fun j b _=>j=4∧b=w.heap.size+1)
  (fun i v W=>match i with
   | 0=>v=.agg (rowL y0 y1 (.slice qa 512 qc) y3 y4 ov g6 c6 g7 c7 (putCpu d2 gx cx))
   | 1=>v=(pt pp 0)
   | 2=>v=.i op
   | 3=>v=.i cy
   | 4=>W.heap[w.heap.size+1]?=some (.cells (rowL y0 y1 (.slice qa 512 qc) y3 y4 ov g6 c6 g7 c7 (putCpu d2 gx cx)) 49 (0,0))
   | _=>v=.i cy) ?_ ?_ ?_
 ·intro i j o v W W' hij _ _ hW h
  match i,hij,h with
  | 0,_,h=>exact h
  | 1,_,h=>exact h
  | 2,_,h=>exact h
  | 3,_,h=>exact h
  | 4,hij,h=>exact Ah h hW (fun o e=>hij e.1.symm)
  | _+5,_,h=>exact h
 ·intro i o a' W K ho F L hw hK
  have t1:=F.get (t:=1) (v:=(pt w.heap.size 0)) (by decide) rfl;have t2:=F.get (t:=2) (v:=(pt (w.heap.size+1) 0)) (by decide) rfl;have t4:=F.get (t:=4) (v:=(pt pp 0)) (by decide) rfl;have rB:=Ah HBX.out.box L (fun o ⟨j,_,_,_,_,_,e⟩=>by omega);have rP:=Ah kp L (fun o ⟨j,_,_,_,_,_,e⟩=>by omega);have rp:=Ag rP
  match i with
  | 0 =>
   cases ho;refine wp_load_row _ _ rfl w.heap.size (by simpa [Act.eval] using t1) _ _ _ _ rB Tryz.underlying49 rfl Ao ?_;exact Hk hK rfl
  | 1 =>
   cases ho;go_simp;exact Hk hK rfl
  | 2 =>
   cases ho;have q1:tv a' 91=_:=Hr hw 1;go_simp;exact Hk hK rfl
  | 3 =>
   cases ho;have q2:tv a' 92=_:=Hr hw 2;go_simp;refine (HCY.out W).mono ?_;rintro e W' ⟨rfl,LX⟩;exact hK _ _ (Ab LX _) rfl
  | 4 =>
   cases ho;have q0:tv a' 90=_:=Hr hw 0;have rB1:=Ah HBX.out.res L (fun o ⟨j,_,hj,_,_,e,_⟩=>hj e);refine wp_store_row _ _ _ rfl (w.heap.size+1) (rowL y0 y1 (.slice qa 512 qc) y3 y4 ov g6 c6 g7 c7 (putCpu d2 gx cx)) (by simpa [Act.eval] using t2) (by simpa [Act.eval] using q0) _ _ rB1 Ao HRS.out HLX.out.one ?_;exact hK undef _ ((Au rB1 _).mono (fun b o _ h=>⟨rfl,h⟩)) (setRow_heap _ _ _ _ _ _ rB1)
  | 5 =>
   cases ho;have q3:tv a' 93=_:=Hr hw 3;go_simp;exact Hk hK rfl
  | _+6=>simp at ho
 ·intro a' W F L hφ
  have p4:W.heap[w.heap.size+1]?=some (.cells (rowL y0 y1 (.slice qa 512 qc) y3 y4 ov g6 c6 g7 c7 (putCpu d2 gx cx)) 49 (0,0)):=Hd hφ 4;have p5:a'.tmps[3]?.getD undef=_:=Hd hφ 5;have L':Wrote (fun x _=>x=w.heap.size+1) W7 W:=L.mono (fun b o _ ⟨j,_,e⟩=>e);have LXF:=Ad (HLX.out.wrote HBX.out (Or.inr rfl) L');have LKF:=Ad (HBX.out.wrote (Or.inr rfl) L');rw [F.same,show slotsOf [some 90,some 91,some 92,some 93,none,some 3]=[90,91,92,93,3] from rfl];simp only [List.foldl_cons,List.foldl_nil];rw [p5];generalize a'.tmps[90]?.getD undef=s90;generalize a'.tmps[91]?.getD undef=s91;generalize a'.tmps[92]?.getD undef=s92;generalize a'.tmps[93]?.getD undef=s93;clear hφ L F p5 L' HLX HBX kp BX LX;refine hK2 _ _ ?_;go_simp;go_wp2
  refine bodyPost_ret (v:=.tuple #[.agg (rowL y0 y1 (.slice qa 512 qc) y3 y4 ov g6 c6 g7 c7 (putCpu d2 gx cx)),.i cy]) (A9 Tryz.results57 _ _ (w.heap.size+1) _ _ _ _ rfl p4 Tryz.underlying49 rfl Ao) rfl ?_;rw [(HVC.out hnm.out hnc.out).1,(HVC.out hnm.out hnc.out).2];exact ⟨_,rfl,LXF.out.nx,LKF.out.1,LKF.out.2⟩
end Go.Proofs.YtgcmimcalmjaaaaGreatDoor
