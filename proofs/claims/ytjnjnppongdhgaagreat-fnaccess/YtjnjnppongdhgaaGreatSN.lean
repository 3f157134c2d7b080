import Derived.Test.YtjnjnppongdhgaaGreatSM
import Derived.Test.YtjnjnppongdhgaaGreatEB
namespace Go.Proofs.YtjnjnppongdhgaaGreat
set_option maxHeartbeats 8000000
set_option maxRecDepth 40000
set_option linter.unusedVariables false
set_option linter.unusedSimpArgs false
open Go.ChangeShapes Go.WideShapes Go.ChangeAt Go.RowKit
theorem Lu:(Tryz.prog.info? 26).map (·.size)=some 1:=by kernel_rfl
theorem Lv:(Tryz.prog.info? 162).map (·.size)=some 2:=by kernel_rfl
theorem Bx.start (w:World) {lo:Nat} (cs zs:Array Value) (h:lo≤w.heap.size):Bx w ((w.alloc (.cells cs 41)).alloc (.cells zs 41)) lo w.heap.size (w.heap.size+1) zs cs :=
 have L:Below w.heap.size w ((w.alloc (.cells cs 41)).alloc (.cells zs 41)):=((Below.refl _ _).alloc (Nat.le_refl _) _).alloc (by simp) _
 ⟨A4 (Al w cs 41) _,by simpa using Al (w.alloc (.cells cs 41)) zs 41,L.mono h,Dc.below L,Nat.le_refl _,Nat.le_succ _,by omega,h⟩
theorem Ed.start {w:World} {lo:Nat} {D:Nat→Nat→Prop} {v:Value} {d:Ao} (H:Ed w lo D v d) (h:lo≤w.heap.size) {W:World} (L:Below w.heap.size w W) :
  ∃ (u0 u1 u2 u3 u4 ov:Value) (gb cp:Nat→Nat) (g6 c6 g7 c7:Nat),v=.agg (rowL u0 u1 u2 u3 u4 ov g6 c6 g7 c7 d)∧Lx w W lo w.heap.size w.heap.size (w.heap.size+1) D D u0 u1 u2 u3 u4 ov gb cp g6 c6 g7 c7 d:=by
 obtain ⟨u0,u1,u2,u3,u4,ov,gb,cp,g6,c6,g7,c7,rfl,HP⟩:=H;exact ⟨u0,u1,u2,u3,u4,ov,gb,cp,g6,c6,g7,c7,rfl,HP.below L,fun i k e=>by have:=HP.bd i k e; omega,fun i k e=>Or.inl ⟨_,e⟩,h⟩
theorem Z4 (w:World) (lo:Nat) (D:Nat→Nat→Prop) (v:Value) (d:Ao) (H:Ed w lo D v d) (hlo:lo≤w.heap.size) (hok:Z9 d) (hnm:d.nmi=true):Calls Tryz.prog 144 #[v] w fun e w'=>∃ v',e=.returned (.tuple #[v',.i (Fi d)])∧Gh w w' lo D v' (actD d)∧Below lo w w'∧Dc w w':=by
 obtain ⟨u0,u1,u2,u3,u4,ov,gb,cp,g6,c6,g7,c7,rfl,LX⟩:=H.start hlo (Below.refl w.heap.size w);replace LX:=LX.below (((Below.refl w.heap.size w).alloc (Nat.le_refl _) (.cells (rowL u0 u1 u2 u3 u4 ov g6 c6 g7 c7 d) 41)).alloc (by simp) (.cells zR 41));have BX:=Bx.start w (rowL u0 u1 u2 u3 u4 ov g6 c6 g7 c7 d) zR hlo
 go_enter Tryz.func144,Tryz.ntmps144
 go_upto_region 1 with (fail);generalize (w.alloc (.cells (rowL u0 u1 u2 u3 u4 ov g6 c6 g7 c7 d) 41)).alloc (.cells zR 41)=W0 at *;generalize hrs:(zR:Array Value)=rs at BX
 have HRS:Hid (rs.size=34):=by show _=_; rw [← hrs]; rfl
 clear hrs;have c0:=Aj BX.box;have f0:=Ar BX.box
 have f29:(rowL u0 u1 u2 u3 u4 ov g6 c6 g7 c7 d)[29]?=some (.bool true):=by rw [← hnm]; rfl
 replace hnm:=Ac hnm;go_upto_region 3 with (fail);clear c0 f0 f29;have LX':=(LX.wrote BX (Or.inl rfl) (BX.cellW 29 (.bool false))).nmi false;replace BX:=BX.cell 29 (.bool false);replace LX:=LX';clear LX';generalize W0.setCell ⟨w.heap.size,29,none⟩ (.bool false)=W1 at *;replace BX:Bx w W1 lo w.heap.size (w.heap.size+1) rs (rowL u0 u1 u2 u3 u4 ov g6 c6 g7 c7 (noNmi d)):=BX;rename_i K3 hK3;refine wp_region_lit ?_
 iterate 1 (refine wpList_plain rfl (fun K9 hK9=>?_); go_simp; refine hK9 _ _ ?_; clear hK9)
 refine A9 rfl _ _ rfl w.heap.size 0 rfl _ _ #[u0] _ _ BX.box (V9 rfl) Tryz.underlying26 rfl Lu ?_
 iterate 1 (refine wpList_plain rfl (fun K9 hK9=>?_); go_simp; refine hK9 _ _ ?_; clear hK9)
 refine A9 rfl _ _ rfl w.heap.size 2 rfl _ _ #[u2,.i (noNmi d).bank] _ _ BX.box (Ss rfl rfl) Tryz.underlying29 rfl Bm ?_
 iterate 1 (refine wpList_plain rfl (fun K9 hK9=>?_); go_simp; refine hK9 _ _ ?_; clear hK9)
 refine A9 rfl _ _ rfl w.heap.size 4 rfl _ _ (cR ((noNmi d).A) ((noNmi d).X) ((noNmi d).S) ((noNmi d).Pc) ((noNmi d).Z) ((noNmi d).N) ((noNmi d).C) ((noNmi d).I)) _ _ BX.box (P6 rfl rfl rfl rfl rfl rfl rfl rfl) Tryz.underlying31 rfl Av ?_;refine Ax rfl _ _ (by kernel_rfl) (Hw W1 _ _ u0 u2 d.m d.ln d.f d.g d.bank LX.lp.h0.ints (hok.nr ▸ LX.lp.h2.int1) d.A d.X d.S d.Pc d.Z d.N d.C d.I 65530) ?_;rintro e W2 ⟨q,rfl,OI,L⟩;refine ⟨_,rfl,?_⟩;have hz1:=Ae BX.res;have hz4:=Ae BX.box;have hz2:=L.size;have hz0:=BX.low.size;replace BX:=BX.below L;obtain ⟨D',LX⟩:=(LX.below L).mem OI hok.nr LX.lp.nN hz4 hz1 (by omega) hz2;obtain ⟨qa,qc,rfl,-⟩:=OI.ex;clear OI L
 iterate 4 (refine wpList_plain rfl (fun K9 hK9=>?_); go_simp; refine hK9 _ _ ?_; clear hK9)
 refine Bg rfl _ _ _ rfl w.heap.size 2 #[.slice qa 512 qc,.i (noNmi d).bank] rfl rfl _ _ BX.box Bm (by show (2+2:Nat)≤34; omega) (by first | rfl | simp [Value.oneCell']) ?_;have LX':=LX.wrote BX (Or.inl rfl) (An BX.box (putAt (rowL u0 u1 u2 u3 u4 ov g6 c6 g7 c7 (noNmi d)) 2 #[.slice qa 512 qc,.i (noNmi d).bank]));replace BX:=BX.set (putAt (rowL u0 u1 u2 u3 u4 ov g6 c6 g7 c7 (noNmi d)) 2 #[.slice qa 512 qc,.i (noNmi d).bank]);replace LX:=LX';clear LX';generalize W2.setRow w.heap.size (putAt (rowL u0 u1 u2 u3 u4 ov g6 c6 g7 c7 (noNmi d)) 2 #[.slice qa 512 qc,.i (noNmi d).bank])=W3 at *;replace BX:Bx w W3 lo w.heap.size (w.heap.size+1) rs (rowL u0 u1 (.slice qa 512 qc) u3 u4 ov g6 c6 g7 c7 { (noNmi d) with g:=(enterG d.g d.S d.Pc d.Z d.N d.C d.I) }):=BX
 iterate 1 (refine wpList_plain rfl (fun K9 hK9=>?_); go_simp; refine hK9 _ _ ?_; clear hK9)
 refine Bg rfl _ _ _ rfl w.heap.size 4 (cR ((entC (noNmi d) 65530).A) ((entC (noNmi d) 65530).X) ((entC (noNmi d) 65530).S) ((entC (noNmi d) 65530).Pc) ((entC (noNmi d) 65530).Z) ((entC (noNmi d) 65530).N) ((entC (noNmi d) 65530).C) ((entC (noNmi d) 65530).I)) rfl rfl _ _ BX.box Av (by show (4+8:Nat)≤34; omega) (by first | rfl | simp [Value.oneCell']) ?_;have LX':=LX.wrote BX (Or.inl rfl) (An BX.box (putAt (rowL u0 u1 (.slice qa 512 qc) u3 u4 ov g6 c6 g7 c7 { (noNmi d) with g:=(enterG d.g d.S d.Pc d.Z d.N d.C d.I) }) 4 (cR ((entC (noNmi d) 65530).A) ((entC (noNmi d) 65530).X) ((entC (noNmi d) 65530).S) ((entC (noNmi d) 65530).Pc) ((entC (noNmi d) 65530).Z) ((entC (noNmi d) 65530).N) ((entC (noNmi d) 65530).C) ((entC (noNmi d) 65530).I))))
 replace BX:=BX.set (putAt (rowL u0 u1 (.slice qa 512 qc) u3 u4 ov g6 c6 g7 c7 { (noNmi d) with g:=(enterG d.g d.S d.Pc d.Z d.N d.C d.I) }) 4 (cR ((entC (noNmi d) 65530).A) ((entC (noNmi d) 65530).X) ((entC (noNmi d) 65530).S) ((entC (noNmi d) 65530).Pc) ((entC (noNmi d) 65530).Z) ((entC (noNmi d) 65530).N) ((entC (noNmi d) 65530).C) ((entC (noNmi d) 65530).I)));replace LX:=LX';clear LX';generalize W3.setRow w.heap.size (putAt (rowL u0 u1 (.slice qa 512 qc) u3 u4 ov g6 c6 g7 c7 { (noNmi d) with g:=(enterG d.g d.S d.Pc d.Z d.N d.C d.I) }) 4 (cR ((entC (noNmi d) 65530).A) ((entC (noNmi d) 65530).X) ((entC (noNmi d) 65530).S) ((entC (noNmi d) 65530).Pc) ((entC (noNmi d) 65530).Z) ((entC (noNmi d) 65530).N) ((entC (noNmi d) 65530).C) ((entC (noNmi d) 65530).I)))=W4 at *;replace LX:=LX.cpu (entC (noNmi d) 65530)
 replace BX:Bx w W4 lo w.heap.size (w.heap.size+1) rs (rowL u0 u1 (.slice qa 512 qc) u3 u4 ov g6 c6 g7 c7 (putCpu (noNmi d) (enterG d.g d.S d.Pc d.Z d.N d.C d.I) (entC (noNmi d) 65530))):=BX;refine hK3 _ _ ?_;clear hK3;go_upto_region 4 with (fail);rename_i K3 hK3;refine wp_region_lit ?_;refine wpList_load_row rfl _ _ rfl w.heap.size rfl _ _ _ _ BX.box Tryz.underlying41 rfl Af ?_;refine wpList_store_row rfl _ _ _ rfl (w.heap.size+1) _ rfl rfl _ _ BX.res Af HRS.out LX.one ?_
 iterate 1 (refine wpList_plain rfl (fun K9 hK9=>?_); go_simp; refine hK9 _ _ ?_; clear hK9)
 have LXF:=LX.wrote BX (Or.inr rfl) (An BX.res (rowL u0 u1 (.slice qa 512 qc) u3 u4 ov g6 c6 g7 c7 (putCpu (noNmi d) (enterG d.g d.S d.Pc d.Z d.N d.C d.I) (entC (noNmi d) 65530))));have BXF:=BX.out (rowL u0 u1 (.slice qa 512 qc) u3 u4 ov g6 c6 g7 c7 (putCpu (noNmi d) (enterG d.g d.S d.Pc d.Z d.N d.C d.I) (entC (noNmi d) 65530)));generalize W4.setRow (w.heap.size+1) (rowL u0 u1 (.slice qa 512 qc) u3 u4 ov g6 c6 g7 c7 (putCpu (noNmi d) (enterG d.g d.S d.Pc d.Z d.N d.C d.I) (entC (noNmi d) 65530)))=W5 at *;refine hK3 _ _ ?_;clear hK3;go_wp2;refine bodyPost_ret (v:=.tuple #[.agg (rowL u0 u1 (.slice qa 512 qc) u3 u4 ov g6 c6 g7 c7 (putCpu (noNmi d) (enterG d.g d.S d.Pc d.Z d.N d.C d.I) (entC (noNmi d) 65530))),.i 7]) (Au Tryz.results144 _ _ (w.heap.size+1) _ _ _ _ rfl BXF.res Tryz.underlying41 rfl Af) rfl ?_
 have hv:actD d=putCpu (noNmi d) (enterG d.g d.S d.Pc d.Z d.N d.C d.I) (entC (noNmi d) 65530)∧Fi d=7:=by
  unfold actD Fi;rw [if_pos hnm.out,if_pos hnm.out];exact ⟨rfl,rfl⟩
 rw [hv.1,hv.2];exact ⟨_,rfl,LXF.nx,BXF.low,BXF.kept⟩
theorem Z6 (w:World) (lo:Nat) (D:Nat→Nat→Prop) (v:Value) (d:Ao) (H:Ed w lo D v d) (hlo:lo≤w.heap.size) (hok:Z9 d) (hnm:d.nmi=false) (hrr:d.R=true) (hii:d.I=false):Calls Tryz.prog 144 #[v] w fun e w'=>∃ v',e=.returned (.tuple #[v',.i (Fi d)])∧Gh w w' lo D v' (actD d)∧Below lo w w'∧Dc w w':=by
 obtain ⟨u0,u1,u2,u3,u4,ov,gb,cp,g6,c6,g7,c7,rfl,LX⟩:=H.start hlo (Below.refl w.heap.size w);replace LX:=LX.below (((Below.refl w.heap.size w).alloc (Nat.le_refl _) (.cells (rowL u0 u1 u2 u3 u4 ov g6 c6 g7 c7 d) 41)).alloc (by simp) (.cells zR 41));have BX:=Bx.start w (rowL u0 u1 u2 u3 u4 ov g6 c6 g7 c7 d) zR hlo
 go_enter Tryz.func144,Tryz.ntmps144
 go_upto_region 1 with (fail);generalize (w.alloc (.cells (rowL u0 u1 u2 u3 u4 ov g6 c6 g7 c7 d) 41)).alloc (.cells zR 41)=W0 at *;generalize hrs:(zR:Array Value)=rs at BX
 have HRS:Hid (rs.size=34):=by show _=_; rw [← hrs]; rfl
 clear hrs;have c0:=Aj BX.box;have f0:=Ar BX.box
 have f29:(rowL u0 u1 u2 u3 u4 ov g6 c6 g7 c7 d)[29]?=some (.bool false):=by rw [← hnm]; rfl
 have f26:(rowL u0 u1 u2 u3 u4 ov g6 c6 g7 c7 d)[26]?=some (.bool true):=by rw [← hrr]; rfl
 have f11:(rowL u0 u1 u2 u3 u4 ov g6 c6 g7 c7 d)[11]?=some (.bool false):=by rw [← hii]; rfl
 replace hnm:=Ac hnm;replace hrr:=Ac hrr;replace hii:=Ac hii;go_upto_region 6 with (fail);clear c0 f0 f29 f26 f11;rename_i K3 hK3;refine wp_region_lit ?_
 iterate 1 (refine wpList_plain rfl (fun K9 hK9=>?_); go_simp; refine hK9 _ _ ?_; clear hK9)
 refine A9 rfl _ _ rfl w.heap.size 0 rfl _ _ #[u0] _ _ BX.box (V9 rfl) Tryz.underlying26 rfl Lu ?_
 iterate 1 (refine wpList_plain rfl (fun K9 hK9=>?_); go_simp; refine hK9 _ _ ?_; clear hK9)
 refine A9 rfl _ _ rfl w.heap.size 2 rfl _ _ #[u2,.i d.bank] _ _ BX.box (Ss rfl rfl) Tryz.underlying29 rfl Bm ?_
 iterate 1 (refine wpList_plain rfl (fun K9 hK9=>?_); go_simp; refine hK9 _ _ ?_; clear hK9)
 refine A9 rfl _ _ rfl w.heap.size 4 rfl _ _ (cR d.A d.X d.S d.Pc d.Z d.N d.C d.I) _ _ BX.box (P6 rfl rfl rfl rfl rfl rfl rfl rfl) Tryz.underlying31 rfl Av ?_;refine Ax rfl _ _ (by kernel_rfl) (Hw W0 _ _ u0 u2 d.m d.ln d.f d.g d.bank LX.lp.h0.ints (hok.nr ▸ LX.lp.h2.int1) d.A d.X d.S d.Pc d.Z d.N d.C d.I 65534) ?_;rintro e W2 ⟨q,rfl,OI,L⟩;refine ⟨_,rfl,?_⟩;have hz1:=Ae BX.res;have hz4:=Ae BX.box;have hz2:=L.size;have hz0:=BX.low.size;replace BX:=BX.below L;obtain ⟨D',LX⟩:=(LX.below L).mem OI hok.nr LX.lp.nN hz4 hz1 (by omega) hz2;obtain ⟨qa,qc,rfl,-⟩:=OI.ex;clear OI L
 iterate 4 (refine wpList_plain rfl (fun K9 hK9=>?_); go_simp; refine hK9 _ _ ?_; clear hK9)
 refine Bg rfl _ _ _ rfl w.heap.size 2 #[.slice qa 512 qc,.i d.bank] rfl rfl _ _ BX.box Bm (by show (2+2:Nat)≤34; omega) (by first | rfl | simp [Value.oneCell']) ?_;have LX':=LX.wrote BX (Or.inl rfl) (An BX.box (putAt (rowL u0 u1 u2 u3 u4 ov g6 c6 g7 c7 d) 2 #[.slice qa 512 qc,.i d.bank]));replace BX:=BX.set (putAt (rowL u0 u1 u2 u3 u4 ov g6 c6 g7 c7 d) 2 #[.slice qa 512 qc,.i d.bank]);replace LX:=LX';clear LX';generalize W2.setRow w.heap.size (putAt (rowL u0 u1 u2 u3 u4 ov g6 c6 g7 c7 d) 2 #[.slice qa 512 qc,.i d.bank])=W3 at *;replace BX:Bx w W3 lo w.heap.size (w.heap.size+1) rs (rowL u0 u1 (.slice qa 512 qc) u3 u4 ov g6 c6 g7 c7 { d with g:=(enterG d.g d.S d.Pc d.Z d.N d.C d.I) }):=BX
 iterate 1 (refine wpList_plain rfl (fun K9 hK9=>?_); go_simp; refine hK9 _ _ ?_; clear hK9)
 refine Bg rfl _ _ _ rfl w.heap.size 4 (cR ((entC d 65534).A) ((entC d 65534).X) ((entC d 65534).S) ((entC d 65534).Pc) ((entC d 65534).Z) ((entC d 65534).N) ((entC d 65534).C) ((entC d 65534).I)) rfl rfl _ _ BX.box Av (by show (4+8:Nat)≤34; omega) (by first | rfl | simp [Value.oneCell']) ?_;have LX':=LX.wrote BX (Or.inl rfl) (An BX.box (putAt (rowL u0 u1 (.slice qa 512 qc) u3 u4 ov g6 c6 g7 c7 { d with g:=(enterG d.g d.S d.Pc d.Z d.N d.C d.I) }) 4 (cR ((entC d 65534).A) ((entC d 65534).X) ((entC d 65534).S) ((entC d 65534).Pc) ((entC d 65534).Z) ((entC d 65534).N) ((entC d 65534).C) ((entC d 65534).I))))
 replace BX:=BX.set (putAt (rowL u0 u1 (.slice qa 512 qc) u3 u4 ov g6 c6 g7 c7 { d with g:=(enterG d.g d.S d.Pc d.Z d.N d.C d.I) }) 4 (cR ((entC d 65534).A) ((entC d 65534).X) ((entC d 65534).S) ((entC d 65534).Pc) ((entC d 65534).Z) ((entC d 65534).N) ((entC d 65534).C) ((entC d 65534).I)));replace LX:=LX';clear LX';generalize W3.setRow w.heap.size (putAt (rowL u0 u1 (.slice qa 512 qc) u3 u4 ov g6 c6 g7 c7 { d with g:=(enterG d.g d.S d.Pc d.Z d.N d.C d.I) }) 4 (cR ((entC d 65534).A) ((entC d 65534).X) ((entC d 65534).S) ((entC d 65534).Pc) ((entC d 65534).Z) ((entC d 65534).N) ((entC d 65534).C) ((entC d 65534).I)))=W4 at *;replace LX:=LX.cpu (entC d 65534);replace BX:Bx w W4 lo w.heap.size (w.heap.size+1) rs (rowL u0 u1 (.slice qa 512 qc) u3 u4 ov g6 c6 g7 c7 (putCpu d (enterG d.g d.S d.Pc d.Z d.N d.C d.I) (entC d 65534))):=BX;refine hK3 _ _ ?_;clear hK3
 go_upto_region 7 with (fail);rename_i K3 hK3;refine wp_region_lit ?_;refine wpList_load_row rfl _ _ rfl w.heap.size rfl _ _ _ _ BX.box Tryz.underlying41 rfl Af ?_;refine wpList_store_row rfl _ _ _ rfl (w.heap.size+1) _ rfl rfl _ _ BX.res Af HRS.out LX.one ?_
 iterate 1 (refine wpList_plain rfl (fun K9 hK9=>?_); go_simp; refine hK9 _ _ ?_; clear hK9)
 have LXF:=LX.wrote BX (Or.inr rfl) (An BX.res (rowL u0 u1 (.slice qa 512 qc) u3 u4 ov g6 c6 g7 c7 (putCpu d (enterG d.g d.S d.Pc d.Z d.N d.C d.I) (entC d 65534))));have BXF:=BX.out (rowL u0 u1 (.slice qa 512 qc) u3 u4 ov g6 c6 g7 c7 (putCpu d (enterG d.g d.S d.Pc d.Z d.N d.C d.I) (entC d 65534)));generalize W4.setRow (w.heap.size+1) (rowL u0 u1 (.slice qa 512 qc) u3 u4 ov g6 c6 g7 c7 (putCpu d (enterG d.g d.S d.Pc d.Z d.N d.C d.I) (entC d 65534)))=W5 at *;refine hK3 _ _ ?_;clear hK3;go_wp2;refine bodyPost_ret (v:=.tuple #[.agg (rowL u0 u1 (.slice qa 512 qc) u3 u4 ov g6 c6 g7 c7 (putCpu d (enterG d.g d.S d.Pc d.Z d.N d.C d.I) (entC d 65534))),.i 7]) (Au Tryz.results144 _ _ (w.heap.size+1) _ _ _ _ rfl BXF.res Tryz.underlying41 rfl Af) rfl ?_
 have hv:actD d=putCpu d (enterG d.g d.S d.Pc d.Z d.N d.C d.I) (entC d 65534)∧Fi d=7:=by
  unfold actD Fi;rw [if_neg (by rw [hnm.out]; decide),if_pos (by rw [hrr.out,hii.out]; rfl),if_neg (by rw [hnm.out]; decide),if_pos (by rw [hrr.out,hii.out]; rfl)];exact ⟨rfl,rfl⟩
 rw [hv.1,hv.2];exact ⟨_,rfl,LXF.nx,BXF.low,BXF.kept⟩
set_option maxHeartbeats 2000000
open Go.Sort
theorem Ql (w:World) (T P C B L:Int) (S Q:Bool) (reg:Int):Calls Tryz.prog 56 #[.agg (aR T P C B L S Q),.i reg] w
  fun e w'=>e=.returned (.tuple #[.agg (aR T P C B L S (Rx true Q reg)),.i (Pl true L Q reg)])∧Below w.heap.size w w':=by
 have k0:((w.alloc (.cells (aR T P C B L S Q) 35)).alloc (.cells (aR 0 0 0 0 0 false false) 35)).heap[w.heap.size]?=some (.cells (aR T P C B L S Q) 35 (0,0)):=A4 (Al w _ _) _
 have k1:((w.alloc (.cells (aR T P C B L S Q) 35)).alloc (.cells (aR 0 0 0 0 0 false false) 35)).heap[w.heap.size+1]?=some (.cells (aR 0 0 0 0 0 false false) 35 (0,0)):=by simpa using Al (w.alloc (.cells (aR T P C B L S Q) 35)) (aR 0 0 0 0 0 false false) 35
 have L0:Below w.heap.size w ((w.alloc (.cells (aR T P C B L S Q) 35)).alloc (.cells (aR 0 0 0 0 0 false false) 35)):=((Below.refl _ _).alloc (Nat.le_refl _) _).alloc (by simp) _
 by_cases hr:reg=2
 ·subst hr
  have HQ':Hid (Rx true Q 2=false):=if_pos ⟨rfl,rfl⟩
  obtain ⟨b,hb⟩:∃ b,Hid (decide (0<L)=b):=⟨_,rfl⟩
  have HV:Hid (Pl true L Q 2=128*Bb Q+Bb b):=by rw [← hb.out]; exact if_pos ⟨rfl,rfl⟩
  rw [HQ'.out,HV.out];clear HQ' HV;have HS:=Ac (fun W h=>Uk W w.heap.size T P C B L S Q h b hb.out)
  cases Q <;> cases b
  all_goals
   go_enter Tryz.func56,Tryz.ntmps56
   go_wp2_with fail;generalize ((w.alloc (.cells (aR T P C B L S _) 35)).alloc (.cells (aR 0 0 0 0 0 false false) 35))=W0 at *;have c0:=Aj k0;have c1:=Aj k1;have f0:=Ar k0;have f1:=Ar k1;go_wp2_with fail;refine (HS.out _ k0).mono ?_;rintro e W1 ⟨rfl,rfl⟩;go_wp2;refine bodyPost_ret (v:=.tuple #[.agg (aR T P C B L S false),_]) (by simp [results,Tryz.results56,go_sem,c1]; rfl) rfl ?_;refine ⟨by simp [Bb],?_⟩;have hz0:=Ae k1
   have fin:∀ W5,Wrote (fun b _=>b=w.heap.size∨b=w.heap.size+1) W1 W5→Below w.heap.size w W5:=fun W5 h=>L0.trans (h.below L0.size (fun b o hb e=>by omega))
   refine fin _ ?_
   repeat (first | with_reducible exact Wrote.refl _ _ | with_reducible refine Wrote.drew ?_ | with_reducible refine Wrote.setCell ?_ (fun _=>by omega) _)
 ·have HQ':Hid (Rx true Q reg=Q):=if_neg (fun h=>hr h.2)
  have HV:Hid (Pl true L Q reg=0):=if_neg (fun h=>hr h.2);rw [HQ'.out,HV.out]
  have hr':(reg != 2)=true:=by simpa using hr
  clear hr
  go_enter Tryz.func56,Tryz.ntmps56
  go_wp2;refine bodyPost_ret (v:=.tuple #[.agg (aR T P C B L S Q),.i 0]) (by simp [results,Tryz.results56,go_sem]) rfl ?_;exact ⟨rfl,((Below.refl _ _).alloc (Nat.le_refl _) _).alloc (by simp) _⟩
set_option maxHeartbeats 8000000
set_option maxRecDepth 40000
theorem Bx.far {w W W':World} {lo b r:Nat} {rs cs:Array Value} (H:Bx w W lo b r rs cs) {z:Nat} (h0:w.heap.size≤z) (hz:z≠b) (hz2:z≠r) (hw:Wrote (fun x _=>x=z) W W'):Bx w W' lo b r rs cs :=
 have h2:=H.hl
 ⟨Ag H.box hw (fun o (e:b=z)=>hz e.symm),Ag H.res hw (fun o (e:r=z)=>hz2 e.symm),H.low.trans (hw.below (Nat.le_trans H.hl H.low.size) (fun x o hb (e:x=z)=>by omega)),H.kept.wrote hw (fun x o hb (e:x=z)=>by exfalso; omega),H.up,H.up2,H.ne,H.hl⟩
theorem Xl (w:World) (lo:Nat) (D:Nat→Nat→Prop) (v:Value) (d:Ao) (H:Ed w lo D v d) (hlo:lo≤w.heap.size) (hok:Z9 d) (hnq:d.nq<1048576) (hnm:d.nmi=false) (hnc:(d.R && !d.I)=false):Calls Tryz.prog 144 #[v] w fun e w'=>∃ v',e=.returned (.tuple #[v',.i (Fi d)])∧Gh w w' lo D v' (actD d)∧Below lo w w'∧Dc w w':=by
 obtain ⟨y0,y1,y2,y3,y4,ov,gb,cp,g6,c6,g7,c7,rfl,LX⟩:=H.start hlo (Below.refl w.heap.size w);replace LX:=LX.below (((Below.refl w.heap.size w).alloc (Nat.le_refl _) (.cells (rowL y0 y1 y2 y3 y4 ov g6 c6 g7 c7 d) 41)).alloc (by simp) (.cells zR 41));have BX:=Bx.start w (rowL y0 y1 y2 y3 y4 ov g6 c6 g7 c7 d) zR hlo
 go_enter Tryz.func144,Tryz.ntmps144
 go_upto_region 1 with (fail);generalize (w.alloc (.cells (rowL y0 y1 y2 y3 y4 ov g6 c6 g7 c7 d) 41)).alloc (.cells zR 41)=W0 at *;generalize hrs:(zR:Array Value)=rs at BX
 have HRS:Hid (rs.size=34):=by show _=_; rw [← hrs]; rfl
 clear hrs;have c0:=Aj BX.box;have f0:=Ar BX.box
 obtain ⟨rr,hrr⟩:∃ x,Hid (x=d.R):=⟨_,rfl⟩
 obtain ⟨ii,hii⟩:∃ x,Hid (x=d.I):=⟨_,rfl⟩
 have hc:Hid ((rr && !ii)=false):=by show _=_; rw [hrr.out,hii.out]; exact hnc
 have f29:(rowL y0 y1 y2 y3 y4 ov g6 c6 g7 c7 d)[29]?=some (.bool false):=by rw [← hnm]; rfl
 have f26:(rowL y0 y1 y2 y3 y4 ov g6 c6 g7 c7 d)[26]?=some (.bool rr):=by rw [hrr.out]; rfl
 have f11:(rowL y0 y1 y2 y3 y4 ov g6 c6 g7 c7 d)[11]?=some (.bool ii):=by rw [hii.out]; rfl
 replace hnm:=Ac hnm;replace hnc:=Ac hnc;go_upto_region 5 with (fail)
 go_cut [33] (fun s wc=>s=.bool false∧wc=W0)
 case first =>
  cases rr with
  | false =>
   go_wp2_with fail
   go_meet
   exact ⟨rfl,rfl⟩
  | true =>
   cases ii with
   | false=>exact absurd hc.out (by decide)
   | true =>
    go_wp2_with fail
    go_meet
    exact ⟨rfl,rfl⟩
 case rest =>
 obtain ⟨rfl,rfl⟩:=hcut;clear hrr hii hc rr ii f26 f11;go_upto_region 8 with (fail);clear c0 f0 f29
 obtain ⟨op,hop⟩:∃ x,Hid (x=peekV d.m d.ln d.f d.nr d.g d.bank d.Pc):=⟨_,rfl⟩
 obtain ⟨ar,har⟩:∃ x,Hid (x=Kw (peekV d.m d.ln d.f d.nr d.g d.bank) d.Pc):=⟨_,rfl⟩
 have HFE:=Ac (fun W F G v u h (k:Ints .i64 W G u d.nr d.g)=>Ue W F G v u d.m d.ln d.f d.nr d.g d.bank d.Pc h k);rw [← har.out,← hop.out] at HFE
 obtain ⟨ac,hac⟩:∃ x,Hid (x=Dp op):=⟨_,rfl⟩
 obtain ⟨at',hat⟩:∃ x,Hid (x=I5 op ar d.X):=⟨_,rfl⟩
 obtain ⟨va,hva⟩:∃ x,Hid (x=Ud op d.A):=⟨_,rfl⟩
 obtain ⟨cy,hcy⟩:∃ x,Hid (x=Xg op):=⟨_,rfl⟩
 obtain ⟨d2,hd2⟩:∃ x,Hid (x=Dj d op ar):=⟨_,rfl⟩
 obtain ⟨xx,hxx⟩:∃ x,Hid (x=Ls d op ar):=⟨_,rfl⟩
 obtain ⟨gx,hgx⟩:∃ x,Hid (x=Gx d2.g (Ec d2) op):=⟨_,rfl⟩
 obtain ⟨cx,hcx⟩:∃ x,Hid (x=E5 d2.g (Ec d2) op ar xx):=⟨_,rfl⟩
 have HAC:=Ac (fun W=>Rq W op ar d.A d.X d.S d.Pc d.Z d.N d.C d.I);rw [← hac.out,← hat.out,← hva.out] at HAC;have HRD:=Ac (fun W v h hl=>Xi W lo D v d at' h hl hok.ok hnq);have HWR:=Ac (fun W v h hl=>U0 W lo D v d at' va h hl hok.ok);have M2:=J4 d op ar hok.row;rw [← hd2.out] at M2;have N5:d2.nr=512:=M2.2.2.1.trans hok.nr
 have P5:0≤(Ec d2).Pc∧(Ec d2).Pc≤65535:=by rw [M2.2.2.2.2.1]; exact hok.cpu.2.2.2
 have HEX:=Ac (fun W G u (k:Ints .i64 W G u d2.nr d2.g)=>Pb W G u d2.g d2.bank (N5 ▸ k) (Ec d2) P5 op ar xx);rw [← hgx.out,← hcx.out] at HEX;simp only [Ec,Bh.v] at HEX
 have HCY:Hid (∀ W,Calls Tryz.prog 152 #[.i op] W fun e w'=>e=.returned (.i cy)∧Below W.heap.size W w'):=fun W=>by rw [hcy.out]; exact N4 W op
 have HVC:Hid (d.nmi=false→(d.R && !d.I)=false→actD d=putCpu d2 gx cx∧Fi d=cy):=by
  intro e1 e2;unfold actD Fi;rw [if_neg (by rw [e1]; decide),if_neg (by rw [e2]; decide),if_neg (by rw [e1]; decide),if_neg (by rw [e2]; decide)];unfold opD Xf opO opA;rw [← hop.out,← har.out,← hd2.out,← hxx.out,← hgx.out,← hcx.out,hcy.out];exact ⟨rfl,rfl⟩
 have HR1:Hid (ac=1→Bd d at'=d2∧Bo d at'=xx):=by
  intro e
  have e':Dp op=1:=by rw [← hac.out]; exact e
  rw [hd2.out,hxx.out,hat.out];unfold Dj Ls;rw [if_pos e',if_pos e'];exact ⟨rfl,rfl⟩
 have HR2:Hid (ac=2→A6 d at' va=d2∧(0:Int)=xx):=by
  intro e
  have e':Dp op=2:=by rw [← hac.out]; exact e
  rw [hd2.out,hxx.out,hat.out,hva.out];unfold Dj Ls;rw [if_neg (by rw [e']; decide),if_pos e',if_neg (by rw [e']; decide)];exact ⟨rfl,rfl⟩
 have HR0:Hid (ac≠1→ac≠2→d=d2∧(0:Int)=xx):=by
  intro e1 e2
  have e1':¬ Dp op=1:=by rw [← hac.out]; exact e1
  have e2':¬ Dp op=2:=by rw [← hac.out]; exact e2
  rw [hd2.out,hxx.out];unfold Dj Ls;rw [if_neg e1',if_neg e2',if_neg e1'];exact ⟨rfl,rfl⟩
 clear hop har hat hva hcy hac M2 P5;replace N5:=Ac N5;rename_i K3 hK3;refine wp_region_lit ?_
 iterate 1 (refine wpList_plain rfl (fun K9 hK9=>?_); go_simp; refine hK9 _ _ ?_; clear hK9)
 refine A9 rfl _ _ rfl w.heap.size 0 rfl _ _ #[y0] _ _ BX.box (V9 rfl) Tryz.underlying26 rfl Lu ?_
 iterate 1 (refine wpList_plain rfl (fun K9 hK9=>?_); go_simp; refine hK9 _ _ ?_; clear hK9)
 refine A9 rfl _ _ rfl w.heap.size 2 rfl _ _ #[y2,.i d.bank] _ _ BX.box (Ss rfl rfl) Tryz.underlying29 rfl Bm ?_
 iterate 2 (refine wpList_plain rfl (fun K9 hK9=>?_); go_simp; refine hK9 _ _ ?_; clear hK9)
 have c0:=Aj BX.box;have f7:(rowL y0 y1 y2 y3 y4 ov g6 c6 g7 c7 d)[7]?=some (.i d.Pc):=rfl
 iterate 1 (refine wpList_plain rfl (fun K9 hK9=>?_); go_simp; refine hK9 _ _ ?_; clear hK9)
 clear c0 f7;refine Ax rfl _ _ (by kernel_rfl) (HFE.out _ _ _ _ _ LX.lp.h0.ints LX.lp.h2.int1) ?_;rintro e W1 ⟨rfl,L⟩;refine ⟨_,rfl,?_⟩;replace BX:=BX.below L;replace LX:=LX.below L;clear L HFE
 iterate 2 (refine wpList_plain rfl (fun K9 hK9=>?_); go_simp; refine hK9 _ _ ?_; clear hK9)
 have LA:Below W1.heap.size W1 (W1.alloc (.cells #[.i op,.i ar] 162)):=(Below.refl _ _).alloc (Nat.le_refl _) _;have kp:=Al W1 #[.i op,.i ar] 162
 obtain ⟨pp,hpp⟩:∃ x,Hid (x=W1.heap.size):=⟨_,rfl⟩
 have lpp:w.heap.size+1<pp:=by rw [hpp.out]; exact Ae BX.res
 rw [← hpp.out] at kp ⊢;replace BX:=BX.below LA;replace LX:=LX.below LA;clear LA hpp;generalize W1.alloc (.cells #[.i op,.i ar] 162)=WA at *;refine hK3 _ _ ?_;clear hK3;go_upto_region 9 with (fail);rename_i K3 hK3;refine wp_region_lit ?_;refine wpList_load_row rfl _ _ rfl pp rfl _ _ _ _ kp Tryz.underlying162 rfl Lv ?_
 iterate 1 (refine wpList_plain rfl (fun K9 hK9=>?_); go_simp; refine hK9 _ _ ?_; clear hK9)
 refine A9 rfl _ _ rfl w.heap.size 4 rfl _ _ (cR d.A d.X d.S d.Pc d.Z d.N d.C d.I) _ _ BX.box (P6 rfl rfl rfl rfl rfl rfl rfl rfl) Tryz.underlying31 rfl Av ?_;refine Ax rfl _ _ (by kernel_rfl) (HAC.out WA) ?_;rintro e W2 ⟨rfl,L⟩;refine ⟨_,rfl,?_⟩;replace BX:=BX.below L;replace LX:=LX.below L;replace kp:=Aa kp L (Ae kp);clear L HAC
 iterate 7 (refine wpList_plain rfl (fun K9 hK9=>?_); go_simp; refine hK9 _ _ ?_; clear hK9)
 refine hK3 _ _ ?_;clear hK3
 go_upto_block 0 with (fail)
 go_cut [8] (fun s WX=>s=.i xx∧∃ (N0:Nat) (D3:Nat→Nat→Prop) (y0 y1 y2 y3 y4 ov:Value) (gb cp:Nat→Nat) (g6 c6 g7 c7:Nat),Bx w WX lo w.heap.size (w.heap.size+1) rs (rowL y0 y1 y2 y3 y4 ov g6 c6 g7 c7 d2)∧Lx w WX lo N0 w.heap.size (w.heap.size+1) D D3 y0 y1 y2 y3 y4 ov gb cp g6 c6 g7 c7 d2∧WX.heap[pp]?=some (.cells #[.i op,.i ar] 162 (0,0)))
 case first =>
  by_cases r1:ac=1
  ·obtain ⟨eD,eX⟩:=HR1.out r1
   have q1:(ac==1)=true:=by simp [r1]
   clear r1;clear HR1 HR2 HR0;go_upto_region 13 with (fail);rename_i K3 hK3;refine wp_region_lit ?_;have hz2:=BX.low.size;have hlw:=BX.hl;refine wpList_load_row rfl _ _ rfl w.heap.size rfl _ _ _ _ BX.box Tryz.underlying41 rfl Af ?_
   iterate 1 (refine wpList_plain rfl (fun K9 hK9=>?_); go_simp; refine hK9 _ _ ?_; clear hK9)
   refine Ax rfl _ _ (by kernel_rfl) (HRD.out _ _ LX.lp.x (by omega)) ?_;rintro e W3 ⟨v3,rfl,HN,LB,KB⟩;refine ⟨_,rfl,?_⟩;rw [eD] at HN;rw [eX];have hz3:=LB.size;obtain ⟨D3,y0,y1,y2,y3,y4,ov,gb,cp,g6,c6,g7,c7,rfl,LX3⟩:=HN.lx LX.ap LX.nr (Ae BX.box) (Ae BX.res) hz2 (by omega);replace BX:=BX.turn LB KB;replace kp:=KB.2 _ _ _ kp (by decide) (by decide);clear HN LB KB LX HRD HWR
   iterate 3 (refine wpList_plain rfl (fun K9 hK9=>?_); go_simp; refine hK9 _ _ ?_; clear hK9)
   refine wpList_store_row rfl _ _ _ rfl w.heap.size _ rfl rfl _ _ BX.box Af rfl LX3.one ?_
   iterate 1 (refine wpList_plain rfl (fun K9 hK9=>?_); go_simp; refine hK9 _ _ ?_; clear hK9)
   have LX:=LX3.wrote BX (Or.inl rfl) (An BX.box (rowL y0 y1 y2 y3 y4 ov g6 c6 g7 c7 d2));replace kp:=Ag kp (An BX.box (rowL y0 y1 y2 y3 y4 ov g6 c6 g7 c7 d2)) (fun o (e:pp=_)=>by omega);replace BX:=BX.set (rowL y0 y1 y2 y3 y4 ov g6 c6 g7 c7 d2);clear LX3;generalize W3.setRow w.heap.size (rowL y0 y1 y2 y3 y4 ov g6 c6 g7 c7 d2)=W4 at *;refine hK3 _ _ ?_;clear hK3;go_wp2_with fail
   go_meet
   exact ⟨rfl,_,_,_,_,_,_,_,_,_,_,_,_,_,_,BX,LX,kp⟩
  ·by_cases r2:ac=2
   ·obtain ⟨eD,eX⟩:=HR2.out r2
    have q1:(ac==1)=false:=by simp [r1]
    have q2:(ac==2)=true:=by simp [r2]
    clear r1 r2;clear HR1 HR2 HR0;go_upto_region 15 with (fail);rename_i K3 hK3;refine wp_region_lit ?_;have hz2:=BX.low.size;have hlw:=BX.hl;refine wpList_load_row rfl _ _ rfl w.heap.size rfl _ _ _ _ BX.box Tryz.underlying41 rfl Af ?_
    iterate 2 (refine wpList_plain rfl (fun K9 hK9=>?_); go_simp; refine hK9 _ _ ?_; clear hK9)
    refine Ax rfl _ _ (by kernel_rfl) (HWR.out _ _ LX.lp.x (by omega)) ?_;rintro e W3 ⟨v3,rfl,HN,LB'⟩;refine ⟨_,rfl,?_⟩;rw [eD] at HN;have KB:=Dc.below LB';have LB:=LB'.mono (show lo≤W2.heap.size by omega);clear LB';have hz3:=LB.size;obtain ⟨D3,y0,y1,y2,y3,y4,ov,gb,cp,g6,c6,g7,c7,rfl,LX3⟩:=HN.lx LX.ap LX.nr (Ae BX.box) (Ae BX.res) hz2 (by omega);replace BX:=BX.turn LB KB;replace kp:=KB.2 _ _ _ kp (by decide) (by decide);clear HN LB KB LX HRD HWR;refine wpList_store_row rfl _ _ _ rfl w.heap.size _ rfl rfl _ _ BX.box Af rfl LX3.one ?_;have LX:=LX3.wrote BX (Or.inl rfl) (An BX.box (rowL y0 y1 y2 y3 y4 ov g6 c6 g7 c7 d2));replace kp:=Ag kp (An BX.box (rowL y0 y1 y2 y3 y4 ov g6 c6 g7 c7 d2)) (fun o (e:pp=_)=>by omega);replace BX:=BX.set (rowL y0 y1 y2 y3 y4 ov g6 c6 g7 c7 d2);clear LX3
    generalize W3.setRow w.heap.size (rowL y0 y1 y2 y3 y4 ov g6 c6 g7 c7 d2)=W4 at *;refine hK3 _ _ ?_;clear hK3;subst eX;go_wp2_with fail
    go_meet
    exact ⟨rfl,_,_,_,_,_,_,_,_,_,_,_,_,_,_,BX,LX,kp⟩
   ·obtain ⟨eD,eX⟩:=HR0.out r1 r2
    have q1:(ac==1)=false:=by simp [r1]
    have q2:(ac==2)=false:=by simp [r2]
    clear r1 r2 HR1 HR2 HR0 HRD HWR;subst eD;subst eX;go_wp2_with fail
    go_meet
    exact ⟨rfl,_,_,_,_,_,_,_,_,_,_,_,_,_,_,BX,LX,kp⟩
 case rest =>
 clear BX LX kp HR1 HR2 HR0 HRD HWR;obtain ⟨rfl,N0,D3,y0,y1,y2,y3,y4,ov,gb,cp,g6,c6,g7,c7,BX,LX,kp⟩:=hcut
 obtain ⟨W4,hW4⟩:∃ x,x=wc:=⟨_,rfl⟩
 subst hW4;go_upto_region 16 with (fail);rename_i K3 hK3;refine wp_region_lit ?_
 iterate 1 (refine wpList_plain rfl (fun K9 hK9=>?_); go_simp; refine hK9 _ _ ?_; clear hK9)
 refine A9 rfl _ _ rfl w.heap.size 2 rfl _ _ #[y2,.i d2.bank] _ _ BX.box (Ss rfl rfl) Tryz.underlying29 rfl Bm ?_
 iterate 1 (refine wpList_plain rfl (fun K9 hK9=>?_); go_simp; refine hK9 _ _ ?_; clear hK9)
 refine A9 rfl _ _ rfl w.heap.size 4 rfl _ _ (cR d2.A d2.X d2.S d2.Pc d2.Z d2.N d2.C d2.I) _ _ BX.box (P6 rfl rfl rfl rfl rfl rfl rfl rfl) Tryz.underlying31 rfl Av ?_;refine wpList_load_row rfl _ _ rfl pp rfl _ _ _ _ kp Tryz.underlying162 rfl Lv ?_
 iterate 1 (refine wpList_plain rfl (fun K9 hK9=>?_); go_simp; refine hK9 _ _ ?_; clear hK9)
 refine Ax rfl _ _ (by kernel_rfl) (HEX.out _ _ _ LX.lp.h2.int1) ?_;rintro e W5 ⟨q,rfl,OI,L⟩;refine ⟨_,rfl,?_⟩;replace kp:=Aa kp L (Ae kp);clear HEX;have hz1:=Ae BX.res;have hz4:=Ae BX.box;have hz2:=L.size;have hz0:=BX.low.size;replace BX:=BX.below L;obtain ⟨D',LX⟩:=(LX.below L).mem OI N5.out LX.lp.nN hz4 hz1 (by omega) hz2;obtain ⟨qa,qc,rfl,-⟩:=OI.ex;clear OI L
 iterate 4 (refine wpList_plain rfl (fun K9 hK9=>?_); go_simp; refine hK9 _ _ ?_; clear hK9)
 refine Bg rfl _ _ _ rfl w.heap.size 2 #[.slice qa 512 qc,.i d2.bank] rfl rfl _ _ BX.box Bm (by show (2+2:Nat)≤34; omega) (by first | rfl | simp [Value.oneCell']) ?_;replace kp:=Ag kp (An BX.box (putAt (rowL y0 y1 y2 y3 y4 ov g6 c6 g7 c7 d2) 2 #[.slice qa 512 qc,.i d2.bank])) (fun o (e:pp=_)=>by omega);have LX':=LX.wrote BX (Or.inl rfl) (An BX.box (putAt (rowL y0 y1 y2 y3 y4 ov g6 c6 g7 c7 d2) 2 #[.slice qa 512 qc,.i d2.bank]));replace BX:=BX.set (putAt (rowL y0 y1 y2 y3 y4 ov g6 c6 g7 c7 d2) 2 #[.slice qa 512 qc,.i d2.bank]);replace LX:=LX';clear LX';generalize W5.setRow w.heap.size (putAt (rowL y0 y1 y2 y3 y4 ov g6 c6 g7 c7 d2) 2 #[.slice qa 512 qc,.i d2.bank])=W6 at *;replace BX:Bx w W6 lo w.heap.size (w.heap.size+1) rs (rowL y0 y1 (.slice qa 512 qc) y3 y4 ov g6 c6 g7 c7 { d2 with g:=gx }):=BX
 iterate 1 (refine wpList_plain rfl (fun K9 hK9=>?_); go_simp; refine hK9 _ _ ?_; clear hK9)
 refine Bg rfl _ _ _ rfl w.heap.size 4 (cR cx.A cx.X cx.S cx.Pc cx.Z cx.N cx.C cx.I) rfl rfl _ _ BX.box Av (by show (4+8:Nat)≤34; omega) (by first | rfl | simp [Value.oneCell']) ?_;replace kp:=Ag kp (An BX.box (putAt (rowL y0 y1 (.slice qa 512 qc) y3 y4 ov g6 c6 g7 c7 { d2 with g:=gx }) 4 (cR cx.A cx.X cx.S cx.Pc cx.Z cx.N cx.C cx.I))) (fun o (e:pp=_)=>by omega);have LX':=LX.wrote BX (Or.inl rfl) (An BX.box (putAt (rowL y0 y1 (.slice qa 512 qc) y3 y4 ov g6 c6 g7 c7 { d2 with g:=gx }) 4 (cR cx.A cx.X cx.S cx.Pc cx.Z cx.N cx.C cx.I)));replace BX:=BX.set (putAt (rowL y0 y1 (.slice qa 512 qc) y3 y4 ov g6 c6 g7 c7 { d2 with g:=gx }) 4 (cR cx.A cx.X cx.S cx.Pc cx.Z cx.N cx.C cx.I));replace LX:=LX';clear LX'
 generalize W6.setRow w.heap.size (putAt (rowL y0 y1 (.slice qa 512 qc) y3 y4 ov g6 c6 g7 c7 { d2 with g:=gx }) 4 (cR cx.A cx.X cx.S cx.Pc cx.Z cx.N cx.C cx.I))=W7 at *;replace LX:=LX.cpu cx;replace BX:Bx w W7 lo w.heap.size (w.heap.size+1) rs (rowL y0 y1 (.slice qa 512 qc) y3 y4 ov g6 c6 g7 c7 (putCpu d2 gx cx)):=BX;refine hK3 _ _ ?_;clear hK3;go_upto_region 17 with (fail);rename_i K2 hK2;have HBX:=Ac BX;have HLX:=Ac LX;have lqq:=Ae BX.res
 refine Bi [some 90,some 91,some 92,some 93,none,some 3] (by kernel_rfl) (by kernel_rfl) (by kernel_rfl) (by kernel_rfl) (by first | (simp [slotsOf]; done) | (simp [slotsOf,Act.put]; done))
  (fun j b _=>j=4∧b=w.heap.size+1)
  (fun i v W=>match i with
   | 0=>v=.agg (rowL y0 y1 (.slice qa 512 qc) y3 y4 ov g6 c6 g7 c7 (putCpu d2 gx cx))
   | 1=>v=(pt pp 0)
   | 2=>v=.i op
   | 3=>v=.i cy
   | 4=>W.heap[w.heap.size+1]?=some (.cells (rowL y0 y1 (.slice qa 512 qc) y3 y4 ov g6 c6 g7 c7 (putCpu d2 gx cx)) 41 (0,0))
   | _=>v=.i cy) ?_ ?_ ?_
 ·intro i j o v W W' hij _ _ hW h
  match i,hij,h with
  | 0,_,h=>exact h
  | 1,_,h=>exact h
  | 2,_,h=>exact h
  | 3,_,h=>exact h
  | 4,hij,h=>exact Ag h hW (fun o e=>hij e.1.symm)
  | _+5,_,h=>exact h
 ·intro i o a' W K ho F L hw hK
  have t1:=F.get (t:=1) (v:=(pt w.heap.size 0)) (by decide) rfl;have t2:=F.get (t:=2) (v:=(pt (w.heap.size+1) 0)) (by decide) rfl;have t4:=F.get (t:=4) (v:=(pt pp 0)) (by decide) rfl;have rB:=Ag HBX.out.box L (fun o ⟨j,_,_,_,_,_,e⟩=>by omega);have rP:=Ag kp L (fun o ⟨j,_,_,_,_,_,e⟩=>by omega);have rp:=Aj rP
  match i with
  | 0 =>
   cases ho;refine wp_load_row _ _ rfl w.heap.size (by simpa [Act.eval] using t1) _ _ _ _ rB Tryz.underlying41 rfl Af ?_;exact Hk hK rfl
  | 1 =>
   cases ho;go_simp;exact Hk hK rfl
  | 2 =>
   cases ho;have q1:tv a' 91=_:=Hr hw 1;go_simp;exact Hk hK rfl
  | 3 =>
   cases ho;have q2:tv a' 92=_:=Hr hw 2;go_simp;refine (HCY.out W).mono ?_;rintro e W' ⟨rfl,LX⟩;exact hK _ _ (Ab LX _) rfl
  | 4 =>
   cases ho;have q0:tv a' 90=_:=Hr hw 0;have rB1:=Ag HBX.out.res L (fun o ⟨j,_,hj,_,_,e,_⟩=>hj e);refine wp_store_row _ _ _ rfl (w.heap.size+1) (rowL y0 y1 (.slice qa 512 qc) y3 y4 ov g6 c6 g7 c7 (putCpu d2 gx cx)) (by simpa [Act.eval] using t2) (by simpa [Act.eval] using q0) _ _ rB1 Af HRS.out HLX.out.one ?_;exact hK undef _ ((An rB1 _).mono (fun b o _ h=>⟨rfl,h⟩)) (setRow_heap _ _ _ _ _ _ rB1)
  | 5 =>
   cases ho;have q3:tv a' 93=_:=Hr hw 3;go_simp;exact Hk hK rfl
  | _+6=>simp at ho
 ·intro a' W F L hφ
  have p4:W.heap[w.heap.size+1]?=some (.cells (rowL y0 y1 (.slice qa 512 qc) y3 y4 ov g6 c6 g7 c7 (putCpu d2 gx cx)) 41 (0,0)):=Hd hφ 4;have p5:a'.tmps[3]?.getD undef=_:=Hd hφ 5;have L':Wrote (fun x _=>x=w.heap.size+1) W7 W:=L.mono (fun b o _ ⟨j,_,e⟩=>e);have LXF:=Ac (HLX.out.wrote HBX.out (Or.inr rfl) L');have LKF:=Ac (HBX.out.wrote (Or.inr rfl) L');rw [F.same,show slotsOf [some 90,some 91,some 92,some 93,none,some 3]=[90,91,92,93,3] from rfl];simp only [List.foldl_cons,List.foldl_nil];rw [p5];generalize a'.tmps[90]?.getD undef=s90;generalize a'.tmps[91]?.getD undef=s91;generalize a'.tmps[92]?.getD undef=s92;generalize a'.tmps[93]?.getD undef=s93;clear hφ L F p5 L' HLX HBX kp BX LX;refine hK2 _ _ ?_;go_simp;go_wp2
  refine bodyPost_ret (v:=.tuple #[.agg (rowL y0 y1 (.slice qa 512 qc) y3 y4 ov g6 c6 g7 c7 (putCpu d2 gx cx)),.i cy]) (Au Tryz.results144 _ _ (w.heap.size+1) _ _ _ _ rfl p4 Tryz.underlying41 rfl Af) rfl ?_;rw [(HVC.out hnm.out hnc.out).1,(HVC.out hnm.out hnc.out).2];exact ⟨_,rfl,LXF.out.nx,LKF.out.1,LKF.out.2⟩
end Go.Proofs.YtjnjnppongdhgaaGreat
