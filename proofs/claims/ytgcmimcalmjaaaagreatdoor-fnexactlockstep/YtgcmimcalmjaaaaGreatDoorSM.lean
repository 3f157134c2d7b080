import Derived.Test.YtgcmimcalmjaaaaGreatDoorSW
import Derived.Test.YtgcmimcalmjaaaaGreatDoorSZ
import Derived.Test.YtgcmimcalmjaaaaGreatDoorEB
namespace Go.Proofs.YtgcmimcalmjaaaaGreatDoor
set_option linter.unusedVariables false
set_option linter.unusedSimpArgs false
open Go.ChangeShapes Go.WideShapes Go.ChangeAt Go.RowKit
theorem Br {P:Program} {ops:Array Oper} {rest:List Oper} {o:Oper} {a:Act} {w:World} {Q:Exit→Act→World→Prop} (hg:o.guard=none)
  (f:FuncId) (args:Array Value) (hrun:(execOp a.eval o).run P w=.ok (.enter f args) w) {R:Ending→World→Prop} (hc:Calls P f args w R)
  (h:∀ e w',R e w'→∃ v,e=.returned v∧wpList P ops Q rest (a.put o.dst v) w'):wpList P ops Q (o :: rest) a w:=by
 refine wpList_plain hg fun K hK=>?_
 unfold Oper.wp;rw [hrun,Oper.upon_enter]
 refine hc.mono fun e w' hh=>?_
 obtain ⟨v,rfl,hw⟩:=h e w' hh;exact hK _ _ hw
theorem Z8 {W:World} {g z:Nat} {c1 c2:Array Value} {t1 t2:TypeId} {f1 f2:Nat × Nat} (h:W.heap[g]?=some (Obj.cells c1 t1 f1)) (k:W.heap[z]?=some (Obj.cells c2 t2 f2)) (ht:t1≠t2):g≠z:=fun e=>by
 subst e;rw [h] at k
 injection k with k
 injection k with _ k' _
 exact ht k'
def rowL (u0 u1 u2 u3 u4 ov:Value) (g6 c6 g7 c7:Nat) (d:Aq):Array Value:=(kR d u0 u1 u2 u3 u4 ov (.slice (some ⟨g6,0,none⟩) d.ns c6) (.slice (some ⟨g7,0,none⟩) d.nq c7))
structure Bx (w W:World) (lo b r:Nat) (rs cs:Array Value):Prop where
 box:W.heap[b]?=some (.cells cs 49 (0,0))
 res:W.heap[r]?=some (.cells rs 49 (0,0))
 low:Below lo w W
 kept:Dv w W
 up:w.heap.size≤b
 up2:w.heap.size≤r
 ne:r≠b
 hl:lo≤w.heap.size
section
variable {w W W':World} {lo b r:Nat} {rs cs:Array Value}
theorem Bx.below (H:Bx w W lo b r rs cs) (L:Below W.heap.size W W'):Bx w W' lo b r rs cs :=
 ⟨Aa H.box L (Ac H.box),Aa H.res L (Ac H.res),H.low.trans (L.mono (Nat.le_trans H.hl H.low.size)),H.kept.trans (Dv.below L),H.up,H.up2,H.ne,H.hl⟩
theorem Bx.turn (H:Bx w W lo b r rs cs) (L:Below lo W W') (K:Dv W W'):Bx w W' lo b r rs cs :=
 ⟨K.2 _ _ _ H.box (by decide) (by decide),K.2 _ _ _ H.res (by decide) (by decide),H.low.trans L,H.kept.trans K,H.up,H.up2,H.ne,H.hl⟩
theorem Bx.wrote (H:Bx w W lo b r rs cs) {z:Nat} (hz:z=b∨z=r) (hw:Wrote (fun x _=>x=z) W W'):Below lo w W'∧Dv w W' :=
 have h1:=H.up;have h3:=H.up2;have h2:=H.hl
 ⟨H.low.trans (hw.below (Nat.le_trans H.hl H.low.size) (fun x o hb (e:x=z)=>by omega)),H.kept.wrote hw (fun x o hb (e:x=z)=>by exfalso; omega)⟩
theorem Bx.set (H:Bx w W lo b r rs cs) (cs':Array Value):Bx w (W.setRow b cs') lo b r rs cs' :=
 have hw:=Au H.box cs';have k:=H.wrote (Or.inl rfl) hw
 ⟨setRow_heap _ _ _ cs' _ _ H.box,Ah H.res hw (fun o (e:r=b)=>H.ne e),k.1,k.2,H.up,H.up2,H.ne,H.hl⟩
theorem Bx.out (H:Bx w W lo b r rs cs) (rs':Array Value):Bx w (W.setRow r rs') lo b r rs' cs :=
 have hw:=Au H.res rs';have k:=H.wrote (Or.inr rfl) hw
 ⟨Ah H.box hw (fun o (e:b=r)=>H.ne e.symm),setRow_heap _ _ _ rs' _ _ H.res,k.1,k.2,H.up,H.up2,H.ne,H.hl⟩
theorem Bx.cellW (H:Bx w W lo b r rs cs) (o:Nat) (v:Value):Wrote (fun x _=>x=b) W (W.setCell ⟨b,o,none⟩ v):=Wrote.setCell (b:=b) (o:=o) (R:=fun x _=>x=b) (Wrote.refl _ W) (fun _=>rfl) v
theorem Bx.cell (H:Bx w W lo b r rs cs) (o:Nat) (v:Value):Bx w (W.setCell ⟨b,o,none⟩ v) lo b r rs (cs.setIfInBounds o v) :=
 have hw:=H.cellW o v;have k:=H.wrote (Or.inl rfl) hw
 ⟨Af H.box v,Ah H.res hw (fun o (e:r=b)=>H.ne e),k.1,k.2,H.up,H.up2,H.ne,H.hl⟩
end
structure Lx (w W:World) (lo N b r:Nat) (E D:Nat→Nat→Prop) (u0 u1 u2 u3 u4 ov:Value) (gb cp:Nat→Nat) (g6 c6 g7 c7:Nat) (d:Aq):Prop where
 lp:A3 W lo N D u0 u1 u2 u3 u4 ov gb cp g6 c6 g7 c7 d
 ap:∀ i k,D i k→k≠b∧k≠r
 nr:Sg w E D
 nl:lo≤N
section
variable {w W W':World} {lo N b r:Nat} {E D:Nat→Nat→Prop} {u0 u1 u2 u3 u4 ov:Value} {gb cp:Nat→Nat} {g6 c6 g7 c7:Nat} {d:Aq} {rs cs:Array Value}
theorem Lx.below (H:Lx w W lo N b r E D u0 u1 u2 u3 u4 ov gb cp g6 c6 g7 c7 d) (L:Below W.heap.size W W'):Lx w W' lo N b r E D u0 u1 u2 u3 u4 ov gb cp g6 c6 g7 c7 d:=⟨H.lp.below L,H.ap,H.nr,H.nl⟩
theorem Lx.wrote (H:Lx w W lo N b r E D u0 u1 u2 u3 u4 ov gb cp g6 c6 g7 c7 d) (B:Bx w W lo b r rs cs) {z:Nat} (hz:z=b∨z=r) (hw:Wrote (fun x _=>x=z) W W'):Lx w W' lo N b r E D u0 u1 u2 u3 u4 ov gb cp g6 c6 g7 c7 d:=by
 have kz:∃ c,W.heap[z]?=some (.cells c 49 (0,0)):=by
  rcases hz with e | e
  ·exact ⟨_,e ▸ B.box⟩
  ·exact ⟨_,e ▸ B.res⟩
 obtain ⟨c,kz⟩:=kz;obtain ⟨k6,h6⟩:=H.lp.h6.cur;obtain ⟨k7,h7⟩:=H.lp.h7.cur;exact ⟨H.lp.keepD hw (fun i x o h (e:x=z)=>by have:=H.ap i x h; omega) (fun o (e:g6=z)=>Z8 h6 kz (by decide) e) (fun o (e:g7=z)=>Z8 h7 kz (by decide) e),H.ap,H.nr,H.nl⟩
theorem Lx.nmi (H:Lx w W lo N b r E D u0 u1 u2 u3 u4 ov gb cp g6 c6 g7 c7 d) (x:Bool):Lx w W lo N b r E D u0 u1 u2 u3 u4 ov gb cp g6 c6 g7 c7 { d with nmi:=x } :=
 ⟨⟨H.lp.h0,H.lp.h1,H.lp.h2,H.lp.h3,H.lp.h4,H.lp.h4D,H.lp.h6,H.lp.h6D,H.lp.h7,H.lp.h7D,H.lp.dis,H.lp.bd,H.lp.n6,H.lp.n7,H.lp.nN,H.lp.hps⟩,H.ap,H.nr,H.nl⟩
theorem Lx.cpu (H:Lx w W lo N b r E D u0 u1 u2 u3 u4 ov gb cp g6 c6 g7 c7 d) (c:A4):Lx w W lo N b r E D u0 u1 u2 u3 u4 ov gb cp g6 c6 g7 c7 (putCpu d d.g c) :=
 ⟨⟨H.lp.h0,H.lp.h1,H.lp.h2,H.lp.h3,H.lp.h4,H.lp.h4D,H.lp.h6,H.lp.h6D,H.lp.h7,H.lp.h7D,H.lp.dis,H.lp.bd,H.lp.n6,H.lp.n7,H.lp.nN,H.lp.hps⟩,H.ap,H.nr,H.nl⟩
theorem Lx.mem (H:Lx w W lo N b r E D u0 u1 u2 u3 u4 ov gb cp g6 c6 g7 c7 d) {p:Nat} {q:Value} {g:Nat→Int} (OI:Am W p q 512 g) (hr:d.nr=512) (hp:N≤p) (hb:b<p) (hr2:r<p) (hw:w.heap.size≤p) (hq:p≤W.heap.size) :
  ∃ D',Lx w W lo W.heap.size b r E D' u0 u1 q u3 u4 ov gb cp g6 c6 g7 c7 { d with g:=g }:=by
 rw [← hr] at OI;have P2:=(Bw.own (bank:=d.bank) OI).mono (E:=fun x=>p≤x∧x<W.heap.size) (fun x hx h=>⟨h,hx⟩);refine ⟨_,H.lp.mem P2 hp H.nl hq (Nat.le_refl _),fun i k h=>?_,fun i k h=>?_,?_⟩
 ·rcases h with ⟨-,h1,h2⟩ | ⟨-,h⟩
  ·omega
  ·exact H.ap _ _ h
 ·rcases h with ⟨-,h1,h2⟩ | ⟨-,h⟩
  ·exact Or.inr (by omega)
  ·exact H.nr _ _ h
 ·have:=H.nl; omega
theorem Lx.one (H:Lx w W lo N b r E D u0 u1 u2 u3 u4 ov gb cp g6 c6 g7 c7 d):(rowL u0 u1 u2 u3 u4 ov g6 c6 g7 c7 d).all (·.oneCell')=true:=by
 obtain ⟨a0,b0,rfl⟩:=H.lp.h0.form;obtain ⟨a1,b1,rfl⟩:=H.lp.h1.two;obtain ⟨a2,b2,e2⟩:=H.lp.h2.two;simp only [Value.agg.injEq,Array.mk.injEq,List.cons.injEq,and_true] at e2;subst e2;obtain ⟨a3,b3,a4,b4,e3⟩:=H.lp.h3.two;simp only [Value.agg.injEq,Array.mk.injEq,List.cons.injEq,and_true,true_and] at e3;obtain ⟨rfl,rfl⟩:=e3;obtain ⟨a5,b5,rfl⟩:=H.lp.h4.form
 simp [rowL,Value.oneCell']
theorem Lx.nx (H:Lx w W lo N b r E D u0 u1 u2 u3 u4 ov gb cp g6 c6 g7 c7 d):Hm w W lo E (.agg (rowL u0 u1 u2 u3 u4 ov g6 c6 g7 c7 d)) d:=H.lp.nx H.nr
theorem Hm.lx {v:Value} {V:World} (H:Hm V W lo D v d) (hap:∀ i k,D i k→k≠b∧k≠r) (hnr:Sg w E D) (hb:b<V.heap.size) (hr2:r<V.heap.size) (hw:w.heap.size≤V.heap.size) (hl:lo≤W.heap.size) :
  ∃ D' u0 u1 u2 u3 u4 ov gb cp g6 c6 g7 c7,v=.agg (rowL u0 u1 u2 u3 u4 ov g6 c6 g7 c7 d)∧Lx w W lo W.heap.size b r E D' u0 u1 u2 u3 u4 ov gb cp g6 c6 g7 c7 d:=by
 obtain ⟨D',⟨u0,u1,u2,u3,u4,ov,gb,cp,g6,c6,g7,c7,rfl,HP⟩,near⟩:=H;refine ⟨D',u0,u1,u2,u3,u4,ov,gb,cp,g6,c6,g7,c7,rfl,HP,fun i k h=>?_,fun i k h=>?_,hl⟩
 ·rcases near i k h with ⟨j,h'⟩ | h'
  ·exact hap j k h'
  ·omega
 ·rcases near i k h with ⟨j,h'⟩ | h'
  ·exact hnr j k h'
  ·exact Or.inr (by omega)
end
set_option maxHeartbeats 8000000
set_option maxRecDepth 40000
theorem Ni:(Tryz.prog.info? 41).map (·.size)=some 1:=by kernel_rfl
theorem Nj:(Tryz.prog.info? 109).map (·.size)=some 2:=by kernel_rfl
theorem Bx.start (w:World) {lo:Nat} (cs zs:Array Value) (h:lo≤w.heap.size):Bx w ((w.alloc (.cells cs 49)).alloc (.cells zs 49)) lo w.heap.size (w.heap.size+1) zs cs :=
 have L:Below w.heap.size w ((w.alloc (.cells cs 49)).alloc (.cells zs 49)):=((Below.refl _ _).alloc (Nat.le_refl _) _).alloc (by simp) _
 ⟨Ax (Al w cs 49) _,by simpa using Al (w.alloc (.cells cs 49)) zs 49,L.mono h,Dv.below L,Nat.le_refl _,Nat.le_succ _,by omega,h⟩
theorem Ez.start {w:World} {lo:Nat} {D:Nat→Nat→Prop} {v:Value} {d:Aq} (H:Ez w lo D v d) (h:lo≤w.heap.size) {W:World} (L:Below w.heap.size w W) :
  ∃ (u0 u1 u2 u3 u4 ov:Value) (gb cp:Nat→Nat) (g6 c6 g7 c7:Nat),v=.agg (rowL u0 u1 u2 u3 u4 ov g6 c6 g7 c7 d)∧Lx w W lo w.heap.size w.heap.size (w.heap.size+1) D D u0 u1 u2 u3 u4 ov gb cp g6 c6 g7 c7 d:=by
 obtain ⟨u0,u1,u2,u3,u4,ov,gb,cp,g6,c6,g7,c7,rfl,HP⟩:=H;exact ⟨u0,u1,u2,u3,u4,ov,gb,cp,g6,c6,g7,c7,rfl,HP.below L,fun i k e=>by have:=HP.bd i k e; omega,fun i k e=>Or.inl ⟨_,e⟩,h⟩
theorem Jct (w:World) (lo:Nat) (D:Nat→Nat→Prop) (v:Value) (d:Aq) (H:Ez w lo D v d) (hlo:lo≤w.heap.size) (hok:OkL d) (hnm:d.nmi=true):Calls Tryz.prog 57 #[v] w fun e w'=>∃ v',e=.returned (.tuple #[v',.i (actN d)])∧Hm w w' lo D v' (actD d)∧Below lo w w'∧Dv w w':=by
 obtain ⟨u0,u1,u2,u3,u4,ov,gb,cp,g6,c6,g7,c7,rfl,LX⟩:=H.start hlo (Below.refl w.heap.size w);replace LX:=LX.below (((Below.refl w.heap.size w).alloc (Nat.le_refl _) (.cells (rowL u0 u1 u2 u3 u4 ov g6 c6 g7 c7 d) 49)).alloc (by simp) (.cells zR 49));have BX:=Bx.start w (rowL u0 u1 u2 u3 u4 ov g6 c6 g7 c7 d) zR hlo
 go_enter Tryz.func57,Tryz.ntmps57
 go_upto_region 1 with (fail);generalize (w.alloc (.cells (rowL u0 u1 u2 u3 u4 ov g6 c6 g7 c7 d) 49)).alloc (.cells zR 49)=W0 at *;generalize hrs:(zR:Array Value)=rs at BX
 have HRS:Hid (rs.size=34):=by show _=_; rw [← hrs]; rfl
 clear hrs;have c0:=Ag BX.box;have f0:=As BX.box
 have f29:(rowL u0 u1 u2 u3 u4 ov g6 c6 g7 c7 d)[29]?=some (.bool true):=by rw [← hnm]; rfl
 replace hnm:=Ad hnm;go_upto_region 3 with (fail);clear c0 f0 f29;have LX':=(LX.wrote BX (Or.inl rfl) (BX.cellW 29 (.bool false))).nmi false;replace BX:=BX.cell 29 (.bool false);replace LX:=LX';clear LX';generalize W0.setCell ⟨w.heap.size,29,none⟩ (.bool false)=W1 at *;replace BX:Bx w W1 lo w.heap.size (w.heap.size+1) rs (rowL u0 u1 u2 u3 u4 ov g6 c6 g7 c7 (noNmi d)):=BX;rename_i K3 hK3;refine wp_region_lit ?_
 iterate 1 (refine wpList_plain rfl (fun K9 hK9=>?_); go_simp; refine hK9 _ _ ?_; clear hK9)
 refine Bf rfl _ _ rfl w.heap.size 0 rfl _ _ #[u0] _ _ BX.box (Zj rfl) Tryz.underlying41 rfl Ni ?_
 iterate 1 (refine wpList_plain rfl (fun K9 hK9=>?_); go_simp; refine hK9 _ _ ?_; clear hK9)
 refine Bf rfl _ _ rfl w.heap.size 2 rfl _ _ #[u2,.i (noNmi d).bank] _ _ BX.box (Ve rfl rfl) Tryz.underlying42 rfl Bq ?_
 iterate 1 (refine wpList_plain rfl (fun K9 hK9=>?_); go_simp; refine hK9 _ _ ?_; clear hK9)
 refine Bf rfl _ _ rfl w.heap.size 4 rfl _ _ (cR ((noNmi d).A) ((noNmi d).X) ((noNmi d).S) ((noNmi d).Pc) ((noNmi d).Z) ((noNmi d).N) ((noNmi d).C) ((noNmi d).I)) _ _ BX.box (Gu rfl rfl rfl rfl rfl rfl rfl rfl) Tryz.underlying43 rfl Aw ?_;refine Br rfl _ _ (by kernel_rfl) (Iu W1 _ _ u0 u2 d.m d.ln d.f d.g d.bank LX.lp.h0.ints (hok.nr ▸ LX.lp.h2.int1) d.A d.X d.S d.Pc d.Z d.N d.C d.I 65530) ?_;rintro e W2 ⟨q,rfl,OI,L⟩;refine ⟨_,rfl,?_⟩;have hz1:=Ac BX.res;have hz4:=Ac BX.box;have hz2:=L.size;have hz0:=BX.low.size;replace BX:=BX.below L;obtain ⟨D',LX⟩:=(LX.below L).mem OI hok.nr LX.lp.nN hz4 hz1 (by omega) hz2;obtain ⟨qa,qc,rfl,-⟩:=OI.ex;clear OI L
 iterate 4 (refine wpList_plain rfl (fun K9 hK9=>?_); go_simp; refine hK9 _ _ ?_; clear hK9)
 refine Bv rfl _ _ _ rfl w.heap.size 2 #[.slice qa 512 qc,.i (noNmi d).bank] rfl rfl _ _ BX.box Bq (by show (2+2:Nat)≤34; omega) (by first | rfl | simp [Value.oneCell']) ?_;have LX':=LX.wrote BX (Or.inl rfl) (Au BX.box (putAt (rowL u0 u1 u2 u3 u4 ov g6 c6 g7 c7 (noNmi d)) 2 #[.slice qa 512 qc,.i (noNmi d).bank]));replace BX:=BX.set (putAt (rowL u0 u1 u2 u3 u4 ov g6 c6 g7 c7 (noNmi d)) 2 #[.slice qa 512 qc,.i (noNmi d).bank]);replace LX:=LX';clear LX';generalize W2.setRow w.heap.size (putAt (rowL u0 u1 u2 u3 u4 ov g6 c6 g7 c7 (noNmi d)) 2 #[.slice qa 512 qc,.i (noNmi d).bank])=W3 at *;replace BX:Bx w W3 lo w.heap.size (w.heap.size+1) rs (rowL u0 u1 (.slice qa 512 qc) u3 u4 ov g6 c6 g7 c7 { (noNmi d) with g:=(enterG d.g d.S d.Pc d.Z d.N d.C d.I) }):=BX
 iterate 1 (refine wpList_plain rfl (fun K9 hK9=>?_); go_simp; refine hK9 _ _ ?_; clear hK9)
 refine Bv rfl _ _ _ rfl w.heap.size 4 (cR ((entC (noNmi d) 65530).A) ((entC (noNmi d) 65530).X) ((entC (noNmi d) 65530).S) ((entC (noNmi d) 65530).Pc) ((entC (noNmi d) 65530).Z) ((entC (noNmi d) 65530).N) ((entC (noNmi d) 65530).C) ((entC (noNmi d) 65530).I)) rfl rfl _ _ BX.box Aw (by show (4+8:Nat)≤34; omega) (by first | rfl | simp [Value.oneCell']) ?_;have LX':=LX.wrote BX (Or.inl rfl) (Au BX.box (putAt (rowL u0 u1 (.slice qa 512 qc) u3 u4 ov g6 c6 g7 c7 { (noNmi d) with g:=(enterG d.g d.S d.Pc d.Z d.N d.C d.I) }) 4 (cR ((entC (noNmi d) 65530).A) ((entC (noNmi d) 65530).X) ((entC (noNmi d) 65530).S) ((entC (noNmi d) 65530).Pc) ((entC (noNmi d) 65530).Z) ((entC (noNmi d) 65530).N) ((entC (noNmi d) 65530).C) ((entC (noNmi d) 65530).I))))
 replace BX:=BX.set (putAt (rowL u0 u1 (.slice qa 512 qc) u3 u4 ov g6 c6 g7 c7 { (noNmi d) with g:=(enterG d.g d.S d.Pc d.Z d.N d.C d.I) }) 4 (cR ((entC (noNmi d) 65530).A) ((entC (noNmi d) 65530).X) ((entC (noNmi d) 65530).S) ((entC (noNmi d) 65530).Pc) ((entC (noNmi d) 65530).Z) ((entC (noNmi d) 65530).N) ((entC (noNmi d) 65530).C) ((entC (noNmi d) 65530).I)));replace LX:=LX';clear LX';generalize W3.setRow w.heap.size (putAt (rowL u0 u1 (.slice qa 512 qc) u3 u4 ov g6 c6 g7 c7 { (noNmi d) with g:=(enterG d.g d.S d.Pc d.Z d.N d.C d.I) }) 4 (cR ((entC (noNmi d) 65530).A) ((entC (noNmi d) 65530).X) ((entC (noNmi d) 65530).S) ((entC (noNmi d) 65530).Pc) ((entC (noNmi d) 65530).Z) ((entC (noNmi d) 65530).N) ((entC (noNmi d) 65530).C) ((entC (noNmi d) 65530).I)))=W4 at *;replace LX:=LX.cpu (entC (noNmi d) 65530)
 replace BX:Bx w W4 lo w.heap.size (w.heap.size+1) rs (rowL u0 u1 (.slice qa 512 qc) u3 u4 ov g6 c6 g7 c7 (putCpu (noNmi d) (enterG d.g d.S d.Pc d.Z d.N d.C d.I) (entC (noNmi d) 65530))):=BX;refine hK3 _ _ ?_;clear hK3;go_upto_region 4 with (fail);rename_i K3 hK3;refine wp_region_lit ?_;refine wpList_load_row rfl _ _ rfl w.heap.size rfl _ _ _ _ BX.box Tryz.underlying49 rfl Ao ?_;refine wpList_store_row rfl _ _ _ rfl (w.heap.size+1) _ rfl rfl _ _ BX.res Ao HRS.out LX.one ?_
 iterate 1 (refine wpList_plain rfl (fun K9 hK9=>?_); go_simp; refine hK9 _ _ ?_; clear hK9)
 have LXF:=LX.wrote BX (Or.inr rfl) (Au BX.res (rowL u0 u1 (.slice qa 512 qc) u3 u4 ov g6 c6 g7 c7 (putCpu (noNmi d) (enterG d.g d.S d.Pc d.Z d.N d.C d.I) (entC (noNmi d) 65530))));have BXF:=BX.out (rowL u0 u1 (.slice qa 512 qc) u3 u4 ov g6 c6 g7 c7 (putCpu (noNmi d) (enterG d.g d.S d.Pc d.Z d.N d.C d.I) (entC (noNmi d) 65530)));generalize W4.setRow (w.heap.size+1) (rowL u0 u1 (.slice qa 512 qc) u3 u4 ov g6 c6 g7 c7 (putCpu (noNmi d) (enterG d.g d.S d.Pc d.Z d.N d.C d.I) (entC (noNmi d) 65530)))=W5 at *;refine hK3 _ _ ?_;clear hK3;go_wp2;refine bodyPost_ret (v:=.tuple #[.agg (rowL u0 u1 (.slice qa 512 qc) u3 u4 ov g6 c6 g7 c7 (putCpu (noNmi d) (enterG d.g d.S d.Pc d.Z d.N d.C d.I) (entC (noNmi d) 65530))),.i 7]) (A9 Tryz.results57 _ _ (w.heap.size+1) _ _ _ _ rfl BXF.res Tryz.underlying49 rfl Ao) rfl ?_
 have hv:actD d=putCpu (noNmi d) (enterG d.g d.S d.Pc d.Z d.N d.C d.I) (entC (noNmi d) 65530)∧actN d=7:=by
  unfold actD actN;rw [if_pos hnm.out,if_pos hnm.out];exact ⟨rfl,rfl⟩
 rw [hv.1,hv.2];exact ⟨_,rfl,LXF.nx,BXF.low,BXF.kept⟩
theorem Jcu (w:World) (lo:Nat) (D:Nat→Nat→Prop) (v:Value) (d:Aq) (H:Ez w lo D v d) (hlo:lo≤w.heap.size) (hok:OkL d) (hnm:d.nmi=false) (hrr:d.R=true) (hii:d.I=false):Calls Tryz.prog 57 #[v] w fun e w'=>∃ v',e=.returned (.tuple #[v',.i (actN d)])∧Hm w w' lo D v' (actD d)∧Below lo w w'∧Dv w w':=by
 obtain ⟨u0,u1,u2,u3,u4,ov,gb,cp,g6,c6,g7,c7,rfl,LX⟩:=H.start hlo (Below.refl w.heap.size w);replace LX:=LX.below (((Below.refl w.heap.size w).alloc (Nat.le_refl _) (.cells (rowL u0 u1 u2 u3 u4 ov g6 c6 g7 c7 d) 49)).alloc (by simp) (.cells zR 49));have BX:=Bx.start w (rowL u0 u1 u2 u3 u4 ov g6 c6 g7 c7 d) zR hlo
 go_enter Tryz.func57,Tryz.ntmps57
 go_upto_region 1 with (fail);generalize (w.alloc (.cells (rowL u0 u1 u2 u3 u4 ov g6 c6 g7 c7 d) 49)).alloc (.cells zR 49)=W0 at *;generalize hrs:(zR:Array Value)=rs at BX
 have HRS:Hid (rs.size=34):=by show _=_; rw [← hrs]; rfl
 clear hrs;have c0:=Ag BX.box;have f0:=As BX.box
 have f29:(rowL u0 u1 u2 u3 u4 ov g6 c6 g7 c7 d)[29]?=some (.bool false):=by rw [← hnm]; rfl
 have f26:(rowL u0 u1 u2 u3 u4 ov g6 c6 g7 c7 d)[26]?=some (.bool true):=by rw [← hrr]; rfl
 have f11:(rowL u0 u1 u2 u3 u4 ov g6 c6 g7 c7 d)[11]?=some (.bool false):=by rw [← hii]; rfl
 replace hnm:=Ad hnm;replace hrr:=Ad hrr;replace hii:=Ad hii;go_upto_region 6 with (fail);clear c0 f0 f29 f26 f11;rename_i K3 hK3;refine wp_region_lit ?_
 iterate 1 (refine wpList_plain rfl (fun K9 hK9=>?_); go_simp; refine hK9 _ _ ?_; clear hK9)
 refine Bf rfl _ _ rfl w.heap.size 0 rfl _ _ #[u0] _ _ BX.box (Zj rfl) Tryz.underlying41 rfl Ni ?_
 iterate 1 (refine wpList_plain rfl (fun K9 hK9=>?_); go_simp; refine hK9 _ _ ?_; clear hK9)
 refine Bf rfl _ _ rfl w.heap.size 2 rfl _ _ #[u2,.i d.bank] _ _ BX.box (Ve rfl rfl) Tryz.underlying42 rfl Bq ?_
 iterate 1 (refine wpList_plain rfl (fun K9 hK9=>?_); go_simp; refine hK9 _ _ ?_; clear hK9)
 refine Bf rfl _ _ rfl w.heap.size 4 rfl _ _ (cR d.A d.X d.S d.Pc d.Z d.N d.C d.I) _ _ BX.box (Gu rfl rfl rfl rfl rfl rfl rfl rfl) Tryz.underlying43 rfl Aw ?_;refine Br rfl _ _ (by kernel_rfl) (Iu W0 _ _ u0 u2 d.m d.ln d.f d.g d.bank LX.lp.h0.ints (hok.nr ▸ LX.lp.h2.int1) d.A d.X d.S d.Pc d.Z d.N d.C d.I 65534) ?_;rintro e W2 ⟨q,rfl,OI,L⟩;refine ⟨_,rfl,?_⟩;have hz1:=Ac BX.res;have hz4:=Ac BX.box;have hz2:=L.size;have hz0:=BX.low.size;replace BX:=BX.below L;obtain ⟨D',LX⟩:=(LX.below L).mem OI hok.nr LX.lp.nN hz4 hz1 (by omega) hz2;obtain ⟨qa,qc,rfl,-⟩:=OI.ex;clear OI L
 iterate 4 (refine wpList_plain rfl (fun K9 hK9=>?_); go_simp; refine hK9 _ _ ?_; clear hK9)
 refine Bv rfl _ _ _ rfl w.heap.size 2 #[.slice qa 512 qc,.i d.bank] rfl rfl _ _ BX.box Bq (by show (2+2:Nat)≤34; omega) (by first | rfl | simp [Value.oneCell']) ?_;have LX':=LX.wrote BX (Or.inl rfl) (Au BX.box (putAt (rowL u0 u1 u2 u3 u4 ov g6 c6 g7 c7 d) 2 #[.slice qa 512 qc,.i d.bank]));replace BX:=BX.set (putAt (rowL u0 u1 u2 u3 u4 ov g6 c6 g7 c7 d) 2 #[.slice qa 512 qc,.i d.bank]);replace LX:=LX';clear LX';generalize W2.setRow w.heap.size (putAt (rowL u0 u1 u2 u3 u4 ov g6 c6 g7 c7 d) 2 #[.slice qa 512 qc,.i d.bank])=W3 at *;replace BX:Bx w W3 lo w.heap.size (w.heap.size+1) rs (rowL u0 u1 (.slice qa 512 qc) u3 u4 ov g6 c6 g7 c7 { d with g:=(enterG d.g d.S d.Pc d.Z d.N d.C d.I) }):=BX
 iterate 1 (refine wpList_plain rfl (fun K9 hK9=>?_); go_simp; refine hK9 _ _ ?_; clear hK9)
 refine Bv rfl _ _ _ rfl w.heap.size 4 (cR ((entC d 65534).A) ((entC d 65534).X) ((entC d 65534).S) ((entC d 65534).Pc) ((entC d 65534).Z) ((entC d 65534).N) ((entC d 65534).C) ((entC d 65534).I)) rfl rfl _ _ BX.box Aw (by show (4+8:Nat)≤34; omega) (by first | rfl | simp [Value.oneCell']) ?_;have LX':=LX.wrote BX (Or.inl rfl) (Au BX.box (putAt (rowL u0 u1 (.slice qa 512 qc) u3 u4 ov g6 c6 g7 c7 { d with g:=(enterG d.g d.S d.Pc d.Z d.N d.C d.I) }) 4 (cR ((entC d 65534).A) ((entC d 65534).X) ((entC d 65534).S) ((entC d 65534).Pc) ((entC d 65534).Z) ((entC d 65534).N) ((entC d 65534).C) ((entC d 65534).I))))
 replace BX:=BX.set (putAt (rowL u0 u1 (.slice qa 512 qc) u3 u4 ov g6 c6 g7 c7 { d with g:=(enterG d.g d.S d.Pc d.Z d.N d.C d.I) }) 4 (cR ((entC d 65534).A) ((entC d 65534).X) ((entC d 65534).S) ((entC d 65534).Pc) ((entC d 65534).Z) ((entC d 65534).N) ((entC d 65534).C) ((entC d 65534).I)));replace LX:=LX';clear LX';generalize W3.setRow w.heap.size (putAt (rowL u0 u1 (.slice qa 512 qc) u3 u4 ov g6 c6 g7 c7 { d with g:=(enterG d.g d.S d.Pc d.Z d.N d.C d.I) }) 4 (cR ((entC d 65534).A) ((entC d 65534).X) ((entC d 65534).S) ((entC d 65534).Pc) ((entC d 65534).Z) ((entC d 65534).N) ((entC d 65534).C) ((entC d 65534).I)))=W4 at *;replace LX:=LX.cpu (entC d 65534);replace BX:Bx w W4 lo w.heap.size (w.heap.size+1) rs (rowL u0 u1 (.slice qa 512 qc) u3 u4 ov g6 c6 g7 c7 (putCpu d (enterG d.g d.S d.Pc d.Z d.N d.C d.I) (entC d 65534))):=BX;refine hK3 _ _ ?_;clear hK3
 go_upto_region 7 with (fail);rename_i K3 hK3;refine wp_region_lit ?_;refine wpList_load_row rfl _ _ rfl w.heap.size rfl _ _ _ _ BX.box Tryz.underlying49 rfl Ao ?_;refine wpList_store_row rfl _ _ _ rfl (w.heap.size+1) _ rfl rfl _ _ BX.res Ao HRS.out LX.one ?_
 iterate 1 (refine wpList_plain rfl (fun K9 hK9=>?_); go_simp; refine hK9 _ _ ?_; clear hK9)
 have LXF:=LX.wrote BX (Or.inr rfl) (Au BX.res (rowL u0 u1 (.slice qa 512 qc) u3 u4 ov g6 c6 g7 c7 (putCpu d (enterG d.g d.S d.Pc d.Z d.N d.C d.I) (entC d 65534))));have BXF:=BX.out (rowL u0 u1 (.slice qa 512 qc) u3 u4 ov g6 c6 g7 c7 (putCpu d (enterG d.g d.S d.Pc d.Z d.N d.C d.I) (entC d 65534)));generalize W4.setRow (w.heap.size+1) (rowL u0 u1 (.slice qa 512 qc) u3 u4 ov g6 c6 g7 c7 (putCpu d (enterG d.g d.S d.Pc d.Z d.N d.C d.I) (entC d 65534)))=W5 at *;refine hK3 _ _ ?_;clear hK3;go_wp2;refine bodyPost_ret (v:=.tuple #[.agg (rowL u0 u1 (.slice qa 512 qc) u3 u4 ov g6 c6 g7 c7 (putCpu d (enterG d.g d.S d.Pc d.Z d.N d.C d.I) (entC d 65534))),.i 7]) (A9 Tryz.results57 _ _ (w.heap.size+1) _ _ _ _ rfl BXF.res Tryz.underlying49 rfl Ao) rfl ?_
 have hv:actD d=putCpu d (enterG d.g d.S d.Pc d.Z d.N d.C d.I) (entC d 65534)∧actN d=7:=by
  unfold actD actN;rw [if_neg (by rw [hnm.out]; decide),if_pos (by rw [hrr.out,hii.out]; rfl),if_neg (by rw [hnm.out]; decide),if_pos (by rw [hrr.out,hii.out]; rfl)];exact ⟨rfl,rfl⟩
 rw [hv.1,hv.2];exact ⟨_,rfl,LXF.nx,BXF.low,BXF.kept⟩
end Go.Proofs.YtgcmimcalmjaaaaGreatDoor
