import Derived.Test.YtfjieibndedngaaGreatCB
namespace Go.Proofs.YtfjieibndedngaaGreat
set_option maxHeartbeats 2000000
set_option maxRecDepth 20000
set_option linter.unusedVariables false
set_option linter.unusedSimpArgs false
open Go.ChangeShapes Go.WideShapes Go.ChangeAt Go.RowKit
def Eg (g:Nat→Int) (S v:Int):Nat→Int:=Gt g (256+(S%256).toNat) (v%256)
theorem Jl {W:World} {d:Nat} {T:TypeId} {u0 u1:Value} (h:W.heap[d]?=some (.cells #[u0,u1] T (0,0))) (v0 v1:Value):((W.setCell ⟨d,0,none⟩ v0).setCell ⟨d,1,none⟩ v1).heap[d]?=some (.cells #[v0,v1] T (0,0)):=by
 simp [World.setCell,Array.getElem?_modify,h]
theorem Ij {W:World} {d:Nat} {T:TypeId} {u0 u1 u2 u3 u4 u5 u6 u7:Value} (h:W.heap[d]?=some (.cells #[u0,u1,u2,u3,u4,u5,u6,u7] T (0,0))) (v0 v1 v2 v3 v4 v5 v6 v7:Value):((((((((W.setCell ⟨d,0,none⟩ v0).setCell ⟨d,1,none⟩ v1).setCell ⟨d,2,none⟩ v2).setCell ⟨d,3,none⟩ v3).setCell ⟨d,4,none⟩ v4).setCell ⟨d,5,none⟩ v5).setCell ⟨d,6,none⟩ v6).setCell ⟨d,7,none⟩ v7).heap[d]?=some (.cells #[v0,v1,v2,v3,v4,v5,v6,v7] T (0,0)):=by
 simp [World.setCell,Array.getElem?_modify,h]
theorem Fl {w:World} {b d:Nat} {ob:Obj} (h:w.heap[b]?=some ob) (hd:b≠d) (v0 v1 v2 v3 v4 v5 v6 v7:Value):((((((((w.setCell ⟨d,0,none⟩ v0).setCell ⟨d,1,none⟩ v1).setCell ⟨d,2,none⟩ v2).setCell ⟨d,3,none⟩ v3).setCell ⟨d,4,none⟩ v4).setCell ⟨d,5,none⟩ v5).setCell ⟨d,6,none⟩ v6).setCell ⟨d,7,none⟩ v7).heap[b]?=some ob :=
 Ar (Ar (Ar (Ar (Ar (Ar (Ar (Ar h hd) hd) hd) hd) hd) hd) hd) hd
theorem D7 (W:World):Below W.heap.size W W.drew:=⟨rfl,rfl,rfl,Nat.le_refl _,fun _ _=>rfl⟩
theorem El (w:World) (G:Nat→Nat→Prop) (u:Value) (g:Nat→Int) (bank:Int) (K:Ints .i64 w G u 512 g) (A X S Pc:Int) (Z N C I:Bool) (v:Int) :
  Calls Tryz.prog 86 #[.agg #[u,.i bank],.agg (cR A X S Pc Z N C I),.i v] w fun e w'=>∃ q,e=.returned (.tuple #[.agg #[q,.i bank],.agg (cR A X ((S-1)%256) Pc Z N C I)])∧Au w' w.heap.size q 512 (Eg g S v)∧Below w.heap.size w w':=by
 have L0:∀ ua ucap,Below w.heap.size w ((((w.alloc (.cells #[.slice ua 512 ucap,.i bank] 34)).alloc (.cells (cR A X S Pc Z N C I) 36)).alloc (.cells mZ 34)).alloc (.cells cZ 36)):=fun ua ucap=>((((Below.refl _ _).alloc (Nat.le_refl _) _).alloc (by simp) _).alloc (by simp; omega) _).alloc (by simp; omega) _
 obtain ⟨ua,ucap,rfl,un,hrow,-⟩:=K;replace L0:=L0 ua ucap;have hrow0:=hrow.keep (Aa L0 Ah) (fun _ _ _ x=>x);have k3:((((w.alloc (.cells #[.slice ua 512 ucap,.i bank] 34)).alloc (.cells (cR A X S Pc Z N C I) 36)).alloc (.cells mZ 34)).alloc (.cells cZ 36)).heap[w.heap.size]?=some (.cells #[.slice ua 512 ucap,.i bank] 34 (0,0)):=A9 (A9 (A9 (Ak w _ _) _) _) _
 have k4:((((w.alloc (.cells #[.slice ua 512 ucap,.i bank] 34)).alloc (.cells (cR A X S Pc Z N C I) 36)).alloc (.cells mZ 34)).alloc (.cells cZ 36)).heap[w.heap.size+1]?=some (.cells (cR A X S Pc Z N C I) 36 (0,0)):=by simpa using A9 (A9 (Ak (w.alloc (.cells #[.slice ua 512 ucap,.i bank] 34)) (cR A X S Pc Z N C I) 36) (.cells mZ 34)) (.cells cZ 36)
 have k6:((((w.alloc (.cells #[.slice ua 512 ucap,.i bank] 34)).alloc (.cells (cR A X S Pc Z N C I) 36)).alloc (.cells mZ 34)).alloc (.cells cZ 36)).heap[w.heap.size+1+1]?=some (.cells mZ 34 (0,0)):=by simpa using A9 (Ak ((w.alloc (.cells #[.slice ua 512 ucap,.i bank] 34)).alloc (.cells (cR A X S Pc Z N C I) 36)) mZ 34) (.cells cZ 36)
 have k7:((((w.alloc (.cells #[.slice ua 512 ucap,.i bank] 34)).alloc (.cells (cR A X S Pc Z N C I) 36)).alloc (.cells mZ 34)).alloc (.cells cZ 36)).heap[w.heap.size+1+1+1]?=some (.cells cZ 36 (0,0)):=by simpa using Ak (((w.alloc (.cells #[.slice ua 512 ucap,.i bank] 34)).alloc (.cells (cR A X S Pc Z N C I) 36)).alloc (.cells mZ 34)) cZ 36
 go_enter Tryz.func86,Tryz.ntmps86
 go_wp2_with fail;generalize ((((w.alloc (.cells #[.slice ua 512 ucap,.i bank] 34)).alloc (.cells (cR A X S Pc Z N C I) 36)).alloc (.cells mZ 34)).alloc (.cells cZ 36))=W0 at *;refine (Jh _ (fun _ _=>True) (.slice ua 512 ucap) 512 g bank ⟨_,_,rfl,by omega,hrow0,fun _ _ _=>trivial⟩).mono ?_;rintro e W1 ⟨q,rfl,O1,L1⟩;obtain ⟨qa,qc,rfl,-,hq,hF,hlo⟩:=O1;obtain ⟨b,o,rfl,-⟩:=hq 0 (by omega)
 have O1:Au W1 W0.heap.size (.slice (some ⟨b,o,none⟩) 512 qc) 512 g:=⟨_,_,rfl,by omega,hq,hF,hlo⟩
 have LA:Below W1.heap.size W1 (W1.alloc (.cells #[.slice (some ⟨b,o,none⟩) 512 qc,.i bank] 34)):=(Below.refl _ _).alloc (Nat.le_refl _) _;have L2:=L1.trans (LA.mono L1.size);have k8:=Ak W1 #[.slice (some ⟨b,o,none⟩) 512 qc,.i bank] 34;have hb:=O1.cellAt 0 (by omega)
 have hb8:b≠W1.heap.size:=by omega
 have hW0:w.heap.size+1+1+1<W0.heap.size:=Af k7;have h1z:=L1.size;have h7:=Af k7;replace O1:=O1.keepL LA;replace k3:=Ac k3 L2 (Af k3);replace k4:=Ac k4 L2 (Af k4);replace k6:=Ac k6 L2 (Af k6);replace k7:=Ac k7 L2 (Af k7);have C2:=Ai L0 L2
 have hz8:w.heap.size+1+1+1<W1.heap.size:=by omega
 have hbl:w.heap.size+1+1+1<b:=by omega
 clear L1 L2 LA hrow hrow0 hq hF hlo L0 h1z h7 hb;have c3:=Aj k3;go_upto_region 4 with (fail)
 obtain ⟨z,hz⟩:∃ z,Hid (z=W1.heap.size):=⟨_,rfl⟩
 generalize W1.alloc (.cells #[.slice (some ⟨b,o,none⟩) 512 qc,.i bank] 34)=W2 at *;rw [← hz.out] at k8 hb8 hz8 ⊢;clear hz c3
 have D2:Below W2.heap.size W2 W2.drew:=⟨rfl,rfl,rfl,Nat.le_refl _,fun _ _=>rfl⟩
 replace k4:=Ac k4 D2 (Af k4);replace k6:=Ac k6 D2 (Af k6);replace k7:=Ac k7 D2 (Af k7);replace k8:=Ac k8 D2 (Af k8);replace O1:=O1.keepL D2;replace C2:=Ai C2 D2
 obtain ⟨i,hi⟩:∃ i:Nat,S%256=i:=⟨(S%256).toNat,by omega⟩
 obtain ⟨k,hk⟩:∃ k:Nat,k=256+i:=⟨_,rfl⟩
 have hks:(256:Int)+(i:Int)=(k:Int):=by omega
 have hkl:(k:Int)<512:=by omega
 have hwk:IntKind.i64.wrap (k:Int)=(k:Int):=by rw [IntKind.wrap_i64]; omega
 have HP:Hid (Eg g S v=Gt g k (v%256)):=by
  show _=_
  unfold Eg;rw [show 256+(S%256).toNat=k by omega]
 have hcell:=O1.cellAt k (by omega);have cb:=hcell.1;have fb:=hcell.2.1;have OP:=Ad (O1.put k (by omega) (v%256));have c4:=Aj k4;have c8:=Aj k8;have HS:=Ad (fun W=>Ba S W);have HV:=Ad (fun W=>Ba v W);rw [hi] at HS;clear hi hk hcell
 go_cut [22] (fun sl WX=>WX=(W2.setCell ⟨b,o+k,none⟩ (.i (v%256))).drew)
 case first =>
  go_region_with (first | (go_at_call 70; refine (Ab HS _).mono ?_; rintro e w1 ⟨rfl,rfl⟩) | (go_at_call 70; refine (Ab HV _).mono ?_; rintro e w1 ⟨rfl,rfl⟩))
  all_goals (
   go_wp2_with fail
   go_meet
   exact rfl)
 case rest =>
 subst hcut;have O3:Au ((W2.setCell ⟨b,o+k,none⟩ (.i (v%256))).drew) W0.heap.size (.slice (some ⟨b,o,none⟩) 512 qc) 512 (Gt g k (v%256)):=OP.out;have j4:((W2.setCell ⟨b,o+k,none⟩ (.i (v%256))).drew).heap[w.heap.size+1]?=_:=Ar k4 (by omega);have j6:((W2.setCell ⟨b,o+k,none⟩ (.i (v%256))).drew).heap[w.heap.size+1+1]?=_:=Ar k6 (by omega);have j7:((W2.setCell ⟨b,o+k,none⟩ (.i (v%256))).drew).heap[w.heap.size+1+1+1]?=_:=Ar k7 (by omega);have j8:((W2.setCell ⟨b,o+k,none⟩ (.i (v%256))).drew).heap[z]?=_:=Ar k8 (Ne.symm hb8)
 have C3:Below w.heap.size w ((W2.setCell ⟨b,o+k,none⟩ (.i (v%256))).drew):=(C2.setCell (p:=⟨b,o+k,none⟩) (by simp; omega) (.i (v%256)))
 clear OP k4 k6 k7 k8 C2 O1 cb fb c4 c8 HS HV;generalize (W2.setCell ⟨b,o+k,none⟩ (.i (v%256))).drew=W3 at *;have hw:=Ld (S-1);have c4:=Aj j4;have f4:=Ax j4;go_wp2_with fail;refine (Ba _ _).mono ?_;rintro e w4 ⟨rfl,rfl⟩;rw [hw];go_upto_region 6 with (fail);clear c4 f4 hw
 obtain ⟨s',hs'⟩:∃ s',Hid (s'=(S-1)%256):=⟨_,rfl⟩
 rw [← hs'.out]
 have i4:(w4.setCell ⟨w.heap.size+1,2,none⟩ (.i s')).heap[w.heap.size+1]?=some (.cells (cR A X s' Pc Z N C I) 36 (0,0)):=by simpa using An (o:=2) j4 (.i s')
 have i6:(w4.setCell ⟨w.heap.size+1,2,none⟩ (.i s')).heap[w.heap.size+1+1]?=_:=Ar j6 (by omega);have i7:(w4.setCell ⟨w.heap.size+1,2,none⟩ (.i s')).heap[w.heap.size+1+1+1]?=_:=Ar j7 (by omega);have i8:(w4.setCell ⟨w.heap.size+1,2,none⟩ (.i s')).heap[z]?=_:=Ar j8 (by omega);have hl0:w.heap.size+1+1+1<W0.heap.size:=hW0;have O4:=O3.setLow (d:=w.heap.size+1) (o:=2) (by omega) (.i s');have C4:Below w.heap.size w (w4.setCell ⟨w.heap.size+1,2,none⟩ (.i s')):=C3.setCell (p:=⟨w.heap.size+1,2,none⟩) (by simp) (.i s');generalize w4.setCell ⟨w.heap.size+1,2,none⟩ (.i s')=W5 at *;clear j4 j6 j7 j8 O3 C3
 have r6:=fun (x0 x1 y0 y1 y2 y3 y4 y5 y6 y7:Value)=>Aj (Fl (Jl i6 x0 x1) (show w.heap.size+1+1≠w.heap.size+1+1+1 by omega) y0 y1 y2 y3 y4 y5 y6 y7)
 have r7:=fun (x0 x1 y0 y1 y2 y3 y4 y5 y6 y7:Value)=>Aj (Ij (Ar (Ar (x:=x0) (o:=0) i7 (show w.heap.size+1+1+1≠w.heap.size+1+1 by omega)) (x:=x1) (o:=1) (show w.heap.size+1+1+1≠w.heap.size+1+1 by omega)) y0 y1 y2 y3 y4 y5 y6 y7)
 have c4:=Aj i4;have c8:=Aj i8;have c6:=Aj i6;have c7:=Aj i7;have f6:=Ax i6;have f7:=Ax i7
 have FIN:∀ (x0 x1 y0 y1 y2 y3 y4 y5 y6 y7:Value),Au (((((((((((W5.setCell ⟨w.heap.size+1+1,0,none⟩ x0).setCell ⟨w.heap.size+1+1,1,none⟩ x1).setCell ⟨w.heap.size+1+1+1,0,none⟩ y0).setCell ⟨w.heap.size+1+1+1,1,none⟩ y1).setCell ⟨w.heap.size+1+1+1,2,none⟩ y2).setCell ⟨w.heap.size+1+1+1,3,none⟩ y3).setCell ⟨w.heap.size+1+1+1,4,none⟩ y4).setCell ⟨w.heap.size+1+1+1,5,none⟩ y5).setCell ⟨w.heap.size+1+1+1,6,none⟩ y6).setCell ⟨w.heap.size+1+1+1,7,none⟩ y7).drew) w.heap.size (.slice (some ⟨b,o,none⟩) 512 qc) 512 (Gt g k (v%256))∧Below w.heap.size w (((((((((((W5.setCell ⟨w.heap.size+1+1,0,none⟩ x0).setCell ⟨w.heap.size+1+1,1,none⟩ x1).setCell ⟨w.heap.size+1+1+1,0,none⟩ y0).setCell ⟨w.heap.size+1+1+1,1,none⟩ y1).setCell ⟨w.heap.size+1+1+1,2,none⟩ y2).setCell ⟨w.heap.size+1+1+1,3,none⟩ y3).setCell ⟨w.heap.size+1+1+1,4,none⟩ y4).setCell ⟨w.heap.size+1+1+1,5,none⟩ y5).setCell ⟨w.heap.size+1+1+1,6,none⟩ y6).setCell ⟨w.heap.size+1+1+1,7,none⟩ y7).drew):=fun x0 x1 y0 y1 y2 y3 y4 y5 y6 y7=>⟨((show Au ((((((((((W5.setCell ⟨w.heap.size+1+1,0,none⟩ x0).setCell ⟨w.heap.size+1+1,1,none⟩ x1).setCell ⟨w.heap.size+1+1+1,0,none⟩ y0).setCell ⟨w.heap.size+1+1+1,1,none⟩ y1).setCell ⟨w.heap.size+1+1+1,2,none⟩ y2).setCell ⟨w.heap.size+1+1+1,3,none⟩ y3).setCell ⟨w.heap.size+1+1+1,4,none⟩ y4).setCell ⟨w.heap.size+1+1+1,5,none⟩ y5).setCell ⟨w.heap.size+1+1+1,6,none⟩ y6).setCell ⟨w.heap.size+1+1+1,7,none⟩ y7) W0.heap.size _ _ _ from ((((((((((O4.setLow (by omega) _).setLow (by omega) _).setLow (by omega) _).setLow (by omega) _).setLow (by omega) _).setLow (by omega) _).setLow (by omega) _).setLow (by omega) _).setLow (by omega) _).setLow (by omega) _)).mono (by omega)).keepL (D7 _),Ai (C4.trans ((((Below.refl _ _).setCell (p:=⟨w.heap.size+1+1,0,none⟩) (by simp; omega) _).setCell (p:=⟨w.heap.size+1+1,1,none⟩) (by simp; omega) _).trans ((Ii _ (w.heap.size+1+1+1) _ _ _ _ _ _ _ _).mono (by omega)))) (D7 _)⟩
 have HF:=Ad FIN;clear O4 C4 FIN i4 i6 i7 i8
 go_region
 all_goals (
  go_wp2;refine bodyPost_ret (v:=.tuple #[.agg #[.slice (some ⟨b,o,none⟩) 512 qc,.i bank],.agg (cR A X s' Pc Z N C I)]) (by simp [results,Tryz.results86,go_sem,r6,r7]) rfl ?_;refine ⟨_,by rw [hs'.out],?_⟩;rw [HP.out]
  with_reducible exact HF.out _ _ _ _ _ _ _ _ _ _)
end Go.Proofs.YtfjieibndedngaaGreat
