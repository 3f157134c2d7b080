import Derived.Test.YtgcmimcalmjaaaaGreatDoorI6b
namespace Go.Proofs.YtgcmimcalmjaaaaGreatDoor
set_option maxHeartbeats 2000000
set_option maxRecDepth 20000
set_option linter.unusedVariables false
set_option linter.unusedSimpArgs false
open Go.ChangeShapes Go.WideShapes Go.ChangeAt Go.RowKit
def B7 (g:Nat→Int) (S v:Int):Nat→Int:=Fh g (256+(S%256).toNat) (v%256)
theorem Lu {W:World} {d:Nat} {T:TypeId} {u0 u1:Value} (h:W.heap[d]?=some (.cells #[u0,u1] T (0,0))) (v0 v1:Value):((W.setCell ⟨d,0,none⟩ v0).setCell ⟨d,1,none⟩ v1).heap[d]?=some (.cells #[v0,v1] T (0,0)):=by
 simp [World.setCell,Array.getElem?_modify,h]
theorem Ke {W:World} {d:Nat} {T:TypeId} {u0 u1 u2 u3 u4 u5 u6 u7:Value} (h:W.heap[d]?=some (.cells #[u0,u1,u2,u3,u4,u5,u6,u7] T (0,0))) (v0 v1 v2 v3 v4 v5 v6 v7:Value):((((((((W.setCell ⟨d,0,none⟩ v0).setCell ⟨d,1,none⟩ v1).setCell ⟨d,2,none⟩ v2).setCell ⟨d,3,none⟩ v3).setCell ⟨d,4,none⟩ v4).setCell ⟨d,5,none⟩ v5).setCell ⟨d,6,none⟩ v6).setCell ⟨d,7,none⟩ v7).heap[d]?=some (.cells #[v0,v1,v2,v3,v4,v5,v6,v7] T (0,0)):=by
 simp [World.setCell,Array.getElem?_modify,h]
theorem Gn {w:World} {b d:Nat} {ob:Obj} (h:w.heap[b]?=some ob) (hd:b≠d) (v0 v1 v2 v3 v4 v5 v6 v7:Value):((((((((w.setCell ⟨d,0,none⟩ v0).setCell ⟨d,1,none⟩ v1).setCell ⟨d,2,none⟩ v2).setCell ⟨d,3,none⟩ v3).setCell ⟨d,4,none⟩ v4).setCell ⟨d,5,none⟩ v5).setCell ⟨d,6,none⟩ v6).setCell ⟨d,7,none⟩ v7).heap[b]?=some ob :=
 Ay (Ay (Ay (Ay (Ay (Ay (Ay (Ay h hd) hd) hd) hd) hd) hd) hd) hd
theorem Et (W:World):Below W.heap.size W W.drew:=⟨rfl,rfl,rfl,Nat.le_refl _,fun _ _=>rfl⟩
theorem E4 (w:World) (G:Nat→Nat→Prop) (u:Value) (g:Nat→Int) (bank:Int) (K:Ints .i64 w G u 512 g) (A X S Pc:Int) (Z N C I:Bool) (v:Int) :
  Calls Tryz.prog 110 #[.agg #[u,.i bank],.agg (cR A X S Pc Z N C I),.i v] w fun e w'=>∃ q,e=.returned (.tuple #[.agg #[q,.i bank],.agg (cR A X ((S-1)%256) Pc Z N C I)])∧Am w' w.heap.size q 512 (B7 g S v)∧Below w.heap.size w w':=by
 have L0:∀ ua ucap,Below w.heap.size w ((((w.alloc (.cells #[.slice ua 512 ucap,.i bank] 42)).alloc (.cells (cR A X S Pc Z N C I) 43)).alloc (.cells mZ 42)).alloc (.cells cZ 43)):=fun ua ucap=>((((Below.refl _ _).alloc (Nat.le_refl _) _).alloc (by simp) _).alloc (by simp; omega) _).alloc (by simp; omega) _
 obtain ⟨ua,ucap,rfl,un,hrow,-⟩:=K;replace L0:=L0 ua ucap;have hrow0:=hrow.keep (Ab L0 Aj) (fun _ _ _ x=>x);have k3:((((w.alloc (.cells #[.slice ua 512 ucap,.i bank] 42)).alloc (.cells (cR A X S Pc Z N C I) 43)).alloc (.cells mZ 42)).alloc (.cells cZ 43)).heap[w.heap.size]?=some (.cells #[.slice ua 512 ucap,.i bank] 42 (0,0)):=Ax (Ax (Ax (Al w _ _) _) _) _
 have k4:((((w.alloc (.cells #[.slice ua 512 ucap,.i bank] 42)).alloc (.cells (cR A X S Pc Z N C I) 43)).alloc (.cells mZ 42)).alloc (.cells cZ 43)).heap[w.heap.size+1]?=some (.cells (cR A X S Pc Z N C I) 43 (0,0)):=by simpa using Ax (Ax (Al (w.alloc (.cells #[.slice ua 512 ucap,.i bank] 42)) (cR A X S Pc Z N C I) 43) (.cells mZ 42)) (.cells cZ 43)
 have k6:((((w.alloc (.cells #[.slice ua 512 ucap,.i bank] 42)).alloc (.cells (cR A X S Pc Z N C I) 43)).alloc (.cells mZ 42)).alloc (.cells cZ 43)).heap[w.heap.size+1+1]?=some (.cells mZ 42 (0,0)):=by simpa using Ax (Al ((w.alloc (.cells #[.slice ua 512 ucap,.i bank] 42)).alloc (.cells (cR A X S Pc Z N C I) 43)) mZ 42) (.cells cZ 43)
 have k7:((((w.alloc (.cells #[.slice ua 512 ucap,.i bank] 42)).alloc (.cells (cR A X S Pc Z N C I) 43)).alloc (.cells mZ 42)).alloc (.cells cZ 43)).heap[w.heap.size+1+1+1]?=some (.cells cZ 43 (0,0)):=by simpa using Al (((w.alloc (.cells #[.slice ua 512 ucap,.i bank] 42)).alloc (.cells (cR A X S Pc Z N C I) 43)).alloc (.cells mZ 42)) cZ 43
 go_enter Tryz.func110,Tryz.ntmps110
 go_wp2_with fail;generalize ((((w.alloc (.cells #[.slice ua 512 ucap,.i bank] 42)).alloc (.cells (cR A X S Pc Z N C I) 43)).alloc (.cells mZ 42)).alloc (.cells cZ 43))=W0 at *;refine (Lo _ (fun _ _=>True) (.slice ua 512 ucap) 512 g bank ⟨_,_,rfl,by omega,hrow0,fun _ _ _=>trivial⟩).mono ?_;rintro e W1 ⟨q,rfl,O1,L1⟩;obtain ⟨qa,qc,rfl,-,hq,hF,hlo⟩:=O1;obtain ⟨b,o,rfl,-⟩:=hq 0 (by omega)
 have O1:Am W1 W0.heap.size (.slice (some ⟨b,o,none⟩) 512 qc) 512 g:=⟨_,_,rfl,by omega,hq,hF,hlo⟩
 have LA:Below W1.heap.size W1 (W1.alloc (.cells #[.slice (some ⟨b,o,none⟩) 512 qc,.i bank] 42)):=(Below.refl _ _).alloc (Nat.le_refl _) _;have L2:=L1.trans (LA.mono L1.size);have k8:=Al W1 #[.slice (some ⟨b,o,none⟩) 512 qc,.i bank] 42;have hb:=O1.cellAt 0 (by omega)
 have hb8:b≠W1.heap.size:=by omega
 have hW0:w.heap.size+1+1+1<W0.heap.size:=Ac k7;have h1z:=L1.size;have h7:=Ac k7;replace O1:=O1.keepL LA;replace k3:=Aa k3 L2 (Ac k3);replace k4:=Aa k4 L2 (Ac k4);replace k6:=Aa k6 L2 (Ac k6);replace k7:=Aa k7 L2 (Ac k7);have C2:=Ae L0 L2
 have hz8:w.heap.size+1+1+1<W1.heap.size:=by omega
 have hbl:w.heap.size+1+1+1<b:=by omega
 clear L1 L2 LA hrow hrow0 hq hF hlo L0 h1z h7 hb;have c3:=Ag k3;go_upto_region 4 with (fail)
 obtain ⟨z,hz⟩:∃ z,Hid (z=W1.heap.size):=⟨_,rfl⟩
 generalize W1.alloc (.cells #[.slice (some ⟨b,o,none⟩) 512 qc,.i bank] 42)=W2 at *;rw [← hz.out] at k8 hb8 hz8 ⊢;clear hz c3
 have D2:Below W2.heap.size W2 W2.drew:=⟨rfl,rfl,rfl,Nat.le_refl _,fun _ _=>rfl⟩
 replace k4:=Aa k4 D2 (Ac k4);replace k6:=Aa k6 D2 (Ac k6);replace k7:=Aa k7 D2 (Ac k7);replace k8:=Aa k8 D2 (Ac k8);replace O1:=O1.keepL D2;replace C2:=Ae C2 D2
 obtain ⟨i,hi⟩:∃ i:Nat,S%256=i:=⟨(S%256).toNat,by omega⟩
 obtain ⟨k,hk⟩:∃ k:Nat,k=256+i:=⟨_,rfl⟩
 have hks:(256:Int)+(i:Int)=(k:Int):=by omega
 have hkl:(k:Int)<512:=by omega
 have hwk:IntKind.i64.wrap (k:Int)=(k:Int):=by rw [IntKind.wrap_i64]; omega
 have HP:Hid (B7 g S v=Fh g k (v%256)):=by
  show _=_
  unfold B7;rw [show 256+(S%256).toNat=k by omega]
 have hcell:=O1.cellAt k (by omega);have cb:=hcell.1;have fb:=hcell.2.1;have OP:=Ad (O1.put k (by omega) (v%256));have c4:=Ag k4;have c8:=Ag k8;have HS:=Ad (fun W=>Bs S W);have HV:=Ad (fun W=>Bs v W);rw [hi] at HS;clear hi hk hcell
 go_cut [22] (fun sl WX=>WX=(W2.setCell ⟨b,o+k,none⟩ (.i (v%256))).drew)
 case first =>
  go_region_with (first | (go_at_call 116; refine (An HS _).mono ?_; rintro e w1 ⟨rfl,rfl⟩) | (go_at_call 116; refine (An HV _).mono ?_; rintro e w1 ⟨rfl,rfl⟩))
  all_goals (
   go_wp2_with fail
   go_meet
   exact rfl)
 case rest =>
 subst hcut;have O3:Am ((W2.setCell ⟨b,o+k,none⟩ (.i (v%256))).drew) W0.heap.size (.slice (some ⟨b,o,none⟩) 512 qc) 512 (Fh g k (v%256)):=OP.out;have j4:((W2.setCell ⟨b,o+k,none⟩ (.i (v%256))).drew).heap[w.heap.size+1]?=_:=Ay k4 (by omega);have j6:((W2.setCell ⟨b,o+k,none⟩ (.i (v%256))).drew).heap[w.heap.size+1+1]?=_:=Ay k6 (by omega);have j7:((W2.setCell ⟨b,o+k,none⟩ (.i (v%256))).drew).heap[w.heap.size+1+1+1]?=_:=Ay k7 (by omega);have j8:((W2.setCell ⟨b,o+k,none⟩ (.i (v%256))).drew).heap[z]?=_:=Ay k8 (Ne.symm hb8)
 have C3:Below w.heap.size w ((W2.setCell ⟨b,o+k,none⟩ (.i (v%256))).drew):=(C2.setCell (p:=⟨b,o+k,none⟩) (by simp; omega) (.i (v%256)))
 clear OP k4 k6 k7 k8 C2 O1 cb fb c4 c8 HS HV;generalize (W2.setCell ⟨b,o+k,none⟩ (.i (v%256))).drew=W3 at *;have hw:=Oh (S-1);have c4:=Ag j4;have f4:=As j4;go_wp2_with fail;refine (Bs _ _).mono ?_;rintro e w4 ⟨rfl,rfl⟩;rw [hw];go_upto_region 6 with (fail);clear c4 f4 hw
 obtain ⟨s',hs'⟩:∃ s',Hid (s'=(S-1)%256):=⟨_,rfl⟩
 rw [← hs'.out]
 have i4:(w4.setCell ⟨w.heap.size+1,2,none⟩ (.i s')).heap[w.heap.size+1]?=some (.cells (cR A X s' Pc Z N C I) 43 (0,0)):=by simpa using Af (o:=2) j4 (.i s')
 have i6:(w4.setCell ⟨w.heap.size+1,2,none⟩ (.i s')).heap[w.heap.size+1+1]?=_:=Ay j6 (by omega);have i7:(w4.setCell ⟨w.heap.size+1,2,none⟩ (.i s')).heap[w.heap.size+1+1+1]?=_:=Ay j7 (by omega);have i8:(w4.setCell ⟨w.heap.size+1,2,none⟩ (.i s')).heap[z]?=_:=Ay j8 (by omega);have hl0:w.heap.size+1+1+1<W0.heap.size:=hW0;have O4:=O3.setLow (d:=w.heap.size+1) (o:=2) (by omega) (.i s');have C4:Below w.heap.size w (w4.setCell ⟨w.heap.size+1,2,none⟩ (.i s')):=C3.setCell (p:=⟨w.heap.size+1,2,none⟩) (by simp) (.i s');generalize w4.setCell ⟨w.heap.size+1,2,none⟩ (.i s')=W5 at *;clear j4 j6 j7 j8 O3 C3
 have r6:=fun (x0 x1 y0 y1 y2 y3 y4 y5 y6 y7:Value)=>Ag (Gn (Lu i6 x0 x1) (show w.heap.size+1+1≠w.heap.size+1+1+1 by omega) y0 y1 y2 y3 y4 y5 y6 y7)
 have r7:=fun (x0 x1 y0 y1 y2 y3 y4 y5 y6 y7:Value)=>Ag (Ke (Ay (Ay (x:=x0) (o:=0) i7 (show w.heap.size+1+1+1≠w.heap.size+1+1 by omega)) (x:=x1) (o:=1) (show w.heap.size+1+1+1≠w.heap.size+1+1 by omega)) y0 y1 y2 y3 y4 y5 y6 y7)
 have c4:=Ag i4;have c8:=Ag i8;have c6:=Ag i6;have c7:=Ag i7;have f6:=As i6;have f7:=As i7
 have FIN:∀ (x0 x1 y0 y1 y2 y3 y4 y5 y6 y7:Value),Am (((((((((((W5.setCell ⟨w.heap.size+1+1,0,none⟩ x0).setCell ⟨w.heap.size+1+1,1,none⟩ x1).setCell ⟨w.heap.size+1+1+1,0,none⟩ y0).setCell ⟨w.heap.size+1+1+1,1,none⟩ y1).setCell ⟨w.heap.size+1+1+1,2,none⟩ y2).setCell ⟨w.heap.size+1+1+1,3,none⟩ y3).setCell ⟨w.heap.size+1+1+1,4,none⟩ y4).setCell ⟨w.heap.size+1+1+1,5,none⟩ y5).setCell ⟨w.heap.size+1+1+1,6,none⟩ y6).setCell ⟨w.heap.size+1+1+1,7,none⟩ y7).drew) w.heap.size (.slice (some ⟨b,o,none⟩) 512 qc) 512 (Fh g k (v%256))∧Below w.heap.size w (((((((((((W5.setCell ⟨w.heap.size+1+1,0,none⟩ x0).setCell ⟨w.heap.size+1+1,1,none⟩ x1).setCell ⟨w.heap.size+1+1+1,0,none⟩ y0).setCell ⟨w.heap.size+1+1+1,1,none⟩ y1).setCell ⟨w.heap.size+1+1+1,2,none⟩ y2).setCell ⟨w.heap.size+1+1+1,3,none⟩ y3).setCell ⟨w.heap.size+1+1+1,4,none⟩ y4).setCell ⟨w.heap.size+1+1+1,5,none⟩ y5).setCell ⟨w.heap.size+1+1+1,6,none⟩ y6).setCell ⟨w.heap.size+1+1+1,7,none⟩ y7).drew):=fun x0 x1 y0 y1 y2 y3 y4 y5 y6 y7=>⟨((show Am ((((((((((W5.setCell ⟨w.heap.size+1+1,0,none⟩ x0).setCell ⟨w.heap.size+1+1,1,none⟩ x1).setCell ⟨w.heap.size+1+1+1,0,none⟩ y0).setCell ⟨w.heap.size+1+1+1,1,none⟩ y1).setCell ⟨w.heap.size+1+1+1,2,none⟩ y2).setCell ⟨w.heap.size+1+1+1,3,none⟩ y3).setCell ⟨w.heap.size+1+1+1,4,none⟩ y4).setCell ⟨w.heap.size+1+1+1,5,none⟩ y5).setCell ⟨w.heap.size+1+1+1,6,none⟩ y6).setCell ⟨w.heap.size+1+1+1,7,none⟩ y7) W0.heap.size _ _ _ from ((((((((((O4.setLow (by omega) _).setLow (by omega) _).setLow (by omega) _).setLow (by omega) _).setLow (by omega) _).setLow (by omega) _).setLow (by omega) _).setLow (by omega) _).setLow (by omega) _).setLow (by omega) _)).mono (by omega)).keepL (Et _),Ae (C4.trans ((((Below.refl _ _).setCell (p:=⟨w.heap.size+1+1,0,none⟩) (by simp; omega) _).setCell (p:=⟨w.heap.size+1+1,1,none⟩) (by simp; omega) _).trans ((Lp _ (w.heap.size+1+1+1) _ _ _ _ _ _ _ _).mono (by omega)))) (Et _)⟩
 have HF:=Ad FIN;clear O4 C4 FIN i4 i6 i7 i8
 go_region
 all_goals (
  go_wp2;refine bodyPost_ret (v:=.tuple #[.agg #[.slice (some ⟨b,o,none⟩) 512 qc,.i bank],.agg (cR A X s' Pc Z N C I)]) (by simp [results,Tryz.results110,go_sem,r6,r7]) rfl ?_;refine ⟨_,by rw [hs'.out],?_⟩;rw [HP.out]
  with_reducible exact HF.out _ _ _ _ _ _ _ _ _ _)
set_option maxHeartbeats 4000000
set_option maxRecDepth 20000
def dec8 (S:Int):Int:=(S-1)%256
def enterG (g:Nat→Int) (S Pc:Int) (Z N C I:Bool):Nat→Int:=B7 (B7 (B7 g S (Pc/256)) (dec8 S) Pc) (dec8 (dec8 S)) (flagsOf Z N C I)
def Hc (m:Nat) (ln:Nat→Nat) (f:Nat→Nat→Int) (g:Nat→Int) (bank x:Int):Int:=peekV m ln f 512 g bank x%256+256*(peekV m ln f 512 g bank (x+1)%256)
structure EN (w V:World) (z:Nat) (iv:Value) (lo:Nat) (qa:Option Addr) (qc:Nat) (g:Nat→Int) (bank A X S Pc:Int) (Z N C I:Bool):Prop where
 img:V.heap[w.heap.size]?=some (.cells #[iv] 41 (0,0))
 cpu:V.heap[w.heap.size+1+1]?=some (.cells (cR A X S Pc Z N C I) 43 (0,0))
 rm:V.heap[w.heap.size+1+1+1]?=some (.cells mZ 42 (0,0))
 rc:V.heap[w.heap.size+1+1+1+1]?=some (.cells cZ 43 (0,0))
 out:V.heap[z]?=some (.cells #[.slice qa 512 qc,.i bank] 42 (0,0))
 far:w.heap.size+1+1+1+1<z
 own:Am V lo (.slice qa 512 qc) 512 g
 bel:Below w.heap.size w V
section
variable {w V V':World} {z:Nat} {iv:Value} {lo:Nat} {qa:Option Addr} {qc:Nat} {g:Nat→Int} {bank A X S Pc:Int} {Z N C I:Bool}
theorem EN.below (h:EN w V z iv lo qa qc g bank A X S Pc Z N C I) (L:Below V.heap.size V V'):EN w V' z iv lo qa qc g bank A X S Pc Z N C I :=
 ⟨Aa h.img L (Ac h.img),Aa h.cpu L (Ac h.cpu),Aa h.rm L (Ac h.rm),Aa h.rc L (Ac h.rc),Aa h.out L (Ac h.out),h.far,h.own.keepL L,Ae h.bel L⟩
theorem EN.ints (h:EN w V z iv lo qa qc g bank A X S Pc Z N C I):Ints .i64 V (fun _ _=>True) (.slice qa 512 qc) 512 g:=by
 obtain ⟨a,c,e,hn,hr,_,_⟩:=h.own;simp only [Value.slice.injEq,true_and] at e;obtain ⟨rfl,rfl⟩:=e;exact ⟨_,_,rfl,hn,hr,fun _ _ _=>trivial⟩
theorem EN.setI (h:EN w V z iv lo qa qc g bank A X S Pc Z N C I) (hl:w.heap.size+1+1<lo) (I':Bool):EN w (V.setCell ⟨w.heap.size+1+1,7,none⟩ (.bool I')) z iv lo qa qc g bank A X S Pc Z N C I':=by
 have hf:=h.far;exact ⟨Ay h.img (by omega),by simpa using Af (o:=7) h.cpu (.bool I'),Ay h.rm (by omega),Ay h.rc (by omega),Ay h.out (by omega),hf,h.own.setLow hl _,h.bel.setCell (p:=⟨w.heap.size+1+1,7,none⟩) (by simp; omega) _⟩
theorem EN.setPc (h:EN w V z iv lo qa qc g bank A X S Pc Z N C I) (hl:w.heap.size+1+1<lo) (P':Int):EN w (V.setCell ⟨w.heap.size+1+1,3,none⟩ (.i P')) z iv lo qa qc g bank A X S P' Z N C I:=by
 have hf:=h.far;exact ⟨Ay h.img (by omega),by simpa using Af (o:=3) h.cpu (.i P'),Ay h.rm (by omega),Ay h.rc (by omega),Ay h.out (by omega),hf,h.own.setLow hl _,h.bel.setCell (p:=⟨w.heap.size+1+1,3,none⟩) (by simp; omega) _⟩
theorem EN.pushed (h:EN w V z iv lo qa qc g bank A X S Pc Z N C I) {qa':Option Addr} {qc':Nat} {g':Nat→Int} (O:Am V' V.heap.size (.slice qa' 512 qc') 512 g') (L:Below V.heap.size V V') (S':Int) :
  EN w ((((((((((V'.setCell ⟨z,0,none⟩ (.slice qa' 512 qc')).setCell ⟨z,1,none⟩ (.i bank)).setCell ⟨w.heap.size+1+1,0,none⟩ (.i A)).setCell ⟨w.heap.size+1+1,1,none⟩ (.i X)).setCell ⟨w.heap.size+1+1,2,none⟩ (.i S')).setCell ⟨w.heap.size+1+1,3,none⟩ (.i Pc)).setCell ⟨w.heap.size+1+1,4,none⟩ (.bool Z)).setCell ⟨w.heap.size+1+1,5,none⟩ (.bool N)).setCell ⟨w.heap.size+1+1,6,none⟩ (.bool C)).setCell ⟨w.heap.size+1+1,7,none⟩ (.bool I)) z iv V.heap.size qa' qc' g' bank A X S' Pc Z N C I:=by
 have m:=h.below L;have hf:=h.far;have hz:=Ac h.out
 have h2:z≠w.heap.size+1+1:=by omega
 refine ⟨Gn (Ay (Ay m.img (by omega)) (by omega)) (by omega) _ _ _ _ _ _ _ _,Ke (Ay (Ay m.cpu (by omega)) (by omega)) _ _ _ _ _ _ _ _,Gn (Ay (Ay m.rm (by omega)) (by omega)) (by omega) _ _ _ _ _ _ _ _,Gn (Ay (Ay m.rc (by omega)) (by omega)) (by omega) _ _ _ _ _ _ _ _,Gn (Lu m.out _ _) h2 _ _ _ _ _ _ _ _,hf,?_,?_⟩
 ·exact ((((((((((O.setLow (by omega) _).setLow (by omega) _).setLow (by omega) _).setLow (by omega) _).setLow (by omega) _).setLow (by omega) _).setLow (by omega) _).setLow (by omega) _).setLow (by omega) _).setLow (by omega) _)
 ·exact m.bel.trans ((((Below.refl w.heap.size V').setCell (p:=⟨z,0,none⟩) (by simp; omega) _).setCell (p:=⟨z,1,none⟩) (by simp; omega) _).trans ((Lp _ (w.heap.size+1+1) _ _ _ _ _ _ _ _).mono (by omega)))
end
theorem Iu (w:World) (F G:Nat→Nat→Prop) (iv u:Value) (m:Nat) (ln:Nat→Nat) (f:Nat→Nat→Int) (g:Nat→Int) (bank:Int) (H:Ba .i64 w F iv m ln f) (K:Ints .i64 w G u 512 g) (A X S Pc:Int) (Z N C I:Bool) (vec:Int) :
  Calls Tryz.prog 86 #[.agg #[iv],.agg #[u,.i bank],.agg (cR A X S Pc Z N C I),.i vec] w fun e w'=>∃ q,e=.returned (.tuple #[.agg #[q,.i bank],.agg (cR A X (dec8 (dec8 (dec8 S))) (Hc m ln f (enterG g S Pc Z N C I) bank vec) Z N C true)])∧Am w' w.heap.size q 512 (enterG g S Pc Z N C I)∧Below w.heap.size w w':=by
 have L0:∀ ua ucap,Below w.heap.size w (((((w.alloc (.cells #[iv] 41)).alloc (.cells #[.slice ua 512 ucap,.i bank] 42)).alloc (.cells (cR A X S Pc Z N C I) 43)).alloc (.cells mZ 42)).alloc (.cells cZ 43)):=fun ua ucap=>(((((Below.refl _ _).alloc (Nat.le_refl _) _).alloc (by simp) _).alloc (by simp; omega) _).alloc (by simp; omega) _).alloc (by simp; omega) _
 obtain ⟨ua,ucap,rfl,un,hrow,-⟩:=K;replace L0:=L0 ua ucap;have hrow0:=hrow.keep (Ab L0 Aj) (fun _ _ _ x=>x)
 have k4:(((((w.alloc (.cells #[iv] 41)).alloc (.cells #[.slice ua 512 ucap,.i bank] 42)).alloc (.cells (cR A X S Pc Z N C I) 43)).alloc (.cells mZ 42)).alloc (.cells cZ 43)).heap[w.heap.size]?=some (.cells #[iv] 41 (0,0)):=by simpa using Ax (Ax (Ax (Ax (Al w #[iv] 41) (.cells #[.slice ua 512 ucap,.i bank] 42)) (.cells (cR A X S Pc Z N C I) 43)) (.cells mZ 42)) (.cells cZ 43)
 have k5:(((((w.alloc (.cells #[iv] 41)).alloc (.cells #[.slice ua 512 ucap,.i bank] 42)).alloc (.cells (cR A X S Pc Z N C I) 43)).alloc (.cells mZ 42)).alloc (.cells cZ 43)).heap[w.heap.size+1]?=some (.cells #[.slice ua 512 ucap,.i bank] 42 (0,0)):=by simpa using Ax (Ax (Ax (Al (w.alloc (.cells #[iv] 41)) #[.slice ua 512 ucap,.i bank] 42) (.cells (cR A X S Pc Z N C I) 43)) (.cells mZ 42)) (.cells cZ 43)
 have k6:(((((w.alloc (.cells #[iv] 41)).alloc (.cells #[.slice ua 512 ucap,.i bank] 42)).alloc (.cells (cR A X S Pc Z N C I) 43)).alloc (.cells mZ 42)).alloc (.cells cZ 43)).heap[w.heap.size+1+1]?=some (.cells (cR A X S Pc Z N C I) 43 (0,0)):=by simpa using Ax (Ax (Al ((w.alloc (.cells #[iv] 41)).alloc (.cells #[.slice ua 512 ucap,.i bank] 42)) (cR A X S Pc Z N C I) 43) (.cells mZ 42)) (.cells cZ 43)
 have k8:(((((w.alloc (.cells #[iv] 41)).alloc (.cells #[.slice ua 512 ucap,.i bank] 42)).alloc (.cells (cR A X S Pc Z N C I) 43)).alloc (.cells mZ 42)).alloc (.cells cZ 43)).heap[w.heap.size+1+1+1]?=some (.cells mZ 42 (0,0)):=by simpa using Ax (Al (((w.alloc (.cells #[iv] 41)).alloc (.cells #[.slice ua 512 ucap,.i bank] 42)).alloc (.cells (cR A X S Pc Z N C I) 43)) mZ 42) (.cells cZ 43)
 have k9:(((((w.alloc (.cells #[iv] 41)).alloc (.cells #[.slice ua 512 ucap,.i bank] 42)).alloc (.cells (cR A X S Pc Z N C I) 43)).alloc (.cells mZ 42)).alloc (.cells cZ 43)).heap[w.heap.size+1+1+1+1]?=some (.cells cZ 43 (0,0)):=by simpa using Al ((((w.alloc (.cells #[iv] 41)).alloc (.cells #[.slice ua 512 ucap,.i bank] 42)).alloc (.cells (cR A X S Pc Z N C I) 43)).alloc (.cells mZ 42)) cZ 43
 go_enter Tryz.func86,Tryz.ntmps86
 go_wp2_with fail;generalize (((((w.alloc (.cells #[iv] 41)).alloc (.cells #[.slice ua 512 ucap,.i bank] 42)).alloc (.cells (cR A X S Pc Z N C I) 43)).alloc (.cells mZ 42)).alloc (.cells cZ 43))=W0 at *;have hW:=Ac k9;refine (Lo _ (fun _ _=>True) (.slice ua 512 ucap) 512 g bank ⟨_,_,rfl,by omega,hrow0,fun _ _ _=>trivial⟩).mono ?_;rintro e W1 ⟨q,rfl,O1,L1⟩
 obtain ⟨q1,c1,rfl⟩:∃ q1 c1,q=.slice q1 512 c1:=by obtain ⟨a,c,e,_⟩:=O1; exact ⟨a,c,e⟩
 have LA:Below W1.heap.size W1 (W1.alloc (.cells #[.slice q1 512 c1,.i bank] 42)):=(Below.refl _ _).alloc (Nat.le_refl _) _;have L2:=L1.trans (LA.mono L1.size)
 have M1:EN w (W1.alloc (.cells #[.slice q1 512 c1,.i bank] 42)) W1.heap.size iv W0.heap.size q1 c1 g bank A X S Pc Z N C I:=⟨Aa k4 L2 (Ac k4),Aa k6 L2 (Ac k6),Aa k8 L2 (Ac k8),Aa k9 L2 (Ac k9),Al _ _ _,by have:=L1.size; omega,O1.keepL LA,Ae L0 L2⟩
 clear hrow hrow0 k4 k5 k6 k8 k9 O1 L1 LA L2 L0 hW;go_upto_region 2 with (fail)
 obtain ⟨z,hz⟩:∃ z,Hid (z=W1.heap.size):=⟨_,rfl⟩
 generalize W1.alloc (.cells #[.slice q1 512 c1,.i bank] 42)=V1 at *;rw [← hz.out] at M1 ⊢;clear hz;have c6:=Ag M1.cpu;go_wp2_with fail;clear c6;refine (Vt _ A X S Pc Z N C I).mono ?_;rintro e V2 ⟨rfl,L2⟩;have M2:=M1.below L2;clear M1 L2
 obtain ⟨fl,hfl⟩:∃ fl,Hid (fl=flagsOf Z N C I):=⟨_,rfl⟩
 rw [← hfl.out];have c6:=Ag M2.cpu;have c10:=Ag M2.out;go_wp2_with fail;clear c6 c10;refine (E4 _ _ _ g bank M2.ints A X S Pc Z N C I (Pc/256)).mono ?_;rintro e U3 ⟨q,rfl,O,L⟩
 obtain ⟨q3,c3,rfl⟩:∃ qa qc,q=.slice qa 512 qc:=by obtain ⟨a,c,e,_⟩:=O; exact ⟨a,c,e⟩
 have M3:=M2.pushed O L (dec8 S);have d6:=Ag (M2.below L).cpu;have e6:=As (M2.below L).cpu;have d10:=Ag (M2.below L).out;have e10:=As (M2.below L).out
 have hf6:z≠w.heap.size+1+1:=by have:=M2.far; omega
 have hlo3:z<V2.heap.size:=Ac M2.out;have HM:=Ad M3;clear M3 M2 O L;rw [show (S-1)%256=dec8 S from rfl];go_upto_region 4 with (fail);clear d6 e6 d10 e10 hf6;have M3:=An HM;clear HM;generalize ((((((((((U3.setCell ⟨z,0,none⟩ (.slice q3 512 c3)).setCell ⟨z,1,none⟩ (.i bank)).setCell ⟨w.heap.size+1+1,0,none⟩ (.i A)).setCell ⟨w.heap.size+1+1,1,none⟩ (.i X)).setCell ⟨w.heap.size+1+1,2,none⟩ (.i (dec8 S))).setCell ⟨w.heap.size+1+1,3,none⟩ (.i Pc)).setCell ⟨w.heap.size+1+1,4,none⟩ (.bool Z)).setCell ⟨w.heap.size+1+1,5,none⟩ (.bool N)).setCell ⟨w.heap.size+1+1,6,none⟩ (.bool C)).setCell ⟨w.heap.size+1+1,7,none⟩ (.bool I))=V3 at *;have c6:=Ag M3.cpu;have c10:=Ag M3.out;go_wp2_with fail;clear c6 c10;refine (E4 _ _ _ (B7 g S (Pc/256)) bank M3.ints A X (dec8 S) Pc Z N C I Pc).mono ?_
 rintro e U4 ⟨q,rfl,O,L⟩
 obtain ⟨q4,c4,rfl⟩:∃ qa qc,q=.slice qa 512 qc:=by obtain ⟨a,c,e,_⟩:=O; exact ⟨a,c,e⟩
 have M4:=M3.pushed O L (dec8 (dec8 S));have d6:=Ag (M3.below L).cpu;have e6:=As (M3.below L).cpu;have d10:=Ag (M3.below L).out;have e10:=As (M3.below L).out
 have hf6:z≠w.heap.size+1+1:=by have:=M3.far; omega
 have hlo4:z<V3.heap.size:=Ac M3.out;have HM:=Ad M4;clear M4 M3 O L;rw [show ((dec8 S)-1)%256=dec8 (dec8 S) from rfl];go_upto_region 5 with (fail);clear d6 e6 d10 e10 hf6;have M4:=An HM;clear HM;generalize ((((((((((U4.setCell ⟨z,0,none⟩ (.slice q4 512 c4)).setCell ⟨z,1,none⟩ (.i bank)).setCell ⟨w.heap.size+1+1,0,none⟩ (.i A)).setCell ⟨w.heap.size+1+1,1,none⟩ (.i X)).setCell ⟨w.heap.size+1+1,2,none⟩ (.i (dec8 (dec8 S)))).setCell ⟨w.heap.size+1+1,3,none⟩ (.i Pc)).setCell ⟨w.heap.size+1+1,4,none⟩ (.bool Z)).setCell ⟨w.heap.size+1+1,5,none⟩ (.bool N)).setCell ⟨w.heap.size+1+1,6,none⟩ (.bool C)).setCell ⟨w.heap.size+1+1,7,none⟩ (.bool I))=V4 at *;have c6:=Ag M4.cpu;have c10:=Ag M4.out;go_wp2_with fail;clear c6 c10
 refine (E4 _ _ _ (B7 (B7 g S (Pc/256)) (dec8 S) Pc) bank M4.ints A X (dec8 (dec8 S)) Pc Z N C I fl).mono ?_;rintro e U5 ⟨q,rfl,O,L⟩
 obtain ⟨q5,c5,rfl⟩:∃ qa qc,q=.slice qa 512 qc:=by obtain ⟨a,c,e,_⟩:=O; exact ⟨a,c,e⟩
 have M5:=M4.pushed O L (dec8 (dec8 (dec8 S)));have d6:=Ag (M4.below L).cpu;have e6:=As (M4.below L).cpu;have d10:=Ag (M4.below L).out;have e10:=As (M4.below L).out
 have hf6:z≠w.heap.size+1+1:=by have:=M4.far; omega
 have hlo5:z<V4.heap.size:=Ac M4.out;have HM:=Ad M5;clear M5 M4 O L;rw [show ((dec8 (dec8 S))-1)%256=dec8 (dec8 (dec8 S)) from rfl];go_upto_region 6 with (fail);clear d6 e6 d10 e10 hf6;have M5:=An HM;clear HM;generalize ((((((((((U5.setCell ⟨z,0,none⟩ (.slice q5 512 c5)).setCell ⟨z,1,none⟩ (.i bank)).setCell ⟨w.heap.size+1+1,0,none⟩ (.i A)).setCell ⟨w.heap.size+1+1,1,none⟩ (.i X)).setCell ⟨w.heap.size+1+1,2,none⟩ (.i (dec8 (dec8 (dec8 S))))).setCell ⟨w.heap.size+1+1,3,none⟩ (.i Pc)).setCell ⟨w.heap.size+1+1,4,none⟩ (.bool Z)).setCell ⟨w.heap.size+1+1,5,none⟩ (.bool N)).setCell ⟨w.heap.size+1+1,6,none⟩ (.bool C)).setCell ⟨w.heap.size+1+1,7,none⟩ (.bool I))=V5 at *
 have h2lo:w.heap.size+1+1<V4.heap.size:=by have:=M5.far; omega
 have M6:=M5.setI h2lo true;have c6:=Ag M5.cpu;have f6:=As M5.cpu;have HM:=Ad M6;have hf5:=M5.far;clear M5 M6;go_upto_region 7 with (fail);have M6:=An HM;clear HM c6 f6;generalize V5.setCell ⟨w.heap.size+1+1,7,none⟩ (.bool true)=V6 at *;rw [hfl.out] at M6;clear hfl;rw [show B7 (B7 (B7 g S (Pc/256)) (dec8 S) Pc) (dec8 (dec8 S)) (flagsOf Z N C I)=enterG g S Pc Z N C I from rfl] at M6
 obtain ⟨G',hG⟩:∃ G',Hid (G'=enterG g S Pc Z N C I):=⟨_,rfl⟩
 rw [← hG.out] at M6;have D6:Below V6.heap.size V6 V6.drew:=Et V6;have HPk:=Ad (fun (V':World) (L:Below V6.heap.size V6 V') (x:Int)=>Hw V' _ _ iv (.slice q5 512 c5) m ln f 512 G' bank x (H.keep (Ab (Ae M6.bel L) Aj) (fun _ _ _ x=>x)) (M6.below L).ints);have a1:V6.cell? ⟨w.heap.size,0,none⟩=some iv:=Ag M6.img 0;have a2:V6.cell? ⟨z,0,none⟩=some (.slice q5 512 c5):=Ag M6.out 0;have a3:V6.cell? ⟨z,1,none⟩=some (.i bank):=Ag M6.out 1;have HM:=Ad M6;clear M6;have HT1:=Ad ((An HPk) V6.drew D6 vec)
 obtain ⟨pc,hpc⟩:∃ pc,Hid (pc=Hc m ln f G' bank vec):=⟨_,rfl⟩
 obtain ⟨x1,hx1⟩:∃ x1,Hid (x1=peekV m ln f 512 G' bank vec):=⟨_,rfl⟩
 obtain ⟨x2,hx2⟩:∃ x2,Hid (x2=peekV m ln f 512 G' bank (vec+1)):=⟨_,rfl⟩
 have HJ:=Ad (fun W=>Lb x1 x2 W);rw [show x1%256+256*(x2%256)=pc by rw [hx1.out,hx2.out,hpc.out]; rfl] at HJ;rw [← hx1.out] at HT1
 have HP2:Hid (∀ V',Below V6.heap.size V6 V'→∀ y,Hid (y=IntKind.i64.wrap (vec+1))→Calls Tryz.prog 112 #[.agg #[iv],.agg #[.slice q5 512 c5,.i bank],.i y] V' fun e w'=>e=.returned (.i x2)∧Below V'.heap.size V' w'):=fun V' L y hy=>by
  have h:=(An HPk) V' L y;rw [hy.out,F8,← hx2.out,← hy.out] at h;exact h
 go_cut [50] (fun sl WX=>∃ V':World,Below V6.heap.size V6 V'∧WX=V'.setCell ⟨w.heap.size+1+1,3,none⟩ (.i pc))
 case first =>
  go_region_held3 (fun w'=>w'.cell? ⟨w.heap.size,0,none⟩=some iv∧w'.cell? ⟨z,0,none⟩=some (.slice q5 512 c5)∧w'.cell? ⟨z,1,none⟩=some (.i bank)) (first | (with_reducible assumption) | (refine ⟨?_,?_,?_⟩ <;> with_reducible assumption) | go_keep) (first
   | (go_at_call 111; refine (An HJ _).mono ?_; rintro e P3 ⟨rfl,rfl⟩)
   | (go_at_call 112; refine (An HP2 _ C1 _ rfl).mono ?_; rintro e P2 ⟨rfl,L2⟩; have C2:=Ae C1 L2; have M2x:=(An HM).below C2; have d6:=Ag M2x.cpu; have f6:=As M2x.cpu; have b1:P2.cell? ⟨w.heap.size,0,none⟩=some iv:=Ag M2x.img 0; have b2:P2.cell? ⟨z,0,none⟩=some (.slice q5 512 c5):=Ag M2x.out 0; have b3:P2.cell? ⟨z,1,none⟩=some (.i bank):=Ag M2x.out 1; have g1:(P2.setCell ⟨w.heap.size+1+1,3,none⟩ (.i pc)).cell? ⟨w.heap.size,0,none⟩=some iv:=Ag (M2x.setPc h2lo pc).img 0; have g2:(P2.setCell ⟨w.heap.size+1+1,3,none⟩ (.i pc)).cell? ⟨z,0,none⟩=some (.slice q5 512 c5):=Ag (M2x.setPc h2lo pc).out 0; have g3:(P2.setCell ⟨w.heap.size+1+1,3,none⟩ (.i pc)).cell? ⟨z,1,none⟩=some (.i bank):=Ag (M2x.setPc h2lo pc).out 1; clear M2x L2)
   | (go_at_call 112; refine (An HT1).mono ?_; rintro e P1 ⟨rfl,L1⟩; have C1:=Ae D6 L1; have M1x:=(An HM).below C1; have e1:P1.cell? ⟨w.heap.size,0,none⟩=some iv:=Ag M1x.img 0; have e2:P1.cell? ⟨z,0,none⟩=some (.slice q5 512 c5):=Ag M1x.out 0; have e3:P1.cell? ⟨z,1,none⟩=some (.i bank):=Ag M1x.out 1; clear M1x L1))
  all_goals (
   go_wp2_with fail
   go_meet
   exact ⟨_,C2,rfl⟩)
 case rest =>
 obtain ⟨V',LV,rfl⟩:=hcut;have M7:=((An HM).below LV).setPc h2lo pc;clear HM LV a1 a2 a3 HT1 HP2 HPk HJ hx1 hx2 D6;generalize V'.setCell ⟨w.heap.size+1+1,3,none⟩ (.i pc)=V7 at *;go_upto_region 8 with (fail);have c6:=Ag M7.cpu;have c10:=Ag M7.out;have c8:=Ag M7.rm;have f8:=As M7.rm;have c9:=Ag M7.rc;have f9:=As M7.rc
 have r8:=fun (x0 x1 y0 y1 y2 y3 y4 y5 y6 y7:Value)=>Ag (Gn (Lu M7.rm x0 x1) (show w.heap.size+1+1+1≠w.heap.size+1+1+1+1 by omega) y0 y1 y2 y3 y4 y5 y6 y7)
 have r9:=fun (x0 x1 y0 y1 y2 y3 y4 y5 y6 y7:Value)=>Ag (Ke (Ay (Ay (x:=x0) (o:=0) M7.rc (show w.heap.size+1+1+1+1≠w.heap.size+1+1+1 by omega)) (x:=x1) (o:=1) (show w.heap.size+1+1+1+1≠w.heap.size+1+1+1 by omega)) y0 y1 y2 y3 y4 y5 y6 y7)
 have hlo9:w.heap.size+1+1+1+1<V4.heap.size:=by have:=M7.far; omega
 have hw4:w.heap.size≤V4.heap.size:=by omega
 have HF:Hid (∀ (x0 x1 y0 y1 y2 y3 y4 y5 y6 y7:Value),Am (((((((((((V7.setCell ⟨w.heap.size+1+1+1,0,none⟩ x0).setCell ⟨w.heap.size+1+1+1,1,none⟩ x1).setCell ⟨w.heap.size+1+1+1+1,0,none⟩ y0).setCell ⟨w.heap.size+1+1+1+1,1,none⟩ y1).setCell ⟨w.heap.size+1+1+1+1,2,none⟩ y2).setCell ⟨w.heap.size+1+1+1+1,3,none⟩ y3).setCell ⟨w.heap.size+1+1+1+1,4,none⟩ y4).setCell ⟨w.heap.size+1+1+1+1,5,none⟩ y5).setCell ⟨w.heap.size+1+1+1+1,6,none⟩ y6).setCell ⟨w.heap.size+1+1+1+1,7,none⟩ y7).drew) w.heap.size (.slice q5 512 c5) 512 G'∧Below w.heap.size w (((((((((((V7.setCell ⟨w.heap.size+1+1+1,0,none⟩ x0).setCell ⟨w.heap.size+1+1+1,1,none⟩ x1).setCell ⟨w.heap.size+1+1+1+1,0,none⟩ y0).setCell ⟨w.heap.size+1+1+1+1,1,none⟩ y1).setCell ⟨w.heap.size+1+1+1+1,2,none⟩ y2).setCell ⟨w.heap.size+1+1+1+1,3,none⟩ y3).setCell ⟨w.heap.size+1+1+1+1,4,none⟩ y4).setCell ⟨w.heap.size+1+1+1+1,5,none⟩ y5).setCell ⟨w.heap.size+1+1+1+1,6,none⟩ y6).setCell ⟨w.heap.size+1+1+1+1,7,none⟩ y7).drew)):=fun x0 x1 y0 y1 y2 y3 y4 y5 y6 y7=>⟨((show Am ((((((((((V7.setCell ⟨w.heap.size+1+1+1,0,none⟩ x0).setCell ⟨w.heap.size+1+1+1,1,none⟩ x1).setCell ⟨w.heap.size+1+1+1+1,0,none⟩ y0).setCell ⟨w.heap.size+1+1+1+1,1,none⟩ y1).setCell ⟨w.heap.size+1+1+1+1,2,none⟩ y2).setCell ⟨w.heap.size+1+1+1+1,3,none⟩ y3).setCell ⟨w.heap.size+1+1+1+1,4,none⟩ y4).setCell ⟨w.heap.size+1+1+1+1,5,none⟩ y5).setCell ⟨w.heap.size+1+1+1+1,6,none⟩ y6).setCell ⟨w.heap.size+1+1+1+1,7,none⟩ y7) V4.heap.size _ _ _ from ((((((((((M7.own.setLow (by omega) _).setLow (by omega) _).setLow (by omega) _).setLow (by omega) _).setLow (by omega) _).setLow (by omega) _).setLow (by omega) _).setLow (by omega) _).setLow (by omega) _).setLow (by omega) _)).mono hw4).keepL (Et _),Ae (M7.bel.trans ((((Below.refl _ _).setCell (p:=⟨w.heap.size+1+1+1,0,none⟩) (by simp; omega) _).setCell (p:=⟨w.heap.size+1+1+1,1,none⟩) (by simp; omega) _).trans ((Lp _ (w.heap.size+1+1+1+1) _ _ _ _ _ _ _ _).mono (by omega)))) (Et _)⟩
 have hfar:=M7.far;clear M7
 go_region
 all_goals (
  go_wp2;refine bodyPost_ret (v:=.tuple #[.agg #[.slice q5 512 c5,.i bank],.agg (cR A X (dec8 (dec8 (dec8 S))) pc Z N C true)]) (by simp [results,Tryz.results86,go_sem,r8,r9]) rfl ?_;refine ⟨_,by rw [hpc.out,hG.out],?_⟩;rw [← hG.out]
  with_reducible exact HF.out _ _ _ _ _ _ _ _ _ _)
end Go.Proofs.YtgcmimcalmjaaaaGreatDoor
