import Derived.Test.YtgcmimcalmjaaaaGreatDoorCB
import Derived.Test.YtgcmimcalmjaaaaGreatDoorA8
namespace Go.Proofs.YtgcmimcalmjaaaaGreatDoor
set_option maxHeartbeats 4000000
set_option maxRecDepth 20000
set_option linter.unusedVariables false
set_option linter.unusedSimpArgs false
open Go.ChangeShapes Go.WideShapes Go.ChangeAt Go.RowKit
def dec8 (S:Int):Int:=(S-1)%256
def enterG (g:Nat→Int) (S Pc:Int) (Z N C I:Bool):Nat→Int:=B7 (B7 (B7 g S (Pc/256)) (dec8 S) Pc) (dec8 (dec8 S)) (flagsOf Z N C I)
def Hc (m:Nat) (ln:Nat→Nat) (f:Nat→Nat→Int) (g:Nat→Int) (bank x:Int):Int:=peekV m ln f 512 g bank x%256+256*(peekV m ln f 512 g bank (x+1)%256)
structure EN (w V:World) (z:Nat) (iv:Value) (lo:Nat) (qa:Option Addr) (qc:Nat) (g:Nat→Int) (bank A X S Pc:Int) (Z N C I:Bool):Prop where
 img:V.heap[w.heap.size]?=some (.cells #[iv] 41 (0,0))
 cpu:V.heap[w.heap.size+1+1]?=some (.cells (cR A X S Pc Z N C I) 43 (0,0))
 rm:V.heap[w.heap.size+1+1+1]?=some (.cells mZ 42 (0,0))
 rc:V.heap[w.heap.size+1+1+1+1]?=some (.cells cZ 43 (0,0))
 out:V.heap[z]?=some (.cells #[.slice qa 512 qc,.i bank] 42 (0,0))
 far:w.heap.size+1+1+1+1<z
 own:Am V lo (.slice qa 512 qc) 512 g
 bel:Below w.heap.size w V
section
variable {w V V':World} {z:Nat} {iv:Value} {lo:Nat} {qa:Option Addr} {qc:Nat} {g:Nat→Int} {bank A X S Pc:Int} {Z N C I:Bool}
theorem EN.below (h:EN w V z iv lo qa qc g bank A X S Pc Z N C I) (L:Below V.heap.size V V'):EN w V' z iv lo qa qc g bank A X S Pc Z N C I :=
 ⟨Aa h.img L (Ac h.img),Aa h.cpu L (Ac h.cpu),Aa h.rm L (Ac h.rm),Aa h.rc L (Ac h.rc),Aa h.out L (Ac h.out),h.far,h.own.keepL L,Ae h.bel L⟩
theorem EN.ints (h:EN w V z iv lo qa qc g bank A X S Pc Z N C I):Ints .i64 V (fun _ _=>True) (.slice qa 512 qc) 512 g:=by
 obtain ⟨a,c,e,hn,hr,_,_⟩:=h.own;simp only [Value.slice.injEq,true_and] at e;obtain ⟨rfl,rfl⟩:=e;exact ⟨_,_,rfl,hn,hr,fun _ _ _=>trivial⟩
theorem EN.setI (h:EN w V z iv lo qa qc g bank A X S Pc Z N C I) (hl:w.heap.size+1+1<lo) (I':Bool):EN w (V.setCell ⟨w.heap.size+1+1,7,none⟩ (.bool I')) z iv lo qa qc g bank A X S Pc Z N C I':=by
 have hf:=h.far;exact ⟨Ay h.img (by omega),by simpa using Af (o:=7) h.cpu (.bool I'),Ay h.rm (by omega),Ay h.rc (by omega),Ay h.out (by omega),hf,h.own.setLow hl _,h.bel.setCell (p:=⟨w.heap.size+1+1,7,none⟩) (by simp; omega) _⟩
theorem EN.setPc (h:EN w V z iv lo qa qc g bank A X S Pc Z N C I) (hl:w.heap.size+1+1<lo) (P':Int):EN w (V.setCell ⟨w.heap.size+1+1,3,none⟩ (.i P')) z iv lo qa qc g bank A X S P' Z N C I:=by
 have hf:=h.far;exact ⟨Ay h.img (by omega),by simpa using Af (o:=3) h.cpu (.i P'),Ay h.rm (by omega),Ay h.rc (by omega),Ay h.out (by omega),hf,h.own.setLow hl _,h.bel.setCell (p:=⟨w.heap.size+1+1,3,none⟩) (by simp; omega) _⟩
theorem EN.pushed (h:EN w V z iv lo qa qc g bank A X S Pc Z N C I) {qa':Option Addr} {qc':Nat} {g':Nat→Int} (O:Am V' V.heap.size (.slice qa' 512 qc') 512 g') (L:Below V.heap.size V V') (S':Int) :
  EN w ((((((((((V'.setCell ⟨z,0,none⟩ (.slice qa' 512 qc')).setCell ⟨z,1,none⟩ (.i bank)).setCell ⟨w.heap.size+1+1,0,none⟩ (.i A)).setCell ⟨w.heap.size+1+1,1,none⟩ (.i X)).setCell ⟨w.heap.size+1+1,2,none⟩ (.i S')).setCell ⟨w.heap.size+1+1,3,none⟩ (.i Pc)).setCell ⟨w.heap.size+1+1,4,none⟩ (.bool Z)).setCell ⟨w.heap.size+1+1,5,none⟩ (.bool N)).setCell ⟨w.heap.size+1+1,6,none⟩ (.bool C)).setCell ⟨w.heap.size+1+1,7,none⟩ (.bool I)) z iv V.heap.size qa' qc' g' bank A X S' Pc Z N C I:=by
 have m:=h.below L;have hf:=h.far;have hz:=Ac h.out
 have h2:z≠w.heap.size+1+1:=by omega
 refine ⟨Gn (Ay (Ay m.img (by omega)) (by omega)) (by omega) _ _ _ _ _ _ _ _,Ke (Ay (Ay m.cpu (by omega)) (by omega)) _ _ _ _ _ _ _ _,Gn (Ay (Ay m.rm (by omega)) (by omega)) (by omega) _ _ _ _ _ _ _ _,Gn (Ay (Ay m.rc (by omega)) (by omega)) (by omega) _ _ _ _ _ _ _ _,Gn (Lu m.out _ _) h2 _ _ _ _ _ _ _ _,hf,?_,?_⟩
 ·exact ((((((((((O.setLow (by omega) _).setLow (by omega) _).setLow (by omega) _).setLow (by omega) _).setLow (by omega) _).setLow (by omega) _).setLow (by omega) _).setLow (by omega) _).setLow (by omega) _).setLow (by omega) _)
 ·exact m.bel.trans ((((Below.refl w.heap.size V').setCell (p:=⟨z,0,none⟩) (by simp; omega) _).setCell (p:=⟨z,1,none⟩) (by simp; omega) _).trans ((Lp _ (w.heap.size+1+1) _ _ _ _ _ _ _ _).mono (by omega)))
end
theorem Iu (w:World) (F G:Nat→Nat→Prop) (iv u:Value) (m:Nat) (ln:Nat→Nat) (f:Nat→Nat→Int) (g:Nat→Int) (bank:Int) (H:Ba .i64 w F iv m ln f) (K:Ints .i64 w G u 512 g) (A X S Pc:Int) (Z N C I:Bool) (vec:Int) :
  Calls Tryz.prog 86 #[.agg #[iv],.agg #[u,.i bank],.agg (cR A X S Pc Z N C I),.i vec] w fun e w'=>∃ q,e=.returned (.tuple #[.agg #[q,.i bank],.agg (cR A X (dec8 (dec8 (dec8 S))) (Hc m ln f (enterG g S Pc Z N C I) bank vec) Z N C true)])∧Am w' w.heap.size q 512 (enterG g S Pc Z N C I)∧Below w.heap.size w w':=by
 have L0:∀ ua ucap,Below w.heap.size w (((((w.alloc (.cells #[iv] 41)).alloc (.cells #[.slice ua 512 ucap,.i bank] 42)).alloc (.cells (cR A X S Pc Z N C I) 43)).alloc (.cells mZ 42)).alloc (.cells cZ 43)):=fun ua ucap=>(((((Below.refl _ _).alloc (Nat.le_refl _) _).alloc (by simp) _).alloc (by simp; omega) _).alloc (by simp; omega) _).alloc (by simp; omega) _
 obtain ⟨ua,ucap,rfl,un,hrow,-⟩:=K;replace L0:=L0 ua ucap;have hrow0:=hrow.keep (Ab L0 Aj) (fun _ _ _ x=>x)
 have k4:(((((w.alloc (.cells #[iv] 41)).alloc (.cells #[.slice ua 512 ucap,.i bank] 42)).alloc (.cells (cR A X S Pc Z N C I) 43)).alloc (.cells mZ 42)).alloc (.cells cZ 43)).heap[w.heap.size]?=some (.cells #[iv] 41 (0,0)):=by simpa using Ax (Ax (Ax (Ax (Al w #[iv] 41) (.cells #[.slice ua 512 ucap,.i bank] 42)) (.cells (cR A X S Pc Z N C I) 43)) (.cells mZ 42)) (.cells cZ 43)
 have k5:(((((w.alloc (.cells #[iv] 41)).alloc (.cells #[.slice ua 512 ucap,.i bank] 42)).alloc (.cells (cR A X S Pc Z N C I) 43)).alloc (.cells mZ 42)).alloc (.cells cZ 43)).heap[w.heap.size+1]?=some (.cells #[.slice ua 512 ucap,.i bank] 42 (0,0)):=by simpa using Ax (Ax (Ax (Al (w.alloc (.cells #[iv] 41)) #[.slice ua 512 ucap,.i bank] 42) (.cells (cR A X S Pc Z N C I) 43)) (.cells mZ 42)) (.cells cZ 43)
 have k6:(((((w.alloc (.cells #[iv] 41)).alloc (.cells #[.slice ua 512 ucap,.i bank] 42)).alloc (.cells (cR A X S Pc Z N C I) 43)).alloc (.cells mZ 42)).alloc (.cells cZ 43)).heap[w.heap.size+1+1]?=some (.cells (cR A X S Pc Z N C I) 43 (0,0)):=by simpa using Ax (Ax (Al ((w.alloc (.cells #[iv] 41)).alloc (.cells #[.slice ua 512 ucap,.i bank] 42)) (cR A X S Pc Z N C I) 43) (.cells mZ 42)) (.cells cZ 43)
 have k8:(((((w.alloc (.cells #[iv] 41)).alloc (.cells #[.slice ua 512 ucap,.i bank] 42)).alloc (.cells (cR A X S Pc Z N C I) 43)).alloc (.cells mZ 42)).alloc (.cells cZ 43)).heap[w.heap.size+1+1+1]?=some (.cells mZ 42 (0,0)):=by simpa using Ax (Al (((w.alloc (.cells #[iv] 41)).alloc (.cells #[.slice ua 512 ucap,.i bank] 42)).alloc (.cells (cR A X S Pc Z N C I) 43)) mZ 42) (.cells cZ 43)
 have k9:(((((w.alloc (.cells #[iv] 41)).alloc (.cells #[.slice ua 512 ucap,.i bank] 42)).alloc (.cells (cR A X S Pc Z N C I) 43)).alloc (.cells mZ 42)).alloc (.cells cZ 43)).heap[w.heap.size+1+1+1+1]?=some (.cells cZ 43 (0,0)):=by simpa using Al ((((w.alloc (.cells #[iv] 41)).alloc (.cells #[.slice ua 512 ucap,.i bank] 42)).alloc (.cells (cR A X S Pc Z N C I) 43)).alloc (.cells mZ 42)) cZ 43
 go_enter Tryz.func86,Tryz.ntmps86
 go_wp2_with fail;generalize (((((w.alloc (.cells #[iv] 41)).alloc (.cells #[.slice ua 512 ucap,.i bank] 42)).alloc (.cells (cR A X S Pc Z N C I) 43)).alloc (.cells mZ 42)).alloc (.cells cZ 43))=W0 at *;have hW:=Ac k9;refine (Lo _ (fun _ _=>True) (.slice ua 512 ucap) 512 g bank ⟨_,_,rfl,by omega,hrow0,fun _ _ _=>trivial⟩).mono ?_;rintro e W1 ⟨q,rfl,O1,L1⟩
 obtain ⟨q1,c1,rfl⟩:∃ q1 c1,q=.slice q1 512 c1:=by obtain ⟨a,c,e,_⟩:=O1; exact ⟨a,c,e⟩
 have LA:Below W1.heap.size W1 (W1.alloc (.cells #[.slice q1 512 c1,.i bank] 42)):=(Below.refl _ _).alloc (Nat.le_refl _) _;have L2:=L1.trans (LA.mono L1.size)
 have M1:EN w (W1.alloc (.cells #[.slice q1 512 c1,.i bank] 42)) W1.heap.size iv W0.heap.size q1 c1 g bank A X S Pc Z N C I:=⟨Aa k4 L2 (Ac k4),Aa k6 L2 (Ac k6),Aa k8 L2 (Ac k8),Aa k9 L2 (Ac k9),Al _ _ _,by have:=L1.size; omega,O1.keepL LA,Ae L0 L2⟩
 clear hrow hrow0 k4 k5 k6 k8 k9 O1 L1 LA L2 L0 hW;go_upto_region 2 with (fail)
 obtain ⟨z,hz⟩:∃ z,Hid (z=W1.heap.size):=⟨_,rfl⟩
 generalize W1.alloc (.cells #[.slice q1 512 c1,.i bank] 42)=V1 at *;rw [← hz.out] at M1 ⊢;clear hz;have c6:=Ag M1.cpu;go_wp2_with fail;clear c6;refine (Vt _ A X S Pc Z N C I).mono ?_;rintro e V2 ⟨rfl,L2⟩;have M2:=M1.below L2;clear M1 L2
 obtain ⟨fl,hfl⟩:∃ fl,Hid (fl=flagsOf Z N C I):=⟨_,rfl⟩
 rw [← hfl.out];have c6:=Ag M2.cpu;have c10:=Ag M2.out;go_wp2_with fail;clear c6 c10;refine (E4 _ _ _ g bank M2.ints A X S Pc Z N C I (Pc/256)).mono ?_;rintro e U3 ⟨q,rfl,O,L⟩
 obtain ⟨q3,c3,rfl⟩:∃ qa qc,q=.slice qa 512 qc:=by obtain ⟨a,c,e,_⟩:=O; exact ⟨a,c,e⟩
 have M3:=M2.pushed O L (dec8 S);have d6:=Ag (M2.below L).cpu;have e6:=As (M2.below L).cpu;have d10:=Ag (M2.below L).out;have e10:=As (M2.below L).out
 have hf6:z≠w.heap.size+1+1:=by have:=M2.far; omega
 have hlo3:z<V2.heap.size:=Ac M2.out;have HM:=Ad M3;clear M3 M2 O L;rw [show (S-1)%256=dec8 S from rfl];go_upto_region 4 with (fail);clear d6 e6 d10 e10 hf6;have M3:=An HM;clear HM;generalize ((((((((((U3.setCell ⟨z,0,none⟩ (.slice q3 512 c3)).setCell ⟨z,1,none⟩ (.i bank)).setCell ⟨w.heap.size+1+1,0,none⟩ (.i A)).setCell ⟨w.heap.size+1+1,1,none⟩ (.i X)).setCell ⟨w.heap.size+1+1,2,none⟩ (.i (dec8 S))).setCell ⟨w.heap.size+1+1,3,none⟩ (.i Pc)).setCell ⟨w.heap.size+1+1,4,none⟩ (.bool Z)).setCell ⟨w.heap.size+1+1,5,none⟩ (.bool N)).setCell ⟨w.heap.size+1+1,6,none⟩ (.bool C)).setCell ⟨w.heap.size+1+1,7,none⟩ (.bool I))=V3 at *;have c6:=Ag M3.cpu;have c10:=Ag M3.out;go_wp2_with fail;clear c6 c10;refine (E4 _ _ _ (B7 g S (Pc/256)) bank M3.ints A X (dec8 S) Pc Z N C I Pc).mono ?_
 rintro e U4 ⟨q,rfl,O,L⟩
 obtain ⟨q4,c4,rfl⟩:∃ qa qc,q=.slice qa 512 qc:=by obtain ⟨a,c,e,_⟩:=O; exact ⟨a,c,e⟩
 have M4:=M3.pushed O L (dec8 (dec8 S));have d6:=Ag (M3.below L).cpu;have e6:=As (M3.below L).cpu;have d10:=Ag (M3.below L).out;have e10:=As (M3.below L).out
 have hf6:z≠w.heap.size+1+1:=by have:=M3.far; omega
 have hlo4:z<V3.heap.size:=Ac M3.out;have HM:=Ad M4;clear M4 M3 O L;rw [show ((dec8 S)-1)%256=dec8 (dec8 S) from rfl];go_upto_region 5 with (fail);clear d6 e6 d10 e10 hf6;have M4:=An HM;clear HM;generalize ((((((((((U4.setCell ⟨z,0,none⟩ (.slice q4 512 c4)).setCell ⟨z,1,none⟩ (.i bank)).setCell ⟨w.heap.size+1+1,0,none⟩ (.i A)).setCell ⟨w.heap.size+1+1,1,none⟩ (.i X)).setCell ⟨w.heap.size+1+1,2,none⟩ (.i (dec8 (dec8 S)))).setCell ⟨w.heap.size+1+1,3,none⟩ (.i Pc)).setCell ⟨w.heap.size+1+1,4,none⟩ (.bool Z)).setCell ⟨w.heap.size+1+1,5,none⟩ (.bool N)).setCell ⟨w.heap.size+1+1,6,none⟩ (.bool C)).setCell ⟨w.heap.size+1+1,7,none⟩ (.bool I))=V4 at *;have c6:=Ag M4.cpu;have c10:=Ag M4.out;go_wp2_with fail;clear c6 c10
 refine (E4 _ _ _ (B7 (B7 g S (Pc/256)) (dec8 S) Pc) bank M4.ints A X (dec8 (dec8 S)) Pc Z N C I fl).mono ?_;rintro e U5 ⟨q,rfl,O,L⟩
 obtain ⟨q5,c5,rfl⟩:∃ qa qc,q=.slice qa 512 qc:=by obtain ⟨a,c,e,_⟩:=O; exact ⟨a,c,e⟩
 have M5:=M4.pushed O L (dec8 (dec8 (dec8 S)));have d6:=Ag (M4.below L).cpu;have e6:=As (M4.below L).cpu;have d10:=Ag (M4.below L).out;have e10:=As (M4.below L).out
 have hf6:z≠w.heap.size+1+1:=by have:=M4.far; omega
 have hlo5:z<V4.heap.size:=Ac M4.out;have HM:=Ad M5;clear M5 M4 O L;rw [show ((dec8 (dec8 S))-1)%256=dec8 (dec8 (dec8 S)) from rfl];go_upto_region 6 with (fail);clear d6 e6 d10 e10 hf6;have M5:=An HM;clear HM;generalize ((((((((((U5.setCell ⟨z,0,none⟩ (.slice q5 512 c5)).setCell ⟨z,1,none⟩ (.i bank)).setCell ⟨w.heap.size+1+1,0,none⟩ (.i A)).setCell ⟨w.heap.size+1+1,1,none⟩ (.i X)).setCell ⟨w.heap.size+1+1,2,none⟩ (.i (dec8 (dec8 (dec8 S))))).setCell ⟨w.heap.size+1+1,3,none⟩ (.i Pc)).setCell ⟨w.heap.size+1+1,4,none⟩ (.bool Z)).setCell ⟨w.heap.size+1+1,5,none⟩ (.bool N)).setCell ⟨w.heap.size+1+1,6,none⟩ (.bool C)).setCell ⟨w.heap.size+1+1,7,none⟩ (.bool I))=V5 at *
 have h2lo:w.heap.size+1+1<V4.heap.size:=by have:=M5.far; omega
 have M6:=M5.setI h2lo true;have c6:=Ag M5.cpu;have f6:=As M5.cpu;have HM:=Ad M6;have hf5:=M5.far;clear M5 M6;go_upto_region 7 with (fail);have M6:=An HM;clear HM c6 f6;generalize V5.setCell ⟨w.heap.size+1+1,7,none⟩ (.bool true)=V6 at *;rw [hfl.out] at M6;clear hfl;rw [show B7 (B7 (B7 g S (Pc/256)) (dec8 S) Pc) (dec8 (dec8 S)) (flagsOf Z N C I)=enterG g S Pc Z N C I from rfl] at M6
 obtain ⟨G',hG⟩:∃ G',Hid (G'=enterG g S Pc Z N C I):=⟨_,rfl⟩
 rw [← hG.out] at M6;have D6:Below V6.heap.size V6 V6.drew:=Et V6;have HPk:=Ad (fun (V':World) (L:Below V6.heap.size V6 V') (x:Int)=>Hw V' _ _ iv (.slice q5 512 c5) m ln f 512 G' bank x (H.keep (Ab (Ae M6.bel L) Aj) (fun _ _ _ x=>x)) (M6.below L).ints);have a1:V6.cell? ⟨w.heap.size,0,none⟩=some iv:=Ag M6.img 0;have a2:V6.cell? ⟨z,0,none⟩=some (.slice q5 512 c5):=Ag M6.out 0;have a3:V6.cell? ⟨z,1,none⟩=some (.i bank):=Ag M6.out 1;have HM:=Ad M6;clear M6;have HT1:=Ad ((An HPk) V6.drew D6 vec)
 obtain ⟨pc,hpc⟩:∃ pc,Hid (pc=Hc m ln f G' bank vec):=⟨_,rfl⟩
 obtain ⟨x1,hx1⟩:∃ x1,Hid (x1=peekV m ln f 512 G' bank vec):=⟨_,rfl⟩
 obtain ⟨x2,hx2⟩:∃ x2,Hid (x2=peekV m ln f 512 G' bank (vec+1)):=⟨_,rfl⟩
 have HJ:=Ad (fun W=>Lb x1 x2 W);rw [show x1%256+256*(x2%256)=pc by rw [hx1.out,hx2.out,hpc.out]; rfl] at HJ;rw [← hx1.out] at HT1
 have HP2:Hid (∀ V',Below V6.heap.size V6 V'→∀ y,Hid (y=IntKind.i64.wrap (vec+1))→Calls Tryz.prog 112 #[.agg #[iv],.agg #[.slice q5 512 c5,.i bank],.i y] V' fun e w'=>e=.returned (.i x2)∧Below V'.heap.size V' w'):=fun V' L y hy=>by
  have h:=(An HPk) V' L y;rw [hy.out,F8,← hx2.out,← hy.out] at h;exact h
 go_cut [50] (fun sl WX=>∃ V':World,Below V6.heap.size V6 V'∧WX=V'.setCell ⟨w.heap.size+1+1,3,none⟩ (.i pc))
 case first =>
  go_region_held3 (fun w'=>w'.cell? ⟨w.heap.size,0,none⟩=some iv∧w'.cell? ⟨z,0,none⟩=some (.slice q5 512 c5)∧w'.cell? ⟨z,1,none⟩=some (.i bank)) (first | (with_reducible assumption) | (refine ⟨?_,?_,?_⟩ <;> with_reducible assumption) | go_keep) (first
   | (go_at_call 111; refine (An HJ _).mono ?_; rintro e P3 ⟨rfl,rfl⟩)
   | (go_at_call 112; refine (An HP2 _ C1 _ rfl).mono ?_; rintro e P2 ⟨rfl,L2⟩; have C2:=Ae C1 L2; have M2x:=(An HM).below C2; have d6:=Ag M2x.cpu; have f6:=As M2x.cpu; have b1:P2.cell? ⟨w.heap.size,0,none⟩=some iv:=Ag M2x.img 0; have b2:P2.cell? ⟨z,0,none⟩=some (.slice q5 512 c5):=Ag M2x.out 0; have b3:P2.cell? ⟨z,1,none⟩=some (.i bank):=Ag M2x.out 1; have g1:(P2.setCell ⟨w.heap.size+1+1,3,none⟩ (.i pc)).cell? ⟨w.heap.size,0,none⟩=some iv:=Ag (M2x.setPc h2lo pc).img 0; have g2:(P2.setCell ⟨w.heap.size+1+1,3,none⟩ (.i pc)).cell? ⟨z,0,none⟩=some (.slice q5 512 c5):=Ag (M2x.setPc h2lo pc).out 0; have g3:(P2.setCell ⟨w.heap.size+1+1,3,none⟩ (.i pc)).cell? ⟨z,1,none⟩=some (.i bank):=Ag (M2x.setPc h2lo pc).out 1; clear M2x L2)
   | (go_at_call 112; refine (An HT1).mono ?_; rintro e P1 ⟨rfl,L1⟩; have C1:=Ae D6 L1; have M1x:=(An HM).below C1; have e1:P1.cell? ⟨w.heap.size,0,none⟩=some iv:=Ag M1x.img 0; have e2:P1.cell? ⟨z,0,none⟩=some (.slice q5 512 c5):=Ag M1x.out 0; have e3:P1.cell? ⟨z,1,none⟩=some (.i bank):=Ag M1x.out 1; clear M1x L1))
  all_goals (
   go_wp2_with fail
   go_meet
   exact ⟨_,C2,rfl⟩)
 case rest =>
 obtain ⟨V',LV,rfl⟩:=hcut;have M7:=((An HM).below LV).setPc h2lo pc;clear HM LV a1 a2 a3 HT1 HP2 HPk HJ hx1 hx2 D6;generalize V'.setCell ⟨w.heap.size+1+1,3,none⟩ (.i pc)=V7 at *;go_upto_region 8 with (fail);have c6:=Ag M7.cpu;have c10:=Ag M7.out;have c8:=Ag M7.rm;have f8:=As M7.rm;have c9:=Ag M7.rc;have f9:=As M7.rc
 have r8:=fun (x0 x1 y0 y1 y2 y3 y4 y5 y6 y7:Value)=>Ag (Gn (Lu M7.rm x0 x1) (show w.heap.size+1+1+1≠w.heap.size+1+1+1+1 by omega) y0 y1 y2 y3 y4 y5 y6 y7)
 have r9:=fun (x0 x1 y0 y1 y2 y3 y4 y5 y6 y7:Value)=>Ag (Ke (Ay (Ay (x:=x0) (o:=0) M7.rc (show w.heap.size+1+1+1+1≠w.heap.size+1+1+1 by omega)) (x:=x1) (o:=1) (show w.heap.size+1+1+1+1≠w.heap.size+1+1+1 by omega)) y0 y1 y2 y3 y4 y5 y6 y7)
 have hlo9:w.heap.size+1+1+1+1<V4.heap.size:=by have:=M7.far; omega
 have hw4:w.heap.size≤V4.heap.size:=by omega
 have HF:Hid (∀ (x0 x1 y0 y1 y2 y3 y4 y5 y6 y7:Value),Am (((((((((((V7.setCell ⟨w.heap.size+1+1+1,0,none⟩ x0).setCell ⟨w.heap.size+1+1+1,1,none⟩ x1).setCell ⟨w.heap.size+1+1+1+1,0,none⟩ y0).setCell ⟨w.heap.size+1+1+1+1,1,none⟩ y1).setCell ⟨w.heap.size+1+1+1+1,2,none⟩ y2).setCell ⟨w.heap.size+1+1+1+1,3,none⟩ y3).setCell ⟨w.heap.size+1+1+1+1,4,none⟩ y4).setCell ⟨w.heap.size+1+1+1+1,5,none⟩ y5).setCell ⟨w.heap.size+1+1+1+1,6,none⟩ y6).setCell ⟨w.heap.size+1+1+1+1,7,none⟩ y7).drew) w.heap.size (.slice q5 512 c5) 512 G'∧Below w.heap.size w (((((((((((V7.setCell ⟨w.heap.size+1+1+1,0,none⟩ x0).setCell ⟨w.heap.size+1+1+1,1,none⟩ x1).setCell ⟨w.heap.size+1+1+1+1,0,none⟩ y0).setCell ⟨w.heap.size+1+1+1+1,1,none⟩ y1).setCell ⟨w.heap.size+1+1+1+1,2,none⟩ y2).setCell ⟨w.heap.size+1+1+1+1,3,none⟩ y3).setCell ⟨w.heap.size+1+1+1+1,4,none⟩ y4).setCell ⟨w.heap.size+1+1+1+1,5,none⟩ y5).setCell ⟨w.heap.size+1+1+1+1,6,none⟩ y6).setCell ⟨w.heap.size+1+1+1+1,7,none⟩ y7).drew)):=fun x0 x1 y0 y1 y2 y3 y4 y5 y6 y7=>⟨((show Am ((((((((((V7.setCell ⟨w.heap.size+1+1+1,0,none⟩ x0).setCell ⟨w.heap.size+1+1+1,1,none⟩ x1).setCell ⟨w.heap.size+1+1+1+1,0,none⟩ y0).setCell ⟨w.heap.size+1+1+1+1,1,none⟩ y1).setCell ⟨w.heap.size+1+1+1+1,2,none⟩ y2).setCell ⟨w.heap.size+1+1+1+1,3,none⟩ y3).setCell ⟨w.heap.size+1+1+1+1,4,none⟩ y4).setCell ⟨w.heap.size+1+1+1+1,5,none⟩ y5).setCell ⟨w.heap.size+1+1+1+1,6,none⟩ y6).setCell ⟨w.heap.size+1+1+1+1,7,none⟩ y7) V4.heap.size _ _ _ from ((((((((((M7.own.setLow (by omega) _).setLow (by omega) _).setLow (by omega) _).setLow (by omega) _).setLow (by omega) _).setLow (by omega) _).setLow (by omega) _).setLow (by omega) _).setLow (by omega) _).setLow (by omega) _)).mono hw4).keepL (Et _),Ae (M7.bel.trans ((((Below.refl _ _).setCell (p:=⟨w.heap.size+1+1+1,0,none⟩) (by simp; omega) _).setCell (p:=⟨w.heap.size+1+1+1,1,none⟩) (by simp; omega) _).trans ((Lp _ (w.heap.size+1+1+1+1) _ _ _ _ _ _ _ _).mono (by omega)))) (Et _)⟩
 have hfar:=M7.far;clear M7
 go_region
 all_goals (
  go_wp2;refine bodyPost_ret (v:=.tuple #[.agg #[.slice q5 512 c5,.i bank],.agg (cR A X (dec8 (dec8 (dec8 S))) pc Z N C true)]) (by simp [results,Tryz.results86,go_sem,r8,r9]) rfl ?_;refine ⟨_,by rw [hpc.out,hG.out],?_⟩;rw [← hG.out]
  with_reducible exact HF.out _ _ _ _ _ _ _ _ _ _)
open Go.Sort
section
variable {P:Program} {ops:Array Oper} {C:World→Prop}
def Jbl (ops:Array Oper) (n:Nat) (l:Array Bool):Prop:=l.size=ops.size∧(∀ k,k<n→l.getD k true=true)∧∀ k,n≤k→k<ops.size→l.getD k true=false
def Zi (ops:Array Oper) (n:Nat):Prop:=∀ j,n≤j→j<ops.size→∀ k,k<n→Bb ops 6 j k=true
def Closed (ops:Array Oper) (l:Array Bool):Prop:=∀ (k:Nat) (o:Oper),l[k]?=some true→ops[k]?=some o→∀ j:Nat,A0 o j=true→l[j]?=some true
theorem Rs {l:Array Bool} {i k:Nat} (h:l[k]?=some true):(l.setIfInBounds i true)[k]?=some true:=by
 by_cases e:i=k
 ·subst e; have:=(Array.getElem?_eq_some_iff.1 h).1; simp [this]
 ·rw [Array.getElem?_setIfInBounds_ne e]; exact h
theorem Closed.set {l:Array Bool} (H:Closed ops l) {i:Nat} (hi:i∈Region.ready .any ops l):Closed ops (l.setIfInBounds i true):=by
 intro k o hk ho j hj
 by_cases e:i=k
 ·subst e
  obtain ⟨-,o',ho',hall⟩:=mem_ready.1 hi;rw [ho'] at ho;cases ho;unfold A0 at hj;rw [Array.any_eq_true'] at hj;obtain ⟨e,he,hb⟩:=hj;simp only [Bool.and_eq_true,beq_iff_eq] at hb;have h1:=hall e he hb.1;rw [hb.2,Array.getD_eq_getD_getElem?] at h1;refine Rs ?_
  rcases hq:l[j]? with _ | b
  ·rw [hq] at h1; simp at h1
  ·rw [hq] at h1; simpa using h1
 ·rw [Array.getElem?_setIfInBounds_ne e] at hk
  exact Rs (H k o hk ho j hj)
def Mp (P:Program) (ops:Array Oper) (C:World→Prop) (n:Nat) (Q:Act→Prop):Nat→Array Bool→Act→Prop
 | 0,l,a=>Jbl ops n l∧Q a
 | f+1,l,a=>(∃ i,i∈Region.ready .any ops l)∧∀ i∈Region.ready .any ops l,qOp P ops C i (Mp P ops C n Q f (l.setIfInBounds i true)) a
theorem Qe {n:Nat} (hn:Zi ops n) {Q:Act→Prop} {i:Nat} {oi:Oper} {v:Value} (hin:i<n) (hi:ops[i]?=some oi) (hsel:∀ (j:Nat) (o:Oper) cs b,ops[j]?=some o→o.op≠.select cs b) :
  ∀ (f:Nat) (l:Array Bool) (a:Act),Closed ops l →
   (∀ j oj,ops[j]?=some oj→j≠i→l.getD j true=false→(∀ e∈oj.after,Region.binds .any e=true→e.on≠i)→oi.apart ops oj=true) →
   i∈Region.ready .any ops l→YieldsIn P ops C oi v a →
   Mp P ops C n Q f (l.setIfInBounds i true) (a.put oi.dst v)→Mp P ops C n Q (f+1) l a:=by
 intro f
 induction f with
 | zero =>
  intro l a hcl _ hr hy H;refine ⟨⟨i,hr⟩,fun j hj=>?_⟩
  by_cases hji:j=i
  ·subst hji; exact hy.qOp hi H
  ·exfalso
   obtain ⟨hjun,oj,hoj,hall⟩:=mem_ready.1 hj
   rcases Nat.lt_or_ge j n with h | h
   ·have h1:=H.1.2.1 j h
    rw [getD_set_ne true (Ne.symm hji),hjun] at h1;cases h1
   ·have hlt:j<ops.size:=(Array.getElem?_eq_some_iff.1 hoj).1
    have hsz:l.size=ops.size:=by simpa using H.1.1
    have h1:=Gc (hcl.set hj) 6 j i (by simp [hsz,hlt]) (hn j h hlt i hin);rw [Array.getElem?_setIfInBounds_ne hji] at h1;have h0:=(mem_ready.1 hr).1;rw [Array.getD_eq_getD_getElem?,h1] at h0;cases h0
 | succ f ih =>
  intro l a hcl hfree hr hy H;refine ⟨⟨i,hr⟩,fun j hj=>?_⟩
  by_cases hji:j=i
  ·subst hji; exact hy.qOp hi H
  ·have h1:=H.2 j (ready_mono hj hji)
   obtain ⟨hjun,oj,hoj,hall⟩:=mem_ready.1 hj
   have hnot:∀ e∈oj.after,Region.binds .any e=true→e.on≠i:=fun e he hb heq=>by
    have h1:=hall e he hb;have h0:=(mem_ready.1 hr).1;rw [heq] at h1
    rcases Nat.lt_or_ge i l.size with h' | h'
    ·simp [h'] at h0 h1; rw [h0] at h1; cases h1
    ·simp [Array.getElem?_eq_none h'] at h1
   have h2:=qOp_put hoj (hfree j oj hoj hji hjun hnot) (fun cs b=>hsel i oi cs b hi) (fun cs b=>hsel j oj cs b hoj) hy h1
   have hfree':∀ k ok,ops[k]?=some ok→k≠i→(l.setIfInBounds j true).getD k true=false →
     (∀ e∈ok.after,Region.binds .any e=true→e.on≠i)→oi.apart ops ok=true:=fun k ok hk hki hun hno=>by
    refine hfree k ok hk hki ?_ hno
    by_cases hjk:j=k
    ·subst hjk; exact hjun
    ·rw [getD_set_ne true hjk] at hun; exact hun
   refine qOp_mono (fun a' h3=>ih (l.setIfInBounds j true) a' (hcl.set hj) hfree' (ready_mono hr (Ne.symm hji)) h3.1 ?_) h2;rw [Array.setIfInBounds_comm _ _ hji];exact h3.2
def Rt (ops:Array Oper):Nat→Nat→Array Bool→Bool
 | 0,_,_=>true
 | f+1,k,l=>(Region.ready .any ops l).contains k && Region.free .any ops l k && Rt ops f (k+1) (l.setIfInBounds k true)
theorem Mq {n:Nat} (hn:Zi ops n) (hz:n≤ops.size) {Q:Act→Prop} (hs:Region.noSelect ops=true):∀ (t:List Oper) (k:Nat) (l:Array Bool) (a:Act),k+t.length=n→l.size=ops.size→Closed ops l→Jbl ops k l→(∀ j,j<t.length→t[j]?=ops[k+j]?) →
  Rt ops t.length k l=true→wpQuiet P ops C Q t a→Mp P ops C n Q t.length l a
 | [],k,l,a,hk,hl,_,hu,_,hB,h=>by
  have e:k=n:=by simpa using hk
  exact ⟨e ▸ hu,h⟩
 | o :: t,k,l,a,hk,hl,hcl,hu,ht,hB,h=>by
  have h0:ops[k]?=some o:=by simpa using (ht 0 (by simp)).symm
  simp only [List.length_cons] at hk;simp only [List.length_cons,Rt,Bool.and_eq_true] at hB;obtain ⟨⟨hr,hf⟩,hB'⟩:=hB
  have hst:qOp P ops C k (wpQuiet P ops C Q t) a:=by unfold qOp; simp only [h0]; exact h
  obtain ⟨v,hy,hK⟩:=yieldsIn_of_qOp h0 hst
  refine Qe hn (by omega) h0 (Region.noSelect_spec hs) t.length l a hcl (Region.free_spec h0 hf) (by simpa using hr) hy
   (Mq hn hz hs t (k+1) _ _ (by omega) (by simpa using hl) (hcl.set (by simpa using hr)) ⟨by simpa using hl,fun j hj=>?_,fun j hj hj2=>?_⟩ (fun j hj=>by have:=ht (j+1) (by simpa using hj); simpa [Nat.add_assoc,Nat.add_comm 1 j] using this) hB' hK)
  ·by_cases e:k=j
   ·subst e; simp [Array.getD_eq_getD_getElem?,hl,show k<ops.size by omega]
   ·rw [getD_set_ne true e]; exact hu.2.1 j (by omega)
  ·rw [getD_set_ne true (by omega)]; exact hu.2.2 j (by omega) hj2
theorem Mr {n m:Nat} {Q:Act→Prop} {Q':Exit→Act→World→Prop} (hQ:∀ l a w,C w→Jbl ops n l→Q a→wpAny P .any ops Q' m l a w):∀ (f:Nat) (l:Array Bool) (a:Act) (w:World),C w →
  Mp P ops C n Q f l a→wpAny P .any ops Q' (f+m) l a w
 | 0,l,a,w,hw,h=>by rw [Nat.zero_add]; exact hQ l a w hw h.1 h.2
 | f+1,l,a,w,hw,h=>by
  rw [show f+1+m=(f+m)+1 by omega];exact ⟨fun h0=>(by obtain ⟨i,hi⟩:=h.1; rw [h0] at hi; cases hi),fun i hi=>wpOp_of_qOp hw (fun a' w' hw'=>Mr hQ f _ a' w' hw') (h.2 i hi)⟩
abbrev Rgr (w:World):World→Prop:=fun w'=>∃ p:Regrown,w'=grow (redrawn w p.d) p.os
def Kl (P:Program) (Q:Exit→Act→World→Prop):List Oper→Act→World→Prop
 | [],a,w=>Q .normal a w
 | o :: r,a,w=>o.wp P a w (Kl P Q r) Q
def Vd (ops:Array Oper) (n:Nat):Bool:=(List.range ops.size).all fun j=>decide (j<n) || ((List.range n).all (Bb ops 6 j) && match ops[j]? with | some o=>o.guard.isNone && o.after.all (fun e=>!Region.binds .any e || decide (e.on<j)) && (decide (j=n) || A0 o (j-1)) | none=>false)
theorem Km {n j:Nat} {o:Oper} (hB:Vd ops n=true) (hn:n≤j) (ho:ops[j]?=some o):(∀ k,k<n→Bb ops 6 j k=true)∧o.guard=none∧(∀ e∈o.after,Region.binds .any e=true→e.on<j)∧(j=n∨A0 o (j-1)=true):=by
 have h:=List.all_eq_true.1 hB j (List.mem_range.2 (Array.getElem?_eq_some_iff.1 ho).1);rw [ho,Bool.or_eq_true,decide_eq_true_eq] at h
 rcases h with h | h
 ·omega
 ·simp only [Bool.and_eq_true,List.all_eq_true,List.mem_range,Bool.or_eq_true,decide_eq_true_eq] at h
  obtain ⟨h1,⟨h2,h3⟩,h4⟩:=h;refine ⟨h1,by simpa using h2,fun e he hb=>?_,h4⟩;have:=(Array.all_eq_true_iff_forall_mem.1 h3) e he;rw [hb] at this
  simpa using this
theorem Ms {n:Nat} {Q:Exit→Act→World→Prop} (hB:Vd ops n=true):∀ (r:List Oper) (k:Nat) (l:Array Bool) (a:Act) (w:World),n≤k→k+r.length=ops.size→(∀ j,j<r.length→r[j]?=ops[k+j]?)→Jbl ops k l→Kl P Q r a w→wpAny P .any ops Q r.length l a w
 | [],k,l,a,w,_,hk,_,hu,h=>by
  refine ⟨List.eq_nil_iff_forall_not_mem.2 fun i hi=>?_,h⟩;obtain ⟨h0,oj,hoj,-⟩:=mem_ready.1 hi;have:=(Array.getElem?_eq_some_iff.1 hoj).1;simp only [List.length_nil] at hk;rw [hu.2.1 i (by omega)] at h0;cases h0
 | o :: r,k,l,a,w,hn,hk,ht,hu,h=>by
  simp only [List.length_cons] at hk
  have ho:ops[k]?=some o:=by simpa using (ht 0 (by simp)).symm
  obtain ⟨-,hg,hb,-⟩:=Km hB hn ho
  have hr:∀ i,i∈Region.ready .any ops l→i=k:=fun i hi=>by
   obtain ⟨h0,oj,hoj,hall⟩:=mem_ready.1 hi;have hlt:=(Array.getElem?_eq_some_iff.1 hoj).1
   rcases Nat.lt_trichotomy i k with h1 | h1 | h1
   ·rw [hu.2.1 i h1] at h0; cases h0
   ·exact h1
   ·exfalso
    obtain ⟨-,-,-,hw⟩:=Km hB (show n≤i by omega) hoj
    rcases hw with hw | hw
    ·omega
    ·unfold A0 at hw
     rw [Array.any_eq_true'] at hw;obtain ⟨e,he,hbe⟩:=hw;simp only [Bool.and_eq_true,beq_iff_eq] at hbe;have h2:=hall e he hbe.1;have h3:=hu.2.2 (i-1) (by omega) (by omega);rw [hbe.2,Array.getD_eq_getD_getElem?] at h2;rw [Array.getD_eq_getD_getElem?] at h3
     rcases hq:l[i-1]? with _ | b
     ·rw [Array.getElem?_eq_none_iff,hu.1] at hq; omega
     ·rw [hq] at h2 h3; simp at h2 h3; rw [h2] at h3; cases h3
  have hi:k∈Region.ready .any ops l:=mem_ready.2 ⟨hu.2.2 k (Nat.le_refl _) (by omega),o,ho,fun e he hbe=>by
   have h1:=hb e he hbe;have h2:=hu.2.1 e.on h1;rw [Array.getD_eq_getD_getElem?] at h2 ⊢
   rcases hq:l[e.on]? with _ | b
   ·rw [Array.getElem?_eq_none_iff,hu.1] at hq; omega
   ·simpa [hq] using h2⟩
  refine ⟨fun h0=>(by rw [h0] at hi; cases hi),fun i hi'=>?_⟩;obtain rfl:=hr i hi';refine Ky ho hg (Oper.wp_mono (fun a' w' h'=>Ms hB r (i+1) _ a' w' (by omega) (by omega) (fun j hj=>by have:=ht (j+1) (by simpa using hj); simpa [Nat.add_assoc,Nat.add_comm 1 j] using this) ⟨by simpa using hu.1,fun j hj=>?_,fun j hj hj2=>?_⟩ h') h)
  ·by_cases e:i=j
   ·subst e; simp [Array.getD_eq_getD_getElem?,hu.1,show i<ops.size by omega]
   ·rw [getD_set_ne true e]; exact hu.2.1 j (by omega)
  ·rw [getD_set_ne true (by omega)]; exact hu.2.2 j (by omega) hj2
theorem Fq {id n:Nat} {Q:Exit→Act→World→Prop} {a:Act} {w:World} {t:List Oper} (hm:P.follows .mixedOrders=true) (hB:(Region.noSelect t.toArray && Rt t.toArray n 0 (Array.replicate t.toArray.size false) && Vd t.toArray n && decide (n≤t.toArray.size))=true)
  (h:wpQuiet P t.toArray (Rgr w) (fun a'=>∀ w',Rgr w w'→Kl P Q (t.drop n) a' w') (t.take n) a):(Code.region id t.toArray true).wp P Q a w:=by
 simp only [Bool.and_eq_true,decide_eq_true_eq] at hB;obtain ⟨⟨⟨hs,hl⟩,ht⟩,hz⟩:=hB
 have hz':n≤t.length:=by simpa using hz
 have hd:(t.drop n).length=t.toArray.size-n:=by simp
 have htk:(t.take n).length=n:=by simp; omega
 refine wp_region_any hm ?_;rw [show wpAny P .any t.toArray Q t.toArray.size=wpAny P .any t.toArray Q (n+(t.drop n).length) by rw [hd,Nat.add_sub_cancel' hz]];refine Mr (C:=Rgr w) (n:=n) (Q:=fun a'=>∀ w',Rgr w w'→Kl P Q (t.drop n) a' w') (fun l a' w' hw hu hq=>Ms ht _ n l a' w' (Nat.le_refl _) (by rw [hd]; omega) (fun j hj=>by simp) hu (hq w' hw)) n _ a _ ⟨⟨w.drawn+1,#[]⟩,by rw [grow_empty]; rfl⟩ ?_
 have:=Mq (C:=Rgr w) (n:=n) (fun j hj hlt k hk=>by obtain ⟨o,ho⟩:∃ o,t.toArray[j]?=some o:=⟨_,Array.getElem?_eq_some_iff.2 ⟨hlt,rfl⟩⟩; exact (Km ht hj ho).1 k hk) hz hs (t.take n) 0 (Array.replicate t.toArray.size false) a (by omega) (by simp) (fun k o hk=>by rw [Array.getElem?_replicate] at hk; split at hk <;> simp at hk) ⟨by simp,fun k hk=>absurd hk (Nat.not_lt_zero _),fun k _ hk=>by rw [Array.getD_eq_getD_getElem?,Array.getElem?_replicate,if_pos hk]; rfl⟩ (fun j hj=>by rw [htk] at hj; simp [List.getElem?_take,hj]) (by rw [htk]; exact hl) h;rw [htk] at this;exact this
theorem A6 {id n:Nat} {Q:Exit→Act→World→Prop} {a:Act} {w:World} {t:List Oper} {o:Oper} (hm:P.follows .mixedOrders=true) (hB:(Region.noSelect t.toArray && Rt t.toArray n 0 (Array.replicate t.toArray.size false) && Vd t.toArray n && decide (n≤t.toArray.size) && decide (n+1=t.toArray.size))=true) (ho:t[n]?=some o)
  (h:wpQuiet P t.toArray (Rgr w) (fun a'=>∀ w',Rgr w w'→o.wp P a' w' (fun a'' w''=>Q .normal a'' w'') Q) (t.take n) a):(Code.region id t.toArray true).wp P Q a w:=by
 rw [Bool.and_eq_true,decide_eq_true_eq] at hB
 have e:t.drop n=[o]:=by
  have:=hB.2
  simp at this
  rw [List.drop_eq_getElem_cons (by omega),List.drop_eq_nil_of_le (by omega),(List.getElem?_eq_some_iff.1 ho).2]
 refine Fq hm hB.1 ?_;rw [e];exact h
theorem Bp {w:World} {Q:Act→Prop} {a:Act} {o:Oper} {rest:List Oper} (ty:TypeId) (x:Operand) (ho:o.op=.load ty x) (hgu:o.guard=none)
  (g off:Nat) (hx:a.eval x=(pt g off)) (t:TypeId) (cs part:Array Value) (fr:Nat × Nat) (d:TypeDesc) (hg:w.heap[g]?=some (.cells cs t fr)) (hp:∀ j v,part[j]?=some v→cs[off+j]?=some v)
  (hu:P.underlying ty=some d) (hd:(match d with | .struct _ | .array _ _=>true | _=>false)=true) (hi:(P.info? ty).map (·.size)=some part.size)
  (h:wpQuiet P ops (fun w'=>∃ p:Regrown,w'=grow (redrawn w p.d) p.os) Q rest (a.put o.dst (.agg part))):wpQuiet P ops (fun w'=>∃ p:Regrown,w'=grow (redrawn w p.d) p.os) Q (o :: rest) a:=by
 unfold wpQuiet;rw [if_pos (by simp [Region.wanted,hgu])];refine ⟨.agg part,fun w' hw'=>?_,h⟩;obtain ⟨p,rfl⟩:=hw'
 have hg':(grow (redrawn w p.d) p.os).heap[g]?=some (.cells cs t fr):=by
  rw [(below_regrown w p.d p.os).block g (Array.getElem?_eq_some_iff.1 hg).1]; exact hg
 unfold Oper.quietAt execOp;simp only [ho,hx,Instr.loadAt,Instr.sureAddr,Sem.run_bind,Sem.run_pure,Result.andThen_ok,Gt _ g off t ty cs part fr d hg' hp hu hd hi];exact ⟨rfl,rfl⟩
end
open Go.ChangeShapes Go.WideShapes Go.ChangeAt
theorem Rn {W:World} {lo g n c:Nat} {e:TypeId} {vs:List Value} (h:W.ownsRow lo e 1 (.slice (some ⟨g,0,none⟩) n c) n vs) (hc:n+1≤c) (y:Value):(W.setCell ⟨g,n,none⟩ y).ownsRow lo e 1 (.slice (some ⟨g,0,none⟩) (n+1) c) (n+1) (vs++[y]):=by
 have hl:vs.length=n:=by have:=h.1; omega
 refine ⟨by simp; omega,?_⟩
 rcases h.2 with ⟨e,_⟩ | ⟨g',cap,cur,hv,hb,hg,h1,h2,h3,h4⟩
 ·cases e
 ·have hv':=hv
  simp only [Value.slice.injEq,Option.some.injEq,Addr.mk.injEq,and_true,true_and] at hv';obtain ⟨rfl,rfl⟩:=hv';refine Or.inr ⟨g,c,cur.setIfInBounds n y,rfl,hb,Af hg _,hc,h2,by simpa using h3,?_⟩;rw [Nat.mul_one] at h3 h4 ⊢;rw [← h4]
  apply List.ext_getElem?
  intro k;rw [List.getElem?_take,List.getElem?_append,List.getElem?_take,List.length_take,Array.length_toList,Array.getElem?_toList,Array.getElem?_setIfInBounds]
  by_cases hk:k<n
  ·rw [if_pos (by omega),if_neg (by omega),if_pos (by omega),if_pos hk,Array.getElem?_toList]
  ·by_cases e:k=n
   ·subst e
    rw [if_pos (by omega),if_pos rfl,if_pos (by omega),if_neg (by omega)];rw [show k-min k cur.size=0 by omega]
    rfl
   ·rw [if_neg (by omega),if_neg (by omega),List.getElem?_eq_none (by simp; omega)]
theorem Gs {W:World} {lo g n c:Nat} {e:TypeId} {vs:List Value} (h:W.ownsRow lo e 1 (.slice (some ⟨g,0,none⟩) n c) n vs):∀ j u,vs[j]?=some u→W.cell? ((⟨g,0,none⟩:Addr).add j)=some u:=fun j u hu=>by
 have hl:vs.length=n:=by have:=h.1; omega
 rcases h.2 with ⟨e,_⟩ | ⟨g',cap,cur,hv,hb,hg,h1,h2,h3,h4⟩
 ·cases e
 ·simp only [Value.slice.injEq,Option.some.injEq,Addr.mk.injEq,and_true,true_and] at hv
  obtain ⟨rfl,rfl⟩:=hv;rw [J9,Nat.zero_add,Ag hg];rw [Nat.mul_one] at h4;rw [← h4,List.getElem?_take] at hu
  by_cases hj:j<n
  ·rw [if_pos hj,Array.getElem?_toList] at hu
   exact hu
  ·rw [if_neg hj] at hu
   cases hu
theorem Mk {W:World} {lo lo' n:Nat} {e:TypeId} {v:Value} {vs:List Value} (h:W.ownsRow lo' e 1 v n vs) (hl:lo≤lo'):W.ownsRow lo e 1 v n vs:=by
 refine ⟨h.1,?_⟩
 rcases h.2 with x | ⟨g',cap,cur,hv,hb,r⟩
 ·exact Or.inl x
 ·exact Or.inr ⟨g',cap,cur,hv,by omega,r⟩
theorem Ml {W W':World} {lo n:Nat} {e:TypeId} {v:Value} {vs:List Value} (h:W.ownsRow lo e 1 v n vs) (hb:∀ g,v.ownBlock=some g→W'.heap[g]?=W.heap[g]?):W'.ownsRow lo e 1 v n vs:=by
 refine ⟨h.1,?_⟩
 rcases h.2 with x | ⟨g',cap,cur,hv,hb',hg,r⟩
 ·exact Or.inl x
 ·exact Or.inr ⟨g',cap,cur,hv,hb',(hb g' (by rw [hv]; rfl)).trans hg,r⟩
theorem Di {W:World} {lo n:Nat} {e:TypeId} {v:Value} {vs:List Value} (h:W.ownsRow lo e 1 v n vs) {g:Nat} (hg:v.ownBlock=some g):lo≤g∧g<W.heap.size:=by
 rcases h.2 with ⟨x,_⟩ | ⟨g',cap,cur,hv,hb',hg',r⟩
 ·rw [x] at hg; cases hg
 ·rw [hv] at hg
  obtain rfl:g'=g:=by simpa [Value.ownBlock] using hg
  exact ⟨hb',Ac hg'⟩
theorem Ro (W:World) {o:Oper} {a:Act} {K:Act→World→Prop} {Q:Exit→Act→World→Prop} (s x:Operand) (hop:o.op=Op.call { callee:=Callee.builtin Builtin.append,args:=#[s,x],argTypes:=#[22,22] })
  (lo:Nat) (ov:Value) (n:Nat) (vs:List Value) (hs:a.eval s=ov) (own:W.ownsRow lo 25 1 ov n vs) (hn:n<1048576) (hlo:lo≤W.heap.size) (q:Nat) (y:Value) (hy:y.oneCell'=true) (hx:a.eval x=.slice (some ⟨q,0,none⟩) 1 1) (hq:W.cell? ⟨q,0,none⟩=some y)
  (h:∀ g' c' W',W'.ownsRow lo 25 1 (.slice (some ⟨g',0,none⟩) (n+1) c') (n+1) (vs++[y])→Wrote (fun b _=>ov.ownBlock=some b) W W'→(ov.ownBlock=some g'∨W.heap.size≤g')→K (a.put o.dst (.slice (some ⟨g',0,none⟩) (n+1) c')) W'):o.wp Tryz.prog a W K Q:=by
 obtain ⟨i0,hi,hz0,hz1,hz2⟩:=info_parts Jl
 have hl:vs.length=n:=by have:=own.1; omega
 have hnews:∀ j u,[y][j]?=some u→W.cell? ((⟨q,0,none⟩:Addr).add j)=some u:=fun j u hh=>by
  cases j with
  | zero=>simp at hh; rw [← hh]; exact hq
  | succ j=>simp at hh
 have h1:∀ u∈[y],u.oneCell'=true:=fun u hu=>by simp at hu; rw [hu]; exact hy
 rcases id own.2 with ⟨e,e0⟩ | ⟨g,c,cur,hv,hb,hg,k1,k2,k3,k4⟩
 ·obtain ⟨g',c',W',hrun,r1,r2,r3,r4⟩:=run_append_lies (P:=Tryz.prog) (w:=W) 22 o.type lo 25 i0 (.slice none 0 0) 1 24 Tryz.underlying22 hi hz0 hz1 hz2 rfl (by decide) ov n vs own ⟨q,0,none⟩ 1 1 [y] rfl hnews h1 (by omega) (by unfold maxLen; omega) (by omega) hlo W.heap.size rfl
  have hb:ov.ownBlock=none:=by rw [e]; rfl
  rw [hb] at r2 r3;have L:Below W.heap.size W W':=(Below.refl _ _).grown r2 (Nat.le_refl _) (fun _ e=>by cases e);unfold Oper.wp
  simp [execOp,hop,resolve,invoke,builtin,hs,hx,hrun,Result.andThen]
  exact h g' c' W' r1 (Ab L _) (Or.inr (by rcases r3 with r3 | r3; cases r3; omega))
 ·subst hv
  have hob:(Value.slice (some ⟨g,0,none⟩) n c).ownBlock=some g:=rfl;have hgl:=Ac hg
  by_cases hr:n+1≤c
  ·have hsp:(W.cell? ⟨g,n,none⟩).isSome=true∧W.frozen? ⟨g,n,none⟩=false:=by
    refine ⟨?_,As hg n⟩;rw [Ag hg n,Array.getElem?_eq_getElem (by omega)]
    rfl
   have hrun:=run_append_room_cells (P:=Tryz.prog) W 22 o.type 25 i0 Tryz.underlying22 hi g 0 n c ⟨q,0,none⟩ 1 1 [y] (by rw [hz1]; rfl) hnews h1 hr
    (fun j hj=>by have:j=0:=(by simpa using hj); subst this; rw [hz1]; simpa using hsp.1) (fun j hj=>by have:j=0:=(by simpa using hj); subst this; rw [hz1]; simpa using hsp.2)
   rw [hz1] at hrun;unfold Oper.wp
   simp [execOp,hop,resolve,invoke,builtin,hs,hx,hrun,Result.andThen,World.setCells]
   exact h g c _ (Rn own hr y) (Wrote.setCell (R:=fun b _=>(Value.slice (some ⟨g,0,none⟩) n c).ownBlock=some b) (Wrote.refl _ W) (fun _=>hob) _) (Or.inl hob)
  ·obtain ⟨v',w',hrun,r1,r2⟩:=run_append_arg_grows (P:=Tryz.prog) W 22 o.type 25 i0 (.slice none 0 0) 1 24 Tryz.underlying22 hi hz0 hz1 hz2 rfl (by decide) ⟨g,0,none⟩ n c vs (by rw [hl,Nat.mul_one]) (Gs own) ⟨q,0,none⟩ 1 1 [y] rfl hnews (by omega) (by unfold maxLen; omega) (by omega)
   obtain ⟨g',cap2,rfl,hg',hlt⟩:=r1.form (by omega);have L:Below W.heap.size W w':=(Below.refl _ _).grown r2 (Nat.le_refl _) (fun _ e=>by cases e);unfold Oper.wp
   simp [execOp,hop,resolve,invoke,builtin,hs,hx,hrun,Result.andThen]
   exact h g' cap2 w' (Mk r1 hlo) (Ab L _) (Or.inr hg')
theorem Jz (W:World) {ops:Array Oper} {rest:List Oper} {o:Oper} {a:Act} {Q:Exit→Act→World→Prop} (hg:o.guard=none) (s x:Operand) (hop:o.op=Op.call { callee:=Callee.builtin Builtin.append,args:=#[s,x],argTypes:=#[22,22] })
  (lo:Nat) (ov:Value) (n:Nat) (vs:List Value) (hs:a.eval s=ov) (own:W.ownsRow lo 25 1 ov n vs) (hn:n<1048576) (hlo:lo≤W.heap.size) (q:Nat) (y:Value) (hy:y.oneCell'=true) (hx:a.eval x=.slice (some ⟨q,0,none⟩) 1 1) (hq:W.cell? ⟨q,0,none⟩=some y)
  (h:∀ g' c' W',W'.ownsRow lo 25 1 (.slice (some ⟨g',0,none⟩) (n+1) c') (n+1) (vs++[y])→Wrote (fun b _=>ov.ownBlock=some b) W W'→(ov.ownBlock=some g'∨W.heap.size≤g')→wpList Tryz.prog ops Q rest (a.put o.dst (.slice (some ⟨g',0,none⟩) (n+1) c')) W'):wpList Tryz.prog ops Q (o :: rest) a W :=
 wpList_plain hg fun K hK=>Ro W s x hop lo ov n vs hs own hn hlo q y hy hx hq (fun g c W' r1 r2 r3=>hK _ _ (h g c W' r1 r2 r3))
def Ku (q:Nat) (gb:Nat→Nat) (ln cp:Nat→Nat):List Value:=(List.range q).map (fun i=>.slice (some ⟨gb i,0,none⟩) (ln i) (cp i))
theorem Xe (q g c:Nat) (gb ln cp:Nat→Nat):Ku q gb ln cp++[.slice (some ⟨g,0,none⟩) (ln q) c]=Ku (q+1) (fun i=>if i=q then g else gb i) ln (fun i=>if i=q then c else cp i):=by
 unfold Ku;rw [List.range_succ,List.map_append]
 congr 1
 ·apply List.map_congr_left
  intro i hi;have:=List.mem_range.1 hi
  show _=Value.slice (some ⟨if i=q then g else gb i,0,none⟩) (ln i) (if i=q then c else cp i)
  rw [if_neg (by omega),if_neg (by omega)]
 ·simp
structure SG (W:World) (lo:Nat) (ov:Value) (q:Nat) (gb cp ln:Nat→Nat) (f:Nat→Nat→Int):Prop where
 own:W.ownsRow lo 25 1 ov q (Ku q gb ln cp)
 rows:∀ i,i<q→Row W lo (gb i) (ln i) (cp i) (f i)
 inj:∀ i j,i<q→j<q→i≠j→gb i≠gb j
 dj:∀ g,ov.ownBlock=some g→∀ i,i<q→gb i≠g
 small:q≤1048576
section
variable {W W':World} {lo q:Nat} {ov:Value} {gb cp ln:Nat→Nat} {f:Nat→Nat→Int} {R:Nat→Nat→Prop}
theorem SG.nil (W:World) (lo:Nat) (gb cp ln:Nat→Nat) (f:Nat→Nat→Int):SG W lo (.slice none 0 0) 0 gb cp ln f :=
 ⟨⟨rfl,Or.inl ⟨rfl,rfl⟩⟩,fun i hi=>absurd hi (Nat.not_lt_zero _),fun i j hi=>absurd hi (Nat.not_lt_zero _),fun g h=>(by cases h),by omega⟩
theorem SG.start {W:World} {lo g:Nat} (h:W.heap[g]?=some (.cells #[] 25 (0,0))) (hl:lo≤g) (gb cp ln:Nat→Nat) (f:Nat→Nat→Int):SG W lo (.slice (some ⟨g,0,none⟩) 0 0) 0 gb cp ln f :=
 ⟨⟨rfl,Or.inr ⟨g,0,#[],rfl,hl,h,Nat.le_refl _,by simp,rfl,rfl⟩⟩,fun i hi=>absurd hi (Nat.not_lt_zero _),fun i j hi=>absurd hi (Nat.not_lt_zero _),fun g h i hi=>absurd hi (Nat.not_lt_zero _),by omega⟩
theorem SG.keep (H:SG W lo ov q gb cp ln f) (hw:Wrote R W W') (h1:∀ g o,ov.ownBlock=some g→¬ R g o) (h2:∀ i o,i<q→¬ R (gb i) o):SG W' lo ov q gb cp ln f :=
 ⟨Ml H.own (fun g hg=>hw.block g (Di H.own hg).2 (fun o=>h1 g o hg)),fun i hi=>(H.rows i hi).keep hw (fun o=>h2 i o hi),H.inj,H.dj,H.small⟩
theorem SG.below (H:SG W lo ov q gb cp ln f) (L:Below W.heap.size W W'):SG W' lo ov q gb cp ln f:=H.keep (Ab L Aj) (fun _ _ _ x=>x) (fun _ _ _ x=>x)
theorem SG.push {g' c' gN cN:Nat} (H:SG W lo ov q gb cp ln f) (hw:Wrote (fun b _=>ov.ownBlock=some b) W W') (own':W'.ownsRow lo 25 1 (.slice (some ⟨g',0,none⟩) (q+1) c') (q+1) (Ku q gb ln cp++[.slice (some ⟨gN,0,none⟩) (ln q) cN])) (hat:ov.ownBlock=some g'∨W.heap.size≤g')
  (RN:Row W lo gN (ln q) cN (f q)) (hN1:ov.ownBlock≠some gN) (hN2:∀ i,i<q→gb i≠gN) (hq:q<1048576):SG W' lo (.slice (some ⟨g',0,none⟩) (q+1) c') (q+1) (fun i=>if i=q then gN else gb i) (fun i=>if i=q then cN else cp i) ln f:=by
 rw [Xe] at own';refine ⟨own',fun i hi=>?_,fun i j hi hj hij=>?_,fun g hg i hi=>?_,by omega⟩
 ·by_cases e:i=q
  ·subst e
   simp only [if_true];exact RN.keep hw (fun o h=>hN1 h)
  ·simp only [if_neg e]
   exact (H.rows i (by omega)).keep hw (fun o h=>H.dj _ h i (by omega) rfl)
 ·by_cases e:i=q
  ·rw [if_pos e,if_neg (by omega)]
   exact fun x=>hN2 j (by omega) x.symm
  ·by_cases e':j=q
   ·rw [if_neg e,if_pos e']
    exact hN2 i (by omega)
   ·rw [if_neg e,if_neg e']
    exact H.inj i j (by omega) (by omega) hij
 ·obtain rfl:g'=g:=by simpa [Value.ownBlock] using hg
  by_cases e:i=q
  ·rw [if_pos e]
   rcases hat with h | h
   ·exact fun x=>hN1 (x ▸ h)
   ·have:=RN.parts.2.1
    omega
  ·rw [if_neg e]
   rcases hat with h | h
   ·exact H.dj _ h i (by omega)
   ·have:=(H.rows i (by omega)).parts.2.1
    omega
theorem SG.on (H:SG W lo ov q gb cp ln f) {D:Nat→Prop} (hD:∀ b,lo≤b→b<W.heap.size→D b) (hs:psum ln q≤1099511627776):Co W D ov q ln f:=by
 have key:∀ i,i<q→∀ b o,Da (some ⟨gb i,0,none⟩) (ln i) b o→b=gb i:=fun i hi b o ⟨off,e,_,_⟩=>by
  simp only [Option.some.injEq,Addr.mk.injEq] at e;exact e.1.symm
 rcases id H.own.2 with ⟨e,e0⟩ | ⟨g,c,cur,hv,hb,hg,k1,k2,k3,k4⟩
 ·have hq:q=0:=by simpa using e0
  subst hq;subst e;refine ⟨fun _=>none,fun _=>0,⟨⟨none,0,rfl,by omega,fun i hi=>absurd hi (Nat.not_lt_zero _)⟩,fun i hi=>absurd hi (Nat.not_lt_zero _),fun i j hi=>absurd hi (Nat.not_lt_zero _),hs⟩,fun i hi=>absurd hi (Nat.not_lt_zero _),fun i hi=>absurd hi (Nat.not_lt_zero _),fun a cap e b o hF=>absurd hF (Bo _ _ _),fun i hi=>absurd hi (Nat.not_lt_zero _)⟩
 ·subst hv
  have hob:(Value.slice (some ⟨g,0,none⟩) q c).ownBlock=some g:=rfl
  have hcell:∀ i,i<q→W.cell? ⟨g,i,none⟩=some (.slice (some ⟨gb i,0,none⟩) (ln i) (cp i)):=fun i hi=>by
   have:=Gs H.own i (.slice (some ⟨gb i,0,none⟩) (ln i) (cp i)) (by unfold Ku; simp [hi])
   rwa [J9,Nat.zero_add] at this
  refine ⟨fun i=>some ⟨gb i,0,none⟩,cp,⟨⟨_,_,rfl,H.small,fun i hi=>⟨g,0,rfl,by rw [Nat.zero_add]; exact hcell i hi,fun j hj hF=>H.dj g hob j hj (key j hj _ _ hF).symm⟩⟩,fun i hi=>(H.rows i hi).sl.free,fun i j hi hj hij b o h1 h2=>H.inj i j hi hj hij ((key i hi _ _ h1).symm.trans (key j hj _ _ h2)),hs⟩,fun i hi=>(H.rows i hi).sl.row,fun i hi b o hF=>?_,fun a cap e b o hF=>?_,fun i hi=>(H.rows i hi).small⟩
  ·rw [key i hi b o hF]
   exact hD _ (H.rows i hi).parts.1 (H.rows i hi).parts.2.1
  ·simp only [Value.slice.injEq,true_and] at e
   obtain ⟨rfl,-⟩:=e;obtain ⟨off,e,_,_⟩:=hF;simp only [Option.some.injEq,Addr.mk.injEq] at e;rw [← e.1];exact hD _ hb (Ac hg)
end
theorem Vf (x:Int):1≤opLn x∧opLn x≤3:=by
 have key:∀ i:Nat,i<30→1≤Gz.getD i 1∧Gz.getD i 1≤3:=by decide
 unfold opLn
 by_cases h:0≤x∧x≤29
 ·rw [if_pos h]
  exact key x.toNat (by omega)
 ·rw [if_neg h]
  omega
structure A4 where
 A:Int
 X:Int
 S:Int
 Pc:Int
 Z:Bool
 N:Bool
 C:Bool
 I:Bool
def A4.v (c:A4):Value:=.agg (cR c.A c.X c.S c.Pc c.Z c.N c.C c.I)
def setAc (c:A4) (x:Int):A4:={ c with A:=x%256,Z:=x%256==0,N:=decide (127<x%256) }
def Vg (c:A4) (x:Int):A4:={ c with X:=x%256,Z:=x%256==0,N:=decide (127<x%256) }
def addC (c:A4) (v:Int):A4:={ setAc c ((c.A%256+v%256+Av c.C)%256) with C:=decide (255<c.A%256+v%256+Av c.C) }
def Jd6 (c:A4) (v:Int):A4:={ setAc c ((c.A%256-v%256-1+Av c.C)%256) with C:=decide (0≤c.A%256-v%256-1+Av c.C) }
def Jd7 (c:A4) (v:Int):A4:={ c with Z:=(c.A%256-v%256)%256==0,N:=decide (127<(c.A%256-v%256)%256),C:=decide (v%256≤c.A%256) }
def Gv (op:Int):Bool:=decide (op=1∨op=2∨op=14∨op=4∨op=29∨op=5∨op=6∨op=7∨op=8∨op=9∨op=10∨op=11∨op=12∨op=13)
def aluC (c:A4) (op arg v:Int):A4 :=
 if op=1 then setAc c arg else if op=2∨op=14 then setAc c v else if op=4 then addC c arg else if op=29 then addC c v else if op=5 then Jd6 c arg
 else if op=6 then setAc c (bits .and .i64 (c.A%256) (arg%256)) else if op=7 then setAc c (bits .or .i64 (c.A%256) (arg%256)) else if op=8 then setAc c (bits .xor .i64 (c.A%256) (arg%256))
 else if op=9 then Jd7 c arg else if op=10 then Vg c c.A else if op=11 then setAc c c.X else if op=12 then Vg c (c.X%256+1) else if op=13 then Vg c (c.X%256-1) else c
def De (g:Nat→Int) (S:Int):Int:=g (256+(S+1)%256).toNat%256
def Ks (g:Nat→Int) (c:A4):A4:={ c with S:=((c.S+1)%256+1)%256,Pc:=De g c.S%256+256*(De g ((c.S+1)%256)%256) }
def nextC (c:A4) (op:Int):A4:={ c with Pc:=(c.Pc+opLn op)%65536 }
def Dy (g:Nat→Int) (c:A4) (op arg v:Int):A4 :=
 if Gv op=true then aluC (nextC c op) op arg v else if op=16 then (if c.Z=true then nextC c 16 else { nextC c 16 with Pc:=arg%65536 }) else if op=17 then (if c.Z=true then { nextC c 17 with Pc:=arg%65536 } else nextC c 17) else if op=18 then (if c.C=true then { nextC c 18 with Pc:=arg%65536 } else nextC c 18) else if op=19 then { nextC c 19 with Pc:=arg%65536 }
 else if op=20 then { nextC c 20 with S:=dec8 (dec8 c.S),Pc:=arg%65536 } else if op=21 then Ks g (nextC c 21) else if op=22 then { nextC c 22 with S:=dec8 c.S } else if op=23 then setAc { nextC c 23 with S:=(c.S+1)%256 } (De g c.S)
 else if op=24 then Ks g { nextC c 24 with S:=(c.S+1)%256,Z:=hasB (De g c.S) 2,N:=hasB (De g c.S) 128,C:=hasB (De g c.S) 1,I:=hasB (De g c.S) 4 } else if op=25 then { nextC c 25 with I:=true } else if op=26 then { nextC c 26 with I:=false } else if op=27 then { nextC c 27 with C:=true } else if op=28 then { nextC c 28 with C:=false } else nextC c op
def Ew (g:Nat→Int) (c:A4) (op:Int):Nat→Int:=if op=20 then B7 (B7 g c.S ((nextC c 20).Pc/256)) (dec8 c.S) (nextC c 20).Pc else if op=22 then B7 g c.S c.A else g
theorem Zk {op:Int} (h:Gv op=true):¬ op=20∧¬ op=22:=by
 unfold Gv at h;have:=of_decide_eq_true h
 omega
def Cg (g:Nat→Int) (c:A4) (op arg v:Int):A4 :=
 if Gv op=true then aluC c op arg v else if op=16 then (if c.Z=true then c else { c with Pc:=arg%65536 }) else if op=17 then (if c.Z=true then { c with Pc:=arg%65536 } else c) else if op=18 then (if c.C=true then { c with Pc:=arg%65536 } else c) else if op=19 then { c with Pc:=arg%65536 }
 else if op=20 then { c with S:=dec8 (dec8 c.S),Pc:=arg%65536 } else if op=21 then Ks g c else if op=22 then { c with S:=dec8 c.S } else if op=23 then setAc { c with S:=(c.S+1)%256 } (De g c.S)
 else if op=24 then Ks g { c with S:=(c.S+1)%256,Z:=hasB (De g c.S) 2,N:=hasB (De g c.S) 128,C:=hasB (De g c.S) 1,I:=hasB (De g c.S) 4 } else if op=25 then { c with I:=true } else if op=26 then { c with I:=false } else if op=27 then { c with C:=true } else if op=28 then { c with C:=false } else c
def Ch (g:Nat→Int) (c:A4) (op:Int):Nat→Int:=if op=20 then B7 (B7 g c.S (c.Pc/256)) (dec8 c.S) c.Pc else if op=22 then B7 g c.S c.A else g
theorem Ts (g:Nat→Int) (c:A4) (op arg v:Int):Dy g c op arg v=Cg g (nextC c op) op arg v:=by
 unfold Dy Cg
 by_cases h:Gv op=true
 ·rw [if_pos h,if_pos h]
 rw [if_neg h,if_neg h]
 by_cases h16:op=16
 ·subst h16; rfl
 by_cases h17:op=17
 ·subst h17; rfl
 by_cases h18:op=18
 ·subst h18; rfl
 by_cases h19:op=19
 ·subst h19; rfl
 by_cases h20:op=20
 ·subst h20; rfl
 by_cases h21:op=21
 ·subst h21; rfl
 by_cases h22:op=22
 ·subst h22; rfl
 by_cases h23:op=23
 ·subst h23; rfl
 by_cases h24:op=24
 ·subst h24; rfl
 by_cases h25:op=25
 ·subst h25; rfl
 by_cases h26:op=26
 ·subst h26; rfl
 by_cases h27:op=27
 ·subst h27; rfl
 by_cases h28:op=28
 ·subst h28; rfl
 simp only [h16,h17,h18,h19,h20,h21,h22,h23,h24,h25,h26,h27,h28,if_false]
theorem Tt (g:Nat→Int) (c:A4) (op:Int):Ew g c op=Ch g (nextC c op) op:=by
 unfold Ew Ch
 by_cases h20:op=20
 ·subst h20; rfl
 by_cases h22:op=22
 ·subst h22; rfl
 simp only [h20,h22,if_false]
set_option maxHeartbeats 4000000
set_option maxRecDepth 40000
theorem Ja {ln:Nat→Nat} {K:Nat}:∀ {m:Nat},(∀ i,i<m→ln i≤K)→psum ln m≤m*K
 | 0,_=>by simp [psum]
 | m+1,h=>by
  have h1:=Ja (m:=m) (fun i hi=>h i (by omega));have h2:=h m (by omega);simp only [psum];rw [Nat.succ_mul]
  omega
theorem Mm {ln:Nat→Nat} {m:Nat} (hm:m≤1048576) (h:∀ i,i<m→ln i≤1048576):psum ln m≤1099511627776:=by
 have h1:=Ja h;have h2:=Nat.mul_le_mul_right 1048576 hm
 omega
theorem Zd (w:World) (F:Nat→Nat→Prop) (u:Value) (m:Nat) (ln:Nat→Nat) (f:Nat→Nat→Int) (H:Ba .i64 w F u m ln f):Calls Tryz.prog 59 #[.agg #[u]] w fun e w'=>∃ v,e=.returned (.agg #[v])∧Co w' (fun b=>w.heap.size≤b∧b<w'.heap.size) v m ln f∧Below w.heap.size w w':=by
 obtain ⟨a,cap,rfl,hn,-,hc⟩:=H;have hps:psum ln m≤1099511627776:=Mm hn (fun i hi=>by obtain ⟨b,off,u,-,-,a',c',-,h,-⟩:=hc i hi; exact h);have L0:Below w.heap.size w (((w.alloc (.cells #[.slice a m cap] 41)).alloc (.cells #[.slice none 0 0] 41)).alloc (.cells #[.slice none 0 0] 41)):=(((Below.refl _ _).alloc (Nat.le_refl _) _).alloc (by simp) _).alloc (by simp; omega) _;have B0:(((w.alloc (.cells #[.slice a m cap] 41)).alloc (.cells #[.slice none 0 0] 41)).alloc (.cells #[.slice none 0 0] 41)).heap[w.heap.size]?=some (.cells #[.slice a m cap] 41 (0,0)):=Ax (Ax (Al w _ _) _) _
 have B1:(((w.alloc (.cells #[.slice a m cap] 41)).alloc (.cells #[.slice none 0 0] 41)).alloc (.cells #[.slice none 0 0] 41)).heap[w.heap.size+1]?=some (.cells #[.slice none 0 0] 41 (0,0)):=Ax (by simpa using Al (w.alloc (.cells #[.slice a m cap] 41)) #[.slice none 0 0] 41) _
 have B2:(((w.alloc (.cells #[.slice a m cap] 41)).alloc (.cells #[.slice none 0 0] 41)).alloc (.cells #[.slice none 0 0] 41)).heap[w.heap.size+1+1]?=some (.cells #[.slice none 0 0] 41 (0,0)):=by simpa using Al ((w.alloc (.cells #[.slice a m cap] 41)).alloc (.cells #[.slice none 0 0] 41)) #[.slice none 0 0] 41
 have HL:=Ad hc;clear hc
 go_enter Tryz.func59,Tryz.ntmps59
 go_wp2;generalize ((w.alloc (.cells #[.slice a m cap] 41)).alloc (.cells #[.slice none 0 0] 41)).alloc (.cells #[.slice none 0 0] 41)=W0 at *
 go_loopw [4] (fun i wr=>∃ (q:Nat) (gb cp:Nat→Nat) (ov:Value),q≤m∧i=.i q∧SG wr (w.heap.size+3) ov q gb cp ln f∧wr.heap[w.heap.size]?=some (.cells #[.slice a m cap] 41 (0,0))∧wr.heap[w.heap.size+1]?=some (.cells #[.slice none 0 0] 41 (0,0))∧wr.heap[w.heap.size+1+1]?=some (.cells #[ov] 41 (0,0))∧Below w.heap.size w wr) (fun i _=>m-(intOf i).toNat)
 case atStart=>exact ⟨0,fun _=>0,fun _=>0,.slice none 0 0,Nat.zero_le _,rfl,SG.nil _ _ _ _ _ _,B0,B1,B2,L0⟩
 case round =>
  obtain ⟨q,gb,cp,ov,hq,rfl,hG,b0,b1,b2,hL⟩:=hrel;clear B0 B1 B2 L0;have hz:=Ac b2
  by_cases hqm:q<m
  ·have hqm':(q:Int)<(m:Int):=by omega
   obtain ⟨b,off,u',rfl,hcell,hI⟩:=HL.out q hqm;have hbl:=block_lt_of_cell hcell;have hcell':wr.cell? ⟨b,off+q,none⟩=some u':=(hL.cell hbl).trans hcell;have hI':=hI.keep (Ab hL Aj) (fun _ _ _ x=>x)
   have wq:IntKind.i64.wrap (q:Int)=q:=by rw [IntKind.wrap_i64]; omega
   have hqi:(0:Int)≤(q:Int):=by omega
   have hob:∀ g,ov.ownBlock=some g→w.heap.size+3≤g∧g<wr.heap.size:=fun g hg=>Di hG.own hg
   obtain ⟨S,hS⟩:∃ S,Hid (S=wr.heap.size):=⟨_,rfl⟩
   obtain ⟨ua,ux,rfl,un,ur,uF⟩:=id hI';have c0:=Ag b0;go_upto_region 5 with (fail);clear c0
   refine A8 [some 13,some 14,some 15,some 16,some 17,some 18,some 19,some 20,some 21,some 22,some 23,some 24,none] (by kernel_rfl) (by kernel_rfl) (by kernel_rfl) (by kernel_rfl) (by simp [slotsOf])
    (fun j b' _=>(j=10∧ov.ownBlock=some b')∨(j=12∧b'=w.heap.size+1+1))
    (fun i v W=>match i with
     | 0=>v=(pt (w.heap.size+1+1) 0)
     | 1=>v=ov
     | 2=>∃ gE,v=.slice (some ⟨gE,0,none⟩) 0 0∧W.heap[gE]?=some (.cells #[] 3 (0,0))∧S≤gE
     | 3=>v=(pt w.heap.size 0)
     | 4=>v=.slice (some ⟨b,off,none⟩) m cap
     | 5=>v=.i (q:Int)
     | 6=>v=.pointer (some ⟨b,off+q,none⟩)
     | 7=>v=.slice ua (ln q) ux
     | 8=>∃ gN cN,v=.slice (some ⟨gN,0,none⟩) (ln q) cN∧Row W (w.heap.size+3) gN (ln q) cN (f q)∧S≤gN
     | 9=>∃ gB gN cN,v=.slice (some ⟨gB,0,none⟩) 1 1∧W.heap[gB]?=some (.cells #[.slice (some ⟨gN,0,none⟩) (ln q) cN] 25 (0,0))∧Row W (w.heap.size+3) gN (ln q) cN (f q)∧S≤gN∧S≤gB
     | 10=>∃ g' c' gb' cp',v=.slice (some ⟨g',0,none⟩) (q+1) c'∧SG W (w.heap.size+3) v (q+1) gb' cp' ln f
     | 11=>v=(pt (w.heap.size+1+1) 0)
     | _=>∃ g' c' gb' cp',W.heap[w.heap.size+1+1]?=some (.cells #[.slice (some ⟨g',0,none⟩) (q+1) c'] 41 (0,0))∧SG W (w.heap.size+3) (.slice (some ⟨g',0,none⟩) (q+1) c') (q+1) gb' cp' ln f) ?_ ?_ ?_
   ·intro i j o v W W' hij ho hnw hW h
    have far:∀ (g k:Nat),S≤g→¬ ((j=10∧ov.ownBlock=some g)∨(j=12∧g=w.heap.size+1+1)):=fun g k hg hR=>by
     have:=hS.out
     rcases hR with ⟨-,h⟩ | ⟨-,h⟩
     ·have:=hob _ h; omega
     ·omega
    match i,ho,hnw,hij,h with
    | 0,_,_,_,h=>exact h
    | 1,_,_,_,h=>exact h
    | 2,_,_,_,⟨gE,h1,h2,h3⟩=>exact ⟨gE,h1,Ah h2 hW (fun o=>far gE o h3),h3⟩
    | 3,_,_,_,h=>exact h
    | 4,_,_,_,h=>exact h
    | 5,_,_,_,h=>exact h
    | 6,_,_,_,h=>exact h
    | 7,_,_,_,h=>exact h
    | 8,_,_,_,⟨gN,cN,h1,h2,h3⟩=>exact ⟨gN,cN,h1,h2.keep hW (fun o=>far gN o h3),h3⟩
    | 9,_,_,_,⟨gB,gN,cN,h1,h2,h3,h4,h5⟩=>exact ⟨gB,gN,cN,h1,Ah h2 hW (fun o=>far gB o h5),h3.keep hW (fun o=>far gN o h4),h4,h5⟩
    | 10,_,_,hij,⟨g',c',gb',cp',h1,h2⟩ =>
     refine ⟨g',c',gb',cp',h1,h2.keep hW (fun g o hg hR=>?_) (fun i o hi hR=>?_)⟩
     ·rcases hR with ⟨e,-⟩ | ⟨-,e⟩
      ·exact hij e.symm
      ·have:=Di h2.own hg; omega
     ·rcases hR with ⟨e,-⟩ | ⟨-,e⟩
      ·exact hij e.symm
      ·have:=(h2.rows i hi).parts.1; omega
    | 11,_,_,_,h=>exact h
    | 12,ho,hnw,hij,⟨g',c',gb',cp',h1,h2⟩ =>
     cases ho
     by_cases e10:j=10
     ·subst e10
      cases hnw.symm.trans (show A0 _ 10=true by kernel_rfl)
     ·have no:∀ (b' k:Nat),¬ ((j=10∧ov.ownBlock=some b')∨(j=12∧b'=w.heap.size+1+1)):=fun b' k hR=>by rcases hR with ⟨e,-⟩ | ⟨e,-⟩ <;> omega
      exact ⟨g',c',gb',cp',Ah h1 hW (fun o=>no _ o),h2.keep hW (fun g o _=>no g o) (fun i o _=>no _ o)⟩
    | n+13,ho,_,_,_=>simp at ho
   ·intro i o a' W K ho F L hw hK
    have hS':=hS.out;have t1:=F.get (t:=1) (v:=(pt w.heap.size 0)) (by decide) rfl;have t3:=F.get (t:=3) (v:=(pt (w.heap.size+1+1) 0)) (by decide) rfl;have t4:=F.get (t:=4) (v:=.i (q:Int)) (by decide) rfl
    have low:∀ (g j:Nat),g<w.heap.size+1+1→¬ ((j=10∧ov.ownBlock=some g)∨(j=12∧g=w.heap.size+1+1)):=fun g j hg hR=>by
     rcases hR with ⟨-,h⟩ | ⟨-,h⟩
     ·have:=hob _ h; omega
     ·omega
    have LW:Below w.heap.size w W:=hL.trans (L.below hL.size (fun g k hg ⟨j,_,_,_,_,hR⟩=>low g j (by omega) hR));have r0:=Ag (Ah b0 L (fun k ⟨j,_,_,_,_,hR⟩=>low _ j (by omega) hR));have rc:W.cell? ⟨b,off+q,none⟩=some (.slice ua (ln q) ux):=(LW.cell hbl).trans hcell
    have WS:S≤W.heap.size:=by have:=L.size; omega
    match i with
    | 0 =>
     cases ho;go_simp;exact Hk hK rfl
    | 1 =>
     cases ho;have q0:tv a' 13=_:=Hr hw 0
     have r2:=Ag (Ah b2 L (fun k ⟨j,oj,hj,hoj,hwj,hR⟩=>by
      rcases hR with ⟨-,h⟩ | ⟨rfl,-⟩
      ·have:=hob _ h; omega
      ·simp only [List.getElem?_toArray,List.getElem?_cons_zero,List.getElem?_cons_succ,Option.some.injEq] at hoj
       subst hoj
       cases hwj.symm.trans (show A0 _ 1=true by kernel_rfl)))
     go_simp;exact Hk hK rfl
    | 2 =>
     cases ho;go_simp;exact hK _ _ ((Wrote.refl _ W).alloc _) ⟨_,rfl,Al W #[] 3,WS⟩
    | 3 =>
     cases ho;go_simp;exact Hk hK rfl
    | 4 =>
     cases ho;have q0:tv a' 16=_:=Hr hw 3;go_simp;exact Hk hK rfl
    | 5 =>
     cases ho;go_simp;exact Hk hK rfl
    | 6 =>
     cases ho;have q0:tv a' 17=_:=Hr hw 4;have q1:tv a' 18=_:=Hr hw 5;go_simp;exact Hk hK rfl
    | 7 =>
     cases ho;have q0:tv a' 19=_:=Hr hw 6;go_simp;exact Hk hK rfl
    | 8 =>
     cases ho;obtain ⟨gE,q0,q1,q2⟩:∃ gE,a'.tmps[15]?.getD undef=.slice (some ⟨gE,0,none⟩) 0 0∧W.heap[gE]?=some (.cells #[] 3 (0,0))∧S≤gE:=Hr hw 2;have q3:tv a' 20=_:=Hr hw 7;refine Jt W (.tmp 15) (.tmp 20) rfl gE (by simpa [Act.eval] using q0) q1 (w.heap.size+3) (by omega) _ _ (ln q) (f q) (by simpa [Act.eval] using q3) (hI.keep (Ab LW Aj) (fun _ _ _ x=>x)) ?_;intro gN cN W' hR hB hat;exact hK _ _ (Ab hB _) ⟨gN,cN,rfl,hR,by rcases hat with h | h <;> omega⟩
    | 9 =>
     cases ho;obtain ⟨gN,cN,q0,q1,q2⟩:∃ gN cN,a'.tmps[21]?.getD undef=.slice (some ⟨gN,0,none⟩) (ln q) cN∧Row W (w.heap.size+3) gN (ln q) cN (f q)∧S≤gN:=Hr hw 8;go_simp;exact hK _ _ ((Wrote.refl _ W).alloc _) ⟨_,gN,cN,rfl,Al W #[.slice (some ⟨gN,0,none⟩) (ln q) cN] 25,q1.below ((Below.refl _ _).alloc (Nat.le_refl _) _),q2,WS⟩
    | 10 =>
     cases ho;have q0:tv a' 14=_:=Hr hw 1;obtain ⟨gB,gN,cN,q1,q2,q3,q4,q5⟩:∃ gB gN cN,a'.tmps[22]?.getD undef=.slice (some ⟨gB,0,none⟩) 1 1∧W.heap[gB]?=some (.cells #[.slice (some ⟨gN,0,none⟩) (ln q) cN] 25 (0,0))∧Row W (w.heap.size+3) gN (ln q) cN (f q)∧S≤gN∧S≤gB:=Hr hw 9
     have hG':=hG.keep L (fun g k hg ⟨j,oj,hj,hoj,hwj,hR⟩=>by
      rcases hR with ⟨e,-⟩ | ⟨rfl,-⟩
      ·exact hj e
      ·simp only [List.getElem?_toArray,List.getElem?_cons_zero,List.getElem?_cons_succ,Option.some.injEq] at hoj
       subst hoj
       cases hwj.symm.trans (show A0 _ 10=true by kernel_rfl)) (fun i k hi ⟨j,oj,hj,hoj,hwj,hR⟩=>by
      rcases hR with ⟨e,-⟩ | ⟨rfl,-⟩
      ·exact hj e
      ·simp only [List.getElem?_toArray,List.getElem?_cons_zero,List.getElem?_cons_succ,Option.some.injEq] at hoj
       subst hoj
       cases hwj.symm.trans (show A0 _ 10=true by kernel_rfl))
     refine Ro W (.tmp 14) (.tmp 22) rfl (w.heap.size+3) ov q _ (by simpa [Act.eval] using q0) hG'.own (by omega) (by omega) gB (.slice (some ⟨gN,0,none⟩) (ln q) cN) rfl (by simpa [Act.eval] using q1) (Ag q2 0) ?_;intro g' c' W' own' hB hat;exact hK _ _ (hB.mono (fun b' k _ h=>Or.inl ⟨rfl,h⟩)) ⟨g',c',_,_,rfl,hG'.push hB own' hat q3 (fun e=>by have:=hob _ e; omega) (fun i hi e=>by have:=(hG.rows i hi).parts.2.1; omega) (by omega)⟩
    | 11 =>
     cases ho;go_simp;exact Hk hK rfl
    | 12 =>
     cases ho;have q0:tv a' 24=_:=Hr hw 11;obtain ⟨g',c',gb',cp',q1,q2⟩:∃ g' c' gb' cp',a'.tmps[23]?.getD undef=.slice (some ⟨g',0,none⟩) (q+1) c'∧SG W (w.heap.size+3) (a'.tmps[23]?.getD undef) (q+1) gb' cp' ln f:=Hr hw 10;rw [q1] at q2
     have r2:=Ah b2 L (fun k ⟨j,oj,hj,hoj,hwj,hR⟩=>by
      rcases hR with ⟨-,h⟩ | ⟨e,-⟩
      ·have:=hob _ h; omega
      ·exact hj e)
     have c2:=Ag r2;have f2:=As r2;have HQ:=Ad q2;have HB:=Ad (Af (o:=0) r2 (.slice (some ⟨g',0,none⟩) (q+1) c'));clear q2 r2;go_simp;refine hK undef _ (Wrote.setCell (Wrote.refl _ W) (fun _=>Or.inr ⟨rfl,rfl⟩) _) ⟨g',c',gb',cp',HB.out,HQ.out.keep (Wrote.setCell (R:=fun b' _=>b'=w.heap.size+1+1) (Wrote.refl _ W) (fun _=>rfl) _) (fun g o hg (e:g=_)=>by have:=Di HQ.out.own hg; omega) (fun i o hi (e:_=_)=>by have:=(HQ.out.rows i hi).parts.1; omega)⟩
    | n+13=>simp at ho
   ·intro a' W F L hφ
    obtain ⟨g',c',gb',cp',p1,p2⟩:∃ g' c' gb' cp',W.heap[w.heap.size+1+1]?=some (.cells #[.slice (some ⟨g',0,none⟩) (q+1) c'] 41 (0,0))∧SG W (w.heap.size+3) (.slice (some ⟨g',0,none⟩) (q+1) c') (q+1) gb' cp' ln f:=Hd hφ 12
    have low:∀ (g k:Nat),g<w.heap.size+1+1→¬ (∃ j:Nat,(j=10∧ov.ownBlock=some g)∨(j=12∧g=w.heap.size+1+1)):=fun g k hg ⟨j,hR⟩=>by
     rcases hR with ⟨-,h⟩ | ⟨-,h⟩
     ·have:=hob _ h; omega
     ·omega
    have LW:Below w.heap.size w W:=hL.trans (L.below hL.size (fun g k hg=>low g k (by omega)));have r0:=Ah b0 L (fun k=>low _ k (by omega));have r1:=Ah b1 L (fun k=>low _ k (by omega));rw [F.same,show slotsOf [some 13,some 14,some 15,some 16,some 17,some 18,some 19,some 20,some 21,some 22,some 23,some 24,none]=[13,14,15,16,17,18,19,20,21,22,23,24] from rfl];simp only [List.foldl_cons,List.foldl_nil];generalize a'.tmps[13]?.getD undef=s13;generalize a'.tmps[14]?.getD undef=s14;generalize a'.tmps[15]?.getD undef=s15;generalize a'.tmps[16]?.getD undef=s16;generalize a'.tmps[17]?.getD undef=s17;generalize a'.tmps[18]?.getD undef=s18;generalize a'.tmps[19]?.getD undef=s19;generalize a'.tmps[20]?.getD undef=s20;generalize a'.tmps[21]?.getD undef=s21;generalize a'.tmps[22]?.getD undef=s22
    generalize a'.tmps[23]?.getD undef=s23;generalize a'.tmps[24]?.getD undef=s24;have HP:=Ad (And.intro p1 (And.intro p2 (And.intro r0 (And.intro r1 LW))));clear hφ L F p1 p2 r0 r1 LW hG b0 b1 b2 hL hcell hcell' hI hI' ur uF HL;rename_i KK hKK;refine hKK _ _ ?_;go_simp;go_wp2;go_roundw
    case rel=>exact ⟨q+1,gb',cp',_,by omega,by go_num,HP.out.2.1,HP.out.2.2.1,HP.out.2.2.2.1,HP.out.1,HP.out.2.2.2.2⟩
    case measure=>simp [intOf]; omega
  ·have hqm':¬ (q:Int)<(m:Int):=by omega
   obtain rfl:q=m:=by omega
   obtain ⟨oa,oc,hof⟩:∃ oa oc,ov=.slice oa q oc:=by
    rcases hG.own.2 with ⟨e,e0⟩ | ⟨g,c,cur,hv,-⟩
    ·have:q=0:=by simpa using e0
     exact ⟨none,0,by rw [e,this]⟩
    ·exact ⟨_,_,hv⟩
   subst hof;have c0:=Ag b0;have c1:=Ag b1;have c2:=Ag b2;have f1:=As b1;have HP:=Ad (And.intro hG hL);clear hG b0 b1 b2 hL HL;go_wp2;refine bodyPost_ret (v:=.agg #[.slice oa q oc]) (by simp [results,Tryz.results59,go_sem,c1]) rfl ?_;have WW:=Wrote.setCell (b:=w.heap.size+1) (o:=0) (R:=fun b _=>b=w.heap.size+1) (Wrote.refl _ wr) (fun _=>rfl) (.slice oa q oc);refine ⟨_,rfl,(HP.out.1.keep WW (fun g o hg (e:g=_)=>by have:=Di HP.out.1.own hg; omega) (fun i o hi (e:_=_)=>by have:=(HP.out.1.rows i hi).parts.1; omega)).on (fun b h1 h2=>⟨by omega,h2⟩) hps,HP.out.2.trans (WW.below HP.out.2.size (fun b o hb (e:b=_)=>by omega))⟩
theorem Jbg (w:World) (F:Nat→Nat→Prop) (u:Value) (m:Nat) (ln:Nat→Nat) (f:Nat→Nat→Int) (H:Ba .i64 w F u m ln f):Calls Tryz.prog 62 #[u] w fun e w'=>∃ ov gb cp,e=.returned ov∧SG w' w.heap.size ov m gb cp ln f∧Below w.heap.size w w':=by
 obtain ⟨a,cap,rfl,hn,-,hc⟩:=H;have L0:Below w.heap.size w (w.alloc (.cells #[] 25)):=(Below.refl _ _).alloc (Nat.le_refl _) _;have B0:=Al w #[] 25;have HL:=Ad hc;clear hc
 go_enter Tryz.func62,Tryz.ntmps62
 go_wp2;generalize w.alloc (.cells #[] 25)=W0 at *
 go_loopw [3,4] (fun ov i wr=>∃ (q:Nat) (gb cp:Nat→Nat),q≤m∧i=.i q∧SG wr w.heap.size ov q gb cp ln f∧Below w.heap.size w wr) (fun _ i _=>m-(intOf i).toNat)
 case atStart=>exact ⟨0,fun _=>0,fun _=>0,Nat.zero_le _,rfl,SG.start B0 (Nat.le_refl _) _ _ _ _,L0⟩
 case round =>
  obtain ⟨q,gb,cp,hq,rfl,hG,hL⟩:=hrel;clear B0 L0
  by_cases hqm:q<m
  ·have hqm':(q:Int)<(m:Int):=by omega
   obtain ⟨b,off,u',rfl,hcell,hI⟩:=HL.out q hqm;have hbl:=block_lt_of_cell hcell;obtain ⟨ua,ux,rfl,un,ur,uF⟩:=id hI;have LA:Below w.heap.size w (wr.alloc (.cells #[] 3)):=hL.alloc hL.size _;have ca:(wr.alloc (.cells #[] 3)).cell? ⟨b,off+q,none⟩=some (.slice ua (ln q) ux):=(LA.cell hbl).trans hcell;have hE:=Al wr #[] 3;have GA:=Ad (hG.below ((Below.refl _ wr).alloc (Nat.le_refl _) (.cells #[] 3)))
   have hob:∀ g,u3.ownBlock=some g→w.heap.size≤g∧g<wr.heap.size:=fun g hg=>Di hG.own hg
   have hgb:∀ i,i<q→gb i<wr.heap.size:=fun i hi=>(hG.rows i hi).parts.2.1
   have hLs:=hL.size
   have wq:IntKind.i64.wrap (q:Int)=q:=by rw [IntKind.wrap_i64]; omega
   have hsz:(wr.alloc (.cells #[] 3)).heap.size=wr.heap.size+1:=by simp
   have HSZ:=Ad hsz;clear hG hcell hsz;go_wp2_with (at_builtin; refine Eu _ rfl _ _ rfl wr.heap.size rfl hE w.heap.size hLs F (.slice ua (ln q) ux) (ln q) (f q) rfl (hI.keep (Ab LA Aj) (fun _ _ _ x=>x)) ?_);intro gN cN W2 RN L2 hat
   have hgN:wr.heap.size≤gN:=by have:=HSZ.out; rcases hat with h | h <;> omega
   replace L2:Below (wr.alloc (.cells #[] 3)).heap.size (wr.alloc (.cells #[] 3)) W2:=by rw [HSZ.out]; exact L2
   have G2:=GA.out.below L2;have LB:=Ae LA L2;clear GA LA L2 hat HSZ ca hE;have LX:Below W2.heap.size W2 (W2.alloc (.cells #[.slice (some ⟨gN,0,none⟩) (ln q) cN] 25)):=(Below.refl _ _).alloc (Nat.le_refl _) _;have hB:=Ag (Al W2 #[.slice (some ⟨gN,0,none⟩) (ln q) cN] 25) 0;have G3:=Ad (G2.below LX);have R3:=Ad (RN.below LX);have LC:=Ad (Ae LB LX);clear G2 RN LB LX;go_wp2_with (at_builtin; refine Jz _ rfl _ _ rfl w.heap.size u3 q _ rfl G3.out.own (by omega) LC.out.size W2.heap.size (.slice (some ⟨gN,0,none⟩) (ln q) cN) rfl rfl hB ?_);intro g' c' W4 own' hW hat';have GN:=Ad (G3.out.push hW own' (by simpa using hat') R3.out (fun e=>by have:=hob _ e; omega) (fun i hi e=>by have:=hgb i hi; omega) (by omega));have LD:=LC.out.trans (hW.below LC.out.size (fun b o hb (e:u3.ownBlock=some b)=>by have:=hob _ e; omega))
   clear G3 R3 LC own' hW hat' hB;go_wp2;go_roundw
   case rel=>exact ⟨q+1,_,_,by omega,by go_num,GN.out,LD⟩
   case measure=>simp [intOf]; omega
  ·have hqm':¬ (q:Int)<(m:Int):=by omega
   obtain rfl:q=m:=by omega
   have HP:=Ad (And.intro hG hL);clear hG hL HL;go_wp2;go_ret
   first | exact ⟨_,gb,cp,rfl,HP.out.1,HP.out.2⟩ | exact ⟨_,rfl,⟨gb,cp,HP.out.1⟩,HP.out.2⟩
end Go.Proofs.YtgcmimcalmjaaaaGreatDoor
