import Derived.Test.YtfjieibndedngaaGreatE7
namespace Go.Proofs.YtfjieibndedngaaGreat
set_option maxHeartbeats 4000000
set_option maxRecDepth 20000
set_option linter.unusedVariables false
set_option linter.unusedSimpArgs false
open Go.ChangeShapes Go.WideShapes Go.ChangeAt Go.RowKit
def dec8 (S:Int):Int:=(S-1)%256
def enterG (g:Nat→Int) (S Pc:Int) (Z N C I:Bool):Nat→Int:=Eg (Eg (Eg g S (Pc/256)) (dec8 S) Pc) (dec8 (dec8 S)) (flagsOf Z N C I)
def Mj (m:Nat) (ln:Nat→Nat) (f:Nat→Nat→Int) (g:Nat→Int) (bank x:Int):Int:=peekV m ln f 512 g bank x%256+256*(peekV m ln f 512 g bank (x+1)%256)
structure EN (w V:World) (z:Nat) (iv:Value) (lo:Nat) (qa:Option Addr) (qc:Nat) (g:Nat→Int) (bank A X S Pc:Int) (Z N C I:Bool):Prop where
 img:V.heap[w.heap.size]?=some (.cells #[iv] 32 (0,0))
 cpu:V.heap[w.heap.size+1+1]?=some (.cells (cR A X S Pc Z N C I) 36 (0,0))
 rm:V.heap[w.heap.size+1+1+1]?=some (.cells mZ 34 (0,0))
 rc:V.heap[w.heap.size+1+1+1+1]?=some (.cells cZ 36 (0,0))
 out:V.heap[z]?=some (.cells #[.slice qa 512 qc,.i bank] 34 (0,0))
 far:w.heap.size+1+1+1+1<z
 own:Au V lo (.slice qa 512 qc) 512 g
 bel:Below w.heap.size w V
section
variable {w V V':World} {z:Nat} {iv:Value} {lo:Nat} {qa:Option Addr} {qc:Nat} {g:Nat→Int} {bank A X S Pc:Int} {Z N C I:Bool}
theorem EN.below (h:EN w V z iv lo qa qc g bank A X S Pc Z N C I) (L:Below V.heap.size V V'):EN w V' z iv lo qa qc g bank A X S Pc Z N C I :=
 ⟨Ac h.img L (Af h.img),Ac h.cpu L (Af h.cpu),Ac h.rm L (Af h.rm),Ac h.rc L (Af h.rc),Ac h.out L (Af h.out),h.far,h.own.keepL L,Ai h.bel L⟩
theorem EN.ints (h:EN w V z iv lo qa qc g bank A X S Pc Z N C I):Ints .i64 V (fun _ _=>True) (.slice qa 512 qc) 512 g:=by
 obtain ⟨a,c,e,hn,hr,_,_⟩:=h.own;simp only [Value.slice.injEq,true_and] at e;obtain ⟨rfl,rfl⟩:=e;exact ⟨_,_,rfl,hn,hr,fun _ _ _=>trivial⟩
theorem EN.setI (h:EN w V z iv lo qa qc g bank A X S Pc Z N C I) (hl:w.heap.size+1+1<lo) (I':Bool):EN w (V.setCell ⟨w.heap.size+1+1,7,none⟩ (.bool I')) z iv lo qa qc g bank A X S Pc Z N C I':=by
 have hf:=h.far;exact ⟨Ar h.img (by omega),by simpa using An (o:=7) h.cpu (.bool I'),Ar h.rm (by omega),Ar h.rc (by omega),Ar h.out (by omega),hf,h.own.setLow hl _,h.bel.setCell (p:=⟨w.heap.size+1+1,7,none⟩) (by simp; omega) _⟩
theorem EN.setPc (h:EN w V z iv lo qa qc g bank A X S Pc Z N C I) (hl:w.heap.size+1+1<lo) (P':Int):EN w (V.setCell ⟨w.heap.size+1+1,3,none⟩ (.i P')) z iv lo qa qc g bank A X S P' Z N C I:=by
 have hf:=h.far;exact ⟨Ar h.img (by omega),by simpa using An (o:=3) h.cpu (.i P'),Ar h.rm (by omega),Ar h.rc (by omega),Ar h.out (by omega),hf,h.own.setLow hl _,h.bel.setCell (p:=⟨w.heap.size+1+1,3,none⟩) (by simp; omega) _⟩
theorem EN.pushed (h:EN w V z iv lo qa qc g bank A X S Pc Z N C I) {qa':Option Addr} {qc':Nat} {g':Nat→Int} (O:Au V' V.heap.size (.slice qa' 512 qc') 512 g') (L:Below V.heap.size V V') (S':Int) :
  EN w ((((((((((V'.setCell ⟨z,0,none⟩ (.slice qa' 512 qc')).setCell ⟨z,1,none⟩ (.i bank)).setCell ⟨w.heap.size+1+1,0,none⟩ (.i A)).setCell ⟨w.heap.size+1+1,1,none⟩ (.i X)).setCell ⟨w.heap.size+1+1,2,none⟩ (.i S')).setCell ⟨w.heap.size+1+1,3,none⟩ (.i Pc)).setCell ⟨w.heap.size+1+1,4,none⟩ (.bool Z)).setCell ⟨w.heap.size+1+1,5,none⟩ (.bool N)).setCell ⟨w.heap.size+1+1,6,none⟩ (.bool C)).setCell ⟨w.heap.size+1+1,7,none⟩ (.bool I)) z iv V.heap.size qa' qc' g' bank A X S' Pc Z N C I:=by
 have m:=h.below L;have hf:=h.far;have hz:=Af h.out
 have h2:z≠w.heap.size+1+1:=by omega
 refine ⟨Fl (Ar (Ar m.img (by omega)) (by omega)) (by omega) _ _ _ _ _ _ _ _,Ij (Ar (Ar m.cpu (by omega)) (by omega)) _ _ _ _ _ _ _ _,Fl (Ar (Ar m.rm (by omega)) (by omega)) (by omega) _ _ _ _ _ _ _ _,Fl (Ar (Ar m.rc (by omega)) (by omega)) (by omega) _ _ _ _ _ _ _ _,Fl (Jl m.out _ _) h2 _ _ _ _ _ _ _ _,hf,?_,?_⟩
 ·exact ((((((((((O.setLow (by omega) _).setLow (by omega) _).setLow (by omega) _).setLow (by omega) _).setLow (by omega) _).setLow (by omega) _).setLow (by omega) _).setLow (by omega) _).setLow (by omega) _).setLow (by omega) _)
 ·exact m.bel.trans ((((Below.refl w.heap.size V').setCell (p:=⟨z,0,none⟩) (by simp; omega) _).setCell (p:=⟨z,1,none⟩) (by simp; omega) _).trans ((Ii _ (w.heap.size+1+1) _ _ _ _ _ _ _ _).mono (by omega)))
end
theorem Gv (w:World) (F G:Nat→Nat→Prop) (iv u:Value) (m:Nat) (ln:Nat→Nat) (f:Nat→Nat→Int) (g:Nat→Int) (bank:Int) (H:Bm .i64 w F iv m ln f) (K:Ints .i64 w G u 512 g) (A X S Pc:Int) (Z N C I:Bool) (vec:Int) :
  Calls Tryz.prog 72 #[.agg #[iv],.agg #[u,.i bank],.agg (cR A X S Pc Z N C I),.i vec] w fun e w'=>∃ q,e=.returned (.tuple #[.agg #[q,.i bank],.agg (cR A X (dec8 (dec8 (dec8 S))) (Mj m ln f (enterG g S Pc Z N C I) bank vec) Z N C true)])∧Au w' w.heap.size q 512 (enterG g S Pc Z N C I)∧Below w.heap.size w w':=by
 have L0:∀ ua ucap,Below w.heap.size w (((((w.alloc (.cells #[iv] 32)).alloc (.cells #[.slice ua 512 ucap,.i bank] 34)).alloc (.cells (cR A X S Pc Z N C I) 36)).alloc (.cells mZ 34)).alloc (.cells cZ 36)):=fun ua ucap=>(((((Below.refl _ _).alloc (Nat.le_refl _) _).alloc (by simp) _).alloc (by simp; omega) _).alloc (by simp; omega) _).alloc (by simp; omega) _
 obtain ⟨ua,ucap,rfl,un,hrow,-⟩:=K;replace L0:=L0 ua ucap;have hrow0:=hrow.keep (Aa L0 Ah) (fun _ _ _ x=>x)
 have k4:(((((w.alloc (.cells #[iv] 32)).alloc (.cells #[.slice ua 512 ucap,.i bank] 34)).alloc (.cells (cR A X S Pc Z N C I) 36)).alloc (.cells mZ 34)).alloc (.cells cZ 36)).heap[w.heap.size]?=some (.cells #[iv] 32 (0,0)):=by simpa using A9 (A9 (A9 (A9 (Ak w #[iv] 32) (.cells #[.slice ua 512 ucap,.i bank] 34)) (.cells (cR A X S Pc Z N C I) 36)) (.cells mZ 34)) (.cells cZ 36)
 have k5:(((((w.alloc (.cells #[iv] 32)).alloc (.cells #[.slice ua 512 ucap,.i bank] 34)).alloc (.cells (cR A X S Pc Z N C I) 36)).alloc (.cells mZ 34)).alloc (.cells cZ 36)).heap[w.heap.size+1]?=some (.cells #[.slice ua 512 ucap,.i bank] 34 (0,0)):=by simpa using A9 (A9 (A9 (Ak (w.alloc (.cells #[iv] 32)) #[.slice ua 512 ucap,.i bank] 34) (.cells (cR A X S Pc Z N C I) 36)) (.cells mZ 34)) (.cells cZ 36)
 have k6:(((((w.alloc (.cells #[iv] 32)).alloc (.cells #[.slice ua 512 ucap,.i bank] 34)).alloc (.cells (cR A X S Pc Z N C I) 36)).alloc (.cells mZ 34)).alloc (.cells cZ 36)).heap[w.heap.size+1+1]?=some (.cells (cR A X S Pc Z N C I) 36 (0,0)):=by simpa using A9 (A9 (Ak ((w.alloc (.cells #[iv] 32)).alloc (.cells #[.slice ua 512 ucap,.i bank] 34)) (cR A X S Pc Z N C I) 36) (.cells mZ 34)) (.cells cZ 36)
 have k8:(((((w.alloc (.cells #[iv] 32)).alloc (.cells #[.slice ua 512 ucap,.i bank] 34)).alloc (.cells (cR A X S Pc Z N C I) 36)).alloc (.cells mZ 34)).alloc (.cells cZ 36)).heap[w.heap.size+1+1+1]?=some (.cells mZ 34 (0,0)):=by simpa using A9 (Ak (((w.alloc (.cells #[iv] 32)).alloc (.cells #[.slice ua 512 ucap,.i bank] 34)).alloc (.cells (cR A X S Pc Z N C I) 36)) mZ 34) (.cells cZ 36)
 have k9:(((((w.alloc (.cells #[iv] 32)).alloc (.cells #[.slice ua 512 ucap,.i bank] 34)).alloc (.cells (cR A X S Pc Z N C I) 36)).alloc (.cells mZ 34)).alloc (.cells cZ 36)).heap[w.heap.size+1+1+1+1]?=some (.cells cZ 36 (0,0)):=by simpa using Ak ((((w.alloc (.cells #[iv] 32)).alloc (.cells #[.slice ua 512 ucap,.i bank] 34)).alloc (.cells (cR A X S Pc Z N C I) 36)).alloc (.cells mZ 34)) cZ 36
 go_enter Tryz.func72,Tryz.ntmps72
 go_wp2_with fail;generalize (((((w.alloc (.cells #[iv] 32)).alloc (.cells #[.slice ua 512 ucap,.i bank] 34)).alloc (.cells (cR A X S Pc Z N C I) 36)).alloc (.cells mZ 34)).alloc (.cells cZ 36))=W0 at *;have hW:=Af k9;refine (Jh _ (fun _ _=>True) (.slice ua 512 ucap) 512 g bank ⟨_,_,rfl,by omega,hrow0,fun _ _ _=>trivial⟩).mono ?_;rintro e W1 ⟨q,rfl,O1,L1⟩
 obtain ⟨q1,c1,rfl⟩:∃ q1 c1,q=.slice q1 512 c1:=by obtain ⟨a,c,e,_⟩:=O1; exact ⟨a,c,e⟩
 have LA:Below W1.heap.size W1 (W1.alloc (.cells #[.slice q1 512 c1,.i bank] 34)):=(Below.refl _ _).alloc (Nat.le_refl _) _;have L2:=L1.trans (LA.mono L1.size)
 have M1:EN w (W1.alloc (.cells #[.slice q1 512 c1,.i bank] 34)) W1.heap.size iv W0.heap.size q1 c1 g bank A X S Pc Z N C I:=⟨Ac k4 L2 (Af k4),Ac k6 L2 (Af k6),Ac k8 L2 (Af k8),Ac k9 L2 (Af k9),Ak _ _ _,by have:=L1.size; omega,O1.keepL LA,Ai L0 L2⟩
 clear hrow hrow0 k4 k5 k6 k8 k9 O1 L1 LA L2 L0 hW;go_upto_region 2 with (fail)
 obtain ⟨z,hz⟩:∃ z,Hid (z=W1.heap.size):=⟨_,rfl⟩
 generalize W1.alloc (.cells #[.slice q1 512 c1,.i bank] 34)=V1 at *;rw [← hz.out] at M1 ⊢;clear hz;have c6:=Aj M1.cpu;go_wp2_with fail;clear c6;refine (Ri _ A X S Pc Z N C I).mono ?_;rintro e V2 ⟨rfl,L2⟩;have M2:=M1.below L2;clear M1 L2
 obtain ⟨fl,hfl⟩:∃ fl,Hid (fl=flagsOf Z N C I):=⟨_,rfl⟩
 rw [← hfl.out];have c6:=Aj M2.cpu;have c10:=Aj M2.out;go_wp2_with fail;clear c6 c10;refine (El _ _ _ g bank M2.ints A X S Pc Z N C I (Pc/256)).mono ?_;rintro e U3 ⟨q,rfl,O,L⟩
 obtain ⟨q3,c3,rfl⟩:∃ qa qc,q=.slice qa 512 qc:=by obtain ⟨a,c,e,_⟩:=O; exact ⟨a,c,e⟩
 have M3:=M2.pushed O L (dec8 S);have d6:=Aj (M2.below L).cpu;have e6:=Ax (M2.below L).cpu;have d10:=Aj (M2.below L).out;have e10:=Ax (M2.below L).out
 have hf6:z≠w.heap.size+1+1:=by have:=M2.far; omega
 have hlo3:z<V2.heap.size:=Af M2.out;have HM:=Ad M3;clear M3 M2 O L;rw [show (S-1)%256=dec8 S from rfl];go_upto_region 4 with (fail);clear d6 e6 d10 e10 hf6;have M3:=Ab HM;clear HM;generalize ((((((((((U3.setCell ⟨z,0,none⟩ (.slice q3 512 c3)).setCell ⟨z,1,none⟩ (.i bank)).setCell ⟨w.heap.size+1+1,0,none⟩ (.i A)).setCell ⟨w.heap.size+1+1,1,none⟩ (.i X)).setCell ⟨w.heap.size+1+1,2,none⟩ (.i (dec8 S))).setCell ⟨w.heap.size+1+1,3,none⟩ (.i Pc)).setCell ⟨w.heap.size+1+1,4,none⟩ (.bool Z)).setCell ⟨w.heap.size+1+1,5,none⟩ (.bool N)).setCell ⟨w.heap.size+1+1,6,none⟩ (.bool C)).setCell ⟨w.heap.size+1+1,7,none⟩ (.bool I))=V3 at *;have c6:=Aj M3.cpu;have c10:=Aj M3.out;go_wp2_with fail;clear c6 c10;refine (El _ _ _ (Eg g S (Pc/256)) bank M3.ints A X (dec8 S) Pc Z N C I Pc).mono ?_
 rintro e U4 ⟨q,rfl,O,L⟩
 obtain ⟨q4,c4,rfl⟩:∃ qa qc,q=.slice qa 512 qc:=by obtain ⟨a,c,e,_⟩:=O; exact ⟨a,c,e⟩
 have M4:=M3.pushed O L (dec8 (dec8 S));have d6:=Aj (M3.below L).cpu;have e6:=Ax (M3.below L).cpu;have d10:=Aj (M3.below L).out;have e10:=Ax (M3.below L).out
 have hf6:z≠w.heap.size+1+1:=by have:=M3.far; omega
 have hlo4:z<V3.heap.size:=Af M3.out;have HM:=Ad M4;clear M4 M3 O L;rw [show ((dec8 S)-1)%256=dec8 (dec8 S) from rfl];go_upto_region 5 with (fail);clear d6 e6 d10 e10 hf6;have M4:=Ab HM;clear HM;generalize ((((((((((U4.setCell ⟨z,0,none⟩ (.slice q4 512 c4)).setCell ⟨z,1,none⟩ (.i bank)).setCell ⟨w.heap.size+1+1,0,none⟩ (.i A)).setCell ⟨w.heap.size+1+1,1,none⟩ (.i X)).setCell ⟨w.heap.size+1+1,2,none⟩ (.i (dec8 (dec8 S)))).setCell ⟨w.heap.size+1+1,3,none⟩ (.i Pc)).setCell ⟨w.heap.size+1+1,4,none⟩ (.bool Z)).setCell ⟨w.heap.size+1+1,5,none⟩ (.bool N)).setCell ⟨w.heap.size+1+1,6,none⟩ (.bool C)).setCell ⟨w.heap.size+1+1,7,none⟩ (.bool I))=V4 at *;have c6:=Aj M4.cpu;have c10:=Aj M4.out;go_wp2_with fail;clear c6 c10
 refine (El _ _ _ (Eg (Eg g S (Pc/256)) (dec8 S) Pc) bank M4.ints A X (dec8 (dec8 S)) Pc Z N C I fl).mono ?_;rintro e U5 ⟨q,rfl,O,L⟩
 obtain ⟨q5,c5,rfl⟩:∃ qa qc,q=.slice qa 512 qc:=by obtain ⟨a,c,e,_⟩:=O; exact ⟨a,c,e⟩
 have M5:=M4.pushed O L (dec8 (dec8 (dec8 S)));have d6:=Aj (M4.below L).cpu;have e6:=Ax (M4.below L).cpu;have d10:=Aj (M4.below L).out;have e10:=Ax (M4.below L).out
 have hf6:z≠w.heap.size+1+1:=by have:=M4.far; omega
 have hlo5:z<V4.heap.size:=Af M4.out;have HM:=Ad M5;clear M5 M4 O L;rw [show ((dec8 (dec8 S))-1)%256=dec8 (dec8 (dec8 S)) from rfl];go_upto_region 6 with (fail);clear d6 e6 d10 e10 hf6;have M5:=Ab HM;clear HM;generalize ((((((((((U5.setCell ⟨z,0,none⟩ (.slice q5 512 c5)).setCell ⟨z,1,none⟩ (.i bank)).setCell ⟨w.heap.size+1+1,0,none⟩ (.i A)).setCell ⟨w.heap.size+1+1,1,none⟩ (.i X)).setCell ⟨w.heap.size+1+1,2,none⟩ (.i (dec8 (dec8 (dec8 S))))).setCell ⟨w.heap.size+1+1,3,none⟩ (.i Pc)).setCell ⟨w.heap.size+1+1,4,none⟩ (.bool Z)).setCell ⟨w.heap.size+1+1,5,none⟩ (.bool N)).setCell ⟨w.heap.size+1+1,6,none⟩ (.bool C)).setCell ⟨w.heap.size+1+1,7,none⟩ (.bool I))=V5 at *
 have h2lo:w.heap.size+1+1<V4.heap.size:=by have:=M5.far; omega
 have M6:=M5.setI h2lo true;have c6:=Aj M5.cpu;have f6:=Ax M5.cpu;have HM:=Ad M6;have hf5:=M5.far;clear M5 M6;go_upto_region 7 with (fail);have M6:=Ab HM;clear HM c6 f6;generalize V5.setCell ⟨w.heap.size+1+1,7,none⟩ (.bool true)=V6 at *;rw [hfl.out] at M6;clear hfl;rw [show Eg (Eg (Eg g S (Pc/256)) (dec8 S) Pc) (dec8 (dec8 S)) (flagsOf Z N C I)=enterG g S Pc Z N C I from rfl] at M6
 obtain ⟨G',hG⟩:∃ G',Hid (G'=enterG g S Pc Z N C I):=⟨_,rfl⟩
 rw [← hG.out] at M6;have D6:Below V6.heap.size V6 V6.drew:=D7 V6;have HPk:=Ad (fun (V':World) (L:Below V6.heap.size V6 V') (x:Int)=>Es V' _ _ iv (.slice q5 512 c5) m ln f 512 G' bank x (H.keep (Aa (Ai M6.bel L) Ah) (fun _ _ _ x=>x)) (M6.below L).ints);have a1:V6.cell? ⟨w.heap.size,0,none⟩=some iv:=Aj M6.img 0;have a2:V6.cell? ⟨z,0,none⟩=some (.slice q5 512 c5):=Aj M6.out 0;have a3:V6.cell? ⟨z,1,none⟩=some (.i bank):=Aj M6.out 1;have HM:=Ad M6;clear M6;have HT1:=Ad ((Ab HPk) V6.drew D6 vec)
 obtain ⟨pc,hpc⟩:∃ pc,Hid (pc=Mj m ln f G' bank vec):=⟨_,rfl⟩
 obtain ⟨x1,hx1⟩:∃ x1,Hid (x1=peekV m ln f 512 G' bank vec):=⟨_,rfl⟩
 obtain ⟨x2,hx2⟩:∃ x2,Hid (x2=peekV m ln f 512 G' bank (vec+1)):=⟨_,rfl⟩
 have HJ:=Ad (fun W=>Hh x1 x2 W);rw [show x1%256+256*(x2%256)=pc by rw [hx1.out,hx2.out,hpc.out]; rfl] at HJ;rw [← hx1.out] at HT1
 have HP2:Hid (∀ V',Below V6.heap.size V6 V'→∀ y,Hid (y=IntKind.i64.wrap (vec+1))→Calls Tryz.prog 68 #[.agg #[iv],.agg #[.slice q5 512 c5,.i bank],.i y] V' fun e w'=>e=.returned (.i x2)∧Below V'.heap.size V' w'):=fun V' L y hy=>by
  have h:=(Ab HPk) V' L y;rw [hy.out,Ga,← hx2.out,← hy.out] at h;exact h
 go_cut [50] (fun sl WX=>∃ V':World,Below V6.heap.size V6 V'∧WX=V'.setCell ⟨w.heap.size+1+1,3,none⟩ (.i pc))
 case first =>
  go_region_held3 (fun w'=>w'.cell? ⟨w.heap.size,0,none⟩=some iv∧w'.cell? ⟨z,0,none⟩=some (.slice q5 512 c5)∧w'.cell? ⟨z,1,none⟩=some (.i bank)) (first | (with_reducible assumption) | (refine ⟨?_,?_,?_⟩ <;> with_reducible assumption) | go_keep) (first
   | (go_at_call 67; refine (Ab HJ _).mono ?_; rintro e P3 ⟨rfl,rfl⟩)
   | (go_at_call 68; refine (Ab HP2 _ C1 _ rfl).mono ?_; rintro e P2 ⟨rfl,L2⟩; have C2:=Ai C1 L2; have M2x:=(Ab HM).below C2; have d6:=Aj M2x.cpu; have f6:=Ax M2x.cpu; have b1:P2.cell? ⟨w.heap.size,0,none⟩=some iv:=Aj M2x.img 0; have b2:P2.cell? ⟨z,0,none⟩=some (.slice q5 512 c5):=Aj M2x.out 0; have b3:P2.cell? ⟨z,1,none⟩=some (.i bank):=Aj M2x.out 1; have g1:(P2.setCell ⟨w.heap.size+1+1,3,none⟩ (.i pc)).cell? ⟨w.heap.size,0,none⟩=some iv:=Aj (M2x.setPc h2lo pc).img 0; have g2:(P2.setCell ⟨w.heap.size+1+1,3,none⟩ (.i pc)).cell? ⟨z,0,none⟩=some (.slice q5 512 c5):=Aj (M2x.setPc h2lo pc).out 0; have g3:(P2.setCell ⟨w.heap.size+1+1,3,none⟩ (.i pc)).cell? ⟨z,1,none⟩=some (.i bank):=Aj (M2x.setPc h2lo pc).out 1; clear M2x L2)
   | (go_at_call 68; refine (Ab HT1).mono ?_; rintro e P1 ⟨rfl,L1⟩; have C1:=Ai D6 L1; have M1x:=(Ab HM).below C1; have e1:P1.cell? ⟨w.heap.size,0,none⟩=some iv:=Aj M1x.img 0; have e2:P1.cell? ⟨z,0,none⟩=some (.slice q5 512 c5):=Aj M1x.out 0; have e3:P1.cell? ⟨z,1,none⟩=some (.i bank):=Aj M1x.out 1; clear M1x L1))
  all_goals (
   go_wp2_with fail
   go_meet
   exact ⟨_,C2,rfl⟩)
 case rest =>
 obtain ⟨V',LV,rfl⟩:=hcut;have M7:=((Ab HM).below LV).setPc h2lo pc;clear HM LV a1 a2 a3 HT1 HP2 HPk HJ hx1 hx2 D6;generalize V'.setCell ⟨w.heap.size+1+1,3,none⟩ (.i pc)=V7 at *;go_upto_region 8 with (fail);have c6:=Aj M7.cpu;have c10:=Aj M7.out;have c8:=Aj M7.rm;have f8:=Ax M7.rm;have c9:=Aj M7.rc;have f9:=Ax M7.rc
 have r8:=fun (x0 x1 y0 y1 y2 y3 y4 y5 y6 y7:Value)=>Aj (Fl (Jl M7.rm x0 x1) (show w.heap.size+1+1+1≠w.heap.size+1+1+1+1 by omega) y0 y1 y2 y3 y4 y5 y6 y7)
 have r9:=fun (x0 x1 y0 y1 y2 y3 y4 y5 y6 y7:Value)=>Aj (Ij (Ar (Ar (x:=x0) (o:=0) M7.rc (show w.heap.size+1+1+1+1≠w.heap.size+1+1+1 by omega)) (x:=x1) (o:=1) (show w.heap.size+1+1+1+1≠w.heap.size+1+1+1 by omega)) y0 y1 y2 y3 y4 y5 y6 y7)
 have hlo9:w.heap.size+1+1+1+1<V4.heap.size:=by have:=M7.far; omega
 have hw4:w.heap.size≤V4.heap.size:=by omega
 have HF:Hid (∀ (x0 x1 y0 y1 y2 y3 y4 y5 y6 y7:Value),Au (((((((((((V7.setCell ⟨w.heap.size+1+1+1,0,none⟩ x0).setCell ⟨w.heap.size+1+1+1,1,none⟩ x1).setCell ⟨w.heap.size+1+1+1+1,0,none⟩ y0).setCell ⟨w.heap.size+1+1+1+1,1,none⟩ y1).setCell ⟨w.heap.size+1+1+1+1,2,none⟩ y2).setCell ⟨w.heap.size+1+1+1+1,3,none⟩ y3).setCell ⟨w.heap.size+1+1+1+1,4,none⟩ y4).setCell ⟨w.heap.size+1+1+1+1,5,none⟩ y5).setCell ⟨w.heap.size+1+1+1+1,6,none⟩ y6).setCell ⟨w.heap.size+1+1+1+1,7,none⟩ y7).drew) w.heap.size (.slice q5 512 c5) 512 G'∧Below w.heap.size w (((((((((((V7.setCell ⟨w.heap.size+1+1+1,0,none⟩ x0).setCell ⟨w.heap.size+1+1+1,1,none⟩ x1).setCell ⟨w.heap.size+1+1+1+1,0,none⟩ y0).setCell ⟨w.heap.size+1+1+1+1,1,none⟩ y1).setCell ⟨w.heap.size+1+1+1+1,2,none⟩ y2).setCell ⟨w.heap.size+1+1+1+1,3,none⟩ y3).setCell ⟨w.heap.size+1+1+1+1,4,none⟩ y4).setCell ⟨w.heap.size+1+1+1+1,5,none⟩ y5).setCell ⟨w.heap.size+1+1+1+1,6,none⟩ y6).setCell ⟨w.heap.size+1+1+1+1,7,none⟩ y7).drew)):=fun x0 x1 y0 y1 y2 y3 y4 y5 y6 y7=>⟨((show Au ((((((((((V7.setCell ⟨w.heap.size+1+1+1,0,none⟩ x0).setCell ⟨w.heap.size+1+1+1,1,none⟩ x1).setCell ⟨w.heap.size+1+1+1+1,0,none⟩ y0).setCell ⟨w.heap.size+1+1+1+1,1,none⟩ y1).setCell ⟨w.heap.size+1+1+1+1,2,none⟩ y2).setCell ⟨w.heap.size+1+1+1+1,3,none⟩ y3).setCell ⟨w.heap.size+1+1+1+1,4,none⟩ y4).setCell ⟨w.heap.size+1+1+1+1,5,none⟩ y5).setCell ⟨w.heap.size+1+1+1+1,6,none⟩ y6).setCell ⟨w.heap.size+1+1+1+1,7,none⟩ y7) V4.heap.size _ _ _ from ((((((((((M7.own.setLow (by omega) _).setLow (by omega) _).setLow (by omega) _).setLow (by omega) _).setLow (by omega) _).setLow (by omega) _).setLow (by omega) _).setLow (by omega) _).setLow (by omega) _).setLow (by omega) _)).mono hw4).keepL (D7 _),Ai (M7.bel.trans ((((Below.refl _ _).setCell (p:=⟨w.heap.size+1+1+1,0,none⟩) (by simp; omega) _).setCell (p:=⟨w.heap.size+1+1+1,1,none⟩) (by simp; omega) _).trans ((Ii _ (w.heap.size+1+1+1+1) _ _ _ _ _ _ _ _).mono (by omega)))) (D7 _)⟩
 have hfar:=M7.far;clear M7
 go_region
 all_goals (
  go_wp2;refine bodyPost_ret (v:=.tuple #[.agg #[.slice q5 512 c5,.i bank],.agg (cR A X (dec8 (dec8 (dec8 S))) pc Z N C true)]) (by simp [results,Tryz.results72,go_sem,r8,r9]) rfl ?_;refine ⟨_,by rw [hpc.out,hG.out],?_⟩;rw [← hG.out]
  with_reducible exact HF.out _ _ _ _ _ _ _ _ _ _)
end Go.Proofs.YtfjieibndedngaaGreat
