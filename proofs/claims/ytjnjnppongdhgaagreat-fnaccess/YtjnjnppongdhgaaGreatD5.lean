import Derived.Test.YtjnjnppongdhgaaGreatU0
import Derived.Lib.QuietBelow
import Derived.Deep.RegionLaw
namespace Go.Proofs.YtjnjnppongdhgaaGreat
set_option maxHeartbeats 2000000
set_option maxRecDepth 20000
set_option linter.unusedVariables false
open Go.ChangeShapes Go.WideShapes Go.ChangeAt Go.RowKit
theorem Step.box {c b:Nat} {w w':World} {o:Obj} (h:Step c w w') (hb:w.heap[b]?=some o) (hc:b≠c):w'.heap[b]?=some o:=by
 have hlt:b<w.heap.size:=by
  rcases Nat.lt_or_ge b w.heap.size with h' | h'
  ·exact h'
  ·simp [Array.getElem?_eq_none h'] at hb
 exact (h.block b hlt hc).trans hb
theorem Rn {w:World} {b:Nat} {o:Obj} (hb:w.heap[b]?=some o):b<w.heap.size:=by
 rcases Nat.lt_or_ge b w.heap.size with h' | h'
 ·exact h'
 ·simp [Array.getElem?_eq_none h'] at hb
theorem Fl {w:World} {b:Nat} {o:Obj} (hb:w.heap[b]?=some o) (x:Obj):(w.alloc x).heap[b]?=some o:=Aa hb ((Below.refl w.heap.size w).alloc (Nat.le_refl _) x) (Rn hb)
theorem Hu {w:World} {b:Nat} {cs:Array Value} {t:TypeId} (h:w.heap[b]?=some (.cells cs t (0,0))):∀ i,w.frozen? ⟨b,i,none⟩=false:=fun i=>Lib.frozen_of_heap h i
theorem Step.only {c d:Nat} {u w w':World} (S:Step c u w) (O:A5 d w w') (hd:u.heap.size≤d):Step c u w' :=
 ⟨O.os.trans S.os,O.tape.trans S.tape,O.output.trans S.output,Nat.le_trans S.size (Nat.le_of_eq O.size.symm),fun k hk hc=>(O.block k (by omega)).trans (S.block k hk hc)⟩
def pickS (j:Nat):Int:=[0,1,2,255,254,128].getD j 0
def pickP (j:Nat):Int:=[0,49152,49200,65535,65534,32768,8192,511].getD j 0
theorem P7 (w:World) (B c:Nat) (a:Option Addr) (len cap:Nat) (H:Dl w B c a len cap) (hcw:c<w.heap.size) :
  Calls Tryz.prog 87 #[(pt c 0)] w fun e w'=>(∃ (A X S Pc:Int) (Z N C I:Bool),e=.returned (.agg (cR A X S Pc Z N C I)))∧Dl w' B c a len cap∧Step c w w':=by
 have b0:=Al w cZ 31;have S0:=(Step.refl c w).alloc (.cells cZ 31);have H0:=H.alloc (.cells cZ 31) hcw
 have hbc:w.heap.size≠c:=by omega
 go_enter Tryz.func87,Tryz.ntmps87
 go_wp2_with fail;refine (Cq _ B c a len cap H0 256).mono ?_;rintro e w1 ⟨x1,rfl,p1,p2,H1,O1⟩;have S1:=S0.trans O1.step;have b1:=O1.step.box b0 hbc;clear O1 b0 H0 S0;go_wp2_with fail;refine (Cq _ B c a len cap H1 256).mono ?_;rintro e w2 ⟨x2,rfl,p3,p4,H2,O2⟩;have S2:=S1.trans O2.step;have b2:=O2.step.box b1 hbc;clear O2 b1 H1 S1;have hs2:c<w2.heap.size:=Nat.lt_of_lt_of_le hcw S2.size;go_wp2_with fail;refine (Ep _ B c a len cap (H2.alloc _ hs2) w2.heap.size 6 (by omega) (by omega) (by omega) pickS ?_).mono ?_
 ·intro j hj
  rw [World.cell?_alloc_new]
  rcases j with _ | _ | _ | _ | _ | _ | j <;> first | rfl | omega
 rintro e w3 ⟨j3,rfl,hj3,H3,O3⟩;have b2':=Fl b2 (.cells #[.i 0,.i 1,.i 2,.i 255,.i 254,.i 128] 3);have S3:=(S2.alloc _).trans O3.step;have b3:=O3.step.box b2' hbc;clear O3 b2 b2' H2 S2 hs2;have hs3:c<w3.heap.size:=Nat.lt_of_lt_of_le hcw S3.size;generalize pickS j3=x3 at *;go_wp2_with fail;refine (Ep _ B c a len cap (H3.alloc _ hs3) w3.heap.size 8 (by omega) (by omega) (by omega) pickP ?_).mono ?_
 ·intro j hj
  rw [World.cell?_alloc_new]
  rcases j with _ | _ | _ | _ | _ | _ | _ | _ | j <;> first | rfl | omega
 rintro e w4 ⟨j4,rfl,hj4,H4,O4⟩;have b3':=Fl b3 (.cells #[.i 0,.i 49152,.i 49200,.i 65535,.i 65534,.i 32768,.i 8192,.i 511] 3);have S4:=(S3.alloc _).trans O4.step;have b4:=O4.step.box b3' hbc;clear O4 b3 b3' H3 S3 hs3;generalize pickP j4=x4 at *;go_wp2_with fail;refine (Cq _ B c a len cap H4 256).mono ?_;rintro e w5 ⟨x5,rfl,p5,p6,H5,O5⟩;have S5:=S4.trans O5.step;have b5:=O5.step.box b4 hbc;clear O5 b4 H4 S4;have hs5:c<w5.heap.size:=Nat.lt_of_lt_of_le hcw S5.size;go_wp2_with fail;refine (Ht _ _ _ _ _ _ _ _ _ _).mono ?_;rintro e w6 ⟨rfl,L6⟩;have S6:=S5.trans (Dw (c:=c) L6 (Nat.le_refl _));have b6:=Aa b5 L6 (Rn b5);have H6:=H5.below L6 hs5;clear L6 b5 H5 S5;obtain ⟨q0,q1,q2,q3,q4,q5,q6,q7⟩:=Er b6;have fz:=Hu b6;have hBw:B≤w.heap.size:=Nat.le_trans H.up (Nat.le_of_lt hcw);go_wp2
 have O7:∀ (w:World) (d:Nat) (v0 v1 v2 v3 v4 v5 v6 v7:Value),A5 d w ((((((((w.setCell ⟨d,0,none⟩ v0).setCell ⟨d,1,none⟩ v1).setCell ⟨d,2,none⟩ v2).setCell ⟨d,3,none⟩ v3).setCell ⟨d,4,none⟩ v4).setCell ⟨d,5,none⟩ v5).setCell ⟨d,6,none⟩ v6).setCell ⟨d,7,none⟩ v7):=fun w d _ _ _ _ _ _ _ _=>((((((((A5.refl d w).setCell _).setCell _).setCell _).setCell _).setCell _).setCell _).setCell _).setCell _
 refine bodyPost_ret (v:=.agg (cR x1 x2 x3 x4 (hasB x5 2) (hasB x5 128) (hasB x5 1) (hasB x5 4))) (by simp [results,Tryz.results87,go_sem,q0,q1,q2,q3,q4,q5,q6,q7]) rfl ?_;exact ⟨⟨_,_,_,_,_,_,_,_,rfl⟩,H6.only (O7 _ _ _ _ _ _ _ _ _ _) hbc hBw,S6.only (O7 _ _ _ _ _ _ _ _ _ _) (Nat.le_refl _)⟩
theorem Hv (w:World) (d:Nat) (v0 v1 v2 v3 v4 v5 v6 v7:Value):A5 d w ((((((((w.setCell ⟨d,0,none⟩ v0).setCell ⟨d,1,none⟩ v1).setCell ⟨d,2,none⟩ v2).setCell ⟨d,3,none⟩ v3).setCell ⟨d,4,none⟩ v4).setCell ⟨d,5,none⟩ v5).setCell ⟨d,6,none⟩ v6).setCell ⟨d,7,none⟩ v7) :=
 ((((((((A5.refl d w).setCell _).setCell _).setCell _).setCell _).setCell _).setCell _).setCell _).setCell _
def pickM (j:Nat):Int:=[-1,65536].getD j 0
theorem Zg (w:World) (B c:Nat) (a:Option Addr) (len cap:Nat) (H:Dl w B c a len cap) (hcw:c<w.heap.size) :
  Calls Tryz.prog 40 #[(pt c 0)] w fun e w'=>(∃ (A X S Pc:Int) (Z N C I:Bool),e=.returned (.agg (cR A X S Pc Z N C I)))∧Dl w' B c a len cap∧Step c w w':=by
 have r0:=Al w cZ 31;have S0:=(Step.refl c w).alloc (.cells cZ 31);have H0:=H.alloc (.cells cZ 31) hcw
 have hbc:w.heap.size≠c:=by omega
 have hBw:B≤w.heap.size:=Nat.le_trans H.up (Nat.le_of_lt hcw)
 go_enter Tryz.func40,Tryz.ntmps40
 go_wp2_with fail;refine (P7 _ B c a len cap H0 (by simp; omega)).mono ?_;rintro e w1 ⟨⟨A,X,S,Pc,Z,N,C,I,rfl⟩,H1,T1⟩;have S1:=S0.trans T1;have r1:=T1.box r0 hbc;have hs1:c<w1.heap.size:=Nat.lt_of_lt_of_le hcw S1.size;have hwd:w.heap.size≤w1.heap.size:=S1.size
 have hdc:w1.heap.size≠c:=by omega
 have hrd:w.heap.size≠w1.heap.size:=Nat.ne_of_lt (Rn r1)
 have hBd:B≤w1.heap.size:=by omega
 have x2:=Al w1 (cR A X S Pc Z N C I) 31;have r2:=Fl r1 (.cells (cR A X S Pc Z N C I) 31);have S2:=S1.alloc (.cells (cR A X S Pc Z N C I) 31);have H2:=H1.alloc (.cells (cR A X S Pc Z N C I) 31) hs1;clear T1 r0 r1 S0 S1 H0 H1;go_wp2_with fail;refine (Cq _ B c a len cap H2 25).mono ?_;rintro e w3 ⟨y,rfl,y0,y1,H3,O3⟩;have S3:=S2.trans O3.step;have r3:=O3.step.box r2 hbc;have x3:=O3.step.box x2 hdc;have hs3:c<w3.heap.size:=Nat.lt_of_lt_of_le hcw S3.size;clear O3 r2 x2 S2 H2
 by_cases hy0:y=0
 ·have hy:=hy0
  subst hy;go_wp2_with fail;refine (He _ B c a len cap H3 hs3).mono ?_;rintro e w4 ⟨v,rfl,v0,v1,H4,T4⟩;have S4:=S3.trans T4;have r4:=T4.box r3 hbc;have x4:=T4.box x3 hdc;clear r3 x3 H3 S3;obtain ⟨q0,q1,q2,q3,q4,q5,q6,q7⟩:=Er r4;obtain ⟨u0,u1,u2,u3,u4,u5,u6,u7⟩:=Er x4;have fr:=Hu r4;have fx:=Hu x4;go_wp2;refine bodyPost_ret (v:=.agg (cR v X S Pc Z N C I)) (by simp [results,Tryz.results40,go_sem,q0,q1,q2,q3,q4,q5,q6,q7]) rfl ?_;exact ⟨⟨_,_,_,_,_,_,_,_,rfl⟩,(H4.only ((A5.refl _ _).setCell _) hdc hBd).only (Hv _ _ _ _ _ _ _ _ _ _) hbc hBw,(S4.only ((A5.refl _ _).setCell _) hwd).only (Hv _ _ _ _ _ _ _ _ _ _) (Nat.le_refl _)⟩
 by_cases hy1:y=1
 ·have hy:=hy1
  subst hy;go_wp2_with fail;refine (He _ B c a len cap H3 hs3).mono ?_;rintro e w4 ⟨v,rfl,v0,v1,H4,T4⟩;have S4:=S3.trans T4;have r4:=T4.box r3 hbc;have x4:=T4.box x3 hdc;clear r3 x3 H3 S3;obtain ⟨q0,q1,q2,q3,q4,q5,q6,q7⟩:=Er r4;obtain ⟨u0,u1,u2,u3,u4,u5,u6,u7⟩:=Er x4;have fr:=Hu r4;have fx:=Hu x4;go_wp2;refine bodyPost_ret (v:=.agg (cR A v S Pc Z N C I)) (by simp [results,Tryz.results40,go_sem,q0,q1,q2,q3,q4,q5,q6,q7]) rfl ?_;exact ⟨⟨_,_,_,_,_,_,_,_,rfl⟩,(H4.only ((A5.refl _ _).setCell _) hdc hBd).only (Hv _ _ _ _ _ _ _ _ _ _) hbc hBw,(S4.only ((A5.refl _ _).setCell _) hwd).only (Hv _ _ _ _ _ _ _ _ _ _) (Nat.le_refl _)⟩
 by_cases hy2:y=2
 ·have hy:=hy2
  subst hy;go_wp2_with fail;refine (He _ B c a len cap H3 hs3).mono ?_;rintro e w4 ⟨v,rfl,v0,v1,H4,T4⟩;have S4:=S3.trans T4;have r4:=T4.box r3 hbc;have x4:=T4.box x3 hdc;clear r3 x3 H3 S3;obtain ⟨q0,q1,q2,q3,q4,q5,q6,q7⟩:=Er r4;obtain ⟨u0,u1,u2,u3,u4,u5,u6,u7⟩:=Er x4;have fr:=Hu r4;have fx:=Hu x4;go_wp2;refine bodyPost_ret (v:=.agg (cR A X v Pc Z N C I)) (by simp [results,Tryz.results40,go_sem,q0,q1,q2,q3,q4,q5,q6,q7]) rfl ?_;exact ⟨⟨_,_,_,_,_,_,_,_,rfl⟩,(H4.only ((A5.refl _ _).setCell _) hdc hBd).only (Hv _ _ _ _ _ _ _ _ _ _) hbc hBw,(S4.only ((A5.refl _ _).setCell _) hwd).only (Hv _ _ _ _ _ _ _ _ _ _) (Nat.le_refl _)⟩
 by_cases hy3:y=3
 ·have hy:=hy3
  subst hy;go_wp2_with fail;refine (Ep _ B c a len cap (H3.alloc _ hs3) w3.heap.size 2 (by omega) (by omega) (by omega) pickM ?_).mono ?_
  ·intro j hj
   rw [World.cell?_alloc_new]
   rcases j with _ | _ | j <;> first | rfl | omega
  rintro e w4 ⟨j4,rfl,hj4,H4,O4⟩;have S4:=(S3.alloc _).trans O4.step;have r4:=O4.step.box (Fl r3 (.cells #[.i (-1),.i 65536] 3)) hbc;have x4:=O4.step.box (Fl x3 (.cells #[.i (-1),.i 65536] 3)) hdc;generalize pickM j4=v at *;clear r3 x3 H3 S3;obtain ⟨q0,q1,q2,q3,q4,q5,q6,q7⟩:=Er r4;obtain ⟨u0,u1,u2,u3,u4,u5,u6,u7⟩:=Er x4;have fr:=Hu r4;have fx:=Hu x4;go_wp2;refine bodyPost_ret (v:=.agg (cR A X S v Z N C I)) (by simp [results,Tryz.results40,go_sem,q0,q1,q2,q3,q4,q5,q6,q7]) rfl ?_;exact ⟨⟨_,_,_,_,_,_,_,_,rfl⟩,(H4.only ((A5.refl _ _).setCell _) hdc hBd).only (Hv _ _ _ _ _ _ _ _ _ _) hbc hBw,(S4.only ((A5.refl _ _).setCell _) hwd).only (Hv _ _ _ _ _ _ _ _ _ _) (Nat.le_refl _)⟩
 ·have e0:(y==0)=false:=by simpa using hy0
  have e1:(y==1)=false:=by simpa using hy1
  have e2:(y==2)=false:=by simpa using hy2
  have e3:(y==3)=false:=by simpa using hy3
  clear hy0 hy1 hy2 hy3;obtain ⟨q0,q1,q2,q3,q4,q5,q6,q7⟩:=Er r3;obtain ⟨u0,u1,u2,u3,u4,u5,u6,u7⟩:=Er x3;have fr:=Hu r3;go_wp2;refine bodyPost_ret (v:=.agg (cR A X S Pc Z N C I)) (by simp [results,Tryz.results40,go_sem,q0,q1,q2,q3,q4,q5,q6,q7]) rfl ?_;exact ⟨⟨_,_,_,_,_,_,_,_,rfl⟩,H3.only (Hv _ _ _ _ _ _ _ _ _ _) hbc hBw,S3.only (Hv _ _ _ _ _ _ _ _ _ _) (Nat.le_refl _)⟩
def opNm:List ByteArray:=[⟨#[110,111,112]⟩,⟨#[108,100,105]⟩,⟨#[108,100,97]⟩,⟨#[115,116,97]⟩,⟨#[97,100,105]⟩,⟨#[115,98,105]⟩,⟨#[97,110,105]⟩,⟨#[111,114,105]⟩,⟨#[120,114,105]⟩,⟨#[99,112,105]⟩,⟨#[116,97,120]⟩,⟨#[116,120,97]⟩,⟨#[105,110,120]⟩,⟨#[100,101,120]⟩,⟨#[108,97,120]⟩,⟨#[115,97,120]⟩,⟨#[98,110,101]⟩,⟨#[98,101,113]⟩,⟨#[98,99,115]⟩,⟨#[106,109,112]⟩,⟨#[106,115,114]⟩,⟨#[114,116,115]⟩,⟨#[112,104,97]⟩,⟨#[112,108,97]⟩,⟨#[114,116,105]⟩,⟨#[115,101,105]⟩,⟨#[99,108,105]⟩,⟨#[115,101,99]⟩,⟨#[99,108,99]⟩,⟨#[97,100,97]⟩]
def opCells:Array Value:=#[.string ⟨#[110,111,112]⟩,.string ⟨#[108,100,105]⟩,.string ⟨#[108,100,97]⟩,.string ⟨#[115,116,97]⟩,.string ⟨#[97,100,105]⟩,.string ⟨#[115,98,105]⟩,.string ⟨#[97,110,105]⟩,.string ⟨#[111,114,105]⟩,.string ⟨#[120,114,105]⟩,.string ⟨#[99,112,105]⟩,.string ⟨#[116,97,120]⟩,.string ⟨#[116,120,97]⟩,.string ⟨#[105,110,120]⟩,.string ⟨#[100,101,120]⟩,.string ⟨#[108,97,120]⟩,.string ⟨#[115,97,120]⟩,.string ⟨#[98,110,101]⟩,.string ⟨#[98,101,113]⟩,.string ⟨#[98,99,115]⟩,.string ⟨#[106,109,112]⟩,.string ⟨#[106,115,114]⟩,.string ⟨#[114,116,115]⟩,.string ⟨#[112,104,97]⟩,.string ⟨#[112,108,97]⟩,.string ⟨#[114,116,105]⟩,.string ⟨#[115,101,105]⟩,.string ⟨#[99,108,105]⟩,.string ⟨#[115,101,99]⟩,.string ⟨#[99,108,99]⟩,.string ⟨#[97,100,97]⟩]
def Dh:List Int:=[1,2,3,3,2,2,2,2,2,2,1,1,1,1,3,3,3,3,3,3,3,1,1,1,1,1,1,1,1,3]
def Kp:List Int:=[2,2,4,4,2,2,2,2,2,2,2,2,2,2,4,5,3,3,3,3,6,6,3,4,6,2,2,2,2,4]
theorem Rk (i:Nat) (h:i<30):opCells[i]?=some (.string (opNm.getD i ByteArray.empty)):=by
 have hm:opCells.toList=opNm.map Value.string:=rfl;rw [← Array.getElem?_toList,hm,List.getElem?_map,List.getD_eq_getElem?_getD]
 cases e:opNm[i]? with
 | none=>exact absurd (List.getElem?_eq_none_iff.1 e) (by show ¬ 30≤i; omega)
 | some x=>rfl
theorem ints_at (L:List Int) (d:Int) (i:Nat) (h:i<L.length):(L.map (Value.int .i64))[i]'(by simpa using h)=.i (L.getD ((i:Int).toNat) d):=by
 rw [List.getElem_map,Int.toNat_natCast,List.getD_eq_getElem?_getD,List.getElem?_eq_getElem h]
 rfl
def Y7 (s:ByteArray) (r:Int):Prop:=(∃ i:Nat,i<30∧r=i∧(opNm.getD i ByteArray.empty).toList=s.toList)∨r=-1∧∀ i:Nat,i<30→¬ (opNm.getD i ByteArray.empty).toList=s.toList
theorem Xv (w:World):Calls Tryz.prog 147 #[] w fun e w'=>e=.returned (.slice (some ⟨w.heap.size,0,none⟩) 30 30)∧w'=w.alloc (.cells opCells 9):=by
 go_enter Tryz.func147,Tryz.ntmps147
 go_wp2;go_ret;exact ⟨rfl,rfl⟩
theorem Jj (w:World) (x:Int):Calls Tryz.prog 143 #[.i x] w fun e w'=>e=.returned (.i (if 0≤x∧x≤29 then Dh.getD x.toNat 1 else 1))∧Below w.heap.size w w':=by
 by_cases h:0≤x∧x≤29
 ·have hin:=Bj h
  obtain ⟨i,rfl⟩:∃ i:Nat,x=i:=⟨x.toNat,by omega⟩
  have hi:i<30:=by omega
  rw [if_pos h]
  go_enter Tryz.func143,Tryz.ntmps143
  go_wp2_with fail;refine (D8 _ _ _ _).mono ?_;rintro e w1 ⟨rfl,rfl⟩;rw [hin];go_wp2;go_ret;exact ⟨congrArg Ending.returned (ints_at Dh 1 i hi),(Below.refl _ _).alloc (Nat.le_refl _) _⟩
 ·have hin:=Cf h
  rw [if_neg h]
  go_enter Tryz.func143,Tryz.ntmps143
  go_wp2_with fail;refine (D8 _ _ _ _).mono ?_;rintro e w1 ⟨rfl,rfl⟩;rw [hin];go_wp2;go_ret;exact ⟨rfl,Below.refl _ _⟩
theorem Vs (w:World) (s:ByteArray):Calls Tryz.prog 142 #[.string s] w fun e w'=>(∃ r,e=.returned (.i r)∧Y7 s r)∧Below w.heap.size w w':=by
 have hc:∀ i,i<30→(w.alloc (.cells opCells 9)).cell? ⟨w.heap.size,0+i,none⟩=some (.string (opNm.getD i ByteArray.empty)):=fun i hi=>by
  rw [World.cell?_alloc_at _ _ _ _ rfl]
  simpa using Rk i hi
 have L0:Below w.heap.size w (w.alloc (.cells opCells 9)):=(Below.refl _ _).alloc (Nat.le_refl _) _
 go_enter Tryz.func142,Tryz.ntmps142
 go_wp2_with fail;refine (Xv _).mono ?_;rintro e w1 ⟨rfl,rfl⟩;generalize w.alloc (.cells opCells 9)=wa at *;go_wp2
 go_loop [4] (fun i=>∃ q:Nat,q≤30∧i=.i q∧∀ j,j<q→¬ (opNm.getD j ByteArray.empty).toList=s.toList) (fun i=>30-(intOf i).toNat)
 case atStart=>exact ⟨0,Nat.zero_le _,rfl,fun j hj=>absurd hj (Nat.not_lt_zero _)⟩
 case round =>
  obtain ⟨q,hq,rfl,hno⟩:=hrel;have HN:=Ac hno;clear hno
  by_cases hlt:q<30
  ·have hlt':(q:Int)<30:=by omega
   have hcq:=hc q hlt;rw [Nat.zero_add] at hcq
   by_cases he:(opNm.getD q ByteArray.empty).toList=s.toList
   ·have he':((opNm.getD q ByteArray.empty).toList==s.toList)=true:=by simpa using he
    have HI:Hid (Y7 s q):=Or.inl ⟨q,hlt,rfl,he⟩;clear he;generalize opNm.getD q ByteArray.empty=nm at *;go_wp2;go_ret;exact ⟨⟨_,rfl,HI.out⟩,L0⟩
   ·have he':((opNm.getD q ByteArray.empty).toList==s.toList)=false:=by simpa using he
    have hno2:∀ j,j<q+1→¬ (opNm.getD j ByteArray.empty).toList=s.toList:=fun j hj=>by
     by_cases e:j=q
     ·rw [e]; exact he
     ·exact Ad HN j (by omega)
    have HN2:=Ac hno2;clear he hno2;generalize opNm.getD q ByteArray.empty=nm at *;go_wp2
    go_round
    case rel=>exact ⟨q+1,by omega,by go_num,Ad HN2⟩
    case measure=>simp [intOf]; omega
  ·have hlt':¬ (q:Int)<30:=by omega
   go_wp2;go_ret;exact ⟨⟨_,rfl,Or.inr ⟨rfl,fun i hi=>Ad HN i (by omega)⟩⟩,L0⟩
theorem N4 (w:World) (x:Int):Calls Tryz.prog 152 #[.i x] w fun e w'=>e=.returned (.i (if 0≤x∧x≤29 then Kp.getD x.toNat 2 else 2))∧Below w.heap.size w w':=by
 by_cases h:0≤x∧x≤29
 ·have hin:=Bj h
  obtain ⟨i,rfl⟩:∃ i:Nat,x=i:=⟨x.toNat,by omega⟩
  have hi:i<30:=by omega
  rw [if_pos h]
  go_enter Tryz.func152,Tryz.ntmps152
  go_wp2_with fail;refine (D8 _ _ _ _).mono ?_;rintro e w1 ⟨rfl,rfl⟩;rw [hin];go_wp2;go_ret;exact ⟨congrArg Ending.returned (ints_at Kp 2 i hi),(Below.refl _ _).alloc (Nat.le_refl _) _⟩
 ·have hin:=Cf h
  rw [if_neg h]
  go_enter Tryz.func152,Tryz.ntmps152
  go_wp2_with fail;refine (D8 _ _ _ _).mono ?_;rintro e w1 ⟨rfl,rfl⟩;rw [hin];go_wp2;go_ret;exact ⟨rfl,Below.refl _ _⟩
def Dp (x:Int):Int:=if x=2∨x=14∨x=29 then 1 else if x=3∨x=15 then 2 else 0
theorem Dd (w:World) (x:Int):Calls Tryz.prog 158 #[.i x] w fun e w'=>e=.returned (.i (Dp x))∧w'=w:=by
 go_enter Tryz.func158,Tryz.ntmps158
 go_wp2
 all_goals go_ret
 all_goals (refine ⟨congrArg (fun n=>Ending.returned (.i n)) ?_,rfl⟩; unfold Dp; grind)
end Go.Proofs.YtjnjnppongdhgaaGreat
