import Derived.Test.YtijljlnooibbmaaGreatDoorGT
namespace Go.Proofs.YtijljlnooibbmaaGreatDoor
set_option maxHeartbeats 2000000
set_option maxRecDepth 20000
open Go.Proofs.Tryz
set_option linter.unusedVariables false
open Go.ChangeShapes Go.WideShapes Go.ChangeAt Go.RowKit
theorem Step.box {c b:Nat} {w w':World} {o:Obj} (h:Step c w w') (hb:w.heap[b]?=some o) (hc:b≠c):w'.heap[b]?=some o:=by
 have hlt:b<w.heap.size:=by
  rcases Nat.lt_or_ge b w.heap.size with h' | h'
  .exact h'
  .simp [Array.getElem?_eq_none h'] at hb
 exact (h.block b hlt hc).trans hb
theorem Wu {w:World} {b:Nat} {o:Obj} (hb:w.heap[b]?=some o):b<w.heap.size:=by
 rcases Nat.lt_or_ge b w.heap.size with h' | h'
 .exact h'
 .simp [Array.getElem?_eq_none h'] at hb
theorem Hp {w:World} {b:Nat} {o:Obj} (hb:w.heap[b]?=some o) (x:Obj):(w.alloc x).heap[b]?=some o:=Ab hb ((Below.refl w.heap.size w).alloc (Nat.le_refl _) x) (Wu hb)
theorem Jx {w:World} {b:Nat} {cs:Array Value} {t:TypeId} (h:w.heap[b]?=some (.cells cs t (0,0))):∀ i,w.frozen? ⟨b,i,none⟩=false:=fun i=>Lib.frozen_of_heap h i
theorem Step.only {c d:Nat} {u w w':World} (S:Step c u w) (O:Bd d w w') (hd:u.heap.size<=d):Step c u w' :=
 ⟨O.os.trans S.os,O.tape.trans S.tape,O.output.trans S.output,Nat.le_trans S.size (Nat.le_of_eq O.size.symm),fun k hk hc=>(O.block k (by omega)).trans (S.block k hk hc)⟩
def pickS (j:Nat):Int:=[0,1,2,255,254,128].getD j 0
def pickP (j:Nat):Int:=[0,49152,49200,65535,65534,32768,8192,511].getD j 0
theorem Ui (w:World) (B c:Nat) (a:Option Addr) (len cap:Nat) (H:Ep w B c a len cap) (hcw:c<w.heap.size) :
  Calls prog 81 #[(pt c 0)] w fun e w'=>(∃ (A X S Pc:Int) (Z N C I:Bool),e=.returned (.agg (cR A X S Pc Z N C I)))/\Ep w' B c a len cap/\Step c w w':=by
 have b0:=Ak w cZ 31;have S0:=(Step.refl c w).alloc (.cells cZ 31);have H0:=H.alloc (.cells cZ 31) hcw
 have hbc:w.heap.size≠c:=by omega
 go_enter func81,ntmps81
 go_wp2_with fail;refine (Dk _ B c a len cap H0 256).mono ?_;rintro e w1 ⟨x1,rfl,p1,p2,H1,O1⟩;have S1:=S0.trans O1.step;have b1:=O1.step.box b0 hbc;clear O1 b0 H0 S0;go_wp2_with fail;refine (Dk _ B c a len cap H1 256).mono ?_;rintro e w2 ⟨x2,rfl,p3,p4,H2,O2⟩;have S2:=S1.trans O2.step;have b2:=O2.step.box b1 hbc;clear O2 b1 H1 S1;have hs2:c<w2.heap.size:=Nat.lt_of_lt_of_le hcw S2.size;go_wp2_with fail;refine (Ho _ B c a len cap (H2.alloc _ hs2) w2.heap.size 6 (by omega) (by omega) (by omega) pickS ?_).mono ?_
 .intro j hj
  rw [World.cell?_alloc_new]
  rcases j with _ | _ | _ | _ | _ | _ | j <;> first | rfl | omega
 rintro e w3 ⟨j3,rfl,hj3,H3,O3⟩;have b2':=Hp b2 (.cells #[.i 0,.i 1,.i 2,.i 255,.i 254,.i 128] 3);have S3:=(S2.alloc _).trans O3.step;have b3:=O3.step.box b2' hbc;clear O3 b2 b2' H2 S2 hs2;have hs3:c<w3.heap.size:=Nat.lt_of_lt_of_le hcw S3.size;generalize pickS j3=x3 at *;go_wp2_with fail;refine (Ho _ B c a len cap (H3.alloc _ hs3) w3.heap.size 8 (by omega) (by omega) (by omega) pickP ?_).mono ?_
 .intro j hj
  rw [World.cell?_alloc_new]
  rcases j with _ | _ | _ | _ | _ | _ | _ | _ | j <;> first | rfl | omega
 rintro e w4 ⟨j4,rfl,hj4,H4,O4⟩;have b3':=Hp b3 (.cells #[.i 0,.i 49152,.i 49200,.i 65535,.i 65534,.i 32768,.i 8192,.i 511] 3);have S4:=(S3.alloc _).trans O4.step;have b4:=O4.step.box b3' hbc;clear O4 b3 b3' H3 S3 hs3;generalize pickP j4=x4 at *;go_wp2_with fail;refine (Dk _ B c a len cap H4 256).mono ?_;rintro e w5 ⟨x5,rfl,p5,p6,H5,O5⟩;have S5:=S4.trans O5.step;have b5:=O5.step.box b4 hbc;clear O5 b4 H4 S4;have hs5:c<w5.heap.size:=Nat.lt_of_lt_of_le hcw S5.size;go_wp2_with fail;refine (Jw _ _ _ _ _ _ _ _ _ _).mono ?_;rintro e w6 ⟨rfl,L6⟩;have S6:=S5.trans (Ez (c:=c) L6 (Nat.le_refl _));have b6:=Ab b5 L6 (Wu b5);have H6:=H5.below L6 hs5;clear L6 b5 H5 S5;obtain ⟨q0,q1,q2,q3,q4,q5,q6,q7⟩:=Gg b6;have fz:=Jx b6;have hBw:B<=w.heap.size:=Nat.le_trans H.up (Nat.le_of_lt hcw);go_wp2
 have O7:∀ (w:World) (d:Nat) (v0 v1 v2 v3 v4 v5 v6 v7:Value),Bd d w ((((((((w.sc d 0 v0).sc d 1 v1).sc d 2 v2).sc d 3 v3).sc d 4 v4).sc d 5 v5).sc d 6 v6).sc d 7 v7):=fun w d _ _ _ _ _ _ _ _=>((((((((Bd.refl d w).setCell _).setCell _).setCell _).setCell _).setCell _).setCell _).setCell _).setCell _
 refine bodyPost_ret (v:=.agg (cR x1 x2 x3 x4 (hasB x5 2) (hasB x5 128) (hasB x5 1) (hasB x5 4))) (by simp [results,results81,go_sem,q0,q1,q2,q3,q4,q5,q6,q7]) rfl ?_;exact ⟨⟨_,_,_,_,_,_,_,_,rfl⟩,H6.only (O7 _ _ _ _ _ _ _ _ _ _) hbc hBw,S6.only (O7 _ _ _ _ _ _ _ _ _ _) (Nat.le_refl _)⟩
theorem Jy (w:World) (d:Nat) (v0 v1 v2 v3 v4 v5 v6 v7:Value):Bd d w ((((((((w.setCell ⟨d,0,none⟩ v0).setCell ⟨d,1,none⟩ v1).setCell ⟨d,2,none⟩ v2).setCell ⟨d,3,none⟩ v3).setCell ⟨d,4,none⟩ v4).setCell ⟨d,5,none⟩ v5).setCell ⟨d,6,none⟩ v6).setCell ⟨d,7,none⟩ v7) :=
 ((((((((Bd.refl d w).setCell _).setCell _).setCell _).setCell _).setCell _).setCell _).setCell _).setCell _
def pickM (j:Nat):Int:=[-1,65536].getD j 0
theorem Jfp (w:World) (B c:Nat) (a:Option Addr) (len cap:Nat) (H:Ep w B c a len cap) (hcw:c<w.heap.size) :
  Calls prog 44 #[(pt c 0)] w fun e w'=>(∃ (A X S Pc:Int) (Z N C I:Bool),e=.returned (.agg (cR A X S Pc Z N C I)))/\Ep w' B c a len cap/\Step c w w':=by
 have r0:=Ak w cZ 31;have S0:=(Step.refl c w).alloc (.cells cZ 31);have H0:=H.alloc (.cells cZ 31) hcw
 have hbc:w.heap.size≠c:=by omega
 have hBw:B<=w.heap.size:=Nat.le_trans H.up (Nat.le_of_lt hcw)
 go_enter func44,ntmps44
 go_wp2_with fail;refine (Ui _ B c a len cap H0 (by simp; omega)).mono ?_;rintro e w1 ⟨⟨A,X,S,Pc,Z,N,C,I,rfl⟩,H1,T1⟩;have S1:=S0.trans T1;have r1:=T1.box r0 hbc;have hs1:c<w1.heap.size:=Nat.lt_of_lt_of_le hcw S1.size;have hwd:w.heap.size<=w1.heap.size:=S1.size
 have hdc:w1.heap.size≠c:=by omega
 have hrd:w.heap.size≠w1.heap.size:=Nat.ne_of_lt (Wu r1)
 have hBd:B<=w1.heap.size:=by omega
 have x2:=Ak w1 (cR A X S Pc Z N C I) 31;have r2:=Hp r1 (.cells (cR A X S Pc Z N C I) 31);have S2:=S1.alloc (.cells (cR A X S Pc Z N C I) 31);have H2:=H1.alloc (.cells (cR A X S Pc Z N C I) 31) hs1;clear T1 r0 r1 S0 S1 H0 H1;go_wp2_with fail;refine (Dk _ B c a len cap H2 25).mono ?_;rintro e w3 ⟨y,rfl,y0,y1,H3,O3⟩;have S3:=S2.trans O3.step;have r3:=O3.step.box r2 hbc;have x3:=O3.step.box x2 hdc;have hs3:c<w3.heap.size:=Nat.lt_of_lt_of_le hcw S3.size;clear O3 r2 x2 S2 H2
 by_cases hy0:y=0
 .have hy:=hy0
  subst hy;go_wp2_with fail;refine (Mc _ B c a len cap H3 hs3).mono ?_;rintro e w4 ⟨v,rfl,v0,v1,H4,T4⟩;have S4:=S3.trans T4;have r4:=T4.box r3 hbc;have x4:=T4.box x3 hdc;clear r3 x3 H3 S3;obtain ⟨q0,q1,q2,q3,q4,q5,q6,q7⟩:=Gg r4;obtain ⟨u0,u1,u2,u3,u4,u5,u6,u7⟩:=Gg x4;have fr:=Jx r4;have fx:=Jx x4;go_wp2;refine bodyPost_ret (v:=.agg (cR v X S Pc Z N C I)) (by simp [results,results44,go_sem,q0,q1,q2,q3,q4,q5,q6,q7]) rfl ?_;exact ⟨⟨_,_,_,_,_,_,_,_,rfl⟩,(H4.only ((Bd.refl _ _).setCell _) hdc hBd).only (Jy _ _ _ _ _ _ _ _ _ _) hbc hBw,(S4.only ((Bd.refl _ _).setCell _) hwd).only (Jy _ _ _ _ _ _ _ _ _ _) (Nat.le_refl _)⟩
 by_cases hy1:y=1
 .have hy:=hy1
  subst hy;go_wp2_with fail;refine (Mc _ B c a len cap H3 hs3).mono ?_;rintro e w4 ⟨v,rfl,v0,v1,H4,T4⟩;have S4:=S3.trans T4;have r4:=T4.box r3 hbc;have x4:=T4.box x3 hdc;clear r3 x3 H3 S3;obtain ⟨q0,q1,q2,q3,q4,q5,q6,q7⟩:=Gg r4;obtain ⟨u0,u1,u2,u3,u4,u5,u6,u7⟩:=Gg x4;have fr:=Jx r4;have fx:=Jx x4;go_wp2;refine bodyPost_ret (v:=.agg (cR A v S Pc Z N C I)) (by simp [results,results44,go_sem,q0,q1,q2,q3,q4,q5,q6,q7]) rfl ?_;exact ⟨⟨_,_,_,_,_,_,_,_,rfl⟩,(H4.only ((Bd.refl _ _).setCell _) hdc hBd).only (Jy _ _ _ _ _ _ _ _ _ _) hbc hBw,(S4.only ((Bd.refl _ _).setCell _) hwd).only (Jy _ _ _ _ _ _ _ _ _ _) (Nat.le_refl _)⟩
 by_cases hy2:y=2
 .have hy:=hy2
  subst hy;go_wp2_with fail;refine (Mc _ B c a len cap H3 hs3).mono ?_;rintro e w4 ⟨v,rfl,v0,v1,H4,T4⟩;have S4:=S3.trans T4;have r4:=T4.box r3 hbc;have x4:=T4.box x3 hdc;clear r3 x3 H3 S3;obtain ⟨q0,q1,q2,q3,q4,q5,q6,q7⟩:=Gg r4;obtain ⟨u0,u1,u2,u3,u4,u5,u6,u7⟩:=Gg x4;have fr:=Jx r4;have fx:=Jx x4;go_wp2;refine bodyPost_ret (v:=.agg (cR A X v Pc Z N C I)) (by simp [results,results44,go_sem,q0,q1,q2,q3,q4,q5,q6,q7]) rfl ?_;exact ⟨⟨_,_,_,_,_,_,_,_,rfl⟩,(H4.only ((Bd.refl _ _).setCell _) hdc hBd).only (Jy _ _ _ _ _ _ _ _ _ _) hbc hBw,(S4.only ((Bd.refl _ _).setCell _) hwd).only (Jy _ _ _ _ _ _ _ _ _ _) (Nat.le_refl _)⟩
 by_cases hy3:y=3
 .have hy:=hy3
  subst hy;go_wp2_with fail;refine (Ho _ B c a len cap (H3.alloc _ hs3) w3.heap.size 2 (by omega) (by omega) (by omega) pickM ?_).mono ?_
  .intro j hj
   rw [World.cell?_alloc_new]
   rcases j with _ | _ | j <;> first | rfl | omega
  rintro e w4 ⟨j4,rfl,hj4,H4,O4⟩;have S4:=(S3.alloc _).trans O4.step;have r4:=O4.step.box (Hp r3 (.cells #[.i (-1),.i 65536] 3)) hbc;have x4:=O4.step.box (Hp x3 (.cells #[.i (-1),.i 65536] 3)) hdc;generalize pickM j4=v at *;clear r3 x3 H3 S3;obtain ⟨q0,q1,q2,q3,q4,q5,q6,q7⟩:=Gg r4;obtain ⟨u0,u1,u2,u3,u4,u5,u6,u7⟩:=Gg x4;have fr:=Jx r4;have fx:=Jx x4;go_wp2;refine bodyPost_ret (v:=.agg (cR A X S v Z N C I)) (by simp [results,results44,go_sem,q0,q1,q2,q3,q4,q5,q6,q7]) rfl ?_;exact ⟨⟨_,_,_,_,_,_,_,_,rfl⟩,(H4.only ((Bd.refl _ _).setCell _) hdc hBd).only (Jy _ _ _ _ _ _ _ _ _ _) hbc hBw,(S4.only ((Bd.refl _ _).setCell _) hwd).only (Jy _ _ _ _ _ _ _ _ _ _) (Nat.le_refl _)⟩
 .have e0:(y==0)=false:=by simpa using hy0
  have e1:(y==1)=false:=by simpa using hy1
  have e2:(y==2)=false:=by simpa using hy2
  have e3:(y==3)=false:=by simpa using hy3
  clear hy0 hy1 hy2 hy3;obtain ⟨q0,q1,q2,q3,q4,q5,q6,q7⟩:=Gg r3;obtain ⟨u0,u1,u2,u3,u4,u5,u6,u7⟩:=Gg x3;have fr:=Jx r3;go_wp2;refine bodyPost_ret (v:=.agg (cR A X S Pc Z N C I)) (by simp [results,results44,go_sem,q0,q1,q2,q3,q4,q5,q6,q7]) rfl ?_;exact ⟨⟨_,_,_,_,_,_,_,_,rfl⟩,H3.only (Jy _ _ _ _ _ _ _ _ _ _) hbc hBw,S3.only (Jy _ _ _ _ _ _ _ _ _ _) (Nat.le_refl _)⟩
end Go.Proofs.YtijljlnooibbmaaGreatDoor
