import Derived.Test.YtgcmimcalmjaaaaGreatDoorA8
namespace Go.Proofs.YtgcmimcalmjaaaaGreatDoor
set_option maxHeartbeats 1000000
set_option linter.unusedVariables false
set_option linter.unusedSimpArgs false
open Go.ChangeShapes Go.WideShapes Go.ChangeAt Go.RowKit
structure Fl (W:World) (D:Nat→Nat→Prop) (v:Value) (mf:Nat) (lf:Nat→Nat) (fr:Nat→Nat→Int) (ns:Nat) (sm:Nat→Int) (nq:Nat) (rd:Nat→Int):Prop where
 ex:∃ u5 u6 u7,v=.agg #[u5,u6,u7]∧Co W (D 4) u5 mf lf fr∧By W (D 5) u6 ns sm∧By W (D 6) u7 nq rd
def Xb (D:Nat→Nat→Prop):Prop:=∀ i j b,D i b→D j b→i=j
theorem Jdh (w:World) (u5:Value) (mf:Nat) (ra:Nat→Option Addr) (lf rc:Nat→Nat) (fr:Nat→Nat→Int) (a6:Option Addr) (ns c6:Nat) (a7:Option Addr) (nq c7:Nat) (left:Int) (H:Ed w u5 mf ra lf rc fr) (h6:ns≤9223372036854775807) (h7:nq≤9223372036854775807) (h0:0≤left) (h2:left≤1048576) :
  Calls Tryz.prog 15 #[.agg #[u5,.slice a6 ns c6,.slice a7 nq c7],.i left] w fun e w'=>e=.returned (.i (Db left (mf+psum lf mf+ns+nq)))∧Below w.heap.size w w':=by
 have L0:Below w.heap.size w (w.alloc (.cells #[u5,.slice a6 ns c6,.slice a7 nq c7] 37)):=(Below.refl _ _).alloc (Nat.le_refl _) _;have H0:=H.below L0;have B0:=Al w #[u5,.slice a6 ns c6,.slice a7 nq c7] 37
 obtain ⟨s1,hs1⟩:∃ s,Hid (s=mf+psum lf mf):=⟨_,rfl⟩
 have HZ:=Ad (fun W h=>Pg W u5 mf ra lf rc fr h left h0 h2);rw [← hs1.out] at HZ ⊢;obtain ⟨a5,c5,e5,-⟩:=H.outer;subst e5;clear hs1 H
 by_cases g1:left<s1
 ·have HS:=Ad (B4 g1)
  have HT:Hid (Db left (s1+ns+nq)=-1):=B4 (by omega);rw [HT.out];rw [HS.out] at HZ
  go_enter Tryz.func15,Tryz.ntmps15
  go_wp2_with fail;generalize w.alloc (.cells #[.slice a5 mf c5,.slice a6 ns c6,.slice a7 nq c7] 37)=W0 at *;refine (HZ.out _ H0).mono ?_;rintro e W1 ⟨rfl,hw1⟩
  have L1:Below W0.heap.size W0 W1:=by rw [hw1]; exact Below.refl _ _
  clear hw1;have C1:=Ae L0 L1;clear H0 L0 L1;go_wp2;go_ret;exact ⟨rfl,C1⟩
 have HS:=Ad (Cl (show (s1:Int)≤left by omega));rw [HS.out] at HZ
 by_cases g2:left-s1<ns
 ·have HT:Hid (Db left (s1+ns+nq)=-1):=B4 (by omega)
  rw [HT.out]
  go_enter Tryz.func15,Tryz.ntmps15
  go_wp2_with fail;generalize w.alloc (.cells #[.slice a5 mf c5,.slice a6 ns c6,.slice a7 nq c7] 37)=W0 at *;refine (HZ.out _ H0).mono ?_;rintro e W1 ⟨rfl,hw1⟩
  have L1:Below W0.heap.size W0 W1:=by rw [hw1]; exact Below.refl _ _
  clear hw1;have C1:=Ae L0 L1;replace B0:=Aa B0 L1 (Ac B0);clear H0 L0 L1;have c1:=Ag B0;go_wp2_with fail;have HU:=Ad (B4 g2);refine (El _ _ _ _ _ (by omega) (by omega) (by omega)).mono ?_;rintro e w2 ⟨rfl,rfl⟩;rw [HU.out];go_wp2;go_ret;exact ⟨rfl,C1⟩
 have HU:=Ad (Cl (show (ns:Int)≤left-s1 by omega))
 by_cases g3:left-s1-ns<nq
 ·have HT:Hid (Db left (s1+ns+nq)=-1):=B4 (by omega)
  rw [HT.out]
  go_enter Tryz.func15,Tryz.ntmps15
  go_wp2_with fail;generalize w.alloc (.cells #[.slice a5 mf c5,.slice a6 ns c6,.slice a7 nq c7] 37)=W0 at *;refine (HZ.out _ H0).mono ?_;rintro e W1 ⟨rfl,hw1⟩
  have L1:Below W0.heap.size W0 W1:=by rw [hw1]; exact Below.refl _ _
  clear hw1;have C1:=Ae L0 L1;replace B0:=Aa B0 L1 (Ac B0);clear H0 L0 L1;have c1:=Ag B0;go_wp2_with fail;refine (El _ _ _ _ _ (by omega) (by omega) (by omega)).mono ?_;rintro e w2 ⟨rfl,rfl⟩;rw [HU.out];go_wp2_with fail;have HV:=Ad (B4 g3);refine (El _ _ _ _ _ (by omega) (by omega) (by omega)).mono ?_;rintro e w3 ⟨rfl,rfl⟩;rw [HV.out];go_wp2;go_ret;exact ⟨rfl,C1⟩
 ·have HT:Hid (Db left (s1+ns+nq)=left-s1-ns-nq):=by show _=_; rw [Cl (by omega)]; omega
  have HV:=Ad (Cl (show (nq:Int)≤left-s1-ns by omega));rw [HT.out]
  go_enter Tryz.func15,Tryz.ntmps15
  go_wp2_with fail;generalize w.alloc (.cells #[.slice a5 mf c5,.slice a6 ns c6,.slice a7 nq c7] 37)=W0 at *;refine (HZ.out _ H0).mono ?_;rintro e W1 ⟨rfl,hw1⟩
  have L1:Below W0.heap.size W0 W1:=by rw [hw1]; exact Below.refl _ _
  clear hw1;have C1:=Ae L0 L1;replace B0:=Aa B0 L1 (Ac B0);clear H0 L0 L1;have c1:=Ag B0;go_wp2_with fail;refine (El _ _ _ _ _ (by omega) (by omega) (by omega)).mono ?_;rintro e w2 ⟨rfl,rfl⟩;rw [HU.out];go_wp2_with fail;refine (El _ _ _ _ _ (by omega) (by omega) (by omega)).mono ?_;rintro e w3 ⟨rfl,rfl⟩;rw [HV.out];go_wp2;go_ret;exact ⟨rfl,C1⟩
theorem Jbe (w:World) (D E:Nat→Nat→Prop) (v u:Value) (mf:Nat) (lf:Nat→Nat) (fr:Nat→Nat→Int) (ns:Nat) (sm:Nat→Int) (nq:Nat) (rd:Nat→Int) (H:Fl w D v mf lf fr ns sm nq rd) (K:Fl w E u mf lf fr ns sm nq rd) :
  Calls Tryz.prog 37 #[v,u] w fun e w'=>e=.returned (.bool true)∧Below w.heap.size w w':=by
 obtain ⟨u5,u6,u7,rfl,h5,h6,h7⟩:=H;obtain ⟨v5,v6,v7,rfl,k5,k6,k7⟩:=K;have L0:Below w.heap.size w ((w.alloc (.cells #[u5,u6,u7] 47)).alloc (.cells #[v5,v6,v7] 47)):=((Below.refl _ _).alloc (Nat.le_refl _) _).alloc (by simp) _;have B0:((w.alloc (.cells #[u5,u6,u7] 47)).alloc (.cells #[v5,v6,v7] 47)).heap[w.heap.size]?=some (.cells #[u5,u6,u7] 47 (0,0)):=Ax (Al w #[u5,u6,u7] 47) _
 have B1:((w.alloc (.cells #[u5,u6,u7] 47)).alloc (.cells #[v5,v6,v7] 47)).heap[w.heap.size+1]?=some (.cells #[v5,v6,v7] 47 (0,0)):=by simpa using Al (w.alloc (.cells #[u5,u6,u7] 47)) #[v5,v6,v7] 47
 replace h5:=h5.below L0;replace h6:=h6.below L0;replace h7:=h7.below L0;replace k5:=k5.below L0;replace k6:=k6.below L0;replace k7:=k7.below L0
 go_enter Tryz.func37,Tryz.ntmps37
 go_wp2_with fail;generalize (w.alloc (.cells #[u5,u6,u7] 47)).alloc (.cells #[v5,v6,v7] 47)=W0 at *;refine (Jck _ _ _ _ _ mf lf fr h5 k5).mono ?_;rintro e W1 ⟨rfl,L⟩;replace L0:=Ae L0 L;replace B0:=Aa B0 L (Ac B0);replace B1:=Aa B1 L (Ac B1);replace h6:=h6.below L;replace h7:=h7.below L;replace k6:=k6.below L;replace k7:=k7.below L;clear h5 k5 L;have c0:=Ag B0;have c1:=Ag B1;go_wp2_with fail;clear c0 c1;refine (Me _ _ _ _ _ ns sm h6 k6).mono ?_;rintro e W2 ⟨rfl,L⟩;replace L0:=Ae L0 L;replace B0:=Aa B0 L (Ac B0);replace B1:=Aa B1 L (Ac B1);replace h7:=h7.below L;replace k7:=k7.below L;clear h6 k6 L;have c0:=Ag B0;have c1:=Ag B1;go_wp2_with fail;clear c0 c1;refine (Me _ _ _ _ _ nq rd h7 k7).mono ?_;rintro e W3 ⟨rfl,L⟩;replace L0:=Ae L0 L;clear h7 k7 L;go_wp2;go_ret
 exact ⟨rfl,L0⟩
theorem Xc (w:World) (D:Nat→Nat→Prop) (v:Value) (mf:Nat) (lf:Nat→Nat) (fr:Nat→Nat→Int) (ns:Nat) (sm:Nat→Int) (nq:Nat) (rd:Nat→Int) (k:Int) (H:Fl w D v mf lf fr ns sm nq rd) (dis:Xb D) (lt:∀ i b,D i b→b<w.heap.size) (k0:0≤k) (k1:k+psum lf mf+ns+nq≤1099511627776) :
  Calls Tryz.prog 42 #[v,.i k] w fun e w'=>e=.returned (.i (k+psum lf mf+ns+nq))∧Fl w' D v mf lf (fun i j=>k+psum lf i+j) ns (fun i=>k+psum lf mf+i) nq (fun i=>k+psum lf mf+ns+i)∧Wrote (fun b _=>D 4 b∨D 5 b∨D 6 b) w w':=by
 obtain ⟨u5,u6,u7,rfl,h5,h6,h7⟩:=H;have L0:Below w.heap.size w (w.alloc (.cells #[u5,u6,u7] 47)):=(Below.refl _ _).alloc (Nat.le_refl _) _;have B0:=Al w #[u5,u6,u7] 47;have WW:=Ab L0 (fun b _=>D 4 b∨D 5 b∨D 6 b);replace h5:=h5.below L0;replace h6:=h6.below L0;replace h7:=h7.below L0
 obtain ⟨s5,hs5⟩:∃ s:Int,Hid (s=(psum lf mf:Nat)):=⟨_,rfl⟩
 have s50:0≤s5:=by rw [hs5.out]; omega
 have M5:=Ad (fun W h=>Y9 W (D 4) u5 mf lf fr k h k0 (by omega));rw [← hs5.out] at k1 M5 ⊢;clear L0 hs5
 go_enter Tryz.func42,Tryz.ntmps42
 go_wp2_with fail;generalize w.alloc (.cells #[u5,u6,u7] 47)=W0 at *;refine (M5.out _ h5).mono ?_;rintro e W1 ⟨rfl,h5,T⟩;replace B0:=Ah B0 T (fun o (h:D 4 _)=>by have:=lt _ _ h; omega);replace WW:=WW.trans (T.mono (fun b o _ h=>Or.inl h));replace h6:=h6.keep T (fun b o hb _ h=>absurd (dis _ _ b hb h) (by decide));replace h7:=h7.keep T (fun b o hb _ h=>absurd (dis _ _ b hb h) (by decide));clear T M5;have c1:=Ag B0;go_wp2_with fail;clear c1;refine (I6 _ (D 5) _ ns sm (k+s5) h6 (by omega) (by omega)).mono ?_;rintro e W2 ⟨rfl,h6,T⟩;replace B0:=Ah B0 T (fun o (h:D 5 _)=>by have:=lt _ _ h; omega);replace WW:=WW.trans (T.mono (fun b o _ h=>Or.inr (Or.inl h)));replace h5:=h5.keep T (fun b o hb _ h=>absurd (dis _ _ b hb h) (by decide));replace h7:=h7.keep T (fun b o hb _ h=>absurd (dis _ _ b hb h) (by decide));clear T
 have c1:=Ag B0;go_wp2_with fail;clear c1;refine (I6 _ (D 6) _ nq rd (k+s5+ns) h7 (by omega) (by omega)).mono ?_;rintro e W3 ⟨rfl,h7,T⟩;replace WW:=WW.trans (T.mono (fun b o _ h=>Or.inr (Or.inr h)));replace h5:=h5.keep T (fun b o hb _ h=>absurd (dis _ _ b hb h) (by decide));replace h6:=h6.keep T (fun b o hb _ h=>absurd (dis _ _ b hb h) (by decide));have HE:=Ad (And.intro h5 (And.intro h6 (And.intro h7 WW)));clear T h5 h6 h7 WW B0;go_wp2;go_ret;exact ⟨rfl,⟨_,_,_,rfl,HE.out.1,HE.out.2.1,HE.out.2.2.1⟩,HE.out.2.2.2⟩
theorem Xd (w:World) (D:Nat→Nat→Prop) (v:Value) (mf:Nat) (lf:Nat→Nat) (ns nq:Nat) (k:Int) (H:Fl w D v mf lf (fun i j=>k+psum lf i+j) ns (fun i=>k+psum lf mf+i) nq (fun i=>k+psum lf mf+ns+i)) (k0:0≤k) (k1:k+psum lf mf+ns+nq≤1099511627776) :
  Calls Tryz.prog 47 #[v,.i k] w fun e w'=>e=.returned (.i (k+psum lf mf+ns+nq))∧Below w.heap.size w w':=by
 obtain ⟨u5,u6,u7,rfl,h5,h6,h7⟩:=H;have L0:Below w.heap.size w (w.alloc (.cells #[u5,u6,u7] 47)):=(Below.refl _ _).alloc (Nat.le_refl _) _;have B0:=Al w #[u5,u6,u7] 47;replace h5:=h5.below L0;replace h6:=h6.below L0;replace h7:=h7.below L0;have M5:=Ad (fun W h=>Za W (D 4) u5 mf lf k h k0 (by omega));have M6:=Ad (fun W h=>I7 W (D 5) u6 ns (k+psum lf mf) h (by omega) (by omega));have M7:=Ad (fun W h=>I7 W (D 6) u7 nq (k+psum lf mf+ns) h (by omega) (by omega));have R5:=Ad h5;have R6:=Ad h6;have R7:=Ad h7
 obtain ⟨s5,hs5⟩:∃ s:Int,Hid (s=(psum lf mf:Nat)):=⟨_,rfl⟩
 have s50:0≤s5:=by rw [hs5.out]; omega
 rw [← hs5.out] at k1 M5 M6 M7 R6 R7 ⊢;clear hs5 h5 h6 h7
 go_enter Tryz.func47,Tryz.ntmps47
 go_wp2_with fail;generalize w.alloc (.cells #[u5,u6,u7] 47)=W0 at *;refine (M5.out _ R5.out).mono ?_;rintro e W1 ⟨rfl,L⟩;replace L0:=Ae L0 L;replace B0:=Aa B0 L (Ac B0);have S6:=Ad (R6.out.below L);have S7:=Ad (R7.out.below L);clear L M5 R5 R6 R7;have c1:=Ag B0;go_wp2_with fail;clear c1;refine (M6.out _ S6.out).mono ?_;rintro e W2 ⟨rfl,L⟩;replace L0:=Ae L0 L;replace B0:=Aa B0 L (Ac B0);have T7:=Ad (S7.out.below L);clear L M6 S6 S7;have c1:=Ag B0;go_wp2_with fail;clear c1;refine (M7.out _ T7.out).mono ?_;rintro e W3 ⟨rfl,L⟩;replace L0:=Ae L0 L;clear L M7 T7;go_wp2;go_ret;exact ⟨rfl,L0⟩
theorem Jbf (w:World) (F G I:Nat→Nat→Prop) (u5 u6 u7:Value) (mf:Nat) (lf:Nat→Nat) (fr:Nat→Nat→Int) (ns:Nat) (sm:Nat→Int) (nq:Nat) (rd:Nat→Int) (H5:Ba .i64 w F u5 mf lf fr) (H6:Ints .i64 w G u6 ns sm) (H7:Ints .i64 w I u7 nq rd) (hm:mf+psum lf mf≤1048576) :
  Calls Tryz.prog 26 #[.agg #[u5,u6,u7]] w fun e w'=>∃ v,e=.returned v∧(∃ D,Fl w' D v mf lf fr ns sm nq rd∧Xb D∧∀ i b,D i b→w.heap.size≤b∧b<w'.heap.size)∧Below w.heap.size w w':=by
 obtain ⟨a5,c5,rfl,-⟩:=id H5;obtain ⟨a6,c6,rfl,-⟩:=id H6;obtain ⟨a7,c7,rfl,-⟩:=id H7;have L0:Below w.heap.size w (((w.alloc (.cells #[.slice a5 mf c5,.slice a6 ns c6,.slice a7 nq c7] 37)).alloc (.cells oZ 47)).alloc (.cells oZ 47)):=(((Below.refl _ _).alloc (Nat.le_refl _) _).alloc (by simp) _).alloc (by simp; omega) _;have B0:(((w.alloc (.cells #[.slice a5 mf c5,.slice a6 ns c6,.slice a7 nq c7] 37)).alloc (.cells oZ 47)).alloc (.cells oZ 47)).heap[w.heap.size]?=some (.cells #[.slice a5 mf c5,.slice a6 ns c6,.slice a7 nq c7] 37 (0,0)):=Ax (Ax (Al w _ _) _) _
 have B1:(((w.alloc (.cells #[.slice a5 mf c5,.slice a6 ns c6,.slice a7 nq c7] 37)).alloc (.cells oZ 47)).alloc (.cells oZ 47)).heap[w.heap.size+1]?=some (.cells oZ 47 (0,0)):=by simpa using Ax (Al (w.alloc (.cells #[.slice a5 mf c5,.slice a6 ns c6,.slice a7 nq c7] 37)) oZ 47) (.cells oZ 47)
 have B2:(((w.alloc (.cells #[.slice a5 mf c5,.slice a6 ns c6,.slice a7 nq c7] 37)).alloc (.cells oZ 47)).alloc (.cells oZ 47)).heap[w.heap.size+1+1]?=some (.cells oZ 47 (0,0)):=by simpa using Al ((w.alloc (.cells #[.slice a5 mf c5,.slice a6 ns c6,.slice a7 nq c7] 37)).alloc (.cells oZ 47)) oZ 47
 go_enter Tryz.func26,Tryz.ntmps26
 go_wp2_with fail;generalize ((w.alloc (.cells #[.slice a5 mf c5,.slice a6 ns c6,.slice a7 nq c7] 37)).alloc (.cells oZ 47)).alloc (.cells oZ 47)=W0 at *;refine (Jcl _ F _ mf lf fr (H5.keep (Ab L0 Aj) (fun _ _ _ x=>x)) hm).mono ?_;rintro e W1 ⟨v5,rfl,h5,L⟩;have z2:=Ac B2
 obtain ⟨p0,hp0⟩:∃ p,Hid (p=W0.heap.size):=⟨_,rfl⟩
 obtain ⟨p1,hp1⟩:∃ p,Hid (p=W1.heap.size):=⟨_,rfl⟩
 have l01:p0≤p1:=by rw [hp0.out,hp1.out]; exact L.size
 have l0:w.heap.size+1+1<p0:=by rw [hp0.out]; exact z2
 rw [← hp0.out,← hp1.out] at h5;replace L0:=Ae L0 L;replace B0:=Aa B0 L (Ac B0);replace B1:=Aa B1 L (Ac B1);replace B2:=Aa B2 L (Ac B2);clear L z2 hp0;obtain ⟨x5,y5,rfl⟩:=h5.form;have c0:=Ag B0;have c2:=Ag B2;have f2:=As B2;go_wp2_with fail;clear c0 c2 f2;replace B0:=Bc (o:=0) (x:=.slice x5 mf y5) B0 (show w.heap.size≠w.heap.size+1+1 by omega);replace B1:=Bc (o:=0) (x:=.slice x5 mf y5) B1 (show w.heap.size+1≠w.heap.size+1+1 by omega);replace B2:=Af (o:=0) B2 (.slice x5 mf y5);replace L0:=L0.setCell (p:=⟨w.heap.size+1+1,0,none⟩) (by show w.heap.size≤w.heap.size+1+1; omega) (.slice x5 mf y5)
 replace h5:=h5.keep (Wrote.setCell (b:=w.heap.size+1+1) (o:=0) (R:=fun b _=>b=w.heap.size+1+1) (Wrote.refl _ W1) (fun _=>rfl) (.slice x5 mf y5)) (fun b o hb _ h=>by obtain ⟨h1,h2⟩:=hb; omega)
 replace hp1:Hid (p1=(W1.setCell ⟨w.heap.size+1+1,0,none⟩ (.slice x5 mf y5)).heap.size):=by show _=_; rw [hp1.out]; simp
 generalize W1.setCell ⟨w.heap.size+1+1,0,none⟩ (.slice x5 mf y5)=W2 at *;refine (Mi _ G _ ns sm (H6.keep (Ab L0 Aj) (fun _ _ _ x=>x))).mono ?_;rintro e W3 ⟨v6,rfl,h6,L⟩
 obtain ⟨p2,hp2⟩:∃ p,Hid (p=W3.heap.size):=⟨_,rfl⟩
 have l12:p1≤p2:=by rw [hp1.out,hp2.out]; exact L.size
 rw [← hp1.out,← hp2.out] at h6;replace L0:=Ae L0 L;replace B0:=Aa B0 L (Ac B0);replace B1:=Aa B1 L (Ac B1);replace B2:=Aa B2 L (Ac B2);replace h5:=h5.below L;clear L hp1;obtain ⟨x6,y6,rfl⟩:=h6.two;simp only [List.setIfInBounds_toArray,List.set_cons_succ,List.set_cons_zero] at B2;have c0:=Ag B0;have c2:=Ag B2;have f2:=As B2;go_wp2_with fail;clear c0 c2 f2;replace B0:=Bc (o:=1) (x:=.slice x6 ns y6) B0 (show w.heap.size≠w.heap.size+1+1 by omega);replace B1:=Bc (o:=1) (x:=.slice x6 ns y6) B1 (show w.heap.size+1≠w.heap.size+1+1 by omega);replace B2:=Af (o:=1) B2 (.slice x6 ns y6);replace L0:=L0.setCell (p:=⟨w.heap.size+1+1,1,none⟩) (by show w.heap.size≤w.heap.size+1+1; omega) (.slice x6 ns y6)
 have TT:=Wrote.setCell (b:=w.heap.size+1+1) (o:=1) (R:=fun b _=>b=w.heap.size+1+1) (Wrote.refl _ W3) (fun _=>rfl) (.slice x6 ns y6);replace h5:=h5.keep TT (fun b o hb _ h=>by obtain ⟨h1,h2⟩:=hb; omega);replace h6:=h6.keep TT (fun b o hb _ h=>by obtain ⟨h1,h2⟩:=hb; omega);clear TT
 replace hp2:Hid (p2=(W3.setCell ⟨w.heap.size+1+1,1,none⟩ (.slice x6 ns y6)).heap.size):=by show _=_; rw [hp2.out]; simp
 generalize W3.setCell ⟨w.heap.size+1+1,1,none⟩ (.slice x6 ns y6)=W4 at *;refine (Mi _ I _ nq rd (H7.keep (Ab L0 Aj) (fun _ _ _ x=>x))).mono ?_;rintro e W5 ⟨v7,rfl,h7,L⟩
 obtain ⟨p3,hp3⟩:∃ p,Hid (p=W5.heap.size):=⟨_,rfl⟩
 have l23:p2≤p3:=by rw [hp2.out,hp3.out]; exact L.size
 rw [← hp2.out,← hp3.out] at h7;replace L0:=Ae L0 L;replace B1:=Aa B1 L (Ac B1);replace B2:=Aa B2 L (Ac B2);replace h5:=h5.below L;replace h6:=h6.below L;clear L hp2 B0;obtain ⟨x7,y7,rfl⟩:=h7.two;simp only [List.setIfInBounds_toArray,List.set_cons_succ,List.set_cons_zero] at B2;have c1:=Ag B1;have c2:=Ag B2;have f1:=As B1;have f2:=As B2;have HR:=Ad (And.intro h5 (And.intro h6 h7));clear h5 h6 h7 B1 B2 H5 H6 H7;go_wp2;refine bodyPost_ret (v:=.agg #[.slice x5 mf y5,.slice x6 ns y6,.slice x7 nq y7]) (by simp [results,Tryz.results26,go_sem,c1]) rfl ?_
 have key:∀ W6,Wrote (fun b _=>b=w.heap.size+1∨b=w.heap.size+1+1) W5 W6→(∃ D,Fl W6 D (.agg #[.slice x5 mf y5,.slice x6 ns y6,.slice x7 nq y7]) mf lf fr ns sm nq rd∧Xb D∧∀ i b,D i b→w.heap.size≤b∧b<W6.heap.size)∧Below w.heap.size w W6:=fun W6 WW =>
  ⟨⟨fun i b=>(i=4∧p0≤b∧b<p1)∨(i=5∧p1≤b∧b<p2)∨(i=6∧p2≤b∧b<p3),
   ⟨_,_,_,rfl,(HR.out.1.keep WW (fun b o hb _ h=>by obtain ⟨h1,h2⟩:=hb; omega)).mono (fun b _ h=>Or.inl ⟨rfl,h⟩),(HR.out.2.1.keep WW (fun b o hb _ h=>by obtain ⟨h1,h2⟩:=hb; omega)).mono (fun b _ h=>Or.inr (Or.inl ⟨rfl,h⟩)),(HR.out.2.2.keep WW (fun b o hb _ h=>by obtain ⟨h1,h2⟩:=hb; omega)).mono (fun b _ h=>Or.inr (Or.inr ⟨rfl,h⟩))⟩,
   fun i j b h1 h2=>by rcases h1 with ⟨rfl,_,_⟩ | ⟨rfl,_,_⟩ | ⟨rfl,_,_⟩ <;> rcases h2 with ⟨rfl,_,_⟩ | ⟨rfl,_,_⟩ | ⟨rfl,_,_⟩ <;> first | rfl | omega,
   fun i b h=>by have:=WW.size; have:=hp3.out; rcases h with ⟨rfl,_,_⟩ | ⟨rfl,_,_⟩ | ⟨rfl,_,_⟩ <;> omega⟩,L0.trans (WW.below L0.size (fun b o hb h=>by omega))⟩
 refine ⟨_,rfl,key _ ?_⟩
 iterate 4 (refine Wrote.setCell ?_ (fun _=>by omega) _)
 exact Wrote.refl _ _
end Go.Proofs.YtgcmimcalmjaaaaGreatDoor
