import Derived.Test.YtgcmimcalmjaaaaGreatDoorSD
import Derived.Test.YtgcmimcalmjaaaaGreatDoorSE
namespace Go.Proofs.YtgcmimcalmjaaaaGreatDoor
set_option maxHeartbeats 8000000
set_option maxRecDepth 20000
set_option linter.unusedVariables false
set_option linter.unusedSimpArgs false
open Go.ChangeShapes Go.WideShapes Go.ChangeAt Go.RowKit
theorem Sf (m:Nat) (f:Nat→Value) (y:Value):Cz m f++[y]=Cz (m+1) (fun i=>if i=m then y else f i):=by
 unfold Cz;rw [List.range_succ,List.map_append]
 congr 1
 ·apply List.map_congr_left
  intro i hi;have:=List.mem_range.1 hi
  show f i=(if i=m then y else f i)
  rw [if_neg (by omega)]
 ·simp
theorem SA.push {W W':World} {lo m:Nat} {v:Value} {ob:Nat→Option Nat} {iv ov:Nat→Value} {ln:Nat→Nat} {f:Nat→Nat→Int} {g' c' k:Nat} {o3:Option Nat} {tv:Value} {h:Nat→Int} (H:SA W lo v m m ob iv ov ln f) (hw:Wrote (fun b _=>v.ownBlock=some b) W W')
  (own':W'.ownsRow lo 25 1 (.slice (some ⟨g',0,none⟩) (m+1) c') (m+1) (Cz m (fun i=>if i<m then iv i else ov i)++[tv])) (hat:v.ownBlock=some g'∨W.heap.size≤g') (RN:A5 W lo o3 tv k h) (hN1:∀ b,o3=some b→v.ownBlock≠some b) (hN2:∀ i,i<m→Pz (ob i) o3) (hq:m<1048576) :
  SA W' lo (.slice (some ⟨g',0,none⟩) (m+1) c') (m+1) (m+1) (fun i=>if i=m then o3 else ob i) (fun i=>if i=m then tv else iv i) ov (Ej ln m k) (Iy f m h):=by
 rw [Sf,Hi (g:=fun i=>if i<m+1 then (if i=m then tv else iv i) else ov i) (fun i hi=>?_)] at own'
 ·refine ⟨own',fun i hi=>?_,fun i j hi hj hij=>?_,fun g hg i hi=>?_,by omega⟩
  ·by_cases e:i=m
   ·subst e
    unfold Ej Iy;simp only [if_true];exact RN.keep hw (fun b hb _ _ o x=>hN1 b hb x)
   ·unfold Ej Iy
    simp only [if_neg e];exact (H.rows i (by omega)).keep hw (fun b hb _ _ o x=>H.dj b x i (by omega) hb)
  ·by_cases e:i=m
   ·rw [if_pos e,if_neg (by omega)]
    exact fun q h1 h2=>hN2 j (by omega) q h2 h1
   ·by_cases e':j=m
    ·rw [if_neg e,if_pos e']
     exact hN2 i (by omega)
    ·rw [if_neg e,if_neg e']
     exact H.inj i j (by omega) (by omega) hij
  ·obtain rfl:g'=g:=by simpa [Value.ownBlock] using hg
   by_cases e:i=m
   ·rw [if_pos e]
    intro x
    rcases hat with h | h
    ·exact hN1 _ x h
    ·subst x
     have:=RN.lt
     omega
   ·rw [if_neg e]
    intro x
    rcases hat with h | h
    ·exact H.dj _ h i (by omega) x
    ·have h3:=H.rows i (by omega)
     rw [x] at h3;have:=h3.lt
     omega
 ·show (if i=m then tv else if i<m then iv i else ov i)=(if i<m+1 then (if i=m then tv else iv i) else ov i)
  rw [if_pos hi]
  by_cases e:i=m
  ·rw [if_pos e,if_pos e]
  ·rw [if_neg e,if_neg e,if_pos (by omega)]
theorem Goes.push5 {V W:World} {b5:Value} {lo:Nat} {e:TypeId} {n g' c':Nat} {vs:List Value} (hw:Wrote (spare b5) V W) (R:V.ownsRow lo e 1 b5 n vs) (hat:b5.ownBlock=some g'∨V.heap.size≤g') (z:Nat) (a4 a6 a7:Value):Goes V W z a4 b5 a6 a7 a4 (.slice (some ⟨g',0,none⟩) (n+1) c') a6 a7 :=
 ⟨hw.mono (fun b o _ e=>Or.inr (Or.inr (Or.inl e))),fun b o hb k=>by
  rcases k with k | k | k | k
  ·exact Or.inl k
  ·exact Or.inr (Or.inl k)
  ·exact Or.inr (Or.inr (Or.inl (X6 R hat hb k)))
  ·exact Or.inr (Or.inr (Or.inr k))⟩
theorem Goes.push6 {V W:World} {b6:Value} {lo:Nat} {o6:Option Nat} {n g' c':Nat} {f:Nat→Int} (hw:Wrote (spare b6) V W) (R:A5 V lo o6 b6 n f) (hat:o6=some g'∨V.heap.size≤g') (z:Nat) (a4 a5 a7:Value):Goes V W z a4 a5 b6 a7 a4 a5 (.slice (some ⟨g',0,none⟩) (n+1) c') a7 :=
 ⟨hw.mono (fun b o _ e=>Or.inr (Or.inr (Or.inr (Or.inl e)))),fun b o hb k=>by
  rcases k with k | k | k | k | k
  ·exact Or.inl k
  ·exact Or.inr (Or.inl k)
  ·exact Or.inr (Or.inr (Or.inl k))
  ·exact Or.inr (Or.inr (Or.inr (Or.inl (Je R hat hb k))))
  ·exact Or.inr (Or.inr (Or.inr (Or.inr k)))⟩
def E7 (d:Aq):Aq:={ d with t:=Ga d.t,bl:=Ho d.t d.bl,nd:=tkM d.t d.nd,dt:=Kz d.t d.tb d.s d.pl d.nd d.dt }
def frameT (d:Aq) (k:Nat) (h:Nat→Int):Aq:={ d with mf:=d.mf+1,lf:=Ej d.lf d.mf k,fr:=Iy d.fr d.mf h }
def Il (d:Aq) (x:Int):Aq:={ d with ns:=d.ns+1,sm:=snoc d.sm d.ns x }
section
variable {R:Nat→Nat→Prop} {W W':World} {lo N:Nat} {D:Nat→Nat→Prop} {u0 u1 u2 u3 u4 u5 u6 u7:Value} {ob:Nat→Option Nat} {iv ov:Nat→Value} {o6 o7:Option Nat} {d:Aq}
theorem Bi.ticked (H:Bi W lo N D u0 u1 u2 u3 u4 u5 u6 u7 ob iv ov o6 o7 d) (hN:N=W.heap.size) (hl:lo≤N) {o1 o2 o2' o3:Option Nat} {w4 tv:Value} {k:Nat} {h:Nat→Int} (R1:A5 W' lo o1 u3 d.nt d.tb) (d1:∀ b,o1=some b→D 3 b) (d2:∀ b,o2=some b→D 3 b) (R2:A5 W' lo o2' w4 (tkM d.t d.nd) (Kz d.t d.tb d.s d.pl d.nd d.dt)) (R3:A5 W' lo o3 tv k h)
  (t12:Pz o1 o2') (t13:Pz o1 o3) (t23:Pz o2' o3) (hw:Wrote R W W') (hR:∀ b o,b<W.heap.size→R b o→(∀ i,¬ D i b)∨o2=some b) (hn:∀ q,(o2'=some q∨o3=some q)→o2=some q∨W.heap.size≤q) :
  Bi W' lo W'.heap.size (fun i b=>(i=3∧(o1=some b∨o2'=some b))∨(i=7∧o3=some b)∨(i≠3∧i≠7∧D i b)) u0 u1 u2 u3 w4 u5 u6 u7 ob iv ov o6 o7 (E7 d):=by
 have hsz:=hw.size
 have far:∀ i b o,i≠3→D i b→¬ R b o:=fun i b o hi hb hr=>by
  rcases hR b o (by have:=H.bd i b hb; omega) hr with x | x
  ·exact x i hb
  ·exact hi (H.dis i 3 b hb (d2 b x))
 have key:∀ i b,i≠3→D i b→(o1=some b∨o2'=some b∨o3=some b)→False:=fun i b hi hb h=>by
  have hbd:=H.bd i b hb
  rcases h with h | h
  ·exact hi (H.dis i 3 b hb (d1 b h))
  ·rcases hn b h with x | x
   ·exact hi (H.dis i 3 b hb (d2 b x))
   ·omega
 refine ⟨(H.h0.keep hw (fun b o h _=>far 0 b o (by decide) h)).mono (fun b _ h=>Or.inr (Or.inr ⟨by decide,by decide,h⟩)),(H.h1.keep hw (fun b o h _=>far 1 b o (by decide) h)).mono (fun b _ h=>Or.inr (Or.inr ⟨by decide,by decide,h⟩)),(H.h2.keep hw (fun b o h _=>far 2 b o (by decide) h)).mono (fun b _ h=>Or.inr (Or.inr ⟨by decide,by decide,h⟩)),
  ⟨u3,w4,o1,o2',rfl,R1,R2,t12,fun b h=>Or.inl ⟨rfl,h⟩⟩,H.h5.keep hw (fun g o hg=>far 4 g o (by decide) (H.h5D g (Or.inl hg))) (fun i b o hi hb=>far 4 b o (by decide) (H.h5D b (Or.inr ⟨i,hi,hb⟩))),fun b h=>Or.inr (Or.inr ⟨by decide,by decide,H.h5D b h⟩),H.h6.keep hw (fun b hb _ _ o=>far 5 b o (by decide) (H.h6D b hb)),fun b h=>Or.inr (Or.inr ⟨by decide,by decide,H.h6D b h⟩),H.h7.keep hw (fun b hb _ _ o=>far 6 b o (by decide) (H.h7D b hb)),fun b h=>Or.inr (Or.inr ⟨by decide,by decide,H.h7D b h⟩),?_,?_,Nat.le_refl _,H.hps⟩
 ·intro i j b h1 h2
  rcases h1 with ⟨rfl,h1⟩ | ⟨rfl,h1⟩ | ⟨n1,m1,h1⟩ <;> rcases h2 with ⟨rfl,h2⟩ | ⟨rfl,h2⟩ | ⟨n2,m2,h2⟩
  ·rfl
  ·rcases h1 with h1 | h1
   ·exact (t13 b h1 h2).elim
   ·exact (t23 b h1 h2).elim
  ·exact (key j b n2 h2 (by rcases h1 with h1 | h1; exact Or.inl h1; exact Or.inr (Or.inl h1))).elim
  ·rcases h2 with h2 | h2
   ·exact (t13 b h2 h1).elim
   ·exact (t23 b h2 h1).elim
  ·rfl
  ·exact (key j b n2 h2 (Or.inr (Or.inr h1))).elim
  ·exact (key i b n1 h1 (by rcases h2 with h2 | h2; exact Or.inl h2; exact Or.inr (Or.inl h2))).elim
  ·exact (key i b n1 h1 (Or.inr (Or.inr h2))).elim
  ·exact H.dis _ _ _ h1 h2
 ·intro i b h
  rcases h with ⟨rfl,h | h⟩ | ⟨rfl,h⟩ | ⟨n1,m1,h⟩
  ·subst h; exact R1.lt
  ·subst h; exact R2.lt
  ·subst h; exact R3.lt
  ·have:=H.bd _ _ h; omega
theorem Bi.frame (H:Bi W lo N D u0 u1 u2 u3 u4 u5 u6 u7 ob iv ov o6 o7 d) (hN:N=W.heap.size) {g' c' k:Nat} {o3:Option Nat} {tv:Value} {h:Nat→Int} (hw:Wrote (fun b _=>u5.ownBlock=some b) W W') (own':W'.ownsRow lo 25 1 (.slice (some ⟨g',0,none⟩) (d.mf+1) c') (d.mf+1) (Cz d.mf (fun i=>if i<d.mf then iv i else ov i)++[tv]))
  (hat:u5.ownBlock=some g'∨W.heap.size≤g') (R3:A5 W lo o3 tv k h) (d7:∀ b,o3=some b→D 7 b) (hq:d.mf<1048576) (hp:psum (Ej d.lf d.mf k) (d.mf+1)≤1099511627776) :
  Bi W' lo W'.heap.size (fun i b=>(i=4∧(b=g'∨D 4 b∨D 7 b))∨(i≠4∧i≠7∧D i b)) u0 u1 u2 u3 u4 (.slice (some ⟨g',0,none⟩) (d.mf+1) c') u6 u7 (fun i=>if i=d.mf then o3 else ob i) (fun i=>if i=d.mf then tv else iv i) ov o6 o7 (frameT d k h):=by
 have hsz:=hw.size
 have far:∀ i b (o:Nat),i≠4→D i b→¬ (u5.ownBlock=some b):=fun i b o hi hb e=>hi (H.dis i 4 b hb (H.h5D b (Or.inl e)))
 have key:∀ i,i≠4→D i g'→False:=fun i hi h=>by
  rcases hat with e | h'
  ·exact far i g' 0 hi h e
  ·have:=H.bd _ _ h; omega
 have S:=H.h5.push hw own' hat R3 (fun b hb e=>far 7 b 0 (by decide) (d7 b hb) e) (fun i hi b h1 h2=>by
  have:=H.dis 4 7 b (H.h5D b (Or.inr ⟨i,hi,h1⟩)) (d7 b h2)
  omega) hq
 refine ⟨(H.h0.keep hw (fun b o h _=>far 0 b o (by decide) h)).mono (fun b _ h=>Or.inr ⟨by decide,by decide,h⟩),(H.h1.keep hw (fun b o h _=>far 1 b o (by decide) h)).mono (fun b _ h=>Or.inr ⟨by decide,by decide,h⟩),(H.h2.keep hw (fun b o h _=>far 2 b o (by decide) h)).mono (fun b _ h=>Or.inr ⟨by decide,by decide,h⟩),(H.h3.keep hw (fun b o h _=>far 3 b o (by decide) h)).mono (fun b _ h=>Or.inr ⟨by decide,by decide,h⟩),
  S,fun b hb=>Or.inl ⟨rfl,?_⟩,H.h6.keep hw (fun b hb _ _ o=>far 5 b o (by decide) (H.h6D b hb)),fun b h=>Or.inr ⟨by decide,by decide,H.h6D b h⟩,H.h7.keep hw (fun b hb _ _ o=>far 6 b o (by decide) (H.h7D b hb)),fun b h=>Or.inr ⟨by decide,by decide,H.h7D b h⟩,?_,?_,Nat.le_refl _,hp⟩
 ·rcases hb with hb | ⟨i,hi,hb⟩
  ·exact Or.inl (by simpa [Value.ownBlock] using hb.symm)
  ·replace hi:i<d.mf+1:=hi
   by_cases e:i=d.mf
   ·rw [if_pos e] at hb
    exact Or.inr (Or.inr (d7 b hb))
   ·rw [if_neg e] at hb
    exact Or.inr (Or.inl (H.h5D b (Or.inr ⟨i,by omega,hb⟩)))
 ·intro i j b h1 h2
  have k4:∀ i,i≠4→i≠7→D i b→(b=g'∨D 4 b∨D 7 b)→False:=fun i n m hb h=>by
   rcases h with rfl | h | h
   ·exact key i n hb
   ·exact n (H.dis i 4 b hb h)
   ·exact m (H.dis i 7 b hb h)
  rcases h1 with ⟨rfl,h1⟩ | ⟨n1,m1,h1⟩ <;> rcases h2 with ⟨rfl,h2⟩ | ⟨n2,m2,h2⟩
  ·rfl
  ·exact (k4 j n2 m2 h2 h1).elim
  ·exact (k4 i n1 m1 h1 h2).elim
  ·exact H.dis _ _ _ h1 h2
 ·intro i b h
  rcases h with ⟨rfl,rfl | h | h⟩ | ⟨_,_,h⟩
  ·rcases own'.2 with ⟨e,_⟩ | ⟨g,c,cur,hv,hb,hg,_⟩
   ·cases e
   ·simp only [Value.slice.injEq,Option.some.injEq,Addr.mk.injEq,and_true,true_and] at hv
    obtain ⟨rfl,rfl⟩:=hv;exact ⟨hb,Ac hg⟩
  ·have:=H.bd _ _ h; omega
  ·have:=H.bd _ _ h; omega
  ·have:=H.bd _ _ h; omega
theorem Bi.samp (H:Bi W lo N D u0 u1 u2 u3 u4 u5 u6 u7 ob iv ov o6 o7 d) (hN:N=W.heap.size) {g':Nat} {u':Value} {x:Int} (hw:Wrote (fun b _=>o6=some b) W W') (R6:A5 W' lo (some g') u' (d.ns+1) (snoc d.sm d.ns x)) (hat:o6=some g'∨W.heap.size≤g') :
  Bi W' lo W'.heap.size (fun i b=>(i=5∧b=g')∨(i≠5∧D i b)) u0 u1 u2 u3 u4 u5 u' u7 ob iv ov (some g') o7 (Il d x):=by
 have hz:=hw.size
 have far:∀ i b (o:Nat),i≠5→D i b→¬ (o6=some b):=fun i b o hi hb e=>hi (H.dis i 5 b hb (H.h6D b e))
 have key:∀ i,i≠5→D i g'→False:=fun i hi h=>by
  rcases hat with e | h'
  ·exact far i g' 0 hi h e
  ·have:=H.bd _ _ h; omega
 refine ⟨(H.h0.keep hw (fun b o h _=>far 0 b o (by decide) h)).mono (fun b _ h=>Or.inr ⟨by decide,h⟩),(H.h1.keep hw (fun b o h _=>far 1 b o (by decide) h)).mono (fun b _ h=>Or.inr ⟨by decide,h⟩),(H.h2.keep hw (fun b o h _=>far 2 b o (by decide) h)).mono (fun b _ h=>Or.inr ⟨by decide,h⟩),(H.h3.keep hw (fun b o h _=>far 3 b o (by decide) h)).mono (fun b _ h=>Or.inr ⟨by decide,h⟩),
  H.h5.keep hw (fun g o hg=>far 4 g o (by decide) (H.h5D g (Or.inl hg))) (fun i b o hi hb=>far 4 b o (by decide) (H.h5D b (Or.inr ⟨i,hi,hb⟩))),fun b h=>Or.inr ⟨by decide,H.h5D b h⟩,R6,fun b h=>Or.inl ⟨rfl,(Option.some.inj h).symm⟩,H.h7.keep hw (fun b hb _ _ o=>far 6 b o (by decide) (H.h7D b hb)),fun b h=>Or.inr ⟨by decide,H.h7D b h⟩,?_,?_,Nat.le_refl _,H.hps⟩
 ·intro i j b h1 h2
  rcases h1 with ⟨rfl,rfl⟩ | ⟨n1,h1⟩ <;> rcases h2 with ⟨rfl,e2⟩ | ⟨n2,h2⟩
  ·rfl
  ·exact (key _ n2 h2).elim
  ·subst e2; exact (key _ n1 h1).elim
  ·exact H.dis _ _ _ h1 h2
 ·intro i b h
  rcases h with ⟨rfl,rfl⟩ | ⟨_,h⟩
  ·exact R6.lt
  ·have:=H.bd _ _ h; omega
end
theorem Jcq (w:World) (lo z:Nat) (d:Aq) (u4 u5 u6 u7:Value) (H:Dg w lo z d u4 u5 u6 u7) (hlo:lo≤z) (hok:Hj d) (ht:d.t≠20000):Calls Tryz.prog 108 #[(pt z 0)] w fun e w'=>e=.returned (.tuple #[])∧Ei w w' lo z u4 u5 u6 u7 (B8 d):=by
 obtain ⟨D,u0,u1,u2,u3,ob,iv,ov,o6,o7,HQ,hz,B0⟩:=H.ex;clear H;obtain ⟨v3,v4,o1,o2,e34,R1,R2,h12,d3⟩:=HQ.h3.ex;simp only [Value.agg.injEq,Array.mk.injEq,List.cons.injEq,and_true,true_and] at e34;obtain ⟨rfl,rfl⟩:=e34;have hzl:=Ac B0
 have hlw:lo≤w.heap.size:=by omega
 have HT:=Ad (Zx w lo z (fun i=>match i with | 0=>u0 | 1=>u1 | 2=>u2 | 3=>.i d.bank | 4=>.i d.A | 5=>.i d.X | 6=>.i d.S | 7=>.i d.Pc | 8=>.bool d.Z | 9=>.bool d.N | 10=>.bool d.C | 11=>.bool d.I | 20=>.i d.T | 21=>.i d.P | 22=>.i d.K | 23=>.i d.B | 24=>.i d.L | 25=>.bool d.Q | 26=>.bool d.R | 27=>.bool d.hd | 28=>.i d.sh | 29=>.bool d.nmi | 30=>.i d.st | 31=>u5 | 32=>u6 | 33=>u7 | _=>undef) o1 o2 u3 u4 d.t d.c d.s d.ad d.pl d.bl d.nt d.tb d.nd d.dt B0 R1 R2 h12 (fun q h=>hz 3 q (d3 q h)) hlw (Q6 hok.ppu) ht)
 obtain ⟨an,han⟩:∃ x,Hid (x=Py d.t d.c):=⟨_,rfl⟩
 rw [← han.out] at HT;have HR2:=Ad R2
 have T13:Dx d.T=decide (d.t%16=15):=by unfold Dx; rw [hok.same]
 have HA:=Ad (fun W h=>X8 W z h d.T d.P d.K d.B d.L d.Q d.R)
 by_cases h48:d.t%64=48
 ·have HV:Hid (Ki d.t d.nd=48):=by show _=_; unfold Ki; rw [if_neg ht,if_pos h48]; exact hok.nd48 h48
  go_enter Tryz.func108,Tryz.ntmps108
  go_wp2_with fail;refine HT.out.mono ?_;rintro e W1 ⟨tv,rfl,TB⟩;clear HT B0 R1 R2;obtain ⟨o2',w4,o3,b1,r1,r2,r3,t12,t13,t23,hz1,hw1,hn1,hs1⟩:=TB.ex;clear TB;replace b1:W1.heap[z]?=some (.cells (kR { d with t:=(Ga d.t),bl:=(Ho d.t d.bl) } u0 u1 u2 u3 w4 u5 u6 u7) 49 (0,0)):=b1;rw [HV.out] at r3;obtain ⟨ta,tx,rfl⟩:=r3.form
  have G1:Goes w W1 z u4 u5 u6 u7 w4 u5 u6 u7:=⟨hw1.mono (fun b o _ e=>by rcases e with e | e; exact Or.inl e; exact Or.inr (Or.inl e)),fun b o hb h=>by
   rcases h with h | h | h
   ·exact Or.inl h
   ·exact Or.inr (Or.inl (hs1 b o hb h))
   ·exact Or.inr (Or.inr h)⟩
  have H1:=HQ.ticked rfl hlw r1 (fun b h=>d3 b (Or.inl h)) (fun b h=>d3 b (Or.inr h)) r2 r3 t12 t13 t23 hw1 (fun b o hb h=>by
   rcases h with h | h
   ·left
    intro i hi;exact hz i b hi h
   ·exact Or.inr (Dj HR2.out h)) hn1
  have hz1':∀ i b,((i=3∧(o1=some b∨o2'=some b))∨(i=7∧o3=some b)∨(i≠3∧i≠7∧D i b))→b≠z:=fun i b h=>by
   rcases h with ⟨-,h | h⟩ | ⟨-,h⟩ | ⟨-,-,h⟩
   ·exact hz1 b (Or.inl h)
   ·exact hz1 b (Or.inr (Or.inl h))
   ·exact hz1 b (Or.inr (Or.inr h))
   ·exact hz i b h
  have LA:Below W1.heap.size W1 (W1.alloc (.cells #[.slice ta 48 tx] 25)):=(Below.refl _ _).alloc (Nat.le_refl _) _;have hE:=Ag (Al W1 #[.slice ta 48 tx] 25) 0;have c0':=Ag (Aa b1 LA (Ac b1));have c0s:=Ag b1;have HQA:=Ad ((H1.below LA).upTo LA.size (Nat.le_refl _));have GA:=Ad (G1.trans (Goes.below LA z _ _ _ _));have BA:=Ad (Aa b1 LA (Ac b1));have R3A:=Ad (r3.below LA);clear H1 LA b1 G1 r1 r2 r3 hw1 HQ;go_wp2_with (at_builtin; refine N4 _ rfl _ _ rfl lo u5 d.mf _ rfl HQA.out.h5.own hok.mfs (Nat.le_trans hlw GA.out.wr.size) W1.heap.size (.slice ta 48 tx) rfl rfl hE ?_);intro g9 c9 W9 own9 hWw hat9;clear c0' c0s hE
  replace hat9:u5.ownBlock=some g9∨(W1.alloc (.cells #[.slice ta 48 tx] 25)).heap.size≤g9:=by simpa using hat9
  have hW:=hWw.mono (S:=fun b _=>u5.ownBlock=some b) (fun b o _ ⟨n,c,e,_⟩=>by rw [e]; rfl)
  have hp5:psum (Ej (E7 d).lf (E7 d).mf 48) ((E7 d).mf+1)≤1099511627776:=Mm (by have:=hok.mfs; show d.mf+1≤1048576; omega) (fun i hi=>by
   show (if i=d.mf then 48 else d.lf i)≤1048576
   split
   ·omega
   ·rw [hok.lf i (by replace hi:i<d.mf+1:=hi; omega)]; omega)
  have H9:=Ad (HQA.out.frame rfl hW own9 hat9 R3A.out (fun b hb=>Or.inr (Or.inl ⟨rfl,hb⟩)) hok.mfs hp5);have kz:=Ah BA.out hW (fun o e=>hz1' 4 z (HQA.out.h5D z (Or.inl e)) rfl)
  have hg9:g9≠z:=fun e=>by
   subst e
   rcases hat9 with e | h
   ·exact hz1' 4 g9 (HQA.out.h5D g9 (Or.inl e)) rfl
   ·have:=Ac BA.out; omega
  have G9:=Ad (GA.out.trans (Goes.push5 (n:=d.mf) (c':=c9) hWw HQA.out.h5.own hat9 z w4 u6 u7))
  have hzD:∀ i b,((i=4∧(b=g9∨((4=3∧(o1=some b∨o2'=some b))∨(4=7∧o3=some b)∨(4≠3∧4≠7∧D 4 b))∨((7=3∧(o1=some b∨o2'=some b))∨(7=7∧o3=some b)∨(7≠3∧7≠7∧D 7 b))))∨(i≠4∧i≠7∧((i=3∧(o1=some b∨o2'=some b))∨(i=7∧o3=some b)∨(i≠3∧i≠7∧D i b))))→b≠z:=fun i b h=>by
   rcases h with ⟨-,h | h | h⟩ | ⟨-,-,h⟩
   ·rw [h]; exact hg9
   ·exact hz1' 4 b h
   ·exact hz1' 7 b h
   ·exact hz1' i b h
  obtain ⟨DD,HD,hzD'⟩:∃ DD,Hid (Bi W9 lo W9.heap.size DD u0 u1 u2 u3 w4 (.slice (some ⟨g9,0,none⟩) (d.mf+1) c9) u6 u7 (fun i=>if i=d.mf then o3 else ob i) (fun i=>if i=d.mf then .slice ta 48 tx else iv i) ov o6 o7 (frameT (E7 d) 48 d.dt))∧∀ i b,DD i b→b≠z:=⟨_,H9,hzD⟩
  clear hWw hW own9 hat9 HQA GA BA R3A hp5 H9 hzD hz1' hz1 hn1 hs1 hz;have e1:Dx d.T=false:=T13.trans (decide_eq_false (by omega))
  obtain ⟨nm,hnm⟩:∃ x,Hid (x=d.nmi):=⟨_,rfl⟩
  rw [← hnm.out] at kz;have HTo:=Ad e1;rw [e1] at HA;clear e1;cases nm
  ·have d9:=Ag kz
   have f9:=As kz;have k2:=Af (o:=29) (Af (o:=31) (kz) (.slice (some ⟨g9,0,none⟩) (d.mf+1) c9)) (.bool an);simp only [List.setIfInBounds_toArray,List.set_cons_succ,List.set_cons_zero] at k2;have T2:=Wrote.setCell (b:=z) (o:=29) (R:=fun b _=>b=z) (Wrote.setCell (b:=z) (o:=31) (R:=fun b _=>b=z) (Wrote.refl (fun b _=>b=z) W9) (fun _=>rfl) (.slice (some ⟨g9,0,none⟩) (d.mf+1) c9)) (fun _=>rfl) (.bool an);go_wp2_with fail;clear d9 f9 kz
   refine (HA.out _ (fun i=>match i with | 0=>u0 | 1=>u1 | 2=>u2 | 3=>.i d.bank | 4=>.i d.A | 5=>.i d.X | 6=>.i d.S | 7=>.i d.Pc | 8=>.bool d.Z | 9=>.bool d.N | 10=>.bool d.C | 11=>.bool d.I | 12=>.i (Ga d.t) | 13=>.i d.c | 14=>.i d.s | 15=>.i d.ad | 16=>.i d.pl | 17=>.bool (Ho d.t d.bl) | 18=>u3 | 19=>w4 | 27=>.bool d.hd | 28=>.i d.sh | 29=>.bool an | 30=>.i d.st | 31=>.slice (some ⟨g9,0,none⟩) (d.mf+1) c9 | 32=>u6 | 33=>u7 | _=>undef) k2 hok.apu (by rw [← hok.same]; exact ht)).mono ?_;rintro e W5 ⟨rfl,k5,L5⟩;replace k5:W5.heap[z]?=some (.cells (kR { d with t:=(Ga d.t),bl:=(Ho d.t d.bl),T:=(d.T+1),K:=(Ft d.P d.K),B:=(Fa d.K d.B d.L),L:=(Fu d.T d.L),R:=(Gq d.T d.L d.Q d.R),nmi:=an } u0 u1 u2 u3 w4 (.slice (some ⟨g9,0,none⟩) (d.mf+1) c9) u6 u7) 49 (0,0)):=k5;have T5:=T2.trans L5
   have H5:=Ad ((HD.out.keepD T5 (fun i b o h (e:b=z)=>hzD' i b h e)).upTo T5.size (Nat.le_refl _));have G5:=Ad (G9.out.trans (Goes.box T5 _ _ _ _));clear HD G9 k2 T2 L5 T5 HA
   have HE:Hid (B8 d={ frameT (E7 d) 48 d.dt with T:=d.T+1,K:=Ft d.P d.K,B:=Fa d.K d.B d.L,L:=Fu d.T d.L,R:=Gq d.T d.L d.Q d.R,nmi:=an }):=by
    show _=_
    rw [← hok.nd48 h48];simp only [B8,Il,frameT,E7,h48,HTo.out,← hnm.out,← han.out,Bool.true_or,Bool.false_or,if_true,Bool.false_eq_true,if_false]
   have KF:=Ad k5;have d5:=Ag k5;clear k5;go_wp2
   ((try simp only [Exit.inBlock,Exit.then]); first | (refine bodyPost_ret (results_none rfl _ _ _) rfl ?_) | (refine bodyPost_end (results_none rfl _ _ _) rfl ?_))
   rw [HE.out]
   have HL:Bi W5 lo W5.heap.size DD _ _ _ _ _ _ _ _ _ _ _ _ _ { frameT (E7 d) 48 d.dt with T:=d.T+1,K:=Ft d.P d.K,B:=Fa d.K d.B d.L,L:=Fu d.T d.L,R:=Gq d.T d.L d.Q d.R,nmi:=an }:=⟨H5.out.h0,H5.out.h1,H5.out.h2,H5.out.h3,H5.out.h5,H5.out.h5D,H5.out.h6,H5.out.h6D,H5.out.h7,H5.out.h7D,H5.out.dis,H5.out.bd,H5.out.nN,H5.out.hps⟩
   exact ⟨rfl,⟨_,_,_,_,⟨_,_,_,_,_,_,_,_,_,_,HL,hzD',KF.out⟩,G5.out⟩⟩
  ·have d9:=Ag kz
   have f9:=As kz;have k2:=Af (o:=29) (Af (o:=31) (kz) (.slice (some ⟨g9,0,none⟩) (d.mf+1) c9)) (.bool true);simp only [List.setIfInBounds_toArray,List.set_cons_succ,List.set_cons_zero] at k2;have T2:=Wrote.setCell (b:=z) (o:=29) (R:=fun b _=>b=z) (Wrote.setCell (b:=z) (o:=31) (R:=fun b _=>b=z) (Wrote.refl (fun b _=>b=z) W9) (fun _=>rfl) (.slice (some ⟨g9,0,none⟩) (d.mf+1) c9)) (fun _=>rfl) (.bool true);go_wp2_with fail;clear d9 f9 kz
   refine (HA.out _ (fun i=>match i with | 0=>u0 | 1=>u1 | 2=>u2 | 3=>.i d.bank | 4=>.i d.A | 5=>.i d.X | 6=>.i d.S | 7=>.i d.Pc | 8=>.bool d.Z | 9=>.bool d.N | 10=>.bool d.C | 11=>.bool d.I | 12=>.i (Ga d.t) | 13=>.i d.c | 14=>.i d.s | 15=>.i d.ad | 16=>.i d.pl | 17=>.bool (Ho d.t d.bl) | 18=>u3 | 19=>w4 | 27=>.bool d.hd | 28=>.i d.sh | 29=>.bool true | 30=>.i d.st | 31=>.slice (some ⟨g9,0,none⟩) (d.mf+1) c9 | 32=>u6 | 33=>u7 | _=>undef) k2 hok.apu (by rw [← hok.same]; exact ht)).mono ?_;rintro e W5 ⟨rfl,k5,L5⟩;replace k5:W5.heap[z]?=some (.cells (kR { d with t:=(Ga d.t),bl:=(Ho d.t d.bl),T:=(d.T+1),K:=(Ft d.P d.K),B:=(Fa d.K d.B d.L),L:=(Fu d.T d.L),R:=(Gq d.T d.L d.Q d.R),nmi:=true } u0 u1 u2 u3 w4 (.slice (some ⟨g9,0,none⟩) (d.mf+1) c9) u6 u7) 49 (0,0)):=k5;have T5:=T2.trans L5
   have H5:=Ad ((HD.out.keepD T5 (fun i b o h (e:b=z)=>hzD' i b h e)).upTo T5.size (Nat.le_refl _));have G5:=Ad (G9.out.trans (Goes.box T5 _ _ _ _));clear HD G9 k2 T2 L5 T5 HA
   have HE:Hid (B8 d={ frameT (E7 d) 48 d.dt with T:=d.T+1,K:=Ft d.P d.K,B:=Fa d.K d.B d.L,L:=Fu d.T d.L,R:=Gq d.T d.L d.Q d.R,nmi:=true }):=by
    show _=_
    rw [← hok.nd48 h48];simp only [B8,Il,frameT,E7,h48,HTo.out,← hnm.out,← han.out,Bool.true_or,Bool.false_or,if_true,Bool.false_eq_true,if_false]
   have KF:=Ad k5;have d5:=Ag k5;clear k5;go_wp2
   ((try simp only [Exit.inBlock,Exit.then]); first | (refine bodyPost_ret (results_none rfl _ _ _) rfl ?_) | (refine bodyPost_end (results_none rfl _ _ _) rfl ?_))
   rw [HE.out]
   have HL:Bi W5 lo W5.heap.size DD _ _ _ _ _ _ _ _ _ _ _ _ _ { frameT (E7 d) 48 d.dt with T:=d.T+1,K:=Ft d.P d.K,B:=Fa d.K d.B d.L,L:=Fu d.T d.L,R:=Gq d.T d.L d.Q d.R,nmi:=true }:=⟨H5.out.h0,H5.out.h1,H5.out.h2,H5.out.h3,H5.out.h5,H5.out.h5D,H5.out.h6,H5.out.h6D,H5.out.h7,H5.out.h7D,H5.out.dis,H5.out.bd,H5.out.nN,H5.out.hps⟩
   exact ⟨rfl,⟨_,_,_,_,⟨_,_,_,_,_,_,_,_,_,_,HL,hzD',KF.out⟩,G5.out⟩⟩
 ·have HV:Hid (Ki d.t d.nd=0):=by show _=_; unfold Ki; rw [if_neg ht,if_neg h48]
  go_enter Tryz.func108,Tryz.ntmps108
  go_wp2_with fail;refine HT.out.mono ?_;rintro e W1 ⟨tv,rfl,TB⟩;clear HT B0 R1 R2;obtain ⟨o2',w4,o3,b1,r1,r2,r3,t12,t13,t23,hz1,hw1,hn1,hs1⟩:=TB.ex;clear TB;replace b1:W1.heap[z]?=some (.cells (kR { d with t:=(Ga d.t),bl:=(Ho d.t d.bl) } u0 u1 u2 u3 w4 u5 u6 u7) 49 (0,0)):=b1;rw [HV.out] at r3;obtain ⟨ta,tx,rfl⟩:=r3.form
  have G9:=Ad (show Goes w W1 z u4 u5 u6 u7 w4 u5 u6 u7 from ⟨hw1.mono (fun b o _ e=>by rcases e with e | e; exact Or.inl e; exact Or.inr (Or.inl e)),fun b o hb h=>by
   rcases h with h | h | h
   ·exact Or.inl h
   ·exact Or.inr (Or.inl (hs1 b o hb h))
   ·exact Or.inr (Or.inr h)⟩)
  have H1:=HQ.ticked rfl hlw r1 (fun b h=>d3 b (Or.inl h)) (fun b h=>d3 b (Or.inr h)) r2 r3 t12 t13 t23 hw1 (fun b o hb h=>by
   rcases h with h | h
   ·left
    intro i hi;exact hz i b hi h
   ·exact Or.inr (Dj HR2.out h)) hn1
  obtain ⟨DD,HD,hzD'⟩:∃ DD,Hid (Bi W1 lo W1.heap.size DD u0 u1 u2 u3 w4 u5 u6 u7 ob iv ov o6 o7 (E7 d))∧∀ i b,DD i b→b≠z:=⟨_,Ad H1,fun i b h=>by
   rcases h with ⟨-,h | h⟩ | ⟨-,h⟩ | ⟨-,-,h⟩
   ·exact hz1 b (Or.inl h)
   ·exact hz1 b (Or.inr (Or.inl h))
   ·exact hz1 b (Or.inr (Or.inr h))
   ·exact hz i b h⟩
  have kz:=b1;clear H1 r1 r2 r3 hw1 HQ hz1 hn1 hs1 hz b1
  by_cases h16:d.t%16=15
  ·have e1:Dx d.T=true:=T13.trans (decide_eq_true h16)
   obtain ⟨nm,hnm⟩:∃ x,Hid (x=d.nmi):=⟨_,rfl⟩
   rw [← hnm.out] at kz;have HTo:=Ad e1;rw [e1] at HA;clear e1;cases nm
   ·have d9:=Ag kz
    have f9:=As kz;have k2:=Af (o:=29) (kz) (.bool an);simp only [List.setIfInBounds_toArray,List.set_cons_succ,List.set_cons_zero] at k2;have T2:=Wrote.setCell (b:=z) (o:=29) (R:=fun b _=>b=z) (Wrote.refl (fun b _=>b=z) W1) (fun _=>rfl) (.bool an);go_wp2_with fail;clear d9 f9 kz;refine (HA.out _ (fun i=>match i with | 0=>u0 | 1=>u1 | 2=>u2 | 3=>.i d.bank | 4=>.i d.A | 5=>.i d.X | 6=>.i d.S | 7=>.i d.Pc | 8=>.bool d.Z | 9=>.bool d.N | 10=>.bool d.C | 11=>.bool d.I | 12=>.i (Ga d.t) | 13=>.i d.c | 14=>.i d.s | 15=>.i d.ad | 16=>.i d.pl | 17=>.bool (Ho d.t d.bl) | 18=>u3 | 19=>w4 | 27=>.bool d.hd | 28=>.i d.sh | 29=>.bool an | 30=>.i d.st | 31=>u5 | 32=>u6 | 33=>u7 | _=>undef) k2 hok.apu (by rw [← hok.same]; exact ht)).mono ?_;rintro e W5 ⟨rfl,k5,L5⟩
    replace k5:W5.heap[z]?=some (.cells (kR { d with t:=(Ga d.t),bl:=(Ho d.t d.bl),T:=(d.T+1),K:=(Ft d.P d.K),B:=(Fa d.K d.B d.L),L:=(Fu d.T d.L),R:=(Gq d.T d.L d.Q d.R),nmi:=an } u0 u1 u2 u3 w4 u5 u6 u7) 49 (0,0)):=k5;have T5:=T2.trans L5;have H5:=Ad ((HD.out.keepD T5 (fun i b o h (e:b=z)=>hzD' i b h e)).upTo T5.size (Nat.le_refl _));have G5:=Ad (G9.out.trans (Goes.box T5 _ _ _ _));clear HD G9 k2 T2 L5 T5 HA
    have HE:Hid (B8 d={ Il (E7 d) (Kq d.T d.K d.B d.L) with T:=d.T+1,K:=Ft d.P d.K,B:=Fa d.K d.B d.L,L:=Fu d.T d.L,R:=Gq d.T d.L d.Q d.R,nmi:=an }):=by
     show _=_
     simp only [B8,Il,frameT,E7,h48,HTo.out,← hnm.out,← han.out,Bool.true_or,Bool.false_or,if_true,Bool.false_eq_true,if_false]
    have LA:Below W5.heap.size W5 (W5.alloc (.cells #[.i (Kq d.T d.K d.B d.L)] 3)):=(Below.refl _ _).alloc (Nat.le_refl _) _;have hE:=Ag (Al W5 #[.i (Kq d.T d.K d.B d.L)] 3) 0;have c0':=Ag (Aa k5 LA (Ac k5));have c0s:=Ag k5;have HQA:=Ad ((H5.out.below LA).upTo LA.size (Nat.le_refl _));have GA:=Ad (G5.out.trans (Goes.below LA z _ _ _ _));have BA:=Ad (Aa k5 LA (Ac k5));obtain ⟨x6,y6,e6⟩:=HQA.out.h6.form;subst e6;clear H5 LA k5 G5;go_wp2_with (at_builtin; refine Eh _ rfl _ _ rfl lo o6 (.slice x6 d.ns y6) d.ns d.sm rfl HQA.out.h6 hok.nss (Nat.le_trans hlw GA.out.wr.size) W5.heap.size (Kq d.T d.K d.B d.L) rfl hE ?_);intro g7 c7 W7 R7 hWw hat7;clear c0' c0s hE
    replace hat7:o6=some g7∨(W5.alloc (.cells #[.i (Kq d.T d.K d.B d.L)] 3)).heap.size≤g7:=by simpa using hat7
    have hW:=hWw.mono (S:=fun b _=>o6=some b) (fun b o _ e=>Dj HQA.out.h6 e);have H7:=HQA.out.samp rfl hW R7 hat7;have k7:=Ah BA.out hW (fun o e=>hzD' 5 z (HQA.out.h6D z e) rfl)
    have hg7:g7≠z:=fun e=>by
     subst e
     rcases hat7 with e | h
     ·exact hzD' 5 g7 (HQA.out.h6D g7 e) rfl
     ·have:=Ac BA.out; simp at this h; omega
    have G7:=GA.out.trans (Goes.push6 (n:=d.ns) (f:=d.sm) (c':=c7) hWw HQA.out.h6 hat7 z w4 u5 u7);have TZ:=Wrote.setCell (b:=z) (o:=32) (R:=fun b _=>b=z) (Wrote.refl _ W7) (fun _=>rfl) (.slice (some ⟨g7,0,none⟩) (d.ns+1) c7)
    have hz7:∀ i b,(i=5∧b=g7)∨(i≠5∧DD i b)→b≠z:=fun i b h e=>by
     rcases h with ⟨-,rfl⟩ | ⟨-,h⟩
     ·exact hg7 e
     ·exact hzD' i b h e
    have HF:=Ad ((H7.keepD TZ (fun i b o h (e:b=z)=>hz7 i b h e)).upTo TZ.size (Nat.le_refl _));have GF:=Ad (G7.trans (Goes.box TZ _ _ _ _));have KF:=Af (o:=32) k7 (.slice (some ⟨g7,0,none⟩) (d.ns+1) c7);simp only [List.setIfInBounds_toArray,List.set_cons_succ,List.set_cons_zero] at KF;have KFF:=Ad KF;have d7:=Ag k7;have f7:=As k7;clear HQA GA BA hW hWw R7 hat7 H7 G7 TZ KF k7;go_wp2
    ((try simp only [Exit.inBlock,Exit.then]); first | (refine bodyPost_ret (results_none rfl _ _ _) rfl ?_) | (refine bodyPost_end (results_none rfl _ _ _) rfl ?_))
    rw [HE.out]
    have HL:Bi _ lo _ _ _ _ _ _ _ _ _ _ _ _ _ _ _ { Il (E7 d) (Kq d.T d.K d.B d.L) with T:=d.T+1,K:=Ft d.P d.K,B:=Fa d.K d.B d.L,L:=Fu d.T d.L,R:=Gq d.T d.L d.Q d.R,nmi:=an }:=⟨HF.out.h0,HF.out.h1,HF.out.h2,HF.out.h3,HF.out.h5,HF.out.h5D,HF.out.h6,HF.out.h6D,HF.out.h7,HF.out.h7D,HF.out.dis,HF.out.bd,HF.out.nN,HF.out.hps⟩
    exact ⟨rfl,⟨_,_,_,_,⟨_,_,_,_,_,_,_,_,_,_,HL,hz7,KFF.out⟩,GF.out⟩⟩
   ·have d9:=Ag kz
    have f9:=As kz;have k2:=Af (o:=29) (kz) (.bool true);simp only [List.setIfInBounds_toArray,List.set_cons_succ,List.set_cons_zero] at k2;have T2:=Wrote.setCell (b:=z) (o:=29) (R:=fun b _=>b=z) (Wrote.refl (fun b _=>b=z) W1) (fun _=>rfl) (.bool true);go_wp2_with fail;clear d9 f9 kz;refine (HA.out _ (fun i=>match i with | 0=>u0 | 1=>u1 | 2=>u2 | 3=>.i d.bank | 4=>.i d.A | 5=>.i d.X | 6=>.i d.S | 7=>.i d.Pc | 8=>.bool d.Z | 9=>.bool d.N | 10=>.bool d.C | 11=>.bool d.I | 12=>.i (Ga d.t) | 13=>.i d.c | 14=>.i d.s | 15=>.i d.ad | 16=>.i d.pl | 17=>.bool (Ho d.t d.bl) | 18=>u3 | 19=>w4 | 27=>.bool d.hd | 28=>.i d.sh | 29=>.bool true | 30=>.i d.st | 31=>u5 | 32=>u6 | 33=>u7 | _=>undef) k2 hok.apu (by rw [← hok.same]; exact ht)).mono ?_;rintro e W5 ⟨rfl,k5,L5⟩
    replace k5:W5.heap[z]?=some (.cells (kR { d with t:=(Ga d.t),bl:=(Ho d.t d.bl),T:=(d.T+1),K:=(Ft d.P d.K),B:=(Fa d.K d.B d.L),L:=(Fu d.T d.L),R:=(Gq d.T d.L d.Q d.R),nmi:=true } u0 u1 u2 u3 w4 u5 u6 u7) 49 (0,0)):=k5;have T5:=T2.trans L5;have H5:=Ad ((HD.out.keepD T5 (fun i b o h (e:b=z)=>hzD' i b h e)).upTo T5.size (Nat.le_refl _));have G5:=Ad (G9.out.trans (Goes.box T5 _ _ _ _));clear HD G9 k2 T2 L5 T5 HA
    have HE:Hid (B8 d={ Il (E7 d) (Kq d.T d.K d.B d.L) with T:=d.T+1,K:=Ft d.P d.K,B:=Fa d.K d.B d.L,L:=Fu d.T d.L,R:=Gq d.T d.L d.Q d.R,nmi:=true }):=by
     show _=_
     simp only [B8,Il,frameT,E7,h48,HTo.out,← hnm.out,← han.out,Bool.true_or,Bool.false_or,if_true,Bool.false_eq_true,if_false]
    have LA:Below W5.heap.size W5 (W5.alloc (.cells #[.i (Kq d.T d.K d.B d.L)] 3)):=(Below.refl _ _).alloc (Nat.le_refl _) _;have hE:=Ag (Al W5 #[.i (Kq d.T d.K d.B d.L)] 3) 0;have c0':=Ag (Aa k5 LA (Ac k5));have c0s:=Ag k5;have HQA:=Ad ((H5.out.below LA).upTo LA.size (Nat.le_refl _));have GA:=Ad (G5.out.trans (Goes.below LA z _ _ _ _));have BA:=Ad (Aa k5 LA (Ac k5));obtain ⟨x6,y6,e6⟩:=HQA.out.h6.form;subst e6;clear H5 LA k5 G5;go_wp2_with (at_builtin; refine Eh _ rfl _ _ rfl lo o6 (.slice x6 d.ns y6) d.ns d.sm rfl HQA.out.h6 hok.nss (Nat.le_trans hlw GA.out.wr.size) W5.heap.size (Kq d.T d.K d.B d.L) rfl hE ?_);intro g7 c7 W7 R7 hWw hat7;clear c0' c0s hE
    replace hat7:o6=some g7∨(W5.alloc (.cells #[.i (Kq d.T d.K d.B d.L)] 3)).heap.size≤g7:=by simpa using hat7
    have hW:=hWw.mono (S:=fun b _=>o6=some b) (fun b o _ e=>Dj HQA.out.h6 e);have H7:=HQA.out.samp rfl hW R7 hat7;have k7:=Ah BA.out hW (fun o e=>hzD' 5 z (HQA.out.h6D z e) rfl)
    have hg7:g7≠z:=fun e=>by
     subst e
     rcases hat7 with e | h
     ·exact hzD' 5 g7 (HQA.out.h6D g7 e) rfl
     ·have:=Ac BA.out; simp at this h; omega
    have G7:=GA.out.trans (Goes.push6 (n:=d.ns) (f:=d.sm) (c':=c7) hWw HQA.out.h6 hat7 z w4 u5 u7);have TZ:=Wrote.setCell (b:=z) (o:=32) (R:=fun b _=>b=z) (Wrote.refl _ W7) (fun _=>rfl) (.slice (some ⟨g7,0,none⟩) (d.ns+1) c7)
    have hz7:∀ i b,(i=5∧b=g7)∨(i≠5∧DD i b)→b≠z:=fun i b h e=>by
     rcases h with ⟨-,rfl⟩ | ⟨-,h⟩
     ·exact hg7 e
     ·exact hzD' i b h e
    have HF:=Ad ((H7.keepD TZ (fun i b o h (e:b=z)=>hz7 i b h e)).upTo TZ.size (Nat.le_refl _));have GF:=Ad (G7.trans (Goes.box TZ _ _ _ _));have KF:=Af (o:=32) k7 (.slice (some ⟨g7,0,none⟩) (d.ns+1) c7);simp only [List.setIfInBounds_toArray,List.set_cons_succ,List.set_cons_zero] at KF;have KFF:=Ad KF;have d7:=Ag k7;have f7:=As k7;clear HQA GA BA hW hWw R7 hat7 H7 G7 TZ KF k7;go_wp2
    ((try simp only [Exit.inBlock,Exit.then]); first | (refine bodyPost_ret (results_none rfl _ _ _) rfl ?_) | (refine bodyPost_end (results_none rfl _ _ _) rfl ?_))
    rw [HE.out]
    have HL:Bi _ lo _ _ _ _ _ _ _ _ _ _ _ _ _ _ _ { Il (E7 d) (Kq d.T d.K d.B d.L) with T:=d.T+1,K:=Ft d.P d.K,B:=Fa d.K d.B d.L,L:=Fu d.T d.L,R:=Gq d.T d.L d.Q d.R,nmi:=true }:=⟨HF.out.h0,HF.out.h1,HF.out.h2,HF.out.h3,HF.out.h5,HF.out.h5D,HF.out.h6,HF.out.h6D,HF.out.h7,HF.out.h7D,HF.out.dis,HF.out.bd,HF.out.nN,HF.out.hps⟩
    exact ⟨rfl,⟨_,_,_,_,⟨_,_,_,_,_,_,_,_,_,_,HL,hz7,KFF.out⟩,GF.out⟩⟩
  ·have e1:Dx d.T=false:=T13.trans (decide_eq_false h16)
   obtain ⟨nm,hnm⟩:∃ x,Hid (x=d.nmi):=⟨_,rfl⟩
   rw [← hnm.out] at kz;have HTo:=Ad e1;rw [e1] at HA;clear e1;cases nm
   ·have d9:=Ag kz
    have f9:=As kz;have k2:=Af (o:=29) (kz) (.bool an);simp only [List.setIfInBounds_toArray,List.set_cons_succ,List.set_cons_zero] at k2;have T2:=Wrote.setCell (b:=z) (o:=29) (R:=fun b _=>b=z) (Wrote.refl (fun b _=>b=z) W1) (fun _=>rfl) (.bool an);go_wp2_with fail;clear d9 f9 kz;refine (HA.out _ (fun i=>match i with | 0=>u0 | 1=>u1 | 2=>u2 | 3=>.i d.bank | 4=>.i d.A | 5=>.i d.X | 6=>.i d.S | 7=>.i d.Pc | 8=>.bool d.Z | 9=>.bool d.N | 10=>.bool d.C | 11=>.bool d.I | 12=>.i (Ga d.t) | 13=>.i d.c | 14=>.i d.s | 15=>.i d.ad | 16=>.i d.pl | 17=>.bool (Ho d.t d.bl) | 18=>u3 | 19=>w4 | 27=>.bool d.hd | 28=>.i d.sh | 29=>.bool an | 30=>.i d.st | 31=>u5 | 32=>u6 | 33=>u7 | _=>undef) k2 hok.apu (by rw [← hok.same]; exact ht)).mono ?_;rintro e W5 ⟨rfl,k5,L5⟩
    replace k5:W5.heap[z]?=some (.cells (kR { d with t:=(Ga d.t),bl:=(Ho d.t d.bl),T:=(d.T+1),K:=(Ft d.P d.K),B:=(Fa d.K d.B d.L),L:=(Fu d.T d.L),R:=(Gq d.T d.L d.Q d.R),nmi:=an } u0 u1 u2 u3 w4 u5 u6 u7) 49 (0,0)):=k5;have T5:=T2.trans L5;have H5:=Ad ((HD.out.keepD T5 (fun i b o h (e:b=z)=>hzD' i b h e)).upTo T5.size (Nat.le_refl _));have G5:=Ad (G9.out.trans (Goes.box T5 _ _ _ _));clear HD G9 k2 T2 L5 T5 HA
    have HE:Hid (B8 d={ E7 d with T:=d.T+1,K:=Ft d.P d.K,B:=Fa d.K d.B d.L,L:=Fu d.T d.L,R:=Gq d.T d.L d.Q d.R,nmi:=an }):=by
     show _=_
     simp only [B8,Il,frameT,E7,h48,HTo.out,← hnm.out,← han.out,Bool.true_or,Bool.false_or,if_true,Bool.false_eq_true,if_false]
    have KF:=Ad k5;have d5:=Ag k5;clear k5;go_wp2
    ((try simp only [Exit.inBlock,Exit.then]); first | (refine bodyPost_ret (results_none rfl _ _ _) rfl ?_) | (refine bodyPost_end (results_none rfl _ _ _) rfl ?_))
    rw [HE.out]
    have HL:Bi W5 lo W5.heap.size DD _ _ _ _ _ _ _ _ _ _ _ _ _ { E7 d with T:=d.T+1,K:=Ft d.P d.K,B:=Fa d.K d.B d.L,L:=Fu d.T d.L,R:=Gq d.T d.L d.Q d.R,nmi:=an }:=⟨H5.out.h0,H5.out.h1,H5.out.h2,H5.out.h3,H5.out.h5,H5.out.h5D,H5.out.h6,H5.out.h6D,H5.out.h7,H5.out.h7D,H5.out.dis,H5.out.bd,H5.out.nN,H5.out.hps⟩
    exact ⟨rfl,⟨_,_,_,_,⟨_,_,_,_,_,_,_,_,_,_,HL,hzD',KF.out⟩,G5.out⟩⟩
   ·have d9:=Ag kz
    have f9:=As kz;have k2:=Af (o:=29) (kz) (.bool true);simp only [List.setIfInBounds_toArray,List.set_cons_succ,List.set_cons_zero] at k2;have T2:=Wrote.setCell (b:=z) (o:=29) (R:=fun b _=>b=z) (Wrote.refl (fun b _=>b=z) W1) (fun _=>rfl) (.bool true);go_wp2_with fail;clear d9 f9 kz;refine (HA.out _ (fun i=>match i with | 0=>u0 | 1=>u1 | 2=>u2 | 3=>.i d.bank | 4=>.i d.A | 5=>.i d.X | 6=>.i d.S | 7=>.i d.Pc | 8=>.bool d.Z | 9=>.bool d.N | 10=>.bool d.C | 11=>.bool d.I | 12=>.i (Ga d.t) | 13=>.i d.c | 14=>.i d.s | 15=>.i d.ad | 16=>.i d.pl | 17=>.bool (Ho d.t d.bl) | 18=>u3 | 19=>w4 | 27=>.bool d.hd | 28=>.i d.sh | 29=>.bool true | 30=>.i d.st | 31=>u5 | 32=>u6 | 33=>u7 | _=>undef) k2 hok.apu (by rw [← hok.same]; exact ht)).mono ?_;rintro e W5 ⟨rfl,k5,L5⟩
    replace k5:W5.heap[z]?=some (.cells (kR { d with t:=(Ga d.t),bl:=(Ho d.t d.bl),T:=(d.T+1),K:=(Ft d.P d.K),B:=(Fa d.K d.B d.L),L:=(Fu d.T d.L),R:=(Gq d.T d.L d.Q d.R),nmi:=true } u0 u1 u2 u3 w4 u5 u6 u7) 49 (0,0)):=k5;have T5:=T2.trans L5;have H5:=Ad ((HD.out.keepD T5 (fun i b o h (e:b=z)=>hzD' i b h e)).upTo T5.size (Nat.le_refl _));have G5:=Ad (G9.out.trans (Goes.box T5 _ _ _ _));clear HD G9 k2 T2 L5 T5 HA
    have HE:Hid (B8 d={ E7 d with T:=d.T+1,K:=Ft d.P d.K,B:=Fa d.K d.B d.L,L:=Fu d.T d.L,R:=Gq d.T d.L d.Q d.R,nmi:=true }):=by
     show _=_
     simp only [B8,Il,frameT,E7,h48,HTo.out,← hnm.out,← han.out,Bool.true_or,Bool.false_or,if_true,Bool.false_eq_true,if_false]
    have KF:=Ad k5;have d5:=Ag k5;clear k5;go_wp2
    ((try simp only [Exit.inBlock,Exit.then]); first | (refine bodyPost_ret (results_none rfl _ _ _) rfl ?_) | (refine bodyPost_end (results_none rfl _ _ _) rfl ?_))
    rw [HE.out]
    have HL:Bi W5 lo W5.heap.size DD _ _ _ _ _ _ _ _ _ _ _ _ _ { E7 d with T:=d.T+1,K:=Ft d.P d.K,B:=Fa d.K d.B d.L,L:=Fu d.T d.L,R:=Gq d.T d.L d.Q d.R,nmi:=true }:=⟨H5.out.h0,H5.out.h1,H5.out.h2,H5.out.h3,H5.out.h5,H5.out.h5D,H5.out.h6,H5.out.h6D,H5.out.h7,H5.out.h7D,H5.out.dis,H5.out.bd,H5.out.nN,H5.out.hps⟩
    exact ⟨rfl,⟨_,_,_,_,⟨_,_,_,_,_,_,_,_,_,_,HL,hzD',KF.out⟩,G5.out⟩⟩
end Go.Proofs.YtgcmimcalmjaaaaGreatDoor
