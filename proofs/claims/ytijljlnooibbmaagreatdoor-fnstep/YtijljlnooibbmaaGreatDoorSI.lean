import Derived.Test.YtijljlnooibbmaaGreatDoorSE
import Derived.Test.YtijljlnooibbmaaGreatDoorSH
import Derived.Test.YtijljlnooibbmaaGreatDoorKIa
import Derived.WalkMore
import Derived.Defers
namespace Go.Proofs.YtijljlnooibbmaaGreatDoor
set_option maxHeartbeats 4000000
set_option maxRecDepth 20000
open Go.Proofs.Tryz
set_option linter.unusedVariables false
set_option linter.unusedSimpArgs false
open Go.ChangeShapes Go.WideShapes Go.ChangeAt Go.RowKit
theorem Cj.nmi {w:World} {lo z:Nat} {d:Aq} {u4 u5 u6 u7:Value} (H:Cj w lo z d u4 u5 u6 u7):Cj (w.setCell ⟨z,29,none⟩ (.bool false)) lo z (noNmi d) u4 u5 u6 u7:=by
 obtain ⟨D,u0,u1,u2,u3,ob,iv,ov,o6,o7,HQ,hz,B0⟩:=H.ex;have T:=Ph w z 29 (.bool false);have H1:=(HQ.keepD T (fun i b o h (e:b=z)=>hz i b h e)).upTo T.size (Nat.le_refl _);have k:=Am (o:=29) B0 (.bool false);simp only [Sa,Sb,Sc] at k;exact ⟨D,u0,u1,u2,u3,ob,iv,ov,o6,o7,⟨H1.h0,H1.h1,H1.h2,H1.h3,H1.h5,H1.h5D,H1.h6,H1.h6D,H1.h7,H1.h7D,H1.dis,H1.bd,H1.nN,H1.hps⟩,hz,k⟩
theorem Cj.withSt {w:World} {lo z:Nat} {d:Aq} {u4 u5 u6 u7:Value} (H:Cj w lo z d u4 u5 u6 u7) (s:Int):Cj (w.setCell ⟨z,30,none⟩ (.i s)) lo z (withSt d s) u4 u5 u6 u7:=by
 obtain ⟨D,u0,u1,u2,u3,ob,iv,ov,o6,o7,HQ,hz,B0⟩:=H.ex;have T:=Ph w z 30 (.i s);have H1:=(HQ.keepD T (fun i b o h (e:b=z)=>hz i b h e)).upTo T.size (Nat.le_refl _);have k:=Am (o:=30) B0 (.i s);simp only [Sa,Sb,Sc] at k;exact ⟨D,u0,u1,u2,u3,ob,iv,ov,o6,o7,⟨H1.h0,H1.h1,H1.h2,H1.h3,H1.h5,H1.h5D,H1.h6,H1.h6D,H1.h7,H1.h7D,H1.dis,H1.bd,H1.nN,H1.hps⟩,hz,k⟩
theorem Cj.t {w:World} {lo z:Nat} {d:Aq} {u4 u5 u6 u7:Value} (H:Cj w lo z d u4 u5 u6 u7):w.cell? ⟨z,12,none⟩=some (.i d.t):=by
 obtain ⟨D,u0,u1,u2,u3,ob,iv,ov,o6,o7,HQ,hz,B0⟩:=H.ex;exact Af B0 12
theorem Cj.st {w:World} {lo z:Nat} {d:Aq} {u4 u5 u6 u7:Value} (H:Cj w lo z d u4 u5 u6 u7):w.cell? ⟨z,30,none⟩=some (.i d.st)/\w.frozen? ⟨z,30,none⟩=false:=by
 obtain ⟨D,u0,u1,u2,u3,ob,iv,ov,o6,o7,HQ,hz,B0⟩:=H.ex;exact ⟨Af B0 30,Au B0 30⟩
theorem Cj.bits {w:World} {lo z:Nat} {d:Aq} {u4 u5 u6 u7:Value} (H:Cj w lo z d u4 u5 u6 u7):w.cell? ⟨z,29,none⟩=some (.bool d.nmi)/\w.frozen? ⟨z,29,none⟩=false/\w.cell? ⟨z,26,none⟩=some (.bool d.R)/\w.cell? ⟨z,11,none⟩=some (.bool d.I):=by
 obtain ⟨D,u0,u1,u2,u3,ob,iv,ov,o6,o7,HQ,hz,B0⟩:=H.ex;exact ⟨Af B0 29,Au B0 29,Af B0 26,Af B0 11⟩
theorem Jg7 (w:World) (lo z:Nat) (d:Aq) (u4 u5 u6 u7:Value) (H:Cj w lo z d u4 u5 u6 u7) (hlo:lo<=z) (hL:OkL d) (hT:Da w) (hv:0<lo) (hnq:d.nq<1048576):Calls prog 51 #[(pt z 0)] w fun e w'=>e=.returned (.i (actN d))/\Bz w w' lo z u4 u5 u6 u7 (actD d):=by
 obtain ⟨c29,f29,c26,c11⟩:=H.bits;have HR:=Ac (Je2 w lo z d u4 u5 u6 u7 H hlo hL hT hv hnq);have HE:=Ac (Y8 w lo z d u4 u5 u6 u7 H hlo hL.nr hL.row 65534);have HM:=Ac (Y8 _ lo z (noNmi d) u4 u5 u6 u7 H.nmi hlo hL.nr hL.row 65530);have G0:=Ac (Goes.box (Ph w z 29 (.bool false)) u4 u5 u6 u7)
 by_cases hn:d.nmi=true
 .have HA:Hid (actN d=7/\actD d=Mt (noNmi d) 65530):=⟨if_pos hn,if_pos hn⟩
  rw [HA.out.1,HA.out.2];rw [hn] at c29;clear HR HE HA H
  go_enter func51,ntmps51
  go_wp2_with fail;refine HM.out.mono ?_;rintro e W ⟨rfl,T⟩;go_wp2;go_ret;exact ⟨rfl,Bz.trans G0.out T⟩
 have hn':d.nmi=false:=by simpa using hn
 rw [hn'] at c29;clear HM G0;cases hr:d.R
 .rw [hr] at c26
  have HA:Hid (actN d=cycT (opO d)/\actD d=opD d (opO d) (opA d)):=⟨(if_neg hn).trans (if_neg (by rw [hr]; simp)),(if_neg hn).trans (if_neg (by rw [hr]; simp))⟩
  rw [HA.out.1,HA.out.2];clear HE HA H
  go_enter func51,ntmps51
  go_wp2_with fail;refine HR.out.mono ?_;rintro e W ⟨rfl,T⟩;go_wp2;go_ret;exact ⟨rfl,T⟩
 .rw [hr] at c26
  cases hi:d.I
  .rw [hi] at c11
   have HA:Hid (actN d=7/\actD d=Mt d 65534):=⟨(if_neg hn).trans (if_pos (by rw [hr,hi]; rfl)),(if_neg hn).trans (if_pos (by rw [hr,hi]; rfl))⟩
   rw [HA.out.1,HA.out.2];clear HR HA H
   go_enter func51,ntmps51
   go_wp2_with fail;refine HE.out.mono ?_;rintro e W ⟨rfl,T⟩;go_wp2;go_ret;exact ⟨rfl,T⟩
  .rw [hi] at c11
   have HA:Hid (actN d=cycT (opO d)/\actD d=opD d (opO d) (opA d)):=⟨(if_neg hn).trans (if_neg (by rw [hr,hi]; simp)),(if_neg hn).trans (if_neg (by rw [hr,hi]; simp))⟩
   rw [HA.out.1,HA.out.2];clear HE HA H
   go_enter func51,ntmps51
   go_wp2_with fail;refine HR.out.mono ?_;rintro e W ⟨rfl,T⟩;go_wp2;go_ret;exact ⟨rfl,T⟩
structure Jdg (w W:World) (lo z:Nat) (v4 v5 v6 v7:Value) (d:Aq) (n:Nat) (left:Value):Prop where
 ex:∃ k:Nat,k<=n/\d.t+k<=20000/\left=.i (n-k:Int)/\∃ b4 b5 b6 b7,Cj W lo z (tickN k d) b4 b5 b6 b7/\Goes w W z v4 v5 v6 v7 b4 b5 b6 b7
theorem Jgh (w:World) (lo z:Nat) (d:Aq) (v4 v5 v6 v7:Value) (H:Cj w lo z d v4 v5 v6 v7) (hlo:lo<=z) (hok:Ie d) (n:Nat) (hn:n<=100):Calls prog 52 #[(pt z 0),.i n] w fun e w'=>e=.returned (.bool (decide (d.t+n<=20000)))/\∃ k:Nat,(d.t+n<=20000->k=n)/\Bz w w' lo z v4 v5 v6 v7 (tickN k d):=by
 have t1:=hok.ppu.t1
 have I0:Jdg w w lo z v4 v5 v6 v7 d n (.i n):=⟨0,Nat.zero_le _,by omega,by simp,_,_,_,_,H,Goes.refl _ _ _ _ _ _⟩
 go_enter func52,ntmps52
 go_wp2
 go_step3
 go_wp2
 go_step3
 go_wp2
 go_loopw [5] (fun i wr=>Jdg w wr lo z v4 v5 v6 v7 d n i) (fun i _=>(intOf i).toNat)
 case atStart=>exact I0
 case round =>
  clear I0;obtain ⟨k,hk,hk2,rfl,b4,b5,b6,b7,HB,G⟩:=hrel;have c12:=HB.t;rw [Ls k d hk2] at c12
  by_cases h0:k=n
  .subst h0
   have HF:=Ac (And.intro HB G);have hd:decide (d.t+(k:Int)<=20000)=true:=decide_eq_true hk2
   have e0:((k:Int)-k)=0:=by omega
   rw [e0];clear HB G c12;go_wp2
   (try rw [Exit.noGoto_ret])
   go_ret;exact ⟨Ap hd.symm,k,fun _=>rfl,_,_,_,_,HF.out.1,HF.out.2⟩
  .obtain ⟨m,hm⟩:∃ m:Int,Hid (m=(n:Int)-k):=⟨_,rfl⟩
   have hm1:0<m:=by rw [hm.out]; omega
   have hm2:m<=100:=by rw [hm.out]; omega
   rw [<- hm.out]
   by_cases hE:d.t+(k:Int)=20000
   .rw [hE] at c12
    have HF:=Ac (And.intro HB G);have hd:decide (d.t+(n:Int)<=20000)=false:=decide_eq_false (by omega);have hm0:(m==0)=false:=beq_eq_false_iff_ne.2 (by omega)
    have hno:¬ d.t+(n:Int)<=20000:=by omega
    clear HB G;go_wp2
    (try rw [Exit.noGoto_ret])
    go_ret;exact ⟨Ap hd.symm,k,fun h=>absurd h (by omega),_,_,_,_,HF.out.1,HF.out.2⟩
   .obtain ⟨tt,htt⟩:∃ x,Hid (x=d.t+(k:Int)):=⟨_,rfl⟩
    rw [<- htt.out] at c12;have hne:(tt==20000)=false:=beq_eq_false_iff_ne.2 (by rw [htt.out]; exact hE);have HC:=Ac (Jgg wr lo z (tickN k d) b4 b5 b6 b7 HB hlo (Ie.ticks k hok hk2) (by rw [Ls k d hk2]; exact hE));clear HB;go_wp2_with fail;refine HC.out.mono ?_;rintro e W ⟨rfl,T⟩;obtain ⟨c4,c5,c6,c7,HB',G'⟩:=T.ex;rw [<- Ke] at HB'
    have HF:Hid (Jdg w W lo z v4 v5 v6 v7 d n (.i (m-1))):=⟨k+1,by omega,by push_cast; omega,by rw [hm.out]; congr 1; push_cast; omega,c4,c5,c6,c7,HB',G.trans G'⟩
    clear HB' G G' T c12;go_wp2
    go_round
    case rel=>exact HF.out
    case measure=>simp [intOf]; omega
def InC (c:A7):Prop:=(0<=c.A/\c.A<=255)/\(0<=c.X/\c.X<=255)/\(0<=c.S/\c.S<=255)/\0<=c.Pc/\c.Pc<=65535
def InG (g:Nat->Int):Prop:=∀ j,j<512->0<=g j/\g j<=255
theorem InG.push {g:Nat->Int} (h:InG g) (S v:Int):InG (B4 g S v):=by
 intro j hj;have h1:=h j hj;unfold B4 Fq
 split <;> omega
theorem Je5 {p:Prop} [Decidable p] {a b:A7} (h1:InC a) (h2:InC b):InC (if p then a else b):=by split <;> assumption
theorem Jdr (g:Nat->Int) (c:A7) (op arg v:Int) (h:InC c):InC (Ee g c op arg v):=by
 unfold InC at h;unfold Ee aluC
 repeat' refine Je5 ?_ ?_
 all_goals unfold InC; simp only [setAc,Vp,addC,Jg4,Jg5,nextC,Lk,dec8]; omega
structure Kept (e d:Aq):Prop where
 m:e.m=d.m
 ln:e.ln=d.ln
 f:e.f=d.f
 nr:e.nr=d.nr
 np:e.np=d.np
 p:e.p=d.p
 bank:0<=d.bank/\d.bank<=(d.m:Int)-1->0<=e.bank/\e.bank<=(d.m:Int)-1
 row:InG d.g->InG e.g
 sh:0<=d.sh/\d.sh<=255->0<=e.sh/\e.sh<=255
 cpu:InC (Dy d)->InC (Dy e)
theorem Kept.refl (d:Aq):Kept d d:=⟨rfl,rfl,rfl,rfl,rfl,rfl,id,id,id,id⟩
theorem Jbk (d:Aq) (a:Int):Kept (Cl d a) d:=by
 unfold Cl;split
 .exact ⟨rfl,rfl,rfl,rfl,rfl,rfl,id,id,id,id⟩
 .split
  .exact ⟨rfl,rfl,rfl,rfl,rfl,rfl,id,id,id,id⟩
  .split
   .refine ⟨rfl,rfl,rfl,rfl,rfl,rfl,id,id,fun h=>?_,id⟩
    show 0<=De d.hd d.sh d.np d.p d.t/\De d.hd d.sh d.np d.p d.t<=255
    unfold De;split
    .exact U0 _ _ _
    .omega
   .exact .refl d
theorem Yo (d:Aq) (a y:Int):Kept (Br d a y) d:=by
 unfold Br;split
 .exact ⟨rfl,rfl,rfl,rfl,rfl,rfl,id,id,id,id⟩
 .split
  .exact ⟨rfl,rfl,rfl,rfl,rfl,rfl,id,id,id,id⟩
  .split
   .refine ⟨rfl,rfl,rfl,rfl,rfl,rfl,id,id,fun h=>?_,id⟩
    show 0<=Ec d.hd d.sh d.np d.p d.t y/\Ec d.hd d.sh d.np d.p d.t y<=255
    unfold Ec;split
    .exact U0 _ _ _
    .omega
   .refine ⟨rfl,rfl,rfl,rfl,rfl,rfl,fun h=>?_,fun h=>Vw h _ _ _,id,id⟩
    show 0<=Fb true d.m d.bank (a%65536) y/\Fb true d.m d.bank (a%65536) y<=_
    unfold Fb;split
    .have h1:=Int.emod_nonneg (y%256) (show (d.m:Int)≠0 by omega)
     have h2:=Int.emod_lt_of_pos (y%256) (show (0:Int)<(d.m:Int) by omega)
     omega
    .exact h
theorem Jds (d:Aq):Kept (actD d) d:=by
 have en:∀ (e:Aq) (x:Int),Kept (Mt e x) e:=fun e x=>⟨rfl,rfl,rfl,rfl,rfl,rfl,id,fun h=>((InG.push h _ _).push _ _).push _ _,id,fun h=>by
  unfold InC at *
  have h1:∀ k,0<=dec8 k/\dec8 k<=255:=fun k=>by unfold dec8; omega
  have h2:=h1 (dec8 (dec8 e.S));refine ⟨h.1,h.2.1,h2,?_⟩
  show 0<=E7 e.m e.ln e.f (enterG e.g e.S e.Pc e.Z e.N e.C e.I) e.bank x/\E7 e.m e.ln e.f (enterG e.g e.S e.Pc e.Z e.N e.C e.I) e.bank x<=_
  unfold E7
  omega⟩
 unfold actD;split
 .have h:=en (noNmi d) 65530
  exact ⟨h.m,h.ln,h.f,h.nr,h.np,h.p,h.bank,h.row,h.sh,h.cpu⟩
 .split
  .exact en d _
  .have h:Kept (Cq d (opO d) (opA d)) d:=by
    unfold Cq;split
    .exact Jbk _ _
    .split
     .exact Yo _ _ _
     .exact .refl d
   refine ⟨h.m,h.ln,h.f,h.nr,h.np,h.p,h.bank,fun r=>?_,h.sh,fun c=>Jdr _ _ _ _ _ (h.cpu c)⟩
   show InG (Ev _ _ _)
   unfold Ev;have r':=h.row r;split
   .exact (r'.push _ _).push _ _
   .split
    .exact r'.push _ _
    .exact r'
theorem Pq:∀ (k:Nat) (d:Aq),Kept (tickN k d) d
 | 0,d=>.refl d
 | k+1,d=>by
  have h:=Pq k (Ds d);exact ⟨h.m,h.ln,h.f,h.nr,h.np,h.p,h.bank,h.row,h.sh,h.cpu⟩
theorem Pr (d:Aq):1<=actN d:=by
 have key:∀ k:Fin 30,1<=Hc.getD k.1 2:=by decide
 unfold actN cycT;split
 .omega
 .split
  .omega
  .split
   .exact key ⟨(opO d).toNat,by omega⟩
   .omega
theorem Ze {d:Aq} (hb:D7 d=true) (h:okLock d=true):(stepD d).t=d.t+actN d/\(stepD d).st=d.st+1:=by
 have hL:=It h;have hb':(actD d).t+actN d<=20000:=of_decide_eq_true hb;have hn:=Pr d;obtain ⟨e1,e2,-⟩:=Ge d hL.row;have e3:=Ls (actN d).toNat (actD d) (by omega);refine ⟨?_,?_⟩
 .show (tickN (actN d).toNat (actD d)).t=_
  rw [e3,e1]
  omega
 .show (tickN (actN d).toNat (actD d)).st+1=_
  have key:∀ (k:Nat) (x:Aq),(tickN k x).st=x.st:=fun k=>by
   induction k with
   | zero=>intro x; rfl
   | succ k ih=>intro x; exact ih (Ds x)
  rw [key,e2]
theorem Wh {d:Aq} (h:okLock d=true) (hb:D7 d=true):okLock (stepD d)=true:=by
 have hL:=It h;obtain ⟨f1,f2⟩:=Ze hb h;have hb':(actD d).t+actN d<=20000:=of_decide_eq_true hb;have hn:=Pr d;have T:=hL.t.act.ticks (actN d).toNat (by omega);have K:=Jds d;have E:=Pq (actN d).toNat (actD d);refine (Jge (d:=stepD d) ⟨T.ppu,T.apu,T.same,T.lf,T.mf,T.ns⟩ ?_ ?_ ?_ ?_ ?_ ?_ ?_ ?_).ok
 .show Fp (tickN (actN d).toNat (actD d)).m (tickN (actN d).toNat (actD d)).ln (tickN (actN d).toNat (actD d)).f=true
  rw [E.m,E.ln,E.f,K.m,K.ln,K.f];exact hL.img
 .exact (E.nr.trans K.nr).trans hL.nr
 .have b1:=K.bank hL.bank
  have em:((stepD d).m:Int)=d.m:=by rw [show (stepD d).m=_ from E.m,K.m]
  have b2:=E.bank (by rw [K.m]; exact b1);rw [K.m] at b2;rw [em];exact b2
 .exact E.row (K.row hL.row)
 .show Du (tickN (actN d).toNat (actD d)).np (tickN (actN d).toNat (actD d)).p=true
  rw [E.np,E.p,K.np,K.p];exact hL.pads
 .exact E.cpu (K.cpu hL.cpu)
 .exact E.sh (K.sh hL.sh)
 .rw [f1,f2]
  have:=hL.st
  omega
def Wi (d:Aq):Bool:=d.nmi || (d.R && !d.I)
theorem Jdt {d:Aq} (h:Wi d=true):actN d=7:=by
 unfold actN;split
 .rfl
 .rename_i h1
  unfold Wi at h;rw [Bool.not_eq_true] at h1;rw [h1,Bool.false_or] at h;rw [if_pos h]
theorem Je6 {d:Aq} (h:Wi d=false):actN d=cycT (opO d):=by
 unfold Wi at h;rw [Bool.or_eq_false_iff] at h;unfold actN;rw [h.1,h.2]
 rfl
theorem Je7 {d:Aq} (h:Wi d=true):(stepD d).I=true:=by
 have key:∀ (k:Nat) (x:Aq),(tickN k x).I=x.I:=fun k=>by
  induction k with
  | zero=>intro x; rfl
  | succ k ih=>intro x; exact ih (Ds x)
 show (tickN (actN d).toNat (actD d)).I=true
 rw [key];unfold actD;split
 .rfl
 .rename_i h1
  unfold Wi at h;rw [Bool.not_eq_true] at h1;rw [h1,Bool.false_or] at h;rw [if_pos h]
  rfl
set_option maxHeartbeats 8000000
set_option maxRecDepth 20000
theorem SA.onF {R:Nat->Nat->Prop} {W W':World} {lo m:Nat} {v:Value} {ob:Nat->Option Nat} {iv ov:Nat->Value} {ln:Nat->Nat} {f:Nat->Nat->Int} (H:SA W lo v m m ob iv ov ln f) (hw:Wrote R W W') (ho:∀ b o,v.ownBlock=some b->o<m->¬ R b o) (hr:∀ i b o,i<m->ob i=some b->¬ R b o) {D:Nat->Prop} (hD:∀ b,(v.ownBlock=some b\/∃ i,i<m/\ob i=some b)->D b) (hs:Dw ln m<=1099511627776):Cu W' D v m ln f:=by
 have hsl:∀ i,i<m->iv i=.slice (slA (iv i)) (ln i) (slC (iv i))/\Bu W' (fun b=>ob i=some b) (slA (iv i)) (ln i) (f i):=fun i hi=>by
  obtain ⟨a,x,e,hS⟩:=((H.rows i hi).keep hw (fun b hb _ _ o=>hr i b o hi hb)).sl;rw [e];exact ⟨rfl,hS⟩
 rcases id H.own.2 with ⟨e,e0⟩ | ⟨g,c,cur,hv,hb,hg,k1,k2,k3,k4⟩
 .have hq:m=0:=e0
  subst hq;subst e;refine ⟨fun _=>none,fun _=>0,⟨⟨none,0,rfl,by omega,fun i hi=>absurd hi (Nat.not_lt_zero _)⟩,fun i hi=>absurd hi (Nat.not_lt_zero _),fun i j hi=>absurd hi (Nat.not_lt_zero _),hs⟩,fun i hi=>absurd hi (Nat.not_lt_zero _),fun i hi=>absurd hi (Nat.not_lt_zero _),fun a cap e b o hF=>absurd hF (A4 _ _ _),fun i hi=>absurd hi (Nat.not_lt_zero _)⟩
 .subst hv
  have hob:(Value.slice (some ⟨g,0,none⟩) m c).ownBlock=some g:=rfl;refine ⟨fun i=>slA (iv i),fun i=>slC (iv i),⟨⟨_,_,rfl,H.small,fun i hi=>⟨g,0,rfl,?_,fun j hj hF=>H.dj g hob j hj ((hsl j hj).2.on _ _ hF)⟩⟩,fun i hi=>(hsl i hi).2.free,fun i j hi hj hij b o h1 h2=>H.inj i j hi hj hij b ((hsl i hi).2.on _ _ h1) ((hsl j hj).2.on _ _ h2),hs⟩,fun i hi=>(hsl i hi).2.row,fun i hi b o hF=>hD b (Or.inr ⟨i,hi,(hsl i hi).2.on _ _ hF⟩),fun a cap e b o hF=>?_,fun i hi=>(hsl i hi).2.small⟩
  .rw [Nat.zero_add,hw.cell g i (block_lt_of_cell (H.cell hi)) (ho g i hob hi),H.cell hi,if_pos hi]
   exact congrArg some (hsl i hi).1
  .simp only [Value.slice.injEq,true_and] at e
   obtain ⟨rfl,-⟩:=e;obtain ⟨off,e,_,_⟩:=hF;simp only [Option.some.injEq,Addr.mk.injEq] at e;rw [<- e.1];exact hD _ (Or.inl rfl)
theorem A8.onF {R:Nat->Nat->Prop} {W W':World} {lo:Nat} {o:Option Nat} {v:Value} {n:Nat} {f:Nat->Int} (h:A8 W lo o v n f) (hw:Wrote R W W') (hd:∀ b k,o=some b->k<n->¬ R b k) {D:Nat->Prop} (hD:∀ b,o=some b->D b):∃ a x,v=.slice a n x/\Bu W' D a n f/\Bu W (fun b=>o=some b) a n f:=by
 obtain ⟨a,x,e,hS⟩:=h.sl;refine ⟨a,x,e,(hS.keep hw (fun b k hF hb _=>hd b k hb ?_)).mono (fun b _ h=>hD b h),hS⟩
 cases o with
 | none=>cases hb
 | some q =>
  obtain ⟨y,rfl,-⟩:=h;simp only [Value.slice.injEq,true_and] at e;obtain ⟨rfl,-⟩:=e;obtain ⟨off,e,h1,h2⟩:=hF;simp only [Option.some.injEq,Addr.mk.injEq,and_true] at e
  omega
theorem B7.onF {W W':World} {lo N z:Nat} {D:Nat->Nat->Prop} {u0 u1 u2 u3 u4 u5 u6 u7:Value} {ob:Nat->Option Nat} {iv ov:Nat->Value} {o6 o7:Option Nat} {d:Aq} (H:B7 W lo N D u0 u1 u2 u3 u4 u5 u6 u7 ob iv ov o6 o7 d) (hw:Wrote (RL z u4 u5 u6 u7) W W') (hz:∀ i b,D i b->b≠z):Aw W' D (.agg (kR d u0 u1 u2 u3 u4 u5 u6 u7)) d:=by
 have k4:∀ b o,spare u4 b o->D 3 b:=fun b o h=>H.h3.spare4 h
 have k5:∀ b o,spare u5 b o->u5.ownBlock=some b/\d.mf<=o:=fun b o ⟨n,c,e,h⟩=>by
  obtain ⟨a',c',e'⟩:=H.h5.form;rw [e] at e';simp only [Value.slice.injEq] at e';exact ⟨by rw [e]; rfl,by omega⟩
 have kr:∀ {o:Option Nat} {u:Value} {n:Nat} {f:Nat->Int},A8 W lo o u n f->∀ b k,spare u b k->o=some b/\n<=k:=fun hR b k h=>by
  refine ⟨Ew hR h,?_⟩;obtain ⟨n1,c1,e,hk⟩:=h;obtain ⟨a',c',e'⟩:=hR.form;rw [e] at e';simp only [Value.slice.injEq] at e'
  omega
 have far:∀ i b o,D i b->RL z u4 u5 u6 u7 b o->i=3\/i=4\/i=5\/i=6:=fun i b o hi h=>by
  rcases h with h | h | h | h | h
  .exact absurd h (hz i b hi)
  .exact Or.inl (H.dis i 3 b hi (k4 b o h))
  .exact Or.inr (Or.inl (H.dis i 4 b hi (H.h5D b (Or.inl (k5 b o h).1))))
  .exact Or.inr (Or.inr (Or.inl (H.dis i 5 b hi (H.h6D b (kr H.h6 b o h).1))))
  .exact Or.inr (Or.inr (Or.inr (H.dis i 6 b hi (H.h7D b (kr H.h7 b o h).1))))
 obtain ⟨v3,v4,o1,o2,e34,R1,R2,h12,d3⟩:=H.h3.ex;simp only [Value.agg.injEq,Array.mk.injEq,List.cons.injEq,and_true,true_and] at e34;obtain ⟨rfl,rfl⟩:=e34
 have in3:∀ b o,D 3 b->RL z u4 u5 u6 u7 b o->spare u4 b o:=fun b o hb h=>by
  rcases h with h | h | h | h | h
  .exact absurd h (hz 3 b hb)
  .exact h
  .have:=H.dis 3 4 b hb (H.h5D b (Or.inl (k5 b o h).1)); omega
  .have:=H.dis 3 5 b hb (H.h6D b (kr H.h6 b o h).1); omega
  .have:=H.dis 3 6 b hb (H.h7D b (kr H.h7 b o h).1); omega
 obtain ⟨a1,x1,rfl,S1,T1⟩:=R1.onF hw (fun b k hb hk hr=>by
  have:=(kr R2 b k (in3 b k (d3 b (Or.inl hb)) hr)).1
  exact h12 b hb this) (D:=D 3) (fun b h=>d3 b (Or.inl h))
 obtain ⟨a2,x2,e2,S2,T2⟩:=R2.onF hw (fun b k hb hk hr=>by
  have:=(kr R2 b k (in3 b k (d3 b (Or.inr hb)) hr)).2
  omega) (D:=D 3) (fun b h=>d3 b (Or.inr h))
 obtain ⟨a6,x6,e6,S6,-⟩:=H.h6.onF hw (fun b k hb hk hr=>by
  have hD:=H.h6D b hb
  rcases hr with h | h | h | h | h
  .exact hz 5 b hD h
  .have:=H.dis 5 3 b hD (k4 b k h); omega
  .have:=H.dis 5 4 b hD (H.h5D b (Or.inl (k5 b k h).1)); omega
  .have:=(kr H.h6 b k h).2; omega
  .have:=H.dis 5 6 b hD (H.h7D b (kr H.h7 b k h).1); omega) H.h6D
 obtain ⟨a7,x7,e7,S7,-⟩:=H.h7.onF hw (fun b k hb hk hr=>by
  have hD:=H.h7D b hb
  rcases hr with h | h | h | h | h
  .exact hz 6 b hD h
  .have:=H.dis 6 3 b hD (k4 b k h); omega
  .have:=H.dis 6 4 b hD (H.h5D b (Or.inl (k5 b k h).1)); omega
  .have:=H.dis 6 5 b hD (H.h6D b (kr H.h6 b k h).1); omega
  .have:=(kr H.h7 b k h).2; omega) H.h7D
 have S5:=H.h5.onF hw (fun b k hb hk hr=>by
  have hD:=H.h5D b (Or.inl hb)
  rcases hr with h | h | h | h | h
  .exact hz 4 b hD h
  .have:=H.dis 4 3 b hD (k4 b k h); omega
  .have:=(k5 b k h).2; omega
  .have:=H.dis 4 5 b hD (H.h6D b (kr H.h6 b k h).1); omega
  .have:=H.dis 4 6 b hD (H.h7D b (kr H.h7 b k h).1); omega) (fun i b k hi hb hr=>by
  have hD:=H.h5D b (Or.inr ⟨i,hi,hb⟩)
  rcases hr with h | h | h | h | h
  .exact hz 4 b hD h
  .have:=H.dis 4 3 b hD (k4 b k h); omega
  .exact H.h5.dj b (k5 b k h).1 i hi hb
  .have:=H.dis 4 5 b hD (H.h6D b (kr H.h6 b k h).1); omega
  .have:=H.dis 4 6 b hD (H.h7D b (kr H.h7 b k h).1); omega) H.h5D H.hps
 refine ⟨u0,u1,u2,_,u4,u5,u6,u7,rfl,H.h0.keep hw (fun b o h _ x=>by have:=far 0 b o h x; omega),H.h1.keep hw (fun b o h _ x=>by have:=far 1 b o h x; omega),H.h2.keep hw (fun b o h _ x=>by have:=far 2 b o h x; omega),⟨a1,x1,a2,x2,by rw [e2],S1,S2,Ul T1 T2 (fun b h=>h12 b h)⟩,⟨u5,u6,u7,rfl,S5,⟨a6,x6,e6,S6⟩,⟨a7,x7,e7,S7⟩⟩⟩
theorem Jdh (w:World) (pd pw pl z:Nat) (b:Bool) (cs old:Array Value) (T1 T2:TypeId) (kd:w.heap[pd]?=some (.cells #[.bool b] T1 (0,0))) (kw:w.heap[pw]?=some (.cells cs 41 (0,0))) (kl:w.heap[pl]?=some (.cells #[(pt z 0)] T2 (0,0))) (kz:w.heap[z]?=some (.cells old 41 (0,0))) (hs:cs.size=34) (ho:old.size=34) (h1:cs.all (·.oneCell')=true) (u:FrameMode) :
  CallsD prog 50 #[(pt pd 0),(pt pw 0),(pt pl 0)] u w fun e u' w'=>u'=u/\(e=.returned (.tuple #[])/\w'=if b=true then w else w.setRow z cs):=by
 have cd:=Af kd 0;have cl:=Af kl 0
 go_enter_d func50,ntmps50
 cases b
 .go_upto_region 1 with (fail)
  refine wp_region_lit ?_;refine wpList_plain rfl (fun K9 hK9=>?_);go_simp;refine hK9 _ _ ?_;clear hK9;refine wpList_load_row rfl _ _ rfl pw rfl _ _ _ _ kw underlying41 rfl (infoAt An hs) ?_;refine wpList_plain rfl (fun K9 hK9=>?_);go_simp;refine hK9 _ _ ?_;clear hK9;refine wpList_store_row rfl _ _ _ rfl z cs rfl rfl _ _ kz (infoAt An hs) (by rw [ho,hs]) h1 ?_;go_simp;go_wp2
  go_end0
  exact ⟨rfl,rfl⟩
 .go_wp2
  go_end0
  exact ⟨rfl,rfl⟩
theorem Bu.avoid {W:World} {D:Nat->Prop} {a:Option Addr} {n:Nat} {f:Nat->Int} {p:Nat} (h:Bu W D a n f) (hp:∀ o x,W.cell? ⟨p,o,none⟩≠some (.i x)):Bu W (fun b=>D b/\b≠p) a n f :=
 ⟨h.small,h.row,h.free,fun b o hF=>⟨h.on b o hF,fun e=>by
  subst e;obtain ⟨off,rfl,h1,h2⟩:=hF;obtain ⟨b',off',e,hc⟩:=h.row (o-off) (by omega);simp only [Option.some.injEq,Addr.mk.injEq,and_true] at e;obtain ⟨rfl,rfl⟩:=e
  exact hp _ _ hc⟩⟩
theorem Cu.avoid {W:World} {D:Nat->Prop} {u:Value} {m:Nat} {ln:Nat->Nat} {f:Nat->Nat->Int} {p:Nat} (h:Cu W D u m ln f) (hp:∀ o x,W.cell? ⟨p,o,none⟩≠some (.i x)) (hq:∀ o a n c,W.cell? ⟨p,o,none⟩≠some (.slice a n c)):Cu W (fun b=>D b/\b≠p) u m ln f:=by
 obtain ⟨ra,rc,⟨⟨a,cap,hv,hm,ho⟩,hf,hdj,hs⟩,hr,hi,hou,hl⟩:=h;refine ⟨ra,rc,⟨⟨a,cap,hv,hm,ho⟩,hf,hdj,hs⟩,hr,fun i hi' b o hF=>⟨hi i hi' b o hF,fun e=>?_⟩,fun a' cap' hv' b o hF=>⟨hou a' cap' hv' b o hF,fun e=>?_⟩,hl⟩
 .subst e
  obtain ⟨off,e,h1,h2⟩:=hF;obtain ⟨b',off',e',hc⟩:=hr i hi' (o-off) (by omega);rw [e] at e';simp only [Option.some.injEq,Addr.mk.injEq,and_true] at e';obtain ⟨rfl,rfl⟩:=e';exact hp _ _ hc
 .subst e
  rw [hv] at hv';simp only [Value.slice.injEq,true_and] at hv';obtain ⟨rfl,-⟩:=hv';obtain ⟨off,e,h1,h2⟩:=hF;obtain ⟨b',off',e',hc,-⟩:=ho (o-off) (by omega);rw [e] at e';simp only [Option.some.injEq,Addr.mk.injEq,and_true] at e';obtain ⟨rfl,rfl⟩:=e';exact hq _ _ _ _ hc
theorem Aw.avoid {W:World} {D:Nat->Nat->Prop} {v:Value} {d:Aq} {p:Nat} (H:Aw W D v d) (hp:∀ o x,W.cell? ⟨p,o,none⟩≠some (.i x)) (hq:∀ o a n c,W.cell? ⟨p,o,none⟩≠some (.slice a n c)):Aw W (fun i b=>D i b/\b≠p) v d:=by
 obtain ⟨u0,u1,u2,u3,u4,u5,u6,u7,e,h0,⟨a1,z1,e1,s1⟩,⟨a2,c2,e2,hn,hr,hf,hd⟩,⟨a3,x3,a4,x4,e3,s3,s4,ap⟩,v5,v6,v7,e5,h5,⟨a6,z6,e6,s6⟩,⟨a7,z7,e7,s7⟩⟩:=H
 have s2:Bu W (D 2) a2 d.nr d.g:=⟨hn,hr,hf,hd⟩
 have s2':=s2.avoid hp;exact ⟨u0,u1,u2,u3,u4,u5,u6,u7,e,h0.avoid hp hq,⟨a1,z1,e1,s1.avoid hp⟩,⟨a2,c2,e2,s2'.small,s2'.row,s2'.free,s2'.on⟩,⟨a3,x3,a4,x4,e3,s3.avoid hp,s4.avoid hp,ap⟩,v5,v6,v7,e5,h5.avoid hp hq,⟨a6,z6,e6,s6.avoid hp⟩,⟨a7,z7,e7,s7.avoid hp⟩⟩
theorem Cj.kind {W:World} {lo z:Nat} {d:Aq} {u4 u5 u6 u7:Value} (H:Cj W lo z d u4 u5 u6 u7) {b o:Nat} (h:RL z u4 u5 u6 u7 b o):b=z\/∃ cur t,W.heap[b]?=some (.cells cur t (0,0))/\(t=3\/t=27):=by
 obtain ⟨D,u0,u1,u2,u3,ob,iv,ov,o6,o7,HQ,hz,B0⟩:=H.ex
 have kr:∀ {o:Option Nat} {u:Value} {n:Nat} {f:Nat->Int} {k:Nat},A8 W lo o u n f->spare u b k->∃ cur t,W.heap[b]?=some (.cells cur t (0,0))/\(t=3\/t=27):=fun hR h=>by
  have e:=Ew hR h;subst e;obtain ⟨y,-,r⟩:=hR;obtain ⟨-,-,-,cur,hc⟩:=r.parts;exact ⟨cur,3,hc,Or.inl rfl⟩
 rcases h with h | h | h | h | h
 .exact Or.inl h
 .obtain ⟨v3,v4,o1,o2,e34,R1,R2,h12,d3⟩:=HQ.h3.ex
  simp only [Value.agg.injEq,Array.mk.injEq,List.cons.injEq,and_true,true_and] at e34;obtain ⟨rfl,rfl⟩:=e34;exact Or.inr (kr R2 h)
 .obtain ⟨n,c,rfl,-⟩:=h
  rcases HQ.h5.own.2 with ⟨e,_⟩ | ⟨g,c',cur,hv,hb,hg,_⟩
  .cases e
  .simp only [Value.slice.injEq,Option.some.injEq,Addr.mk.injEq,and_true] at hv
   obtain ⟨rfl,-,-⟩:=hv;exact Or.inr ⟨cur,_,hg,Or.inr rfl⟩
 .exact Or.inr (kr HQ.h6 h)
 .exact Or.inr (kr HQ.h7 h)
structure Jdi (w W:World) (lo z:Nat) (d:Aq):Prop where
 ex:∃ D cs,W.heap[z]?=some (.cells cs 41 (0,0))/\cs.size=34/\cs.all (·.oneCell')=true/\Aw W D (.agg cs) (if D7 d=true then stepD d else d)/\Dis D/\∀ i b,D i b->lo<=b/\b<W.heap.size/\b≠z
 low:Below lo w W
theorem Ie.withSt {d:Aq} (h:Ie d) (s:Int):Ie (withSt d s):=⟨h.ppu,h.apu,h.same,h.lf,h.mf,h.ns⟩
theorem Jgi (w:World) (lo z:Nat) (d:Aq) (u4 u5 u6 u7:Value) (H:Cj w lo z d u4 u5 u6 u7) (hlo:lo<=z) (hL:OkL d) (hT:Da w) (hv:0<lo) (hnq:d.nq<1048576):Calls prog 16 #[(pt z 0)] w fun e w'=>e=.returned (.bool (D7 d))/\Jdi w w' lo z d:=by
 have HTOP:=Ac (fun (b o:Nat) (h:RL z u4 u5 u6 u7 b o)=>H.top h);have HLOW:=Ac (fun (b o:Nat) (h:RL z u4 u5 u6 u7 b o)=>H.low hlo h);have HH:=Ac H;obtain ⟨D,u0,u1,u2,u3,ob,iv,ov,o6,o7,HQ,hz,B0⟩:=H.ex;clear H;obtain ⟨c',e',hs,h1⟩:=HQ.on.agg;simp only [Value.agg.injEq] at e'
 obtain ⟨cs,hcs⟩:∃ x,Hid (x=(kR d u0 u1 u2 u3 u4 u5 u6 u7)):=⟨_,rfl⟩
 rw [<- hcs.out] at B0 e';subst e';have HQH:=Ac HQ;have hzl:=Ad B0;clear HQ;have L0:Below w.heap.size w ((w.alloc (.cells #[(pt z 0)] 82)).alloc (.cells #[.bool false] 4)):=((Below.refl _ _).alloc (Nat.le_refl _) _).alloc (by simp) _;have kl:=Az (Ak w #[(pt z 0)] 82) (.cells #[.bool false] 4)
 have kd:((w.alloc (.cells #[(pt z 0)] 82)).alloc (.cells #[.bool false] 4)).heap[w.heap.size+1]?=some (.cells #[.bool false] 4 (0,0)):=by simpa using Ak (w.alloc (.cells #[(pt z 0)] 82)) #[.bool false] 4
 have kz:=Ab B0 L0 hzl
 obtain ⟨sb,hsb⟩:∃ x,Hid (x=D7 d):=⟨_,rfl⟩
 obtain ⟨n,hn⟩:∃ n:Nat,Hid ((n:Int)=actN d):=⟨(actN d).toNat,by have:=G8 d; show _=_; omega⟩
 have hn7:n<=7:=by have:=G8 d; have:=hn.out; omega
 rw [<- hsb.out];clear B0
 have hmf:∀ (fn:Fn) (first cap:Array Value) (w:World),(Instr.makeFunc fn first cap).run prog w=.ok (.func fn first cap) w:=fun _ _ _ _=>rfl
 go_enter_defers func16,ntmps16
 go_upto_region 1 with (fail);generalize (w.alloc (.cells #[(pt z 0)] 82)).alloc (.cells #[.bool false] 4)=W0 at *;rename_i K1 hK1;have cl:=Af kl 0;refine wp_region_lit ?_
 iterate 2 (refine wpList_plain rfl (fun K9 hK9=>?_); go_simp; refine hK9 _ _ ?_; clear hK9)
 refine wpList_load_row rfl _ _ rfl z rfl _ _ _ _ kz underlying41 rfl (infoAt An hs) ?_
 iterate 1 (refine wpList_plain rfl (fun K9 hK9=>?_); go_simp; refine hK9 _ _ ?_; clear hK9)
 have LA:Below W0.heap.size W0 (W0.alloc (.cells zR 41)):=(Below.refl _ _).alloc (Nat.le_refl _) _;have kb:=Ak W0 zR 41
 obtain ⟨pw,hpw⟩:∃ x,Hid (x=W0.heap.size):=⟨_,rfl⟩
 have lpd:=Ad kd;rw [<- hpw.out] at kb lpd ⊢;have C1:=Ah L0 LA;have kz1:=Ab kz LA (Ad kz);have kl1:=Ab kl LA (Ad kl);have kd1:=Ab kd LA (Ad kd);clear LA hpw kz kl kd cl L0;generalize W0.alloc (.cells zR 41)=W1 at *;refine wpList_store_row rfl _ _ _ rfl pw cs rfl rfl _ _ kb (infoAt An hs) (by rw [hs]; rfl) h1 ?_;have TT:=As kb cs;have C2:=C1.trans (TT.below C1.size (fun b o hb (h:b=_)=>by omega));have kz2:=Ag kz1 TT (fun o (h:_=_)=>by omega);have kl2:=Ag kl1 TT (fun o (h:_=_)=>by omega);have kd2:=Ag kd1 TT (fun o (h:_=_)=>by omega);have kw2:=setRow_heap _ _ _ cs _ _ kb;clear TT C1 kz1 kl1 kd1 kb;generalize W1.setRow pw cs=W2 at *;refine hK1 _ _ ?_;clear hK1;have H2:=HH.out.below C2
 have HACT:=Ac (Jg7 W2 lo z d u4 u5 u6 u7 H2 hlo hL (hT.lo hv (C2.mono (by omega))) hv hnq);rw [<- hn.out] at HACT;clear H2;have cl:=Af kl2 0;go_wp2_with fail;refine HACT.out.mono ?_;rintro e W3 ⟨rfl,T3⟩;obtain ⟨b4,b5,b6,b7,H3,G3⟩:=T3.ex;have kl3:=Ag kl2 G3.wr (fun o h=>by have:=HTOP.out _ o h; omega);have kd3:=Ag kd2 G3.wr (fun o h=>by have:=HTOP.out _ o h; omega);have kw3:=Ag kw2 G3.wr (fun o h=>by have:=HTOP.out _ o h; omega);have GT:=Ac ((Goes.below C2 z u4 u5 u6 u7).trans G3);obtain ⟨c30,f30⟩:=H3.st;have hmore:=Ge d hL.row;rw [hmore.2.1] at c30;have hst0:=hL.st.1;have hst1:d.st<=20000:=Int.le_trans hL.st.2 hL.t.ppu.t1;have H4:=H3.withSt (d.st+1);have T4:=Ph W3 z 30 (.i (d.st+1));have kl4:=Ag kl3 T4 (fun o (h:_=_)=>by omega)
 have kd4:=Ag kd3 T4 (fun o (h:_=_)=>by omega);have kw4:=Ag kw3 T4 (fun o (h:_=_)=>by omega);have G4:=Ac (GT.out.trans (Goes.box T4 _ _ _ _));have HP:=Ac (Jgh _ lo z (withSt (actD d) (d.st+1)) b4 b5 b6 b7 H4 hlo (hL.t.act.withSt _) n (by omega));have HK:=Ac (fun (b o:Nat) (h:RL z b4 b5 b6 b7 b o)=>H4.kind h)
 have HB:Hid (decide ((withSt (actD d) (d.st+1)).t+(n:Int)<=20000)=sb):=by show _=_; rw [hsb.out]; unfold D7; rw [hn.out]; rfl
 rw [HB.out] at HP;have hcl3:=Af kl3 0;have hcl4:=Af kl4 0;clear cl T3 H3 G3 GT T4 H4 HACT kl2 kd2 kw2 kl3 kd3 kw3 hmore C2 kz2;go_wp2_with fail;clear c30 f30;generalize W3.setCell ⟨z,30,none⟩ (.i (d.st+1))=W4 at *;refine HP.out.mono ?_;rintro e W5 ⟨rfl,k,hk,T5⟩;obtain ⟨c4,c5,c6,c7,H5,G5⟩:=T5.ex;clear HP T5
 have kl5:=Ag kl4 G5.wr (fun o h=>by
  rcases HK.out _ o h with e | ⟨cur,t,e,ht⟩
  .omega
  .rw [kl4] at e; injection e with e; injection e with _ e _; subst e; rcases ht with ht | ht <;> cases ht)
 have kd5:=Ag kd4 G5.wr (fun o h=>by
  rcases HK.out _ o h with e | ⟨cur,t,e,ht⟩
  .omega
  .rw [kd4] at e; injection e with e; injection e with _ e _; subst e; rcases ht with ht | ht <;> cases ht)
 have kw5:=Ag kw4 G5.wr (fun o h=>by
  rcases HK.out _ o h with e | ⟨cur,t,e,ht⟩
  .omega
  .rw [kw4] at e; injection e with e; injection e with _ e _; subst e; rcases ht with ht | ht <;> cases ht)
 have GG:=Ac (G4.out.trans G5);have l05:=GG.out.wr.size;obtain ⟨D5,x0,x1,x2,x3,xob,xiv,xov,x6,x7,HQ5,hz5,k5⟩:=H5.ex;obtain ⟨c5',e5',hs5,h15⟩:=HQ5.on.agg;simp only [Value.agg.injEq] at e5';subst e5'
 have pno:∀ o x,W5.cell? ⟨w.heap.size+1,o,none⟩≠some (.i x):=fun o x e=>by
  rw [Af kd5 o] at e
  rcases o with _ | o
  .cases e
  .simp at e
 have pnq:∀ o a n c,W5.cell? ⟨w.heap.size+1,o,none⟩≠some (.slice a n c):=fun o a n c e=>by
  rw [Af kd5 o] at e
  rcases o with _ | o
  .cases e
  .simp at e
 have T6:=Ph W5 (w.heap.size+1) 0 (.bool sb);have kl6:=Ag kl5 T6 (fun o (h:_=_)=>by omega);have kw6:=Ag kw5 T6 (fun o (h:_=_)=>by omega);have kd6:=Am (o:=0) kd5 (.bool sb);simp only [Sa,Sc] at kd6;have kz6:=Ag k5 T6 (fun o (h:_=_)=>by omega);have low5:=HH.out.goes hlo GG.out;have low6:=low5.trans (T6.below (by have:=low5.size; omega) (fun b o hb (h:b=_)=>by omega));have cd5:=Af kd5 0;have fd5:=Au kd5 0
 have HSTEP:Hid (sb=true->tickN k (withSt (actD d) (d.st+1))=stepD d):=fun e=>by
  have hk':k=n:=hk (of_decide_eq_true (HB.out.trans e))
  have e1:(actN d).toNat=n:=by have:=hn.out; omega
  have e2:∀ (k:Nat) (x:Aq),(tickN k x).st=x.st:=fun k=>by
   induction k with
   | zero=>intro x; rfl
   | succ k ih=>intro x; exact ih (Ds x)
  rw [hk',Jda];unfold stepD;rw [e1,e2,(Ge d hL.row).2.1]
 have HLAST:Hid (Jdi w (if sb=true then W5.setCell ⟨w.heap.size+1,0,none⟩ (.bool sb) else (W5.setCell ⟨w.heap.size+1,0,none⟩ (.bool sb)).setRow z cs) lo z d):=by
  cases hsb':sb
  .have hb:D7 d=false:=by rw [<- hsb.out]; exact hsb'
   rw [hsb'] at T6 kz6 low6;have O5:=(HQH.out.onF GG.out.wr hz).avoid pno pnq;rw [<- hcs.out] at O5;have O6:=O5.keep T6 (fun i b o h _ (e:b=_)=>h.2 e);have TR:=As kz6 cs;have O7:=O6.keep TR (fun i b o h _ (e:b=z)=>hz i b h.1 e);refine ⟨⟨fun i b=>D i b/\b≠w.heap.size+1,cs,?_,hs,h1,?_,fun i j b hi hj=>HQH.out.dis i j b hi.1 hj.1,fun i b h=>?_⟩,?_⟩
   .rw [if_neg (by decide)]
    exact setRow_heap _ _ _ cs _ _ kz6
   .rw [if_neg (by decide),if_neg (by rw [hb]; decide)]
    exact O7
   .rw [if_neg (by decide)]
    have:=HQH.out.bd i b h.1;have:=TR.size;have:=T6.size;exact ⟨by omega,by omega,hz i b h.1⟩
   .rw [if_neg (by decide)]
    exact low6.trans (TR.below (by have:=low6.size; omega) (fun b o hb (h:b=z)=>by omega))
  .have hb:D7 d=true:=by rw [<- hsb.out]; exact hsb'
   rw [hsb'] at T6 kz6 low6;have O5:=HQ5.on.avoid pno pnq;rw [HSTEP.out hsb'] at O5;have O6:=O5.keep T6 (fun i b o h _ (e:b=_)=>h.2 e);refine ⟨⟨fun i b=>D5 i b/\b≠w.heap.size+1,_,?_,hs5,h15,?_,fun i j b hi hj=>HQ5.dis i j b hi.1 hj.1,fun i b h=>?_⟩,?_⟩
   .rw [if_pos rfl]
    exact kz6
   .rw [if_pos rfl,if_pos hb]
    rw [HSTEP.out hsb'];exact O6
   .rw [if_pos rfl]
    have:=HQ5.bd i b h.1;have:=T6.size;exact ⟨by omega,by omega,hz5 i b h.1⟩
   .rw [if_pos rfl]
    exact low6
 clear T6 kl5 kw5 kd5 k5 low5 low6 pno pnq HQ5 hz5 H5 G5 GG G4 kl4 kd4 kw4 hk;go_wp2;generalize W5.setCell ⟨w.heap.size+1,0,none⟩ (.bool sb)=W6 at *;refine leaves_cons (f:=50) (args:=#[(pt (w.heap.size+1) 0),(pt pw 0),(pt w.heap.size 0)]) (by simp) (by simp [go_sem]) ?_;refine (Jdh W6 _ _ _ z sb cs _ _ _ kd6 kw6 kl6 kz6 hs hs5 h1 .returning).mono ?_;rintro e u' w'' ⟨rfl,rfl,rfl⟩
 have kdF:(if sb=true then W6 else W6.setRow z cs).heap[w.heap.size+1]?=some (.cells #[.bool sb] 4 (0,0)):=by
  split
  .exact kd6
  .exact Ag kd6 (As kz6 cs) (fun o (h:_=_)=>by omega)
 have cF:=Af kdF 0;refine ⟨.bool sb,?_,rfl,HLAST.out⟩
 simp [results,results16,go_sem,cF]
set_option maxHeartbeats 4000000
set_option maxRecDepth 40000
theorem Ot.aggK {W:World} {lo:Nat} {v:Value} {d:Aq} (H:Ot W lo v d):∃ cs,v=.agg cs/\cs.size=34/\cs.all (·.oneCell')=true:=by
 obtain ⟨D,u0,u1,u2,u3,u4,u5,u6,u7,ob,iv,ov,o6,o7,rfl,h⟩:=H;exact h.on.agg
theorem Ot.lk {W:World} {lo:Nat} {cC:Array Value} {d:Aq} (H:Ot W lo (.agg cC) d):∃ u4 u5 u6 u7,Cj (W.alloc (.cells cC 41)) lo W.heap.size d u4 u5 u6 u7:=by
 obtain ⟨D,u0,u1,u2,u3,u4,u5,u6,u7,ob,iv,ov,o6,o7,e,h⟩:=H;simp only [Value.agg.injEq] at e;subst e;have LA:Below W.heap.size W (W.alloc (.cells (kR d u0 u1 u2 u3 u4 u5 u6 u7) 41)):=(Below.refl _ _).alloc (Nat.le_refl _) _;exact ⟨u4,u5,u6,u7,D,u0,u1,u2,u3,ob,iv,ov,o6,o7,(h.below LA).upTo LA.size (Nat.le_refl _),fun i b hb e=>by have:=h.bd i b hb; omega,Ak W _ _⟩
theorem Tg (w:World) (D:Nat->Nat->Prop) (v:Value) (d:Aq) (H:Aw w D v d) (hT:Da w) (hnq:okLock d=true->d.nq<1048576):Calls prog 6 #[v] w fun e w'=>∃ v',e=.returned (.tuple #[v',.bool (stepQ d)])/\(∃ D',Aw w' D' v' (Ey d)/\Dis D'/\∀ i b,D' i b->w.heap.size<=b/\b<w'.heap.size)/\Below w.heap.size w w':=by
 obtain ⟨cs,rfl,hsz,hone⟩:=H.agg
 obtain ⟨rq,hrq⟩:∃ x,Hid (x=stepQ d):=⟨_,rfl⟩
 obtain ⟨rd,hrd⟩:∃ x,Hid (x=Ey d):=⟨_,rfl⟩
 rw [<- hrq.out,<- hrd.out];have hV:=hT.at;have L0:Below w.heap.size w ((w.alloc (.cells cs 41)).alloc (.cells zR 41)):=((Below.refl _ _).alloc (Nat.le_refl _) _).alloc (by simp) _;have k0:((w.alloc (.cells cs 41)).alloc (.cells zR 41)).heap[w.heap.size]?=some (.cells cs 41 (0,0)):=Az (Ak w cs 41) _
 have k1:((w.alloc (.cells cs 41)).alloc (.cells zR 41)).heap[w.heap.size+1]?=some (.cells zR 41 (0,0)):=by simpa using Ak (w.alloc (.cells cs 41)) zR 41
 go_enter func6,ntmps6
 go_upto_region 1 with (fail);generalize ((w.alloc (.cells cs 41)).alloc (.cells zR 41))=W0 at *;refine wp_region_lit ?_;refine wpList_load_row rfl _ _ rfl (w.heap.size) rfl _ _ _ _ k0 underlying41 rfl (infoAt An hsz) ?_;go_wp2_with fail;refine (Gm _ D _ d (H.below L0)).mono ?_;rintro e W1 ⟨rfl,L⟩;have C1:=Ah L0 L;have k0b:=Ab k0 L (Ad k0);have k1b:=Ab k1 L (Ad k1);have hb1:=Ad k1b;clear L L0 k0 k1;cases hok:okLock d
 .have E1:Hid (rq=false/\rd=Jm):=⟨by rw [hrq.out]; unfold stepQ; rw [hok]; rfl,by rw [hrd.out]; unfold Ey; rw [hok]; rfl⟩
  clear k0b;go_upto_region 2 with (fail);rename_i K2 hK2;refine wp_region_lit ?_;refine wpList_plain rfl (fun K3 hK3=>?_);go_simp;refine hK3 _ _ ?_;clear hK3;refine wpList_store_row rfl _ _ _ rfl (w.heap.size+1) zR rfl rfl _ _ k1b An rfl (by first | kernel_rfl | simp [Value.oneCell']) ?_;have B3:=setRow_heap _ _ _ zR _ _ k1b;have WW:=As k1b zR;have LL:=Ac (C1.trans (WW.below C1.size (fun b o hb (e:b=_)=>by omega)));clear WW C1 k1b;generalize W1.setRow (w.heap.size+1) zR=W9 at *;refine wpList_plain rfl (fun K3 hK3=>?_);go_simp;refine hK3 _ _ ?_;clear hK3;refine hK2 _ _ ?_;go_wp2;refine bodyPost_ret (v:=.tuple #[.agg zR,.bool false]) (A2 results6 _ _ (w.heap.size+1) _ _ _ _ rfl B3 underlying41 rfl An) rfl ?_;rw [E1.out.1,E1.out.2];exact ⟨_,rfl,⟨fun _ _=>False,Pf,fun i j b h=>h.elim,fun i b h=>h.elim⟩,LL.out⟩
 .have E1:Hid (rq=D7 d/\rd=if D7 d=true then stepD d else d):=⟨by rw [hrq.out]; unfold stepQ; rw [hok]; rfl,by rw [hrd.out]; unfold Ey; rw [hok]; rfl⟩
  go_upto_region 3 with (fail);refine wp_region_lit ?_;refine wpList_load_row rfl _ _ rfl (w.heap.size) rfl _ _ _ _ k0b underlying41 rfl (infoAt An hsz) ?_;go_wp2_with fail;refine (Jcx _ D _ d (H.keep (Aa C1 Aj) (fun _ _ _ _ _ x=>x))).mono ?_;rintro e W2 ⟨vC,rfl,oC,L⟩;obtain ⟨cC,rfl,sC,oneC⟩:=oC.aggK;have C2:=Ah C1 L;have k1c:=Ab k1b L (Ad k1b);have l12:=L.size;clear L C1 k0b k1b;obtain ⟨u4,u5,u6,u7,bx⟩:=oC.lk;have LA:Below W2.heap.size W2 (W2.alloc (.cells cC 41)):=(Below.refl _ _).alloc (Nat.le_refl _) _;have C3:=Ah C2 LA;have k1d:=Ab k1c LA (Ad k1c);have hst:=run_storeCells_new (P:=prog) W2 41 zR cC (infoAt An sC) (by rw [sC]; rfl) oneC;clear LA oC C2 k1c;go_upto_region 4 with (fail);clear hst
  obtain ⟨z,hz⟩:∃ z,Hid (z=W2.heap.size):=⟨_,rfl⟩
  rw [<- hz.out] at bx l12 ⊢;clear hz;generalize W2.alloc (.cells cC 41)=W3 at *;go_wp2_with fail;refine (Jgi _ W1.heap.size z d u4 u5 u6 u7 bx l12 (It hok) (hT.lo hV C3) (by have:=C3.size; omega) (hnq hok)).mono ?_;rintro e W4 ⟨rfl,ST⟩;obtain ⟨DR,cR,x6,sR,oneR,oR,dR,bR⟩:=ST.ex;have C4:=C3.trans (ST.low.mono (by omega));have k1e:=Ab k1d ST.low (by omega);clear ST C3 k1d bx;go_upto_region 5 with (fail);rename_i K2 hK2;refine wp_region_lit ?_;refine wpList_load_row rfl _ _ rfl (z) rfl _ _ _ _ x6 underlying41 rfl (infoAt An sR) ?_;refine wpList_plain rfl (fun K3 hK3=>?_);go_simp;refine hK3 _ _ ?_;clear hK3;refine wpList_store_row rfl _ _ _ rfl (w.heap.size+1) cR rfl rfl _ _ k1e (infoAt An sR) (by rw [sR]; rfl) oneR ?_;have B3:=setRow_heap _ _ _ cR _ _ k1e;have WW:=As k1e cR
  have OO:=Ac (oR.keep WW (fun i b o h _ (e:b=_)=>by have:=bR _ _ h; omega));have LL:=Ac (C4.trans (WW.below C4.size (fun b o hb (e:b=_)=>by omega)));have BB:=Ac (fun i b h=>(⟨Nat.le_trans (by omega) (bR i b h).1,Nat.lt_of_lt_of_le (bR i b h).2.1 WW.size⟩:w.heap.size<=b/\b<(W4.setRow (w.heap.size+1) cR).heap.size));clear WW oR C4 x6 bR k1e;generalize W4.setRow (w.heap.size+1) cR=W9 at *;refine wpList_plain rfl (fun K3 hK3=>?_);go_simp;refine hK3 _ _ ?_;clear hK3;refine hK2 _ _ ?_;go_wp2;refine bodyPost_ret (v:=.tuple #[.agg cR,.bool (D7 d)]) (A2 results6 _ _ (w.heap.size+1) _ _ _ _ rfl B3 underlying41 rfl (infoAt An sR)) rfl ?_;rw [E1.out.1,E1.out.2];exact ⟨_,rfl,⟨DR,OO.out,dR,BB.out⟩,LL.out⟩
end Go.Proofs.YtijljlnooibbmaaGreatDoor
