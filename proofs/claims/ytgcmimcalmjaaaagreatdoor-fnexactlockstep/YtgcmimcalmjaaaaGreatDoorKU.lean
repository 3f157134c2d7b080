import Derived.Test.YtgcmimcalmjaaaaGreatDoorKS
import Derived.Test.YtgcmimcalmjaaaaGreatDoorSN
import Derived.Test.YtgcmimcalmjaaaaGreatDoorSH
import Derived.WalkMore
namespace Go.Proofs.YtgcmimcalmjaaaaGreatDoor
set_option linter.unusedVariables false
set_option linter.unusedSimpArgs false
open Go.ChangeShapes Go.WideShapes Go.ChangeAt Go.RowKit
theorem Dm.agg {W:World} {lo:Nat} {v:Value} {d:Aq} (H:Dm W lo v d):∃ cs,v=.agg cs∧cs.size=34∧cs.all (·.oneCell')=true:=by
 obtain ⟨D,h,-⟩:=H.on;exact h.agg
theorem Dm.below {W W':World} {lo:Nat} {v:Value} {d:Aq} (H:Dm W lo v d) (L:Below W.heap.size W W'):Dm W' lo v d:=by
 obtain ⟨D,u0,u1,u2,u3,u4,ov,gb,cp,g6,c6,g7,c7,rfl,h⟩:=A3.of H;exact (h.below L).ow
theorem Dm.low {R:Nat→Nat→Prop} {W W':World} {lo:Nat} {v:Value} {d:Aq} (H:Dm W lo v d) (hw:Wrote R W W') (hn:∀ b o,R b o→b<lo):Dm W' lo v d:=by
 obtain ⟨D,u0,u1,u2,u3,u4,ov,gb,cp,g6,c6,g7,c7,rfl,h⟩:=A3.of H;exact (h.keepD hw (fun i b o x y=>by have:=h.bd _ _ x; have:=hn _ _ y; omega) (fun o y=>by have:=h.h6.parts.1; have:=hn _ _ y; omega) (fun o y=>by have:=h.h7.parts.1; have:=hn _ _ y; omega)).ow
set_option maxHeartbeats 4000000
set_option maxRecDepth 20000
theorem Dg.nmi {w:World} {lo z:Nat} {d:Aq} {u4 u5 u6 u7:Value} (H:Dg w lo z d u4 u5 u6 u7):Dg (w.setCell ⟨z,29,none⟩ (.bool false)) lo z (noNmi d) u4 u5 u6 u7:=by
 obtain ⟨D,u0,u1,u2,u3,ob,iv,ov,o6,o7,HQ,hz,B0⟩:=H.ex;have T:=Ng w z 29 (.bool false);have H1:=(HQ.keepD T (fun i b o h (e:b=z)=>hz i b h e)).upTo T.size (Nat.le_refl _);have k:=Af (o:=29) B0 (.bool false);simp only [List.setIfInBounds_toArray,List.set_cons_succ,List.set_cons_zero] at k;exact ⟨D,u0,u1,u2,u3,ob,iv,ov,o6,o7,⟨H1.h0,H1.h1,H1.h2,H1.h3,H1.h5,H1.h5D,H1.h6,H1.h6D,H1.h7,H1.h7D,H1.dis,H1.bd,H1.nN,H1.hps⟩,hz,k⟩
theorem Dg.withSt {w:World} {lo z:Nat} {d:Aq} {u4 u5 u6 u7:Value} (H:Dg w lo z d u4 u5 u6 u7) (s:Int):Dg (w.setCell ⟨z,30,none⟩ (.i s)) lo z (withSt d s) u4 u5 u6 u7:=by
 obtain ⟨D,u0,u1,u2,u3,ob,iv,ov,o6,o7,HQ,hz,B0⟩:=H.ex;have T:=Ng w z 30 (.i s);have H1:=(HQ.keepD T (fun i b o h (e:b=z)=>hz i b h e)).upTo T.size (Nat.le_refl _);have k:=Af (o:=30) B0 (.i s);simp only [List.setIfInBounds_toArray,List.set_cons_succ,List.set_cons_zero] at k;exact ⟨D,u0,u1,u2,u3,ob,iv,ov,o6,o7,⟨H1.h0,H1.h1,H1.h2,H1.h3,H1.h5,H1.h5D,H1.h6,H1.h6D,H1.h7,H1.h7D,H1.dis,H1.bd,H1.nN,H1.hps⟩,hz,k⟩
theorem Dg.t {w:World} {lo z:Nat} {d:Aq} {u4 u5 u6 u7:Value} (H:Dg w lo z d u4 u5 u6 u7):w.cell? ⟨z,12,none⟩=some (.i d.t):=by
 obtain ⟨D,u0,u1,u2,u3,ob,iv,ov,o6,o7,HQ,hz,B0⟩:=H.ex;exact Ag B0 12
theorem Dg.st {w:World} {lo z:Nat} {d:Aq} {u4 u5 u6 u7:Value} (H:Dg w lo z d u4 u5 u6 u7):w.cell? ⟨z,30,none⟩=some (.i d.st)∧w.frozen? ⟨z,30,none⟩=false:=by
 obtain ⟨D,u0,u1,u2,u3,ob,iv,ov,o6,o7,HQ,hz,B0⟩:=H.ex;exact ⟨Ag B0 30,As B0 30⟩
theorem Dg.bits {w:World} {lo z:Nat} {d:Aq} {u4 u5 u6 u7:Value} (H:Dg w lo z d u4 u5 u6 u7):w.cell? ⟨z,29,none⟩=some (.bool d.nmi)∧w.frozen? ⟨z,29,none⟩=false∧w.cell? ⟨z,26,none⟩=some (.bool d.R)∧w.cell? ⟨z,11,none⟩=some (.bool d.I):=by
 obtain ⟨D,u0,u1,u2,u3,ob,iv,ov,o6,o7,HQ,hz,B0⟩:=H.ex;exact ⟨Ag B0 29,As B0 29,Ag B0 26,Ag B0 11⟩
theorem Jdj (w:World) (lo z:Nat) (d:Aq) (u4 u5 u6 u7:Value) (H:Dg w lo z d u4 u5 u6 u7) (hlo:lo≤z) (hL:OkL d) (hT:Dc w) (hv:0<lo) (hnq:d.nq<1048576):Calls Tryz.prog 78 #[(pt z 0)] w fun e w'=>e=.returned (.i (actN d))∧Ei w w' lo z u4 u5 u6 u7 (actD d):=by
 obtain ⟨c29,f29,c26,c11⟩:=H.bits;have HR:=Ad (Jbr w lo z d u4 u5 u6 u7 H hlo hL hT hv hnq);have HE:=Ad (Vh w lo z d u4 u5 u6 u7 H hlo hL.nr hL.row 65534);have HM:=Ad (Vh _ lo z (noNmi d) u4 u5 u6 u7 H.nmi hlo hL.nr hL.row 65530);have G0:=Ad (Goes.box (Ng w z 29 (.bool false)) u4 u5 u6 u7)
 by_cases hn:d.nmi=true
 ·have HA:Hid (actN d=7∧actD d=Nf (noNmi d) 65530):=⟨if_pos hn,if_pos hn⟩
  rw [HA.out.1,HA.out.2];rw [hn] at c29;clear HR HE HA H
  go_enter Tryz.func78,Tryz.ntmps78
  go_wp2_with fail;refine HM.out.mono ?_;rintro e W ⟨rfl,T⟩;go_wp2;go_ret;exact ⟨rfl,Ei.trans G0.out T⟩
 have hn':d.nmi=false:=by simpa using hn
 rw [hn'] at c29;clear HM G0;cases hr:d.R
 ·rw [hr] at c26
  have HA:Hid (actN d=Rz (X2 d)∧actD d=opD d (X2 d) (opA d)):=⟨(if_neg hn).trans (if_neg (by rw [hr]; simp)),(if_neg hn).trans (if_neg (by rw [hr]; simp))⟩
  rw [HA.out.1,HA.out.2];clear HE HA H
  go_enter Tryz.func78,Tryz.ntmps78
  go_wp2_with fail;refine HR.out.mono ?_;rintro e W ⟨rfl,T⟩;go_wp2;go_ret;exact ⟨rfl,T⟩
 ·rw [hr] at c26
  cases hi:d.I
  ·rw [hi] at c11
   have HA:Hid (actN d=7∧actD d=Nf d 65534):=⟨(if_neg hn).trans (if_pos (by rw [hr,hi]; rfl)),(if_neg hn).trans (if_pos (by rw [hr,hi]; rfl))⟩
   rw [HA.out.1,HA.out.2];clear HR HA H
   go_enter Tryz.func78,Tryz.ntmps78
   go_wp2_with fail;refine HE.out.mono ?_;rintro e W ⟨rfl,T⟩;go_wp2;go_ret;exact ⟨rfl,T⟩
  ·rw [hi] at c11
   have HA:Hid (actN d=Rz (X2 d)∧actD d=opD d (X2 d) (opA d)):=⟨(if_neg hn).trans (if_neg (by rw [hr,hi]; simp)),(if_neg hn).trans (if_neg (by rw [hr,hi]; simp))⟩
   rw [HA.out.1,HA.out.2];clear HE HA H
   go_enter Tryz.func78,Tryz.ntmps78
   go_wp2_with fail;refine HR.out.mono ?_;rintro e W ⟨rfl,T⟩;go_wp2;go_ret;exact ⟨rfl,T⟩
structure Z1 (w W:World) (lo z:Nat) (v4 v5 v6 v7:Value) (d:Aq) (n:Nat) (left:Value):Prop where
 ex:∃ k:Nat,k≤n∧d.t+k≤20000∧left=.i (n-k:Int)∧∃ b4 b5 b6 b7,Dg W lo z (tickN k d) b4 b5 b6 b7∧Goes w W z v4 v5 v6 v7 b4 b5 b6 b7
theorem Jcr (w:World) (lo z:Nat) (d:Aq) (v4 v5 v6 v7:Value) (H:Dg w lo z d v4 v5 v6 v7) (hlo:lo≤z) (hok:Hj d) (n:Nat) (hn:n≤100):Calls Tryz.prog 79 #[(pt z 0),.i n] w fun e w'=>e=.returned (.bool (decide (d.t+n≤20000)))∧∃ k:Nat,(d.t+n≤20000→k=n)∧Ei w w' lo z v4 v5 v6 v7 (tickN k d):=by
 have t1:=hok.ppu.t1
 have I0:Z1 w w lo z v4 v5 v6 v7 d n (.i n):=⟨0,Nat.zero_le _,by omega,by simp,_,_,_,_,H,Goes.refl _ _ _ _ _ _⟩
 go_enter Tryz.func79,Tryz.ntmps79
 go_wp2
 go_step3
 go_wp2
 go_step3
 go_wp2
 go_loopw [5] (fun i wr=>Z1 w wr lo z v4 v5 v6 v7 d n i) (fun i _=>(intOf i).toNat)
 case atStart=>exact I0
 case round =>
  clear I0;obtain ⟨k,hk,hk2,rfl,b4,b5,b6,b7,HB,G⟩:=hrel;have c12:=HB.t;rw [La k d hk2] at c12
  by_cases h0:k=n
  ·subst h0
   have HF:=Ad (And.intro HB G);have hd:decide (d.t+(k:Int)≤20000)=true:=decide_eq_true hk2
   have e0:((k:Int)-k)=0:=by omega
   rw [e0];clear HB G c12;go_wp2
   (try rw [Exit.noGoto_ret])
   go_ret;exact ⟨Ap hd.symm,k,fun _=>rfl,_,_,_,_,HF.out.1,HF.out.2⟩
  ·obtain ⟨m,hm⟩:∃ m:Int,Hid (m=(n:Int)-k):=⟨_,rfl⟩
   have hm1:0<m:=by rw [hm.out]; omega
   have hm2:m≤100:=by rw [hm.out]; omega
   rw [← hm.out]
   by_cases hE:d.t+(k:Int)=20000
   ·rw [hE] at c12
    have HF:=Ad (And.intro HB G);have hd:decide (d.t+(n:Int)≤20000)=false:=decide_eq_false (by omega);have hm0:(m==0)=false:=beq_eq_false_iff_ne.2 (by omega)
    have hno:¬ d.t+(n:Int)≤20000:=by omega
    clear HB G;go_wp2
    (try rw [Exit.noGoto_ret])
    go_ret;exact ⟨Ap hd.symm,k,fun h=>absurd h (by omega),_,_,_,_,HF.out.1,HF.out.2⟩
   ·obtain ⟨tt,htt⟩:∃ x,Hid (x=d.t+(k:Int)):=⟨_,rfl⟩
    rw [← htt.out] at c12;have hne:(tt==20000)=false:=beq_eq_false_iff_ne.2 (by rw [htt.out]; exact hE);have HC:=Ad (Jcq wr lo z (tickN k d) b4 b5 b6 b7 HB hlo (Hj.ticks k hok hk2) (by rw [La k d hk2]; exact hE));clear HB;go_wp2_with fail;refine HC.out.mono ?_;rintro e W ⟨rfl,T⟩;obtain ⟨c4,c5,c6,c7,HB',G'⟩:=T.ex;rw [← Nc] at HB'
    have HF:Hid (Z1 w W lo z v4 v5 v6 v7 d n (.i (m-1))):=⟨k+1,by omega,by push_cast; omega,by rw [hm.out]; congr 1; push_cast; omega,c4,c5,c6,c7,HB',G.trans G'⟩
    clear HB' G G' T c12;go_wp2
    go_round
    case rel=>exact HF.out
    case measure=>simp [intOf]; omega
end Go.Proofs.YtgcmimcalmjaaaaGreatDoor
