import Derived.Test.YtgcmimcalmjaaaaGreatDoorSC
namespace Go.Proofs.YtgcmimcalmjaaaaGreatDoor
set_option maxHeartbeats 4000000
set_option linter.unusedVariables false
set_option linter.unusedSimpArgs false
open Go.ChangeShapes Go.WideShapes Go.ChangeAt Go.RowKit
structure TBL (w W:World) (lo z:Nat) (xs:Nat→Value) (o1 o2:Option Nat) (u1 u2 tv:Value) (t c s ad pl:Int) (bl:Bool) (n:Nat) (f:Nat→Int) (m:Nat) (g:Nat→Int) (k:Nat) (h:Nat→Int):Prop where
 ex:∃ o2' u2' o3,W.heap[z]?=some (.cells #[xs 0,xs 1,xs 2,xs 3,xs 4,xs 5,xs 6,xs 7,xs 8,xs 9,xs 10,xs 11,.i t,.i c,.i s,.i ad,.i pl,.bool bl,u1,u2',xs 20,xs 21,xs 22,xs 23,xs 24,xs 25,xs 26,xs 27,xs 28,xs 29,xs 30,xs 31,xs 32,xs 33] 49 (0,0))∧A5 W lo o1 u1 n f∧A5 W lo o2' u2' m g∧A5 W lo o3 tv k h∧Pz o1 o2'∧Pz o1 o3∧Pz o2' o3∧(∀ q,(o1=some q∨o2'=some q∨o3=some q)→q≠z)∧Wrote (fun b o=>b=z∨spare u2 b o) w W∧(∀ q,(o2'=some q∨o3=some q)→o2=some q∨w.heap.size≤q)∧(∀ b o,b<w.heap.size→spare u2' b o→spare u2 b o)
theorem TBL.up {w W:World} {lo z:Nat} {xs:Nat→Value} {o1 o2:Option Nat} {u1 u2 tv:Value} {t c s ad pl:Int} {bl:Bool} {n:Nat} {f:Nat→Int} {m:Nat} {g:Nat→Int} {k:Nat} {h:Nat→Int} (H:TBL w W lo z xs o1 o2 u1 u2 tv t c s ad pl bl n f m g k h) (t':Int) :
  TBL w (W.setCell ⟨z,12,none⟩ (.i t')) lo z xs o1 o2 u1 u2 tv t' c s ad pl bl n f m g k h:=by
 obtain ⟨o2',u2',o3,hb,r1,r2,r3,h1,h2,h3,hz,hw,hn,hs⟩:=H;have WS:Wrote (fun b _=>b=z) W (W.setCell ⟨z,12,none⟩ (.i t')):=Wrote.setCell (R:=fun b _=>b=z) (Wrote.refl _ W) (fun _=>rfl) _;exact ⟨o2',u2',o3,Af hb _,r1.keep WS (fun q e _ _ _ x=>hz q (Or.inl e) x),r2.keep WS (fun q e _ _ _ x=>hz q (Or.inr (Or.inl e)) x),r3.keep WS (fun q e _ _ _ x=>hz q (Or.inr (Or.inr e)) x),h1,h2,h3,hz,hw.setCell (fun _=>Or.inl rfl) _,hn,hs⟩
theorem Zx (w:World) (lo z:Nat) (xs:Nat→Value) (o1 o2:Option Nat) (u1 u2:Value) (t c s ad pl:Int) (bl:Bool) (n:Nat) (f:Nat→Int) (m:Nat) (g:Nat→Int) (hb:w.heap[z]?=some (.cells #[xs 0,xs 1,xs 2,xs 3,xs 4,xs 5,xs 6,xs 7,xs 8,xs 9,xs 10,xs 11,.i t,.i c,.i s,.i ad,.i pl,.bool bl,u1,u2,xs 20,xs 21,xs 22,xs 23,xs 24,xs 25,xs 26,xs 27,xs 28,xs 29,xs 30,xs 31,xs 32,xs 33] 49 (0,0))) (R1:A5 w lo o1 u1 n f) (R2:A5 w lo o2 u2 m g) (h12:Pz o1 o2) (hz:∀ q,(o1=some q∨o2=some q)→q≠z) (hlo:lo≤w.heap.size) (ok:A1 t c s ad pl n f m g=true) (ht:¬ t=20000) :
  Calls Tryz.prog 143 #[(pt z 12)] w fun e w'=>∃ tv,e=.returned (.tuple #[tv,.bool (Py t c)])∧TBL w w' lo z xs o1 o2 u1 u2 tv (Ga t) c s ad pl (Ho t bl) n f (tkM t m) (Kz t f s pl m g) (Ki t m) g:=by
 have IP:=Ev ok;have t0:=IP.t0
 have t1:t<20000:=by have:=IP.t1; omega
 have HT:=Ad ht;have m64:t.tmod 64=t%64:=Int.tmod_eq_emod_of_nonneg t0;obtain ⟨pa,px,rfl⟩:=R1.form;obtain ⟨qa,qx,rfl⟩:=R2.form;have hzlt:=Ac hb;have y0:=Ax hb (.cells #[] 3);have x0:=Al w #[] 3;have L0:Below w.heap.size w (w.alloc (.cells #[] 3)):=(Below.refl _ _).alloc (Nat.le_refl _) _;have U1:=R1.below L0;have U2:=R2.below L0
 have sz:(w.alloc (.cells #[] 3)).heap.size=w.heap.size+1:=by simp
 have l1:∀ q,o1=some q→lo≤q∧q<w.heap.size:=fun q e=>by subst e; exact R1.lt
 have l2:∀ q,o2=some q→lo≤q∧q<w.heap.size:=fun q e=>by subst e; exact R2.lt
 have c0:=Ag hb;have WB:Wrote (fun b o=>b=z∨spare (.slice qa m qx) b o) w (w.alloc (.cells #[] 3)):=Ab L0 _;have HL:=Ad (And.intro l1 (And.intro l2 (And.intro h12 hz)));have HIP:=Ad (And.intro IP ok);have HSP:=Ad (fun (b o:Nat) (h:spare (.slice qa m qx) b o)=>Dj R2 h);clear ht R1 R2 l1 l2 h12 hz hb IP ok
 obtain ⟨W0,hW0⟩:∃ W0,W0=w.alloc (.cells #[] 3):=⟨_,rfl⟩
 rw [← hW0] at y0 x0 L0 U1 U2 sz WB;have d0:=Ag y0;have g0:=As y0
 by_cases hA:t%64<48
 ·have HE:Hid (Ga t=t+1∧Ho t bl=bl∧tkM t m=m+1∧Kz t f s pl m g=snoc g m (Hn f s pl (t%64))∧Ki t m=0∧Py t c=false):=⟨if_neg HT.out,(if_neg HT.out).trans ((if_neg (by omega)).trans (if_neg (by omega))),(if_neg HT.out).trans (if_pos hA),(if_neg HT.out).trans (if_pos hA),(if_neg HT.out).trans (if_neg (by omega)),(if_neg HT.out).trans (if_neg (by omega))⟩
  have hm48:m<48:=by
   have h1:=HIP.out.1.dots;unfold Dk at h1;rw [if_neg (by omega)] at h1
   omega
  have hb0:0≤t%64:=by omega
  have HDOT:Hid (∀ W:World,Ints .i64 W (On (fun b=>o1=some b)) (.slice pa n px) n f→Ints .i64 W (On (fun b=>o2=some b)) (.slice qa m qx) m g→Calls Tryz.prog 171 #[.agg (pR t c s ad pl bl (.slice pa n px) (.slice qa m qx)),.i (t%64)] W fun e w'=>e=.returned (.i (Hn f s pl (t%64)))∧Below W.heap.size W w'):=fun W h1 h2=>by
   refine (Ja9 W _ _ t c s ad pl bl _ _ n f m g (t%64) h1 h2).mono ?_;rintro e w' ⟨rfl,h⟩;rw [HIP.out.2];exact ⟨Az (if_pos ⟨rfl,by omega,by omega⟩),h⟩
  generalize hdv:Hn f s pl (t%64)=dv at *;clear hdv
  go_enter Tryz.func143,Tryz.ntmps143
  go_upto_region 4 with (fail);rw [← hW0]
  refine A8 [some 16,some 17,some 18,some 19,some 20,some 21,some 22,some 23,some 24,some 25,some 26,some 27,some 28,some 29,none] (by kernel_rfl) (by kernel_rfl) (by kernel_rfl) (by kernel_rfl) (by simp [slotsOf])
   (fun j b o=>(j=11∧o2=some b∧spare (.slice qa m qx) b o)∨(j=14∧b=z))
   (fun i v W=>match i with
    | 0=>v=(pt z 12)
    | 1=>v=(pt z 12)
    | 2=>v=(pt z 12)
    | 3=>v=(pt z 19)
    | 4=>v=.slice qa m qx
    | 5=>v=(pt z 12)
    | 6=>v=(pt z 12)
    | 7=>v=.agg (pR t c s ad pl bl (.slice pa n px) (.slice qa m qx))
    | 8=>v=.i (t%64)
    | 9=>v=.i dv
    | 10=>∃ a,v=.slice (some ⟨a,0,none⟩) 1 1∧W0.heap.size≤a∧W.cell? ⟨a,0,none⟩=some (.i dv)
    | 11=>∃ g' c',v=.slice (some ⟨g',0,none⟩) (m+1) c'∧Row W lo g' (m+1) c' (snoc g m dv)∧(o2=some g'∨W0.heap.size≤g')
    | 12=>v=(pt z 12)
    | 13=>v=(pt z 19)
    | _=>∃ g' c',W.heap[z]?=some (.cells #[xs 0,xs 1,xs 2,xs 3,xs 4,xs 5,xs 6,xs 7,xs 8,xs 9,xs 10,xs 11,.i t,.i c,.i s,.i ad,.i pl,.bool bl,.slice pa n px,.slice (some ⟨g',0,none⟩) (m+1) c',xs 20,xs 21,xs 22,xs 23,xs 24,xs 25,xs 26,xs 27,xs 28,xs 29,xs 30,xs 31,xs 32,xs 33] 49 (0,0))∧Row W lo g' (m+1) c' (snoc g m dv)∧(o2=some g'∨W0.heap.size≤g')) ?_ ?_ ?_
  ·intro i j o v W W' hij ho hnw hW h
   match i,hij,ho,h with
   | 0,_,_,h=>exact h
   | 1,_,_,h=>exact h
   | 2,_,_,h=>exact h
   | 3,_,_,h=>exact h
   | 4,_,_,h=>exact h
   | 5,_,_,h=>exact h
   | 6,_,_,h=>exact h
   | 7,_,_,h=>exact h
   | 8,_,_,h=>exact h
   | 9,_,_,h=>exact h
   | 10,_,_,⟨a,h1,h2,h3⟩=>exact ⟨a,h1,h2,(hW.cell a 0 (block_lt_of_cell h3) (fun e=>by rcases e with ⟨_,e,-⟩ | ⟨_,e⟩; have:=HL.out.2.1 a e; omega; omega)).trans h3⟩
   | 11,hij,_,⟨g',c',h1,h2,h3⟩=>exact ⟨g',c',h1,h2.keep hW (fun o e=>by rcases e with ⟨e,_,-⟩ | ⟨_,e⟩; omega; subst e; rcases h3 with h3 | h3; exact HL.out.2.2.2 _ (Or.inr h3) rfl; omega),h3⟩
   | 12,_,_,h=>exact h
   | 13,_,_,h=>exact h
   | 14,hij,ho,⟨g',c',h1,h2,h3⟩ =>
    have h6:j≠11:=fun e=>by
     obtain rfl:=Option.some.inj ho;rw [e] at hnw;cases hnw.symm.trans (show A0 _ 11=true by kernel_rfl)
    exact ⟨g',c',Ah h1 hW (fun o e=>by omega),h2.keep hW (fun o e=>by omega),h3⟩
   | _+15,_,ho,_=>simp at ho
  ·intro i o a' W K ho F L hw hK
   have hsz:=L.size;have tz:=F.get (t:=0) (v:=(pt z 12)) (by decide) rfl;have t6:=F.get (t:=6) (v:=.i (t%64)) (by decide) rfl
   match i with
   | 0 =>
    cases ho;go_simp;exact Hk hK rfl
   | 1 =>
    cases ho;go_simp;exact Hk hK rfl
   | 2 =>
    cases ho;have q1:tv a' 17=_:=Hr hw 1;go_simp;exact Hk hK rfl
   | 3 =>
    cases ho;have q1:tv a' 18=_:=Hr hw 2;go_simp;exact Hk hK rfl
   | 4 =>
    cases ho;have q1:tv a' 19=_:=Hr hw 3
    have r2:=Ag (Ah y0 L (fun o ⟨j,oj,_,hj,hnw,e⟩=>by
     rcases e with ⟨_,e,-⟩ | ⟨rfl,_⟩
     ·exact HL.out.2.2.2 _ (Or.inr e) rfl
     ·obtain rfl:=Option.some.inj hj
      cases hnw.symm.trans (show A0 _ 4=true by kernel_rfl)))
    go_simp;exact Hk hK rfl
   | 5 =>
    cases ho;go_simp;exact Hk hK rfl
   | 6 =>
    cases ho;have q1:tv a' 21=_:=Hr hw 5;go_simp;exact Hk hK rfl
   | 7 =>
    cases ho;have q1:tv a' 22=_:=Hr hw 6
    have r2:=Ag (Ah y0 L (fun o ⟨j,oj,_,hj,hnw,e⟩=>by
     rcases e with ⟨_,e,-⟩ | ⟨rfl,_⟩
     ·exact HL.out.2.2.2 _ (Or.inr e) rfl
     ·obtain rfl:=Option.some.inj hj
      cases hnw.symm.trans (show A0 _ 7=true by kernel_rfl)))
    go_simp;exact Hk hK rfl
   | 8 =>
    cases ho;go_simp;exact Hk hK rfl
   | 9 =>
    cases ho;have q1:tv a' 23=_:=Hr hw 7;have q2:tv a' 24=_:=Hr hw 8
    have V1:=(U1.keep L (fun q e _ _ o ⟨j,oj,_,hj,hnw,e'⟩=>by
     rcases e' with ⟨rfl,e',-⟩ | ⟨rfl,e'⟩
     ·exact HL.out.2.2.1 q e e'
     ·exact HL.out.2.2.2 q (Or.inl e) e')).ints
    have V2:=(U2.keep L (fun q e _ _ o ⟨j,oj,_,hj,hnw,e'⟩=>by
     rcases e' with ⟨rfl,e',-⟩ | ⟨rfl,e'⟩
     ·obtain rfl:=Option.some.inj hj
      cases hnw.symm.trans (show A0 _ 9=true by kernel_rfl)
     ·exact HL.out.2.2.2 q (Or.inr e) e')).ints
    go_simp;refine (HDOT.out W V1 V2).mono ?_;rintro e W' ⟨rfl,LB⟩;exact hK _ _ (Ab LB _) rfl
   | 10 =>
    cases ho;have q1:tv a' 25=_:=Hr hw 9;go_simp;exact hK _ _ ((Wrote.refl _ W).alloc _) ⟨_,rfl,by omega,Ag (Al W #[.i dv] 3) 0⟩
   | 11 =>
    cases ho;have q1:tv a' 20=_:=Hr hw 4;obtain ⟨aa,q2,q3,q4⟩:∃ a,a'.tmps[26]?.getD undef=.slice (some ⟨a,0,none⟩) 1 1∧W0.heap.size≤a∧W.cell? ⟨a,0,none⟩=some (.i dv):=Hr hw 10
    have V2:=U2.keep L (fun q e _ _ o ⟨j,oj,hne,hj,hnw,e'⟩=>by
     rcases e' with ⟨rfl,e',-⟩ | ⟨rfl,e'⟩
     ·exact hne rfl
     ·exact HL.out.2.2.2 q (Or.inr e) e')
    refine Se W (.tmp 20) (.tmp 26) rfl lo o2 (.slice qa m qx) m g (by simpa [Act.eval] using q1) V2 (by omega) (by omega) aa dv (by simpa [Act.eval] using q2) q4 ?_;rintro g' c' W' ⟨cx,hcx,h1⟩ h2 h3
    obtain rfl:c'=cx:=by simpa using hcx
    exact hK _ _ (h2.mono (fun b o _ e=>Or.inl ⟨rfl,HSP.out _ _ e,e⟩)) ⟨g',c',rfl,h1,by rcases h3 with h3 | h3; exact Or.inl h3; exact Or.inr (by omega)⟩
   | 12 =>
    cases ho;have q1:tv a' 16=_:=Hr hw 0;go_simp;exact Hk hK rfl
   | 13 =>
    cases ho;have q1:tv a' 28=_:=Hr hw 12;go_simp;exact Hk hK rfl
   | 14 =>
    cases ho;have q1:tv a' 29=_:=Hr hw 13;obtain ⟨g',c',q2,q3,q4⟩:∃ g' c',a'.tmps[27]?.getD undef=.slice (some ⟨g',0,none⟩) (m+1) c'∧Row W lo g' (m+1) c' (snoc g m dv)∧(o2=some g'∨W0.heap.size≤g'):=Hr hw 11;have r2b:=Ah y0 L (fun o ⟨j,_,hne,_,_,e⟩=>by rcases e with ⟨_,e,-⟩ | ⟨rfl,_⟩; exact HL.out.2.2.2 _ (Or.inr e) rfl; exact hne rfl);have r2:=Ag r2b;have r2f:=As r2b;go_simp;have WZ:Wrote (fun b _=>b=z) W (W.setCell ⟨z,19,none⟩ (.slice (some ⟨g',0,none⟩) (m+1) c')):=Wrote.setCell (Wrote.refl (fun b _=>b=z) W) (fun _=>rfl) _;exact hK undef _ (WZ.mono (fun b o _ e=>Or.inr ⟨rfl,e⟩)) ⟨g',c',Af r2b _,q3.keep WZ (fun o e=>by subst e; rcases q4 with q4 | q4; exact HL.out.2.2.2 _ (Or.inr q4) rfl; omega),q4⟩
   | _+15=>simp at ho
  ·intro a' W F L hφ
   obtain ⟨g',c',b8,R8,h8⟩:∃ g' c',W.heap[z]?=some (.cells #[xs 0,xs 1,xs 2,xs 3,xs 4,xs 5,xs 6,xs 7,xs 8,xs 9,xs 10,xs 11,.i t,.i c,.i s,.i ad,.i pl,.bool bl,.slice pa n px,.slice (some ⟨g',0,none⟩) (m+1) c',xs 20,xs 21,xs 22,xs 23,xs 24,xs 25,xs 26,xs 27,xs 28,xs 29,xs 30,xs 31,xs 32,xs 33] 49 (0,0))∧Row W lo g' (m+1) c' (snoc g m dv)∧(o2=some g'∨W0.heap.size≤g'):=Hd hφ 14
   have T0:TBL w W lo z xs o1 o2 (.slice pa n px) (.slice qa m qx) (.slice (some ⟨w.heap.size,0,none⟩) 0 0) t c s ad pl bl n f (m+1) (snoc g m dv) 0 g:=by
    have V1:=U1.keep L (fun q e _ _ o ⟨j,e'⟩=>by
     rcases e' with ⟨_,e',-⟩ | ⟨_,e'⟩
     ·exact HL.out.2.2.1 q e e'
     ·exact HL.out.2.2.2 q (Or.inl e) e')
    have V3:=Ah x0 L (fun o ⟨j,e'⟩=>by
     rcases e' with ⟨_,e',-⟩ | ⟨_,e'⟩
     ·have:=HL.out.2.1 _ e'; omega
     ·omega)
    refine ⟨some g',_,some w.heap.size,b8,V1,⟨_,rfl,R8⟩,⟨_,rfl,Row.empty g V3 hlo⟩,fun q e1 e2=>?_,fun q e1 e2=>?_,fun q e1 e2=>?_,fun q e=>?_,WB.trans (L.mono (fun b o _ ⟨j,e⟩=>by rcases e with ⟨_,-,e⟩ | ⟨_,e⟩; exact Or.inr e; exact Or.inl e)),fun q e=>?_,fun b o hb h=>Je (N:=w.heap.size) U2 (h8.imp id (fun x=>by omega)) hb h⟩
    ·obtain rfl:=Option.some.inj e2
     rcases h8 with h8 | h8
     ·exact HL.out.2.2.1 _ e1 h8
     ·have:=HL.out.1 _ e1; omega
    ·obtain rfl:=Option.some.inj e2
     have:=HL.out.1 _ e1
     omega
    ·obtain rfl:=Option.some.inj e1
     have e3:=Option.some.inj e2
     rcases h8 with h8 | h8
     ·have:=HL.out.2.1 _ h8; omega
     ·omega
    ·rcases e with e | e | e
     ·exact HL.out.2.2.2 q (Or.inl e)
     ·obtain rfl:=Option.some.inj e
      rcases h8 with h8 | h8
      ·exact HL.out.2.2.2 _ (Or.inr h8)
      ·omega
     ·obtain rfl:=Option.some.inj e
      omega
    ·rcases e with e | e
     ·obtain rfl:=Option.some.inj e
      rcases h8 with h8 | h8
      ·exact Or.inl h8
      ·exact Or.inr (by omega)
     ·obtain rfl:=Option.some.inj e
      exact Or.inr (Nat.le_refl _)
   clear hφ L;rw [F.same,show slotsOf [some 16,some 17,some 18,some 19,some 20,some 21,some 22,some 23,some 24,some 25,some 26,some 27,some 28,some 29,none]=[16,17,18,19,20,21,22,23,24,25,26,27,28,29] from rfl];simp only [List.foldl_cons,List.foldl_nil];generalize a'.tmps[16]?.getD undef=s16;generalize a'.tmps[17]?.getD undef=s17;generalize a'.tmps[18]?.getD undef=s18;generalize a'.tmps[19]?.getD undef=s19;generalize a'.tmps[20]?.getD undef=s20;generalize a'.tmps[21]?.getD undef=s21;generalize a'.tmps[22]?.getD undef=s22;generalize a'.tmps[23]?.getD undef=s23;generalize a'.tmps[24]?.getD undef=s24;generalize a'.tmps[25]?.getD undef=s25;generalize a'.tmps[26]?.getD undef=s26;generalize a'.tmps[27]?.getD undef=s27;generalize a'.tmps[28]?.getD undef=s28;generalize a'.tmps[29]?.getD undef=s29;have c2:=Ag b8;have f2:=As b8
   have HTB:=Ad T0;clear T0 R8 F y0 x0 U1 U2 d0 g0 c0 b8;rename_i KK hKK;refine hKK _ _ ?_;go_simp;go_wp2;obtain ⟨i1,i2,i3,i4,i5,i6⟩:=HE.out;refine bodyPost_ret (v:=.tuple #[.slice (some ⟨w.heap.size,0,none⟩) 0 0,.bool false]) (by simp [results,Tryz.results143,go_sem]) rfl ?_;rw [i1,i2,i3,i4,i5,i6];exact ⟨_,rfl,HTB.out.up (t+1)⟩
 by_cases hB:t%64=48
 ·have HE:Hid (Ga t=t+1∧Ho t bl=true∧tkM t m=0∧Kz t f s pl m g=g∧Ki t m=m∧Py t c=decide (127<c)):=⟨if_neg HT.out,(if_neg HT.out).trans (if_pos hB),(if_neg HT.out).trans ((if_neg hA).trans (if_pos hB)),(if_neg HT.out).trans (if_neg hA),(if_neg HT.out).trans (if_pos hB),(if_neg HT.out).trans (if_pos hB)⟩
  have y1:=Ax y0 (.cells #[] 3);have d1:=Ag y1;have g1:=As y1;have LA:Below W0.heap.size W0 (W0.alloc (.cells #[] 3)):=(Below.refl _ _).alloc (Nat.le_refl _) _;have x1:=Al W0 #[] 3;have WS:Wrote (fun b _=>b=z) (W0.alloc (.cells #[] 3)) (((W0.alloc (.cells #[] 3)).setCell ⟨z,19,none⟩ (.slice (some ⟨W0.heap.size,0,none⟩) 0 0)).setCell ⟨z,17,none⟩ (.bool true)):=Wrote.setCell (R:=fun b _=>b=z) (Wrote.setCell (R:=fun b _=>b=z) (Wrote.refl _ _) (fun _=>rfl) _) (fun _=>rfl) _
  have T0:TBL w (((W0.alloc (.cells #[] 3)).setCell ⟨z,19,none⟩ (.slice (some ⟨W0.heap.size,0,none⟩) 0 0)).setCell ⟨z,17,none⟩ (.bool true)) lo z xs o1 o2 (.slice pa n px) (.slice qa m qx) (.slice qa m qx) t c s ad pl true n f 0 g m g:=by
   refine ⟨some W0.heap.size,_,o2,Af (Af y1 _) _,(U1.below LA).keep WS (fun q e _ _ _ e'=>HL.out.2.2.2 q (Or.inl e) e'),⟨0,rfl,Row.empty g (Ah x1 WS (fun o e=>by omega)) (by omega)⟩,(U2.below LA).keep WS (fun q e _ _ _ e'=>HL.out.2.2.2 q (Or.inr e) e'),fun q e1 e2=>?_,HL.out.2.2.1,fun q e1 e2=>?_,fun q e=>?_,(WB.alloc _).trans (WS.mono (fun b o _ e=>Or.inl e)),fun q e=>?_,fun b o hb h=>?_⟩
   ·obtain rfl:=Option.some.inj e2
    have:=HL.out.1 _ e1
    omega
   ·obtain rfl:=Option.some.inj e1
    have:=HL.out.2.1 _ e2
    omega
   ·rcases e with e | e | e
    ·exact HL.out.2.2.2 q (Or.inl e)
    ·obtain rfl:=Option.some.inj e
     omega
    ·exact HL.out.2.2.2 q (Or.inr e)
   ·rcases e with e | e
    ·obtain rfl:=Option.some.inj e
     exact Or.inr (by omega)
    ·exact Or.inl e
   ·obtain ⟨n1,c1,e,-⟩:=h
    simp only [Value.slice.injEq,Option.some.injEq,Addr.mk.injEq,and_true] at e
    omega
  have HTB:=Ad T0;rw [hB] at m64;clear T0 hA hB U1 U2 WS x0 x1 y0 y1 LA WB L0 sz
  go_enter Tryz.func143,Tryz.ntmps143
  go_upto_region 2 with (fail);rw [← hW0];clear hW0 c0;go_wp2;obtain ⟨i1,i2,i3,i4,i5,i6⟩:=HE.out;refine bodyPost_ret (v:=.tuple #[.slice qa m qx,.bool (decide (127<c))]) (by simp [results,Tryz.results143,go_sem]) rfl ?_;rw [i1,i2,i3,i4,i5,i6];exact ⟨_,rfl,HTB.out.up (t+1)⟩
 have T1:∀ W,Wrote (fun b _=>b=z) W0 W→∀ b',W.heap[z]?=some (.cells #[xs 0,xs 1,xs 2,xs 3,xs 4,xs 5,xs 6,xs 7,xs 8,xs 9,xs 10,xs 11,.i t,.i c,.i s,.i ad,.i pl,.bool b',.slice pa n px,.slice qa m qx,xs 20,xs 21,xs 22,xs 23,xs 24,xs 25,xs 26,xs 27,xs 28,xs 29,xs 30,xs 31,xs 32,xs 33] 49 (0,0))→TBL w W lo z xs o1 o2 (.slice pa n px) (.slice qa m qx) (.slice (some ⟨w.heap.size,0,none⟩) 0 0) t c s ad pl b' n f m g 0 g:=fun W WS b' hb'=>by
  refine ⟨o2,_,some w.heap.size,hb',U1.keep WS (fun q e _ _ _ e'=>HL.out.2.2.2 q (Or.inl e) e'),U2.keep WS (fun q e _ _ _ e'=>HL.out.2.2.2 q (Or.inr e) e'),⟨0,rfl,Row.empty g (Ah x0 WS (fun o e=>by omega)) hlo⟩,HL.out.2.2.1,fun q e1 e2=>?_,fun q e1 e2=>?_,fun q e=>?_,WB.trans (WS.mono (fun b o _ e=>Or.inl e)),fun q e=>?_,fun b o hb h=>h⟩
  ·obtain rfl:=Option.some.inj e2
   have:=HL.out.1 _ e1
   omega
  ·obtain rfl:=Option.some.inj e2
   have:=HL.out.2.1 _ e1
   omega
  ·rcases e with e | e | e
   ·exact HL.out.2.2.2 q (Or.inl e)
   ·exact HL.out.2.2.2 q (Or.inr e)
   ·obtain rfl:=Option.some.inj e
    omega
  ·rcases e with e | e
   ·exact Or.inl e
   ·obtain rfl:=Option.some.inj e
    exact Or.inr (Nat.le_refl _)
 have HY:=Ad y0;have HT1:=Ad T1;clear T1 U1 U2 x0 WB L0 sz y0
 by_cases hC:t%64=63
 ·have HE:Hid (Ga t=t+1∧Ho t bl=false∧tkM t m=m∧Kz t f s pl m g=g∧Ki t m=0∧Py t c=false):=⟨if_neg HT.out,(if_neg HT.out).trans ((if_neg hB).trans (if_pos hC)),(if_neg HT.out).trans ((if_neg hA).trans (if_neg hB)),(if_neg HT.out).trans (if_neg hA),(if_neg HT.out).trans (if_neg hB),(if_neg HT.out).trans (if_neg hB)⟩
  rw [hC] at m64;clear hA hB hC
  go_enter Tryz.func143,Tryz.ntmps143
  go_upto_region 2 with (fail);rw [← hW0];clear hW0 c0;go_wp2;obtain ⟨i1,i2,i3,i4,i5,i6⟩:=HE.out;refine bodyPost_ret (v:=.tuple #[.slice (some ⟨w.heap.size,0,none⟩) 0 0,.bool false]) (by simp [results,Tryz.results143,go_sem]) rfl ?_;rw [i1,i2,i3,i4,i5,i6];exact ⟨_,rfl,(HT1.out _ (Wrote.setCell (R:=fun b _=>b=z) (Wrote.refl _ _) (fun _=>rfl) _) false (Af HY.out _)).up (t+1)⟩
 ·have HE:Hid (Ga t=t+1∧Ho t bl=bl∧tkM t m=m∧Kz t f s pl m g=g∧Ki t m=0∧Py t c=false):=⟨if_neg HT.out,(if_neg HT.out).trans ((if_neg hB).trans (if_neg hC)),(if_neg HT.out).trans ((if_neg hA).trans (if_neg hB)),(if_neg HT.out).trans (if_neg hA),(if_neg HT.out).trans (if_neg hB),(if_neg HT.out).trans (if_neg hB)⟩
  have b1:decide (t%64<48)=false:=by simpa using hA
  have b2:(t%64==48)=false:=by simpa using hB
  have b3:(t%64==63)=false:=by simpa using hC
  clear hB hC
  go_enter Tryz.func143,Tryz.ntmps143
  go_upto_region 2 with (fail);rw [← hW0];clear hW0 c0;go_wp2;obtain ⟨i1,i2,i3,i4,i5,i6⟩:=HE.out;refine bodyPost_ret (v:=.tuple #[.slice (some ⟨w.heap.size,0,none⟩) 0 0,.bool false]) (by simp [results,Tryz.results143,go_sem]) rfl ?_;rw [i1,i2,i3,i4,i5,i6];exact ⟨_,rfl,(HT1.out _ (Wrote.refl _ _) bl HY.out).up (t+1)⟩
set_option maxHeartbeats 1000000
open Go.Sort
theorem Du (w:World) (z:Nat) (xs:Nat→Value) (T P C B L:Int) (S Q:Bool) (hb:w.heap[z]?=some (.cells #[xs 0,xs 1,xs 2,xs 3,xs 4,xs 5,xs 6,xs 7,xs 8,xs 9,xs 10,xs 11,xs 12,xs 13,xs 14,xs 15,xs 16,xs 17,xs 18,xs 19,.i T,.i P,.i C,.i B,.i L,.bool S,.bool Q,xs 27,xs 28,xs 29,xs 30,xs 31,xs 32,xs 33] 49 (0,0))) (b:Bool) (h:decide (0<L)=b):Calls Tryz.prog 185 #[(pt z 20)] w fun e w'=>e=.returned (.bool b)∧w'=w:=by
 have hc:=Ag hb;have HH:=Ad h;clear h hb
 go_enter Tryz.func185,Tryz.ntmps185
 go_wp2;go_ret;exact ⟨Ap HH.out,rfl⟩
theorem Zy (w:World) (z:Nat) (xs:Nat→Value) (T P C B L:Int) (S Q:Bool) (hb:w.heap[z]?=some (.cells #[xs 0,xs 1,xs 2,xs 3,xs 4,xs 5,xs 6,xs 7,xs 8,xs 9,xs 10,xs 11,xs 12,xs 13,xs 14,xs 15,xs 16,xs 17,xs 18,xs 19,.i T,.i P,.i C,.i B,.i L,.bool S,.bool Q,xs 27,xs 28,xs 29,xs 30,xs 31,xs 32,xs 33] 49 (0,0))) (c0:0≤C) (c1:C≤255) (b0:0≤B) (b1:B≤1):Calls Tryz.prog 172 #[(pt z 20)] w fun e w'=>e=.returned (.tuple #[])∧w'.heap[z]?=some (.cells #[xs 0,xs 1,xs 2,xs 3,xs 4,xs 5,xs 6,xs 7,xs 8,xs 9,xs 10,xs 11,xs 12,xs 13,xs 14,xs 15,xs 16,xs 17,xs 18,xs 19,.i T,.i P,.i (Ft P C),.i (Fa C B L),.i L,.bool S,.bool Q,xs 27,xs 28,xs 29,xs 30,xs 31,xs 32,xs 33] 49 (0,0))∧Wrote (fun b _=>b=z) w w':=by
 have hc:=Ag hb;have hf:=As hb
 by_cases hC:C=0
 ·subst hC
  have hb1:=Bt hb 22 (.i P);simp only [List.setIfInBounds_toArray,List.set_cons_succ,List.set_cons_zero] at hb1;have W1:Wrote (fun b _=>b=z) w (w.setCell ⟨z,22,none⟩ (.i P)):=Wrote.setCell (R:=fun b _=>b=z) (Wrote.refl _ w) (fun _=>rfl) _;clear hb
  by_cases hL:0<L
  ·have HE:Hid (Ft P 0=P∧Fa 0 B L=1-B):=⟨if_pos rfl,if_pos ⟨rfl,hL⟩⟩
   rw [HE.out.1,HE.out.2];clear HE
   go_enter Tryz.func172,Tryz.ntmps172
   go_wp2_with fail;clear hc hf;generalize w.setCell ⟨z,22,none⟩ (.i P)=w1 at *;refine (Du _ z xs T P P B L S Q hb1 true (decide_eq_true hL)).mono ?_;rintro e w2 ⟨rfl,rfl⟩;have hb2:=Bt hb1 23 (.i (1-B));simp only [List.setIfInBounds_toArray,List.set_cons_succ,List.set_cons_zero] at hb2;have HX:=Ad (And.intro hb2 (Wrote.setCell (b:=z) (o:=23) W1 (fun _=>rfl) (.i (1-B))));have hc:=Ag hb1;have hf:=As hb1;clear hb1 hb2 W1;go_wp2
   ((try simp only [Exit.inBlock,Exit.then]); first | (refine bodyPost_ret (results_none rfl _ _ _) rfl ?_) | (refine bodyPost_end (results_none rfl _ _ _) rfl ?_))
   exact ⟨rfl,HX.out.1,HX.out.2⟩
  ·have HE:Hid (Ft P 0=P∧Fa 0 B L=B):=⟨if_pos rfl,if_neg (by simp [hL])⟩
   rw [HE.out.1,HE.out.2];clear HE
   go_enter Tryz.func172,Tryz.ntmps172
   go_wp2_with fail;clear hc hf;generalize w.setCell ⟨z,22,none⟩ (.i P)=w1 at *;refine (Du _ z xs T P P B L S Q hb1 false (decide_eq_false (by omega))).mono ?_;rintro e w2 ⟨rfl,rfl⟩;have HX:=Ad (And.intro hb1 W1);clear hb1 W1;go_wp2
   ((try simp only [Exit.inBlock,Exit.then]); first | (refine bodyPost_ret (results_none rfl _ _ _) rfl ?_) | (refine bodyPost_end (results_none rfl _ _ _) rfl ?_))
   exact ⟨rfl,HX.out.1,HX.out.2⟩
 ·have HE:Hid (Ft P C=C-1∧Fa C B L=B):=⟨if_neg hC,if_neg (by simp [hC])⟩
  rw [HE.out.1,HE.out.2]
  have hC1:0<C:=by omega
  have hb2:=Bt hb 22 (.i (C-1));simp only [List.setIfInBounds_toArray,List.set_cons_succ,List.set_cons_zero] at hb2;have HX:=Ad (And.intro hb2 (Wrote.setCell (R:=fun b _=>b=z) (b:=z) (o:=22) (Wrote.refl _ w) (fun _=>rfl) (.i (C-1))));clear hb2 hb HE
  go_enter Tryz.func172,Tryz.ntmps172
  go_wp2
  ((try simp only [Exit.inBlock,Exit.then]); first | (refine bodyPost_ret (results_none rfl _ _ _) rfl ?_) | (refine bodyPost_end (results_none rfl _ _ _) rfl ?_))
  exact ⟨rfl,HX.out.1,HX.out.2⟩
theorem Zz (w:World) (z:Nat) (xs:Nat→Value) (T P C B L:Int) (S Q:Bool) (hb:w.heap[z]?=some (.cells #[xs 0,xs 1,xs 2,xs 3,xs 4,xs 5,xs 6,xs 7,xs 8,xs 9,xs 10,xs 11,xs 12,xs 13,xs 14,xs 15,xs 16,xs 17,xs 18,xs 19,.i T,.i P,.i C,.i B,.i L,.bool S,.bool Q,xs 27,xs 28,xs 29,xs 30,xs 31,xs 32,xs 33] 49 (0,0))) (l1:L≤31):Calls Tryz.prog 173 #[(pt z 20)] w fun e w'=>e=.returned (.tuple #[])∧w'.heap[z]?=some (.cells #[xs 0,xs 1,xs 2,xs 3,xs 4,xs 5,xs 6,xs 7,xs 8,xs 9,xs 10,xs 11,xs 12,xs 13,xs 14,xs 15,xs 16,xs 17,xs 18,xs 19,.i T,.i P,.i C,.i B,.i (Re L),.bool S,.bool (Rf L S Q),xs 27,xs 28,xs 29,xs 30,xs 31,xs 32,xs 33] 49 (0,0))∧Wrote (fun b _=>b=z) w w':=by
 have hc:=Ag hb;have hf:=As hb
 by_cases hL:0<L
 ·have HE:Hid (Re L=L-1∧Rf L S Q=(Q || (decide (L-1=0) && S))):=⟨if_pos hL,if_pos hL⟩
  rw [HE.out.1,HE.out.2];have hb1:=Bt hb 24 (.i (L-1));simp only [List.setIfInBounds_toArray,List.set_cons_succ,List.set_cons_zero] at hb1;have W1:Wrote (fun b _=>b=z) w (w.setCell ⟨z,24,none⟩ (.i (L-1))):=Wrote.setCell (R:=fun b _=>b=z) (Wrote.refl _ w) (fun _=>rfl) _
  go_enter Tryz.func173,Tryz.ntmps173
  go_wp2_with fail;refine (Du _ z xs T P C B L S Q hb true (decide_eq_true hL)).mono ?_;rintro e w2 ⟨rfl,rfl⟩;clear hb HE;cases S
  ·have HX:=Ad (And.intro hb1 W1)
   clear hb1 W1;go_wp2
   ((try simp only [Exit.inBlock,Exit.then]); first | (refine bodyPost_ret (results_none rfl _ _ _) rfl ?_) | (refine bodyPost_end (results_none rfl _ _ _) rfl ?_))
   rw [Bool.and_false,Bool.or_false];exact ⟨rfl,HX.out.1,HX.out.2⟩
  ·go_wp2_with fail
   clear hc hf;generalize w2.setCell ⟨z,24,none⟩ (.i (L-1))=w1 at *
   by_cases h1:L-1=0
   ·refine (Du _ z xs T P C B (L-1) true Q hb1 false (decide_eq_false (by omega))).mono ?_
    rintro e w3 ⟨rfl,rfl⟩;have hb2:=Bt hb1 26 (.bool true);simp only [List.setIfInBounds_toArray,List.set_cons_succ,List.set_cons_zero] at hb2;have HX:=Ad (And.intro hb2 (Wrote.setCell (b:=z) (o:=26) W1 (fun _=>rfl) (.bool true)));have hc:=Ag hb1;have hf:=As hb1
    have HT:Hid ((Q || (decide (L-1=0) && true))=true):=by show _=_; rw [decide_eq_true h1]; simp
    clear hb1 hb2 W1 h1;go_wp2
    ((try simp only [Exit.inBlock,Exit.then]); first | (refine bodyPost_ret (results_none rfl _ _ _) rfl ?_) | (refine bodyPost_end (results_none rfl _ _ _) rfl ?_))
    rw [HT.out];exact ⟨rfl,HX.out.1,HX.out.2⟩
   ·refine (Du _ z xs T P C B (L-1) true Q hb1 true (decide_eq_true (by omega))).mono ?_
    rintro e w3 ⟨rfl,rfl⟩;have HX:=Ad (And.intro hb1 W1)
    have HT:Hid ((Q || (decide (L-1=0) && true))=Q):=by show _=_; rw [decide_eq_false h1]; simp
    clear hb1 W1 h1;go_wp2
    ((try simp only [Exit.inBlock,Exit.then]); first | (refine bodyPost_ret (results_none rfl _ _ _) rfl ?_) | (refine bodyPost_end (results_none rfl _ _ _) rfl ?_))
    rw [HT.out];exact ⟨rfl,HX.out.1,HX.out.2⟩
 ·have HE:Hid (Re L=L∧Rf L S Q=Q):=⟨if_neg hL,if_neg hL⟩
  rw [HE.out.1,HE.out.2]
  go_enter Tryz.func173,Tryz.ntmps173
  go_wp2_with fail;refine (Du _ z xs T P C B L S Q hb false (decide_eq_false (by omega))).mono ?_;rintro e w2 ⟨rfl,rfl⟩;have HX:=Ad hb;clear hb HE hc hf;go_wp2
  ((try simp only [Exit.inBlock,Exit.then]); first | (refine bodyPost_ret (results_none rfl _ _ _) rfl ?_) | (refine bodyPost_end (results_none rfl _ _ _) rfl ?_))
  exact ⟨rfl,HX.out,Wrote.refl _ _⟩
theorem Ut (w:World) (z:Nat) (xs:Nat→Value) (T P C B L:Int) (S Q:Bool) (hb:w.heap[z]?=some (.cells #[xs 0,xs 1,xs 2,xs 3,xs 4,xs 5,xs 6,xs 7,xs 8,xs 9,xs 10,xs 11,xs 12,xs 13,xs 14,xs 15,xs 16,xs 17,xs 18,xs 19,.i T,.i P,.i C,.i B,.i L,.bool S,.bool Q,xs 27,xs 28,xs 29,xs 30,xs 31,xs 32,xs 33] 49 (0,0))) (b0:0≤B) (b1:B≤1):Calls Tryz.prog 174 #[(pt z 20)] w fun e w'=>e=.returned (.i (if 0<L then 8*B else 0))∧w'=w:=by
 have hc:=Ag hb
 by_cases hL:0<L
 ·rw [if_pos hL]
  go_enter Tryz.func174,Tryz.ntmps174
  go_wp2_with fail;refine (Du _ z xs T P C B L S Q hb true (decide_eq_true hL)).mono ?_;rintro e w2 ⟨rfl,rfl⟩;clear hb;go_wp2;go_ret;exact ⟨rfl,rfl⟩
 ·rw [if_neg hL]
  go_enter Tryz.func174,Tryz.ntmps174
  go_wp2_with fail;refine (Du _ z xs T P C B L S Q hb false (decide_eq_false (by omega))).mono ?_;rintro e w2 ⟨rfl,rfl⟩;clear hb;go_wp2;go_ret;exact ⟨rfl,rfl⟩
theorem X8 (w:World) (z:Nat) (xs:Nat→Value) (T P C B L:Int) (S Q:Bool) (hb:w.heap[z]?=some (.cells #[xs 0,xs 1,xs 2,xs 3,xs 4,xs 5,xs 6,xs 7,xs 8,xs 9,xs 10,xs 11,xs 12,xs 13,xs 14,xs 15,xs 16,xs 17,xs 18,xs 19,.i T,.i P,.i C,.i B,.i L,.bool S,.bool Q,xs 27,xs 28,xs 29,xs 30,xs 31,xs 32,xs 33] 49 (0,0))) (h:If T P C B L) (hT:T≠20000):Calls Tryz.prog 144 #[(pt z 20)] w fun e w'=>e=.returned (.tuple #[.i (Kq T C B L),.bool (Dx T)])∧w'.heap[z]?=some (.cells #[xs 0,xs 1,xs 2,xs 3,xs 4,xs 5,xs 6,xs 7,xs 8,xs 9,xs 10,xs 11,xs 12,xs 13,xs 14,xs 15,xs 16,xs 17,xs 18,xs 19,.i (T+1),.i P,.i (Ft P C),.i (Fa C B L),.i (Fu T L),.bool S,.bool (Gq T L S Q),xs 27,xs 28,xs 29,xs 30,xs 31,xs 32,xs 33] 49 (0,0))∧Wrote (fun b _=>b=z) w w':=by
 have t0:=h.t0;have t1:=h.t1;have m32:T.tmod 32=T%32:=Int.tmod_eq_emod_of_nonneg t0;have m16:T.tmod 16=T%16:=Int.tmod_eq_emod_of_nonneg t0
 obtain ⟨b',hb'⟩:∃ b',Hid (b'=Fa C B L):=⟨_,rfl⟩
 have B0:0≤b':=by rw [hb'.out]; have:=h.b0; have:=h.b1; unfold Fa; split <;> omega
 have B1:b'≤1:=by rw [hb'.out]; have:=h.b0; have:=h.b1; unfold Fa; split <;> omega
 obtain ⟨l',hl'⟩:∃ l',Hid (l'=Fu T L):=⟨_,rfl⟩
 obtain ⟨q',hq'⟩:∃ q',Hid (q'=Gq T L S Q):=⟨_,rfl⟩
 have HV:Hid (Kq T C B L=if T%16=15 then (if 0<l' then 8*b' else 0) else 0):=by
  show _=_
  rw [hl'.out,hb'.out];unfold Kq
  by_cases h1:T%16=15 <;> by_cases h2:0<Fu T L <;> simp [h1,h2]
 obtain ⟨sv,hsv⟩:∃ sv,Hid (sv=if T%16=15 then (if 0<l' then 8*b' else 0) else 0):=⟨_,rfl⟩
 obtain ⟨dT,hdT⟩:∃ d,Hid (d=Dx T):=⟨_,rfl⟩
 rw [HV.out,← hb'.out,← hl'.out,← hq'.out,← hsv.out,← hdT.out];have TF:=Tk T C L B S Q;rw [← hl'.out,← hq'.out] at TF;obtain ⟨TL,TQ⟩:=TF;have l1:=h.l1
 obtain ⟨cc,hcc⟩:∃ cc,Hid (cc=Ft P C):=⟨_,rfl⟩
 have HT:=Ad (Zy w z xs T P C B L S Q hb h.c0 h.c1 h.b0 h.b1);rw [← hb'.out,← hcc.out] at HT;rw [← hcc.out];clear hb h hb' hl' hq' hcc HV
 go_enter Tryz.func144,Tryz.ntmps144
 go_wp2_with fail;refine HT.out.mono ?_;rintro e w1 ⟨rfl,hb1,W1⟩;clear HT
 have END:∀ w3:World,w3.heap[z]?=some (.cells #[xs 0,xs 1,xs 2,xs 3,xs 4,xs 5,xs 6,xs 7,xs 8,xs 9,xs 10,xs 11,xs 12,xs 13,xs 14,xs 15,xs 16,xs 17,xs 18,xs 19,.i T,.i P,.i cc,.i b',.i l',.bool S,.bool q',xs 27,xs 28,xs 29,xs 30,xs 31,xs 32,xs 33] 49 (0,0))→Wrote (fun b _=>b=z) w w3→(w3.setCell ⟨z,20,none⟩ (.i (T+1))).heap[z]?=some (.cells #[xs 0,xs 1,xs 2,xs 3,xs 4,xs 5,xs 6,xs 7,xs 8,xs 9,xs 10,xs 11,xs 12,xs 13,xs 14,xs 15,xs 16,xs 17,xs 18,xs 19,.i (T+1),.i P,.i cc,.i b',.i l',.bool S,.bool q',xs 27,xs 28,xs 29,xs 30,xs 31,xs 32,xs 33] 49 (0,0))∧Wrote (fun b _=>b=z) w (w3.setCell ⟨z,20,none⟩ (.i (T+1))):=fun w3 h3 W3=>⟨by
  have:=Bt h3 20 (.i (T+1))
  simpa only [List.setIfInBounds_toArray,List.set_cons_succ,List.set_cons_zero] using this,Wrote.setCell W3 (fun _=>rfl) _⟩
 have HEND:=Ad END;clear END;have c1:=Ag hb1
 by_cases h32:T%32=0
 ·rw [if_pos h32] at TL TQ
  go_wp2_with fail;clear c1;refine (Zz _ z xs T P cc b' L S Q hb1 l1).mono ?_;rintro e w2 ⟨rfl,hb2,W2⟩;rw [← TL,← TQ] at hb2;replace W2:=W1.trans W2;have c2:=Ag hb2;have f2:=As hb2
  by_cases h16:T%16=15
  ·exfalso; omega
  ·have HD:Hid (dT=false∧sv=0):=⟨hdT.out.trans (decide_eq_false h16),hsv.out.trans (if_neg h16)⟩
   have HX:=Ad (HEND.out w2 hb2 W2);clear hb1 hb2 W1 W2 HEND TL TQ hdT hsv;go_wp2;go_ret2;exact ⟨by first | (rw [HD.out.1,HD.out.2]; done) | (rw [HD.out.1,HD.out.2]; rfl) | (rw [HD.out.1]; rfl),HX.out.1,HX.out.2⟩
 ·rw [if_neg h32] at TL TQ
  rw [← TL,← TQ] at hb1
  by_cases h16:T%16=15
  ·have HD:Hid (dT=true∧sv=if 0<l' then 8*b' else 0):=⟨hdT.out.trans (decide_eq_true h16),hsv.out.trans (if_pos h16)⟩
   clear hdT hsv TL TQ;have HX:=Ad (HEND.out w1 hb1 W1);clear W1 HEND;go_wp2_with fail;have f1:=As hb1;refine (Ut _ z xs T P cc b' l' S q' hb1 B0 B1).mono ?_;rintro e w2 ⟨rfl,rfl⟩;clear hb1;rw [← HD.out.2];go_wp2;go_ret2;exact ⟨by first | (rw [HD.out.1,HD.out.2]; done) | (rw [HD.out.1,HD.out.2]; rfl) | (rw [HD.out.1]; rfl),HX.out.1,HX.out.2⟩
  ·have HD:Hid (dT=false∧sv=0):=⟨hdT.out.trans (decide_eq_false h16),hsv.out.trans (if_neg h16)⟩
   have HX:=Ad (HEND.out w1 hb1 W1);have f1:=As hb1;clear hb1 W1 HEND TL TQ hdT hsv;go_wp2;go_ret2;exact ⟨by first | (rw [HD.out.1,HD.out.2]; done) | (rw [HD.out.1,HD.out.2]; rfl) | (rw [HD.out.1]; rfl),HX.out.1,HX.out.2⟩
end Go.Proofs.YtgcmimcalmjaaaaGreatDoor
