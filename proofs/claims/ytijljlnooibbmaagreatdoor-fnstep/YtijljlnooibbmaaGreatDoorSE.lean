import Derived.Test.YtijljlnooibbmaaGreatDoorWE
import Derived.Test.YtijljlnooibbmaaGreatDoorX4
import Derived.Deep.Cut
namespace Go.Proofs.YtijljlnooibbmaaGreatDoor
set_option maxHeartbeats 4000000
open Go.Proofs.Tryz
set_option linter.unusedVariables false
set_option linter.unusedSimpArgs false
open Go.ChangeShapes Go.WideShapes Go.ChangeAt Go.RowKit
structure TBL (w W:World) (lo z:Nat) (xs:Nat->Value) (o1 o2:Option Nat) (u1 u2 tv:Value) (t c s ad pl:Int) (bl:Bool) (n:Nat) (f:Nat->Int) (m:Nat) (g:Nat->Int) (k:Nat) (h:Nat->Int):Prop where
 ex:∃ o2' u2' o3,W.heap[z]?=some (.cells #[xs 0,xs 1,xs 2,xs 3,xs 4,xs 5,xs 6,xs 7,xs 8,xs 9,xs 10,xs 11,.i t,.i c,.i s,.i ad,.i pl,.bool bl,u1,u2',xs 20,xs 21,xs 22,xs 23,xs 24,xs 25,xs 26,xs 27,xs 28,xs 29,xs 30,xs 31,xs 32,xs 33] 41 (0,0))/\A8 W lo o1 u1 n f/\A8 W lo o2' u2' m g/\A8 W lo o3 tv k h/\Sl o1 o2'/\Sl o1 o3/\Sl o2' o3/\(∀ q,(o1=some q\/o2'=some q\/o3=some q)->q≠z)/\Wrote (fun b o=>b=z\/spare u2 b o) w W/\(∀ q,(o2'=some q\/o3=some q)->o2=some q\/w.heap.size<=q)/\(∀ b o,b<w.heap.size->spare u2' b o->spare u2 b o)
theorem TBL.up {w W:World} {lo z:Nat} {xs:Nat->Value} {o1 o2:Option Nat} {u1 u2 tv:Value} {t c s ad pl:Int} {bl:Bool} {n:Nat} {f:Nat->Int} {m:Nat} {g:Nat->Int} {k:Nat} {h:Nat->Int} (H:TBL w W lo z xs o1 o2 u1 u2 tv t c s ad pl bl n f m g k h) (t':Int) :
  TBL w (W.setCell ⟨z,12,none⟩ (.i t')) lo z xs o1 o2 u1 u2 tv t' c s ad pl bl n f m g k h:=by
 obtain ⟨o2',u2',o3,hb,r1,r2,r3,h1,h2,h3,hz,hw,hn,hs⟩:=H;have WS:Wrote (fun b _=>b=z) W (W.sc z 12 (.i t')):=Wrote.setCell (R:=fun b _=>b=z) (Wrote.refl _ W) (fun _=>rfl) _;exact ⟨o2',u2',o3,Am hb _,r1.keep WS (fun q e _ _ _ x=>hz q (Or.inl e) x),r2.keep WS (fun q e _ _ _ x=>hz q (Or.inr (Or.inl e)) x),r3.keep WS (fun q e _ _ _ x=>hz q (Or.inr (Or.inr e)) x),h1,h2,h3,hz,hw.setCell (fun _=>Or.inl rfl) _,hn,hs⟩
theorem Jdd (w:World) (lo z:Nat) (xs:Nat->Value) (o1 o2:Option Nat) (u1 u2:Value) (t c s ad pl:Int) (bl:Bool) (n:Nat) (f:Nat->Int) (m:Nat) (g:Nat->Int) (hb:w.heap[z]?=some (.cells #[xs 0,xs 1,xs 2,xs 3,xs 4,xs 5,xs 6,xs 7,xs 8,xs 9,xs 10,xs 11,.i t,.i c,.i s,.i ad,.i pl,.bool bl,u1,u2,xs 20,xs 21,xs 22,xs 23,xs 24,xs 25,xs 26,xs 27,xs 28,xs 29,xs 30,xs 31,xs 32,xs 33] 41 (0,0))) (R1:A8 w lo o1 u1 n f) (R2:A8 w lo o2 u2 m g) (h12:Sl o1 o2) (hz:∀ q,(o1=some q\/o2=some q)->q≠z) (hlo:lo<=w.heap.size) (ok:A1 t c s ad pl n f m g=true) (ht:¬ t=20000) :
  Calls prog 119 #[(pt z 12)] w fun e w'=>∃ tv,e=.returned (.tuple #[tv,.bool (Sk t c)])/\TBL w w' lo z xs o1 o2 u1 u2 tv (J5 t) c s ad pl (N9 t bl) n f (tkM t m) (Nh t f s pl m g) (Ml t m) g:=by
 have IP:=Ff ok;have t0:=IP.t0
 have t1:t<20000:=by have:=IP.t1; omega
 have HT:=Ac ht;have m64:t.tmod 64=t%64:=Int.tmod_eq_emod_of_nonneg t0;obtain ⟨pa,px,rfl⟩:=R1.form;obtain ⟨qa,qx,rfl⟩:=R2.form;have hzlt:=Ad hb;have y0:=Az hb (.cells #[] 3);have x0:=Ak w #[] 3;have L0:Below w.heap.size w (w.alloc (.cells #[] 3)):=(Below.refl _ _).alloc (Nat.le_refl _) _;have U1:=R1.below L0;have U2:=R2.below L0
 have sz:(w.alloc (.cells #[] 3)).heap.size=w.heap.size+1:=by simp
 have l1:∀ q,o1=some q->lo<=q/\q<w.heap.size:=fun q e=>by subst e; exact R1.lt
 have l2:∀ q,o2=some q->lo<=q/\q<w.heap.size:=fun q e=>by subst e; exact R2.lt
 have c0:=Af hb;have WB:Wrote (fun b o=>b=z\/spare (.slice qa m qx) b o) w (w.alloc (.cells #[] 3)):=Aa L0 _;have HL:=Ac (And.intro l1 (And.intro l2 (And.intro h12 hz)));have HIP:=Ac (And.intro IP ok);have HSP:=Ac (fun (b o:Nat) (h:spare (.slice qa m qx) b o)=>Ew R2 h);clear ht R1 R2 l1 l2 h12 hz hb IP ok
 obtain ⟨W0,hW0⟩:∃ W0,W0=w.alloc (.cells #[] 3):=⟨_,rfl⟩
 rw [<- hW0] at y0 x0 L0 U1 U2 sz WB;have d0:=Af y0;have g0:=Au y0
 by_cases hA:t%64<48
 .have HE:Hid (J5 t=t+1/\N9 t bl=bl/\tkM t m=m+1/\Nh t f s pl m g=snoc g m (I5 f s pl (t%64))/\Ml t m=0/\Sk t c=false):=⟨if_neg HT.out,(if_neg HT.out).trans ((if_neg (by omega)).trans (if_neg (by omega))),(if_neg HT.out).trans (if_pos hA),(if_neg HT.out).trans (if_pos hA),(if_neg HT.out).trans (if_neg (by omega)),(if_neg HT.out).trans (if_neg (by omega))⟩
  have hm48:m<48:=by
   have h1:=HIP.out.1.dots;unfold Ea at h1;rw [if_neg (by omega)] at h1
   omega
  have hb0:0<=t%64:=by omega
  have HDOT:Hid (∀ W:World,Ints .i64 W (On (fun b=>o1=some b)) (.slice pa n px) n f->Ints .i64 W (On (fun b=>o2=some b)) (.slice qa m qx) m g->CB 162 #[.agg (pR t c s ad pl bl (.slice pa n px) (.slice qa m qx)),.i (t%64)] W (.i (I5 f s pl (t%64)))):=fun W h1 h2=>by
   refine (Jen W _ _ t c s ad pl bl _ _ n f m g (t%64) h1 h2).mono ?_;rintro e w' ⟨rfl,h⟩;rw [HIP.out.2];exact ⟨A5 (if_pos ⟨rfl,by omega,by omega⟩),h⟩
  generalize hdv:I5 f s pl (t%64)=dv at *;clear hdv
  go_enter func119,ntmps119
  go_upto_region 4 with (fail);rw [<- hW0]
  refine Bp [some 16,some 17,some 18,some 19,some 20,some 21,some 22,some 23,some 24,some 25,some 26,some 27,some 28,some 29,none] (by kernel_rfl) (by kernel_rfl) (by kernel_rfl) (by kernel_rfl) (by simp [slotsOf])
   (fun j b o=>(j=11/\o2=some b/\spare (.slice qa m qx) b o)\/(j=14/\b=z))
   (fun i v W=>match i with
    | 0=>v=(pt z 12)
    | 1=>v=(pt z 12)
    | 2=>v=(pt z 12)
    | 3=>v=(pt z 19)
    | 4=>v=.slice qa m qx
    | 5=>v=(pt z 12)
    | 6=>v=(pt z 12)
    | 7=>v=.agg (pR t c s ad pl bl (.slice pa n px) (.slice qa m qx))
    | 8=>v=.i (t%64)
    | 9=>v=.i dv
    | 10=>∃ a,v=.sl a 0 1 1/\W0.heap.size<=a/\W.cell? ⟨a,0,none⟩=some (.i dv)
    | 11=>∃ g' c',v=.sl g' 0 (m+1) c'/\Row W lo g' (m+1) c' (snoc g m dv)/\(o2=some g'\/W0.heap.size<=g')
    | 12=>v=(pt z 12)
    | 13=>v=(pt z 19)
    | _=>∃ g' c',W.heap[z]?=some (.cells #[xs 0,xs 1,xs 2,xs 3,xs 4,xs 5,xs 6,xs 7,xs 8,xs 9,xs 10,xs 11,.i t,.i c,.i s,.i ad,.i pl,.bool bl,.slice pa n px,.sl g' 0 (m+1) c',xs 20,xs 21,xs 22,xs 23,xs 24,xs 25,xs 26,xs 27,xs 28,xs 29,xs 30,xs 31,xs 32,xs 33] 41 (0,0))/\Row W lo g' (m+1) c' (snoc g m dv)/\(o2=some g'\/W0.heap.size<=g')) ?_ ?_ ?_
  .intro i j o v W W' hij ho hnw hW h
   match i,hij,ho,h with
   | 0,_,_,h=>exact h
   | 1,_,_,h=>exact h
   | 2,_,_,h=>exact h
   | 3,_,_,h=>exact h
   | 4,_,_,h=>exact h
   | 5,_,_,h=>exact h
   | 6,_,_,h=>exact h
   | 7,_,_,h=>exact h
   | 8,_,_,h=>exact h
   | 9,_,_,h=>exact h
   | 10,_,_,⟨a,h1,h2,h3⟩=>exact ⟨a,h1,h2,(hW.cell a 0 (block_lt_of_cell h3) (fun e=>by rcases e with ⟨_,e,-⟩ | ⟨_,e⟩; have:=HL.out.2.1 a e; omega; omega)).trans h3⟩
   | 11,hij,_,⟨g',c',h1,h2,h3⟩=>exact ⟨g',c',h1,h2.keep hW (fun o e=>by rcases e with ⟨e,_,-⟩ | ⟨_,e⟩; omega; subst e; rcases h3 with h3 | h3; exact HL.out.2.2.2 _ (Or.inr h3) rfl; omega),h3⟩
   | 12,_,_,h=>exact h
   | 13,_,_,h=>exact h
   | 14,hij,ho,⟨g',c',h1,h2,h3⟩ =>
    have h6:j≠11:=fun e=>by
     obtain rfl:=Option.some.inj ho;rw [e] at hnw;cases hnw.symm.trans (show A0 _ 11=true by kernel_rfl)
    exact ⟨g',c',Al h1 hW (fun o e=>by omega),h2.keep hW (fun o e=>by omega),h3⟩
   | _+15,_,ho,_=>simp at ho
  .intro i o a' W K ho F L hw hK
   have hsz:=L.size;have tz:=F.get (t:=0) (v:=(pt z 12)) (by decide) rfl;have t6:=F.get (t:=6) (v:=.i (t%64)) (by decide) rfl
   match i with
   | 0 =>
    cases ho;go_simp;exact Hk hK rfl
   | 1 =>
    cases ho;go_simp;exact Hk hK rfl
   | 2 =>
    cases ho;have q1:tv a' 17=_:=Hr hw 1;go_simp;exact Hk hK rfl
   | 3 =>
    cases ho;have q1:tv a' 18=_:=Hr hw 2;go_simp;exact Hk hK rfl
   | 4 =>
    cases ho;have q1:tv a' 19=_:=Hr hw 3
    have r2:=Af (Al y0 L (fun o ⟨j,oj,_,hj,hnw,e⟩=>by
     rcases e with ⟨_,e,-⟩ | ⟨rfl,_⟩
     .exact HL.out.2.2.2 _ (Or.inr e) rfl
     .obtain rfl:=Option.some.inj hj
      cases hnw.symm.trans (show A0 _ 4=true by kernel_rfl)))
    go_simp;exact Hk hK rfl
   | 5 =>
    cases ho;go_simp;exact Hk hK rfl
   | 6 =>
    cases ho;have q1:tv a' 21=_:=Hr hw 5;go_simp;exact Hk hK rfl
   | 7 =>
    cases ho;have q1:tv a' 22=_:=Hr hw 6
    have r2:=Af (Al y0 L (fun o ⟨j,oj,_,hj,hnw,e⟩=>by
     rcases e with ⟨_,e,-⟩ | ⟨rfl,_⟩
     .exact HL.out.2.2.2 _ (Or.inr e) rfl
     .obtain rfl:=Option.some.inj hj
      cases hnw.symm.trans (show A0 _ 7=true by kernel_rfl)))
    go_simp;exact Hk hK rfl
   | 8 =>
    cases ho;go_simp;exact Hk hK rfl
   | 9 =>
    cases ho;have q1:tv a' 23=_:=Hr hw 7;have q2:tv a' 24=_:=Hr hw 8
    have V1:=(U1.keep L (fun q e _ _ o ⟨j,oj,_,hj,hnw,e'⟩=>by
     rcases e' with ⟨rfl,e',-⟩ | ⟨rfl,e'⟩
     .exact HL.out.2.2.1 q e e'
     .exact HL.out.2.2.2 q (Or.inl e) e')).ints
    have V2:=(U2.keep L (fun q e _ _ o ⟨j,oj,_,hj,hnw,e'⟩=>by
     rcases e' with ⟨rfl,e',-⟩ | ⟨rfl,e'⟩
     .obtain rfl:=Option.some.inj hj
      cases hnw.symm.trans (show A0 _ 9=true by kernel_rfl)
     .exact HL.out.2.2.2 q (Or.inr e) e')).ints
    go_simp;refine (HDOT.out W V1 V2).mono ?_;rintro e W' ⟨rfl,LB⟩;exact hK _ _ (Aa LB _) rfl
   | 10 =>
    cases ho;have q1:tv a' 25=_:=Hr hw 9;go_simp;exact hK _ _ ((Wrote.refl _ W).alloc _) ⟨_,rfl,by omega,Af (Ak W #[.i dv] 3) 0⟩
   | 11 =>
    cases ho;have q1:tv a' 20=_:=Hr hw 4;obtain ⟨aa,q2,q3,q4⟩:∃ a,a'.tmps[26]?.getD undef=.sl a 0 1 1/\W0.heap.size<=a/\W.cell? ⟨a,0,none⟩=some (.i dv):=Hr hw 10
    have V2:=U2.keep L (fun q e _ _ o ⟨j,oj,hne,hj,hnw,e'⟩=>by
     rcases e' with ⟨rfl,e',-⟩ | ⟨rfl,e'⟩
     .exact hne rfl
     .exact HL.out.2.2.2 q (Or.inr e) e')
    refine Vy W (.tmp 20) (.tmp 26) rfl lo o2 (.slice qa m qx) m g (by simpa [Act.eval] using q1) V2 (by omega) (by omega) aa dv (by simpa [Act.eval] using q2) q4 ?_;rintro g' c' W' ⟨cx,hcx,h1⟩ h2 h3
    obtain rfl:c'=cx:=by simpa using hcx
    exact hK _ _ (h2.mono (fun b o _ e=>Or.inl ⟨rfl,HSP.out _ _ e,e⟩)) ⟨g',c',rfl,h1,by rcases h3 with h3 | h3; exact Or.inl h3; exact Or.inr (by omega)⟩
   | 12 =>
    cases ho;have q1:tv a' 16=_:=Hr hw 0;go_simp;exact Hk hK rfl
   | 13 =>
    cases ho;have q1:tv a' 28=_:=Hr hw 12;go_simp;exact Hk hK rfl
   | 14 =>
    cases ho;have q1:tv a' 29=_:=Hr hw 13;obtain ⟨g',c',q2,q3,q4⟩:∃ g' c',a'.tmps[27]?.getD undef=.sl g' 0 (m+1) c'/\Row W lo g' (m+1) c' (snoc g m dv)/\(o2=some g'\/W0.heap.size<=g'):=Hr hw 11;have r2b:=Al y0 L (fun o ⟨j,_,hne,_,_,e⟩=>by rcases e with ⟨_,e,-⟩ | ⟨rfl,_⟩; exact HL.out.2.2.2 _ (Or.inr e) rfl; exact hne rfl);have r2:=Af r2b;have r2f:=Au r2b;go_simp;have WZ:Wrote (fun b _=>b=z) W (W.sc z 19 (.sl g' 0 (m+1) c')):=Wrote.setCell (Wrote.refl (fun b _=>b=z) W) (fun _=>rfl) _;exact hK undef _ (WZ.mono (fun b o _ e=>Or.inr ⟨rfl,e⟩)) ⟨g',c',Am r2b _,q3.keep WZ (fun o e=>by subst e; rcases q4 with q4 | q4; exact HL.out.2.2.2 _ (Or.inr q4) rfl; omega),q4⟩
   | _+15=>simp at ho
  .intro a' W F L hφ
   obtain ⟨g',c',b8,R8,h8⟩:∃ g' c',W.heap[z]?=some (.cells #[xs 0,xs 1,xs 2,xs 3,xs 4,xs 5,xs 6,xs 7,xs 8,xs 9,xs 10,xs 11,.i t,.i c,.i s,.i ad,.i pl,.bool bl,.slice pa n px,.sl g' 0 (m+1) c',xs 20,xs 21,xs 22,xs 23,xs 24,xs 25,xs 26,xs 27,xs 28,xs 29,xs 30,xs 31,xs 32,xs 33] 41 (0,0))/\Row W lo g' (m+1) c' (snoc g m dv)/\(o2=some g'\/W0.heap.size<=g'):=Hd hφ 14
   have T0:TBL w W lo z xs o1 o2 (.slice pa n px) (.slice qa m qx) (.sl w.heap.size 0 0 0) t c s ad pl bl n f (m+1) (snoc g m dv) 0 g:=by
    have V1:=U1.keep L (fun q e _ _ o ⟨j,e'⟩=>by
     rcases e' with ⟨_,e',-⟩ | ⟨_,e'⟩
     .exact HL.out.2.2.1 q e e'
     .exact HL.out.2.2.2 q (Or.inl e) e')
    have V3:=Al x0 L (fun o ⟨j,e'⟩=>by
     rcases e' with ⟨_,e',-⟩ | ⟨_,e'⟩
     .have:=HL.out.2.1 _ e'; omega
     .omega)
    refine ⟨some g',_,some w.heap.size,b8,V1,⟨_,rfl,R8⟩,⟨_,rfl,Row.empty g V3 hlo⟩,fun q e1 e2=>?_,fun q e1 e2=>?_,fun q e1 e2=>?_,fun q e=>?_,WB.trans (L.mono (fun b o _ ⟨j,e⟩=>by rcases e with ⟨_,-,e⟩ | ⟨_,e⟩; exact Or.inr e; exact Or.inl e)),fun q e=>?_,fun b o hb h=>Kf (N:=w.heap.size) U2 (h8.imp id (fun x=>by omega)) hb h⟩
    .obtain rfl:=Option.some.inj e2
     rcases h8 with h8 | h8
     .exact HL.out.2.2.1 _ e1 h8
     .have:=HL.out.1 _ e1; omega
    .obtain rfl:=Option.some.inj e2
     have:=HL.out.1 _ e1
     omega
    .obtain rfl:=Option.some.inj e1
     have e3:=Option.some.inj e2
     rcases h8 with h8 | h8
     .have:=HL.out.2.1 _ h8; omega
     .omega
    .rcases e with e | e | e
     .exact HL.out.2.2.2 q (Or.inl e)
     .obtain rfl:=Option.some.inj e
      rcases h8 with h8 | h8
      .exact HL.out.2.2.2 _ (Or.inr h8)
      .omega
     .obtain rfl:=Option.some.inj e
      omega
    .rcases e with e | e
     .obtain rfl:=Option.some.inj e
      rcases h8 with h8 | h8
      .exact Or.inl h8
      .exact Or.inr (by omega)
     .obtain rfl:=Option.some.inj e
      exact Or.inr (Nat.le_refl _)
   clear hφ L;rw [F.same,show slotsOf [some 16,some 17,some 18,some 19,some 20,some 21,some 22,some 23,some 24,some 25,some 26,some 27,some 28,some 29,none]=[16,17,18,19,20,21,22,23,24,25,26,27,28,29] from rfl];simp only [List.foldl_cons,List.foldl_nil];generalize a'.tmps[16]?.getD undef=s16;generalize a'.tmps[17]?.getD undef=s17;generalize a'.tmps[18]?.getD undef=s18;generalize a'.tmps[19]?.getD undef=s19;generalize a'.tmps[20]?.getD undef=s20;generalize a'.tmps[21]?.getD undef=s21;generalize a'.tmps[22]?.getD undef=s22;generalize a'.tmps[23]?.getD undef=s23;generalize a'.tmps[24]?.getD undef=s24;generalize a'.tmps[25]?.getD undef=s25;generalize a'.tmps[26]?.getD undef=s26;generalize a'.tmps[27]?.getD undef=s27;generalize a'.tmps[28]?.getD undef=s28;generalize a'.tmps[29]?.getD undef=s29;have c2:=Af b8;have f2:=Au b8
   have HTB:=Ac T0;clear T0 R8 F y0 x0 U1 U2 d0 g0 c0 b8;rename_i KK hKK;refine hKK _ _ ?_;go_simp;go_wp2;obtain ⟨i1,i2,i3,i4,i5,i6⟩:=HE.out;refine bodyPost_ret (v:=.tuple #[.sl w.heap.size 0 0 0,.bool false]) (by simp [results,results119,go_sem]) rfl ?_;rw [i1,i2,i3,i4,i5,i6];exact ⟨_,rfl,HTB.out.up (t+1)⟩
 by_cases hB:t%64=48
 .have HE:Hid (J5 t=t+1/\N9 t bl=true/\tkM t m=0/\Nh t f s pl m g=g/\Ml t m=m/\Sk t c=decide (127<c)):=⟨if_neg HT.out,(if_neg HT.out).trans (if_pos hB),(if_neg HT.out).trans ((if_neg hA).trans (if_pos hB)),(if_neg HT.out).trans (if_neg hA),(if_neg HT.out).trans (if_pos hB),(if_neg HT.out).trans (if_pos hB)⟩
  have y1:=Az y0 (.cells #[] 3);have d1:=Af y1;have g1:=Au y1;have LA:Below W0.heap.size W0 (W0.alloc (.cells #[] 3)):=(Below.refl _ _).alloc (Nat.le_refl _) _;have x1:=Ak W0 #[] 3;have WS:Wrote (fun b _=>b=z) (W0.alloc (.cells #[] 3)) (((W0.alloc (.cells #[] 3)).sc z 19 (.sl W0.heap.size 0 0 0)).sc z 17 (.bool true)):=Wrote.setCell (R:=fun b _=>b=z) (Wrote.setCell (R:=fun b _=>b=z) (Wrote.refl _ _) (fun _=>rfl) _) (fun _=>rfl) _
  have T0:TBL w (((W0.alloc (.cells #[] 3)).sc z 19 (.sl W0.heap.size 0 0 0)).sc z 17 (.bool true)) lo z xs o1 o2 (.slice pa n px) (.slice qa m qx) (.slice qa m qx) t c s ad pl true n f 0 g m g:=by
   refine ⟨some W0.heap.size,_,o2,Am (Am y1 _) _,(U1.below LA).keep WS (fun q e _ _ _ e'=>HL.out.2.2.2 q (Or.inl e) e'),⟨0,rfl,Row.empty g (Al x1 WS (fun o e=>by omega)) (by omega)⟩,(U2.below LA).keep WS (fun q e _ _ _ e'=>HL.out.2.2.2 q (Or.inr e) e'),fun q e1 e2=>?_,HL.out.2.2.1,fun q e1 e2=>?_,fun q e=>?_,(WB.alloc _).trans (WS.mono (fun b o _ e=>Or.inl e)),fun q e=>?_,fun b o hb h=>?_⟩
   .obtain rfl:=Option.some.inj e2
    have:=HL.out.1 _ e1
    omega
   .obtain rfl:=Option.some.inj e1
    have:=HL.out.2.1 _ e2
    omega
   .rcases e with e | e | e
    .exact HL.out.2.2.2 q (Or.inl e)
    .obtain rfl:=Option.some.inj e
     omega
    .exact HL.out.2.2.2 q (Or.inr e)
   .rcases e with e | e
    .obtain rfl:=Option.some.inj e
     exact Or.inr (by omega)
    .exact Or.inl e
   .obtain ⟨n1,c1,e,-⟩:=h
    simp only [Value.slice.injEq,Option.some.injEq,Addr.mk.injEq,and_true] at e
    omega
  have HTB:=Ac T0;rw [hB] at m64;clear T0 hA hB U1 U2 WS x0 x1 y0 y1 LA WB L0 sz
  go_enter func119,ntmps119
  go_upto_region 2 with (fail);rw [<- hW0];clear hW0 c0;go_wp2;obtain ⟨i1,i2,i3,i4,i5,i6⟩:=HE.out;refine bodyPost_ret (v:=.tuple #[.slice qa m qx,.bool (decide (127<c))]) (by simp [results,results119,go_sem]) rfl ?_;rw [i1,i2,i3,i4,i5,i6];exact ⟨_,rfl,HTB.out.up (t+1)⟩
 have T1:∀ W,Wrote (fun b _=>b=z) W0 W->∀ b',W.heap[z]?=some (.cells #[xs 0,xs 1,xs 2,xs 3,xs 4,xs 5,xs 6,xs 7,xs 8,xs 9,xs 10,xs 11,.i t,.i c,.i s,.i ad,.i pl,.bool b',.slice pa n px,.slice qa m qx,xs 20,xs 21,xs 22,xs 23,xs 24,xs 25,xs 26,xs 27,xs 28,xs 29,xs 30,xs 31,xs 32,xs 33] 41 (0,0))->TBL w W lo z xs o1 o2 (.slice pa n px) (.slice qa m qx) (.sl w.heap.size 0 0 0) t c s ad pl b' n f m g 0 g:=fun W WS b' hb'=>by
  refine ⟨o2,_,some w.heap.size,hb',U1.keep WS (fun q e _ _ _ e'=>HL.out.2.2.2 q (Or.inl e) e'),U2.keep WS (fun q e _ _ _ e'=>HL.out.2.2.2 q (Or.inr e) e'),⟨0,rfl,Row.empty g (Al x0 WS (fun o e=>by omega)) hlo⟩,HL.out.2.2.1,fun q e1 e2=>?_,fun q e1 e2=>?_,fun q e=>?_,WB.trans (WS.mono (fun b o _ e=>Or.inl e)),fun q e=>?_,fun b o hb h=>h⟩
  .obtain rfl:=Option.some.inj e2
   have:=HL.out.1 _ e1
   omega
  .obtain rfl:=Option.some.inj e2
   have:=HL.out.2.1 _ e1
   omega
  .rcases e with e | e | e
   .exact HL.out.2.2.2 q (Or.inl e)
   .exact HL.out.2.2.2 q (Or.inr e)
   .obtain rfl:=Option.some.inj e
    omega
  .rcases e with e | e
   .exact Or.inl e
   .obtain rfl:=Option.some.inj e
    exact Or.inr (Nat.le_refl _)
 have HY:=Ac y0;have HT1:=Ac T1;clear T1 U1 U2 x0 WB L0 sz y0
 by_cases hC:t%64=63
 .have HE:Hid (J5 t=t+1/\N9 t bl=false/\tkM t m=m/\Nh t f s pl m g=g/\Ml t m=0/\Sk t c=false):=⟨if_neg HT.out,(if_neg HT.out).trans ((if_neg hB).trans (if_pos hC)),(if_neg HT.out).trans ((if_neg hA).trans (if_neg hB)),(if_neg HT.out).trans (if_neg hA),(if_neg HT.out).trans (if_neg hB),(if_neg HT.out).trans (if_neg hB)⟩
  rw [hC] at m64;clear hA hB hC
  go_enter func119,ntmps119
  go_upto_region 2 with (fail);rw [<- hW0];clear hW0 c0;go_wp2;obtain ⟨i1,i2,i3,i4,i5,i6⟩:=HE.out;refine bodyPost_ret (v:=.tuple #[.sl w.heap.size 0 0 0,.bool false]) (by simp [results,results119,go_sem]) rfl ?_;rw [i1,i2,i3,i4,i5,i6];exact ⟨_,rfl,(HT1.out _ (Wrote.setCell (R:=fun b _=>b=z) (Wrote.refl _ _) (fun _=>rfl) _) false (Am HY.out _)).up (t+1)⟩
 .have HE:Hid (J5 t=t+1/\N9 t bl=bl/\tkM t m=m/\Nh t f s pl m g=g/\Ml t m=0/\Sk t c=false):=⟨if_neg HT.out,(if_neg HT.out).trans ((if_neg hB).trans (if_neg hC)),(if_neg HT.out).trans ((if_neg hA).trans (if_neg hB)),(if_neg HT.out).trans (if_neg hA),(if_neg HT.out).trans (if_neg hB),(if_neg HT.out).trans (if_neg hB)⟩
  have b1:decide (t%64<48)=false:=by simpa using hA
  have b2:(t%64==48)=false:=by simpa using hB
  have b3:(t%64==63)=false:=by simpa using hC
  clear hB hC
  go_enter func119,ntmps119
  go_upto_region 2 with (fail);rw [<- hW0];clear hW0 c0;go_wp2;obtain ⟨i1,i2,i3,i4,i5,i6⟩:=HE.out;refine bodyPost_ret (v:=.tuple #[.sl w.heap.size 0 0 0,.bool false]) (by simp [results,results119,go_sem]) rfl ?_;rw [i1,i2,i3,i4,i5,i6];exact ⟨_,rfl,(HT1.out _ (Wrote.refl _ _) bl HY.out).up (t+1)⟩
set_option maxHeartbeats 8000000
set_option maxRecDepth 20000
theorem Vz (m:Nat) (f:Nat->Value) (y:Value):Dh m f++[y]=Dh (m+1) (fun i=>if i=m then y else f i):=by
 unfold Dh;rw [List.range_succ,List.map_append]
 congr 1
 .apply List.map_congr_left
  intro i hi;have:=List.mem_range.1 hi
  show f i=(if i=m then y else f i)
  rw [if_neg (by omega)]
 .simp
theorem SA.push {W W':World} {lo m:Nat} {v:Value} {ob:Nat->Option Nat} {iv ov:Nat->Value} {ln:Nat->Nat} {f:Nat->Nat->Int} {g' c' k:Nat} {o3:Option Nat} {tv:Value} {h:Nat->Int} (H:SA W lo v m m ob iv ov ln f) (hw:Wrote (fun b _=>v.ownBlock=some b) W W')
  (own':W'.ownsRow lo 27 1 (.slice (some ⟨g',0,none⟩) (m+1) c') (m+1) (Dh m (fun i=>if i<m then iv i else ov i)++[tv])) (hat:v.ownBlock=some g'\/W.heap.size<=g') (RN:A8 W lo o3 tv k h) (hN1:∀ b,o3=some b->v.ownBlock≠some b) (hN2:∀ i,i<m->Sl (ob i) o3) (hq:m<1048576) :
  SA W' lo (.slice (some ⟨g',0,none⟩) (m+1) c') (m+1) (m+1) (fun i=>if i=m then o3 else ob i) (fun i=>if i=m then tv else iv i) ov (Ek ln m k) (Ix f m h):=by
 rw [Vz,Ir (g:=fun i=>if i<m+1 then (if i=m then tv else iv i) else ov i) (fun i hi=>?_)] at own'
 .refine ⟨own',fun i hi=>?_,fun i j hi hj hij=>?_,fun g hg i hi=>?_,by omega⟩
  .by_cases e:i=m
   .subst e
    unfold Ek Ix;simp only [if_true];exact RN.keep hw (fun b hb _ _ o x=>hN1 b hb x)
   .unfold Ek Ix
    simp only [if_neg e];exact (H.rows i (by omega)).keep hw (fun b hb _ _ o x=>H.dj b x i (by omega) hb)
  .by_cases e:i=m
   .rw [if_pos e,if_neg (by omega)]
    exact fun q h1 h2=>hN2 j (by omega) q h2 h1
   .by_cases e':j=m
    .rw [if_neg e,if_pos e']
     exact hN2 i (by omega)
    .rw [if_neg e,if_neg e']
     exact H.inj i j (by omega) (by omega) hij
  .obtain rfl:g'=g:=by simpa [Value.ownBlock] using hg
   by_cases e:i=m
   .rw [if_pos e]
    intro x
    rcases hat with h | h
    .exact hN1 _ x h
    .subst x
     have:=RN.lt
     omega
   .rw [if_neg e]
    intro x
    rcases hat with h | h
    .exact H.dj _ h i (by omega) x
    .have h3:=H.rows i (by omega)
     rw [x] at h3;have:=h3.lt
     omega
 .show (if i=m then tv else if i<m then iv i else ov i)=(if i<m+1 then (if i=m then tv else iv i) else ov i)
  rw [if_pos hi]
  by_cases e:i=m
  .rw [if_pos e,if_pos e]
  .rw [if_neg e,if_neg e,if_pos (by omega)]
theorem Goes.push5 {V W:World} {b5:Value} {lo:Nat} {e:TypeId} {n g' c':Nat} {vs:List Value} (hw:Wrote (spare b5) V W) (R:V.ownsRow lo e 1 b5 n vs) (hat:b5.ownBlock=some g'\/V.heap.size<=g') (z:Nat) (a4 a6 a7:Value):Goes V W z a4 b5 a6 a7 a4 (.slice (some ⟨g',0,none⟩) (n+1) c') a6 a7 :=
 ⟨hw.mono (fun b o _ e=>Or.inr (Or.inr (Or.inl e))),fun b o hb k=>by
  rcases k with k | k | k | k
  .exact Or.inl k
  .exact Or.inr (Or.inl k)
  .exact Or.inr (Or.inr (Or.inl (Ja9 R hat hb k)))
  .exact Or.inr (Or.inr (Or.inr k))⟩
theorem Goes.push6 {V W:World} {b6:Value} {lo:Nat} {o6:Option Nat} {n g' c':Nat} {f:Nat->Int} (hw:Wrote (spare b6) V W) (R:A8 V lo o6 b6 n f) (hat:o6=some g'\/V.heap.size<=g') (z:Nat) (a4 a5 a7:Value):Goes V W z a4 a5 b6 a7 a4 a5 (.slice (some ⟨g',0,none⟩) (n+1) c') a7 :=
 ⟨hw.mono (fun b o _ e=>Or.inr (Or.inr (Or.inr (Or.inl e)))),fun b o hb k=>by
  rcases k with k | k | k | k | k
  .exact Or.inl k
  .exact Or.inr (Or.inl k)
  .exact Or.inr (Or.inr (Or.inl k))
  .exact Or.inr (Or.inr (Or.inr (Or.inl (Kf R hat hb k))))
  .exact Or.inr (Or.inr (Or.inr (Or.inr k)))⟩
def Pi (d:Aq):Aq:={ d with t:=J5 d.t,bl:=N9 d.t d.bl,nd:=tkM d.t d.nd,dt:=Nh d.t d.tb d.s d.pl d.nd d.dt }
def frameT (d:Aq) (k:Nat) (h:Nat->Int):Aq:={ d with mf:=d.mf+1,lf:=Ek d.lf d.mf k,fr:=Ix d.fr d.mf h }
def Y9 (d:Aq) (x:Int):Aq:={ d with ns:=d.ns+1,sm:=snoc d.sm d.ns x }
section
variable {R:Nat->Nat->Prop} {W W':World} {lo N:Nat} {D:Nat->Nat->Prop} {u0 u1 u2 u3 u4 u5 u6 u7:Value} {ob:Nat->Option Nat} {iv ov:Nat->Value} {o6 o7:Option Nat} {d:Aq}
theorem B7.ticked (H:B7 W lo N D u0 u1 u2 u3 u4 u5 u6 u7 ob iv ov o6 o7 d) (hN:N=W.heap.size) (hl:lo<=N) {o1 o2 o2' o3:Option Nat} {w4 tv:Value} {k:Nat} {h:Nat->Int} (R1:A8 W' lo o1 u3 d.nt d.tb) (d1:∀ b,o1=some b->D 3 b) (d2:∀ b,o2=some b->D 3 b) (R2:A8 W' lo o2' w4 (tkM d.t d.nd) (Nh d.t d.tb d.s d.pl d.nd d.dt)) (R3:A8 W' lo o3 tv k h)
  (t12:Sl o1 o2') (t13:Sl o1 o3) (t23:Sl o2' o3) (hw:Wrote R W W') (hR:∀ b o,b<W.heap.size->R b o->(∀ i,¬ D i b)\/o2=some b) (hn:∀ q,(o2'=some q\/o3=some q)->o2=some q\/W.heap.size<=q) :
  B7 W' lo W'.heap.size (fun i b=>(i=3/\(o1=some b\/o2'=some b))\/(i=7/\o3=some b)\/(i≠3/\i≠7/\D i b)) u0 u1 u2 u3 w4 u5 u6 u7 ob iv ov o6 o7 (Pi d):=by
 have hsz:=hw.size
 have far:∀ i b o,i≠3->D i b->¬ R b o:=fun i b o hi hb hr=>by
  rcases hR b o (by have:=H.bd i b hb; omega) hr with x | x
  .exact x i hb
  .exact hi (H.dis i 3 b hb (d2 b x))
 have key:∀ i b,i≠3->D i b->(o1=some b\/o2'=some b\/o3=some b)->False:=fun i b hi hb h=>by
  have hbd:=H.bd i b hb
  rcases h with h | h
  .exact hi (H.dis i 3 b hb (d1 b h))
  .rcases hn b h with x | x
   .exact hi (H.dis i 3 b hb (d2 b x))
   .omega
 refine ⟨(H.h0.keep hw (fun b o h _=>far 0 b o (by decide) h)).mono (fun b _ h=>Or.inr (Or.inr ⟨by decide,by decide,h⟩)),(H.h1.keep hw (fun b o h _=>far 1 b o (by decide) h)).mono (fun b _ h=>Or.inr (Or.inr ⟨by decide,by decide,h⟩)),(H.h2.keep hw (fun b o h _=>far 2 b o (by decide) h)).mono (fun b _ h=>Or.inr (Or.inr ⟨by decide,by decide,h⟩)),
  ⟨u3,w4,o1,o2',rfl,R1,R2,t12,fun b h=>Or.inl ⟨rfl,h⟩⟩,H.h5.keep hw (fun g o hg=>far 4 g o (by decide) (H.h5D g (Or.inl hg))) (fun i b o hi hb=>far 4 b o (by decide) (H.h5D b (Or.inr ⟨i,hi,hb⟩))),fun b h=>Or.inr (Or.inr ⟨by decide,by decide,H.h5D b h⟩),H.h6.keep hw (fun b hb _ _ o=>far 5 b o (by decide) (H.h6D b hb)),fun b h=>Or.inr (Or.inr ⟨by decide,by decide,H.h6D b h⟩),H.h7.keep hw (fun b hb _ _ o=>far 6 b o (by decide) (H.h7D b hb)),fun b h=>Or.inr (Or.inr ⟨by decide,by decide,H.h7D b h⟩),?_,?_,Nat.le_refl _,H.hps⟩
 .intro i j b h1 h2
  rcases h1 with ⟨rfl,h1⟩ | ⟨rfl,h1⟩ | ⟨n1,m1,h1⟩ <;> rcases h2 with ⟨rfl,h2⟩ | ⟨rfl,h2⟩ | ⟨n2,m2,h2⟩
  .rfl
  .rcases h1 with h1 | h1
   .exact (t13 b h1 h2).elim
   .exact (t23 b h1 h2).elim
  .exact (key j b n2 h2 (by rcases h1 with h1 | h1; exact Or.inl h1; exact Or.inr (Or.inl h1))).elim
  .rcases h2 with h2 | h2
   .exact (t13 b h2 h1).elim
   .exact (t23 b h2 h1).elim
  .rfl
  .exact (key j b n2 h2 (Or.inr (Or.inr h1))).elim
  .exact (key i b n1 h1 (by rcases h2 with h2 | h2; exact Or.inl h2; exact Or.inr (Or.inl h2))).elim
  .exact (key i b n1 h1 (Or.inr (Or.inr h2))).elim
  .exact H.dis _ _ _ h1 h2
 .intro i b h
  rcases h with ⟨rfl,h | h⟩ | ⟨rfl,h⟩ | ⟨n1,m1,h⟩
  .subst h; exact R1.lt
  .subst h; exact R2.lt
  .subst h; exact R3.lt
  .have:=H.bd _ _ h; omega
theorem B7.frame (H:B7 W lo N D u0 u1 u2 u3 u4 u5 u6 u7 ob iv ov o6 o7 d) (hN:N=W.heap.size) {g' c' k:Nat} {o3:Option Nat} {tv:Value} {h:Nat->Int} (hw:Wrote (fun b _=>u5.ownBlock=some b) W W') (own':W'.ownsRow lo 27 1 (.slice (some ⟨g',0,none⟩) (d.mf+1) c') (d.mf+1) (Dh d.mf (fun i=>if i<d.mf then iv i else ov i)++[tv]))
  (hat:u5.ownBlock=some g'\/W.heap.size<=g') (R3:A8 W lo o3 tv k h) (d7:∀ b,o3=some b->D 7 b) (hq:d.mf<1048576) (hp:Dw (Ek d.lf d.mf k) (d.mf+1)<=1099511627776) :
  B7 W' lo W'.heap.size (fun i b=>(i=4/\(b=g'\/D 4 b\/D 7 b))\/(i≠4/\i≠7/\D i b)) u0 u1 u2 u3 u4 (.slice (some ⟨g',0,none⟩) (d.mf+1) c') u6 u7 (fun i=>if i=d.mf then o3 else ob i) (fun i=>if i=d.mf then tv else iv i) ov o6 o7 (frameT d k h):=by
 have hsz:=hw.size
 have far:∀ i b (o:Nat),i≠4->D i b->¬ (u5.ownBlock=some b):=fun i b o hi hb e=>hi (H.dis i 4 b hb (H.h5D b (Or.inl e)))
 have key:∀ i,i≠4->D i g'->False:=fun i hi h=>by
  rcases hat with e | h'
  .exact far i g' 0 hi h e
  .have:=H.bd _ _ h; omega
 have S:=H.h5.push hw own' hat R3 (fun b hb e=>far 7 b 0 (by decide) (d7 b hb) e) (fun i hi b h1 h2=>by
  have:=H.dis 4 7 b (H.h5D b (Or.inr ⟨i,hi,h1⟩)) (d7 b h2)
  omega) hq
 refine ⟨(H.h0.keep hw (fun b o h _=>far 0 b o (by decide) h)).mono (fun b _ h=>Or.inr ⟨by decide,by decide,h⟩),(H.h1.keep hw (fun b o h _=>far 1 b o (by decide) h)).mono (fun b _ h=>Or.inr ⟨by decide,by decide,h⟩),(H.h2.keep hw (fun b o h _=>far 2 b o (by decide) h)).mono (fun b _ h=>Or.inr ⟨by decide,by decide,h⟩),(H.h3.keep hw (fun b o h _=>far 3 b o (by decide) h)).mono (fun b _ h=>Or.inr ⟨by decide,by decide,h⟩),
  S,fun b hb=>Or.inl ⟨rfl,?_⟩,H.h6.keep hw (fun b hb _ _ o=>far 5 b o (by decide) (H.h6D b hb)),fun b h=>Or.inr ⟨by decide,by decide,H.h6D b h⟩,H.h7.keep hw (fun b hb _ _ o=>far 6 b o (by decide) (H.h7D b hb)),fun b h=>Or.inr ⟨by decide,by decide,H.h7D b h⟩,?_,?_,Nat.le_refl _,hp⟩
 .rcases hb with hb | ⟨i,hi,hb⟩
  .exact Or.inl (by simpa [Value.ownBlock] using hb.symm)
  .replace hi:i<d.mf+1:=hi
   by_cases e:i=d.mf
   .rw [if_pos e] at hb
    exact Or.inr (Or.inr (d7 b hb))
   .rw [if_neg e] at hb
    exact Or.inr (Or.inl (H.h5D b (Or.inr ⟨i,by omega,hb⟩)))
 .intro i j b h1 h2
  have k4:∀ i,i≠4->i≠7->D i b->(b=g'\/D 4 b\/D 7 b)->False:=fun i n m hb h=>by
   rcases h with rfl | h | h
   .exact key i n hb
   .exact n (H.dis i 4 b hb h)
   .exact m (H.dis i 7 b hb h)
  rcases h1 with ⟨rfl,h1⟩ | ⟨n1,m1,h1⟩ <;> rcases h2 with ⟨rfl,h2⟩ | ⟨n2,m2,h2⟩
  .rfl
  .exact (k4 j n2 m2 h2 h1).elim
  .exact (k4 i n1 m1 h1 h2).elim
  .exact H.dis _ _ _ h1 h2
 .intro i b h
  rcases h with ⟨rfl,rfl | h | h⟩ | ⟨_,_,h⟩
  .rcases own'.2 with ⟨e,_⟩ | ⟨g,c,cur,hv,hb,hg,_⟩
   .cases e
   .simp only [Value.slice.injEq,Option.some.injEq,Addr.mk.injEq,and_true,true_and] at hv
    obtain ⟨rfl,rfl⟩:=hv;exact ⟨hb,Ad hg⟩
  .have:=H.bd _ _ h; omega
  .have:=H.bd _ _ h; omega
  .have:=H.bd _ _ h; omega
theorem B7.samp (H:B7 W lo N D u0 u1 u2 u3 u4 u5 u6 u7 ob iv ov o6 o7 d) (hN:N=W.heap.size) {g':Nat} {u':Value} {x:Int} (hw:Wrote (fun b _=>o6=some b) W W') (R6:A8 W' lo (some g') u' (d.ns+1) (snoc d.sm d.ns x)) (hat:o6=some g'\/W.heap.size<=g') :
  B7 W' lo W'.heap.size (fun i b=>(i=5/\b=g')\/(i≠5/\D i b)) u0 u1 u2 u3 u4 u5 u' u7 ob iv ov (some g') o7 (Y9 d x):=by
 have hz:=hw.size
 have far:∀ i b (o:Nat),i≠5->D i b->¬ (o6=some b):=fun i b o hi hb e=>hi (H.dis i 5 b hb (H.h6D b e))
 have key:∀ i,i≠5->D i g'->False:=fun i hi h=>by
  rcases hat with e | h'
  .exact far i g' 0 hi h e
  .have:=H.bd _ _ h; omega
 refine ⟨(H.h0.keep hw (fun b o h _=>far 0 b o (by decide) h)).mono (fun b _ h=>Or.inr ⟨by decide,h⟩),(H.h1.keep hw (fun b o h _=>far 1 b o (by decide) h)).mono (fun b _ h=>Or.inr ⟨by decide,h⟩),(H.h2.keep hw (fun b o h _=>far 2 b o (by decide) h)).mono (fun b _ h=>Or.inr ⟨by decide,h⟩),(H.h3.keep hw (fun b o h _=>far 3 b o (by decide) h)).mono (fun b _ h=>Or.inr ⟨by decide,h⟩),
  H.h5.keep hw (fun g o hg=>far 4 g o (by decide) (H.h5D g (Or.inl hg))) (fun i b o hi hb=>far 4 b o (by decide) (H.h5D b (Or.inr ⟨i,hi,hb⟩))),fun b h=>Or.inr ⟨by decide,H.h5D b h⟩,R6,fun b h=>Or.inl ⟨rfl,(Option.some.inj h).symm⟩,H.h7.keep hw (fun b hb _ _ o=>far 6 b o (by decide) (H.h7D b hb)),fun b h=>Or.inr ⟨by decide,H.h7D b h⟩,?_,?_,Nat.le_refl _,H.hps⟩
 .intro i j b h1 h2
  rcases h1 with ⟨rfl,rfl⟩ | ⟨n1,h1⟩ <;> rcases h2 with ⟨rfl,e2⟩ | ⟨n2,h2⟩
  .rfl
  .exact (key _ n2 h2).elim
  .subst e2; exact (key _ n1 h1).elim
  .exact H.dis _ _ _ h1 h2
 .intro i b h
  rcases h with ⟨rfl,rfl⟩ | ⟨_,h⟩
  .exact R6.lt
  .have:=H.bd _ _ h; omega
end
theorem Jgg (w:World) (lo z:Nat) (d:Aq) (y4 y5 y6 y7:Value) (H:Cj w lo z d y4 y5 y6 y7) (hlo:lo<=z) (hok:Ie d) (ht:d.t≠20000):Calls prog 87 #[(pt z 0)] w fun e w'=>e=.returned (.tuple #[])/\Bz w w' lo z y4 y5 y6 y7 (Ds d):=by
 obtain ⟨D,u0,u1,u2,u3,ob,iv,ov,o6,o7,HQ,hz,B0⟩:=H.ex;clear H;obtain ⟨v3,v4,o1,o2,e34,R1,R2,h12,d3⟩:=HQ.h3.ex;simp only [Value.agg.injEq,Array.mk.injEq,List.cons.injEq,and_true,true_and] at e34;obtain ⟨rfl,rfl⟩:=e34;have hzl:=Ad B0
 have hlw:lo<=w.heap.size:=by omega
 have HT:=Ac (Jdd w lo z (fun i=>match i with | 0=>u0 | 1=>u1 | 2=>u2 | 3=>.i d.bank | 4=>.i d.A | 5=>.i d.X | 6=>.i d.S | 7=>.i d.Pc | 8=>.bool d.Z | 9=>.bool d.N | 10=>.bool d.C | 11=>.bool d.I | 20=>.i d.T | 21=>.i d.P | 22=>.i d.K | 23=>.i d.B | 24=>.i d.L | 25=>.bool d.Q | 26=>.bool d.R | 27=>.bool d.hd | 28=>.i d.sh | 29=>.bool d.nmi | 30=>.i d.st | 31=>y5 | 32=>y6 | 33=>y7 | _=>undef) o1 o2 u3 y4 d.t d.c d.s d.ad d.pl d.bl d.nt d.tb d.nd d.dt B0 R1 R2 h12 (fun q h=>hz 3 q (d3 q h)) hlw (Oc hok.ppu) ht)
 obtain ⟨an,han⟩:∃ x,Hid (x=Sk d.t d.c):=⟨_,rfl⟩
 rw [<- han.out] at HT;have HR2:=Ac R2
 have T13:Eb d.T=decide (d.t%16=15):=by unfold Eb; rw [hok.same]
 have HA:=Ac (fun W h=>Q7 W z h d.T d.P d.K d.B d.L d.Q d.R)
 obtain ⟨dF,hdF⟩:∃ x,Hid (x=if d.t%64=48 then frameT (Pi d) 48 d.dt else Pi d):=⟨_,rfl⟩
 obtain ⟨k5,hk5⟩:∃ x,Hid (x=Ml d.t d.nd):=⟨_,rfl⟩
 go_enter func87,ntmps87
 go_wp2_with fail;refine HT.out.mono ?_;rintro e W1 ⟨tv,rfl,TB⟩;clear HT B0 R1 R2;obtain ⟨o2',w4,o3,b1,r1,r2,r3,t12,t13,t23,hz1,hw1,hn1,hs1⟩:=TB.ex;clear TB;replace b1:W1.heap[z]?=some (.cells (kR { d with t:=(J5 d.t),bl:=(N9 d.t d.bl) } u0 u1 u2 u3 w4 y5 y6 y7) 41 (0,0)):=b1;rw [<- hk5.out] at r3;obtain ⟨ta,tx,rfl⟩:=r3.form
 have G1:Goes w W1 z y4 y5 y6 y7 w4 y5 y6 y7:=⟨hw1.mono (fun b o _ e=>by rcases e with e | e; exact Or.inl e; exact Or.inr (Or.inl e)),fun b o hb h=>by
  rcases h with h | h | h
  .exact Or.inl h
  .exact Or.inr (Or.inl (hs1 b o hb h))
  .exact Or.inr (Or.inr h)⟩
 have H1:=HQ.ticked rfl hlw r1 (fun b h=>d3 b (Or.inl h)) (fun b h=>d3 b (Or.inr h)) r2 r3 t12 t13 t23 hw1 (fun b o hb h=>by
  rcases h with h | h
  .left
   intro i hi;exact hz i b hi h
  .exact Or.inr (Ew HR2.out h)) hn1
 have hz1':∀ i b,((i=3/\(o1=some b\/o2'=some b))\/(i=7/\o3=some b)\/(i≠3/\i≠7/\D i b))->b≠z:=fun i b h=>by
  rcases h with ⟨-,h | h⟩ | ⟨-,h⟩ | ⟨-,-,h⟩
  .exact hz1 b (Or.inl h)
  .exact hz1 b (Or.inr (Or.inl h))
  .exact hz1 b (Or.inr (Or.inr h))
  .exact hz i b h
 go_upto_if 15 with (fail)
 go_cut [3] (fun s WX=>s=.bool an/\Bz w WX lo z y4 y5 y6 y7 dF)
 case first =>
  rename_i J Kq hJ hKq
  by_cases h48:d.t%64=48
  .have eF:Hid (dF=frameT (Pi d) 48 d.dt):=by show _=_; rw [hdF.out,if_pos h48]
   obtain rfl:k5=48:=hk5.out.trans (by unfold Ml; rw [if_neg ht,if_pos h48]; exact hok.nd48 h48);have LA:Below W1.heap.size W1 (W1.al #[.slice ta 48 tx] 27):=(Below.refl _ _).alloc (Nat.le_refl _) _;have hE:=Af (Ak W1 #[.slice ta 48 tx] 27) 0;have c0':=Af (Ab b1 LA (Ad b1));have c0s:=Af b1;have HQA:=Ac ((H1.below LA).upTo LA.size (Nat.le_refl _));have GA:=Ac (G1.trans (Goes.below LA z _ _ _ _));have BA:=Ac (Ab b1 LA (Ad b1));have R3A:=Ac (r3.below LA);clear H1 LA b1 G1 r1 r2 r3 hw1 HQ;go_wp2_with (at_builtin; refine Qh _ rfl _ _ rfl lo y5 d.mf _ rfl HQA.out.h5.own hok.mfs (Nat.le_trans hlw GA.out.wr.size) W1.heap.size (.slice ta 48 tx) rfl rfl hE ?_);intro g9 c9 W9 own9 hWw hat9;clear c0' c0s hE
   replace hat9:y5.ownBlock=some g9\/(W1.al #[.slice ta 48 tx] 27).heap.size<=g9:=by simpa using hat9
   have hW:=hWw.mono (S:=fun b _=>y5.ownBlock=some b) (fun b o _ ⟨n,c,e,_⟩=>by rw [e]; rfl)
   have hp5:Dw (Ek (Pi d).lf (Pi d).mf 48) ((Pi d).mf+1)<=1099511627776:=Lf (by have:=hok.mfs; show d.mf+1<=1048576; omega) (fun i hi=>by
    show (if i=d.mf then 48 else d.lf i)<=1048576
    split
    .omega
    .rw [hok.lf i (by replace hi:i<d.mf+1:=hi; omega)]; omega)
   have H9:=Ac (HQA.out.frame rfl hW own9 hat9 R3A.out (fun b hb=>Or.inr (Or.inl ⟨rfl,hb⟩)) hok.mfs hp5);have kz:=Al BA.out hW (fun o e=>hz1' 4 z (HQA.out.h5D z (Or.inl e)) rfl)
   have hg9:g9≠z:=fun e=>by
    subst e
    rcases hat9 with e | h
    .exact hz1' 4 g9 (HQA.out.h5D g9 (Or.inl e)) rfl
    .have:=Ad BA.out; omega
   have G9:=Ac (GA.out.trans (Goes.push5 (n:=d.mf) (c':=c9) hWw HQA.out.h5.own hat9 z w4 y6 y7))
   have hzD:∀ i b,((i=4/\(b=g9\/((4=3/\(o1=some b\/o2'=some b))\/(4=7/\o3=some b)\/(4≠3/\4≠7/\D 4 b))\/((7=3/\(o1=some b\/o2'=some b))\/(7=7/\o3=some b)\/(7≠3/\7≠7/\D 7 b))))\/(i≠4/\i≠7/\((i=3/\(o1=some b\/o2'=some b))\/(i=7/\o3=some b)\/(i≠3/\i≠7/\D i b))))->b≠z:=fun i b h=>by
    rcases h with ⟨-,h | h | h⟩ | ⟨-,-,h⟩
    .rw [h]; exact hg9
    .exact hz1' 4 b h
    .exact hz1' 7 b h
    .exact hz1' i b h
   obtain ⟨DD,HD,hzD'⟩:∃ DD,Hid (B7 W9 lo W9.heap.size DD u0 u1 u2 u3 w4 (.sl g9 0 (d.mf+1) c9) y6 y7 (fun i=>if i=d.mf then o3 else ob i) (fun i=>if i=d.mf then .slice ta 48 tx else iv i) ov o6 o7 (frameT (Pi d) 48 d.dt))/\∀ i b,DD i b->b≠z:=⟨_,H9,hzD⟩
   clear hWw hW own9 hat9 HQA GA BA R3A hp5 H9 hzD hz1' hz1 hn1 hs1 hz;have d9:=Af kz;have f9:=Au kz;have k2:=Am (o:=31) kz (.sl g9 0 (d.mf+1) c9);simp only [Sa,Sb,Sc] at k2;have T2:=Wz 31 (Wrote.refl (fun b _=>b=z) W9) (.sl g9 0 (d.mf+1) c9);have H5:=Ac ((HD.out.keepD T2 (fun i b o h (e:b=z)=>hzD' i b h e)).upTo T2.size (Nat.le_refl _));have G5:=Ac (G9.out.trans (Goes.box T2 _ _ _ _));clear HD G9 kz T2;go_wp2_with fail
   go_meet
   exact ⟨rfl,by rw [eF.out]; exact ⟨_,_,_,_,⟨_,_,_,_,_,_,_,_,_,_,H5.out,hzD',k2⟩,G5.out⟩⟩
  .have eF:Hid (dF=Pi d):=by show _=_; rw [hdF.out,if_neg h48]
   obtain rfl:k5=0:=hk5.out.trans (by unfold Ml; rw [if_neg ht,if_neg h48]);go_wp2_with fail
   go_meet
   exact ⟨rfl,by rw [eF.out]; exact ⟨_,_,_,_,⟨_,_,_,_,_,_,_,_,_,_,H1,hz1',b1⟩,G1⟩⟩
 case rest =>
 obtain ⟨rfl,GT⟩:=hcut
 obtain ⟨WF,hWF⟩:∃ y,y=wc:=⟨_,rfl⟩
 subst hWF;clear H1 b1 G1 r1 r2 r3 hw1 HQ hz1 hn1 hs1 hz hz1' t12 t13 t23 HR2 h12 d3 hk5
 obtain ⟨nx,hnx⟩:∃ x,Hid (x=(d.nmi || an)):=⟨_,rfl⟩
 have en:dF.nmi=d.nmi:=by rw [hdF.out]; split <;> rfl
 go_upto_region 3 with (fail)
 go_cut [3] (fun s WX=>s=.bool an/\Bz w WX lo z y4 y5 y6 y7 { dF with nmi:=nx })
 case first =>
  rename_i J Kq hJ hKq;obtain ⟨b4,b5,b6,b7,H2,G2⟩:=GT.ex;obtain ⟨D2,q0,q1,q2,q3,p1,p2,p3,p4,p5,HQ2,hz2,B2⟩:=H2.ex
  have d9:WF.cell? ⟨z,29,none⟩=some (.bool d.nmi):=by rw [<- en]; exact Af B2 29
  have f9:=Au B2;have k2:=Am (o:=29) B2 (.bool nx)
  try simp only [Sa,Sb,Sc] at k2
  have T2:=Wz 29 (Wrote.refl (fun b _=>b=z) WF) (.bool nx);replace HQ2:=(HQ2.keepD T2 (fun i b o h (e:b=z)=>hz2 i b h e)).upTo T2.size (Nat.le_refl _)
  have HF:Hid (Bz w (WF.sc z 29 (.bool nx)) lo z y4 y5 y6 y7 { dF with nmi:=nx }):=⟨_,_,_,_,⟨_,_,_,_,_,_,_,_,_,_,⟨HQ2.h0,HQ2.h1,HQ2.h2,HQ2.h3,HQ2.h5,HQ2.h5D,HQ2.h6,HQ2.h6D,HQ2.h7,HQ2.h7D,HQ2.dis,HQ2.bd,HQ2.nN,HQ2.hps⟩,hz2,k2⟩,G2.trans (Goes.box T2 _ _ _ _)⟩
  have hx:=hnx.out;clear HQ2 k2 T2 G2 H2 GT B2 hnx
  obtain ⟨nm,hnm⟩:∃ x,x=d.nmi:=⟨_,rfl⟩
  rw [<- hnm] at d9 hx;clear hnm;cases nm
  .obtain rfl:nx=an:=hx
   go_wp2_with fail
   go_meet
   exact ⟨rfl,HF.out⟩
  .obtain rfl:nx=true:=hx
   go_wp2_with fail
   go_meet
   exact ⟨rfl,HF.out⟩
 case rest =>
 obtain ⟨rfl,GU⟩:=hcut
 obtain ⟨WN,hWN⟩:∃ y,y=wc:=⟨_,rfl⟩
 subst hWN
 have oa:Hz dF.T dF.P dF.K dF.B dF.L:=by rw [hdF.out]; split <;> exact hok.apu
 have oT:dF.T≠20000:=by rw [hdF.out]; split <;> (show d.T≠20000; rw [<- hok.same]; exact ht)
 have hns:dF.ns<1048576:=by rw [hdF.out]; split <;> exact hok.nss
 obtain ⟨b4,b5,b6,b7,H3,G3⟩:=GU.ex;obtain ⟨D3,q0,q1,q2,q3,p1,p2,p3,p4,p5,HQ3,hz3,B3⟩:=H3.ex;clear GU H3 GT HA en;have HA:=Q7 WN z (fun i=>match i with | 0=>q0 | 1=>q1 | 2=>q2 | 3=>.i dF.bank | 4=>.i dF.A | 5=>.i dF.X | 6=>.i dF.S | 7=>.i dF.Pc | 8=>.bool dF.Z | 9=>.bool dF.N | 10=>.bool dF.C | 11=>.bool dF.I | 12=>.i dF.t | 13=>.i dF.c | 14=>.i dF.s | 15=>.i dF.ad | 16=>.i dF.pl | 17=>.bool dF.bl | 18=>q3 | 19=>b4 | 27=>.bool dF.hd | 28=>.i dF.sh | 29=>.bool nx | 30=>.i dF.st | 31=>b5 | 32=>b6 | 33=>b7 | _=>undef) dF.T dF.P dF.K dF.B dF.L dF.Q dF.R B3 oa oT
 have HE:Hid (Ds d=if Eb dF.T=true then Y9 { dF with T:=dF.T+1,K:=Qb dF.P dF.K,B:=Ni dF.K dF.B dF.L,L:=Qc dF.T dF.L,R:=Ut dF.T dF.L dF.Q dF.R,nmi:=nx } (tvA dF.T dF.K dF.B dF.L) else { dF with T:=dF.T+1,K:=Qb dF.P dF.K,B:=Ni dF.K dF.B dF.L,L:=Qc dF.T dF.L,R:=Ut dF.T dF.L dF.Q dF.R,nmi:=nx }):=by
  show _=_
  rw [hnx.out,han.out,hdF.out]
  by_cases h48:d.t%64=48
  .rw [if_pos h48,<- hok.nd48 h48]
   cases h:Eb d.T <;> simp only [Ds,Y9,frameT,Pi,h48,h,if_true,if_false,Bool.false_eq_true]
  .rw [if_neg h48]
   cases h:Eb d.T <;> simp only [Ds,Y9,frameT,Pi,h48,h,if_true,if_false,Bool.false_eq_true]
 cases e1:Eb dF.T
 .rw [e1] at HA HE
  go_wp2_with fail;refine HA.mono ?_;rintro e W5 ⟨rfl,k5,L5⟩;have H5:=(HQ3.keepD L5 (fun i b o h (e:b=z)=>hz3 i b h e)).upTo L5.size (Nat.le_refl _);have G5:=G3.trans (Goes.box L5 _ _ _ _)
  have HL:Hid (Bz w W5 lo z y4 y5 y6 y7 (Ds d)):=by show Bz _ _ _ _ _ _ _ _ _; rw [HE.out,if_neg (by decide)]; exact ⟨_,_,_,_,⟨_,_,_,_,_,_,_,_,_,_,⟨H5.h0,H5.h1,H5.h2,H5.h3,H5.h5,H5.h5D,H5.h6,H5.h6D,H5.h7,H5.h7D,H5.dis,H5.bd,H5.nN,H5.hps⟩,hz3,k5⟩,G5⟩
  clear HQ3 L5 k5 H5 G5 G3 B3;go_wp2
  ((try simp only [Exit.inBlock,Exit.then]); first | (refine bodyPost_ret (results_none rfl _ _ _) rfl ?_) | (refine bodyPost_end (results_none rfl _ _ _) rfl ?_))
  exact ⟨rfl,HL.out⟩
 .rw [e1] at HA HE
  go_wp2_with fail;refine HA.mono ?_;rintro e W5 ⟨rfl,k5,L5⟩;have H5:=(HQ3.keepD L5 (fun i b o h (e:b=z)=>hz3 i b h e)).upTo L5.size (Nat.le_refl _);have G5:=G3.trans (Goes.box L5 _ _ _ _)
  replace H5:B7 W5 lo W5.heap.size D3 q0 q1 q2 q3 b4 b5 b6 b7 p1 p2 p3 p4 p5 { dF with T:=dF.T+1,K:=Qb dF.P dF.K,B:=Ni dF.K dF.B dF.L,L:=Qc dF.T dF.L,R:=Ut dF.T dF.L dF.Q dF.R,nmi:=nx }:=⟨H5.h0,H5.h1,H5.h2,H5.h3,H5.h5,H5.h5D,H5.h6,H5.h6D,H5.h7,H5.h7D,H5.dis,H5.bd,H5.nN,H5.hps⟩
  replace k5:W5.heap[z]?=some (.cells (kR { dF with T:=(dF.T+1),K:=(Qb dF.P dF.K),B:=(Ni dF.K dF.B dF.L),L:=(Qc dF.T dF.L),R:=(Ut dF.T dF.L dF.Q dF.R),nmi:=nx } q0 q1 q2 q3 b4 b5 b6 b7) 41 (0,0)):=k5;clear HQ3 L5 G3 B3;generalize tvA dF.T dF.K dF.B dF.L=xv at *;have LA:Below W5.heap.size W5 (W5.al #[.i xv] 3):=(Below.refl _ _).alloc (Nat.le_refl _) _;have hE:=Af (Ak W5 #[.i xv] 3) 0;have c0':=Af (Ab k5 LA (Ad k5));have c0s:=Af k5;have HQA:=Ac ((H5.below LA).upTo LA.size (Nat.le_refl _));have GA:=Ac (G5.trans (Goes.below LA z _ _ _ _));have BA:=Ac (Ab k5 LA (Ad k5));obtain ⟨x6,v6,e6⟩:=HQA.out.h6.form;subst e6;clear H5 LA k5 G5;go_wp2_with (at_builtin; refine Lt _ rfl _ _ rfl lo p4 (.slice x6 dF.ns v6) dF.ns dF.sm rfl HQA.out.h6 hns (Nat.le_trans hlw GA.out.wr.size) W5.heap.size xv rfl hE ?_)
  intro g7 c7 W7 R7 hWw hat7;clear c0' c0s hE
  replace hat7:p4=some g7\/(W5.al #[.i xv] 3).heap.size<=g7:=by simpa using hat7
  have hW:=hWw.mono (S:=fun b _=>p4=some b) (fun b o _ e=>Ew HQA.out.h6 e);have H7:=HQA.out.samp rfl hW R7 hat7;have k7:=Al BA.out hW (fun o e=>hz3 5 z (HQA.out.h6D z e) rfl)
  have hg7:g7≠z:=fun e=>by
   subst e
   rcases hat7 with e | h
   .exact hz3 5 g7 (HQA.out.h6D g7 e) rfl
   .have:=Ad BA.out; simp at this h; omega
  have G7:=GA.out.trans (Goes.push6 (n:=dF.ns) (f:=dF.sm) (c':=c7) hWw HQA.out.h6 hat7 z b4 b5 b7);have TZ:=Wz (b:=z) 32 (Wrote.refl _ W7) (.sl g7 0 (dF.ns+1) c7)
  have hz7:∀ i b,(i=5/\b=g7)\/(i≠5/\D3 i b)->b≠z:=fun i b h e=>by
   rcases h with ⟨-,rfl⟩ | ⟨-,h⟩
   .exact hg7 e
   .exact hz3 i b h e
  have HF:=(H7.keepD TZ (fun i b o h (e:b=z)=>hz7 i b h e)).upTo TZ.size (Nat.le_refl _);have GF:=G7.trans (Goes.box TZ _ _ _ _);have KF:=Am (o:=32) k7 (.sl g7 0 (dF.ns+1) c7);simp only [Sa,Sb,Sc] at KF
  have HL:Hid (Bz w (W7.sc z 32 (.sl g7 0 (dF.ns+1) c7)) lo z y4 y5 y6 y7 (Ds d)):=by show Bz _ _ _ _ _ _ _ _ _; rw [HE.out,if_pos trivial]; exact ⟨_,_,_,_,⟨_,_,_,_,_,_,_,_,_,_,⟨HF.h0,HF.h1,HF.h2,HF.h3,HF.h5,HF.h5D,HF.h6,HF.h6D,HF.h7,HF.h7D,HF.dis,HF.bd,HF.nN,HF.hps⟩,hz7,KF⟩,GF⟩
  have d7:=Af k7;have f7:=Au k7;clear HQA GA BA hW hWw R7 hat7 H7 G7 TZ KF k7 HF GF;go_wp2
  ((try simp only [Exit.inBlock,Exit.then]); first | (refine bodyPost_ret (results_none rfl _ _ _) rfl ?_) | (refine bodyPost_end (results_none rfl _ _ _) rfl ?_))
  exact ⟨rfl,HL.out⟩
end Go.Proofs.YtijljlnooibbmaaGreatDoor
