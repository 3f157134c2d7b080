import Derived.Test.YtgcmimcalmjaaaaGreatDoorKT
import Derived.Test.YtgcmimcalmjaaaaGreatDoorAC
namespace Go.Proofs.YtgcmimcalmjaaaaGreatDoor
set_option maxHeartbeats 4000000
set_option maxRecDepth 40000
set_option linter.unusedVariables false
set_option linter.unusedSimpArgs false
open Go.ChangeShapes Go.WideShapes Go.ChangeAt Go.RowKit
theorem Ja {ln:Nat→Nat} {K:Nat}:∀ {m:Nat},(∀ i,i<m→ln i≤K)→psum ln m≤m*K
 | 0,_=>by simp [psum]
 | m+1,h=>by
  have h1:=Ja (m:=m) (fun i hi=>h i (by omega));have h2:=h m (by omega);simp only [psum];rw [Nat.succ_mul]
  omega
theorem Mm {ln:Nat→Nat} {m:Nat} (hm:m≤1048576) (h:∀ i,i<m→ln i≤1048576):psum ln m≤1099511627776:=by
 have h1:=Ja h;have h2:=Nat.mul_le_mul_right 1048576 hm
 omega
theorem Zd (w:World) (F:Nat→Nat→Prop) (u:Value) (m:Nat) (ln:Nat→Nat) (f:Nat→Nat→Int) (H:Ba .i64 w F u m ln f):Calls Tryz.prog 59 #[.agg #[u]] w fun e w'=>∃ v,e=.returned (.agg #[v])∧Co w' (fun b=>w.heap.size≤b∧b<w'.heap.size) v m ln f∧Below w.heap.size w w':=by
 obtain ⟨a,cap,rfl,hn,-,hc⟩:=H;have hps:psum ln m≤1099511627776:=Mm hn (fun i hi=>by obtain ⟨b,off,u,-,-,a',c',-,h,-⟩:=hc i hi; exact h);have L0:Below w.heap.size w (((w.alloc (.cells #[.slice a m cap] 41)).alloc (.cells #[.slice none 0 0] 41)).alloc (.cells #[.slice none 0 0] 41)):=(((Below.refl _ _).alloc (Nat.le_refl _) _).alloc (by simp) _).alloc (by simp; omega) _;have B0:(((w.alloc (.cells #[.slice a m cap] 41)).alloc (.cells #[.slice none 0 0] 41)).alloc (.cells #[.slice none 0 0] 41)).heap[w.heap.size]?=some (.cells #[.slice a m cap] 41 (0,0)):=Ax (Ax (Al w _ _) _) _
 have B1:(((w.alloc (.cells #[.slice a m cap] 41)).alloc (.cells #[.slice none 0 0] 41)).alloc (.cells #[.slice none 0 0] 41)).heap[w.heap.size+1]?=some (.cells #[.slice none 0 0] 41 (0,0)):=Ax (by simpa using Al (w.alloc (.cells #[.slice a m cap] 41)) #[.slice none 0 0] 41) _
 have B2:(((w.alloc (.cells #[.slice a m cap] 41)).alloc (.cells #[.slice none 0 0] 41)).alloc (.cells #[.slice none 0 0] 41)).heap[w.heap.size+1+1]?=some (.cells #[.slice none 0 0] 41 (0,0)):=by simpa using Al ((w.alloc (.cells #[.slice a m cap] 41)).alloc (.cells #[.slice none 0 0] 41)) #[.slice none 0 0] 41
 have HL:=Ad hc;clear hc
 go_enter Tryz.func59,Tryz.ntmps59
 go_wp2;generalize ((w.alloc (.cells #[.slice a m cap] 41)).alloc (.cells #[.slice none 0 0] 41)).alloc (.cells #[.slice none 0 0] 41)=W0 at *
 go_loopw [4] (fun i wr=>∃ (q:Nat) (gb cp:Nat→Nat) (ov:Value),q≤m∧i=.i q∧SG wr (w.heap.size+3) ov q gb cp ln f∧wr.heap[w.heap.size]?=some (.cells #[.slice a m cap] 41 (0,0))∧wr.heap[w.heap.size+1]?=some (.cells #[.slice none 0 0] 41 (0,0))∧wr.heap[w.heap.size+1+1]?=some (.cells #[ov] 41 (0,0))∧Below w.heap.size w wr) (fun i _=>m-(intOf i).toNat)
 case atStart=>exact ⟨0,fun _=>0,fun _=>0,.slice none 0 0,Nat.zero_le _,rfl,SG.nil _ _ _ _ _ _,B0,B1,B2,L0⟩
 case round =>
  obtain ⟨q,gb,cp,ov,hq,rfl,hG,b0,b1,b2,hL⟩:=hrel;clear B0 B1 B2 L0;have hz:=Ac b2
  by_cases hqm:q<m
  ·have hqm':(q:Int)<(m:Int):=by omega
   obtain ⟨b,off,u',rfl,hcell,hI⟩:=HL.out q hqm;have hbl:=block_lt_of_cell hcell;have hcell':wr.cell? ⟨b,off+q,none⟩=some u':=(hL.cell hbl).trans hcell;have hI':=hI.keep (Ab hL Aj) (fun _ _ _ x=>x)
   have wq:IntKind.i64.wrap (q:Int)=q:=by rw [IntKind.wrap_i64]; omega
   have hqi:(0:Int)≤(q:Int):=by omega
   have hob:∀ g,ov.ownBlock=some g→w.heap.size+3≤g∧g<wr.heap.size:=fun g hg=>Di hG.own hg
   obtain ⟨S,hS⟩:∃ S,Hid (S=wr.heap.size):=⟨_,rfl⟩
   obtain ⟨ua,ux,rfl,un,ur,uF⟩:=id hI';have c0:=Ag b0;go_upto_region 5 with (fail);clear c0
   refine A8 [some 13,some 14,some 15,some 16,some 17,some 18,some 19,some 20,some 21,some 22,some 23,some 24,none] (by kernel_rfl) (by kernel_rfl) (by kernel_rfl) (by kernel_rfl) (by simp [slotsOf])
    (fun j b' _=>(j=10∧ov.ownBlock=some b')∨(j=12∧b'=w.heap.size+1+1))
    (fun i v W=>match i with
     | 0=>v=(pt (w.heap.size+1+1) 0)
     | 1=>v=ov
     | 2=>∃ gE,v=.slice (some ⟨gE,0,none⟩) 0 0∧W.heap[gE]?=some (.cells #[] 3 (0,0))∧S≤gE
     | 3=>v=(pt w.heap.size 0)
     | 4=>v=.slice (some ⟨b,off,none⟩) m cap
     | 5=>v=.i (q:Int)
     | 6=>v=.pointer (some ⟨b,off+q,none⟩)
     | 7=>v=.slice ua (ln q) ux
     | 8=>∃ gN cN,v=.slice (some ⟨gN,0,none⟩) (ln q) cN∧Row W (w.heap.size+3) gN (ln q) cN (f q)∧S≤gN
     | 9=>∃ gB gN cN,v=.slice (some ⟨gB,0,none⟩) 1 1∧W.heap[gB]?=some (.cells #[.slice (some ⟨gN,0,none⟩) (ln q) cN] 25 (0,0))∧Row W (w.heap.size+3) gN (ln q) cN (f q)∧S≤gN∧S≤gB
     | 10=>∃ g' c' gb' cp',v=.slice (some ⟨g',0,none⟩) (q+1) c'∧SG W (w.heap.size+3) v (q+1) gb' cp' ln f
     | 11=>v=(pt (w.heap.size+1+1) 0)
     | _=>∃ g' c' gb' cp',W.heap[w.heap.size+1+1]?=some (.cells #[.slice (some ⟨g',0,none⟩) (q+1) c'] 41 (0,0))∧SG W (w.heap.size+3) (.slice (some ⟨g',0,none⟩) (q+1) c') (q+1) gb' cp' ln f) ?_ ?_ ?_
   ·intro i j o v W W' hij ho hnw hW h
    have far:∀ (g k:Nat),S≤g→¬ ((j=10∧ov.ownBlock=some g)∨(j=12∧g=w.heap.size+1+1)):=fun g k hg hR=>by
     have:=hS.out
     rcases hR with ⟨-,h⟩ | ⟨-,h⟩
     ·have:=hob _ h; omega
     ·omega
    match i,ho,hnw,hij,h with
    | 0,_,_,_,h=>exact h
    | 1,_,_,_,h=>exact h
    | 2,_,_,_,⟨gE,h1,h2,h3⟩=>exact ⟨gE,h1,Ah h2 hW (fun o=>far gE o h3),h3⟩
    | 3,_,_,_,h=>exact h
    | 4,_,_,_,h=>exact h
    | 5,_,_,_,h=>exact h
    | 6,_,_,_,h=>exact h
    | 7,_,_,_,h=>exact h
    | 8,_,_,_,⟨gN,cN,h1,h2,h3⟩=>exact ⟨gN,cN,h1,h2.keep hW (fun o=>far gN o h3),h3⟩
    | 9,_,_,_,⟨gB,gN,cN,h1,h2,h3,h4,h5⟩=>exact ⟨gB,gN,cN,h1,Ah h2 hW (fun o=>far gB o h5),h3.keep hW (fun o=>far gN o h4),h4,h5⟩
    | 10,_,_,hij,⟨g',c',gb',cp',h1,h2⟩ =>
     refine ⟨g',c',gb',cp',h1,h2.keep hW (fun g o hg hR=>?_) (fun i o hi hR=>?_)⟩
     ·rcases hR with ⟨e,-⟩ | ⟨-,e⟩
      ·exact hij e.symm
      ·have:=Di h2.own hg; omega
     ·rcases hR with ⟨e,-⟩ | ⟨-,e⟩
      ·exact hij e.symm
      ·have:=(h2.rows i hi).parts.1; omega
    | 11,_,_,_,h=>exact h
    | 12,ho,hnw,hij,⟨g',c',gb',cp',h1,h2⟩ =>
     cases ho
     by_cases e10:j=10
     ·subst e10
      cases hnw.symm.trans (show A0 _ 10=true by kernel_rfl)
     ·have no:∀ (b' k:Nat),¬ ((j=10∧ov.ownBlock=some b')∨(j=12∧b'=w.heap.size+1+1)):=fun b' k hR=>by rcases hR with ⟨e,-⟩ | ⟨e,-⟩ <;> omega
      exact ⟨g',c',gb',cp',Ah h1 hW (fun o=>no _ o),h2.keep hW (fun g o _=>no g o) (fun i o _=>no _ o)⟩
    | n+13,ho,_,_,_=>simp at ho
   ·intro i o a' W K ho F L hw hK
    have hS':=hS.out;have t1:=F.get (t:=1) (v:=(pt w.heap.size 0)) (by decide) rfl;have t3:=F.get (t:=3) (v:=(pt (w.heap.size+1+1) 0)) (by decide) rfl;have t4:=F.get (t:=4) (v:=.i (q:Int)) (by decide) rfl
    have low:∀ (g j:Nat),g<w.heap.size+1+1→¬ ((j=10∧ov.ownBlock=some g)∨(j=12∧g=w.heap.size+1+1)):=fun g j hg hR=>by
     rcases hR with ⟨-,h⟩ | ⟨-,h⟩
     ·have:=hob _ h; omega
     ·omega
    have LW:Below w.heap.size w W:=hL.trans (L.below hL.size (fun g k hg ⟨j,_,_,_,_,hR⟩=>low g j (by omega) hR));have r0:=Ag (Ah b0 L (fun k ⟨j,_,_,_,_,hR⟩=>low _ j (by omega) hR));have rc:W.cell? ⟨b,off+q,none⟩=some (.slice ua (ln q) ux):=(LW.cell hbl).trans hcell
    have WS:S≤W.heap.size:=by have:=L.size; omega
    match i with
    | 0 =>
     cases ho;go_simp;exact Hk hK rfl
    | 1 =>
     cases ho;have q0:tv a' 13=_:=Hr hw 0
     have r2:=Ag (Ah b2 L (fun k ⟨j,oj,hj,hoj,hwj,hR⟩=>by
      rcases hR with ⟨-,h⟩ | ⟨rfl,-⟩
      ·have:=hob _ h; omega
      ·simp only [List.getElem?_toArray,List.getElem?_cons_zero,List.getElem?_cons_succ,Option.some.injEq] at hoj
       subst hoj
       cases hwj.symm.trans (show A0 _ 1=true by kernel_rfl)))
     go_simp;exact Hk hK rfl
    | 2 =>
     cases ho;go_simp;exact hK _ _ ((Wrote.refl _ W).alloc _) ⟨_,rfl,Al W #[] 3,WS⟩
    | 3 =>
     cases ho;go_simp;exact Hk hK rfl
    | 4 =>
     cases ho;have q0:tv a' 16=_:=Hr hw 3;go_simp;exact Hk hK rfl
    | 5 =>
     cases ho;go_simp;exact Hk hK rfl
    | 6 =>
     cases ho;have q0:tv a' 17=_:=Hr hw 4;have q1:tv a' 18=_:=Hr hw 5;go_simp;exact Hk hK rfl
    | 7 =>
     cases ho;have q0:tv a' 19=_:=Hr hw 6;go_simp;exact Hk hK rfl
    | 8 =>
     cases ho;obtain ⟨gE,q0,q1,q2⟩:∃ gE,a'.tmps[15]?.getD undef=.slice (some ⟨gE,0,none⟩) 0 0∧W.heap[gE]?=some (.cells #[] 3 (0,0))∧S≤gE:=Hr hw 2;have q3:tv a' 20=_:=Hr hw 7;refine Jt W (.tmp 15) (.tmp 20) rfl gE (by simpa [Act.eval] using q0) q1 (w.heap.size+3) (by omega) _ _ (ln q) (f q) (by simpa [Act.eval] using q3) (hI.keep (Ab LW Aj) (fun _ _ _ x=>x)) ?_;intro gN cN W' hR hB hat;exact hK _ _ (Ab hB _) ⟨gN,cN,rfl,hR,by rcases hat with h | h <;> omega⟩
    | 9 =>
     cases ho;obtain ⟨gN,cN,q0,q1,q2⟩:∃ gN cN,a'.tmps[21]?.getD undef=.slice (some ⟨gN,0,none⟩) (ln q) cN∧Row W (w.heap.size+3) gN (ln q) cN (f q)∧S≤gN:=Hr hw 8;go_simp;exact hK _ _ ((Wrote.refl _ W).alloc _) ⟨_,gN,cN,rfl,Al W #[.slice (some ⟨gN,0,none⟩) (ln q) cN] 25,q1.below ((Below.refl _ _).alloc (Nat.le_refl _) _),q2,WS⟩
    | 10 =>
     cases ho;have q0:tv a' 14=_:=Hr hw 1;obtain ⟨gB,gN,cN,q1,q2,q3,q4,q5⟩:∃ gB gN cN,a'.tmps[22]?.getD undef=.slice (some ⟨gB,0,none⟩) 1 1∧W.heap[gB]?=some (.cells #[.slice (some ⟨gN,0,none⟩) (ln q) cN] 25 (0,0))∧Row W (w.heap.size+3) gN (ln q) cN (f q)∧S≤gN∧S≤gB:=Hr hw 9
     have hG':=hG.keep L (fun g k hg ⟨j,oj,hj,hoj,hwj,hR⟩=>by
      rcases hR with ⟨e,-⟩ | ⟨rfl,-⟩
      ·exact hj e
      ·simp only [List.getElem?_toArray,List.getElem?_cons_zero,List.getElem?_cons_succ,Option.some.injEq] at hoj
       subst hoj
       cases hwj.symm.trans (show A0 _ 10=true by kernel_rfl)) (fun i k hi ⟨j,oj,hj,hoj,hwj,hR⟩=>by
      rcases hR with ⟨e,-⟩ | ⟨rfl,-⟩
      ·exact hj e
      ·simp only [List.getElem?_toArray,List.getElem?_cons_zero,List.getElem?_cons_succ,Option.some.injEq] at hoj
       subst hoj
       cases hwj.symm.trans (show A0 _ 10=true by kernel_rfl))
     refine Ro W (.tmp 14) (.tmp 22) rfl (w.heap.size+3) ov q _ (by simpa [Act.eval] using q0) hG'.own (by omega) (by omega) gB (.slice (some ⟨gN,0,none⟩) (ln q) cN) rfl (by simpa [Act.eval] using q1) (Ag q2 0) ?_;intro g' c' W' own' hB hat;exact hK _ _ (hB.mono (fun b' k _ h=>Or.inl ⟨rfl,h⟩)) ⟨g',c',_,_,rfl,hG'.push hB own' hat q3 (fun e=>by have:=hob _ e; omega) (fun i hi e=>by have:=(hG.rows i hi).parts.2.1; omega) (by omega)⟩
    | 11 =>
     cases ho;go_simp;exact Hk hK rfl
    | 12 =>
     cases ho;have q0:tv a' 24=_:=Hr hw 11;obtain ⟨g',c',gb',cp',q1,q2⟩:∃ g' c' gb' cp',a'.tmps[23]?.getD undef=.slice (some ⟨g',0,none⟩) (q+1) c'∧SG W (w.heap.size+3) (a'.tmps[23]?.getD undef) (q+1) gb' cp' ln f:=Hr hw 10;rw [q1] at q2
     have r2:=Ah b2 L (fun k ⟨j,oj,hj,hoj,hwj,hR⟩=>by
      rcases hR with ⟨-,h⟩ | ⟨e,-⟩
      ·have:=hob _ h; omega
      ·exact hj e)
     have c2:=Ag r2;have f2:=As r2;have HQ:=Ad q2;have HB:=Ad (Af (o:=0) r2 (.slice (some ⟨g',0,none⟩) (q+1) c'));clear q2 r2;go_simp;refine hK undef _ (Wrote.setCell (Wrote.refl _ W) (fun _=>Or.inr ⟨rfl,rfl⟩) _) ⟨g',c',gb',cp',HB.out,HQ.out.keep (Wrote.setCell (R:=fun b' _=>b'=w.heap.size+1+1) (Wrote.refl _ W) (fun _=>rfl) _) (fun g o hg (e:g=_)=>by have:=Di HQ.out.own hg; omega) (fun i o hi (e:_=_)=>by have:=(HQ.out.rows i hi).parts.1; omega)⟩
    | n+13=>simp at ho
   ·intro a' W F L hφ
    obtain ⟨g',c',gb',cp',p1,p2⟩:∃ g' c' gb' cp',W.heap[w.heap.size+1+1]?=some (.cells #[.slice (some ⟨g',0,none⟩) (q+1) c'] 41 (0,0))∧SG W (w.heap.size+3) (.slice (some ⟨g',0,none⟩) (q+1) c') (q+1) gb' cp' ln f:=Hd hφ 12
    have low:∀ (g k:Nat),g<w.heap.size+1+1→¬ (∃ j:Nat,(j=10∧ov.ownBlock=some g)∨(j=12∧g=w.heap.size+1+1)):=fun g k hg ⟨j,hR⟩=>by
     rcases hR with ⟨-,h⟩ | ⟨-,h⟩
     ·have:=hob _ h; omega
     ·omega
    have LW:Below w.heap.size w W:=hL.trans (L.below hL.size (fun g k hg=>low g k (by omega)));have r0:=Ah b0 L (fun k=>low _ k (by omega));have r1:=Ah b1 L (fun k=>low _ k (by omega));rw [F.same,show slotsOf [some 13,some 14,some 15,some 16,some 17,some 18,some 19,some 20,some 21,some 22,some 23,some 24,none]=[13,14,15,16,17,18,19,20,21,22,23,24] from rfl];simp only [List.foldl_cons,List.foldl_nil];generalize a'.tmps[13]?.getD undef=s13;generalize a'.tmps[14]?.getD undef=s14;generalize a'.tmps[15]?.getD undef=s15;generalize a'.tmps[16]?.getD undef=s16;generalize a'.tmps[17]?.getD undef=s17;generalize a'.tmps[18]?.getD undef=s18;generalize a'.tmps[19]?.getD undef=s19;generalize a'.tmps[20]?.getD undef=s20;generalize a'.tmps[21]?.getD undef=s21;generalize a'.tmps[22]?.getD undef=s22
    generalize a'.tmps[23]?.getD undef=s23;generalize a'.tmps[24]?.getD undef=s24;have HP:=Ad (And.intro p1 (And.intro p2 (And.intro r0 (And.intro r1 LW))));clear hφ L F p1 p2 r0 r1 LW hG b0 b1 b2 hL hcell hcell' hI hI' ur uF HL;rename_i KK hKK;refine hKK _ _ ?_;go_simp;go_wp2;go_roundw
    case rel=>exact ⟨q+1,gb',cp',_,by omega,by go_num,HP.out.2.1,HP.out.2.2.1,HP.out.2.2.2.1,HP.out.1,HP.out.2.2.2.2⟩
    case measure=>simp [intOf]; omega
  ·have hqm':¬ (q:Int)<(m:Int):=by omega
   obtain rfl:q=m:=by omega
   obtain ⟨oa,oc,hof⟩:∃ oa oc,ov=.slice oa q oc:=by
    rcases hG.own.2 with ⟨e,e0⟩ | ⟨g,c,cur,hv,-⟩
    ·have:q=0:=by simpa using e0
     exact ⟨none,0,by rw [e,this]⟩
    ·exact ⟨_,_,hv⟩
   subst hof;have c0:=Ag b0;have c1:=Ag b1;have c2:=Ag b2;have f1:=As b1;have HP:=Ad (And.intro hG hL);clear hG b0 b1 b2 hL HL;go_wp2;refine bodyPost_ret (v:=.agg #[.slice oa q oc]) (by simp [results,Tryz.results59,go_sem,c1]) rfl ?_;have WW:=Wrote.setCell (b:=w.heap.size+1) (o:=0) (R:=fun b _=>b=w.heap.size+1) (Wrote.refl _ wr) (fun _=>rfl) (.slice oa q oc);refine ⟨_,rfl,(HP.out.1.keep WW (fun g o hg (e:g=_)=>by have:=Di HP.out.1.own hg; omega) (fun i o hi (e:_=_)=>by have:=(HP.out.1.rows i hi).parts.1; omega)).on (fun b h1 h2=>⟨by omega,h2⟩) hps,HP.out.2.trans (WW.below HP.out.2.size (fun b o hb (e:b=_)=>by omega))⟩
theorem Jbg (w:World) (F:Nat→Nat→Prop) (u:Value) (m:Nat) (ln:Nat→Nat) (f:Nat→Nat→Int) (H:Ba .i64 w F u m ln f):Calls Tryz.prog 62 #[u] w fun e w'=>∃ ov gb cp,e=.returned ov∧SG w' w.heap.size ov m gb cp ln f∧Below w.heap.size w w':=by
 obtain ⟨a,cap,rfl,hn,-,hc⟩:=H;have L0:Below w.heap.size w (w.alloc (.cells #[] 25)):=(Below.refl _ _).alloc (Nat.le_refl _) _;have B0:=Al w #[] 25;have HL:=Ad hc;clear hc
 go_enter Tryz.func62,Tryz.ntmps62
 go_wp2;generalize w.alloc (.cells #[] 25)=W0 at *
 go_loopw [3,4] (fun ov i wr=>∃ (q:Nat) (gb cp:Nat→Nat),q≤m∧i=.i q∧SG wr w.heap.size ov q gb cp ln f∧Below w.heap.size w wr) (fun _ i _=>m-(intOf i).toNat)
 case atStart=>exact ⟨0,fun _=>0,fun _=>0,Nat.zero_le _,rfl,SG.start B0 (Nat.le_refl _) _ _ _ _,L0⟩
 case round =>
  obtain ⟨q,gb,cp,hq,rfl,hG,hL⟩:=hrel;clear B0 L0
  by_cases hqm:q<m
  ·have hqm':(q:Int)<(m:Int):=by omega
   obtain ⟨b,off,u',rfl,hcell,hI⟩:=HL.out q hqm;have hbl:=block_lt_of_cell hcell;obtain ⟨ua,ux,rfl,un,ur,uF⟩:=id hI;have LA:Below w.heap.size w (wr.alloc (.cells #[] 3)):=hL.alloc hL.size _;have ca:(wr.alloc (.cells #[] 3)).cell? ⟨b,off+q,none⟩=some (.slice ua (ln q) ux):=(LA.cell hbl).trans hcell;have hE:=Al wr #[] 3;have GA:=Ad (hG.below ((Below.refl _ wr).alloc (Nat.le_refl _) (.cells #[] 3)))
   have hob:∀ g,u3.ownBlock=some g→w.heap.size≤g∧g<wr.heap.size:=fun g hg=>Di hG.own hg
   have hgb:∀ i,i<q→gb i<wr.heap.size:=fun i hi=>(hG.rows i hi).parts.2.1
   have hLs:=hL.size
   have wq:IntKind.i64.wrap (q:Int)=q:=by rw [IntKind.wrap_i64]; omega
   have hsz:(wr.alloc (.cells #[] 3)).heap.size=wr.heap.size+1:=by simp
   have HSZ:=Ad hsz;clear hG hcell hsz;go_wp2_with (at_builtin; refine Eu _ rfl _ _ rfl wr.heap.size rfl hE w.heap.size hLs F (.slice ua (ln q) ux) (ln q) (f q) rfl (hI.keep (Ab LA Aj) (fun _ _ _ x=>x)) ?_);intro gN cN W2 RN L2 hat
   have hgN:wr.heap.size≤gN:=by have:=HSZ.out; rcases hat with h | h <;> omega
   replace L2:Below (wr.alloc (.cells #[] 3)).heap.size (wr.alloc (.cells #[] 3)) W2:=by rw [HSZ.out]; exact L2
   have G2:=GA.out.below L2;have LB:=Ae LA L2;clear GA LA L2 hat HSZ ca hE;have LX:Below W2.heap.size W2 (W2.alloc (.cells #[.slice (some ⟨gN,0,none⟩) (ln q) cN] 25)):=(Below.refl _ _).alloc (Nat.le_refl _) _;have hB:=Ag (Al W2 #[.slice (some ⟨gN,0,none⟩) (ln q) cN] 25) 0;have G3:=Ad (G2.below LX);have R3:=Ad (RN.below LX);have LC:=Ad (Ae LB LX);clear G2 RN LB LX;go_wp2_with (at_builtin; refine Jz _ rfl _ _ rfl w.heap.size u3 q _ rfl G3.out.own (by omega) LC.out.size W2.heap.size (.slice (some ⟨gN,0,none⟩) (ln q) cN) rfl rfl hB ?_);intro g' c' W4 own' hW hat';have GN:=Ad (G3.out.push hW own' (by simpa using hat') R3.out (fun e=>by have:=hob _ e; omega) (fun i hi e=>by have:=hgb i hi; omega) (by omega));have LD:=LC.out.trans (hW.below LC.out.size (fun b o hb (e:u3.ownBlock=some b)=>by have:=hob _ e; omega))
   clear G3 R3 LC own' hW hat' hB;go_wp2;go_roundw
   case rel=>exact ⟨q+1,_,_,by omega,by go_num,GN.out,LD⟩
   case measure=>simp [intOf]; omega
  ·have hqm':¬ (q:Int)<(m:Int):=by omega
   obtain rfl:q=m:=by omega
   have HP:=Ad (And.intro hG hL);clear hG hL HL;go_wp2;go_ret
   first | exact ⟨_,gb,cp,rfl,HP.out.1,HP.out.2⟩ | exact ⟨_,rfl,⟨gb,cp,HP.out.1⟩,HP.out.2⟩
def Df (V:Nat→Value) (i:Nat) (v:Value):Nat→Value:=fun k=>if k=i then v else V k
theorem Ai (V:Nat→Value) (i:Nat) (v:Value):Df V i v i=v:=if_pos rfl
theorem Ar (V:Nat→Value) {i k:Nat} (v:Value) (h:k≠i):Df V i v k=V k:=if_neg h
section
variable {P:Program} {ops:Array Oper} {Q:Exit→Act→World→Prop}
theorem Fo {id:Nat} {a:Act} {w:World} (ds:List (Option Nat)) (hm:P.follows .mixedOrders=true) (hb:Lm ops=true) (hg:Pu ops=true) (hd:Lw ops ds=true) (hsz:∀ d,d∈slotsOf ds→d<a.tmps.size)
  (R:Nat→Nat→Nat→Prop) (φ:Nat→(Nat→Value)→Nat→Nat→World→Prop)
  (hstab:∀ i j o V x lo hi W W',i≠j→ops[i]?=some o→A0 o j=false→w.heap.size≤lo→hi≤W.heap.size→Wrote (R j) W W'→φ i V lo hi W→φ i (Df V j x) lo hi W')
  (hstep:∀ i o a' W K,ops[i]?=some o→Fr (slotsOf ds) a a'→Wrote (fun b o'=>∃ j oj,j≠i∧ops[j]?=some oj∧A0 oj i=false∧R j b o') w W→(∀ j,A0 o j=true→∃ lo hi,w.heap.size≤lo∧hi≤W.heap.size∧φ j (Bl ds a') lo hi W)→(∀ v W',Wrote (R i) W W'→φ i (Df (Bl ds a') i (if o.dst=none then undef else v)) W.heap.size W'.heap.size W'→K (a'.put o.dst v) W')→o.wp P a' W K Q)
  (hend:∀ a' W,Fr (slotsOf ds) a a'→Wrote (fun b o=>∃ j,R j b o) w W→(lo hi:Nat→Nat)→(∀ i,i<ops.size→w.heap.size≤lo i∧lo i≤hi i∧hi i≤W.heap.size∧φ i (Bl ds a') (lo i) (hi i) W)→(∀ i j,i<ops.size→j<ops.size→i≠j→hi i≤lo j∨hi j≤lo i)→Q .normal a' W):(Code.region id ops true).wp P Q a w:=by
 unfold Lw at hd;simp only [Bool.and_eq_true,decide_eq_true_eq] at hd;obtain ⟨⟨hlen,hd1⟩,hd2⟩:=hd
 have hgo:∀ (i:Nat) (o:Oper),ops[i]?=some o→o.guard=none:=fun i o ho=>by
  have h1:=(Array.all_eq_true_iff_forall_mem.1 hg) o (Array.mem_of_getElem? ho)
  simpa using h1
 have hlt:∀ (i:Nat) (o:Oper),ops[i]?=some o→i<ops.size:=fun i o ho=>by
  rcases Nat.lt_or_ge i ops.size with h | h
  ·exact h
  ·rw [Array.getElem?_eq_none h] at ho; cases ho
 have hdst:∀ (i:Nat) (o:Oper),ops[i]?=some o→ds[i]?=some o.dst:=fun i o ho=>by
  have h1:=List.all_eq_true.1 hd1 i (List.mem_range.2 (by rw [hlen]; exact hlt i o ho));rw [ho] at h1;simp only [Option.map_some,Option.getD_some,beq_iff_eq] at h1;exact h1.symm
 have hne:∀ i j d,i≠j→ds[i]?=some (some d)→ds[j]?≠some (some d):=fun i j d h hi hj=>by
  have li:i<ds.length:=by rcases Nat.lt_or_ge i ds.length with x | x; exact x; (rw [List.getElem?_eq_none x] at hi; cases hi)
  have lj:j<ds.length:=by rcases Nat.lt_or_ge j ds.length with x | x; exact x; (rw [List.getElem?_eq_none x] at hj; cases hj)
  have h1:=List.all_eq_true.1 (List.all_eq_true.1 hd2 i (List.mem_range.2 li)) j (List.mem_range.2 lj);rw [hi,hj] at h1
  simp at h1
  exact h h1
 refine Gf hm hb (fun _ l a' W=>Fr (slotsOf ds) a a'∧Wrote (fun b o=>∃ j,l[j]?=some true∧R j b o) w W∧(∀ (k:Nat) (o:Oper),l[k]?=some true→ops[k]?=some o→∀ j:Nat,A0 o j=true→l[j]?=some true)∧∃ lo hi:Nat→Nat,(∀ i:Nat,l[i]?=some true→w.heap.size≤lo i∧lo i≤hi i∧hi i≤W.heap.size∧φ i (Bl ds a') (lo i) (hi i) W)∧∀ i j:Nat,l[i]?=some true→l[j]?=some true→i≠j→hi i≤lo j∨hi j≤lo i) ?_ ?_ ?_
 ·have hno:∀ i:Nat,(Array.replicate ops.size false)[i]?≠some true:=fun i h=>by
   rcases Nat.lt_or_ge i ops.size with x | x
   ·simp [x] at h
   ·rw [Array.getElem?_eq_none (by simpa using x)] at h; cases h
  exact ⟨⟨rfl,rfl,fun _ _=>rfl⟩,⟨rfl,rfl,rfl,Nat.le_refl _,fun _ _ _=>rfl,fun _ _ _ _=>rfl,fun _ _ _=>rfl⟩,fun k _ h=>absurd h (hno k),fun _=>0,fun _=>0,fun i h=>absurd h (hno i),fun i _ h=>absurd h (hno i)⟩
 ·rintro l a' W i o K hl ⟨F,L,hcl,lo,hi',hφ,hdj⟩ ho hf ha hK
  have hi:=hlt i o ho;have hdi:=hdst i o ho
  have hdone:∀ j,l[j]?=some true→∀ b o,R j b o→∃ j oj,j≠i∧ops[j]?=some oj∧A0 oj i=false∧R j b o:=fun j h1 b o h2=>by
   have hjl:j<ops.size:=by
    rcases Nat.lt_or_ge j ops.size with x | x
    ·exact x
    ·rw [Array.getElem?_eq_none (by omega)] at h1; cases h1
   have hjo:ops[j]?=some ops[j]:=Array.getElem?_eq_getElem hjl;refine ⟨j,ops[j],(fun e=>by rw [e,hf] at h1; cases h1),hjo,?_,h2⟩;cases hw:A0 ops[j] i
   ·rfl
   ·have:=hcl j _ h1 hjo i hw
    rw [hf] at this; cases this
  refine Ky ho (hgo i o ho) (hstep i o a' W K ho F (L.mono (fun b o _ ⟨j,h1,h2⟩=>hdone j h1 b o h2)) (fun j hj=>⟨lo j,hi' j,(hφ j (D9 ha hj)).1,(hφ j (D9 ha hj)).2.2⟩) (fun v W' hW hv=>hK _ _ ?_))
  have hset:(l.setIfInBounds i true)[i]?=some true:=by simp [hl,hi]
  have hval:Bl ds (a'.put o.dst v)=Df (Bl ds a') i (if o.dst=none then undef else v):=by
   funext k
   by_cases e:k=i
   ·subst e
    rw [Ai]
    cases e:o.dst with
    | none =>
     rw [e] at hdi;unfold Bl;rw [hdi]
     simp
    | some d =>
     rw [e] at hdi;have hmem:d∈slotsOf ds:=List.mem_filterMap.2 ⟨some d,List.mem_of_getElem? hdi,rfl⟩;unfold Bl;rw [hdi]
     simpa using Fz (by rw [F.size]; exact hsz d hmem)
   ·rw [Ar _ _ e]
    cases e2:o.dst with
    | none=>rfl
    | some d =>
     rw [e2] at hdi;unfold Bl
     cases e3:ds[k]? with
     | none=>rfl
     | some x =>
      cases x with
      | none=>rfl
      | some d' =>
       have:d≠d':=fun x=>hne k i d' e e3 (by rw [hdi,x])
       exact Es this
  have hne':∀ k,(l.setIfInBounds i true)[k]?=some true→k≠i→l[k]?=some true:=fun k hk e=>by rw [Array.getElem?_setIfInBounds_ne (by omega)] at hk; exact hk
  refine ⟨?_,(L.mono (fun b o _ ⟨j,h1,h2⟩=>⟨j,by rw [Array.getElem?_setIfInBounds_ne (fun e=>by rw [← e,hf] at h1; cases h1)]; exact h1,h2⟩)).trans (hW.mono (fun b o _ h=>⟨i,hset,h⟩)),fun k o' hk hko j hj=>?_,fun k=>if k=i then W.heap.size else lo k,fun k=>if k=i then W'.heap.size else hi' k,fun k hk=>?_,fun k k' hk hk' hkk=>?_⟩
  ·cases e:o.dst with
   | none=>exact F
   | some d =>
    rw [e] at hdi;exact F.put (List.mem_filterMap.2 ⟨some d,List.mem_of_getElem? hdi,rfl⟩) v
  ·have h1:l[j]?=some true:=by
    by_cases e:k=i
    ·subst e
     rw [ho] at hko;obtain rfl:=Option.some.inj hko;exact D9 ha hj
    ·rw [Array.getElem?_setIfInBounds_ne (by omega)] at hk
     exact hcl k o' hk hko j hj
   by_cases e:j=i
   ·rw [e]; exact hset
   ·rw [Array.getElem?_setIfInBounds_ne (by omega)]; exact h1
  ·rw [hval]
   by_cases e:k=i
   ·subst e
    simp only [if_true];exact ⟨L.size,hW.size,Nat.le_refl _,hv⟩
   ·simp only [if_neg e]
    rw [Array.getElem?_setIfInBounds_ne (by omega)] at hk;obtain ⟨g1,g2,g3,g4⟩:=hφ k hk;refine ⟨g1,g2,Nat.le_trans g3 hW.size,?_⟩
    have hkl:k<ops.size:=by
     rcases Nat.lt_or_ge k ops.size with x | x
     ·exact x
     ·rw [Array.getElem?_eq_none (by omega)] at hk; cases hk
    have hko:ops[k]?=some ops[k]:=Array.getElem?_eq_getElem hkl
    have hnw:A0 ops[k] i=false:=by
     cases hw:A0 ops[k] i
     ·rfl
     ·have:=hcl k _ hk hko i hw
      rw [hf] at this; cases this
    exact hstab k i _ _ _ _ _ W W' e hko hnw g1 g3 hW g4
  ·by_cases e:k=i
   ·have e':k'≠i:=fun x=>hkk (e.trans x.symm)
    simp only [if_pos e,if_neg e'];exact Or.inr (hφ k' (hne' k' hk' e')).2.2.1
   ·by_cases e':k'=i
    ·simp only [if_neg e,if_pos e']
     exact Or.inl (hφ k (hne' k hk e)).2.2.1
    ·simp only [if_neg e,if_neg e']
     exact hdj k k' (hne' k hk e) (hne' k' hk' e') hkk
 ·rintro l a' W hall ⟨F,L,-,lo,hi',hφ,hdj⟩
  exact hend a' W F (L.mono (fun b o _ ⟨j,_,h2⟩=>⟨j,h2⟩)) lo hi' (fun i hi=>hφ i (hall i hi)) (fun i j hi hj=>hdj i j (hall i hi) (hall j hj))
end
section
variable {P:Program} {ops:Array Oper} {Q:Exit→Act→World→Prop}
def Bb (ops:Array Oper):Nat→Nat→Nat→Bool
 | 0,_,_=>false
 | n+1,j,i=>match ops[j]? with
  | none=>false
  | some o=>A0 o i || (List.range ops.size).any fun k=>A0 o k && Bb ops n k i
theorem Gc {l:Array Bool} (hcl:∀ (k:Nat) (o:Oper),l[k]?=some true→ops[k]?=some o→∀ j:Nat,A0 o j=true→l[j]?=some true):∀ (n j i:Nat),l[j]?=some true→Bb ops n j i=true→l[i]?=some true
 | 0,_,_,_,h=>by cases h
 | n+1,j,i,hj,h=>by
  unfold Bb at h
  cases ho:ops[j]? with
  | none=>rw [ho] at h; cases h
  | some o =>
   rw [ho] at h;simp only [Bool.or_eq_true,List.any_eq_true,Bool.and_eq_true] at h
   rcases h with h | ⟨k,-,h1,h2⟩
   ·exact hcl j o hj ho i h
   ·exact Gc hcl n k i (hcl j o hj ho k h1) h2
end
set_option linter.unusedSimpArgs false
def Va (t:Int):Int:=(t+15)/64
def Kv (m:Nat) (ln:Nat→Nat) (t:Int):Bool:=decide ((∀ i,i<m→ln i=48)∧(m:Int)=Va t)
theorem Vb {m:Nat} {ln:Nat→Nat} {t:Int} {i:Nat} (hi:i<m) (h:¬ ln i=48):Kv m ln t=false:=decide_eq_false (fun x=>h (x.1 i hi))
theorem Rp {m:Nat} {ln:Nat→Nat} {t:Int} (h:∀ i,i<m→ln i=48):Kv m ln t=((m:Int)==Va t):=by
 by_cases e:(m:Int)=Va t
 ·rw [Kv,decide_eq_true ⟨h,e⟩]; exact (beq_iff_eq.2 e).symm
 ·rw [Kv,decide_eq_false (fun x=>e x.2)]; exact (beq_eq_false_iff_ne.2 e).symm
theorem Ec {t c s ad pl:Int} {n:Nat} {f:Nat→Int} {m:Nat} {g:Nat→Int} (h:A1 t c s ad pl n f m g=true):0≤t∧t≤20000:=by
 unfold A1 at h;rw [Bool.and_eq_true] at h;exact (Dn _ _ _).1 h.1
def Cd (d:Aq):Bool:=Dr d.np d.p && (B6 d.m d.ln d.f d.nr d.g d.bank && (It d.A d.X d.S d.Pc && (A1 d.t d.c d.s d.ad d.pl d.nt d.tb d.nd d.dt && (Ci d.T d.P d.K d.B d.L && (Cs d.sh 0 255 && ((d.t==d.T) && (Cs d.st 0 d.t && (Kv d.mf d.lf d.t && ((d.ns:Int)==d.t/16)))))))))
end Go.Proofs.YtgcmimcalmjaaaaGreatDoor
