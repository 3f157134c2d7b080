import Derived.Test.YtjnjnppongdhgaaGreatSM
namespace Go.Proofs.YtjnjnppongdhgaaGreat
set_option maxHeartbeats 8000000
set_option maxRecDepth 40000
set_option linter.unusedVariables false
set_option linter.unusedSimpArgs false
open Go.ChangeShapes Go.WideShapes Go.ChangeAt Go.RowKit
structure B8 (W:World) (lo N:Nat) (D:Nat→Nat→Prop) (u0 u1 u2 u3 u4 u5 u6 u7:Value) (ob:Nat→Option Nat) (iv ov:Nat→Value) (o6 o7:Option Nat) (d:Ao):Prop where
 h0:Cg W (D 0) u0 d.m d.ln d.f
 h1:Bl W (D 1) u1 d.np d.p
 h2:Bn W (D 2) (.agg #[u2,.i d.bank]) d.nr d.g d.bank
 h3:Cn W lo (D 3) (.agg (pR d.t d.c d.s d.ad d.pl d.bl u3 u4)) d.t d.c d.s d.ad d.pl d.bl d.nt d.tb d.nd d.dt
 h5:SA W lo u5 d.mf d.mf ob iv ov d.lf d.fr
 h5D:∀ b,(u5.ownBlock=some b∨∃ i,i<d.mf∧ob i=some b)→D 4 b
 h6:Bf W lo o6 u6 d.ns d.sm
 h6D:∀ b,o6=some b→D 5 b
 h7:Bf W lo o7 u7 d.nq d.rd
 h7D:∀ b,o7=some b→D 6 b
 dis:Up D
 bd:∀ i b,D i b→lo≤b∧b<N
 nN:N≤W.heap.size
 hps:Cy d.lf d.mf≤1099511627776
section
variable {R:Nat→Nat→Prop} {W W':World} {lo N:Nat} {D:Nat→Nat→Prop} {u0 u1 u2 u3 u4 u5 u6 u7:Value} {ob:Nat→Option Nat} {iv ov:Nat→Value} {o6 o7:Option Nat} {d:Ao}
theorem Bf.listOn {W:World} {lo:Nat} {o:Option Nat} {v:Value} {n:Nat} {f:Nat→Int} {D:Nat→Prop} (h:Bf W lo o v n f) (hd:∀ b,o=some b→D b):Bl W D v n f:=by
 obtain ⟨a,x,e,hS⟩:=h.sl;exact ⟨a,x,e,hS.small,hS.row,hS.free,fun b k hF=>hd b (hS.on b k hF)⟩
theorem B8.on (H:B8 W lo N D u0 u1 u2 u3 u4 u5 u6 u7 ob iv ov o6 o7 d):As W D (.agg (kR d u0 u1 u2 u3 u4 u5 u6 u7)) d :=
 ⟨u0,u1,u2,u3,u4,u5,u6,u7,rfl,H.h0,H.h1,H.h2,H.h3.on,u5,u6,u7,rfl,H.h5.onD H.h5D H.hps,H.h6.listOn H.h6D,H.h7.listOn H.h7D⟩
theorem B8.keepD (H:B8 W lo N D u0 u1 u2 u3 u4 u5 u6 u7 ob iv ov o6 o7 d) (hw:Wrote R W W') (hd:∀ i b o,D i b→¬ R b o):B8 W' lo N D u0 u1 u2 u3 u4 u5 u6 u7 ob iv ov o6 o7 d :=
 ⟨H.h0.keep hw (fun b o h _=>hd _ b o h),H.h1.keep hw (fun b o h _=>hd _ b o h),H.h2.keep hw (fun b o h _=>hd _ b o h),H.h3.keep hw (fun b o h _=>hd _ b o h),H.h5.keep hw (fun g o hg=>hd _ g o (H.h5D g (Or.inl hg))) (fun i b o hi hb=>hd _ b o (H.h5D b (Or.inr ⟨i,hi,hb⟩))),H.h5D,H.h6.keep hw (fun b hb _ _ o=>hd _ b o (H.h6D b hb)),H.h6D,H.h7.keep hw (fun b hb _ _ o=>hd _ b o (H.h7D b hb)),H.h7D,H.dis,H.bd,Nat.le_trans H.nN hw.size,H.hps⟩
theorem B8.keep (H:B8 W lo N D u0 u1 u2 u3 u4 u5 u6 u7 ob iv ov o6 o7 d) (hw:Wrote R W W') (hn:∀ b o,lo≤b→b<N→¬ R b o):B8 W' lo N D u0 u1 u2 u3 u4 u5 u6 u7 ob iv ov o6 o7 d:=H.keepD hw (fun i b o h=>hn b o (H.bd i b h).1 (H.bd i b h).2)
theorem B8.below (H:B8 W lo N D u0 u1 u2 u3 u4 u5 u6 u7 ob iv ov o6 o7 d) (L:Below W.heap.size W W'):B8 W' lo N D u0 u1 u2 u3 u4 u5 u6 u7 ob iv ov o6 o7 d:=H.keep (Ab L Ak) (fun _ _ _ _ x=>x)
theorem B8.ppu (H:B8 W lo N D u0 u1 u2 u3 u4 u5 u6 u7 ob iv ov o6 o7 d) {p q:Nat} {w3 w4:Value} {c s ad pl:Int} {t:Int} {bl:Bool} {nt nd:Nat} {tb dt:Nat→Int} (hP:Cn W lo (fun b=>p≤b∧b<q) (.agg (pR t c s ad pl bl w3 w4)) t c s ad pl bl nt tb nd dt) (hp:N≤p) (hl:lo≤N) (hpq:p≤q) (hq:q≤W.heap.size) :
  B8 W lo q (fun i b=>(i=3∧p≤b∧b<q)∨(i≠3∧D i b)) u0 u1 u2 w3 w4 u5 u6 u7 ob iv ov o6 o7 { d with t:=t,c:=c,s:=s,ad:=ad,pl:=pl,bl:=bl,nt:=nt,tb:=tb,nd:=nd,dt:=dt }:=by
 have nN:=H.nN;refine ⟨H.h0.mono (fun b _ h=>Or.inr ⟨by decide,h⟩),H.h1.mono (fun b _ h=>Or.inr ⟨by decide,h⟩),H.h2.mono (fun b _ h=>Or.inr ⟨by decide,h⟩),hP.mono (fun b _ h=>Or.inl ⟨rfl,h⟩),H.h5,fun b h=>Or.inr ⟨by decide,H.h5D b h⟩,H.h6,fun b h=>Or.inr ⟨by decide,H.h6D b h⟩,H.h7,fun b h=>Or.inr ⟨by decide,H.h7D b h⟩,?_,?_,hq,H.hps⟩
 ·intro i j b h1 h2
  rcases h1 with ⟨rfl,_,_⟩ | ⟨n1,h1⟩ <;> rcases h2 with ⟨rfl,_,_⟩ | ⟨n2,h2⟩
  ·rfl
  ·have:=H.bd _ _ h2; omega
  ·have:=H.bd _ _ h1; omega
  ·exact H.dis _ _ _ h1 h2
 ·intro i b h
  rcases h with ⟨rfl,_,_⟩ | ⟨_,h⟩
  ·omega
  ·have:=H.bd _ _ h; omega
theorem B8.mem (H:B8 W lo N D u0 u1 u2 u3 u4 u5 u6 u7 ob iv ov o6 o7 d) {p q:Nat} {w2:Value} {bank:Int} {nr:Nat} {g:Nat→Int} (hP:Bn W (fun b=>p≤b∧b<q) (.agg #[w2,.i bank]) nr g bank) (hp:N≤p) (hl:lo≤N) (hpq:p≤q) (hq:q≤W.heap.size) :
  B8 W lo q (fun i b=>(i=2∧p≤b∧b<q)∨(i≠2∧D i b)) u0 u1 w2 u3 u4 u5 u6 u7 ob iv ov o6 o7 { d with bank:=bank,nr:=nr,g:=g }:=by
 have nN:=H.nN;refine ⟨H.h0.mono (fun b _ h=>Or.inr ⟨by decide,h⟩),H.h1.mono (fun b _ h=>Or.inr ⟨by decide,h⟩),hP.mono (fun b _ h=>Or.inl ⟨rfl,h⟩),H.h3.mono (fun b _ h=>Or.inr ⟨by decide,h⟩),H.h5,fun b h=>Or.inr ⟨by decide,H.h5D b h⟩,H.h6,fun b h=>Or.inr ⟨by decide,H.h6D b h⟩,H.h7,fun b h=>Or.inr ⟨by decide,H.h7D b h⟩,?_,?_,hq,H.hps⟩
 ·intro i j b h1 h2
  rcases h1 with ⟨rfl,_,_⟩ | ⟨n1,h1⟩ <;> rcases h2 with ⟨rfl,_,_⟩ | ⟨n2,h2⟩
  ·rfl
  ·have:=H.bd _ _ h2; omega
  ·have:=H.bd _ _ h1; omega
  ·exact H.dis _ _ _ h1 h2
 ·intro i b h
  rcases h with ⟨rfl,_,_⟩ | ⟨_,h⟩
  ·omega
  ·have:=H.bd _ _ h; omega
theorem B8.push (H:B8 W lo N D u0 u1 u2 u3 u4 u5 u6 u7 ob iv ov o6 o7 d) (hl:lo≤N) {g':Nat} {u':Value} {x:Int} (hw:Wrote (fun b _=>o7=some b) W W') (R7:Bf W' lo (some g') u' (d.nq+1) (snoc d.rd d.nq x)) (hat:o7=some g'∨W.heap.size≤g') :
  B8 W' lo W'.heap.size (fun i b=>(i=6∧b=g')∨(i≠6∧D i b)) u0 u1 u2 u3 u4 u5 u6 u' ob iv ov o6 (some g') { d with nq:=d.nq+1,rd:=snoc d.rd d.nq x }:=by
 have nN:=H.nN;have hz:=hw.size
 have far:∀ i b (o:Nat),i≠6→D i b→¬ (o7=some b):=fun i b o hi hb e=>hi (H.dis i 6 b hb (H.h7D b e))
 have key:∀ i,i≠6→D i g'→False:=fun i hi h=>by
  rcases hat with e | h'
  ·exact far i g' 0 hi h e
  ·have:=H.bd _ _ h; omega
 refine ⟨(H.h0.keep hw (fun b o h _=>far 0 b o (by decide) h)).mono (fun b _ h=>Or.inr ⟨by decide,h⟩),(H.h1.keep hw (fun b o h _=>far 1 b o (by decide) h)).mono (fun b _ h=>Or.inr ⟨by decide,h⟩),(H.h2.keep hw (fun b o h _=>far 2 b o (by decide) h)).mono (fun b _ h=>Or.inr ⟨by decide,h⟩),(H.h3.keep hw (fun b o h _=>far 3 b o (by decide) h)).mono (fun b _ h=>Or.inr ⟨by decide,h⟩),
  H.h5.keep hw (fun g o hg=>far 4 g o (by decide) (H.h5D g (Or.inl hg))) (fun i b o hi hb=>far 4 b o (by decide) (H.h5D b (Or.inr ⟨i,hi,hb⟩))),fun b h=>Or.inr ⟨by decide,H.h5D b h⟩,H.h6.keep hw (fun b hb _ _ o=>far 5 b o (by decide) (H.h6D b hb)),fun b h=>Or.inr ⟨by decide,H.h6D b h⟩,R7,fun b h=>Or.inl ⟨rfl,(Option.some.inj h).symm⟩,?_,?_,Nat.le_refl _,H.hps⟩
 ·intro i j b h1 h2
  rcases h1 with ⟨rfl,rfl⟩ | ⟨n1,h1⟩ <;> rcases h2 with ⟨rfl,e2⟩ | ⟨n2,h2⟩
  ·rfl
  ·exact (key _ n2 h2).elim
  ·subst e2; exact (key _ n1 h1).elim
  ·exact H.dis _ _ _ h1 h2
 ·intro i b h
  rcases h with ⟨rfl,rfl⟩ | ⟨_,h⟩
  ·exact R7.lt
  ·have:=H.bd _ _ h; omega
end
theorem Yv (w:World) (F5 F6 F7:Nat→Nat→Prop) (u5 u6 u7:Value) (mf:Nat) (lf:Nat→Nat) (fr:Nat→Nat→Int) (ns:Nat) (sm:Nat→Int) (nq:Nat) (rd:Nat→Int) (H5:Ba .i64 w F5 u5 mf lf fr) (H6:Ints .i64 w F6 u6 ns sm) (H7:Ints .i64 w F7 u7 nq rd) :
  Calls Tryz.prog 46 #[.agg #[u5,u6,u7]] w fun e w'=>∃ v5 v6 v7,e=.returned (.agg #[v5,v6,v7])∧(∃ ob iv ov o6 o7,SA w' w.heap.size v5 mf mf ob iv ov lf fr∧Bf w' w.heap.size o6 v6 ns sm∧Bf w' w.heap.size o7 v7 nq rd∧∃ lo hi:Nat→Nat,(∀ b,(v5.ownBlock=some b∨∃ i,i<mf∧ob i=some b)→lo 0≤b∧b<hi 0)∧(∀ b,o6=some b→lo 1≤b∧b<hi 1)∧(∀ b,o7=some b→lo 2≤b∧b<hi 2)∧(∀ i,i<3→w.heap.size≤lo i∧hi i≤w'.heap.size)∧(∀ i j,i<3→j<3→i≠j→hi i≤lo j∨hi j≤lo i))∧Below w.heap.size w w':=by
 obtain ⟨a5,c5,rfl,-⟩:=id H5;obtain ⟨a6,c6,rfl,-⟩:=id H6;obtain ⟨a7,c7,rfl,-⟩:=id H7;have L0:Below w.heap.size w ((w.alloc (.cells #[.slice a5 mf c5,.slice a6 ns c6,.slice a7 nq c7] 39)).alloc (.cells oZ 39)):=((Below.refl _ _).alloc (Nat.le_refl _) _).alloc (by simp) _;have B0:((w.alloc (.cells #[.slice a5 mf c5,.slice a6 ns c6,.slice a7 nq c7] 39)).alloc (.cells oZ 39)).heap[w.heap.size]?=some (.cells #[.slice a5 mf c5,.slice a6 ns c6,.slice a7 nq c7] 39 (0,0)):=A4 (Al w _ _) _
 have B1:((w.alloc (.cells #[.slice a5 mf c5,.slice a6 ns c6,.slice a7 nq c7] 39)).alloc (.cells oZ 39)).heap[w.heap.size+1]?=some (.cells oZ 39 (0,0)):=by simpa using Al (w.alloc (.cells #[.slice a5 mf c5,.slice a6 ns c6,.slice a7 nq c7] 39)) oZ 39
 go_enter Tryz.func46,Tryz.ntmps46
 go_upto_region 1 with (fail);generalize (w.alloc (.cells #[.slice a5 mf c5,.slice a6 ns c6,.slice a7 nq c7] 39)).alloc (.cells oZ 39)=W0 at *
 obtain ⟨S,hS⟩:∃ S,Hid (S=W0.heap.size):=⟨_,rfl⟩
 have L0s:=Ac L0.size;rename_i KK hKK
 refine Ey [some 3,some 4,some 5,some 6,some 7,some 8,some 9,some 10,some 11,some 12,none] (by kernel_rfl) (by kernel_rfl) (by kernel_rfl) (by kernel_rfl) (by simp [slotsOf])
  (fun j b _=>j=10∧b=w.heap.size+1)
  (fun i V lo hi W=>match i with
   | 0=>V 0=(pt w.heap.size 0)
   | 1=>V 1=.slice a5 mf c5
   | 2=>∃ ob iv ov,SA W lo (V 2) mf mf ob iv ov lf fr∧∀ b,((V 2).ownBlock=some b∨∃ i,i<mf∧ob i=some b)→b<hi
   | 3=>V 3=(pt w.heap.size 1)
   | 4=>V 4=.slice a6 ns c6
   | 5=>∃ o,Bf W lo o (V 5) ns sm∧∀ b,o=some b→b<hi
   | 6=>V 6=(pt w.heap.size 2)
   | 7=>V 7=.slice a7 nq c7
   | 8=>∃ o,Bf W lo o (V 8) nq rd∧∀ b,o=some b→b<hi
   | 9=>V 9=.agg #[V 2,V 5,V 8]
   | _=>W.heap[w.heap.size+1]?=some (.cells #[V 2,V 5,V 8] 39 (0,0))) ?_ ?_ ?_
 ·intro i j o V x lo hi W W' hij ho hnw hlo hhi hW h
  have hS':=hS.out;have hb1:=Ae B1
  have far:∀ (g k:Nat),S≤g→¬ (j=10∧g=w.heap.size+1):=fun g k hg hR=>by omega
  have nw:∀ k,A1 o k=true→k≠j:=fun k hk e=>by rw [e,hnw] at hk; cases hk
  match i,ho,hij,nw,h with
  | 0,_,hij,_,h=>exact (Ap V x hij).trans h
  | 1,_,hij,_,h=>exact (Ap V x hij).trans h
  | 3,_,hij,_,h=>exact (Ap V x hij).trans h
  | 4,_,hij,_,h=>exact (Ap V x hij).trans h
  | 6,_,hij,_,h=>exact (Ap V x hij).trans h
  | 7,_,hij,_,h=>exact (Ap V x hij).trans h
  | 2,_,hij,_,⟨ob,iv,ov,h1,h2⟩ =>
   rw [← Ap V x hij] at h1 h2;exact ⟨ob,iv,ov,h1.keep hW (fun g o hg=>far g o (by have:=Cl h1.own hg; omega)) (fun i b o hi hb=>far _ o (by have h3:=h1.rows i hi; rw [hb] at h3; have:=h3.lt.1; omega)),h2⟩
  | 5,_,hij,_,⟨o6,h1,h2⟩ =>
   rw [← Ap V x hij] at h1;exact ⟨o6,h1.keep hW (fun b hb h3 _ k=>far b k (by omega)),h2⟩
  | 8,_,hij,_,⟨o7,h1,h2⟩ =>
   rw [← Ap V x hij] at h1;exact ⟨o7,h1.keep hW (fun b hb h3 _ k=>far b k (by omega)),h2⟩
  | 9,ho,hij,nw,h =>
   cases ho
   show Ct V j x 9=.agg #[Ct V j x 2,Ct V j x 5,Ct V j x 8]
   rw [Ap V x hij,Ap V x (nw 2 (by kernel_rfl)),Ap V x (nw 5 (by kernel_rfl)),Ap V x (nw 8 (by kernel_rfl))];exact h
  | 10,ho,hij,nw,h =>
   cases ho
   show W'.heap[w.heap.size+1]?=some (.cells #[Ct V j x 2,Ct V j x 5,Ct V j x 8] 39 (0,0))
   rw [Ap V x (nw 2 (by kernel_rfl)),Ap V x (nw 5 (by kernel_rfl)),Ap V x (nw 8 (by kernel_rfl))];exact Ag h hW (fun o ⟨e,_⟩=>hij e.symm)
  | n+11,ho,_,_,_=>simp at ho
 ·intro i o a' W K ho F L hw hK
  have hS':=hS.out;have t1:=F.get (t:=1) (v:=(pt w.heap.size 0)) (by decide) rfl;have t2:=F.get (t:=2) (v:=(pt (w.heap.size+1) 0)) (by decide) rfl;have LW:Below w.heap.size w W:=L0.trans (L.below L0.size (fun b o hb ⟨j,_,_,_,_,h⟩=>by omega))
  have WS:S≤W.heap.size:=by have:=L.size; omega
  match i with
  | 0 =>
   cases ho;go_simp;exact Hk hK (Aq _ _ _)
  | 1 =>
   cases ho;obtain ⟨_,_,_,_,q0⟩:=Hr hw 0;replace q0:a'.tmps[3]?.getD undef=(pt w.heap.size 0):=q0;have rb:=Aj (Ag B0 L (fun k ⟨j,oj,hj,hoj,hwj,hR⟩=>by omega));go_simp;exact Hk hK (Aq _ _ _)
  | 2 =>
   cases ho;obtain ⟨_,_,_,_,q1⟩:=Hr hw 1;replace q1:a'.tmps[4]?.getD undef=.slice a5 mf c5:=q1;go_simp;refine (Nn W _ _ mf lf fr (H5.keep (Ab LW Ak) (fun _ _ _ x=>x))).mono ?_;rintro e W' ⟨v5,ob,iv,ov,rfl,hG,hB⟩;refine hK _ _ (Ab hB _) ?_
   show ∃ ob iv ov,SA W' W.heap.size (Ct _ 2 v5 2) mf mf ob iv ov lf fr∧_
   rw [Aq]
   exact ⟨ob,iv,ov,hG,fun b h=>by
    rcases h with h | ⟨i,hi,hb⟩
    ·exact (Cl hG.own h).2
    ·have h3:=hG.rows i hi
     rw [hb] at h3
     exact h3.lt.2⟩
  | 3 =>
   cases ho;go_simp;exact Hk hK (Aq _ _ _)
  | 4 =>
   cases ho;obtain ⟨_,_,_,_,q3⟩:=Hr hw 3;replace q3:a'.tmps[6]?.getD undef=(pt w.heap.size 1):=q3;have rb:=Aj (Ag B0 L (fun k ⟨j,oj,hj,hoj,hwj,hR⟩=>by omega));go_simp;exact Hk hK (Aq _ _ _)
  | 5 =>
   cases ho;obtain ⟨_,_,_,_,q4⟩:=Hr hw 4;replace q4:a'.tmps[7]?.getD undef=.slice a6 ns c6:=q4;go_simp;refine (Fq W _ _ ns sm (H6.keep (Ab LW Ak) (fun _ _ _ x=>x))).mono ?_;rintro e W' ⟨v6,o6,rfl,hR,hB⟩;refine hK _ _ (Ab hB _) ?_
   show ∃ o,Bf W' W.heap.size o (Ct _ 5 v6 5) ns sm∧_
   rw [Aq];exact ⟨o6,hR,fun b hb=>by subst hb; exact hR.lt.2⟩
  | 6 =>
   cases ho;go_simp;exact Hk hK (Aq _ _ _)
  | 7 =>
   cases ho;obtain ⟨_,_,_,_,q6⟩:=Hr hw 6;replace q6:a'.tmps[9]?.getD undef=(pt w.heap.size 2):=q6;have rb:=Aj (Ag B0 L (fun k ⟨j,oj,hj,hoj,hwj,hR⟩=>by omega));go_simp;exact Hk hK (Aq _ _ _)
  | 8 =>
   cases ho;obtain ⟨_,_,_,_,q7⟩:=Hr hw 7;replace q7:a'.tmps[10]?.getD undef=.slice a7 nq c7:=q7;go_simp;refine (Fq W _ _ nq rd (H7.keep (Ab LW Ak) (fun _ _ _ x=>x))).mono ?_;rintro e W' ⟨v6,o6,rfl,hR,hB⟩;refine hK _ _ (Ab hB _) ?_
   show ∃ o,Bf W' W.heap.size o (Ct _ 8 v6 8) nq rd∧_
   rw [Aq];exact ⟨o6,hR,fun b hb=>by subst hb; exact hR.lt.2⟩
  | 9 =>
   cases ho;obtain ⟨_,_,_,_,ob,iv,ov,q2,_⟩:=Hr hw 2;obtain ⟨x5,y5,e2⟩:=q2.form;obtain ⟨_,_,_,_,o6,q5,_⟩:=Hr hw 5;obtain ⟨x6,y6,e5⟩:=q5.form;obtain ⟨_,_,_,_,o7,q8,_⟩:=Hr hw 8;obtain ⟨x7,y7,e8⟩:=q8.form;have t5:a'.tmps[5]?.getD undef=.slice x5 mf y5:=e2;have t8:a'.tmps[8]?.getD undef=.slice x6 ns y6:=e5;have t11:a'.tmps[11]?.getD undef=.slice x7 nq y7:=e8;go_simp;refine Hk hK ?_
   show Ct (Be [some 3,some 4,some 5,some 6,some 7,some 8,some 9,some 10,some 11,some 12,none] a') 9 _ 9=.agg #[Ct (Be [some 3,some 4,some 5,some 6,some 7,some 8,some 9,some 10,some 11,some 12,none] a') 9 _ 2,Ct (Be [some 3,some 4,some 5,some 6,some 7,some 8,some 9,some 10,some 11,some 12,none] a') 9 _ 5,Ct (Be [some 3,some 4,some 5,some 6,some 7,some 8,some 9,some 10,some 11,some 12,none] a') 9 _ 8]
   rw [Aq,Ap _ _ (by decide),Ap _ _ (by decide),Ap _ _ (by decide),e2,e5,e8]
   rfl
  | 10 =>
   cases ho;obtain ⟨_,_,_,_,ob,iv,ov,q2,_⟩:=Hr hw 2;obtain ⟨x5,y5,e2⟩:=q2.form;obtain ⟨_,_,_,_,o6,q5,_⟩:=Hr hw 5;obtain ⟨x6,y6,e5⟩:=q5.form;obtain ⟨_,_,_,_,o7,q8,_⟩:=Hr hw 8;obtain ⟨x7,y7,e8⟩:=q8.form;have t5:a'.tmps[5]?.getD undef=.slice x5 mf y5:=e2;have t8:a'.tmps[8]?.getD undef=.slice x6 ns y6:=e5;have t11:a'.tmps[11]?.getD undef=.slice x7 nq y7:=e8;obtain ⟨_,_,_,_,q9⟩:=Hr hw 9
   replace q9:a'.tmps[12]?.getD undef=.agg #[.slice x5 mf y5,.slice x6 ns y6,.slice x7 nq y7]:=by
    have:=q9;rw [e2,e5,e8] at this;exact this
   have rb:=Ag B1 L (fun k ⟨j,oj,hj,hoj,hwj,hR⟩=>hj hR.1);have c0':=Aj rb;have f0':=Ar rb;have HB:=Ai (o:=2) (Ai (o:=1) (Ai (o:=0) rb (.slice x5 mf y5)) (.slice x6 ns y6)) (.slice x7 nq y7);simp only [List.setIfInBounds_toArray,List.set_cons_succ,List.set_cons_zero] at HB;have HBB:=Ac HB;clear HB rb B0 B1;go_simp;refine hK undef _ (Wrote.setCell (Wrote.setCell (Wrote.setCell (Wrote.refl _ W) (fun _=>⟨rfl,rfl⟩) _) (fun _=>⟨rfl,rfl⟩) _) (fun _=>⟨rfl,rfl⟩) _) ?_;have n2:=Ap (Be [some 3,some 4,some 5,some 6,some 7,some 8,some 9,some 10,some 11,some 12,none] a') (i:=10) (k:=2) undef (by decide);have n5:=Ap (Be [some 3,some 4,some 5,some 6,some 7,some 8,some 9,some 10,some 11,some 12,none] a') (i:=10) (k:=5) undef (by decide)
   have n8:=Ap (Be [some 3,some 4,some 5,some 6,some 7,some 8,some 9,some 10,some 11,some 12,none] a') (i:=10) (k:=8) undef (by decide);rw [e2] at n2;rw [e5] at n5;rw [e8] at n8
   show (_:World).heap[w.heap.size+1]?=some (.cells #[Ct (Be [some 3,some 4,some 5,some 6,some 7,some 8,some 9,some 10,some 11,some 12,none] a') 10 undef 2,Ct (Be [some 3,some 4,some 5,some 6,some 7,some 8,some 9,some 10,some 11,some 12,none] a') 10 undef 5,Ct (Be [some 3,some 4,some 5,some 6,some 7,some 8,some 9,some 10,some 11,some 12,none] a') 10 undef 8] 39 (0,0))
   rw [n2,n5,n8];exact HBB.out
  | n+11=>simp at ho
 ·intro a' W F L lo hi hφ hdj
  have hS':=hS.out;have hb1:=Ae B1;obtain ⟨b2a,b2b,b2c,ob,iv,ov,G5,G5h⟩:=Hd hφ 2;obtain ⟨b5a,b5b,b5c,o6,G6,G6h⟩:=Hd hφ 5;obtain ⟨b8a,b8b,b8c,o7,G7,G7h⟩:=Hd hφ 8;obtain ⟨-,-,-,BX⟩:=Hd hφ 10;have d1:=hdj 2 5 (by decide) (by decide) (by decide);have d2:=hdj 2 8 (by decide) (by decide) (by decide);have d3:=hdj 5 8 (by decide) (by decide) (by decide);obtain ⟨x5,y5,e2⟩:=G5.form;obtain ⟨x6,y6,e5⟩:=G6.form;obtain ⟨x7,y7,e8⟩:=G7.form;rw [e2] at G5 G5h;rw [e5] at G6;rw [e8] at G7
  replace BX:W.heap[w.heap.size+1]?=some (.cells #[.slice x5 mf y5,.slice x6 ns y6,.slice x7 nq y7] 39 (0,0)):=by
   have:=BX;simp only [e2,e5,e8] at this;exact this
  have LW:Below w.heap.size w W:=L0.trans (L.below L0.size (fun b o hb ⟨j,h⟩=>by omega));have HR:=Ac (And.intro G5 (And.intro G6 G7));have HH:=Ac (And.intro G5h (And.intro G6h G7h));have HD:=Ac (And.intro d1 (And.intro d2 d3));rw [F.same,show slotsOf [some 3,some 4,some 5,some 6,some 7,some 8,some 9,some 10,some 11,some 12,none]=[3,4,5,6,7,8,9,10,11,12] from rfl];simp only [List.foldl_cons,List.foldl_nil];clear hφ hdj e2 e5 e8 F L B0 B1 H5 H6 H7 L0 G5 G6 G7 G5h G6h G7h d1 d2 d3;generalize a'.tmps[3]?.getD undef=s3;generalize a'.tmps[4]?.getD undef=s4;generalize a'.tmps[5]?.getD undef=s5;generalize a'.tmps[6]?.getD undef=s6;generalize a'.tmps[7]?.getD undef=s7;generalize a'.tmps[8]?.getD undef=s8;generalize a'.tmps[9]?.getD undef=s9;generalize a'.tmps[10]?.getD undef=s10;generalize a'.tmps[11]?.getD undef=s11
  generalize a'.tmps[12]?.getD undef=s12;refine hKK _ _ ?_;clear hKK;go_simp;have cx:=Aj BX;go_wp2;refine bodyPost_ret (v:=.agg #[.slice x5 mf y5,.slice x6 ns y6,.slice x7 nq y7]) (by simp [results,Tryz.results46,go_sem,cx]) rfl ?_;obtain ⟨G5,G6,G7⟩:=HR.out;obtain ⟨G5h,G6h,G7h⟩:=HH.out;obtain ⟨d1,d2,d3⟩:=HD.out;have hz:=L0s.out;refine ⟨_,_,_,rfl,⟨ob,iv,ov,o6,o7,G5.mono (by omega),G6.mono (by omega),G7.mono (by omega),fun i=>if i=0 then lo 2 else if i=1 then lo 5 else lo 8,fun i=>if i=0 then hi 2 else if i=1 then hi 5 else hi 8,fun b hb=>⟨?_,G5h b hb⟩,fun b hb=>⟨by subst hb; exact G6.lt.1,G6h b hb⟩,fun b hb=>⟨by subst hb; exact G7.lt.1,G7h b hb⟩,?_,?_⟩,LW⟩
  ·rcases hb with hb | ⟨i,hi',hb⟩
   ·exact (Cl G5.own hb).1
   ·have h3:=G5.rows i hi'
    rw [hb] at h3;exact h3.lt.1
  ·intro i hi'
   match i,hi' with
   | 0,_=>exact ⟨Nat.le_trans hz b2a,b2c⟩
   | 1,_=>exact ⟨Nat.le_trans hz b5a,b5c⟩
   | 2,_=>exact ⟨Nat.le_trans hz b8a,b8c⟩
  ·intro i j hi' hj' hij
   match i,j,hi',hj',hij with
   | 0,0,_,_,h=>exact absurd rfl h
   | 1,1,_,_,h=>exact absurd rfl h
   | 2,2,_,_,h=>exact absurd rfl h
   | 0,1,_,_,_=>exact d1
   | 0,2,_,_,_=>exact d2
   | 1,2,_,_,_=>exact d3
   | 1,0,_,_,_=>exact d1.symm
   | 2,0,_,_,_=>exact d2.symm
   | 2,1,_,_,_=>exact d3.symm
structure Ln (W:World) (lo:Nat) (v:Value) (d:Ao):Prop where
 ex:∃ D u0 u1 u2 u3 u4 u5 u6 u7 ob iv ov o6 o7,v=.agg (kR d u0 u1 u2 u3 u4 u5 u6 u7)∧B8 W lo W.heap.size D u0 u1 u2 u3 u4 u5 u6 u7 ob iv ov o6 o7 d
theorem Qy (w:World) (D:Nat→Nat→Prop) (v:Value) (d:Ao) (H:As w D v d):Calls Tryz.prog 17 #[v] w fun e w'=>∃ v',e=.returned v'∧Ln w' w.heap.size v' d∧Below w.heap.size w w':=by
 obtain ⟨u0,u1,u2,u3,u4,u5,u6,u7,rfl,h0,h1,h2,h3,h4⟩:=H;obtain ⟨v5,v6,v7,hv,h5,h6,h7⟩:=h4;simp only [Value.agg.injEq,Array.mk.injEq,List.cons.injEq,and_true] at hv;obtain ⟨rfl,rfl,rfl⟩:=hv;obtain ⟨y2,hy2,H2⟩:=h2.ints;simp only [Value.agg.injEq,Array.mk.injEq,List.cons.injEq,and_true] at hy2;subst hy2;obtain ⟨y3,y4,hy3,H3,H4⟩:=h3.ints;simp only [Value.agg.injEq,Array.mk.injEq,List.cons.injEq,and_true,true_and] at hy3;obtain ⟨rfl,rfl⟩:=hy3;have H0:=h0.ints;have H5:=h5.ints;obtain ⟨a6,c6,e6,s6⟩:=id h6;obtain ⟨a7,c7,e7,s7⟩:=id h7;obtain ⟨a1,c1,e1,s1⟩:=id h1;subst e6;subst e7;subst e1;have H1:=s1.ints c1;have H6:=s6.ints c6;have H7:=s7.ints c7;obtain ⟨a0,c0,rfl,-⟩:=id H0;obtain ⟨a5,c5,rfl,-⟩:=id H5;obtain ⟨a2,c2,rfl,-⟩:=id H2;obtain ⟨a3,c3,rfl,-⟩:=id H3;obtain ⟨a4,c4,rfl,-⟩:=id H4
 have hps:=h5.small;have hps0:=h0.small;clear h0 h1 h2 h3 h5 h6 h7 s1 s6 s7;have L0:Below w.heap.size w ((w.alloc (.cells (kR d (.slice a0 d.m c0) (.slice a1 d.np c1) (.slice a2 d.nr c2) (.slice a3 d.nt c3) (.slice a4 d.nd c4) (.slice a5 d.mf c5) (.slice a6 d.ns c6) (.slice a7 d.nq c7)) 41)).alloc (.cells zR 41)):=((Below.refl _ _).alloc (Nat.le_refl _) _).alloc (by simp) _;have B0:((w.alloc (.cells (kR d (.slice a0 d.m c0) (.slice a1 d.np c1) (.slice a2 d.nr c2) (.slice a3 d.nt c3) (.slice a4 d.nd c4) (.slice a5 d.mf c5) (.slice a6 d.ns c6) (.slice a7 d.nq c7)) 41)).alloc (.cells zR 41)).heap[w.heap.size]?=some (.cells (kR d (.slice a0 d.m c0) (.slice a1 d.np c1) (.slice a2 d.nr c2) (.slice a3 d.nt c3) (.slice a4 d.nd c4) (.slice a5 d.mf c5) (.slice a6 d.ns c6) (.slice a7 d.nq c7)) 41 (0,0)):=A4 (Al w _ _) _
 have B1:((w.alloc (.cells (kR d (.slice a0 d.m c0) (.slice a1 d.np c1) (.slice a2 d.nr c2) (.slice a3 d.nt c3) (.slice a4 d.nd c4) (.slice a5 d.mf c5) (.slice a6 d.ns c6) (.slice a7 d.nq c7)) 41)).alloc (.cells zR 41)).heap[w.heap.size+1]?=some (.cells zR 41 (0,0)):=by simpa using Al (w.alloc (.cells (kR d (.slice a0 d.m c0) (.slice a1 d.np c1) (.slice a2 d.nr c2) (.slice a3 d.nt c3) (.slice a4 d.nd c4) (.slice a5 d.mf c5) (.slice a6 d.ns c6) (.slice a7 d.nq c7)) 41)) zR 41
 go_enter Tryz.func17,Tryz.ntmps17
 go_upto_region 1 with (fail);generalize (w.alloc (.cells (kR d (.slice a0 d.m c0) (.slice a1 d.np c1) (.slice a2 d.nr c2) (.slice a3 d.nt c3) (.slice a4 d.nd c4) (.slice a5 d.mf c5) (.slice a6 d.ns c6) (.slice a7 d.nq c7)) 41)).alloc (.cells zR 41)=W0 at *
 obtain ⟨p0,hp0⟩:∃ p,Hid (p=W0.heap.size):=⟨_,rfl⟩
 have l0:w.heap.size+1<p0:=by rw [hp0.out]; exact Ae B1
 have c0':=Aj B0;go_wp2_with fail;clear c0';refine (Uu _ _ _ d.m d.ln d.f (H0.keep (Ab L0 Ak) (fun _ _ _ x=>x))).mono ?_;rintro e W1 ⟨v0,ob0,iv0,ov0,rfl,G0',L⟩
 obtain ⟨p1,hp1⟩:∃ p,Hid (p=W1.heap.size):=⟨_,rfl⟩
 have l1:p0≤p1:=by rw [hp0.out,hp1.out]; exact L.size
 have G0:Cg W1 (fun b=>p0≤b∧b<p1) v0 d.m d.ln d.f:=G0'.onD (fun b hb=>by
  rw [hp0.out,hp1.out]
  rcases hb with hb | ⟨i,hi,hb⟩
  ·exact Cl G0'.own hb
  ·have h3:=G0'.rows i hi
   rw [hb] at h3
   exact h3.lt) hps0
 clear G0';replace L0:=Ah L0 L;replace B0:=Aa B0 L (Ae B0);replace B1:=Aa B1 L (Ae B1);clear L hp0;obtain ⟨x0,y0,rfl⟩:=G0.form;have c0':=Aj B0;have f0':=Ar B0;go_upto_region 2 with (fail);clear c0' f0';have TT:=Wrote.setCell (b:=w.heap.size) (o:=0) (R:=fun b _=>b=w.heap.size) (Wrote.refl _ W1) (fun _=>rfl) (.slice x0 d.m y0);replace L0:=L0.trans (TT.below L0.size (fun b o hb (h:b=_)=>by omega));replace B1:=Ag B1 TT (fun o (h:_=_)=>by omega);replace B0:=Ai (o:=0) B0 (.slice x0 d.m y0);simp only [List.setIfInBounds_toArray,List.set_cons_succ,List.set_cons_zero] at B0;replace G0:=G0.keep TT (fun b o hb _ (h:b=_)=>by obtain ⟨h1,h2⟩:=hb; omega)
 replace hp1:Hid (p1=(W1.setCell ⟨w.heap.size,0,none⟩ (.slice x0 d.m y0)).heap.size):=by show _=_; rw [hp1.out]; simp
 clear TT;generalize W1.setCell ⟨w.heap.size,0,none⟩ (.slice x0 d.m y0)=W2 at *;have c0':=Aj B0;go_wp2_with fail;clear c0';refine (Fq _ _ _ d.np d.p (H1.keep (Ab L0 Ak) (fun _ _ _ x=>x))).mono ?_;rintro e W3 ⟨v1,o1,rfl,G1',L⟩
 obtain ⟨p2,hp2⟩:∃ p,Hid (p=W3.heap.size):=⟨_,rfl⟩
 have l2:p1≤p2:=by rw [hp1.out,hp2.out]; exact L.size
 have G1:Bl W3 (fun b=>p1≤b∧b<p2) v1 d.np d.p:=G1'.listOn (fun b hb=>by subst hb; rw [hp1.out,hp2.out]; exact G1'.lt);clear G1';replace L0:=Ah L0 L;replace B0:=Aa B0 L (Ae B0);replace B1:=Aa B1 L (Ae B1);replace G0:=G0.below L;clear L hp1;obtain ⟨x1,y1,e1,-⟩:=id G1;subst e1;have c0':=Aj B0;have f0':=Ar B0;go_upto_region 3 with (fail);clear c0' f0';have TT:=Wrote.setCell (b:=w.heap.size) (o:=1) (R:=fun b _=>b=w.heap.size) (Wrote.refl _ W3) (fun _=>rfl) (.slice x1 d.np y1);replace L0:=L0.trans (TT.below L0.size (fun b o hb (h:b=_)=>by omega));replace B1:=Ag B1 TT (fun o (h:_=_)=>by omega);replace B0:=Ai (o:=1) B0 (.slice x1 d.np y1);simp only [List.setIfInBounds_toArray,List.set_cons_succ,List.set_cons_zero] at B0
 replace G0:=G0.keep TT (fun b o hb _ (h:b=_)=>by obtain ⟨h1,h2⟩:=hb; omega);replace G1:=G1.keep TT (fun b o hb _ (h:b=_)=>by obtain ⟨h1,h2⟩:=hb; omega)
 replace hp2:Hid (p2=(W3.setCell ⟨w.heap.size,1,none⟩ (.slice x1 d.np y1)).heap.size):=by show _=_; rw [hp2.out]; simp
 clear TT;generalize W3.setCell ⟨w.heap.size,1,none⟩ (.slice x1 d.np y1)=W4 at *;have c0':=Aj B0;go_wp2_with fail;clear c0';refine (Sv _ _ _ d.nr d.g d.bank (H2.keep (Ab L0 Ak) (fun _ _ _ x=>x))).mono ?_;rintro e W5 ⟨v2,rfl,G2,L⟩
 obtain ⟨p3,hp3⟩:∃ p,Hid (p=W5.heap.size):=⟨_,rfl⟩
 have l3:p2≤p3:=by rw [hp2.out,hp3.out]; exact L.size
 replace G2:=(Bn.own (bank:=d.bank) G2).mono (E:=fun b=>p2≤b∧b<p3) (fun b hb h=>⟨by rw [hp2.out]; exact h,by rw [hp3.out]; exact hb⟩);replace L0:=Ah L0 L;replace B0:=Aa B0 L (Ae B0);replace B1:=Aa B1 L (Ae B1);replace G0:=G0.below L;replace G1:=G1.below L;clear L hp2;obtain ⟨x2,y2,hx2⟩:=G2.two;simp only [Value.agg.injEq,Array.mk.injEq,List.cons.injEq,and_true] at hx2;subst hx2;have c0':=Aj B0;have f0':=Ar B0;go_upto_region 4 with (fail);clear c0' f0';have TT:=Wrote.setCell (b:=w.heap.size) (o:=3) (R:=fun b _=>b=w.heap.size) (Wrote.setCell (b:=w.heap.size) (o:=2) (R:=fun b _=>b=w.heap.size) (Wrote.refl _ W5) (fun _=>rfl) (.slice x2 d.nr y2)) (fun _=>rfl) (.i d.bank);replace L0:=L0.trans (TT.below L0.size (fun b o hb (h:b=_)=>by omega))
 replace B1:=Ag B1 TT (fun o (h:_=_)=>by omega);replace B0:=Ai (o:=2) B0 (.slice x2 d.nr y2);replace B0:=Ai (o:=3) B0 (.i d.bank);simp only [List.setIfInBounds_toArray,List.set_cons_succ,List.set_cons_zero] at B0;replace G0:=G0.keep TT (fun b o hb _ (h:b=_)=>by obtain ⟨h1,h2⟩:=hb; omega);replace G1:=G1.keep TT (fun b o hb _ (h:b=_)=>by obtain ⟨h1,h2⟩:=hb; omega);replace G2:=G2.keep TT (fun b o hb _ (h:b=_)=>by obtain ⟨h1,h2⟩:=hb; omega)
 replace hp3:Hid (p3=((W5.setCell ⟨w.heap.size,2,none⟩ (.slice x2 d.nr y2)).setCell ⟨w.heap.size,3,none⟩ (.i d.bank)).heap.size):=by show _=_; rw [hp3.out]; simp
 clear TT;generalize (W5.setCell ⟨w.heap.size,2,none⟩ (.slice x2 d.nr y2)).setCell ⟨w.heap.size,3,none⟩ (.i d.bank)=W6 at *;have c0':=Aj B0;go_wp2_with fail;clear c0';refine (Oj _ _ _ d.t d.c d.s d.ad d.pl d.bl _ _ d.nt d.tb d.nd d.dt (H3.keep (Ab L0 Ak) (fun _ _ _ x=>x)) (H4.keep (Ab L0 Ak) (fun _ _ _ x=>x))).mono ?_;rintro e W7 ⟨v3,v4,o3,o4,rfl,R3,R4,n34,L⟩;obtain ⟨x3,y3,e3⟩:=R3.form;obtain ⟨x4,y4,e4⟩:=R4.form;subst e3;subst e4
 obtain ⟨p4,hp4⟩:∃ p,Hid (p=W7.heap.size):=⟨_,rfl⟩
 have l4:p3≤p4:=by rw [hp3.out,hp4.out]; exact L.size
 have G3:Cn W7 w.heap.size (fun b=>p3≤b∧b<p4) (.agg (pR d.t d.c d.s d.ad d.pl d.bl (.slice x3 d.nt y3) (.slice x4 d.nd y4))) d.t d.c d.s d.ad d.pl d.bl d.nt d.tb d.nd d.dt:=((Gs R3 R4 n34 (Nat.le_refl _)).mono (fun b hb h=>⟨by rw [hp3.out]; exact h,by rw [hp4.out]; exact hb⟩)).lower L0.size;clear R3 R4 n34;replace L0:=Ah L0 L;replace B0:=Aa B0 L (Ae B0);replace B1:=Aa B1 L (Ae B1);replace G0:=G0.below L;replace G1:=G1.below L;replace G2:=G2.below L;clear L hp3;have c0':=Aj B0;have f0':=Ar B0;go_upto_region 5 with (fail);clear c0' f0'
 have TT:=Wrote.setCell (b:=w.heap.size) (o:=19) (R:=fun b _=>b=w.heap.size) (Wrote.setCell (b:=w.heap.size) (o:=18) (R:=fun b _=>b=w.heap.size) (Wrote.setCell (b:=w.heap.size) (o:=17) (R:=fun b _=>b=w.heap.size) (Wrote.setCell (b:=w.heap.size) (o:=16) (R:=fun b _=>b=w.heap.size) (Wrote.setCell (b:=w.heap.size) (o:=15) (R:=fun b _=>b=w.heap.size) (Wrote.setCell (b:=w.heap.size) (o:=14) (R:=fun b _=>b=w.heap.size) (Wrote.setCell (b:=w.heap.size) (o:=13) (R:=fun b _=>b=w.heap.size) (Wrote.setCell (b:=w.heap.size) (o:=12) (R:=fun b _=>b=w.heap.size) (Wrote.refl _ W7) (fun _=>rfl) (.i d.t)) (fun _=>rfl) (.i d.c)) (fun _=>rfl) (.i d.s)) (fun _=>rfl) (.i d.ad)) (fun _=>rfl) (.i d.pl)) (fun _=>rfl) (.bool d.bl)) (fun _=>rfl) (.slice x3 d.nt y3)) (fun _=>rfl) (.slice x4 d.nd y4)
 replace L0:=L0.trans (TT.below L0.size (fun b o hb (h:b=_)=>by omega));replace B1:=Ag B1 TT (fun o (h:_=_)=>by omega);replace B0:=Ai (o:=12) B0 (.i d.t);replace B0:=Ai (o:=13) B0 (.i d.c);replace B0:=Ai (o:=14) B0 (.i d.s);replace B0:=Ai (o:=15) B0 (.i d.ad);replace B0:=Ai (o:=16) B0 (.i d.pl);replace B0:=Ai (o:=17) B0 (.bool d.bl);replace B0:=Ai (o:=18) B0 (.slice x3 d.nt y3);replace B0:=Ai (o:=19) B0 (.slice x4 d.nd y4);simp only [List.setIfInBounds_toArray,List.set_cons_succ,List.set_cons_zero] at B0;replace G0:=G0.keep TT (fun b o hb _ (h:b=_)=>by obtain ⟨h1,h2⟩:=hb; omega);replace G1:=G1.keep TT (fun b o hb _ (h:b=_)=>by obtain ⟨h1,h2⟩:=hb; omega);replace G2:=G2.keep TT (fun b o hb _ (h:b=_)=>by obtain ⟨h1,h2⟩:=hb; omega)
 replace G3:=G3.keep TT (fun b o hb _ (h:b=_)=>by obtain ⟨h1,h2⟩:=hb; omega)
 replace hp4:Hid (p4=((((((((W7.setCell ⟨w.heap.size,12,none⟩ (.i d.t)).setCell ⟨w.heap.size,13,none⟩ (.i d.c)).setCell ⟨w.heap.size,14,none⟩ (.i d.s)).setCell ⟨w.heap.size,15,none⟩ (.i d.ad)).setCell ⟨w.heap.size,16,none⟩ (.i d.pl)).setCell ⟨w.heap.size,17,none⟩ (.bool d.bl)).setCell ⟨w.heap.size,18,none⟩ (.slice x3 d.nt y3)).setCell ⟨w.heap.size,19,none⟩ (.slice x4 d.nd y4)).heap.size):=by show _=_; rw [hp4.out]; simp
 clear TT;generalize (((((((W7.setCell ⟨w.heap.size,12,none⟩ (.i d.t)).setCell ⟨w.heap.size,13,none⟩ (.i d.c)).setCell ⟨w.heap.size,14,none⟩ (.i d.s)).setCell ⟨w.heap.size,15,none⟩ (.i d.ad)).setCell ⟨w.heap.size,16,none⟩ (.i d.pl)).setCell ⟨w.heap.size,17,none⟩ (.bool d.bl)).setCell ⟨w.heap.size,18,none⟩ (.slice x3 d.nt y3)).setCell ⟨w.heap.size,19,none⟩ (.slice x4 d.nd y4)=W8 at *;have c0':=Aj B0;go_wp2_with fail;clear c0';refine (Yv _ _ _ _ _ _ _ d.mf d.lf d.fr d.ns d.sm d.nq d.rd (H5.keep (Ab L0 Ak) (fun _ _ _ x=>x)) (H6.keep (Ab L0 Ak) (fun _ _ _ x=>x)) (H7.keep (Ab L0 Ak) (fun _ _ _ x=>x))).mono ?_;rintro e W9 ⟨v5,v6,v7,rfl,⟨ob,iv,ov,o6,o7,G5,G6,G7,lo,hi,hb5,hb6,hb7,hbd,hdj⟩,L⟩;obtain ⟨x5,y5,e5⟩:=G5.form;obtain ⟨x6,y6,e6⟩:=G6.form;obtain ⟨x7,y7,e7⟩:=G7.form;subst e5;subst e6
 subst e7;have hB0:=hbd 0 (by decide);have hB1:=hbd 1 (by decide);have hB2:=hbd 2 (by decide);have hd01:=hdj 0 1 (by decide) (by decide) (by decide);have hd02:=hdj 0 2 (by decide) (by decide) (by decide);have hd12:=hdj 1 2 (by decide) (by decide) (by decide);clear hbd hdj;rw [← hp4.out] at hB0 hB1 hB2 G5 G6 G7;have HD5:=Ac hb5;have HD6:=Ac hb6;have HD7:=Ac hb7;clear hb5 hb6 hb7
 obtain ⟨p5,hp5⟩:∃ p,Hid (p=W9.heap.size):=⟨_,rfl⟩
 have l5:p4≤p5:=by rw [hp4.out,hp5.out]; exact L.size
 rw [← hp5.out] at hB0 hB1 hB2;replace L0:=Ah L0 L;replace B0:=Aa B0 L (Ae B0);replace B1:=Aa B1 L (Ae B1);replace G0:=G0.below L;replace G1:=G1.below L;replace G2:=G2.below L;replace G3:=G3.below L;clear L hp4;have c0':=Aj B0;have f0':=Ar B0;go_upto_region 6 with (fail);clear c0' f0';have TT:=Wrote.setCell (b:=w.heap.size) (o:=33) (R:=fun b _=>b=w.heap.size) (Wrote.setCell (b:=w.heap.size) (o:=32) (R:=fun b _=>b=w.heap.size) (Wrote.setCell (b:=w.heap.size) (o:=31) (R:=fun b _=>b=w.heap.size) (Wrote.refl _ W9) (fun _=>rfl) (.slice x5 d.mf y5)) (fun _=>rfl) (.slice x6 d.ns y6)) (fun _=>rfl) (.slice x7 d.nq y7);replace L0:=L0.trans (TT.below L0.size (fun b o hb (h:b=_)=>by omega));replace B1:=Ag B1 TT (fun o (h:_=_)=>by omega);replace B0:=Ai (o:=31) B0 (.slice x5 d.mf y5)
 replace B0:=Ai (o:=32) B0 (.slice x6 d.ns y6);replace B0:=Ai (o:=33) B0 (.slice x7 d.nq y7);simp only [List.setIfInBounds_toArray,List.set_cons_succ,List.set_cons_zero] at B0;replace G0:=G0.keep TT (fun b o hb _ (h:b=_)=>by obtain ⟨h1,h2⟩:=hb; omega);replace G1:=G1.keep TT (fun b o hb _ (h:b=_)=>by obtain ⟨h1,h2⟩:=hb; omega);replace G2:=G2.keep TT (fun b o hb _ (h:b=_)=>by obtain ⟨h1,h2⟩:=hb; omega);replace G3:=G3.keep TT (fun b o hb _ (h:b=_)=>by obtain ⟨h1,h2⟩:=hb; omega);replace G5:=G5.keep TT (fun g o hg (h:g=_)=>by have:=Cl G5.own hg; omega) (fun i b o hi hb (h:b=_)=>by have h3:=G5.rows i hi; rw [hb] at h3; have:=h3.lt.1; omega);replace G6:=G6.keep TT (fun b hb h3 _ k (h:b=_)=>by omega);replace G7:=G7.keep TT (fun b hb h3 _ k (h:b=_)=>by omega)
 replace hp5:Hid (p5=(((W9.setCell ⟨w.heap.size,31,none⟩ (.slice x5 d.mf y5)).setCell ⟨w.heap.size,32,none⟩ (.slice x6 d.ns y6)).setCell ⟨w.heap.size,33,none⟩ (.slice x7 d.nq y7)).heap.size):=by show _=_; rw [hp5.out]; simp
 clear TT;generalize ((W9.setCell ⟨w.heap.size,31,none⟩ (.slice x5 d.mf y5)).setCell ⟨w.heap.size,32,none⟩ (.slice x6 d.ns y6)).setCell ⟨w.heap.size,33,none⟩ (.slice x7 d.nq y7)=W10 at *;have HR:=Ac (And.intro G0 (And.intro G1 (And.intro G2 (And.intro G3 (And.intro G5 (And.intro G6 G7))))));have HX:=Ac (And.intro hB0 (And.intro hB1 (And.intro hB2 (And.intro hd01 (And.intro hd02 hd12)))));have HL:=Ac (And.intro l0 (And.intro l1 (And.intro l2 (And.intro l3 (And.intro l4 l5)))));clear G0 G1 G2 G3 G5 G6 G7 hB0 hB1 hB2 hd01 hd02 hd12 l0 l1 l2 l3 l4 l5 H0 H1 H2 H3 H4 H5 H6 H7;rename_i K2 hK2;refine wp_region_lit ?_;refine wpList_load_row rfl _ _ rfl w.heap.size rfl _ _ _ _ B0 Tryz.underlying41 rfl Af ?_;refine wpList_store_row rfl _ _ _ rfl (w.heap.size+1) _ rfl rfl _ _ B1 Af rfl (by first | kernel_rfl | simp [Value.oneCell']) ?_;refine hK2 _ _ ?_
 have B3:=setRow_heap _ _ _ (kR d (.slice x0 d.m y0) (.slice x1 d.np y1) (.slice x2 d.nr y2) (.slice x3 d.nt y3) (.slice x4 d.nd y4) (.slice x5 d.mf y5) (.slice x6 d.ns y6) (.slice x7 d.nq y7)) _ _ B1;have WW:=An B1 (kR d (.slice x0 d.m y0) (.slice x1 d.np y1) (.slice x2 d.nr y2) (.slice x3 d.nt y3) (.slice x4 d.nd y4) (.slice x5 d.mf y5) (.slice x6 d.ns y6) (.slice x7 d.nq y7));clear B0 B1;go_wp2;refine bodyPost_ret (v:=.agg (kR d (.slice x0 d.m y0) (.slice x1 d.np y1) (.slice x2 d.nr y2) (.slice x3 d.nt y3) (.slice x4 d.nd y4) (.slice x5 d.mf y5) (.slice x6 d.ns y6) (.slice x7 d.nq y7))) (results_cell_row (by rfl) _ _ (w.heap.size+1) _ _ _ _ rfl B3 Tryz.underlying41 rfl Af) rfl ?_;have hW9:=WW.size;have hp5':=hp5.out
 generalize W10.setRow (w.heap.size+1) (kR d (.slice x0 d.m y0) (.slice x1 d.np y1) (.slice x2 d.nr y2) (.slice x3 d.nt y3) (.slice x4 d.nd y4) (.slice x5 d.mf y5) (.slice x6 d.ns y6) (.slice x7 d.nq y7))=W11 at *;obtain ⟨G0,G1,G2,G3,G5,G6,G7⟩:=HR.out;obtain ⟨⟨x00,x01⟩,⟨x10,x11⟩,⟨x20,x21⟩,hd01,hd02,hd12⟩:=HX.out;obtain ⟨l0,l1,l2,l3,l4,l5⟩:=HL.out
 refine ⟨_,rfl,⟨fun i b=>(i=0∧p0≤b∧b<p1)∨(i=1∧p1≤b∧b<p2)∨(i=2∧p2≤b∧b<p3)∨(i=3∧p3≤b∧b<p4)∨(i=4∧lo 0≤b∧b<hi 0)∨(i=5∧lo 1≤b∧b<hi 1)∨(i=6∧lo 2≤b∧b<hi 2),
  _,_,_,_,_,_,_,_,ob,iv,ov,o6,o7,rfl,
  (G0.keep WW (fun b o hb _ (h:b=_)=>by obtain ⟨h1,h2⟩:=hb; omega)).mono (fun b _ h=>Or.inl ⟨rfl,h⟩),
  (G1.keep WW (fun b o hb _ (h:b=_)=>by obtain ⟨h1,h2⟩:=hb; omega)).mono (fun b _ h=>Or.inr (Or.inl ⟨rfl,h⟩)),
  (G2.keep WW (fun b o hb _ (h:b=_)=>by obtain ⟨h1,h2⟩:=hb; omega)).mono (fun b _ h=>Or.inr (Or.inr (Or.inl ⟨rfl,h⟩))),
  (G3.keep WW (fun b o hb _ (h:b=_)=>by obtain ⟨h1,h2⟩:=hb; omega)).mono (fun b _ h=>Or.inr (Or.inr (Or.inr (Or.inl ⟨rfl,h⟩)))),
  (G5.keep WW (fun g o hg (h:g=_)=>by have:=Cl G5.own hg; omega) (fun i b o hi hb (h:b=_)=>by have h3:=G5.rows i hi; rw [hb] at h3; have:=h3.lt.1; omega)).mono (by omega),
  fun b hb=>Or.inr (Or.inr (Or.inr (Or.inr (Or.inl ⟨rfl,HD5.out b hb⟩)))),
  (G6.keep WW (fun b hb h3 _ k (h:b=_)=>by omega)).mono (by omega),fun b hb=>Or.inr (Or.inr (Or.inr (Or.inr (Or.inr (Or.inl ⟨rfl,HD6.out b hb⟩))))),
  (G7.keep WW (fun b hb h3 _ k (h:b=_)=>by omega)).mono (by omega),fun b hb=>Or.inr (Or.inr (Or.inr (Or.inr (Or.inr (Or.inr ⟨rfl,HD7.out b hb⟩))))),?_,?_,Nat.le_refl _,hps⟩,L0.trans (WW.below L0.size (fun b o hb (h:b=_)=>by omega))⟩
 ·clear HR HX HL HD5 HD6 HD7 G0 G1 G2 G3 G5 G6 G7
  intro i j b h1 h2
  rcases h1 with ⟨rfl,_,_⟩ | ⟨rfl,_,_⟩ | ⟨rfl,_,_⟩ | ⟨rfl,_,_⟩ | ⟨rfl,_,_⟩ | ⟨rfl,_,_⟩ | ⟨rfl,_,_⟩ <;> rcases h2 with ⟨rfl,_,_⟩ | ⟨rfl,_,_⟩ | ⟨rfl,_,_⟩ | ⟨rfl,_,_⟩ | ⟨rfl,_,_⟩ | ⟨rfl,_,_⟩ | ⟨rfl,_,_⟩ <;> first | rfl | omega
 ·clear HR HX HL HD5 HD6 HD7 G0 G1 G2 G3 G5 G6 G7
  intro i b h
  rcases h with ⟨rfl,_,_⟩ | ⟨rfl,_,_⟩ | ⟨rfl,_,_⟩ | ⟨rfl,_,_⟩ | ⟨rfl,_,_⟩ | ⟨rfl,_,_⟩ | ⟨rfl,_,_⟩ <;> omega
end Go.Proofs.YtjnjnppongdhgaaGreat
