import Derived.Test.YtfjieibndedngaaGreatYB
namespace Go.Proofs.YtfjieibndedngaaGreat
set_option maxHeartbeats 8000000
set_option maxRecDepth 40000
set_option linter.unusedVariables false
set_option linter.unusedSimpArgs false
open Go.ChangeShapes Go.WideShapes Go.ChangeAt Go.RowKit Go.Sort
theorem A7:(Tryz.prog.info? 27).map (·.size)=some 3:=by kernel_rfl
theorem Vd {cs:Array Value} {o:Nat} {v0 v1 v2:Value} (h0:cs[o]?=some v0) (h1:cs[o+1]?=some v1) (h2:cs[o+2]?=some v2):∀ (j:Nat) (x:Value),#[v0,v1,v2][j]?=some x→cs[o+j]?=some x:=fun j x hx=>by
 rcases j with _ | _ | _ | j
 ·exact h0.trans hx
 ·exact h1.trans hx
 ·exact h2.trans hx
 ·simp at hx
theorem Kk {P:Program} {ops:Array Oper} {C:World→Prop} {Q:Exit→Act→World→Prop} {z f:Nat} (i j:Nat) {oi oj:Oper} {l:Array Bool} {a:Act} {w:World} (hi:ops[i]?=some oi) (hj:ops[j]?=some oj) (hB:(Region.ready .any ops l==[i,j] && (oi.guard.isNone && oj.guard.isNone))=true)
  (h1:oi.wp P a w (fun a' w'=>(Ua ops z (l.setIfInBounds i true)→C w')∧Cj P ops z C Q f (l.setIfInBounds i true) a' w') Q) (h2:oj.wp P a w (fun a' w'=>(Ua ops z (l.setIfInBounds j true)→C w')∧Cj P ops z C Q f (l.setIfInBounds j true) a' w') Q):Cj P ops z C Q (f+1) l a w:=by
 simp only [Bool.and_eq_true,beq_iff_eq] at hB;refine ⟨fun h0=>(by rw [hB.1] at h0; cases h0),fun k hk=>?_⟩;rw [hB.1] at hk;simp only [List.mem_cons,List.not_mem_nil,or_false] at hk
 rcases hk with rfl | rfl
 ·exact E4 hi (by simpa using hB.2.1) h1
 ·exact E4 hj (by simpa using hB.2.2) h2
section
variable {W W':World} {p N:Nat} {v x y z:Value} {cs:Array Value} {d:Am} {o:Qk}
theorem Ds.one (h:Ds W p N (.agg #[x,y,z]) o):(#[x,y,z]:Array Value).all (·.oneCell')=true:=by
 obtain ⟨E,⟨u5,u6,u7,e,h5,h6,h7⟩,-⟩:=h
 obtain ⟨rfl,rfl,rfl⟩:x=u5∧y=u6∧z=u7:=by simpa using e
 obtain ⟨a,b,rfl⟩:=h5.form;obtain ⟨a',b',rfl⟩:=h6.two;obtain ⟨a'',b'',rfl⟩:=h7.two
 simp [Value.oneCell']
theorem Be.ob (h:Be W p N (.agg cs) d):∃ x y z,cs[31]?=some x∧cs[32]?=some y∧cs[33]?=some z∧Ds W p N (.agg #[x,y,z]) ⟨d.mf,d.lf,d.fr,d.ns,d.sm,d.nq,d.rd⟩:=by
 obtain ⟨x,y,z,E,h1,h2,h3,h4,h5⟩:=h.obs;exact ⟨x,y,z,h1,h2,h3,E,h4,h5⟩
theorem Ds.mono {p2 N2:Nat} (h:Ds W p N v o) (h1:p2≤p) (h2:N≤N2):Ds W p2 N2 v o:=by
 obtain ⟨E,h,hb⟩:=h;exact ⟨E,h,fun i b hi=>⟨Nat.le_trans h1 (hb i b hi).1,Nat.lt_of_lt_of_le (hb i b hi).2 h2⟩⟩
theorem Be.obAt (h:Be W p N (.agg cs) d) {x y z:Value} (h1:cs[31]?=some x) (h2:cs[32]?=some y) (h3:cs[33]?=some z):Ds W p N (.agg #[x,y,z]) ⟨d.mf,d.lf,d.fr,d.ns,d.sm,d.nq,d.rd⟩:=by
 obtain ⟨x',y',z',k1,k2,k3,k⟩:=h.ob;obtain rfl:=Option.some.inj (h1.symm.trans k1);obtain rfl:=Option.some.inj (h2.symm.trans k2);obtain rfl:=Option.some.inj (h3.symm.trans k3);exact k
theorem Be.samp0 (h:Be W p N (.agg cs) d) {x y z:Value} (h1:cs[31]?=some x) (h2:cs[32]?=some y) (h3:cs[33]?=some z):(y=.slice none 0 0∧d.ns=0)∨∃ g c,y=.slice (some ⟨g,0,none⟩) d.ns c∧(0<d.ns→p≤g∧g<N∧g<W.heap.size∧W.cell? ⟨g,0,none⟩=some (.i (d.sm 0))∧W.frozen? ⟨g,0,none⟩=false∧∀ k,∃ o,Ds (W.setCell ⟨g,0,none⟩ (.i k)) p N (.agg #[x,y,z]) o):=by
 rcases h with ⟨e,rfl⟩ | ⟨q,E,u0,u1,u2,u3,u4,ov,gb,cp,g6,c6,g7,c7,hq,e,HP⟩
 ·obtain rfl:=Value.agg.inj e
  exact Or.inl ⟨by simpa [zero34] using h2.symm,rfl⟩
 ·obtain rfl:=Value.agg.inj e
  obtain rfl:Value.slice (some ⟨g6,0,none⟩) d.ns c6=y:=by simpa [rowL] using h2
  obtain rfl:ov=x:=by simpa [rowL] using h1
  obtain rfl:Value.slice (some ⟨g7,0,none⟩) d.nq c7=z:=by simpa [rowL] using h3
  refine Or.inr ⟨g6,c6,rfl,fun hn=>?_⟩;have P6:=HP.h6.parts;have n6:=HP.n6;obtain ⟨cur,hc⟩:=P6.2.2.2;exact ⟨by omega,n6,P6.2.1,by rw [HP.h6.own.cellAt 0 (by omega),B4 _ _ 0 hn],Ax hc 0,fun k=>⟨_,E,HP.obs0 hn k,fun i b hb=>by have:=HP.bd i b hb; omega⟩⟩
theorem Be.dot1 (h:Be W p N (.agg cs) d) (hlf:∀ i,i<d.mf→d.lf i=48) {x y z:Value} (h1:cs[31]?=some x) (h2:cs[32]?=some y) (h3:cs[33]?=some z):(x=.slice none 0 0∧d.mf=0)∨∃ a c,x=.slice a d.mf c∧(0<d.mf→∃ b g c',a=some ⟨b,0,none⟩∧b<W.heap.size∧W.cell? ⟨b,0,none⟩=some (.slice (some ⟨g,0,none⟩) 48 c')∧p≤g∧g<N∧g<W.heap.size∧W.cell? ⟨g,1,none⟩=some (.i (d.fr 0 1))∧W.frozen? ⟨g,1,none⟩=false∧∀ k,∃ o,Ds (W.setCell ⟨g,1,none⟩ (.i k)) p N (.agg #[x,y,z]) o):=by
 rcases h with ⟨e,rfl⟩ | ⟨q,E,u0,u1,u2,u3,u4,ov,gb,cp,g6,c6,g7,c7,hq,e,HP⟩
 ·obtain rfl:=Value.agg.inj e
  exact Or.inl ⟨by simpa [zero34] using h1.symm,rfl⟩
 ·obtain rfl:=Value.agg.inj e
  obtain rfl:Value.slice (some ⟨g6,0,none⟩) d.ns c6=y:=by simpa [rowL] using h2
  obtain rfl:ov=x:=by simpa [rowL] using h1
  obtain rfl:Value.slice (some ⟨g7,0,none⟩) d.nq c7=z:=by simpa [rowL] using h3
  obtain ⟨a,c,rfl⟩:=HP.h4.form;refine Or.inr ⟨a,c,rfl,fun hn=>?_⟩
  rcases HP.h4.own.2 with ⟨e,-⟩ | ⟨b,c2,cur,e,hb,hk,-⟩
  ·have e2:d.mf=0:=by simp only [Value.slice.injEq] at e; exact e.2.1
   omega
  obtain ⟨rfl,rfl⟩:a=some ⟨b,0,none⟩∧c=c2:=by simpa using e
  have hl:=hlf 0 hn;have R:=HP.h4.rows 0 hn;have R1:=R.parts;obtain ⟨cu2,hk2⟩:=R1.2.2.2;have hD:=HP.bd 4 _ (HP.h4D (gb 0) (Or.inr ⟨0,hn,rfl⟩));refine ⟨b,gb 0,cp 0,rfl,Af hk,?_,by omega,hD.2,R1.2.1,?_,Ax hk2 1,fun k=>⟨_,E,HP.obs1 hn (by omega) k,fun i b hb=>by have:=HP.bd i b hb; omega⟩⟩
  ·rw [HP.h4.own.cellAt 0 (by omega)]
   simp [Io,hn,hl]
  ·rw [R.own.cellAt 1 (by omega),B4 _ _ 1 (by omega)]
end
theorem Qm (w:World) (B c:Nat) (a:Option Addr) (len cap:Nat) (H:Dc w B c a len cap) (hB:B≤w.heap.size) :
  Calls Tryz.prog 13 #[(pt c 0)] w fun e w'=>∃ va vb,e=.returned (.tuple #[va,vb])∧(∃ A A' p N,Ds w' p N va A∧Ds w' p N vb A'∧w.heap.size≤p∧N≤w'.heap.size)∧Dc w' B c a len cap∧Step c w w':=by
 have K:=((Dt.start H hB).alloc oZ 27 w.heap.size rfl).alloc oZ 27 (w.heap.size+1) (by simp)
 go_enter Tryz.func13,Tryz.ntmps13
 go_upto_region 1 with (fail);generalize (w.alloc (.cells oZ 27)).alloc (.cells oZ 27)=W0 at *;rename_i K3 hK3;refine wp_region_lit ?_
 (refine wpList_plain rfl (fun K9 hK9=>?_); go_simp; refine hK9 _ _ ?_; clear hK9)
 refine Ap rfl _ _ (by kernel_rfl) (Hz _ B c a len cap K.cur) ?_;rintro e W1 ⟨v1,d,rfl,T,hF,H1,S1⟩;refine ⟨_,rfl,?_⟩;replace K:=K.set1 S1 H1 (P2:=fun W=>Be W W0.heap.size W1.heap.size v1 d) Be.stays T.y;have hp12:W0.heap.size≤W1.heap.size:=S1.size;clear S1 H1 T;generalize W0.heap.size=p1 at *
 obtain ⟨p2,hp2⟩:∃ n,Hid (n=W1.heap.size):=⟨_,rfl⟩
 rw [← hp2.out] at K hp12;have HP12:=Ad hp12;clear hp12 hp2;obtain ⟨E0,KE,-⟩:=K.y.on;obtain ⟨co,rfl,hco,ho1⟩:=KE.agg;clear KE E0
 (refine wpList_plain rfl (fun K9 hK9=>?_); go_simp; refine hK9 _ _ ?_; clear hK9)
 replace K:=K.alloc zR 44 _ rfl;generalize W1.heap.size=bl at *;generalize W1.alloc (.cells zR 44)=W2a at *;refine wpList_store_row rfl _ _ _ rfl (bl) co rfl rfl _ _ (K.ret 2 rfl) (infoAt Ae hco) (hco.symm) ho1 ?_;replace K:=K.row 2 rfl co;generalize W2a.setRow bl co=W2 at *;refine hK3 _ _ ?_;clear hK3;obtain ⟨x,y,z,hx,hy,hz,HO⟩:=K.y.ob;go_upto_region 2 with (fail);rename_i K3 hK3;refine wp_region_lit ?_
 (refine wpList_plain rfl (fun K9 hK9=>?_); go_simp; refine hK9 _ _ ?_; clear hK9)
 refine A4 rfl _ _ rfl bl 31 rfl _ _ #[x,y,z] _ _ (K.ret 2 rfl) (Vd hx hy hz) Tryz.underlying27 rfl A7 ?_;have hone:=HO.one;clear HO
 (refine wpList_plain rfl (fun K9 hK9=>?_); go_simp; refine hK9 _ _ ?_; clear hK9)
 replace K:=K.alloc oZ 27 _ rfl;generalize W2.heap.size=ba at *;generalize W2.alloc (.cells oZ 27)=W3a at *;refine wpList_store_row rfl _ _ _ rfl (ba) #[x,y,z] rfl rfl _ _ (K.ret 3 rfl) A7 (rfl) hone ?_;replace K:=K.row 3 rfl #[x,y,z];generalize W3a.setRow ba #[x,y,z]=W3 at *;refine hK3 _ _ ?_;clear hK3;have HC:=Ad hco;have HO1:=Ad hone;have HX:=Ad hx;have HY:=Ad hy;have HZ:=Ad hz;clear hco ho1 hone hx hy hz;go_upto_region 3 with (fail);simp only [Act.put,List.setIfInBounds_toArray,List.set_cons_succ,List.set_cons_zero]
 go_cut [6] (fun s WX=>∃ (bm p' N':Nat) (cm:Array Value) (dm:Am),s=(pt bm 0)∧cm.size=34∧p1≤p'∧Dt w B c a len cap p1 p2 p' N' (fun W=>Be W p1 p2 (.agg co) d) (fun W=>Be W p' N' (.agg cm) dm) WX [(w.heap.size,oZ,27),(w.heap.size+1,oZ,27),(bl,co,44),(ba,#[x,y,z],27),(bm,cm,44)])
 case first =>
  rename_i J Kq hJ hKq;refine Dm 10 (fun w'=>w'.heap[bl]?=some (.cells co 44 (0,0))) (by kernel_rfl) ?_;replace K:=K.redraw (W3.drawn+1);generalize redrawn W3 (W3.drawn+1)=W4 at *
  show Cj _ _ _ _ _ 10 _ _ _
  refine Bp 0 rfl (by kernel_rfl) (K.ret 2 rfl) (Br _ _ rfl rfl bl rfl _ co _ _ (fun w' h=>h) Tryz.underlying44 rfl (infoAt Ae HC.out)) ?_;refine Bh 1 rfl (by kernel_rfl) (K.ret 2 rfl) (C9 _ rfl rfl) ?_;refine Kk 2 7 rfl rfl (by kernel_rfl) ?_ ?_
  ·go_simp
   refine (Bw _ B c a len cap K.cur 30).mono ?_;rintro e W5 ⟨x0,rfl,x1,x2,H5,O5⟩;replace K:=K.move O5.step H5;clear H5 O5;refine ⟨fun _=>K.ret 2 rfl,?_⟩;refine Kk 3 7 rfl rfl (by kernel_rfl) ?_ ?_
   ·go_simp
    obtain ⟨E0,KE,-⟩:=K.y.on;refine (Fa _ _ _ d x0 800 KE (by omega) hF (by omega)).mono ?_;rintro e W8 ⟨v2,k,d2,rfl,T,F2,L⟩;have hpp:p1≤W5.heap.size:=Nat.le_trans HP12.out K.hN;replace K:=K.set2 (By L (Nat.le_refl _)) (K.cur.below L K.cur.lt) (P2:=fun W=>Be W W5.heap.size W8.heap.size v2 d2) Be.stays T.y;clear KE E0 L T F2;generalize W5.heap.size=p' at *
    obtain ⟨N',hN'⟩:∃ n,Hid (n=W8.heap.size):=⟨_,rfl⟩
    rw [← hN'.out] at K;clear hN';refine ⟨fun _=>K.ret 2 rfl,?_⟩;obtain ⟨E1,KE1,-⟩:=K.y'.on;obtain ⟨cm,rfl,hcm,hm1⟩:=KE1.agg;clear KE1 E1;refine Bh 4 rfl (by kernel_rfl) (K.ret 2 rfl) (C9 _ rfl rfl) ?_;refine Bh 5 rfl (by kernel_rfl) (K.ret 2 rfl) (Bq _ 0 rfl rfl rfl rfl) ?_;refine Bh 6 rfl (by kernel_rfl) (K.ret 2 rfl) (Bq _ 1 rfl rfl rfl rfl) ?_;refine A5 7 rfl (by kernel_rfl) ?_;go_simp;replace K:=K.alloc zR 44 _ rfl;generalize W8.heap.size=bm at *;generalize W8.alloc (.cells zR 44)=W9 at *;refine ⟨fun _=>K.ret 2 rfl,?_⟩;refine A5 8 rfl (by kernel_rfl) ?_;refine wp_store_row _ _ _ rfl bm cm rfl rfl _ _ (K.ret 4 rfl) (infoAt Ae hcm) (hcm.symm) hm1 ?_;replace K:=K.row 4 rfl cm;generalize W9.setRow bm cm=W10 at *;refine ⟨fun _=>K.ret 2 rfl,?_⟩
    refine A5 9 rfl (by kernel_rfl) ?_;go_simp;refine ⟨fun _=>K.ret 2 rfl,?_⟩;refine Cy (by kernel_rfl) ?_;refine hKq _ _ ?_
    go_meet
    exact ⟨bm,_,_,cm,d2,rfl,hcm,hpp,K⟩
   ·go_simp
    replace K:=K.alloc zR 44 _ rfl;generalize W5.heap.size=bm at *;generalize W5.alloc (.cells zR 44)=W6 at *;refine ⟨fun _=>K.ret 2 rfl,?_⟩;refine A5 3 rfl (by kernel_rfl) ?_;go_simp;obtain ⟨E0,KE,-⟩:=K.y.on;refine (Fa _ _ _ d x0 800 KE (by omega) hF (by omega)).mono ?_;rintro e W8 ⟨v2,k,d2,rfl,T,F2,L⟩;have hpp:p1≤W6.heap.size:=Nat.le_trans HP12.out K.hN;replace K:=K.set2 (By L (Nat.le_refl _)) (K.cur.below L K.cur.lt) (P2:=fun W=>Be W W6.heap.size W8.heap.size v2 d2) Be.stays T.y;clear KE E0 L T F2;generalize W6.heap.size=p' at *
    obtain ⟨N',hN'⟩:∃ n,Hid (n=W8.heap.size):=⟨_,rfl⟩
    rw [← hN'.out] at K;clear hN';refine ⟨fun _=>K.ret 2 rfl,?_⟩;obtain ⟨E1,KE1,-⟩:=K.y'.on;obtain ⟨cm,rfl,hcm,hm1⟩:=KE1.agg;clear KE1 E1;refine Bh 4 rfl (by kernel_rfl) (K.ret 2 rfl) (C9 _ rfl rfl) ?_;refine Bh 5 rfl (by kernel_rfl) (K.ret 2 rfl) (Bq _ 0 rfl rfl rfl rfl) ?_;refine Bh 6 rfl (by kernel_rfl) (K.ret 2 rfl) (Bq _ 1 rfl rfl rfl rfl) ?_;refine A5 8 rfl (by kernel_rfl) ?_;refine wp_store_row _ _ _ rfl bm cm rfl rfl _ _ (K.ret 4 rfl) (infoAt Ae hcm) (hcm.symm) hm1 ?_;replace K:=K.row 4 rfl cm;generalize W8.setRow bm cm=W10 at *;refine ⟨fun _=>K.ret 2 rfl,?_⟩;refine A5 9 rfl (by kernel_rfl) ?_;go_simp;refine ⟨fun _=>K.ret 2 rfl,?_⟩;refine Cy (by kernel_rfl) ?_;refine hKq _ _ ?_
    go_meet
    exact ⟨bm,_,_,cm,d2,rfl,hcm,hpp,K⟩
  ·go_simp
   replace K:=K.alloc zR 44 _ rfl;generalize W4.heap.size=bm at *;generalize W4.alloc (.cells zR 44)=W6 at *;refine ⟨fun _=>K.ret 2 rfl,?_⟩;refine A5 2 rfl (by kernel_rfl) ?_;go_simp;refine (Bw _ B c a len cap K.cur 30).mono ?_;rintro e W5 ⟨x0,rfl,x1,x2,H5,O5⟩;replace K:=K.move O5.step H5;clear H5 O5;refine ⟨fun _=>K.ret 2 rfl,?_⟩;refine A5 3 rfl (by kernel_rfl) ?_;go_simp;obtain ⟨E0,KE,-⟩:=K.y.on;refine (Fa _ _ _ d x0 800 KE (by omega) hF (by omega)).mono ?_;rintro e W8 ⟨v2,k,d2,rfl,T,F2,L⟩;have hpp:p1≤W5.heap.size:=Nat.le_trans HP12.out K.hN;replace K:=K.set2 (By L (Nat.le_refl _)) (K.cur.below L K.cur.lt) (P2:=fun W=>Be W W5.heap.size W8.heap.size v2 d2) Be.stays T.y;clear KE E0 L T F2;generalize W5.heap.size=p' at *
   obtain ⟨N',hN'⟩:∃ n,Hid (n=W8.heap.size):=⟨_,rfl⟩
   rw [← hN'.out] at K;clear hN';refine ⟨fun _=>K.ret 2 rfl,?_⟩;obtain ⟨E1,KE1,-⟩:=K.y'.on;obtain ⟨cm,rfl,hcm,hm1⟩:=KE1.agg;clear KE1 E1;refine Bh 4 rfl (by kernel_rfl) (K.ret 2 rfl) (C9 _ rfl rfl) ?_;refine Bh 5 rfl (by kernel_rfl) (K.ret 2 rfl) (Bq _ 0 rfl rfl rfl rfl) ?_;refine Bh 6 rfl (by kernel_rfl) (K.ret 2 rfl) (Bq _ 1 rfl rfl rfl rfl) ?_;refine A5 8 rfl (by kernel_rfl) ?_;refine wp_store_row _ _ _ rfl bm cm rfl rfl _ _ (K.ret 4 rfl) (infoAt Ae hcm) (hcm.symm) hm1 ?_;replace K:=K.row 4 rfl cm;generalize W8.setRow bm cm=W10 at *;refine ⟨fun _=>K.ret 2 rfl,?_⟩;refine A5 9 rfl (by kernel_rfl) ?_;go_simp;refine ⟨fun _=>K.ret 2 rfl,?_⟩;refine Cy (by kernel_rfl) ?_;refine hKq _ _ ?_
   go_meet
   exact ⟨bm,_,_,cm,d2,rfl,hcm,hpp,K⟩
 case rest =>
 clear K;obtain ⟨bm,p',N',cm,dm,rfl,hcm,hpp,K⟩:=hcut;have HPP:=Ad hpp;clear hpp
 obtain ⟨W4,hW4⟩:∃ y,y=wc:=⟨_,rfl⟩
 subst hW4;obtain ⟨x',y',z',hx',hy',hz',HO⟩:=K.y'.ob;go_upto_region 4 with (fail);rename_i K3 hK3;refine wp_region_lit ?_
 (refine wpList_plain rfl (fun K9 hK9=>?_); go_simp; refine hK9 _ _ ?_; clear hK9)
 refine A4 rfl _ _ rfl bm 31 rfl _ _ #[x',y',z'] _ _ (K.ret 4 rfl) (Vd hx' hy' hz') Tryz.underlying27 rfl A7 ?_;have hone:=HO.one;clear HO
 (refine wpList_plain rfl (fun K9 hK9=>?_); go_simp; refine hK9 _ _ ?_; clear hK9)
 replace K:=K.alloc oZ 27 _ rfl;generalize W4.heap.size=bb at *;generalize W4.alloc (.cells oZ 27)=W5a at *;refine wpList_store_row rfl _ _ _ rfl (bb) #[x',y',z'] rfl rfl _ _ (K.ret 5 rfl) A7 (rfl) hone ?_;replace K:=K.row 5 rfl #[x',y',z'];generalize W5a.setRow bb #[x',y',z']=W5 at *;refine hK3 _ _ ?_;clear hK3;have HX2:=Ad hx';have HY2:=Ad hy';have HZ2:=Ad hz';have HO2:=Ad hone;have HK:=Ad K;clear hx' hy' hz' hone hcm K;go_wp2_with fail;refine (Bw _ B c a len cap HK.out.cur 6).mono ?_;rintro e W6 ⟨x0,rfl,x1,x2,H6,O6⟩;have K:=HK.out.move O6.step H6;clear HK H6 O6
 go_upto_block 0 with (fail)
 go_cut [] (fun WX=>∃ (P P':World→Prop) (ca cb:Array Value) (A A':Qk),Dt w B c a len cap p1 p2 p' N' P P' WX [(w.heap.size,oZ,27),(w.heap.size+1,oZ,27),(bl,co,44),(ba,ca,27),(bm,cm,44),(bb,cb,27)]∧ca.size=3∧cb.size=3∧ca.all (·.oneCell')=true∧cb.all (·.oneCell')=true∧∀ W,P W→P' W→Ds W p1 (max p2 N') (.agg ca) A∧Ds W p1 (max p2 N') (.agg cb) A')
 case first =>
  rename_i J Kq hJ hKq
  by_cases r0:x0=0
  ·subst r0
   have c1:=K.get 5 rfl 1 (show (#[x',y',z']:Array Value)[1]?=some y' from rfl)
   rcases K.y'.samp0 HX2.out HY2.out HZ2.out with ⟨rfl,h0⟩ | ⟨g,cc,rfl,hs⟩
   ·go_wp2_with fail
    go_meet
    exact ⟨_,_,#[x,y,z],#[x',.slice none 0 0,z'],_,_,(K.to1 (P2:=fun W=>Ds W p1 p2 (.agg #[x,y,z]) _) Ds.stays (K.y.obAt HX.out HY.out HZ.out)).to2 (P2:=fun W=>Ds W p' N' (.agg #[x',.slice none 0 0,z']) _) Ds.stays (K.y'.obAt HX2.out HY2.out HZ2.out),rfl,rfl,HO1.out,HO2.out,fun W h h'=>⟨h.mono (Nat.le_refl _) (by omega),h'.mono HPP.out (by omega)⟩⟩
   ·by_cases hn:0<dm.ns
    ·obtain ⟨g1,g2,g3,g4,g5,g6⟩:=hs hn
     have hn1:(0:Int)<(dm.ns:Int):=by omega
     go_upto_region 8 with (fail)
     have cg1:=fun dd os=>((below_regrown W6 dd os).cell (Af (K.ret 5 rfl))).trans c1
     have cg2:=fun dd os=>((below_regrown W6 dd os).cell g3).trans g4
     refine Cx (n:=8) (by kernel_rfl) (by kernel_rfl) rfl ?_;simp only [List.take_succ_cons,List.take_zero,Act.put,List.setIfInBounds_toArray,List.set_cons_succ,List.set_cons_zero]
     iterate 8 (go_big_quiet_step (fail))
     refine wpQuiet_nil ?_;intro w7 hw7;obtain ⟨⟨dq,os⟩,rfl⟩:=hw7;replace K:=K.call (below_regrown W6 dq os);clear cg1 cg2 c1 g1 g2 g3 g4 g5 g6 hs
     rcases K.y'.samp0 HX2.out HY2.out HZ2.out with ⟨e,-⟩ | ⟨g',cc',e,hs⟩
     ·cases e
     obtain rfl:g=g':=by injection e with e1; injection e1 with e1; injection e1
     obtain ⟨g1,g2,g3,g4,g5,g6⟩:=hs hn;generalize grow (redrawn W6 dq) os=W7 at *;go_simp;obtain ⟨ob,hob⟩:=g6 _;refine hKq _ _ ?_
     go_meet
     exact ⟨_,_,#[x,y,z],#[x',.slice (some ⟨g,0,none⟩) dm.ns cc,z'],_,ob,(K.to1 (P2:=fun W=>Ds W p1 p2 (.agg #[x,y,z]) _) Ds.stays (K.y.obAt HX.out HY.out HZ.out)).mut2 (P2:=fun W=>Ds W p' N' (.agg #[x',.slice (some ⟨g,0,none⟩) dm.ns cc,z']) ob) (Bz _ _ _ _) ⟨g1,g2⟩ Ds.stays hob,rfl,rfl,HO1.out,HO2.out,fun W h h'=>⟨h.mono (Nat.le_refl _) (by omega),h'.mono HPP.out (by omega)⟩⟩
    ·have hn1:¬ (0:Int)<(dm.ns:Int):=by omega
     go_wp2_with fail
     go_meet
     exact ⟨_,_,#[x,y,z],#[x',.slice (some ⟨g,0,none⟩) dm.ns cc,z'],_,_,(K.to1 (P2:=fun W=>Ds W p1 p2 (.agg #[x,y,z]) _) Ds.stays (K.y.obAt HX.out HY.out HZ.out)).to2 (P2:=fun W=>Ds W p' N' (.agg #[x',.slice (some ⟨g,0,none⟩) dm.ns cc,z']) _) Ds.stays (K.y'.obAt HX2.out HY2.out HZ2.out),rfl,rfl,HO1.out,HO2.out,fun W h h'=>⟨h.mono (Nat.le_refl _) (by omega),h'.mono HPP.out (by omega)⟩⟩
  ·have q0:(x0==0)=false:=by simp [r0]
   by_cases r1:x0=1
   ·subst r1
    have c1:=K.get 3 rfl 0 (show (#[x,y,z]:Array Value)[0]?=some x from rfl)
    rcases K.y.dot1 hF.lf HX.out HY.out HZ.out with ⟨rfl,h0⟩ | ⟨ao,cc,rfl,hs⟩
    ·go_wp2_with fail
     go_meet
     exact ⟨_,_,#[.slice none 0 0,y,z],#[x',y',z'],_,_,(K.to1 (P2:=fun W=>Ds W p1 p2 (.agg #[.slice none 0 0,y,z]) _) Ds.stays (K.y.obAt HX.out HY.out HZ.out)).to2 (P2:=fun W=>Ds W p' N' (.agg #[x',y',z']) _) Ds.stays (K.y'.obAt HX2.out HY2.out HZ2.out),rfl,rfl,HO1.out,HO2.out,fun W h h'=>⟨h.mono (Nat.le_refl _) (by omega),h'.mono HPP.out (by omega)⟩⟩
    ·by_cases hn:0<d.mf
     ·obtain ⟨bo,g,c',rfl,hb,hc,g1,g2,g3,g4,g5,g6⟩:=hs hn
      have hn1:(0:Int)<(d.mf:Int):=by omega
      go_upto_region 11 with (fail)
      have cg1:=fun dd os=>((below_regrown W6 dd os).cell (Af (K.ret 3 rfl))).trans c1
      have cg2:=fun dd os=>((below_regrown W6 dd os).cell hb).trans hc
      have cg3:=fun dd os=>((below_regrown W6 dd os).cell g3).trans g4
      refine Cx (n:=12) (by kernel_rfl) (by kernel_rfl) rfl ?_;simp only [List.take_succ_cons,List.take_zero,Act.put,List.setIfInBounds_toArray,List.set_cons_succ,List.set_cons_zero]
      iterate 12 (go_big_quiet_step (fail))
      refine wpQuiet_nil ?_;intro w7 hw7;obtain ⟨⟨dq,os⟩,rfl⟩:=hw7;replace K:=K.call (below_regrown W6 dq os);have LB:=below_regrown W6 dq os;replace hc:=(LB.cell hb).trans hc;clear cg1 cg2 cg3 c1 g1 g2 g3 g4 g5 g6 hs LB
      rcases K.y.dot1 hF.lf HX.out HY.out HZ.out with ⟨e,-⟩ | ⟨ao',cc',e,hs⟩
      ·cases e
      obtain ⟨bo',g',c'',e2,hb',hc',g1,g2,g3,g4,g5,g6⟩:=hs hn;subst e2
      obtain rfl:bo=bo':=by injection e with e1; injection e1 with e1; injection e1
      obtain rfl:g=g':=by have:=hc.symm.trans hc'; injection this with e1; injection e1 with e1; injection e1 with e1; injection e1
      generalize grow (redrawn W6 dq) os=W7 at *;go_simp;obtain ⟨ob,hob⟩:=g6 _;refine hKq _ _ ?_
      go_meet
      exact ⟨_,_,#[.slice (some ⟨bo,0,none⟩) d.mf cc,y,z],#[x',y',z'],ob,_,(K.mut1 (P2:=fun W=>Ds W p1 p2 (.agg #[.slice (some ⟨bo,0,none⟩) d.mf cc,y,z]) ob) (Bz _ _ _ _) ⟨g1,g2⟩ Ds.stays hob).to2 (P2:=fun W=>Ds W p' N' (.agg #[x',y',z']) _) Ds.stays ((K.mut1 (P2:=fun W=>Ds W p1 p2 (.agg #[.slice (some ⟨bo,0,none⟩) d.mf cc,y,z]) ob) (Bz _ _ _ _) ⟨g1,g2⟩ Ds.stays hob).y'.obAt HX2.out HY2.out HZ2.out),rfl,rfl,HO1.out,HO2.out,fun W h h'=>⟨h.mono (Nat.le_refl _) (by omega),h'.mono HPP.out (by omega)⟩⟩
     ·have hn1:¬ (0:Int)<(d.mf:Int):=by omega
      go_wp2_with fail
      go_meet
      exact ⟨_,_,#[.slice ao d.mf cc,y,z],#[x',y',z'],_,_,(K.to1 (P2:=fun W=>Ds W p1 p2 (.agg #[.slice ao d.mf cc,y,z]) _) Ds.stays (K.y.obAt HX.out HY.out HZ.out)).to2 (P2:=fun W=>Ds W p' N' (.agg #[x',y',z']) _) Ds.stays (K.y'.obAt HX2.out HY2.out HZ2.out),rfl,rfl,HO1.out,HO2.out,fun W h h'=>⟨h.mono (Nat.le_refl _) (by omega),h'.mono HPP.out (by omega)⟩⟩
   ·have q1:(x0==1)=false:=by simp [r1]
    by_cases r2:x0=2
    ·subst r2
     go_upto_region 13 with (fail);refine wp_region_lit ?_;refine wpList_load_row rfl _ _ rfl bb rfl _ _ _ _ (K.ret 5 rfl) Tryz.underlying27 rfl A7 ?_;refine wpList_store_row rfl _ _ _ rfl ba #[x',y',z'] rfl rfl _ _ (K.ret 3 rfl) A7 rfl HO2.out ?_;replace K:=K.row 3 rfl #[x',y',z'];unfold wpList;go_wp2_with fail
     go_meet
     exact ⟨_,_,#[x',y',z'],#[x',y',z'],_,_,K.to2 (P2:=fun W=>Ds W p' N' (.agg #[x',y',z']) _) Ds.stays (K.y'.obAt HX2.out HY2.out HZ2.out),rfl,rfl,HO2.out,HO2.out,fun W h h'=>⟨h'.mono HPP.out (by omega),h'.mono HPP.out (by omega)⟩⟩
    ·have q2:(x0==2)=false:=by simp [r2]
     go_wp2_with fail
     go_meet
     exact ⟨_,_,#[x,y,z],#[x',y',z'],_,_,(K.to1 (P2:=fun W=>Ds W p1 p2 (.agg #[x,y,z]) _) Ds.stays (K.y.obAt HX.out HY.out HZ.out)).to2 (P2:=fun W=>Ds W p' N' (.agg #[x',y',z']) _) Ds.stays (K.y'.obAt HX2.out HY2.out HZ2.out),rfl,rfl,HO1.out,HO2.out,fun W h h'=>⟨h.mono (Nat.le_refl _) (by omega),h'.mono HPP.out (by omega)⟩⟩
 case rest =>
 clear K hF;obtain ⟨P,P',ca,cb,A,A',K,hca,hcb,oa,ob,HF⟩:=hcut
 obtain ⟨W7,hW7⟩:∃ y,y=wc:=⟨_,rfl⟩
 subst hW7;replace HF:=Ad HF;go_upto_region 14 with (fail);rename_i K3 hK3;refine Dm 4 (fun w'=>w'.heap[ba]?=some (.cells ca 27 (0,0))∧w'.heap[bb]?=some (.cells cb 27 (0,0))) (by kernel_rfl) ?_;replace K:=K.redraw (W7.drawn+1);generalize redrawn W7 (W7.drawn+1)=W8 at *
 show Cj _ _ _ _ _ 4 _ _ _
 have info3:∀ cs:Array Value,cs.size=3→(Tryz.prog.info? 27).map (·.size)=some cs.size:=fun cs h=>A7.trans (congrArg some h.symm)
 refine Bp 0 rfl (by kernel_rfl) ⟨K.ret 3 rfl,K.ret 5 rfl⟩ (Br _ _ rfl rfl ba rfl _ ca _ _ (fun w' h=>h.1) Tryz.underlying27 rfl (info3 _ hca)) ?_;refine Bp 1 rfl (by kernel_rfl) ⟨K.ret 3 rfl,K.ret 5 rfl⟩ (Br _ _ rfl rfl bb rfl _ cb _ _ (fun w' h=>h.2) Tryz.underlying27 rfl (info3 _ hcb)) ?_;refine A5 2 rfl (by kernel_rfl) ?_;refine wp_store_row _ _ _ rfl w.heap.size ca rfl rfl _ _ (K.ret 0 rfl) (info3 _ hca) (hca.symm) oa ?_;replace K:=K.row 0 rfl ca;generalize W8.setRow w.heap.size ca=W9 at *;refine ⟨fun _=>⟨K.ret 3 rfl,K.ret 5 rfl⟩,?_⟩;refine A5 3 rfl (by kernel_rfl) ?_;refine wp_store_row _ _ _ rfl (w.heap.size+1) cb rfl rfl _ _ (K.ret 1 rfl) (info3 _ hcb) (hcb.symm) ob ?_;replace K:=K.row 1 rfl cb;generalize W9.setRow (w.heap.size+1) cb=W10 at *;refine ⟨fun _=>⟨K.ret 3 rfl,K.ret 5 rfl⟩,?_⟩
 refine Cy (by kernel_rfl) ?_;refine hK3 _ _ ?_;clear hK3;go_wp2;refine bodyPost_ret (v:=.tuple #[.agg ca,.agg cb]) (Fo Tryz.results13 _ _ w.heap.size (w.heap.size+1) _ _ _ _ _ _ _ _ rfl rfl (K.ret 0 rfl) (K.ret 1 rfl) Tryz.underlying27 Tryz.underlying27 rfl rfl (info3 _ hca) (info3 _ hcb)) rfl ?_;have F:=HF.out W10 K.y K.y';have hN1:=K.hN;have hN2:=K.hN';exact ⟨_,_,rfl,⟨A,A',p1,max p2 N',F.1,F.2,K.lo,by omega⟩,K.cur,K.step⟩
end Go.Proofs.YtfjieibndedngaaGreat
