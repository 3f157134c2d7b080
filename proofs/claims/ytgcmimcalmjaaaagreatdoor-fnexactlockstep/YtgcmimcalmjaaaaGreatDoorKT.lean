import Derived.Test.YtgcmimcalmjaaaaGreatDoorKO
namespace Go.Proofs.YtgcmimcalmjaaaaGreatDoor
set_option maxHeartbeats 8000000
set_option linter.unusedVariables false
set_option linter.unusedSimpArgs false
open Go.ChangeShapes Go.WideShapes Go.ChangeAt Go.RowKit
theorem Au {w:World} {g:Nat} {old:Array Value} {t:TypeId} (hg:w.heap[g]?=some (.cells old t (0,0))) (cs:Array Value):Wrote (fun b _=>b=g) w (w.setRow g cs) :=
 ⟨rfl,rfl,rfl,by simp [World.setRow],fun k hk hn=>setRow_other _ _ _ _ (fun e=>hn 0 e),fun b o hb hn=>cell_setRow_other _ _ _ _ hn,fun b o hb=>by
  by_cases e:b=g
  ·subst e
   rw [As (setRow_heap _ _ _ _ _ _ hg),As hg]
  ·simp [World.frozen?,setRow_other _ _ _ _ e]⟩
theorem Ao:(Tryz.prog.info? 49).map (·.size)=some 34:=by kernel_rfl
structure Zb (W:World) (u0 u1 u2 u3 u4 u5 u6 u7:Value) (d:Aq):Prop where
 h0:∃ F,Ba .i64 W F u0 d.m d.ln d.f
 h1:∃ F,Ints .i64 W F u1 d.np d.p
 h2:∃ F,Ints .i64 W F u2 d.nr d.g
 h3:∃ F,Ints .i64 W F u3 d.nt d.tb
 h4:∃ F,Ints .i64 W F u4 d.nd d.dt
 h5:∃ F,Ba .i64 W F u5 d.mf d.lf d.fr
 h6:∃ F,Ints .i64 W F u6 d.ns d.sm
 h7:∃ F,Ints .i64 W F u7 d.nq d.rd
theorem Zb.below {W W':World} {u0 u1 u2 u3 u4 u5 u6 u7:Value} {d:Aq} (H:Zb W u0 u1 u2 u3 u4 u5 u6 u7 d) (lo:∀ F v m ln f,Ba .i64 W F v m ln f→∃ G,Ba .i64 W' G v m ln f) (l1:∀ F v n f,Ints .i64 W F v n f→∃ G,Ints .i64 W' G v n f):Zb W' u0 u1 u2 u3 u4 u5 u6 u7 d :=
 ⟨H.h0.elim (fun F h=>lo F _ _ _ _ h),H.h1.elim (fun F h=>l1 F _ _ _ h),H.h2.elim (fun F h=>l1 F _ _ _ h),H.h3.elim (fun F h=>l1 F _ _ _ h),H.h4.elim (fun F h=>l1 F _ _ _ h),H.h5.elim (fun F h=>lo F _ _ _ _ h),H.h6.elim (fun F h=>l1 F _ _ _ h),H.h7.elim (fun F h=>l1 F _ _ _ h)⟩
theorem Zc (w:World) (u0 u1 u2 u3 u4 u5 u6 u7:Value) (d:Aq) (H:Zb w u0 u1 u2 u3 u4 u5 u6 u7 d) (hm:d.m+psum d.ln d.m≤1048576) (hf:d.mf+psum d.lf d.mf≤1048576) :
  Calls Tryz.prog 6 #[.agg (kR d u0 u1 u2 u3 u4 u5 u6 u7)] w fun e w'=>∃ v,e=.returned v∧(∃ D,Bh w' D v d∧Xb D∧∀ i b,D i b→w.heap.size≤b∧b<w'.heap.size)∧Below w.heap.size w w':=by
 obtain ⟨⟨F0,H0⟩,⟨F1,H1⟩,⟨F2,H2⟩,⟨F3,H3⟩,⟨F4,H4⟩,⟨F5,H5⟩,⟨F6,H6⟩,⟨F7,H7⟩⟩:=H;obtain ⟨a0,c0,rfl,-⟩:=id H0;obtain ⟨a1,c1,rfl,-⟩:=id H1;obtain ⟨a2,c2,rfl,hn2,-⟩:=id H2;obtain ⟨a3,c3,rfl,-⟩:=id H3;obtain ⟨a4,c4,rfl,-⟩:=id H4;obtain ⟨a5,c5,rfl,-⟩:=id H5;obtain ⟨a6,c6,rfl,-⟩:=id H6;obtain ⟨a7,c7,rfl,-⟩:=id H7;have L0:Below w.heap.size w (((w.alloc (.cells (kR d (.slice a0 d.m c0) (.slice a1 d.np c1) (.slice a2 d.nr c2) (.slice a3 d.nt c3) (.slice a4 d.nd c4) (.slice a5 d.mf c5) (.slice a6 d.ns c6) (.slice a7 d.nq c7)) 39)).alloc (.cells zR 49)).alloc (.cells zR 49)):=(((Below.refl _ _).alloc (Nat.le_refl _) _).alloc (by simp) _).alloc (by simp; omega) _
 have B0:(((w.alloc (.cells (kR d (.slice a0 d.m c0) (.slice a1 d.np c1) (.slice a2 d.nr c2) (.slice a3 d.nt c3) (.slice a4 d.nd c4) (.slice a5 d.mf c5) (.slice a6 d.ns c6) (.slice a7 d.nq c7)) 39)).alloc (.cells zR 49)).alloc (.cells zR 49)).heap[w.heap.size]?=some (.cells (kR d (.slice a0 d.m c0) (.slice a1 d.np c1) (.slice a2 d.nr c2) (.slice a3 d.nt c3) (.slice a4 d.nd c4) (.slice a5 d.mf c5) (.slice a6 d.ns c6) (.slice a7 d.nq c7)) 39 (0,0)):=Ax (Ax (Al w _ _) _) _
 have B1:(((w.alloc (.cells (kR d (.slice a0 d.m c0) (.slice a1 d.np c1) (.slice a2 d.nr c2) (.slice a3 d.nt c3) (.slice a4 d.nd c4) (.slice a5 d.mf c5) (.slice a6 d.ns c6) (.slice a7 d.nq c7)) 39)).alloc (.cells zR 49)).alloc (.cells zR 49)).heap[w.heap.size+1]?=some (.cells zR 49 (0,0)):=Ax (by simpa using Al (w.alloc (.cells (kR d (.slice a0 d.m c0) (.slice a1 d.np c1) (.slice a2 d.nr c2) (.slice a3 d.nt c3) (.slice a4 d.nd c4) (.slice a5 d.mf c5) (.slice a6 d.ns c6) (.slice a7 d.nq c7)) 39)) zR 49) (.cells zR 49)
 have B2:(((w.alloc (.cells (kR d (.slice a0 d.m c0) (.slice a1 d.np c1) (.slice a2 d.nr c2) (.slice a3 d.nt c3) (.slice a4 d.nd c4) (.slice a5 d.mf c5) (.slice a6 d.ns c6) (.slice a7 d.nq c7)) 39)).alloc (.cells zR 49)).alloc (.cells zR 49)).heap[w.heap.size+1+1]?=some (.cells zR 49 (0,0)):=by simpa using Al ((w.alloc (.cells (kR d (.slice a0 d.m c0) (.slice a1 d.np c1) (.slice a2 d.nr c2) (.slice a3 d.nt c3) (.slice a4 d.nd c4) (.slice a5 d.mf c5) (.slice a6 d.ns c6) (.slice a7 d.nq c7)) 39)).alloc (.cells zR 49)) zR 49
 go_enter Tryz.func6,Tryz.ntmps6
 go_wp2_with fail;generalize ((w.alloc (.cells (kR d (.slice a0 d.m c0) (.slice a1 d.np c1) (.slice a2 d.nr c2) (.slice a3 d.nt c3) (.slice a4 d.nd c4) (.slice a5 d.mf c5) (.slice a6 d.ns c6) (.slice a7 d.nq c7)) 39)).alloc (.cells zR 49)).alloc (.cells zR 49)=W0 at *
 obtain ⟨p0,hp0⟩:∃ p,Hid (p=W0.heap.size):=⟨_,rfl⟩
 have l0:w.heap.size+1+1<p0:=by rw [hp0.out]; exact Ac B2
 refine (Jbd _ F0 _ d.m d.ln d.f (H0.keep (Ab L0 Aj) (fun _ _ _ x=>x)) hm).mono ?_;rintro e W1 ⟨v0,rfl,g0,L⟩
 obtain ⟨p1,hp1⟩:∃ p,Hid (p=W1.heap.size):=⟨_,rfl⟩
 have l1:p0≤p1:=by rw [hp0.out,hp1.out]; exact L.size
 rw [← hp0.out,← hp1.out] at g0;replace L0:=Ae L0 L;replace B0:=Aa B0 L (Ac B0);replace B1:=Aa B1 L (Ac B1);replace B2:=Aa B2 L (Ac B2);clear L hp0;obtain ⟨x0,y0,rfl⟩:=g0.form;have c0:=Ag B0;have c2:=Ag B2;have f2:=As B2;go_wp2_with fail;clear c0 c2 f2;have TT:=Wrote.setCell (b:=w.heap.size+1+1) (o:=0) (R:=fun b _=>b=w.heap.size+1+1) (Wrote.refl _ W1) (fun _=>rfl) (.slice x0 d.m y0);replace L0:=L0.trans (TT.below L0.size (fun b o hb (h:b=_)=>by omega));replace B0:=Ah B0 TT (fun o (h:_=_)=>by omega);replace B1:=Ah B1 TT (fun o (h:_=_)=>by omega);replace B2:=Af (o:=0) B2 (.slice x0 d.m y0);simp only [List.setIfInBounds_toArray,List.set_cons_succ,List.set_cons_zero] at B2;replace g0:=g0.keep TT (fun b o hb _ (h:b=_)=>by obtain ⟨h1,h2⟩:=hb; omega)
 replace hp1:Hid (p1=(W1.setCell ⟨w.heap.size+1+1,0,none⟩ (.slice x0 d.m y0)).heap.size):=by show _=_; rw [hp1.out]; simp
 clear TT;generalize W1.setCell ⟨w.heap.size+1+1,0,none⟩ (.slice x0 d.m y0)=W2 at *;refine (Mi _ F1 _ d.np d.p (H1.keep (Ab L0 Aj) (fun _ _ _ x=>x))).mono ?_;rintro e W3 ⟨v1,rfl,g1,L⟩
 obtain ⟨p2,hp2⟩:∃ p,Hid (p=W3.heap.size):=⟨_,rfl⟩
 have l2:p1≤p2:=by rw [hp1.out,hp2.out]; exact L.size
 rw [← hp1.out,← hp2.out] at g1;replace L0:=Ae L0 L;replace B0:=Aa B0 L (Ac B0);replace B1:=Aa B1 L (Ac B1);replace B2:=Aa B2 L (Ac B2);replace g0:=g0.below L;clear L hp1;obtain ⟨x1,y1,rfl⟩:=g1.two;have c0:=Ag B0;have c2:=Ag B2;have f2:=As B2;go_wp2_with fail;clear c0 c2 f2;have TT:=Wrote.setCell (b:=w.heap.size+1+1) (o:=1) (R:=fun b _=>b=w.heap.size+1+1) (Wrote.refl _ W3) (fun _=>rfl) (.slice x1 d.np y1);replace L0:=L0.trans (TT.below L0.size (fun b o hb (h:b=_)=>by omega));replace B0:=Ah B0 TT (fun o (h:_=_)=>by omega);replace B1:=Ah B1 TT (fun o (h:_=_)=>by omega);replace B2:=Af (o:=1) B2 (.slice x1 d.np y1);simp only [List.setIfInBounds_toArray,List.set_cons_succ,List.set_cons_zero] at B2
 replace g0:=g0.keep TT (fun b o hb _ (h:b=_)=>by obtain ⟨h1,h2⟩:=hb; omega);replace g1:=g1.keep TT (fun b o hb _ (h:b=_)=>by obtain ⟨h1,h2⟩:=hb; omega)
 replace hp2:Hid (p2=(W3.setCell ⟨w.heap.size+1+1,1,none⟩ (.slice x1 d.np y1)).heap.size):=by show _=_; rw [hp2.out]; simp
 clear TT;generalize W3.setCell ⟨w.heap.size+1+1,1,none⟩ (.slice x1 d.np y1)=W4 at *;refine (Jam _ F2 _ d.nr d.g d.bank (H2.keep (Ab L0 Aj) (fun _ _ _ x=>x)) hn2).mono ?_;rintro e W5 ⟨v2,rfl,g2,L⟩
 obtain ⟨p3,hp3⟩:∃ p,Hid (p=W5.heap.size):=⟨_,rfl⟩
 have l3:p2≤p3:=by rw [hp2.out,hp3.out]; exact L.size
 replace g2:=g2.mono (E:=fun b=>p2≤b∧b<p3) (fun b hb h=>⟨by rw [hp2.out]; exact h,by rw [hp3.out]; exact hb⟩);replace L0:=Ae L0 L;replace B0:=Aa B0 L (Ac B0);replace B1:=Aa B1 L (Ac B1);replace B2:=Aa B2 L (Ac B2);replace g0:=g0.below L;replace g1:=g1.below L;clear L hp2;obtain ⟨x2,y2,rfl⟩:=g2.two;have c0:=Ag B0;have c2:=Ag B2;have f2:=As B2;go_wp2_with fail;clear c0 c2 f2;have TT:=Wrote.setCell (b:=w.heap.size+1+1) (o:=3) (R:=fun b _=>b=w.heap.size+1+1) (Wrote.setCell (b:=w.heap.size+1+1) (o:=2) (R:=fun b _=>b=w.heap.size+1+1) (Wrote.refl _ W5) (fun _=>rfl) (.slice x2 d.nr y2)) (fun _=>rfl) (.i d.bank);replace L0:=L0.trans (TT.below L0.size (fun b o hb (h:b=_)=>by omega));replace B0:=Ah B0 TT (fun o (h:_=_)=>by omega)
 replace B1:=Ah B1 TT (fun o (h:_=_)=>by omega);replace B2:=Af (o:=2) B2 (.slice x2 d.nr y2);replace B2:=Af (o:=3) B2 (.i d.bank);simp only [List.setIfInBounds_toArray,List.set_cons_succ,List.set_cons_zero] at B2;replace g0:=g0.keep TT (fun b o hb _ (h:b=_)=>by obtain ⟨h1,h2⟩:=hb; omega);replace g1:=g1.keep TT (fun b o hb _ (h:b=_)=>by obtain ⟨h1,h2⟩:=hb; omega);replace g2:=g2.keep TT (fun b o hb _ (h:b=_)=>by obtain ⟨h1,h2⟩:=hb; omega)
 replace hp3:Hid (p3=((W5.setCell ⟨w.heap.size+1+1,2,none⟩ (.slice x2 d.nr y2)).setCell ⟨w.heap.size+1+1,3,none⟩ (.i d.bank)).heap.size):=by show _=_; rw [hp3.out]; simp
 clear TT;generalize (W5.setCell ⟨w.heap.size+1+1,2,none⟩ (.slice x2 d.nr y2)).setCell ⟨w.heap.size+1+1,3,none⟩ (.i d.bank)=W6 at *;refine (Jcy _ d.A d.X d.S d.Pc d.Z d.N d.C d.I).mono ?_;rintro e W7 ⟨rfl,L⟩
 obtain ⟨p4,hp4⟩:∃ p,Hid (p=W7.heap.size):=⟨_,rfl⟩
 have l4:p3≤p4:=by rw [hp3.out,hp4.out]; exact L.size
 replace L0:=Ae L0 L;replace B0:=Aa B0 L (Ac B0);replace B1:=Aa B1 L (Ac B1);replace B2:=Aa B2 L (Ac B2);replace g0:=g0.below L;replace g1:=g1.below L;replace g2:=g2.below L;clear L hp3;have c0:=Ag B0;have c2:=Ag B2;have f2:=As B2;go_wp2_with fail;clear c0 c2 f2
 have TT:=Wrote.setCell (b:=w.heap.size+1+1) (o:=11) (R:=fun b _=>b=w.heap.size+1+1) (Wrote.setCell (b:=w.heap.size+1+1) (o:=10) (R:=fun b _=>b=w.heap.size+1+1) (Wrote.setCell (b:=w.heap.size+1+1) (o:=9) (R:=fun b _=>b=w.heap.size+1+1) (Wrote.setCell (b:=w.heap.size+1+1) (o:=8) (R:=fun b _=>b=w.heap.size+1+1) (Wrote.setCell (b:=w.heap.size+1+1) (o:=7) (R:=fun b _=>b=w.heap.size+1+1) (Wrote.setCell (b:=w.heap.size+1+1) (o:=6) (R:=fun b _=>b=w.heap.size+1+1) (Wrote.setCell (b:=w.heap.size+1+1) (o:=5) (R:=fun b _=>b=w.heap.size+1+1) (Wrote.setCell (b:=w.heap.size+1+1) (o:=4) (R:=fun b _=>b=w.heap.size+1+1) (Wrote.refl _ W7) (fun _=>rfl) (.i d.A)) (fun _=>rfl) (.i d.X)) (fun _=>rfl) (.i d.S)) (fun _=>rfl) (.i d.Pc)) (fun _=>rfl) (.bool d.Z)) (fun _=>rfl) (.bool d.N)) (fun _=>rfl) (.bool d.C)) (fun _=>rfl) (.bool d.I)
 replace L0:=L0.trans (TT.below L0.size (fun b o hb (h:b=_)=>by omega));replace B0:=Ah B0 TT (fun o (h:_=_)=>by omega);replace B1:=Ah B1 TT (fun o (h:_=_)=>by omega);replace B2:=Af (o:=4) B2 (.i d.A);replace B2:=Af (o:=5) B2 (.i d.X);replace B2:=Af (o:=6) B2 (.i d.S);replace B2:=Af (o:=7) B2 (.i d.Pc);replace B2:=Af (o:=8) B2 (.bool d.Z);replace B2:=Af (o:=9) B2 (.bool d.N);replace B2:=Af (o:=10) B2 (.bool d.C);replace B2:=Af (o:=11) B2 (.bool d.I);simp only [List.setIfInBounds_toArray,List.set_cons_succ,List.set_cons_zero] at B2;replace g0:=g0.keep TT (fun b o hb _ (h:b=_)=>by obtain ⟨h1,h2⟩:=hb; omega);replace g1:=g1.keep TT (fun b o hb _ (h:b=_)=>by obtain ⟨h1,h2⟩:=hb; omega)
 replace g2:=g2.keep TT (fun b o hb _ (h:b=_)=>by obtain ⟨h1,h2⟩:=hb; omega)
 replace hp4:Hid (p4=((((((((W7.setCell ⟨w.heap.size+1+1,4,none⟩ (.i d.A)).setCell ⟨w.heap.size+1+1,5,none⟩ (.i d.X)).setCell ⟨w.heap.size+1+1,6,none⟩ (.i d.S)).setCell ⟨w.heap.size+1+1,7,none⟩ (.i d.Pc)).setCell ⟨w.heap.size+1+1,8,none⟩ (.bool d.Z)).setCell ⟨w.heap.size+1+1,9,none⟩ (.bool d.N)).setCell ⟨w.heap.size+1+1,10,none⟩ (.bool d.C)).setCell ⟨w.heap.size+1+1,11,none⟩ (.bool d.I)).heap.size):=by show _=_; rw [hp4.out]; simp
 clear TT;generalize (((((((W7.setCell ⟨w.heap.size+1+1,4,none⟩ (.i d.A)).setCell ⟨w.heap.size+1+1,5,none⟩ (.i d.X)).setCell ⟨w.heap.size+1+1,6,none⟩ (.i d.S)).setCell ⟨w.heap.size+1+1,7,none⟩ (.i d.Pc)).setCell ⟨w.heap.size+1+1,8,none⟩ (.bool d.Z)).setCell ⟨w.heap.size+1+1,9,none⟩ (.bool d.N)).setCell ⟨w.heap.size+1+1,10,none⟩ (.bool d.C)).setCell ⟨w.heap.size+1+1,11,none⟩ (.bool d.I)=W8 at *;refine (Jc9 _ F3 F4 d.t d.c d.s d.ad d.pl d.bl _ _ d.nt d.tb d.nd d.dt (H3.keep (Ab L0 Aj) (fun _ _ _ x=>x)) (H4.keep (Ab L0 Aj) (fun _ _ _ x=>x))).mono ?_;rintro e W9 ⟨v3,rfl,g3,L⟩
 obtain ⟨p5,hp5⟩:∃ p,Hid (p=W9.heap.size):=⟨_,rfl⟩
 have l5:p4≤p5:=by rw [hp4.out,hp5.out]; exact L.size
 replace g3:=g3.mono (E:=fun b=>p4≤b∧b<p5) (fun b hb h=>⟨by rw [hp4.out]; exact h,by rw [hp5.out]; exact hb⟩);replace L0:=Ae L0 L;replace B0:=Aa B0 L (Ac B0);replace B1:=Aa B1 L (Ac B1);replace B2:=Aa B2 L (Ac B2);replace g0:=g0.below L;replace g1:=g1.below L;replace g2:=g2.below L;clear L hp4;obtain ⟨x3,y3,x4,y4,rfl⟩:=g3.two;have c0:=Ag B0;have c2:=Ag B2;have f2:=As B2;go_wp2_with fail;clear c0 c2 f2
 have TT:=Wrote.setCell (b:=w.heap.size+1+1) (o:=19) (R:=fun b _=>b=w.heap.size+1+1) (Wrote.setCell (b:=w.heap.size+1+1) (o:=18) (R:=fun b _=>b=w.heap.size+1+1) (Wrote.setCell (b:=w.heap.size+1+1) (o:=17) (R:=fun b _=>b=w.heap.size+1+1) (Wrote.setCell (b:=w.heap.size+1+1) (o:=16) (R:=fun b _=>b=w.heap.size+1+1) (Wrote.setCell (b:=w.heap.size+1+1) (o:=15) (R:=fun b _=>b=w.heap.size+1+1) (Wrote.setCell (b:=w.heap.size+1+1) (o:=14) (R:=fun b _=>b=w.heap.size+1+1) (Wrote.setCell (b:=w.heap.size+1+1) (o:=13) (R:=fun b _=>b=w.heap.size+1+1) (Wrote.setCell (b:=w.heap.size+1+1) (o:=12) (R:=fun b _=>b=w.heap.size+1+1) (Wrote.refl _ W9) (fun _=>rfl) (.i d.t)) (fun _=>rfl) (.i d.c)) (fun _=>rfl) (.i d.s)) (fun _=>rfl) (.i d.ad)) (fun _=>rfl) (.i d.pl)) (fun _=>rfl) (.bool d.bl)) (fun _=>rfl) (.slice x3 d.nt y3)) (fun _=>rfl) (.slice x4 d.nd y4)
 replace L0:=L0.trans (TT.below L0.size (fun b o hb (h:b=_)=>by omega));replace B0:=Ah B0 TT (fun o (h:_=_)=>by omega);replace B1:=Ah B1 TT (fun o (h:_=_)=>by omega);replace B2:=Af (o:=12) B2 (.i d.t);replace B2:=Af (o:=13) B2 (.i d.c);replace B2:=Af (o:=14) B2 (.i d.s);replace B2:=Af (o:=15) B2 (.i d.ad);replace B2:=Af (o:=16) B2 (.i d.pl);replace B2:=Af (o:=17) B2 (.bool d.bl);replace B2:=Af (o:=18) B2 (.slice x3 d.nt y3);replace B2:=Af (o:=19) B2 (.slice x4 d.nd y4);simp only [List.setIfInBounds_toArray,List.set_cons_succ,List.set_cons_zero] at B2;replace g0:=g0.keep TT (fun b o hb _ (h:b=_)=>by obtain ⟨h1,h2⟩:=hb; omega);replace g1:=g1.keep TT (fun b o hb _ (h:b=_)=>by obtain ⟨h1,h2⟩:=hb; omega)
 replace g2:=g2.keep TT (fun b o hb _ (h:b=_)=>by obtain ⟨h1,h2⟩:=hb; omega);replace g3:=g3.keep TT (fun b o hb _ (h:b=_)=>by obtain ⟨h1,h2⟩:=hb; omega)
 replace hp5:Hid (p5=((((((((W9.setCell ⟨w.heap.size+1+1,12,none⟩ (.i d.t)).setCell ⟨w.heap.size+1+1,13,none⟩ (.i d.c)).setCell ⟨w.heap.size+1+1,14,none⟩ (.i d.s)).setCell ⟨w.heap.size+1+1,15,none⟩ (.i d.ad)).setCell ⟨w.heap.size+1+1,16,none⟩ (.i d.pl)).setCell ⟨w.heap.size+1+1,17,none⟩ (.bool d.bl)).setCell ⟨w.heap.size+1+1,18,none⟩ (.slice x3 d.nt y3)).setCell ⟨w.heap.size+1+1,19,none⟩ (.slice x4 d.nd y4)).heap.size):=by show _=_; rw [hp5.out]; simp
 clear TT;generalize (((((((W9.setCell ⟨w.heap.size+1+1,12,none⟩ (.i d.t)).setCell ⟨w.heap.size+1+1,13,none⟩ (.i d.c)).setCell ⟨w.heap.size+1+1,14,none⟩ (.i d.s)).setCell ⟨w.heap.size+1+1,15,none⟩ (.i d.ad)).setCell ⟨w.heap.size+1+1,16,none⟩ (.i d.pl)).setCell ⟨w.heap.size+1+1,17,none⟩ (.bool d.bl)).setCell ⟨w.heap.size+1+1,18,none⟩ (.slice x3 d.nt y3)).setCell ⟨w.heap.size+1+1,19,none⟩ (.slice x4 d.nd y4)=W10 at *;refine (Jde _ d.T d.P d.K d.B d.L d.Q d.R).mono ?_;rintro e W11 ⟨rfl,L⟩
 obtain ⟨p6,hp6⟩:∃ p,Hid (p=W11.heap.size):=⟨_,rfl⟩
 have l6:p5≤p6:=by rw [hp5.out,hp6.out]; exact L.size
 replace L0:=Ae L0 L;replace B0:=Aa B0 L (Ac B0);replace B1:=Aa B1 L (Ac B1);replace B2:=Aa B2 L (Ac B2);replace g0:=g0.below L;replace g1:=g1.below L;replace g2:=g2.below L;replace g3:=g3.below L;clear L hp5;have c0:=Ag B0;have c2:=Ag B2;have f2:=As B2;go_wp2_with fail;clear c0 c2 f2
 have TT:=Wrote.setCell (b:=w.heap.size+1+1) (o:=26) (R:=fun b _=>b=w.heap.size+1+1) (Wrote.setCell (b:=w.heap.size+1+1) (o:=25) (R:=fun b _=>b=w.heap.size+1+1) (Wrote.setCell (b:=w.heap.size+1+1) (o:=24) (R:=fun b _=>b=w.heap.size+1+1) (Wrote.setCell (b:=w.heap.size+1+1) (o:=23) (R:=fun b _=>b=w.heap.size+1+1) (Wrote.setCell (b:=w.heap.size+1+1) (o:=22) (R:=fun b _=>b=w.heap.size+1+1) (Wrote.setCell (b:=w.heap.size+1+1) (o:=21) (R:=fun b _=>b=w.heap.size+1+1) (Wrote.setCell (b:=w.heap.size+1+1) (o:=20) (R:=fun b _=>b=w.heap.size+1+1) (Wrote.refl _ W11) (fun _=>rfl) (.i d.T)) (fun _=>rfl) (.i d.P)) (fun _=>rfl) (.i d.K)) (fun _=>rfl) (.i d.B)) (fun _=>rfl) (.i d.L)) (fun _=>rfl) (.bool d.Q)) (fun _=>rfl) (.bool d.R)
 replace L0:=L0.trans (TT.below L0.size (fun b o hb (h:b=_)=>by omega));replace B0:=Ah B0 TT (fun o (h:_=_)=>by omega);replace B1:=Ah B1 TT (fun o (h:_=_)=>by omega);replace B2:=Af (o:=20) B2 (.i d.T);replace B2:=Af (o:=21) B2 (.i d.P);replace B2:=Af (o:=22) B2 (.i d.K);replace B2:=Af (o:=23) B2 (.i d.B);replace B2:=Af (o:=24) B2 (.i d.L);replace B2:=Af (o:=25) B2 (.bool d.Q);replace B2:=Af (o:=26) B2 (.bool d.R);simp only [List.setIfInBounds_toArray,List.set_cons_succ,List.set_cons_zero] at B2;replace g0:=g0.keep TT (fun b o hb _ (h:b=_)=>by obtain ⟨h1,h2⟩:=hb; omega);replace g1:=g1.keep TT (fun b o hb _ (h:b=_)=>by obtain ⟨h1,h2⟩:=hb; omega);replace g2:=g2.keep TT (fun b o hb _ (h:b=_)=>by obtain ⟨h1,h2⟩:=hb; omega)
 replace g3:=g3.keep TT (fun b o hb _ (h:b=_)=>by obtain ⟨h1,h2⟩:=hb; omega)
 replace hp6:Hid (p6=(((((((W11.setCell ⟨w.heap.size+1+1,20,none⟩ (.i d.T)).setCell ⟨w.heap.size+1+1,21,none⟩ (.i d.P)).setCell ⟨w.heap.size+1+1,22,none⟩ (.i d.K)).setCell ⟨w.heap.size+1+1,23,none⟩ (.i d.B)).setCell ⟨w.heap.size+1+1,24,none⟩ (.i d.L)).setCell ⟨w.heap.size+1+1,25,none⟩ (.bool d.Q)).setCell ⟨w.heap.size+1+1,26,none⟩ (.bool d.R)).heap.size):=by show _=_; rw [hp6.out]; simp
 clear TT;generalize ((((((W11.setCell ⟨w.heap.size+1+1,20,none⟩ (.i d.T)).setCell ⟨w.heap.size+1+1,21,none⟩ (.i d.P)).setCell ⟨w.heap.size+1+1,22,none⟩ (.i d.K)).setCell ⟨w.heap.size+1+1,23,none⟩ (.i d.B)).setCell ⟨w.heap.size+1+1,24,none⟩ (.i d.L)).setCell ⟨w.heap.size+1+1,25,none⟩ (.bool d.Q)).setCell ⟨w.heap.size+1+1,26,none⟩ (.bool d.R)=W12 at *;refine (Jdg _ d.hd d.sh).mono ?_;rintro e W13 ⟨rfl,L⟩
 obtain ⟨p7,hp7⟩:∃ p,Hid (p=W13.heap.size):=⟨_,rfl⟩
 have l7:p6≤p7:=by rw [hp6.out,hp7.out]; exact L.size
 replace L0:=Ae L0 L;replace B0:=Aa B0 L (Ac B0);replace B1:=Aa B1 L (Ac B1);replace B2:=Aa B2 L (Ac B2);replace g0:=g0.below L;replace g1:=g1.below L;replace g2:=g2.below L;replace g3:=g3.below L;clear L hp6;have c0:=Ag B0;have c2:=Ag B2;have f2:=As B2;go_wp2_with fail;clear c0 c2 f2;have TT:=Wrote.setCell (b:=w.heap.size+1+1) (o:=30) (R:=fun b _=>b=w.heap.size+1+1) (Wrote.setCell (b:=w.heap.size+1+1) (o:=29) (R:=fun b _=>b=w.heap.size+1+1) (Wrote.setCell (b:=w.heap.size+1+1) (o:=28) (R:=fun b _=>b=w.heap.size+1+1) (Wrote.setCell (b:=w.heap.size+1+1) (o:=27) (R:=fun b _=>b=w.heap.size+1+1) (Wrote.refl _ W13) (fun _=>rfl) (.bool d.hd)) (fun _=>rfl) (.i d.sh)) (fun _=>rfl) (.bool d.nmi)) (fun _=>rfl) (.i d.st)
 replace L0:=L0.trans (TT.below L0.size (fun b o hb (h:b=_)=>by omega));replace B0:=Ah B0 TT (fun o (h:_=_)=>by omega);replace B1:=Ah B1 TT (fun o (h:_=_)=>by omega);replace B2:=Af (o:=27) B2 (.bool d.hd);replace B2:=Af (o:=28) B2 (.i d.sh);replace B2:=Af (o:=29) B2 (.bool d.nmi);replace B2:=Af (o:=30) B2 (.i d.st);simp only [List.setIfInBounds_toArray,List.set_cons_succ,List.set_cons_zero] at B2;replace g0:=g0.keep TT (fun b o hb _ (h:b=_)=>by obtain ⟨h1,h2⟩:=hb; omega);replace g1:=g1.keep TT (fun b o hb _ (h:b=_)=>by obtain ⟨h1,h2⟩:=hb; omega);replace g2:=g2.keep TT (fun b o hb _ (h:b=_)=>by obtain ⟨h1,h2⟩:=hb; omega);replace g3:=g3.keep TT (fun b o hb _ (h:b=_)=>by obtain ⟨h1,h2⟩:=hb; omega)
 replace hp7:Hid (p7=((((W13.setCell ⟨w.heap.size+1+1,27,none⟩ (.bool d.hd)).setCell ⟨w.heap.size+1+1,28,none⟩ (.i d.sh)).setCell ⟨w.heap.size+1+1,29,none⟩ (.bool d.nmi)).setCell ⟨w.heap.size+1+1,30,none⟩ (.i d.st)).heap.size):=by show _=_; rw [hp7.out]; simp
 clear TT;generalize (((W13.setCell ⟨w.heap.size+1+1,27,none⟩ (.bool d.hd)).setCell ⟨w.heap.size+1+1,28,none⟩ (.i d.sh)).setCell ⟨w.heap.size+1+1,29,none⟩ (.bool d.nmi)).setCell ⟨w.heap.size+1+1,30,none⟩ (.i d.st)=W14 at *;refine (Jbf _ F5 F6 F7 _ _ _ d.mf d.lf d.fr d.ns d.sm d.nq d.rd (H5.keep (Ab L0 Aj) (fun _ _ _ x=>x)) (H6.keep (Ab L0 Aj) (fun _ _ _ x=>x)) (H7.keep (Ab L0 Aj) (fun _ _ _ x=>x)) hf).mono ?_;rintro e W15 ⟨v5,rfl,⟨DO,g4,dO,bO⟩,L⟩
 obtain ⟨p8,hp8⟩:∃ p,Hid (p=W15.heap.size):=⟨_,rfl⟩
 have l8:p7≤p8:=by rw [hp7.out,hp8.out]; exact L.size
 rw [← hp7.out,← hp8.out] at bO;replace L0:=Ae L0 L;replace B0:=Aa B0 L (Ac B0);replace B1:=Aa B1 L (Ac B1);replace B2:=Aa B2 L (Ac B2);replace g0:=g0.below L;replace g1:=g1.below L;replace g2:=g2.below L;replace g3:=g3.below L;clear L hp7;obtain ⟨z5,z6,z7,rfl,m5,m6,m7⟩:=g4;obtain ⟨x5,y5,rfl⟩:=m5.form;obtain ⟨x6,y6,rfl⟩:=m6.two;obtain ⟨x7,y7,rfl⟩:=m7.two;have c0:=Ag B0;have c2:=Ag B2;have f2:=As B2;go_upto_region 12 with (fail);clear c0 c2 f2
 have TT:=Wrote.setCell (b:=w.heap.size+1+1) (o:=33) (R:=fun b _=>b=w.heap.size+1+1) (Wrote.setCell (b:=w.heap.size+1+1) (o:=32) (R:=fun b _=>b=w.heap.size+1+1) (Wrote.setCell (b:=w.heap.size+1+1) (o:=31) (R:=fun b _=>b=w.heap.size+1+1) (Wrote.refl _ W15) (fun _=>rfl) (.slice x5 d.mf y5)) (fun _=>rfl) (.slice x6 d.ns y6)) (fun _=>rfl) (.slice x7 d.nq y7);replace L0:=L0.trans (TT.below L0.size (fun b o hb (h:b=_)=>by omega));replace B0:=Ah B0 TT (fun o (h:_=_)=>by omega);replace B1:=Ah B1 TT (fun o (h:_=_)=>by omega);replace B2:=Af (o:=31) B2 (.slice x5 d.mf y5);replace B2:=Af (o:=32) B2 (.slice x6 d.ns y6);replace B2:=Af (o:=33) B2 (.slice x7 d.nq y7);simp only [List.setIfInBounds_toArray,List.set_cons_succ,List.set_cons_zero] at B2
 replace g0:=g0.keep TT (fun b o hb _ (h:b=_)=>by obtain ⟨h1,h2⟩:=hb; omega);replace g1:=g1.keep TT (fun b o hb _ (h:b=_)=>by obtain ⟨h1,h2⟩:=hb; omega);replace g2:=g2.keep TT (fun b o hb _ (h:b=_)=>by obtain ⟨h1,h2⟩:=hb; omega);replace g3:=g3.keep TT (fun b o hb _ (h:b=_)=>by obtain ⟨h1,h2⟩:=hb; omega);replace m5:=m5.keep TT (fun b o hb _ (h:b=_)=>by have:=bO _ _ hb; omega);replace m6:=m6.keep TT (fun b o hb _ (h:b=_)=>by have:=bO _ _ hb; omega);replace m7:=m7.keep TT (fun b o hb _ (h:b=_)=>by have:=bO _ _ hb; omega)
 replace hp8:Hid (p8=(((W15.setCell ⟨w.heap.size+1+1,31,none⟩ (.slice x5 d.mf y5)).setCell ⟨w.heap.size+1+1,32,none⟩ (.slice x6 d.ns y6)).setCell ⟨w.heap.size+1+1,33,none⟩ (.slice x7 d.nq y7)).heap.size):=by show _=_; rw [hp8.out]; simp
 clear TT;generalize ((W15.setCell ⟨w.heap.size+1+1,31,none⟩ (.slice x5 d.mf y5)).setCell ⟨w.heap.size+1+1,32,none⟩ (.slice x6 d.ns y6)).setCell ⟨w.heap.size+1+1,33,none⟩ (.slice x7 d.nq y7)=W16 at *;rename_i K1 hK1;refine wp_region_lit ?_;refine wpList_load_row rfl _ _ rfl (w.heap.size+1+1) rfl _ _ _ _ B2 Tryz.underlying49 rfl Ao ?_;refine wpList_store_row rfl _ _ _ rfl (w.heap.size+1) _ rfl rfl _ _ B1 Ao rfl (by first | kernel_rfl | simp [Value.oneCell']) ?_;refine hK1 _ _ ?_;have HR:=Ad (And.intro g0 (And.intro g1 (And.intro g2 (And.intro g3 (And.intro m5 (And.intro m6 m7))))));have B3:=setRow_heap _ _ _ (kR d (.slice x0 d.m y0) (.slice x1 d.np y1) (.slice x2 d.nr y2) (.slice x3 d.nt y3) (.slice x4 d.nd y4) (.slice x5 d.mf y5) (.slice x6 d.ns y6) (.slice x7 d.nq y7)) _ _ B1
 have WW:=Au B1 (kR d (.slice x0 d.m y0) (.slice x1 d.np y1) (.slice x2 d.nr y2) (.slice x3 d.nt y3) (.slice x4 d.nd y4) (.slice x5 d.mf y5) (.slice x6 d.ns y6) (.slice x7 d.nq y7));clear g0 g1 g2 g3 m5 m6 m7 B0 B1 B2 H0 H1 H2 H3 H4 H5 H6 H7;go_wp2;refine bodyPost_ret (v:=.agg (kR d (.slice x0 d.m y0) (.slice x1 d.np y1) (.slice x2 d.nr y2) (.slice x3 d.nt y3) (.slice x4 d.nd y4) (.slice x5 d.mf y5) (.slice x6 d.ns y6) (.slice x7 d.nq y7))) (results_cell_row (by rfl) _ _ (w.heap.size+1) _ _ _ _ rfl B3 Tryz.underlying49 rfl Ao) rfl ?_;generalize W16.setRow (w.heap.size+1) (kR d (.slice x0 d.m y0) (.slice x1 d.np y1) (.slice x2 d.nr y2) (.slice x3 d.nt y3) (.slice x4 d.nd y4) (.slice x5 d.mf y5) (.slice x6 d.ns y6) (.slice x7 d.nq y7))=W17 at *;obtain ⟨g0,g1,g2,g3,m5,m6,m7⟩:=HR.out;have hsz:=WW.size;have hpp:=hp8.out
 refine ⟨_,rfl,⟨fun i b=>(i=0∧p0≤b∧b<p1)∨(i=1∧p1≤b∧b<p2)∨(i=2∧p2≤b∧b<p3)∨(i=3∧p4≤b∧b<p5)∨(4≤i∧DO i b),⟨_,_,_,_,_,_,_,_,rfl,
  (g0.keep WW (fun b o hb _ (h:b=_)=>by obtain ⟨h1,h2⟩:=hb; omega)).mono (fun b _ h=>Or.inl ⟨rfl,h⟩),
  (g1.keep WW (fun b o hb _ (h:b=_)=>by obtain ⟨h1,h2⟩:=hb; omega)).mono (fun b _ h=>Or.inr (Or.inl ⟨rfl,h⟩)),
  (g2.keep WW (fun b o hb _ (h:b=_)=>by obtain ⟨h1,h2⟩:=hb; omega)).mono (fun b _ h=>Or.inr (Or.inr (Or.inl ⟨rfl,h⟩))),
  (g3.keep WW (fun b o hb _ (h:b=_)=>by obtain ⟨h1,h2⟩:=hb; omega)).mono (fun b _ h=>Or.inr (Or.inr (Or.inr (Or.inl ⟨rfl,h⟩)))),
  ⟨_,_,_,rfl,(m5.keep WW (fun b o hb _ (h:b=_)=>by have:=bO _ _ hb; omega)).mono (fun b _ h=>Or.inr (Or.inr (Or.inr (Or.inr ⟨by decide,h⟩)))),(m6.keep WW (fun b o hb _ (h:b=_)=>by have:=bO _ _ hb; omega)).mono (fun b _ h=>Or.inr (Or.inr (Or.inr (Or.inr ⟨by decide,h⟩)))),(m7.keep WW (fun b o hb _ (h:b=_)=>by have:=bO _ _ hb; omega)).mono (fun b _ h=>Or.inr (Or.inr (Or.inr (Or.inr ⟨by decide,h⟩))))⟩⟩,?_,?_⟩,L0.trans (WW.below L0.size (fun b o hb (h:b=_)=>by omega))⟩
 ·intro i j b h1 h2
  rcases h1 with ⟨rfl,_,_⟩ | ⟨rfl,_,_⟩ | ⟨rfl,_,_⟩ | ⟨rfl,_,_⟩ | ⟨q1,h1⟩ <;> rcases h2 with ⟨rfl,_,_⟩ | ⟨rfl,_,_⟩ | ⟨rfl,_,_⟩ | ⟨rfl,_,_⟩ | ⟨q2,h2⟩ <;> first | rfl | omega | (have:=bO _ _ h1; omega) | (have:=bO _ _ h2; omega) | exact dO _ _ _ h1 h2
 ·intro i b h
  rcases h with ⟨rfl,_,_⟩ | ⟨rfl,_,_⟩ | ⟨rfl,_,_⟩ | ⟨rfl,_,_⟩ | ⟨q1,h1⟩ <;> first | omega | (have:=bO _ _ h1; omega)
theorem Rn {W:World} {lo g n c:Nat} {e:TypeId} {vs:List Value} (h:W.ownsRow lo e 1 (.slice (some ⟨g,0,none⟩) n c) n vs) (hc:n+1≤c) (y:Value):(W.setCell ⟨g,n,none⟩ y).ownsRow lo e 1 (.slice (some ⟨g,0,none⟩) (n+1) c) (n+1) (vs++[y]):=by
 have hl:vs.length=n:=by have:=h.1; omega
 refine ⟨by simp; omega,?_⟩
 rcases h.2 with ⟨e,_⟩ | ⟨g',cap,cur,hv,hb,hg,h1,h2,h3,h4⟩
 ·cases e
 ·have hv':=hv
  simp only [Value.slice.injEq,Option.some.injEq,Addr.mk.injEq,and_true,true_and] at hv';obtain ⟨rfl,rfl⟩:=hv';refine Or.inr ⟨g,c,cur.setIfInBounds n y,rfl,hb,Af hg _,hc,h2,by simpa using h3,?_⟩;rw [Nat.mul_one] at h3 h4 ⊢;rw [← h4]
  apply List.ext_getElem?
  intro k;rw [List.getElem?_take,List.getElem?_append,List.getElem?_take,List.length_take,Array.length_toList,Array.getElem?_toList,Array.getElem?_setIfInBounds]
  by_cases hk:k<n
  ·rw [if_pos (by omega),if_neg (by omega),if_pos (by omega),if_pos hk,Array.getElem?_toList]
  ·by_cases e:k=n
   ·subst e
    rw [if_pos (by omega),if_pos rfl,if_pos (by omega),if_neg (by omega)];rw [show k-min k cur.size=0 by omega]
    rfl
   ·rw [if_neg (by omega),if_neg (by omega),List.getElem?_eq_none (by simp; omega)]
theorem Gs {W:World} {lo g n c:Nat} {e:TypeId} {vs:List Value} (h:W.ownsRow lo e 1 (.slice (some ⟨g,0,none⟩) n c) n vs):∀ j u,vs[j]?=some u→W.cell? ((⟨g,0,none⟩:Addr).add j)=some u:=fun j u hu=>by
 have hl:vs.length=n:=by have:=h.1; omega
 rcases h.2 with ⟨e,_⟩ | ⟨g',cap,cur,hv,hb,hg,h1,h2,h3,h4⟩
 ·cases e
 ·simp only [Value.slice.injEq,Option.some.injEq,Addr.mk.injEq,and_true,true_and] at hv
  obtain ⟨rfl,rfl⟩:=hv;rw [J9,Nat.zero_add,Ag hg];rw [Nat.mul_one] at h4;rw [← h4,List.getElem?_take] at hu
  by_cases hj:j<n
  ·rw [if_pos hj,Array.getElem?_toList] at hu
   exact hu
  ·rw [if_neg hj] at hu
   cases hu
theorem Mk {W:World} {lo lo' n:Nat} {e:TypeId} {v:Value} {vs:List Value} (h:W.ownsRow lo' e 1 v n vs) (hl:lo≤lo'):W.ownsRow lo e 1 v n vs:=by
 refine ⟨h.1,?_⟩
 rcases h.2 with x | ⟨g',cap,cur,hv,hb,r⟩
 ·exact Or.inl x
 ·exact Or.inr ⟨g',cap,cur,hv,by omega,r⟩
theorem Ml {W W':World} {lo n:Nat} {e:TypeId} {v:Value} {vs:List Value} (h:W.ownsRow lo e 1 v n vs) (hb:∀ g,v.ownBlock=some g→W'.heap[g]?=W.heap[g]?):W'.ownsRow lo e 1 v n vs:=by
 refine ⟨h.1,?_⟩
 rcases h.2 with x | ⟨g',cap,cur,hv,hb',hg,r⟩
 ·exact Or.inl x
 ·exact Or.inr ⟨g',cap,cur,hv,hb',(hb g' (by rw [hv]; rfl)).trans hg,r⟩
theorem Di {W:World} {lo n:Nat} {e:TypeId} {v:Value} {vs:List Value} (h:W.ownsRow lo e 1 v n vs) {g:Nat} (hg:v.ownBlock=some g):lo≤g∧g<W.heap.size:=by
 rcases h.2 with ⟨x,_⟩ | ⟨g',cap,cur,hv,hb',hg',r⟩
 ·rw [x] at hg; cases hg
 ·rw [hv] at hg
  obtain rfl:g'=g:=by simpa [Value.ownBlock] using hg
  exact ⟨hb',Ac hg'⟩
theorem Ro (W:World) {o:Oper} {a:Act} {K:Act→World→Prop} {Q:Exit→Act→World→Prop} (s x:Operand) (hop:o.op=Op.call { callee:=Callee.builtin Builtin.append,args:=#[s,x],argTypes:=#[22,22] })
  (lo:Nat) (ov:Value) (n:Nat) (vs:List Value) (hs:a.eval s=ov) (own:W.ownsRow lo 25 1 ov n vs) (hn:n<1048576) (hlo:lo≤W.heap.size) (q:Nat) (y:Value) (hy:y.oneCell'=true) (hx:a.eval x=.slice (some ⟨q,0,none⟩) 1 1) (hq:W.cell? ⟨q,0,none⟩=some y)
  (h:∀ g' c' W',W'.ownsRow lo 25 1 (.slice (some ⟨g',0,none⟩) (n+1) c') (n+1) (vs++[y])→Wrote (fun b _=>ov.ownBlock=some b) W W'→(ov.ownBlock=some g'∨W.heap.size≤g')→K (a.put o.dst (.slice (some ⟨g',0,none⟩) (n+1) c')) W'):o.wp Tryz.prog a W K Q:=by
 obtain ⟨i0,hi,hz0,hz1,hz2⟩:=info_parts Jl
 have hl:vs.length=n:=by have:=own.1; omega
 have hnews:∀ j u,[y][j]?=some u→W.cell? ((⟨q,0,none⟩:Addr).add j)=some u:=fun j u hh=>by
  cases j with
  | zero=>simp at hh; rw [← hh]; exact hq
  | succ j=>simp at hh
 have h1:∀ u∈[y],u.oneCell'=true:=fun u hu=>by simp at hu; rw [hu]; exact hy
 rcases id own.2 with ⟨e,e0⟩ | ⟨g,c,cur,hv,hb,hg,k1,k2,k3,k4⟩
 ·obtain ⟨g',c',W',hrun,r1,r2,r3,r4⟩:=run_append_lies (P:=Tryz.prog) (w:=W) 22 o.type lo 25 i0 (.slice none 0 0) 1 24 Tryz.underlying22 hi hz0 hz1 hz2 rfl (by decide) ov n vs own ⟨q,0,none⟩ 1 1 [y] rfl hnews h1 (by omega) (by unfold maxLen; omega) (by omega) hlo W.heap.size rfl
  have hb:ov.ownBlock=none:=by rw [e]; rfl
  rw [hb] at r2 r3;have L:Below W.heap.size W W':=(Below.refl _ _).grown r2 (Nat.le_refl _) (fun _ e=>by cases e);unfold Oper.wp
  simp [execOp,hop,resolve,invoke,builtin,hs,hx,hrun,Result.andThen]
  exact h g' c' W' r1 (Ab L _) (Or.inr (by rcases r3 with r3 | r3; cases r3; omega))
 ·subst hv
  have hob:(Value.slice (some ⟨g,0,none⟩) n c).ownBlock=some g:=rfl;have hgl:=Ac hg
  by_cases hr:n+1≤c
  ·have hsp:(W.cell? ⟨g,n,none⟩).isSome=true∧W.frozen? ⟨g,n,none⟩=false:=by
    refine ⟨?_,As hg n⟩;rw [Ag hg n,Array.getElem?_eq_getElem (by omega)]
    rfl
   have hrun:=run_append_room_cells (P:=Tryz.prog) W 22 o.type 25 i0 Tryz.underlying22 hi g 0 n c ⟨q,0,none⟩ 1 1 [y] (by rw [hz1]; rfl) hnews h1 hr
    (fun j hj=>by have:j=0:=(by simpa using hj); subst this; rw [hz1]; simpa using hsp.1) (fun j hj=>by have:j=0:=(by simpa using hj); subst this; rw [hz1]; simpa using hsp.2)
   rw [hz1] at hrun;unfold Oper.wp
   simp [execOp,hop,resolve,invoke,builtin,hs,hx,hrun,Result.andThen,World.setCells]
   exact h g c _ (Rn own hr y) (Wrote.setCell (R:=fun b _=>(Value.slice (some ⟨g,0,none⟩) n c).ownBlock=some b) (Wrote.refl _ W) (fun _=>hob) _) (Or.inl hob)
  ·obtain ⟨v',w',hrun,r1,r2⟩:=run_append_arg_grows (P:=Tryz.prog) W 22 o.type 25 i0 (.slice none 0 0) 1 24 Tryz.underlying22 hi hz0 hz1 hz2 rfl (by decide) ⟨g,0,none⟩ n c vs (by rw [hl,Nat.mul_one]) (Gs own) ⟨q,0,none⟩ 1 1 [y] rfl hnews (by omega) (by unfold maxLen; omega) (by omega)
   obtain ⟨g',cap2,rfl,hg',hlt⟩:=r1.form (by omega);have L:Below W.heap.size W w':=(Below.refl _ _).grown r2 (Nat.le_refl _) (fun _ e=>by cases e);unfold Oper.wp
   simp [execOp,hop,resolve,invoke,builtin,hs,hx,hrun,Result.andThen]
   exact h g' cap2 w' (Mk r1 hlo) (Ab L _) (Or.inr hg')
theorem Jz (W:World) {ops:Array Oper} {rest:List Oper} {o:Oper} {a:Act} {Q:Exit→Act→World→Prop} (hg:o.guard=none) (s x:Operand) (hop:o.op=Op.call { callee:=Callee.builtin Builtin.append,args:=#[s,x],argTypes:=#[22,22] })
  (lo:Nat) (ov:Value) (n:Nat) (vs:List Value) (hs:a.eval s=ov) (own:W.ownsRow lo 25 1 ov n vs) (hn:n<1048576) (hlo:lo≤W.heap.size) (q:Nat) (y:Value) (hy:y.oneCell'=true) (hx:a.eval x=.slice (some ⟨q,0,none⟩) 1 1) (hq:W.cell? ⟨q,0,none⟩=some y)
  (h:∀ g' c' W',W'.ownsRow lo 25 1 (.slice (some ⟨g',0,none⟩) (n+1) c') (n+1) (vs++[y])→Wrote (fun b _=>ov.ownBlock=some b) W W'→(ov.ownBlock=some g'∨W.heap.size≤g')→wpList Tryz.prog ops Q rest (a.put o.dst (.slice (some ⟨g',0,none⟩) (n+1) c')) W'):wpList Tryz.prog ops Q (o :: rest) a W :=
 wpList_plain hg fun K hK=>Ro W s x hop lo ov n vs hs own hn hlo q y hy hx hq (fun g c W' r1 r2 r3=>hK _ _ (h g c W' r1 r2 r3))
def Ku (q:Nat) (gb:Nat→Nat) (ln cp:Nat→Nat):List Value:=(List.range q).map (fun i=>.slice (some ⟨gb i,0,none⟩) (ln i) (cp i))
theorem Xe (q g c:Nat) (gb ln cp:Nat→Nat):Ku q gb ln cp++[.slice (some ⟨g,0,none⟩) (ln q) c]=Ku (q+1) (fun i=>if i=q then g else gb i) ln (fun i=>if i=q then c else cp i):=by
 unfold Ku;rw [List.range_succ,List.map_append]
 congr 1
 ·apply List.map_congr_left
  intro i hi;have:=List.mem_range.1 hi
  show _=Value.slice (some ⟨if i=q then g else gb i,0,none⟩) (ln i) (if i=q then c else cp i)
  rw [if_neg (by omega),if_neg (by omega)]
 ·simp
structure SG (W:World) (lo:Nat) (ov:Value) (q:Nat) (gb cp ln:Nat→Nat) (f:Nat→Nat→Int):Prop where
 own:W.ownsRow lo 25 1 ov q (Ku q gb ln cp)
 rows:∀ i,i<q→Row W lo (gb i) (ln i) (cp i) (f i)
 inj:∀ i j,i<q→j<q→i≠j→gb i≠gb j
 dj:∀ g,ov.ownBlock=some g→∀ i,i<q→gb i≠g
 small:q≤1048576
section
variable {W W':World} {lo q:Nat} {ov:Value} {gb cp ln:Nat→Nat} {f:Nat→Nat→Int} {R:Nat→Nat→Prop}
theorem SG.nil (W:World) (lo:Nat) (gb cp ln:Nat→Nat) (f:Nat→Nat→Int):SG W lo (.slice none 0 0) 0 gb cp ln f :=
 ⟨⟨rfl,Or.inl ⟨rfl,rfl⟩⟩,fun i hi=>absurd hi (Nat.not_lt_zero _),fun i j hi=>absurd hi (Nat.not_lt_zero _),fun g h=>(by cases h),by omega⟩
theorem SG.start {W:World} {lo g:Nat} (h:W.heap[g]?=some (.cells #[] 25 (0,0))) (hl:lo≤g) (gb cp ln:Nat→Nat) (f:Nat→Nat→Int):SG W lo (.slice (some ⟨g,0,none⟩) 0 0) 0 gb cp ln f :=
 ⟨⟨rfl,Or.inr ⟨g,0,#[],rfl,hl,h,Nat.le_refl _,by simp,rfl,rfl⟩⟩,fun i hi=>absurd hi (Nat.not_lt_zero _),fun i j hi=>absurd hi (Nat.not_lt_zero _),fun g h i hi=>absurd hi (Nat.not_lt_zero _),by omega⟩
theorem SG.keep (H:SG W lo ov q gb cp ln f) (hw:Wrote R W W') (h1:∀ g o,ov.ownBlock=some g→¬ R g o) (h2:∀ i o,i<q→¬ R (gb i) o):SG W' lo ov q gb cp ln f :=
 ⟨Ml H.own (fun g hg=>hw.block g (Di H.own hg).2 (fun o=>h1 g o hg)),fun i hi=>(H.rows i hi).keep hw (fun o=>h2 i o hi),H.inj,H.dj,H.small⟩
theorem SG.below (H:SG W lo ov q gb cp ln f) (L:Below W.heap.size W W'):SG W' lo ov q gb cp ln f:=H.keep (Ab L Aj) (fun _ _ _ x=>x) (fun _ _ _ x=>x)
theorem SG.push {g' c' gN cN:Nat} (H:SG W lo ov q gb cp ln f) (hw:Wrote (fun b _=>ov.ownBlock=some b) W W') (own':W'.ownsRow lo 25 1 (.slice (some ⟨g',0,none⟩) (q+1) c') (q+1) (Ku q gb ln cp++[.slice (some ⟨gN,0,none⟩) (ln q) cN])) (hat:ov.ownBlock=some g'∨W.heap.size≤g')
  (RN:Row W lo gN (ln q) cN (f q)) (hN1:ov.ownBlock≠some gN) (hN2:∀ i,i<q→gb i≠gN) (hq:q<1048576):SG W' lo (.slice (some ⟨g',0,none⟩) (q+1) c') (q+1) (fun i=>if i=q then gN else gb i) (fun i=>if i=q then cN else cp i) ln f:=by
 rw [Xe] at own';refine ⟨own',fun i hi=>?_,fun i j hi hj hij=>?_,fun g hg i hi=>?_,by omega⟩
 ·by_cases e:i=q
  ·subst e
   simp only [if_true];exact RN.keep hw (fun o h=>hN1 h)
  ·simp only [if_neg e]
   exact (H.rows i (by omega)).keep hw (fun o h=>H.dj _ h i (by omega) rfl)
 ·by_cases e:i=q
  ·rw [if_pos e,if_neg (by omega)]
   exact fun x=>hN2 j (by omega) x.symm
  ·by_cases e':j=q
   ·rw [if_neg e,if_pos e']
    exact hN2 i (by omega)
   ·rw [if_neg e,if_neg e']
    exact H.inj i j (by omega) (by omega) hij
 ·obtain rfl:g'=g:=by simpa [Value.ownBlock] using hg
  by_cases e:i=q
  ·rw [if_pos e]
   rcases hat with h | h
   ·exact fun x=>hN1 (x ▸ h)
   ·have:=RN.parts.2.1
    omega
  ·rw [if_neg e]
   rcases hat with h | h
   ·exact H.dj _ h i (by omega)
   ·have:=(H.rows i (by omega)).parts.2.1
    omega
theorem SG.on (H:SG W lo ov q gb cp ln f) {D:Nat→Prop} (hD:∀ b,lo≤b→b<W.heap.size→D b) (hs:psum ln q≤1099511627776):Co W D ov q ln f:=by
 have key:∀ i,i<q→∀ b o,Da (some ⟨gb i,0,none⟩) (ln i) b o→b=gb i:=fun i hi b o ⟨off,e,_,_⟩=>by
  simp only [Option.some.injEq,Addr.mk.injEq] at e;exact e.1.symm
 rcases id H.own.2 with ⟨e,e0⟩ | ⟨g,c,cur,hv,hb,hg,k1,k2,k3,k4⟩
 ·have hq:q=0:=by simpa using e0
  subst hq;subst e;refine ⟨fun _=>none,fun _=>0,⟨⟨none,0,rfl,by omega,fun i hi=>absurd hi (Nat.not_lt_zero _)⟩,fun i hi=>absurd hi (Nat.not_lt_zero _),fun i j hi=>absurd hi (Nat.not_lt_zero _),hs⟩,fun i hi=>absurd hi (Nat.not_lt_zero _),fun i hi=>absurd hi (Nat.not_lt_zero _),fun a cap e b o hF=>absurd hF (Bo _ _ _),fun i hi=>absurd hi (Nat.not_lt_zero _)⟩
 ·subst hv
  have hob:(Value.slice (some ⟨g,0,none⟩) q c).ownBlock=some g:=rfl
  have hcell:∀ i,i<q→W.cell? ⟨g,i,none⟩=some (.slice (some ⟨gb i,0,none⟩) (ln i) (cp i)):=fun i hi=>by
   have:=Gs H.own i (.slice (some ⟨gb i,0,none⟩) (ln i) (cp i)) (by unfold Ku; simp [hi])
   rwa [J9,Nat.zero_add] at this
  refine ⟨fun i=>some ⟨gb i,0,none⟩,cp,⟨⟨_,_,rfl,H.small,fun i hi=>⟨g,0,rfl,by rw [Nat.zero_add]; exact hcell i hi,fun j hj hF=>H.dj g hob j hj (key j hj _ _ hF).symm⟩⟩,fun i hi=>(H.rows i hi).sl.free,fun i j hi hj hij b o h1 h2=>H.inj i j hi hj hij ((key i hi _ _ h1).symm.trans (key j hj _ _ h2)),hs⟩,fun i hi=>(H.rows i hi).sl.row,fun i hi b o hF=>?_,fun a cap e b o hF=>?_,fun i hi=>(H.rows i hi).small⟩
  ·rw [key i hi b o hF]
   exact hD _ (H.rows i hi).parts.1 (H.rows i hi).parts.2.1
  ·simp only [Value.slice.injEq,true_and] at e
   obtain ⟨rfl,-⟩:=e;obtain ⟨off,e,_,_⟩:=hF;simp only [Option.some.injEq,Addr.mk.injEq] at e;rw [← e.1];exact hD _ hb (Ac hg)
end
end Go.Proofs.YtgcmimcalmjaaaaGreatDoor
