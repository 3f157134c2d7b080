import Derived.Test.YtgcmimcalmjaaaaGreatDoorKO
import Derived.Test.YtgcmimcalmjaaaaGreatDoorI8c
namespace Go.Proofs.YtgcmimcalmjaaaaGreatDoor
set_option maxHeartbeats 4000000
set_option linter.unusedVariables false
set_option linter.unusedSimpArgs false
open Go.ChangeShapes Go.WideShapes Go.ChangeAt Go.RowKit
structure Aq where
 m:Nat
 ln:Nat→Nat
 f:Nat→Nat→Int
 np:Nat
 p:Nat→Int
 nr:Nat
 g:Nat→Int
 bank:Int
 A:Int
 X:Int
 S:Int
 Pc:Int
 Z:Bool
 N:Bool
 C:Bool
 I:Bool
 t:Int
 c:Int
 s:Int
 ad:Int
 pl:Int
 bl:Bool
 nt:Nat
 tb:Nat→Int
 nd:Nat
 dt:Nat→Int
 T:Int
 P:Int
 K:Int
 B:Int
 L:Int
 Q:Bool
 R:Bool
 hd:Bool
 sh:Int
 nmi:Bool
 st:Int
 mf:Nat
 lf:Nat→Nat
 fr:Nat→Nat→Int
 ns:Nat
 sm:Nat→Int
 nq:Nat
 rd:Nat→Int
@[reducible] def kR (d:Aq) (u0 u1 u2 u3 u4 u5 u6 u7:Value):Array Value:=#[u0,u1,u2,.int .i64 d.bank,.int .i64 d.A,.int .i64 d.X,.int .i64 d.S,.int .i64 d.Pc,.bool d.Z,.bool d.N,.bool d.C,.bool d.I,.int .i64 d.t,.int .i64 d.c,.int .i64 d.s,.int .i64 d.ad,.int .i64 d.pl,.bool d.bl,u3,u4,.int .i64 d.T,.int .i64 d.P,.int .i64 d.K,.int .i64 d.B,.int .i64 d.L,.bool d.Q,.bool d.R,.bool d.hd,.int .i64 d.sh,.bool d.nmi,.int .i64 d.st,u5,u6,u7]
structure Bh (W:World) (D:Nat→Nat→Prop) (v:Value) (d:Aq):Prop where
 ex:∃ u0 u1 u2 u3 u4 u5 u6 u7,v=.agg (kR d u0 u1 u2 u3 u4 u5 u6 u7)∧Co W (D 0) u0 d.m d.ln d.f∧By W (D 1) u1 d.np d.p∧Bw W (D 2) (.agg #[u2,.i d.bank]) d.nr d.g d.bank∧Cf W (D 3) (.agg (pR d.t d.c d.s d.ad d.pl d.bl u3 u4)) d.t d.c d.s d.ad d.pl d.bl d.nt d.tb d.nd d.dt∧Fl W D (.agg #[u5,u6,u7]) d.mf d.lf d.fr d.ns d.sm d.nq d.rd
section
variable {R:Nat→Nat→Prop} {W W':World} {D E:Nat→Nat→Prop} {v:Value} {d:Aq}
theorem Fl.keep {mf:Nat} {lf:Nat→Nat} {fr:Nat→Nat→Int} {ns:Nat} {sm:Nat→Int} {nq:Nat} {rd:Nat→Int} (H:Fl W D v mf lf fr ns sm nq rd) (hw:Wrote R W W') (hd:∀ i b o,4≤i→D i b→b<W.heap.size→¬ R b o):Fl W' D v mf lf fr ns sm nq rd:=by
 obtain ⟨u5,u6,u7,e,h5,h6,h7⟩:=H;exact ⟨u5,u6,u7,e,h5.keep hw (fun b o=>hd 4 b o (by decide)),h6.keep hw (fun b o=>hd 5 b o (by decide)),h7.keep hw (fun b o=>hd 6 b o (by decide))⟩
theorem Fl.mono {mf:Nat} {lf:Nat→Nat} {fr:Nat→Nat→Int} {ns:Nat} {sm:Nat→Int} {nq:Nat} {rd:Nat→Int} (H:Fl W D v mf lf fr ns sm nq rd) (hd:∀ i b,b<W.heap.size→D i b→E i b):Fl W E v mf lf fr ns sm nq rd:=by
 obtain ⟨u5,u6,u7,e,h5,h6,h7⟩:=H;exact ⟨u5,u6,u7,e,h5.mono (hd 4),h6.mono (hd 5),h7.mono (hd 6)⟩
theorem Bh.keep (H:Bh W D v d) (hw:Wrote R W W') (hd:∀ i b o,D i b→b<W.heap.size→¬ R b o):Bh W' D v d:=by
 obtain ⟨u0,u1,u2,u3,u4,u5,u6,u7,e,h0,h1,h2,h3,h4⟩:=H;exact ⟨u0,u1,u2,u3,u4,u5,u6,u7,e,h0.keep hw (hd 0),h1.keep hw (hd 1),h2.keep hw (hd 2),h3.keep hw (hd 3),h4.keep hw (fun i b o _=>hd i b o)⟩
theorem Bh.below (H:Bh W D v d) (L:Below W.heap.size W W'):Bh W' D v d:=H.keep (Ab L Aj) (fun _ _ _ _ _ x=>x)
theorem Bh.mono (H:Bh W D v d) (hd:∀ i b,b<W.heap.size→D i b→E i b):Bh W E v d:=by
 obtain ⟨u0,u1,u2,u3,u4,u5,u6,u7,e,h0,h1,h2,h3,h4⟩:=H;exact ⟨u0,u1,u2,u3,u4,u5,u6,u7,e,h0.mono (hd 0),h1.mono (hd 1),h2.mono (hd 2),h3.mono (hd 3),h4.mono hd⟩
theorem Bh.form (H:Bh W D v d):∃ x0 x1 x2 x3 x4 x5 x6 x7 x8 x9 x10 x11 x12 x13 x14 x15 x16 x17 x18 x19 x20 x21 x22 x23 x24 x25 x26 x27 x28 x29 x30 x31 x32 x33,v=.agg #[x0,x1,x2,x3,x4,x5,x6,x7,x8,x9,x10,x11,x12,x13,x14,x15,x16,x17,x18,x19,x20,x21,x22,x23,x24,x25,x26,x27,x28,x29,x30,x31,x32,x33]:=by
 obtain ⟨u0,u1,u2,u3,u4,u5,u6,u7,e,-⟩:=H;exact ⟨_,_,_,_,_,_,_,_,_,_,_,_,_,_,_,_,_,_,_,_,_,_,_,_,_,_,_,_,_,_,_,_,_,_,e⟩
end
def Ix (d:Aq) (k:Int):Aq:={ d with
 f:=fun i j=>k+psum d.ln i+j
 p:=fun i=>k+psum d.ln d.m+i
 g:=fun i=>k+psum d.ln d.m+d.np+i
 tb:=fun i=>k+psum d.ln d.m+d.np+d.nr+i
 dt:=fun i=>k+psum d.ln d.m+d.np+d.nr+d.nt+i
 fr:=fun i j=>k+psum d.ln d.m+d.np+d.nr+d.nt+d.nd+psum d.lf i+j
 sm:=fun i=>k+psum d.ln d.m+d.np+d.nr+d.nt+d.nd+psum d.lf d.mf+i
 rd:=fun i=>k+psum d.ln d.m+d.np+d.nr+d.nt+d.nd+psum d.lf d.mf+d.ns+i }
def Ds (d:Aq):Int:=psum d.ln d.m+d.np+d.nr+d.nt+d.nd+psum d.lf d.mf+d.ns+d.nq
theorem Jy (w:World) (D E:Nat→Nat→Prop) (v u:Value) (d:Aq) (H:Bh w D v d) (K:Bh w E u d) :
  Calls Tryz.prog 8 #[v,u] w fun e w'=>e=.returned (.bool true)∧Below w.heap.size w w':=by
 obtain ⟨u0,u1,u2,u3,u4,u5,u6,u7,rfl,h0,h1,h2,h3,h4⟩:=H;obtain ⟨v0,v1,v2,v3,v4,v5,v6,v7,rfl,k0,k1,k2,k3,k4⟩:=K;have L0:Below w.heap.size w ((w.alloc (.cells (kR d u0 u1 u2 u3 u4 u5 u6 u7) 49)).alloc (.cells (kR d v0 v1 v2 v3 v4 v5 v6 v7) 49)):=((Below.refl _ _).alloc (Nat.le_refl _) _).alloc (by simp) _;have B0:((w.alloc (.cells (kR d u0 u1 u2 u3 u4 u5 u6 u7) 49)).alloc (.cells (kR d v0 v1 v2 v3 v4 v5 v6 v7) 49)).heap[w.heap.size]?=some (.cells (kR d u0 u1 u2 u3 u4 u5 u6 u7) 49 (0,0)):=Ax (Al w _ _) _
 have B1:((w.alloc (.cells (kR d u0 u1 u2 u3 u4 u5 u6 u7) 49)).alloc (.cells (kR d v0 v1 v2 v3 v4 v5 v6 v7) 49)).heap[w.heap.size+1]?=some (.cells (kR d v0 v1 v2 v3 v4 v5 v6 v7) 49 (0,0)):=by simpa using Al (w.alloc (.cells (kR d u0 u1 u2 u3 u4 u5 u6 u7) 49)) (kR d v0 v1 v2 v3 v4 v5 v6 v7) 49
 replace h0:=h0.below L0;replace k0:=k0.below L0;replace h1:=h1.below L0;replace k1:=k1.below L0;replace h2:=h2.below L0;replace k2:=k2.below L0;replace h3:=h3.below L0;replace k3:=k3.below L0;replace h4:=h4.keep (Ab L0 Aj) (fun _ _ _ _ _ _ x=>x);replace k4:=k4.keep (Ab L0 Aj) (fun _ _ _ _ _ _ x=>x)
 have hnn:(d.nmi != d.nmi)=false:=by simp
 go_enter Tryz.func8,Tryz.ntmps8
 go_wp2_with fail;generalize (w.alloc (.cells (kR d u0 u1 u2 u3 u4 u5 u6 u7) 49)).alloc (.cells (kR d v0 v1 v2 v3 v4 v5 v6 v7) 49)=W0 at *;refine (Jbc _ _ _ _ _ d.m d.ln d.f h0 k0).mono ?_;rintro e W1 ⟨rfl,L⟩;replace L0:=Ae L0 L;replace B0:=Aa B0 L (Ac B0);replace B1:=Aa B1 L (Ac B1);clear h0 k0;replace h1:=h1.below L;replace k1:=k1.below L;replace h2:=h2.below L;replace k2:=k2.below L;replace h3:=h3.below L;replace k3:=k3.below L;replace h4:=h4.keep (Ab L Aj) (fun _ _ _ _ _ _ x=>x);replace k4:=k4.keep (Ab L Aj) (fun _ _ _ _ _ _ x=>x);clear L;have c0:=Ag B0;have c1:=Ag B1;go_wp2_with fail;clear c0 c1;refine (Me _ _ _ _ _ d.np d.p h1 k1).mono ?_;rintro e W2 ⟨rfl,L⟩;replace L0:=Ae L0 L;replace B0:=Aa B0 L (Ac B0);replace B1:=Aa B1 L (Ac B1);clear h1 k1
 replace h2:=h2.below L;replace k2:=k2.below L;replace h3:=h3.below L;replace k3:=k3.below L;replace h4:=h4.keep (Ab L Aj) (fun _ _ _ _ _ _ x=>x);replace k4:=k4.keep (Ab L Aj) (fun _ _ _ _ _ _ x=>x);clear L;have c0:=Ag B0;have c1:=Ag B1;go_wp2_with fail;clear c0 c1;refine (Jan _ _ _ _ _ d.nr d.g d.bank h2 k2).mono ?_;rintro e W3 ⟨rfl,L⟩;replace L0:=Ae L0 L;replace B0:=Aa B0 L (Ac B0);replace B1:=Aa B1 L (Ac B1);clear h2 k2;replace h3:=h3.below L;replace k3:=k3.below L;replace h4:=h4.keep (Ab L Aj) (fun _ _ _ _ _ _ x=>x);replace k4:=k4.keep (Ab L Aj) (fun _ _ _ _ _ _ x=>x);clear L;have c0:=Ag B0;have c1:=Ag B1;go_wp2_with fail;clear c0 c1;refine (Sy _ d.A d.X d.S d.Pc d.Z d.N d.C d.I).mono ?_;rintro e W4 ⟨rfl,L⟩;replace L0:=Ae L0 L
 replace B0:=Aa B0 L (Ac B0);replace B1:=Aa B1 L (Ac B1);replace h3:=h3.below L;replace k3:=k3.below L;replace h4:=h4.keep (Ab L Aj) (fun _ _ _ _ _ _ x=>x);replace k4:=k4.keep (Ab L Aj) (fun _ _ _ _ _ _ x=>x);clear L;have c0:=Ag B0;have c1:=Ag B1;go_wp2_with fail;clear c0 c1;refine (Jav _ _ _ _ _ d.t d.c d.s d.ad d.pl d.bl d.nt d.tb d.nd d.dt h3 k3).mono ?_;rintro e W5 ⟨rfl,L⟩;replace L0:=Ae L0 L;replace B0:=Aa B0 L (Ac B0);replace B1:=Aa B1 L (Ac B1);clear h3 k3;replace h4:=h4.keep (Ab L Aj) (fun _ _ _ _ _ _ x=>x);replace k4:=k4.keep (Ab L Aj) (fun _ _ _ _ _ _ x=>x);clear L;have c0:=Ag B0;have c1:=Ag B1;go_wp2_with fail;clear c0 c1;refine (Tg _ d.T d.P d.K d.B d.L d.Q d.R).mono ?_;rintro e W6 ⟨rfl,L⟩;replace L0:=Ae L0 L
 replace B0:=Aa B0 L (Ac B0);replace B1:=Aa B1 L (Ac B1);replace h4:=h4.keep (Ab L Aj) (fun _ _ _ _ _ _ x=>x);replace k4:=k4.keep (Ab L Aj) (fun _ _ _ _ _ _ x=>x);clear L;have c0:=Ag B0;have c1:=Ag B1;go_wp2_with fail;clear c0 c1;refine (Tm _ d.hd d.sh).mono ?_;rintro e W7 ⟨rfl,L⟩;replace L0:=Ae L0 L;replace B0:=Aa B0 L (Ac B0);replace B1:=Aa B1 L (Ac B1);replace h4:=h4.keep (Ab L Aj) (fun _ _ _ _ _ _ x=>x);replace k4:=k4.keep (Ab L Aj) (fun _ _ _ _ _ _ x=>x);clear L;have c0:=Ag B0;have c1:=Ag B1;go_wp2_with fail;clear c0 c1;refine (Jbe _ _ _ _ _ d.mf d.lf d.fr d.ns d.sm d.nq d.rd h4 k4).mono ?_;rintro e W8 ⟨rfl,L⟩;replace L0:=Ae L0 L;clear h4 k4;clear L;go_wp2;go_ret;exact ⟨rfl,L0⟩
theorem Mj (w:World) (D:Nat→Nat→Prop) (v:Value) (d:Aq) (k:Int) (H:Bh w D v d) (dis:Xb D) (lt:∀ i b,D i b→b<w.heap.size) (k0:0≤k) (k1:k+Ds d≤1099511627776) :
  Calls Tryz.prog 9 #[v,.i k] w fun e w'=>e=.returned (.i (k+Ds d))∧Bh w' D v (Ix d k)∧Wrote (fun b _=>∃ i,D i b) w w':=by
 obtain ⟨u0,u1,u2,u3,u4,u5,u6,u7,rfl,h0,h1,h2,h3,h4⟩:=H;have L0:Below w.heap.size w (w.alloc (.cells (kR d u0 u1 u2 u3 u4 u5 u6 u7) 49)):=(Below.refl _ _).alloc (Nat.le_refl _) _;have B0:=Al w (kR d u0 u1 u2 u3 u4 u5 u6 u7) 49;have WW:=Ab L0 (fun b _=>∃ i,D i b);replace h0:=h0.below L0;replace h1:=h1.below L0;replace h2:=h2.below L0;replace h3:=h3.below L0;replace h4:=h4.keep (Ab L0 Aj) (fun _ _ _ _ _ _ x=>x)
 obtain ⟨s0,hs0⟩:∃ s:Int,Hid (s=(psum d.ln d.m:Nat)):=⟨_,rfl⟩
 obtain ⟨s5,hs5⟩:∃ s:Int,Hid (s=(psum d.lf d.mf:Nat)):=⟨_,rfl⟩
 have s00:0≤s0:=by rw [hs0.out]; omega
 have s50:0≤s5:=by rw [hs5.out]; omega
 have hN:Hid (k+Ds d=k+s0+d.np+d.nr+d.nt+d.nd+s5+d.ns+d.nq):=by
  show _=_
  unfold Ds;rw [hs0.out,hs5.out]
  omega
 rw [hN.out] at k1 ⊢
 have hlt:∀ i b,D i b→b<(w.alloc (.cells (kR d u0 u1 u2 u3 u4 u5 u6 u7) 49)).heap.size:=fun i b h=>by have:=lt i b h; simp; omega
 have M0:=Ad (fun W h=>Wy W (D 0) u0 d.m d.ln d.f k h k0 (by omega));have M4:=Ad (fun W h l=>Xc W D (.agg #[u5,u6,u7]) d.mf d.lf d.fr d.ns d.sm d.nq d.rd (k+s0+d.np+d.nr+d.nt+d.nd) h dis l (by omega) (by rw [← hs5.out]; omega));rw [← hs0.out] at M0;rw [← hs5.out] at M4
 go_enter Tryz.func9,Tryz.ntmps9
 go_wp2_with fail;generalize w.alloc (.cells (kR d u0 u1 u2 u3 u4 u5 u6 u7) 49)=W0 at *;refine (M0.out _ h0).mono ?_;rintro e W1 ⟨rfl,h0,T⟩;replace B0:=Ah B0 T (fun o (h:D 0 _)=>by have:=lt _ _ h; omega);replace WW:=WW.trans (T.mono (fun b o _ h=>⟨0,h⟩))
 replace hlt:=fun i b (h:D i b)=>Nat.lt_of_lt_of_le (hlt i b h) T.size
 replace h1:=h1.keep T (fun b o hb _ h=>absurd (dis _ _ b hb h) (by decide));replace h2:=h2.keep T (fun b o hb _ h=>absurd (dis _ _ b hb h) (by decide));replace h3:=h3.keep T (fun b o hb _ h=>absurd (dis _ _ b hb h) (by decide));replace h4:=h4.keep T (fun i b o hi hb _ h=>by have:=dis _ _ b hb h; omega);clear T;have c1:=Ag B0;go_wp2_with fail;clear c1;refine (I6 _ (D 1) _ d.np d.p (k+s0) h1 (by omega) (by omega)).mono ?_;rintro e W2 ⟨rfl,h1,T⟩;replace B0:=Ah B0 T (fun o (h:D 1 _)=>by have:=lt _ _ h; omega);replace WW:=WW.trans (T.mono (fun b o _ h=>⟨1,h⟩))
 replace hlt:=fun i b (h:D i b)=>Nat.lt_of_lt_of_le (hlt i b h) T.size
 replace h0:=h0.keep T (fun b o hb _ h=>absurd (dis _ _ b hb h) (by decide));replace h2:=h2.keep T (fun b o hb _ h=>absurd (dis _ _ b hb h) (by decide));replace h3:=h3.keep T (fun b o hb _ h=>absurd (dis _ _ b hb h) (by decide));replace h4:=h4.keep T (fun i b o hi hb _ h=>by have:=dis _ _ b hb h; omega);clear T;have c1:=Ag B0;go_wp2_with fail;clear c1;refine (V8 _ (D 2) _ d.nr d.g d.bank (k+s0+d.np) h2 (by omega) (by omega)).mono ?_;rintro e W3 ⟨rfl,h2,T⟩;replace B0:=Ah B0 T (fun o (h:D 2 _)=>by have:=lt _ _ h; omega);replace WW:=WW.trans (T.mono (fun b o _ h=>⟨2,h⟩))
 replace hlt:=fun i b (h:D i b)=>Nat.lt_of_lt_of_le (hlt i b h) T.size
 replace h0:=h0.keep T (fun b o hb _ h=>absurd (dis _ _ b hb h) (by decide));replace h1:=h1.keep T (fun b o hb _ h=>absurd (dis _ _ b hb h) (by decide));replace h3:=h3.keep T (fun b o hb _ h=>absurd (dis _ _ b hb h) (by decide));replace h4:=h4.keep T (fun i b o hi hb _ h=>by have:=dis _ _ b hb h; omega);clear T;have c1:=Ag B0;go_wp2_with fail;clear c1;refine (Wm _ (D 3) _ d.t d.c d.s d.ad d.pl d.bl d.nt d.tb d.nd d.dt (k+s0+d.np+d.nr) h3 (by omega) (by omega)).mono ?_;rintro e W4 ⟨rfl,h3,T⟩;replace B0:=Ah B0 T (fun o (h:D 3 _)=>by have:=lt _ _ h; omega);replace WW:=WW.trans (T.mono (fun b o _ h=>⟨3,h⟩))
 replace hlt:=fun i b (h:D i b)=>Nat.lt_of_lt_of_le (hlt i b h) T.size
 replace h0:=h0.keep T (fun b o hb _ h=>absurd (dis _ _ b hb h) (by decide));replace h1:=h1.keep T (fun b o hb _ h=>absurd (dis _ _ b hb h) (by decide));replace h2:=h2.keep T (fun b o hb _ h=>absurd (dis _ _ b hb h) (by decide));replace h4:=h4.keep T (fun i b o hi hb _ h=>by have:=dis _ _ b hb h; omega);clear T;have c1:=Ag B0;go_wp2_with fail;clear c1;refine (M4.out _ h4 hlt).mono ?_;rintro e W5 ⟨rfl,h4,T⟩;replace WW:=WW.trans (T.mono (fun b o _ h=>by rcases h with h | h | h <;> exact ⟨_,h⟩));replace h0:=h0.keep T (fun b o hb _ h=>by rcases h with h | h | h <;> exact absurd (dis _ _ b hb h) (by decide));replace h1:=h1.keep T (fun b o hb _ h=>by rcases h with h | h | h <;> exact absurd (dis _ _ b hb h) (by decide));replace h2:=h2.keep T (fun b o hb _ h=>by rcases h with h | h | h <;> exact absurd (dis _ _ b hb h) (by decide))
 replace h3:=h3.keep T (fun b o hb _ h=>by rcases h with h | h | h <;> exact absurd (dis _ _ b hb h) (by decide));have HE:=Ad (And.intro h0 (And.intro h1 (And.intro h2 (And.intro h3 (And.intro h4 WW)))));clear h0 h1 h2 h3 h4 WW B0 T hlt M0 M4;go_wp2;go_ret;have e0:=hs0.out;have e5:=hs5.out;subst e0;subst e5;exact ⟨rfl,⟨_,_,_,_,_,_,_,_,rfl,HE.out.1,HE.out.2.1,HE.out.2.2.1,HE.out.2.2.2.1,HE.out.2.2.2.2.1⟩,HE.out.2.2.2.2.2⟩
theorem Tn (w:World) (D:Nat→Nat→Prop) (v:Value) (d:Aq) (k:Int) (H:Bh w D v (Ix d k)) (k0:0≤k) (k1:k+Ds d≤1099511627776) :
  Calls Tryz.prog 10 #[v,.i k] w fun e w'=>e=.returned (.i (k+Ds d))∧Below w.heap.size w w':=by
 obtain ⟨u0,u1,u2,u3,u4,u5,u6,u7,e,h0,h1,h2,h3,h4⟩:=H;replace e:v=.agg (kR d u0 u1 u2 u3 u4 u5 u6 u7):=e;subst e;have L0:Below w.heap.size w (w.alloc (.cells (kR d u0 u1 u2 u3 u4 u5 u6 u7) 49)):=(Below.refl _ _).alloc (Nat.le_refl _) _;have B0:=Al w (kR d u0 u1 u2 u3 u4 u5 u6 u7) 49;replace h0:=h0.below L0;replace h1:=h1.below L0;replace h2:=h2.below L0;replace h3:=h3.below L0;replace h4:=h4.keep (Ab L0 Aj) (fun _ _ _ _ _ _ x=>x)
 obtain ⟨s0,hs0⟩:∃ s:Int,Hid (s=(psum d.ln d.m:Nat)):=⟨_,rfl⟩
 obtain ⟨s5,hs5⟩:∃ s:Int,Hid (s=(psum d.lf d.mf:Nat)):=⟨_,rfl⟩
 have s00:0≤s0:=by rw [hs0.out]; omega
 have s50:0≤s5:=by rw [hs5.out]; omega
 have hN:Hid (k+Ds d=k+s0+d.np+d.nr+d.nt+d.nd+s5+d.ns+d.nq):=by
  show _=_
  unfold Ds;rw [hs0.out,hs5.out]
  omega
 rw [hN.out] at k1 ⊢
 have M0:Hid (∀ W,Co W (D 0) u0 d.m d.ln (Ix d k).f→Calls Tryz.prog 43 #[.agg #[u0],.i k] W fun e w'=>e=.returned (.i (k+s0))∧Below W.heap.size W w'):=fun W h=>by rw [hs0.out]; exact Xa W (D 0) u0 d.m d.ln k h k0 (by omega)
 have M1:Hid (∀ W,By W (D 1) u1 d.np (Ix d k).p→Calls Tryz.prog 44 #[u1,.i (k+s0)] W fun e w'=>e=.returned (.i (k+s0+d.np))∧Below W.heap.size W w'):=fun W h=>I7 W (D 1) u1 d.np (k+s0) (by rw [hs0.out]; exact h) (by omega) (by omega)
 have M2:Hid (∀ W,Bw W (D 2) (.agg #[u2,.i d.bank]) d.nr (Ix d k).g d.bank→Calls Tryz.prog 45 #[.agg #[u2,.i d.bank],.i (k+s0+d.np)] W fun e w'=>e=.returned (.i (k+s0+d.np+d.nr))∧Below W.heap.size W w'):=fun W h=>V9 W (D 2) _ d.nr d.bank (k+s0+d.np) (by rw [hs0.out]; exact h) (by omega) (by omega)
 have M3:Hid (∀ W,Cf W (D 3) (.agg (pR d.t d.c d.s d.ad d.pl d.bl u3 u4)) d.t d.c d.s d.ad d.pl d.bl d.nt (Ix d k).tb d.nd (Ix d k).dt→Calls Tryz.prog 46 #[.agg (pR d.t d.c d.s d.ad d.pl d.bl u3 u4),.i (k+s0+d.np+d.nr)] W fun e w'=>e=.returned (.i (k+s0+d.np+d.nr+d.nt+d.nd))∧Below W.heap.size W w'):=fun W h=>Wn W (D 3) _ d.t d.c d.s d.ad d.pl d.bl d.nt d.nd (k+s0+d.np+d.nr) (by rw [hs0.out]; exact h) (by omega) (by omega)
 have M4:Hid (∀ W,Fl W D (.agg #[u5,u6,u7]) d.mf d.lf (Ix d k).fr d.ns (Ix d k).sm d.nq (Ix d k).rd→Calls Tryz.prog 47 #[.agg #[u5,u6,u7],.i (k+s0+d.np+d.nr+d.nt+d.nd)] W fun e w'=>e=.returned (.i (k+s0+d.np+d.nr+d.nt+d.nd+s5+d.ns+d.nq))∧Below W.heap.size W w'):=fun W h=>by
  have e0:=hs0.out;have e5:=hs5.out;subst e0;subst e5;exact Xd W D _ d.mf d.lf d.ns d.nq _ h (by omega) (by omega)
 clear hs0 hs5;have H0:=Ad h0;have H1:=Ad h1;have H2:=Ad h2;have H3:=Ad h3;have H4:=Ad h4;clear h0 h1 h2 h3 h4
 go_enter Tryz.func10,Tryz.ntmps10
 go_wp2_with fail;generalize w.alloc (.cells (kR d u0 u1 u2 u3 u4 u5 u6 u7) 49)=W0 at *;refine (M0.out _ H0.out).mono ?_;rintro e W1 ⟨rfl,L⟩;replace L0:=Ae L0 L;replace B0:=Aa B0 L (Ac B0);replace H1:=Ad (H1.out.below L);replace H2:=Ad (H2.out.below L);replace H3:=Ad (H3.out.below L);replace H4:=Ad (H4.out.keep (Ab L Aj) (fun _ _ _ _ _ _ x=>x));clear L M0 H0;have c1:=Ag B0;go_wp2_with fail;clear c1;refine (M1.out _ H1.out).mono ?_;rintro e W2 ⟨rfl,L⟩;replace L0:=Ae L0 L;replace B0:=Aa B0 L (Ac B0);replace H2:=Ad (H2.out.below L);replace H3:=Ad (H3.out.below L);replace H4:=Ad (H4.out.keep (Ab L Aj) (fun _ _ _ _ _ _ x=>x));clear L M1 H1;have c1:=Ag B0;go_wp2_with fail;clear c1;refine (M2.out _ H2.out).mono ?_;rintro e W3 ⟨rfl,L⟩;replace L0:=Ae L0 L
 replace B0:=Aa B0 L (Ac B0);replace H3:=Ad (H3.out.below L);replace H4:=Ad (H4.out.keep (Ab L Aj) (fun _ _ _ _ _ _ x=>x));clear L M2 H2;have c1:=Ag B0;go_wp2_with fail;clear c1;refine (M3.out _ H3.out).mono ?_;rintro e W4 ⟨rfl,L⟩;replace L0:=Ae L0 L;replace B0:=Aa B0 L (Ac B0);replace H4:=Ad (H4.out.keep (Ab L Aj) (fun _ _ _ _ _ _ x=>x));clear L M3 H3;have c1:=Ag B0;go_wp2_with fail;clear c1;refine (M4.out _ H4.out).mono ?_;rintro e W5 ⟨rfl,L⟩;replace L0:=Ae L0 L;clear L M4 H4;go_wp2;go_ret;exact ⟨rfl,L0⟩
def szD (d:Aq):Nat:=d.m+psum d.ln d.m+d.np+d.nr+(d.nt+d.nd)+(d.mf+psum d.lf d.mf+d.ns+d.nq)
theorem Jcm (w:World) (d:Aq) (u0:Value) (ra0:Nat→Option Addr) (rc0:Nat→Nat) (a1:Option Addr) (c1:Nat) (a2:Option Addr) (c2:Nat) (a3:Option Addr) (c3:Nat) (a4:Option Addr) (c4:Nat) (u5:Value) (ra5:Nat→Option Addr) (rc5:Nat→Nat) (a6:Option Addr) (c6:Nat) (a7:Option Addr) (c7:Nat) (left:Int)
  (H0:Ed w u0 d.m ra0 d.ln rc0 d.f) (H5:Ed w u5 d.mf ra5 d.lf rc5 d.fr) (h1:d.np≤9223372036854775807) (h2:d.nr≤9223372036854775807) (h3:d.nt≤9223372036854775807) (h4:d.nd≤9223372036854775807) (h6:d.ns≤9223372036854775807) (h7:d.nq≤9223372036854775807) (l0:0≤left) (l1:left≤1048576) :
  Calls Tryz.prog 4 #[.agg (kR d u0 (.slice a1 d.np c1) (.slice a2 d.nr c2) (.slice a3 d.nt c3) (.slice a4 d.nd c4) u5 (.slice a6 d.ns c6) (.slice a7 d.nq c7)),.i left] w fun e w'=>e=.returned (.i (Db left (szD d)))∧Below w.heap.size w w':=by
 have L0:Below w.heap.size w (w.alloc (.cells (kR d u0 (.slice a1 d.np c1) (.slice a2 d.nr c2) (.slice a3 d.nt c3) (.slice a4 d.nd c4) u5 (.slice a6 d.ns c6) (.slice a7 d.nq c7)) 39)):=(Below.refl _ _).alloc (Nat.le_refl _) _;have B0:=Al w (kR d u0 (.slice a1 d.np c1) (.slice a2 d.nr c2) (.slice a3 d.nt c3) (.slice a4 d.nd c4) u5 (.slice a6 d.ns c6) (.slice a7 d.nq c7)) 39
 obtain ⟨r,hr⟩:∃ r,Hid (r=Db left (szD d)):=⟨_,rfl⟩
 rw [← hr.out]
 obtain ⟨s0,hs0⟩:∃ s,Hid (s=d.m+psum d.ln d.m):=⟨_,rfl⟩
 obtain ⟨s5,hs5⟩:∃ s,Hid (s=d.mf+psum d.lf d.mf+d.ns+d.nq):=⟨_,rfl⟩
 obtain ⟨s3,hs3⟩:∃ s,Hid (s=d.nt+d.nd):=⟨_,rfl⟩
 have hz:Hid (szD d=s0+d.np+d.nr+s3+s5):=by show _=_; rw [hs0.out,hs5.out,hs3.out]; rfl
 have NO:Hid (left<((s0+d.np+d.nr+s3+s5:Nat):Int)→r=-1):=fun h=>by rw [hr.out,hz.out]; exact B4 h
 have YES:Hid (((s0+d.np+d.nr+s3+s5:Nat):Int)≤left→r=left-s0-d.np-d.nr-s3-s5):=fun h=>by rw [hr.out,hz.out,Cl h]; omega
 have Z0:=Ad (fun W h l a b=>Jad W u0 d.m ra0 d.ln rc0 d.f h l a b);have Z5:=Ad (fun W h l a b=>Jdh W u5 d.mf ra5 d.lf rc5 d.fr a6 d.ns c6 a7 d.nq c7 l h h6 h7 a b);have Z3:=Ad (fun W l a b=>Jc8 W d.t d.c d.s d.ad d.pl d.bl a3 d.nt c3 a4 d.nd c4 l h3 h4 a b);rw [← hs0.out] at Z0;rw [← hs5.out] at Z5;rw [← hs3.out] at Z3;have R0:=Ad (H0.below L0);have R5:=Ad (H5.below L0);clear H0 H5 hs0 hs5 hs3 hz hr h6 h7 h3 h4
 go_enter Tryz.func4,Tryz.ntmps4
 go_wp2_with fail;generalize w.alloc (.cells (kR d u0 (.slice a1 d.np c1) (.slice a2 d.nr c2) (.slice a3 d.nt c3) (.slice a4 d.nd c4) u5 (.slice a6 d.ns c6) (.slice a7 d.nq c7)) 39)=W0 at *;refine (Z0.out _ R0.out _ l0 l1).mono ?_;rintro e W1 ⟨rfl,L⟩;replace L0:=Ae L0 L;replace B0:=Aa B0 L (Ac B0);replace R5:=Ad (R5.out.below L);clear L
 by_cases g0:left<(s0:Nat)
 ·have HN:=Ad (B4 g0)
  have HR:=Ad (NO.out (by omega));rw [HN.out];go_wp2;go_ret;exact ⟨Az HR.out.symm,L0⟩
 have HY:=Ad (Cl (left:=left) (n:=s0) (by omega));rw [HY.out];clear HY;have c0:=Ag B0;go_wp2_with fail;clear c0;refine (El _ _ _ _ _ h1 (by omega) (by omega)).mono ?_;rintro e W2 ⟨rfl,hw2⟩
 have L:Below W1.heap.size W1 W2:=by rw [hw2]; exact Below.refl _ _
 clear hw2;replace L0:=Ae L0 L;replace B0:=Aa B0 L (Ac B0);replace R5:=Ad (R5.out.below L);clear L
 by_cases g1:left-s0<(d.np:Nat)
 ·have HN:=Ad (B4 g1)
  have HR:=Ad (NO.out (by omega));rw [HN.out];go_wp2;go_ret;exact ⟨Az HR.out.symm,L0⟩
 have HY:=Ad (Cl (left:=left-s0) (n:=d.np) (by omega));rw [HY.out];clear HY;have c0:=Ag B0;go_wp2_with fail;clear c0;refine (Jcz _ _ _ _ _ _ h2 (by omega) (by omega)).mono ?_;rintro e W3 ⟨rfl,L⟩;replace L0:=Ae L0 L;replace B0:=Aa B0 L (Ac B0);replace R5:=Ad (R5.out.below L);clear L
 by_cases g2:left-s0-d.np<(d.nr:Nat)
 ·have HN:=Ad (B4 g2)
  have HR:=Ad (NO.out (by omega));rw [HN.out];go_wp2;go_ret;exact ⟨Az HR.out.symm,L0⟩
 have HY:=Ad (Cl (left:=left-s0-d.np) (n:=d.nr) (by omega));rw [HY.out];clear HY;have c0:=Ag B0;go_wp2_with fail;clear c0;refine (Z3.out _ _ (by omega) (by omega)).mono ?_;rintro e W4 ⟨rfl,L⟩;replace L0:=Ae L0 L;replace B0:=Aa B0 L (Ac B0);replace R5:=Ad (R5.out.below L);clear L
 by_cases g3:left-s0-d.np-d.nr<(s3:Nat)
 ·have HN:=Ad (B4 g3)
  have HR:=Ad (NO.out (by omega));rw [HN.out];go_wp2;go_ret;exact ⟨Az HR.out.symm,L0⟩
 have HY:=Ad (Cl (left:=left-s0-d.np-d.nr) (n:=s3) (by omega));rw [HY.out];clear HY;have c0:=Ag B0;go_wp2_with fail;clear c0;refine (Z5.out _ R5.out _ (by omega) (by omega)).mono ?_;rintro e W5 ⟨rfl,L⟩;replace L0:=Ae L0 L;replace B0:=Aa B0 L (Ac B0);clear L
 by_cases g4:left-s0-d.np-d.nr-s3<(s5:Nat)
 ·have HN:=Ad (B4 g4)
  have HR:=Ad (NO.out (by omega));rw [HN.out];go_wp2;go_ret;exact ⟨Az HR.out.symm,L0⟩
 have HY:=Ad (Cl (left:=left-s0-d.np-d.nr-s3) (n:=s5) (by omega));rw [HY.out];clear HY;have HR:=Ad (YES.out (by omega));go_wp2;go_ret;exact ⟨Az HR.out.symm,L0⟩
end Go.Proofs.YtgcmimcalmjaaaaGreatDoor
