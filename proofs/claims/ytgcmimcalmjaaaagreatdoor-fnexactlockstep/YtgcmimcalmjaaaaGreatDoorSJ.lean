import Derived.Test.YtgcmimcalmjaaaaGreatDoorKU
import Derived.Test.YtgcmimcalmjaaaaGreatDoorKIa
import Derived.Defers
namespace Go.Proofs.YtgcmimcalmjaaaaGreatDoor
set_option maxHeartbeats 8000000
set_option maxRecDepth 20000
set_option linter.unusedVariables false
set_option linter.unusedSimpArgs false
open Go.ChangeShapes Go.WideShapes Go.ChangeAt Go.RowKit
theorem SA.onF {R:Nat→Nat→Prop} {W W':World} {lo m:Nat} {v:Value} {ob:Nat→Option Nat} {iv ov:Nat→Value} {ln:Nat→Nat} {f:Nat→Nat→Int} (H:SA W lo v m m ob iv ov ln f) (hw:Wrote R W W') (ho:∀ b o,v.ownBlock=some b→o<m→¬ R b o) (hr:∀ i b o,i<m→ob i=some b→¬ R b o) {D:Nat→Prop} (hD:∀ b,(v.ownBlock=some b∨∃ i,i<m∧ob i=some b)→D b) (hs:psum ln m≤1099511627776):Co W' D v m ln f:=by
 have hsl:∀ i,i<m→iv i=.slice (slA (iv i)) (ln i) (slC (iv i))∧Cm W' (fun b=>ob i=some b) (slA (iv i)) (ln i) (f i):=fun i hi=>by
  obtain ⟨a,x,e,hS⟩:=((H.rows i hi).keep hw (fun b hb _ _ o=>hr i b o hi hb)).sl;rw [e];exact ⟨rfl,hS⟩
 rcases id H.own.2 with ⟨e,e0⟩ | ⟨g,c,cur,hv,hb,hg,k1,k2,k3,k4⟩
 ·have hq:m=0:=e0
  subst hq;subst e;refine ⟨fun _=>none,fun _=>0,⟨⟨none,0,rfl,by omega,fun i hi=>absurd hi (Nat.not_lt_zero _)⟩,fun i hi=>absurd hi (Nat.not_lt_zero _),fun i j hi=>absurd hi (Nat.not_lt_zero _),hs⟩,fun i hi=>absurd hi (Nat.not_lt_zero _),fun i hi=>absurd hi (Nat.not_lt_zero _),fun a cap e b o hF=>absurd hF (Bo _ _ _),fun i hi=>absurd hi (Nat.not_lt_zero _)⟩
 ·subst hv
  have hob:(Value.slice (some ⟨g,0,none⟩) m c).ownBlock=some g:=rfl;refine ⟨fun i=>slA (iv i),fun i=>slC (iv i),⟨⟨_,_,rfl,H.small,fun i hi=>⟨g,0,rfl,?_,fun j hj hF=>H.dj g hob j hj ((hsl j hj).2.on _ _ hF)⟩⟩,fun i hi=>(hsl i hi).2.free,fun i j hi hj hij b o h1 h2=>H.inj i j hi hj hij b ((hsl i hi).2.on _ _ h1) ((hsl j hj).2.on _ _ h2),hs⟩,fun i hi=>(hsl i hi).2.row,fun i hi b o hF=>hD b (Or.inr ⟨i,hi,(hsl i hi).2.on _ _ hF⟩),fun a cap e b o hF=>?_,fun i hi=>(hsl i hi).2.small⟩
  ·rw [Nat.zero_add,hw.cell g i (block_lt_of_cell (H.cell hi)) (ho g i hob hi),H.cell hi,if_pos hi]
   exact congrArg some (hsl i hi).1
  ·simp only [Value.slice.injEq,true_and] at e
   obtain ⟨rfl,-⟩:=e;obtain ⟨off,e,_,_⟩:=hF;simp only [Option.some.injEq,Addr.mk.injEq] at e;rw [← e.1];exact hD _ (Or.inl rfl)
theorem A5.onF {R:Nat→Nat→Prop} {W W':World} {lo:Nat} {o:Option Nat} {v:Value} {n:Nat} {f:Nat→Int} (h:A5 W lo o v n f) (hw:Wrote R W W') (hd:∀ b k,o=some b→k<n→¬ R b k) {D:Nat→Prop} (hD:∀ b,o=some b→D b):∃ a x,v=.slice a n x∧Cm W' D a n f∧Cm W (fun b=>o=some b) a n f:=by
 obtain ⟨a,x,e,hS⟩:=h.sl;refine ⟨a,x,e,(hS.keep hw (fun b k hF hb _=>hd b k hb ?_)).mono (fun b _ h=>hD b h),hS⟩
 cases o with
 | none=>cases hb
 | some q =>
  obtain ⟨y,rfl,-⟩:=h;simp only [Value.slice.injEq,true_and] at e;obtain ⟨rfl,-⟩:=e;obtain ⟨off,e,h1,h2⟩:=hF;simp only [Option.some.injEq,Addr.mk.injEq,and_true] at e
  omega
theorem Bi.onF {W W':World} {lo N z:Nat} {D:Nat→Nat→Prop} {u0 u1 u2 u3 u4 u5 u6 u7:Value} {ob:Nat→Option Nat} {iv ov:Nat→Value} {o6 o7:Option Nat} {d:Aq} (H:Bi W lo N D u0 u1 u2 u3 u4 u5 u6 u7 ob iv ov o6 o7 d) (hw:Wrote (RL z u4 u5 u6 u7) W W') (hz:∀ i b,D i b→b≠z):Bh W' D (.agg (kR d u0 u1 u2 u3 u4 u5 u6 u7)) d:=by
 have k4:∀ b o,spare u4 b o→D 3 b:=fun b o h=>H.h3.spare4 h
 have k5:∀ b o,spare u5 b o→u5.ownBlock=some b∧d.mf≤o:=fun b o ⟨n,c,e,h⟩=>by
  obtain ⟨a',c',e'⟩:=H.h5.form;rw [e] at e';simp only [Value.slice.injEq] at e';exact ⟨by rw [e]; rfl,by omega⟩
 have kr:∀ {o:Option Nat} {u:Value} {n:Nat} {f:Nat→Int},A5 W lo o u n f→∀ b k,spare u b k→o=some b∧n≤k:=fun hR b k h=>by
  refine ⟨Dj hR h,?_⟩;obtain ⟨n1,c1,e,hk⟩:=h;obtain ⟨a',c',e'⟩:=hR.form;rw [e] at e';simp only [Value.slice.injEq] at e'
  omega
 have far:∀ i b o,D i b→RL z u4 u5 u6 u7 b o→i=3∨i=4∨i=5∨i=6:=fun i b o hi h=>by
  rcases h with h | h | h | h | h
  ·exact absurd h (hz i b hi)
  ·exact Or.inl (H.dis i 3 b hi (k4 b o h))
  ·exact Or.inr (Or.inl (H.dis i 4 b hi (H.h5D b (Or.inl (k5 b o h).1))))
  ·exact Or.inr (Or.inr (Or.inl (H.dis i 5 b hi (H.h6D b (kr H.h6 b o h).1))))
  ·exact Or.inr (Or.inr (Or.inr (H.dis i 6 b hi (H.h7D b (kr H.h7 b o h).1))))
 obtain ⟨v3,v4,o1,o2,e34,R1,R2,h12,d3⟩:=H.h3.ex;simp only [Value.agg.injEq,Array.mk.injEq,List.cons.injEq,and_true,true_and] at e34;obtain ⟨rfl,rfl⟩:=e34
 have in3:∀ b o,D 3 b→RL z u4 u5 u6 u7 b o→spare u4 b o:=fun b o hb h=>by
  rcases h with h | h | h | h | h
  ·exact absurd h (hz 3 b hb)
  ·exact h
  ·have:=H.dis 3 4 b hb (H.h5D b (Or.inl (k5 b o h).1)); omega
  ·have:=H.dis 3 5 b hb (H.h6D b (kr H.h6 b o h).1); omega
  ·have:=H.dis 3 6 b hb (H.h7D b (kr H.h7 b o h).1); omega
 obtain ⟨a1,x1,rfl,S1,T1⟩:=R1.onF hw (fun b k hb hk hr=>by
  have:=(kr R2 b k (in3 b k (d3 b (Or.inl hb)) hr)).1
  exact h12 b hb this) (D:=D 3) (fun b h=>d3 b (Or.inl h))
 obtain ⟨a2,x2,e2,S2,T2⟩:=R2.onF hw (fun b k hb hk hr=>by
  have:=(kr R2 b k (in3 b k (d3 b (Or.inr hb)) hr)).2
  omega) (D:=D 3) (fun b h=>d3 b (Or.inr h))
 obtain ⟨a6,x6,e6,S6,-⟩:=H.h6.onF hw (fun b k hb hk hr=>by
  have hD:=H.h6D b hb
  rcases hr with h | h | h | h | h
  ·exact hz 5 b hD h
  ·have:=H.dis 5 3 b hD (k4 b k h); omega
  ·have:=H.dis 5 4 b hD (H.h5D b (Or.inl (k5 b k h).1)); omega
  ·have:=(kr H.h6 b k h).2; omega
  ·have:=H.dis 5 6 b hD (H.h7D b (kr H.h7 b k h).1); omega) H.h6D
 obtain ⟨a7,x7,e7,S7,-⟩:=H.h7.onF hw (fun b k hb hk hr=>by
  have hD:=H.h7D b hb
  rcases hr with h | h | h | h | h
  ·exact hz 6 b hD h
  ·have:=H.dis 6 3 b hD (k4 b k h); omega
  ·have:=H.dis 6 4 b hD (H.h5D b (Or.inl (k5 b k h).1)); omega
  ·have:=H.dis 6 5 b hD (H.h6D b (kr H.h6 b k h).1); omega
  ·have:=(kr H.h7 b k h).2; omega) H.h7D
 have S5:=H.h5.onF hw (fun b k hb hk hr=>by
  have hD:=H.h5D b (Or.inl hb)
  rcases hr with h | h | h | h | h
  ·exact hz 4 b hD h
  ·have:=H.dis 4 3 b hD (k4 b k h); omega
  ·have:=(k5 b k h).2; omega
  ·have:=H.dis 4 5 b hD (H.h6D b (kr H.h6 b k h).1); omega
  ·have:=H.dis 4 6 b hD (H.h7D b (kr H.h7 b k h).1); omega) (fun i b k hi hb hr=>by
  have hD:=H.h5D b (Or.inr ⟨i,hi,hb⟩)
  rcases hr with h | h | h | h | h
  ·exact hz 4 b hD h
  ·have:=H.dis 4 3 b hD (k4 b k h); omega
  ·exact H.h5.dj b (k5 b k h).1 i hi hb
  ·have:=H.dis 4 5 b hD (H.h6D b (kr H.h6 b k h).1); omega
  ·have:=H.dis 4 6 b hD (H.h7D b (kr H.h7 b k h).1); omega) H.h5D H.hps
 refine ⟨u0,u1,u2,_,u4,u5,u6,u7,rfl,H.h0.keep hw (fun b o h _ x=>by have:=far 0 b o h x; omega),H.h1.keep hw (fun b o h _ x=>by have:=far 1 b o h x; omega),H.h2.keep hw (fun b o h _ x=>by have:=far 2 b o h x; omega),⟨a1,x1,a2,x2,by rw [e2],S1,S2,Q2 T1 T2 (fun b h=>h12 b h)⟩,⟨u5,u6,u7,rfl,S5,⟨a6,x6,e6,S6⟩,⟨a7,x7,e7,S7⟩⟩⟩
theorem Z2 (w:World) (pd pw pl z:Nat) (b:Bool) (cs old:Array Value) (T1 T2:TypeId) (kd:w.heap[pd]?=some (.cells #[.bool b] T1 (0,0))) (kw:w.heap[pw]?=some (.cells cs 49 (0,0))) (kl:w.heap[pl]?=some (.cells #[(pt z 0)] T2 (0,0))) (kz:w.heap[z]?=some (.cells old 49 (0,0))) (hs:cs.size=34) (ho:old.size=34) (h1:cs.all (·.oneCell')=true) (u:FrameMode) :
  CallsD Tryz.prog 77 #[(pt pd 0),(pt pw 0),(pt pl 0)] u w fun e u' w'=>u'=u∧(e=.returned (.tuple #[])∧w'=if b=true then w else w.setRow z cs):=by
 have cd:=Ag kd 0;have cl:=Ag kl 0
 go_enter_d Tryz.func77,Tryz.ntmps77
 cases b
 ·go_upto_region 1 with (fail)
  refine wp_region_lit ?_;refine wpList_plain rfl (fun K9 hK9=>?_);go_simp;refine hK9 _ _ ?_;clear hK9;refine wpList_load_row rfl _ _ rfl pw rfl _ _ _ _ kw Tryz.underlying49 rfl (infoAt Ao hs) ?_;refine wpList_plain rfl (fun K9 hK9=>?_);go_simp;refine hK9 _ _ ?_;clear hK9;refine wpList_store_row rfl _ _ _ rfl z cs rfl rfl _ _ kz (infoAt Ao hs) (by rw [ho,hs]) h1 ?_;go_simp;go_wp2
  go_end0
  exact ⟨rfl,rfl⟩
 ·go_wp2
  go_end0
  exact ⟨rfl,rfl⟩
theorem Cm.avoid {W:World} {D:Nat→Prop} {a:Option Addr} {n:Nat} {f:Nat→Int} {p:Nat} (h:Cm W D a n f) (hp:∀ o x,W.cell? ⟨p,o,none⟩≠some (.i x)):Cm W (fun b=>D b∧b≠p) a n f :=
 ⟨h.small,h.row,h.free,fun b o hF=>⟨h.on b o hF,fun e=>by
  subst e;obtain ⟨off,rfl,h1,h2⟩:=hF;obtain ⟨b',off',e,hc⟩:=h.row (o-off) (by omega);simp only [Option.some.injEq,Addr.mk.injEq,and_true] at e;obtain ⟨rfl,rfl⟩:=e
  exact hp _ _ hc⟩⟩
theorem Co.avoid {W:World} {D:Nat→Prop} {u:Value} {m:Nat} {ln:Nat→Nat} {f:Nat→Nat→Int} {p:Nat} (h:Co W D u m ln f) (hp:∀ o x,W.cell? ⟨p,o,none⟩≠some (.i x)) (hq:∀ o a n c,W.cell? ⟨p,o,none⟩≠some (.slice a n c)):Co W (fun b=>D b∧b≠p) u m ln f:=by
 obtain ⟨ra,rc,⟨⟨a,cap,hv,hm,ho⟩,hf,hdj,hs⟩,hr,hi,hou,hl⟩:=h;refine ⟨ra,rc,⟨⟨a,cap,hv,hm,ho⟩,hf,hdj,hs⟩,hr,fun i hi' b o hF=>⟨hi i hi' b o hF,fun e=>?_⟩,fun a' cap' hv' b o hF=>⟨hou a' cap' hv' b o hF,fun e=>?_⟩,hl⟩
 ·subst e
  obtain ⟨off,e,h1,h2⟩:=hF;obtain ⟨b',off',e',hc⟩:=hr i hi' (o-off) (by omega);rw [e] at e';simp only [Option.some.injEq,Addr.mk.injEq,and_true] at e';obtain ⟨rfl,rfl⟩:=e';exact hp _ _ hc
 ·subst e
  rw [hv] at hv';simp only [Value.slice.injEq,true_and] at hv';obtain ⟨rfl,-⟩:=hv';obtain ⟨off,e,h1,h2⟩:=hF;obtain ⟨b',off',e',hc,-⟩:=ho (o-off) (by omega);rw [e] at e';simp only [Option.some.injEq,Addr.mk.injEq,and_true] at e';obtain ⟨rfl,rfl⟩:=e';exact hq _ _ _ _ hc
theorem Bh.avoid {W:World} {D:Nat→Nat→Prop} {v:Value} {d:Aq} {p:Nat} (H:Bh W D v d) (hp:∀ o x,W.cell? ⟨p,o,none⟩≠some (.i x)) (hq:∀ o a n c,W.cell? ⟨p,o,none⟩≠some (.slice a n c)):Bh W (fun i b=>D i b∧b≠p) v d:=by
 obtain ⟨u0,u1,u2,u3,u4,u5,u6,u7,e,h0,⟨a1,z1,e1,s1⟩,⟨a2,c2,e2,hn,hr,hf,hd⟩,⟨a3,x3,a4,x4,e3,s3,s4,ap⟩,v5,v6,v7,e5,h5,⟨a6,z6,e6,s6⟩,⟨a7,z7,e7,s7⟩⟩:=H
 have s2:Cm W (D 2) a2 d.nr d.g:=⟨hn,hr,hf,hd⟩
 have s2':=s2.avoid hp;exact ⟨u0,u1,u2,u3,u4,u5,u6,u7,e,h0.avoid hp hq,⟨a1,z1,e1,s1.avoid hp⟩,⟨a2,c2,e2,s2'.small,s2'.row,s2'.free,s2'.on⟩,⟨a3,x3,a4,x4,e3,s3.avoid hp,s4.avoid hp,ap⟩,v5,v6,v7,e5,h5.avoid hp hq,⟨a6,z6,e6,s6.avoid hp⟩,⟨a7,z7,e7,s7.avoid hp⟩⟩
theorem Dg.kind {W:World} {lo z:Nat} {d:Aq} {u4 u5 u6 u7:Value} (H:Dg W lo z d u4 u5 u6 u7) {b o:Nat} (h:RL z u4 u5 u6 u7 b o):b=z∨∃ cur t,W.heap[b]?=some (.cells cur t (0,0))∧(t=3∨t=25):=by
 obtain ⟨D,u0,u1,u2,u3,ob,iv,ov,o6,o7,HQ,hz,B0⟩:=H.ex
 have kr:∀ {o:Option Nat} {u:Value} {n:Nat} {f:Nat→Int} {k:Nat},A5 W lo o u n f→spare u b k→∃ cur t,W.heap[b]?=some (.cells cur t (0,0))∧(t=3∨t=25):=fun hR h=>by
  have e:=Dj hR h;subst e;obtain ⟨y,-,r⟩:=hR;obtain ⟨-,-,-,cur,hc⟩:=r.parts;exact ⟨cur,3,hc,Or.inl rfl⟩
 rcases h with h | h | h | h | h
 ·exact Or.inl h
 ·obtain ⟨v3,v4,o1,o2,e34,R1,R2,h12,d3⟩:=HQ.h3.ex
  simp only [Value.agg.injEq,Array.mk.injEq,List.cons.injEq,and_true,true_and] at e34;obtain ⟨rfl,rfl⟩:=e34;exact Or.inr (kr R2 h)
 ·obtain ⟨n,c,rfl,-⟩:=h
  rcases HQ.h5.own.2 with ⟨e,_⟩ | ⟨g,c',cur,hv,hb,hg,_⟩
  ·cases e
  ·simp only [Value.slice.injEq,Option.some.injEq,Addr.mk.injEq,and_true] at hv
   obtain ⟨rfl,-,-⟩:=hv;exact Or.inr ⟨cur,_,hg,Or.inr rfl⟩
 ·exact Or.inr (kr HQ.h6 h)
 ·exact Or.inr (kr HQ.h7 h)
structure Z4 (w W:World) (lo z:Nat) (d:Aq):Prop where
 ex:∃ D cs,W.heap[z]?=some (.cells cs 49 (0,0))∧cs.size=34∧cs.all (·.oneCell')=true∧Bh W D (.agg cs) (if D8 d=true then Ij d else d)∧Xb D∧∀ i b,D i b→lo≤b∧b<W.heap.size∧b≠z
 low:Below lo w W
theorem Hj.withSt {d:Aq} (h:Hj d) (s:Int):Hj (withSt d s):=⟨h.ppu,h.apu,h.same,h.lf,h.mf,h.ns⟩
theorem Jcs (w:World) (lo z:Nat) (d:Aq) (u4 u5 u6 u7:Value) (H:Dg w lo z d u4 u5 u6 u7) (hlo:lo≤z) (hL:OkL d) (hT:Dc w) (hv:0<lo) (hnq:d.nq<1048576):Calls Tryz.prog 29 #[(pt z 0)] w fun e w'=>e=.returned (.bool (D8 d))∧Z4 w w' lo z d:=by
 have HTOP:=Ad (fun (b o:Nat) (h:RL z u4 u5 u6 u7 b o)=>H.top h);have HLOW:=Ad (fun (b o:Nat) (h:RL z u4 u5 u6 u7 b o)=>H.low hlo h);have HH:=Ad H;obtain ⟨D,u0,u1,u2,u3,ob,iv,ov,o6,o7,HQ,hz,B0⟩:=H.ex;clear H;obtain ⟨c',e',hs,h1⟩:=HQ.on.agg;simp only [Value.agg.injEq] at e'
 obtain ⟨cs,hcs⟩:∃ x,Hid (x=(kR d u0 u1 u2 u3 u4 u5 u6 u7)):=⟨_,rfl⟩
 rw [← hcs.out] at B0 e';subst e';have HQH:=Ad HQ;have hzl:=Ac B0;clear HQ;have L0:Below w.heap.size w ((w.alloc (.cells #[(pt z 0)] 101)).alloc (.cells #[.bool false] 4)):=((Below.refl _ _).alloc (Nat.le_refl _) _).alloc (by simp) _;have kl:=Ax (Al w #[(pt z 0)] 101) (.cells #[.bool false] 4)
 have kd:((w.alloc (.cells #[(pt z 0)] 101)).alloc (.cells #[.bool false] 4)).heap[w.heap.size+1]?=some (.cells #[.bool false] 4 (0,0)):=by simpa using Al (w.alloc (.cells #[(pt z 0)] 101)) #[.bool false] 4
 have kz:=Aa B0 L0 hzl
 obtain ⟨sb,hsb⟩:∃ x,Hid (x=D8 d):=⟨_,rfl⟩
 obtain ⟨n,hn⟩:∃ n:Nat,Hid ((n:Int)=actN d):=⟨(actN d).toNat,by have:=J6 d; show _=_; omega⟩
 have hn7:n≤7:=by have:=J6 d; have:=hn.out; omega
 rw [← hsb.out];clear B0
 have hmf:∀ (fn:Fn) (first cap:Array Value) (w:World),(Instr.makeFunc fn first cap).run Tryz.prog w=.ok (.func fn first cap) w:=fun _ _ _ _=>rfl
 go_enter_defers Tryz.func29,Tryz.ntmps29
 go_upto_region 1 with (fail);generalize (w.alloc (.cells #[(pt z 0)] 101)).alloc (.cells #[.bool false] 4)=W0 at *;rename_i K1 hK1;have cl:=Ag kl 0;refine wp_region_lit ?_
 iterate 2 (refine wpList_plain rfl (fun K9 hK9=>?_); go_simp; refine hK9 _ _ ?_; clear hK9)
 refine wpList_load_row rfl _ _ rfl z rfl _ _ _ _ kz Tryz.underlying49 rfl (infoAt Ao hs) ?_
 iterate 1 (refine wpList_plain rfl (fun K9 hK9=>?_); go_simp; refine hK9 _ _ ?_; clear hK9)
 have LA:Below W0.heap.size W0 (W0.alloc (.cells zR 49)):=(Below.refl _ _).alloc (Nat.le_refl _) _;have kb:=Al W0 zR 49
 obtain ⟨pw,hpw⟩:∃ x,Hid (x=W0.heap.size):=⟨_,rfl⟩
 have lpd:=Ac kd;rw [← hpw.out] at kb lpd ⊢;have C1:=Ae L0 LA;have kz1:=Aa kz LA (Ac kz);have kl1:=Aa kl LA (Ac kl);have kd1:=Aa kd LA (Ac kd);clear LA hpw kz kl kd cl L0;generalize W0.alloc (.cells zR 49)=W1 at *;refine wpList_store_row rfl _ _ _ rfl pw cs rfl rfl _ _ kb (infoAt Ao hs) (by rw [hs]; rfl) h1 ?_;have TT:=Au kb cs;have C2:=C1.trans (TT.below C1.size (fun b o hb (h:b=_)=>by omega));have kz2:=Ak kz1 TT (fun o (h:_=_)=>by omega);have kl2:=Ak kl1 TT (fun o (h:_=_)=>by omega);have kd2:=Ak kd1 TT (fun o (h:_=_)=>by omega);have kw2:=setRow_heap _ _ _ cs _ _ kb;clear TT C1 kz1 kl1 kd1 kb;generalize W1.setRow pw cs=W2 at *;refine hK1 _ _ ?_;clear hK1;have H2:=HH.out.below C2
 have HACT:=Ad (Jdj W2 lo z d u4 u5 u6 u7 H2 hlo hL (hT.lo hv (C2.mono (by omega))) hv hnq);rw [← hn.out] at HACT;clear H2;have cl:=Ag kl2 0;go_wp2_with fail;refine HACT.out.mono ?_;rintro e W3 ⟨rfl,T3⟩;obtain ⟨b4,b5,b6,b7,H3,G3⟩:=T3.ex;have kl3:=Ak kl2 G3.wr (fun o h=>by have:=HTOP.out _ o h; omega);have kd3:=Ak kd2 G3.wr (fun o h=>by have:=HTOP.out _ o h; omega);have kw3:=Ak kw2 G3.wr (fun o h=>by have:=HTOP.out _ o h; omega);have GT:=Ad ((Goes.below C2 z u4 u5 u6 u7).trans G3);obtain ⟨c30,f30⟩:=H3.st;have hmore:=Ir d hL.row;rw [hmore.2.1] at c30;have hst0:=hL.st.1;have hst1:d.st≤20000:=Int.le_trans hL.st.2 hL.t.ppu.t1;have H4:=H3.withSt (d.st+1);have T4:=Ng W3 z 30 (.i (d.st+1));have kl4:=Ak kl3 T4 (fun o (h:_=_)=>by omega)
 have kd4:=Ak kd3 T4 (fun o (h:_=_)=>by omega);have kw4:=Ak kw3 T4 (fun o (h:_=_)=>by omega);have G4:=Ad (GT.out.trans (Goes.box T4 _ _ _ _));have HP:=Ad (Jcr _ lo z (withSt (actD d) (d.st+1)) b4 b5 b6 b7 H4 hlo (hL.t.act.withSt _) n (by omega));have HK:=Ad (fun (b o:Nat) (h:RL z b4 b5 b6 b7 b o)=>H4.kind h)
 have HB:Hid (decide ((withSt (actD d) (d.st+1)).t+(n:Int)≤20000)=sb):=by show _=_; rw [hsb.out]; unfold D8; rw [hn.out]; rfl
 rw [HB.out] at HP;have hcl3:=Ag kl3 0;have hcl4:=Ag kl4 0;clear cl T3 H3 G3 GT T4 H4 HACT kl2 kd2 kw2 kl3 kd3 kw3 hmore C2 kz2;go_wp2_with fail;clear c30 f30;generalize W3.setCell ⟨z,30,none⟩ (.i (d.st+1))=W4 at *;refine HP.out.mono ?_;rintro e W5 ⟨rfl,k,hk,T5⟩;obtain ⟨c4,c5,c6,c7,H5,G5⟩:=T5.ex;clear HP T5
 have kl5:=Ak kl4 G5.wr (fun o h=>by
  rcases HK.out _ o h with e | ⟨cur,t,e,ht⟩
  ·omega
  ·rw [kl4] at e; injection e with e; injection e with _ e _; subst e; rcases ht with ht | ht <;> cases ht)
 have kd5:=Ak kd4 G5.wr (fun o h=>by
  rcases HK.out _ o h with e | ⟨cur,t,e,ht⟩
  ·omega
  ·rw [kd4] at e; injection e with e; injection e with _ e _; subst e; rcases ht with ht | ht <;> cases ht)
 have kw5:=Ak kw4 G5.wr (fun o h=>by
  rcases HK.out _ o h with e | ⟨cur,t,e,ht⟩
  ·omega
  ·rw [kw4] at e; injection e with e; injection e with _ e _; subst e; rcases ht with ht | ht <;> cases ht)
 have GG:=Ad (G4.out.trans G5);have l05:=GG.out.wr.size;obtain ⟨D5,x0,x1,x2,x3,xob,xiv,xov,x6,x7,HQ5,hz5,k5⟩:=H5.ex;obtain ⟨c5',e5',hs5,h15⟩:=HQ5.on.agg;simp only [Value.agg.injEq] at e5';subst e5'
 have pno:∀ o x,W5.cell? ⟨w.heap.size+1,o,none⟩≠some (.i x):=fun o x e=>by
  rw [Ag kd5 o] at e
  rcases o with _ | o
  ·cases e
  ·simp at e
 have pnq:∀ o a n c,W5.cell? ⟨w.heap.size+1,o,none⟩≠some (.slice a n c):=fun o a n c e=>by
  rw [Ag kd5 o] at e
  rcases o with _ | o
  ·cases e
  ·simp at e
 have T6:=Ng W5 (w.heap.size+1) 0 (.bool sb);have kl6:=Ak kl5 T6 (fun o (h:_=_)=>by omega);have kw6:=Ak kw5 T6 (fun o (h:_=_)=>by omega);have kd6:=Af (o:=0) kd5 (.bool sb);simp only [List.setIfInBounds_toArray,List.set_cons_zero] at kd6;have kz6:=Ak k5 T6 (fun o (h:_=_)=>by omega);have low5:=HH.out.goes hlo GG.out;have low6:=low5.trans (T6.below (by have:=low5.size; omega) (fun b o hb (h:b=_)=>by omega));have cd5:=Ag kd5 0;have fd5:=As kd5 0
 have HSTEP:Hid (sb=true→tickN k (withSt (actD d) (d.st+1))=Ij d):=fun e=>by
  have hk':k=n:=hk (of_decide_eq_true (HB.out.trans e))
  have e1:(actN d).toNat=n:=by have:=hn.out; omega
  have e2:∀ (k:Nat) (x:Aq),(tickN k x).st=x.st:=fun k=>by
   induction k with
   | zero=>intro x; rfl
   | succ k ih=>intro x; exact ih (B8 x)
  rw [hk',Zu];unfold Ij;rw [e1,e2,(Ir d hL.row).2.1]
 have HLAST:Hid (Z4 w (if sb=true then W5.setCell ⟨w.heap.size+1,0,none⟩ (.bool sb) else (W5.setCell ⟨w.heap.size+1,0,none⟩ (.bool sb)).setRow z cs) lo z d):=by
  cases hsb':sb
  ·have hb:D8 d=false:=by rw [← hsb.out]; exact hsb'
   rw [hsb'] at T6 kz6 low6;have O5:=(HQH.out.onF GG.out.wr hz).avoid pno pnq;rw [← hcs.out] at O5;have O6:=O5.keep T6 (fun i b o h _ (e:b=_)=>h.2 e);have TR:=Au kz6 cs;have O7:=O6.keep TR (fun i b o h _ (e:b=z)=>hz i b h.1 e);refine ⟨⟨fun i b=>D i b∧b≠w.heap.size+1,cs,?_,hs,h1,?_,fun i j b hi hj=>HQH.out.dis i j b hi.1 hj.1,fun i b h=>?_⟩,?_⟩
   ·rw [if_neg (by decide)]
    exact setRow_heap _ _ _ cs _ _ kz6
   ·rw [if_neg (by decide),if_neg (by rw [hb]; decide)]
    exact O7
   ·rw [if_neg (by decide)]
    have:=HQH.out.bd i b h.1;have:=TR.size;have:=T6.size;exact ⟨by omega,by omega,hz i b h.1⟩
   ·rw [if_neg (by decide)]
    exact low6.trans (TR.below (by have:=low6.size; omega) (fun b o hb (h:b=z)=>by omega))
  ·have hb:D8 d=true:=by rw [← hsb.out]; exact hsb'
   rw [hsb'] at T6 kz6 low6;have O5:=HQ5.on.avoid pno pnq;rw [HSTEP.out hsb'] at O5;have O6:=O5.keep T6 (fun i b o h _ (e:b=_)=>h.2 e);refine ⟨⟨fun i b=>D5 i b∧b≠w.heap.size+1,_,?_,hs5,h15,?_,fun i j b hi hj=>HQ5.dis i j b hi.1 hj.1,fun i b h=>?_⟩,?_⟩
   ·rw [if_pos rfl]
    exact kz6
   ·rw [if_pos rfl,if_pos hb]
    rw [HSTEP.out hsb'];exact O6
   ·rw [if_pos rfl]
    have:=HQ5.bd i b h.1;have:=T6.size;exact ⟨by omega,by omega,hz5 i b h.1⟩
   ·rw [if_pos rfl]
    exact low6
 clear T6 kl5 kw5 kd5 k5 low5 low6 pno pnq HQ5 hz5 H5 G5 GG G4 kl4 kd4 kw4 hk;go_wp2;generalize W5.setCell ⟨w.heap.size+1,0,none⟩ (.bool sb)=W6 at *;refine leaves_cons (f:=77) (args:=#[(pt (w.heap.size+1) 0),(pt pw 0),(pt w.heap.size 0)]) (by simp) (by simp [go_sem]) ?_;refine (Z2 W6 _ _ _ z sb cs _ _ _ kd6 kw6 kl6 kz6 hs hs5 h1 .returning).mono ?_;rintro e u' w'' ⟨rfl,rfl,rfl⟩
 have kdF:(if sb=true then W6 else W6.setRow z cs).heap[w.heap.size+1]?=some (.cells #[.bool sb] 4 (0,0)):=by
  split
  ·exact kd6
  ·exact Ak kd6 (Au kz6 cs) (fun o (h:_=_)=>by omega)
 have cF:=Ag kdF 0;refine ⟨.bool sb,?_,rfl,HLAST.out⟩
 simp [results,Tryz.results29,go_sem,cF]
set_option maxHeartbeats 4000000
set_option maxRecDepth 40000
def Ge (d:Aq):Aq:=if Cd d=true then (if D8 d=true then Ij d else d) else Sc
def Hl (d:Aq):Bool:=Cd d && D8 d
theorem Mn.aggK {W:World} {lo:Nat} {v:Value} {d:Aq} (H:Mn W lo v d):∃ cs,v=.agg cs∧cs.size=34∧cs.all (·.oneCell')=true:=by
 obtain ⟨D,u0,u1,u2,u3,u4,u5,u6,u7,ob,iv,ov,o6,o7,rfl,h⟩:=H;exact h.on.agg
theorem Mn.lk {W:World} {lo:Nat} {cC:Array Value} {d:Aq} (H:Mn W lo (.agg cC) d):∃ u4 u5 u6 u7,Dg (W.alloc (.cells cC 49)) lo W.heap.size d u4 u5 u6 u7:=by
 obtain ⟨D,u0,u1,u2,u3,u4,u5,u6,u7,ob,iv,ov,o6,o7,e,h⟩:=H;simp only [Value.agg.injEq] at e;subst e;have LA:Below W.heap.size W (W.alloc (.cells (kR d u0 u1 u2 u3 u4 u5 u6 u7) 49)):=(Below.refl _ _).alloc (Nat.le_refl _) _;exact ⟨u4,u5,u6,u7,D,u0,u1,u2,u3,ob,iv,ov,o6,o7,(h.below LA).upTo LA.size (Nat.le_refl _),fun i b hb e=>by have:=h.bd i b hb; omega,Al W _ _⟩
theorem Qn (w:World) (D:Nat→Nat→Prop) (v:Value) (d:Aq) (H:Bh w D v d) (hT:Dc w) (hnq:Cd d=true→d.nq<1048576):Calls Tryz.prog 7 #[v] w fun e w'=>∃ v',e=.returned (.tuple #[v',.bool (Hl d)])∧(∃ D',Bh w' D' v' (Ge d)∧Xb D'∧∀ i b,D' i b→w.heap.size≤b∧b<w'.heap.size)∧Below w.heap.size w w':=by
 obtain ⟨cs,rfl,hsz,hone⟩:=H.agg
 obtain ⟨rq,hrq⟩:∃ x,Hid (x=Hl d):=⟨_,rfl⟩
 obtain ⟨rd,hrd⟩:∃ x,Hid (x=Ge d):=⟨_,rfl⟩
 rw [← hrq.out,← hrd.out];have hV:=hT.at;have L0:Below w.heap.size w ((w.alloc (.cells cs 49)).alloc (.cells zR 49)):=((Below.refl _ _).alloc (Nat.le_refl _) _).alloc (by simp) _;have k0:((w.alloc (.cells cs 49)).alloc (.cells zR 49)).heap[w.heap.size]?=some (.cells cs 49 (0,0)):=Ax (Al w cs 49) _
 have k1:((w.alloc (.cells cs 49)).alloc (.cells zR 49)).heap[w.heap.size+1]?=some (.cells zR 49 (0,0)):=by simpa using Al (w.alloc (.cells cs 49)) zR 49
 go_enter Tryz.func7,Tryz.ntmps7
 go_upto_region 1 with (fail);generalize ((w.alloc (.cells cs 49)).alloc (.cells zR 49))=W0 at *;refine wp_region_lit ?_;refine wpList_load_row rfl _ _ rfl (w.heap.size) rfl _ _ _ _ k0 Tryz.underlying49 rfl (infoAt Ao hsz) ?_;go_wp2_with fail;refine (Tr _ D _ d (H.below L0)).mono ?_;rintro e W1 ⟨rfl,L⟩;have C1:=Ae L0 L;have k0b:=Aa k0 L (Ac k0);have k1b:=Aa k1 L (Ac k1);have hb1:=Ac k1b;clear L L0 k0 k1;cases hok:Cd d
 ·have E1:Hid (rq=false∧rd=Sc):=⟨by rw [hrq.out]; unfold Hl; rw [hok]; rfl,by rw [hrd.out]; unfold Ge; rw [hok]; rfl⟩
  clear k0b;go_upto_region 2 with (fail);rename_i K2 hK2;refine wp_region_lit ?_;refine wpList_plain rfl (fun K3 hK3=>?_);go_simp;refine hK3 _ _ ?_;clear hK3;refine wpList_store_row rfl _ _ _ rfl (w.heap.size+1) zR rfl rfl _ _ k1b Ao rfl (by first | kernel_rfl | simp [Value.oneCell']) ?_;have B3:=setRow_heap _ _ _ zR _ _ k1b;have WW:=Au k1b zR;have LL:=Ad (C1.trans (WW.below C1.size (fun b o hb (e:b=_)=>by omega)));clear WW C1 k1b;generalize W1.setRow (w.heap.size+1) zR=W9 at *;refine wpList_plain rfl (fun K3 hK3=>?_);go_simp;refine hK3 _ _ ?_;clear hK3;refine hK2 _ _ ?_;go_wp2;refine bodyPost_ret (v:=.tuple #[.agg zR,.bool false]) (A9 Tryz.results7 _ _ (w.heap.size+1) _ _ _ _ rfl B3 Tryz.underlying49 rfl Ao) rfl ?_;rw [E1.out.1,E1.out.2]
  exact ⟨_,rfl,⟨fun _ _=>False,Sd,fun i j b h=>h.elim,fun i b h=>h.elim⟩,LL.out⟩
 ·have E1:Hid (rq=D8 d∧rd=if D8 d=true then Ij d else d):=⟨by rw [hrq.out]; unfold Hl; rw [hok]; rfl,by rw [hrd.out]; unfold Ge; rw [hok]; rfl⟩
  go_upto_region 3 with (fail);refine wp_region_lit ?_;refine wpList_load_row rfl _ _ rfl (w.heap.size) rfl _ _ _ _ k0b Tryz.underlying49 rfl (infoAt Ao hsz) ?_;go_wp2_with fail;refine (Zg _ D _ d (H.keep (Ab C1 Aj) (fun _ _ _ _ _ x=>x))).mono ?_;rintro e W2 ⟨vC,rfl,oC,L⟩;obtain ⟨cC,rfl,sC,oneC⟩:=oC.aggK;have C2:=Ae C1 L;have k1c:=Aa k1b L (Ac k1b);have l12:=L.size;clear L C1 k0b k1b;obtain ⟨u4,u5,u6,u7,bx⟩:=oC.lk;have LA:Below W2.heap.size W2 (W2.alloc (.cells cC 49)):=(Below.refl _ _).alloc (Nat.le_refl _) _;have C3:=Ae C2 LA;have k1d:=Aa k1c LA (Ac k1c);have hst:=run_storeCells_new (P:=Tryz.prog) W2 49 zR cC (infoAt Ao sC) (by rw [sC]; rfl) oneC;clear LA oC C2 k1c;go_upto_region 4 with (fail);clear hst
  obtain ⟨z,hz⟩:∃ z,Hid (z=W2.heap.size):=⟨_,rfl⟩
  rw [← hz.out] at bx l12 ⊢;clear hz;generalize W2.alloc (.cells cC 49)=W3 at *;go_wp2_with fail;refine (Jcs _ W1.heap.size z d u4 u5 u6 u7 bx l12 (Up hok) (hT.lo hV C3) (by have:=C3.size; omega) (hnq hok)).mono ?_;rintro e W4 ⟨rfl,ST⟩;obtain ⟨DR,cR,x6,sR,oneR,oR,dR,bR⟩:=ST.ex;have C4:=C3.trans (ST.low.mono (by omega));have k1e:=Aa k1d ST.low (by omega);clear ST C3 k1d bx;go_upto_region 5 with (fail);rename_i K2 hK2;refine wp_region_lit ?_;refine wpList_load_row rfl _ _ rfl (z) rfl _ _ _ _ x6 Tryz.underlying49 rfl (infoAt Ao sR) ?_;refine wpList_plain rfl (fun K3 hK3=>?_);go_simp;refine hK3 _ _ ?_;clear hK3;refine wpList_store_row rfl _ _ _ rfl (w.heap.size+1) cR rfl rfl _ _ k1e (infoAt Ao sR) (by rw [sR]; rfl) oneR ?_;have B3:=setRow_heap _ _ _ cR _ _ k1e;have WW:=Au k1e cR
  have OO:=Ad (oR.keep WW (fun i b o h _ (e:b=_)=>by have:=bR _ _ h; omega));have LL:=Ad (C4.trans (WW.below C4.size (fun b o hb (e:b=_)=>by omega)));have BB:=Ad (fun i b h=>(⟨Nat.le_trans (by omega) (bR i b h).1,Nat.lt_of_lt_of_le (bR i b h).2.1 WW.size⟩:w.heap.size≤b∧b<(W4.setRow (w.heap.size+1) cR).heap.size));clear WW oR C4 x6 bR k1e;generalize W4.setRow (w.heap.size+1) cR=W9 at *;refine wpList_plain rfl (fun K3 hK3=>?_);go_simp;refine hK3 _ _ ?_;clear hK3;refine hK2 _ _ ?_;go_wp2;refine bodyPost_ret (v:=.tuple #[.agg cR,.bool (D8 d)]) (A9 Tryz.results7 _ _ (w.heap.size+1) _ _ _ _ rfl B3 Tryz.underlying49 rfl (infoAt Ao sR)) rfl ?_;rw [E1.out.1,E1.out.2];exact ⟨_,rfl,⟨DR,OO.out,dR,BB.out⟩,LL.out⟩
end Go.Proofs.YtgcmimcalmjaaaaGreatDoor
