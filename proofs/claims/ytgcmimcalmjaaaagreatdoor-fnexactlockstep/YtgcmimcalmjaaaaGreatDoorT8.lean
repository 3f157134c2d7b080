import Derived.Test.YtgcmimcalmjaaaaGreatDoorE8
namespace Go.Proofs.YtgcmimcalmjaaaaGreatDoor
set_option maxHeartbeats 4000000
set_option linter.unusedVariables false
set_option linter.unusedSimpArgs false
open Go.ChangeShapes Go.WideShapes Go.ChangeAt Go.RowKit
structure By (W:World) (D:Nat→Prop) (u:Value) (k:Nat) (h:Nat→Int):Prop where
 ex:∃ d z,u=.slice d k z∧Cm W D d k h
structure Jcd (w W:World) (v u:Value) (t c s ad pl:Int) (bl:Bool) (n:Nat) (f:Nat→Int) (m:Nat) (g:Nat→Int) (k:Nat) (h:Nat→Int):Prop where
 ex:∃ D E:Nat→Prop,Cf W D v t c s ad pl bl n f m g∧By W E u k h∧(∀ b,D b→¬ E b)∧(∀ b,D b∨E b→w.heap.size≤b)∧Below w.heap.size w W
def Px (W:World) (lo p:Nat) (dd:Value) (m:Nat) (g:Nat→Int):Prop:=(dd=.slice none 0 0∧m=0)∨∃ q y,dd=.slice (some ⟨q,0,none⟩) m y∧Row W lo q m y g∧p≠q
structure Ja4 (w W:World) (v u:Value) (t c s ad pl:Int) (bl:Bool) (n:Nat) (f:Nat→Int) (m:Nat) (g:Nat→Int) (k:Nat) (h:Nat→Int):Prop where
 tk:Jcd w W v u t c s ad pl bl n f m g k h
 rows:∃ p x dd,v=.agg (pR t c s ad pl bl (.slice (some ⟨p,0,none⟩) n x) dd)∧Row W w.heap.size p n x f∧Px W w.heap.size p dd m g
structure Ip (w W:World) (v u:Value) (t c s ad pl:Int) (bl:Bool) (n:Nat) (f:Nat→Int) (m:Nat) (g:Nat→Int) (k:Nat) (h:Nat→Int):Prop where
 r:Ja4 w W v u t c s ad pl bl n f m g k h
 told:0<k→∃ q y,u=.slice (some ⟨q,0,none⟩) k y∧Row W w.heap.size q k y h
def Ga (t:Int):Int:=if t=20000 then t else t+1
def Ho (t:Int) (bl:Bool):Bool:=if t=20000 then bl else if t%64=48 then true else if t%64=63 then false else bl
def tkM (t:Int) (m:Nat):Nat:=if t=20000 then m else if t%64<48 then m+1 else if t%64=48 then 0 else m
def Kz (t:Int) (f:Nat→Int) (s pl:Int) (m:Nat) (g:Nat→Int):Nat→Int:=if t=20000 then g else if t%64<48 then snoc g m (Hn f s pl (t%64)) else g
def Ki (t:Int) (m:Nat):Nat:=if t=20000 then 0 else if t%64=48 then m else 0
def Py (t c:Int):Bool:=if t=20000 then false else if t%64=48 then decide (127<c) else false
theorem Cm.zero {W:World} {D:Nat→Prop} (a:Option Addr) (f:Nat→Int):Cm W D a 0 f:=⟨by omega,fun i hi=>absurd hi (Nat.not_lt_zero _),fun b o hF=>absurd hF (Bo _ _ _),fun b o hF=>absurd hF (Bo _ _ _)⟩
theorem Row.onD {W:World} {lo g n c:Nat} {f:Nat→Int} {D:Nat→Prop} (h:Row W lo g n c f) (hd:D g):Cm W D (some ⟨g,0,none⟩) n f:=h.sl.mono (fun b _ e=>e ▸ hd)
theorem He {W:World} {lo p q n x m y h2:Nat} {f g:Nat→Int} {t c s ad pl:Int} {bl:Bool} (S1:Row W lo p n x f) (S2:Row W lo q m y g) (hpq:p≠q) (h2l:lo≤h2) (hp:h2<p) (hq:h2<q) (g0:Nat→Int) :
  Cf W (fun b=>b=p∨b=q) (.agg (pR t c s ad pl bl (.slice (some ⟨p,0,none⟩) n x) (.slice (some ⟨q,0,none⟩) m y))) t c s ad pl bl n f m g∧By W (fun b=>b=h2) (.slice (some ⟨h2,0,none⟩) 0 0) 0 g0∧(∀ b,(b=p∨b=q)→¬ b=h2)∧(∀ b,(b=p∨b=q)∨b=h2→lo≤b) :=
 ⟨⟨_,_,_,_,rfl,S1.onD (Or.inl rfl),S2.onD (Or.inr rfl),E5 hpq⟩,⟨_,_,rfl,Cm.zero _ _⟩,fun b h e=>by omega,fun b h=>by omega⟩
theorem Ja5 (w:World) (F G:Nat→Nat→Prop) (t c s ad pl:Int) (bl:Bool) (u u':Value) (n:Nat) (f:Nat→Int) (m:Nat) (g:Nat→Int) (H:Ints .i64 w F u n f) (K:Ints .i64 w G u' m g) (ok:A1 t c s ad pl n f m g=true) :
  Calls Tryz.prog 93 #[.agg (pR t c s ad pl bl u u')] w fun e w'=>∃ v z,e=.returned (.tuple #[v,z,.bool (Py t c)])∧Ip w w' v z (Ga t) c s ad pl (Ho t bl) n f (tkM t m) (Kz t f s pl m g) (Ki t m) g:=by
 obtain ⟨ua,ux,rfl,un,hr,hF⟩:=H;obtain ⟨va,vx,rfl,vn,hr',hF'⟩:=K
 have H:Ints .i64 w F (.slice ua n ux) n f:=⟨_,_,rfl,un,hr,hF⟩
 have K:Ints .i64 w G (.slice va m vx) m g:=⟨_,_,rfl,vn,hr',hF'⟩
 clear hr hF hr' hF';have IP:=Ev ok;have t0:=IP.t0;have t1:=IP.t1;have HIP:=Ad IP;clear IP ok;have L0:Below w.heap.size w (((w.alloc (.cells (pR t c s ad pl bl (.slice ua n ux) (.slice va m vx)) 44)).alloc (.cells (pR 0 0 0 0 0 false (.slice none 0 0) (.slice none 0 0)) 44)).alloc (.cells #[] 3)):=(((Below.refl _ _).alloc (Nat.le_refl _) _).alloc (by simp) _).alloc (by simp; omega) _;have k0:(((w.alloc (.cells (pR t c s ad pl bl (.slice ua n ux) (.slice va m vx)) 44)).alloc (.cells (pR 0 0 0 0 0 false (.slice none 0 0) (.slice none 0 0)) 44)).alloc (.cells #[] 3)).heap[w.heap.size]?=some (.cells (pR t c s ad pl bl (.slice ua n ux) (.slice va m vx)) 44 (0,0)):=Ax (Ax (Al w _ _) _) _
 have k1:(((w.alloc (.cells (pR t c s ad pl bl (.slice ua n ux) (.slice va m vx)) 44)).alloc (.cells (pR 0 0 0 0 0 false (.slice none 0 0) (.slice none 0 0)) 44)).alloc (.cells #[] 3)).heap[w.heap.size+1]?=some (.cells (pR 0 0 0 0 0 false (.slice none 0 0) (.slice none 0 0)) 44 (0,0)):=by simpa using Ax (Al (w.alloc (.cells (pR t c s ad pl bl (.slice ua n ux) (.slice va m vx)) 44)) (pR 0 0 0 0 0 false (.slice none 0 0) (.slice none 0 0)) 44) (.cells #[] 3)
 have k2:(((w.alloc (.cells (pR t c s ad pl bl (.slice ua n ux) (.slice va m vx)) 44)).alloc (.cells (pR 0 0 0 0 0 false (.slice none 0 0) (.slice none 0 0)) 44)).alloc (.cells #[] 3)).heap[w.heap.size+1+1]?=some (.cells #[] 3 (0,0)):=by simpa using Al ((w.alloc (.cells (pR t c s ad pl bl (.slice ua n ux) (.slice va m vx)) 44)).alloc (.cells (pR 0 0 0 0 0 false (.slice none 0 0) (.slice none 0 0)) 44)) #[] 3
 go_enter Tryz.func93,Tryz.ntmps93
 go_wp2_with fail;generalize (((w.alloc (.cells (pR t c s ad pl bl (.slice ua n ux) (.slice va m vx)) 44)).alloc (.cells (pR 0 0 0 0 0 false (.slice none 0 0) (.slice none 0 0)) 44)).alloc (.cells #[] 3))=W0 at *;refine (Pv _ F G t c s ad pl bl _ _ n f m g (H.keep (Ab L0 Aj) (fun _ _ _ x=>x)) (K.keep (Ab L0 Aj) (fun _ _ _ x=>x))).mono ?_;rintro e W1 ⟨p,x,q,y,rfl,R1,R2,hpq,L1⟩;have hp:=R1.parts;have hq:=R2.parts;have sz:=L1.size;have hz0:=Ac k2;have C1:=Ae L0 L1;have x0:=Ax (Aa k0 L1 (Ac k0)) (.cells (pR t c s ad pl bl (.slice (some ⟨p,0,none⟩) n x) (.slice (some ⟨q,0,none⟩) m y)) 44);have x1:=Ax (Aa k1 L1 (Ac k1)) (.cells (pR t c s ad pl bl (.slice (some ⟨p,0,none⟩) n x) (.slice (some ⟨q,0,none⟩) m y)) 44)
 have x3:=Ax (Aa k2 L1 (Ac k2)) (.cells (pR t c s ad pl bl (.slice (some ⟨p,0,none⟩) n x) (.slice (some ⟨q,0,none⟩) m y)) 44);have x2:=Al W1 (pR t c s ad pl bl (.slice (some ⟨p,0,none⟩) n x) (.slice (some ⟨q,0,none⟩) m y)) 44;have LA:Below W1.heap.size W1 (W1.alloc (.cells (pR t c s ad pl bl (.slice (some ⟨p,0,none⟩) n x) (.slice (some ⟨q,0,none⟩) m y)) 44)):=(Below.refl _ _).alloc (Nat.le_refl _) _;have C2:=Ae C1 LA;have S1:=(R1.below LA).mono (lo':=w.heap.size) L0.size;have S2:=(R2.below LA).mono (lo':=w.heap.size) L0.size
 have zs:(W1.alloc (.cells (pR t c s ad pl bl (.slice (some ⟨p,0,none⟩) n x) (.slice (some ⟨q,0,none⟩) m y)) 44)).heap.size=W1.heap.size+1:=by simp
 clear k0 k1 k2 L0 L1 C1 R1 R2 LA;go_upto_region 3 with (fail)
 obtain ⟨z,hz⟩:∃ z,Hid (z=W1.heap.size):=⟨_,rfl⟩
 have hzp:p<z∧q<z∧w.heap.size+1+1<p∧w.heap.size+1+1<q:=by rw [hz.out]; exact ⟨hp.2.1,hq.2.1,by omega,by omega⟩
 generalize W1.alloc (.cells (pR t c s ad pl bl (.slice (some ⟨p,0,none⟩) n x) (.slice (some ⟨q,0,none⟩) m y)) 44)=W2 at *;rw [← hz.out] at x2 zs ⊢;clear hp hq sz hz0 hz;have c0:=Ag x0;have c1:=Ag x1;have c2:=Ag x2;have f1:=As x1;have f2:=As x2
 by_cases ht:t=20000
 ·have HE:Hid (Ga t=t∧Ho t bl=bl∧tkM t m=m∧Kz t f s pl m g=g∧Ki t m=0∧Py t c=false):=⟨if_pos ht,if_pos ht,if_pos ht,if_pos ht,if_pos ht,if_pos ht⟩
  have ht':(t==20000)=true:=by simpa using ht
  clear ht t0 t1
  have key:∀ W5,Wrote (fun b _=>b=w.heap.size+1∨b=z) W2 W5→Row W5 w.heap.size p n x f∧Row W5 w.heap.size q m y g∧Below w.heap.size w W5:=fun W5 WX =>
   ⟨S1.keep WX (fun _ h=>by omega),S2.keep WX (fun _ h=>by omega),C2.trans (WX.below C2.size (fun b o hb h=>by omega))⟩
  have KEY:=Ad key;clear key S1 S2 x0 x1 x2 x3;go_wp2;refine bodyPost_ret (v:=.tuple #[.agg (pR t c s ad pl bl (.slice (some ⟨p,0,none⟩) n x) (.slice (some ⟨q,0,none⟩) m y)),.slice (some ⟨w.heap.size+1+1,0,none⟩) 0 0,.bool false]) (by simp [results,Tryz.results93,go_sem,c1]) rfl ?_
  have fin:∀ W5,Wrote (fun b _=>b=w.heap.size+1∨b=z) W2 W5→∃ v z',Ending.returned (.tuple #[.agg (pR t c s ad pl bl (.slice (some ⟨p,0,none⟩) n x) (.slice (some ⟨q,0,none⟩) m y)),.slice (some ⟨w.heap.size+1+1,0,none⟩) 0 0,.bool false])=.returned (.tuple #[v,z',.bool (Py t c)])∧Ip w W5 v z' (Ga t) c s ad pl (Ho t bl) n f (tkM t m) (Kz t f s pl m g) (Ki t m) g:=fun W5 WX=>by
   obtain ⟨h1,h2,h3⟩:=KEY.out W5 WX;obtain ⟨e1,e2,e3,e4,e5,e6⟩:=HE.out;rw [e1,e2,e3,e4,e5,e6];obtain ⟨r1,r2,r3,r4⟩:=He (t:=t) (c:=c) (s:=s) (ad:=ad) (pl:=pl) (bl:=bl) h1 h2 hpq (show w.heap.size≤w.heap.size+1+1 by omega) (by omega) (by omega) g;exact ⟨_,_,rfl,⟨⟨_,_,r1,r2,r3,r4,h3⟩,_,_,_,rfl,h1,Or.inr ⟨_,_,rfl,h2,by omega⟩⟩,fun h=>absurd h (by omega)⟩
  refine fin _ ?_
  repeat (first | with_reducible exact Wrote.refl _ _ | with_reducible refine Wrote.drew ?_ | with_reducible refine Wrote.setCell ?_ (fun _=>by omega) _)
 ·have ht':(t==20000)=false:=by simpa using ht
  have m64:t.tmod 64=t%64:=Int.tmod_eq_emod_of_nonneg t0;have HT:=Ad ht;clear ht;go_upto_region 7 with (fail);have WS:Wrote (fun b _=>b=z) W2 (W2.setCell ⟨z,0,none⟩ (.i (t+1))):=Wrote.setCell (Wrote.refl (fun b _=>b=z) W2) (fun _=>rfl) _;have y0:=Bc (o:=0) (x:=.i (t+1)) x0 (show w.heap.size≠z by omega);have y1:=Bc (o:=0) (x:=.i (t+1)) x1 (show w.heap.size+1≠z by omega);have y3:=Bc (o:=0) (x:=.i (t+1)) x3 (show w.heap.size+1+1≠z by omega);have y2:(W2.setCell ⟨z,0,none⟩ (.i (t+1))).heap[z]?=some (.cells (pR (t+1) c s ad pl bl (.slice (some ⟨p,0,none⟩) n x) (.slice (some ⟨q,0,none⟩) m y)) 44 (0,0)):=Af x2 _;have U1:=S1.keep WS (fun _ h=>by omega);have U2:=S2.keep WS (fun _ h=>by omega);have C3:=C2.trans (WS.below C2.size (fun b o hb h=>by omega))
  have z3:(W2.setCell ⟨z,0,none⟩ (.i (t+1))).heap.size=z+1:=by simpa using zs
  clear c0 c1 c2 f1 f2 x0 x1 x2 x3 S1 S2 C2 WS zs;generalize W2.setCell ⟨z,0,none⟩ (.i (t+1))=W3 at *;have d0:=Ag y0;have d1:=Ag y1;have d2:=Ag y2;have g1:=As y1;have g2:=As y2
  have KEY:Hid (∀ W5,Wrote (fun b _=>b=w.heap.size+1∨b=z) W3 W5→Row W5 w.heap.size p n x f∧Row W5 w.heap.size q m y g∧Below w.heap.size w W5):=fun W5 WX =>
   ⟨U1.keep WX (fun _ h=>by omega),U2.keep WX (fun _ h=>by omega),C3.trans (WX.below C3.size (fun b o hb h=>by omega))⟩
  by_cases hA:t%64<48
  ·have HE:Hid (Ga t=t+1∧Ho t bl=bl∧tkM t m=m+1∧Kz t f s pl m g=snoc g m (Hn f s pl (t%64))∧Ki t m=0∧Py t c=false):=⟨if_neg HT.out,(if_neg HT.out).trans ((if_neg (by omega)).trans (if_neg (by omega))),(if_neg HT.out).trans (if_pos hA),(if_neg HT.out).trans (if_pos hA),(if_neg HT.out).trans (if_neg (by omega)),(if_neg HT.out).trans (if_neg (by omega))⟩
   have hm48:m<48:=by
    have h1:=HIP.out.dots;unfold Dk at h1;rw [if_neg (by omega)] at h1
    omega
   have h16:=HIP.out.n16;have s0:=HIP.out.s0;have s1:=HIP.out.s1
   have hb:0≤t%64:=by omega
   have HDOT:Hid (∀ W:World,Below w.heap.size w W→Calls Tryz.prog 131 #[.agg (pR t c s ad pl bl (.slice ua n ux) (.slice va m vx)),.i (t%64)] W fun e w'=>e=.returned (.i (Hn f s pl (t%64)))∧Below W.heap.size W w'):=fun W L=>by
    subst h16;exact Jda W F t c s ad pl bl _ _ f (t%64) (H.keep (Ab L Aj) (fun _ _ _ x=>x)) s0 s1 hb hA
   clear h16 s0 s1 m64;generalize hdv:Hn f s pl (t%64)=dv at *;clear hdv
   have b1:decide (t%64<48)=true:=by simpa using hA
   have hzlt:z<W3.heap.size:=by omega
   clear d1 g1;go_upto_region 8 with (fail)
   refine A8 [some 26,some 27,some 28,some 29,some 30,some 31,some 32,some 33,none] (by kernel_rfl) (by kernel_rfl) (by kernel_rfl) (by kernel_rfl) (by simp [slotsOf])
    (fun j b _=>(j=6∧b=q)∨(j=8∧b=z))
    (fun i v W=>match i with
     | 0=>v=(pt z 7)
     | 1=>v=.slice (some ⟨q,0,none⟩) m y
     | 2=>v=.agg (pR t c s ad pl bl (.slice ua n ux) (.slice va m vx))
     | 3=>v=.i (t%64)
     | 4=>v=.i dv
     | 5=>∃ a,v=.slice (some ⟨a,0,none⟩) 1 1∧z<a∧W.cell? ⟨a,0,none⟩=some (.i dv)
     | 6=>∃ g' c',v=.slice (some ⟨g',0,none⟩) (m+1) c'∧Row W w.heap.size g' (m+1) c' (snoc g m dv)∧(g'=q∨z<g')
     | 7=>v=(pt z 7)
     | _=>∃ g' c',W.heap[z]?=some (.cells (pR (t+1) c s ad pl bl (.slice (some ⟨p,0,none⟩) n x) (.slice (some ⟨g',0,none⟩) (m+1) c')) 44 (0,0))∧Row W w.heap.size g' (m+1) c' (snoc g m dv)∧(g'=q∨z<g')) ?_ ?_ ?_
   ·intro i j o v W W' hij ho hnw hW h
    match i,hij,ho,h with
    | 0,_,_,h=>exact h
    | 1,_,_,h=>exact h
    | 2,_,_,h=>exact h
    | 3,_,_,h=>exact h
    | 4,_,_,h=>exact h
    | 5,_,_,⟨a,h1,h2,h3⟩=>exact ⟨a,h1,h2,(hW.cell a 0 (block_lt_of_cell h3) (fun e=>by omega)).trans h3⟩
    | 6,hij,_,⟨g',c',h1,h2,h3⟩=>exact ⟨g',c',h1,h2.keep hW (fun o e=>by omega),h3⟩
    | 7,_,_,h=>exact h
    | 8,hij,ho,⟨g',c',h1,h2,h3⟩ =>
     have h6:j≠6:=fun e=>by
      obtain rfl:=Option.some.inj ho;rw [e] at hnw;cases hnw.symm.trans (show A0 _ 6=true by kernel_rfl)
     exact ⟨g',c',Ah h1 hW (fun o e=>by omega),h2.keep hW (fun o e=>by omega),h3⟩
    | _+9,_,ho,_=>simp at ho
   ·intro i o a' W K ho F L hw hK
    have BW:Below w.heap.size w W:=C3.trans (L.below C3.size (fun b o hb ⟨j,_,_,_,_,e⟩=>by omega));have r0:=Ag (Ah y0 L (fun o ⟨j,_,_,_,_,e⟩=>by omega));have t1':=F.get (t:=1) (v:=(pt w.heap.size 0)) (by decide) rfl;have t6:=F.get (t:=6) (v:=(pt z 0)) (by decide) rfl;have t7:=F.get (t:=7) (v:=.i (t%64)) (by decide) rfl
    match i with
    | 0 =>
     cases ho;go_simp;exact Hk hK rfl
    | 1 =>
     cases ho;have q1:tv a' 26=_:=Hr hw 0
     have r2:=Ag (Ah y2 L (fun o ⟨j,oj,_,hj,hnw,e⟩=>by
      rcases e with ⟨_,e⟩ | ⟨rfl,_⟩
      ·omega
      ·obtain rfl:=Option.some.inj hj
       cases hnw.symm.trans (show A0 _ 1=true by kernel_rfl)))
     go_simp;exact Hk hK rfl
    | 2 =>
     cases ho;go_simp;exact Hk hK rfl
    | 3 =>
     cases ho;go_simp;exact Hk hK rfl
    | 4 =>
     cases ho;have q1:tv a' 28=_:=Hr hw 2;have q2:tv a' 29=_:=Hr hw 3;go_simp;refine (HDOT.out W BW).mono ?_;rintro e W' ⟨rfl,LB⟩;exact hK _ _ (Ab LB _) rfl
    | 5 =>
     cases ho;have q1:tv a' 30=_:=Hr hw 4;have hsz:=L.size;go_simp;exact hK _ _ ((Wrote.refl _ W).alloc _) ⟨_,rfl,by omega,Ag (Al W #[.i dv] 3) 0⟩
    | 6 =>
     cases ho;have q1:tv a' 27=_:=Hr hw 1;obtain ⟨aa,q2,q3,q4⟩:∃ a,a'.tmps[31]?.getD undef=.slice (some ⟨a,0,none⟩) 1 1∧z<a∧W.cell? ⟨a,0,none⟩=some (.i dv):=Hr hw 5;have hsz:=L.size;have UW:=U2.keep L (fun o ⟨j,_,hne,_,_,e⟩=>by rcases e with ⟨rfl,_⟩ | ⟨_,e⟩; exact hne rfl; omega);refine Jaw W (.tmp 27) (.tmp 31) rfl w.heap.size q m y g (by simpa [Act.eval] using q1) UW (by omega) aa dv (by simpa [Act.eval] using q2) q4 ?_;intro g' c' W' h1 h2 h3;exact hK _ _ (h2.mono (fun b o _ e=>Or.inl ⟨rfl,e⟩)) ⟨g',c',rfl,h1,by omega⟩
    | 7 =>
     cases ho;go_simp;exact Hk hK rfl
    | 8 =>
     cases ho;have q1:tv a' 33=_:=Hr hw 7;obtain ⟨g',c',q2,q3,q4⟩:∃ g' c',a'.tmps[32]?.getD undef=.slice (some ⟨g',0,none⟩) (m+1) c'∧Row W w.heap.size g' (m+1) c' (snoc g m dv)∧(g'=q∨z<g'):=Hr hw 6;have r2b:=Ah y2 L (fun o ⟨j,_,hne,_,_,e⟩=>by rcases e with ⟨_,e⟩ | ⟨rfl,_⟩; omega; exact hne rfl);have r2:=Ag r2b;have r2f:=As r2b;go_simp;have WZ:Wrote (fun b _=>b=z) W (W.setCell ⟨z,7,none⟩ (.slice (some ⟨g',0,none⟩) (m+1) c')):=Wrote.setCell (Wrote.refl (fun b _=>b=z) W) (fun _=>rfl) _;exact hK undef _ (WZ.mono (fun b o _ e=>Or.inr ⟨rfl,e⟩)) ⟨g',c',Af r2b _,q3.keep WZ (fun o e=>by omega),q4⟩
    | _+9=>simp at ho
   ·intro a' W F L hφ
    obtain ⟨g',c',b8,R8,h8⟩:∃ g' c',W.heap[z]?=some (.cells (pR (t+1) c s ad pl bl (.slice (some ⟨p,0,none⟩) n x) (.slice (some ⟨g',0,none⟩) (m+1) c')) 44 (0,0))∧Row W w.heap.size g' (m+1) c' (snoc g m dv)∧(g'=q∨z<g'):=Hd hφ 8;have BW:Below w.heap.size w W:=C3.trans (L.below C3.size (fun b o hb ⟨j,e⟩=>by omega));have V1:=U1.keep L (fun o ⟨j,e⟩=>by omega);have y1':=Ah y1 L (fun o ⟨j,e⟩=>by omega);have c1:=Ag y1';have f1:=As y1';have c2:=Ag b8;clear hφ L;rw [F.same,show slotsOf [some 26,some 27,some 28,some 29,some 30,some 31,some 32,some 33,none]=[26,27,28,29,30,31,32,33] from rfl];simp only [List.foldl_cons,List.foldl_nil];generalize a'.tmps[26]?.getD undef=s26;generalize a'.tmps[27]?.getD undef=s27;generalize a'.tmps[28]?.getD undef=s28;generalize a'.tmps[29]?.getD undef=s29
    generalize a'.tmps[30]?.getD undef=s30;generalize a'.tmps[31]?.getD undef=s31;generalize a'.tmps[32]?.getD undef=s32;generalize a'.tmps[33]?.getD undef=s33
    have KE:Hid (∀ W5,Wrote (fun b _=>b=w.heap.size+1∨b=z) W W5→Row W5 w.heap.size p n x f∧Row W5 w.heap.size g' (m+1) c' (snoc g m dv)∧Below w.heap.size w W5):=fun W5 WX =>
     ⟨V1.keep WX (fun _ h=>by omega),R8.keep WX (fun _ h=>by omega),BW.trans (WX.below BW.size (fun b o hb h=>by omega))⟩
    clear U1 U2 y0 y1 y2 y3 V1 R8 b8 y1' KEY F d0 d2 g2;rename_i KK hKK;refine hKK _ _ ?_;go_simp;go_wp2;refine bodyPost_ret (v:=.tuple #[.agg (pR (t+1) c s ad pl bl (.slice (some ⟨p,0,none⟩) n x) (.slice (some ⟨g',0,none⟩) (m+1) c')),.slice (some ⟨w.heap.size+1+1,0,none⟩) 0 0,.bool false]) (by simp [results,Tryz.results93,go_sem,c1]) rfl ?_
    have fin:∀ W5,Wrote (fun b _=>b=w.heap.size+1∨b=z) W W5→∃ v z',Ending.returned (.tuple #[.agg (pR (t+1) c s ad pl bl (.slice (some ⟨p,0,none⟩) n x) (.slice (some ⟨g',0,none⟩) (m+1) c')),.slice (some ⟨w.heap.size+1+1,0,none⟩) 0 0,.bool false])=.returned (.tuple #[v,z',.bool (Py t c)])∧Ip w W5 v z' (Ga t) c s ad pl (Ho t bl) n f (tkM t m) (Kz t f s pl m g) (Ki t m) g:=fun W5 WX=>by
     obtain ⟨h1,h2,h3⟩:=KE.out W5 WX;obtain ⟨e1,e2,e3,e4,e5,e6⟩:=HE.out;rw [e1,e2,e3,e4,e5,e6];obtain ⟨r1,r2,r3,r4⟩:=He (t:=t+1) (c:=c) (s:=s) (ad:=ad) (pl:=pl) (bl:=bl) h1 h2 (by omega) (show w.heap.size≤w.heap.size+1+1 by omega) (by omega) (by omega) g;exact ⟨_,_,rfl,⟨⟨_,_,r1,r2,r3,r4,h3⟩,_,_,_,rfl,h1,Or.inr ⟨_,_,rfl,h2,by omega⟩⟩,fun h=>absurd h (by omega)⟩
    refine fin _ ?_
    repeat (first | with_reducible exact Wrote.refl _ _ | with_reducible refine Wrote.drew ?_ | with_reducible refine Wrote.setCell ?_ (fun _=>by omega) _)
  by_cases hB:t%64=48
  ·have HE:Hid (Ga t=t+1∧Ho t bl=true∧tkM t m=0∧Kz t f s pl m g=g∧Ki t m=m∧Py t c=decide (127<c)):=⟨if_neg HT.out,(if_neg HT.out).trans (if_pos hB),(if_neg HT.out).trans ((if_neg hA).trans (if_pos hB)),(if_neg HT.out).trans (if_neg hA),(if_neg HT.out).trans (if_pos hB),(if_neg HT.out).trans (if_pos hB)⟩
   clear m64;rw [hB];clear hA hB KEY;go_upto_region 12 with (fail);clear d0 d1 d2 g1 g2
   have WS:Wrote (fun b _=>b=z) W3 ((W3.setCell ⟨z,5,none⟩ (.bool true)).setCell ⟨z,7,none⟩ (.slice none 0 0)):=(Wrote.setCell (Wrote.setCell (Wrote.refl (fun b _=>b=z) W3) (fun _=>rfl) _) (fun _=>rfl) _)
   have x0:=Ah y0 WS (fun o h=>by omega);have x1:=Ah y1 WS (fun o h=>by omega);have x3:=Ah y3 WS (fun o h=>by omega);have x2:((W3.setCell ⟨z,5,none⟩ (.bool true)).setCell ⟨z,7,none⟩ (.slice none 0 0)).heap[z]?=some (.cells (pR (t+1) c s ad pl true (.slice (some ⟨p,0,none⟩) n x) (.slice none 0 0)) 44 (0,0)):=Af (Af y2 _) _;have S1:=U1.keep WS (fun _ h=>by omega);have C4:=C3.trans (WS.below C3.size (fun b o hb h=>by omega));have z4:=WS.size
   have HZ:Hid (z<((W3.setCell ⟨z,5,none⟩ (.bool true)).setCell ⟨z,7,none⟩ (.slice none 0 0)).heap.size):=by show _<_; omega
   clear y0 y1 y2 y3 U1 U2 C3 WS z3;generalize ((W3.setCell ⟨z,5,none⟩ (.bool true)).setCell ⟨z,7,none⟩ (.slice none 0 0))=W4 at *
   refine A8 [some 39,some 40,some 41,some 42,some 43,some 44,some 45,some 46,none,some 3,some 4] (by kernel_rfl) (by kernel_rfl) (by kernel_rfl) (by kernel_rfl) (by simp [slotsOf])
    (fun j b _=>j=8∧b=w.heap.size+1)
    (fun i v W=>match i with
     | 0=>v=.agg (pR (t+1) c s ad pl true (.slice (some ⟨p,0,none⟩) n x) (.slice none 0 0))
     | 1=>v=.slice (some ⟨w.heap.size+1+1,0,none⟩) 0 0
     | 2=>v=(pt w.heap.size 7)
     | 3=>v=.slice va m vx
     | 4=>∃ g' c',v=.slice (some ⟨g',0,none⟩) m c'∧Row W w.heap.size g' m c' g∧(g'=w.heap.size+1+1∨z<g')
     | 5=>v=(pt w.heap.size 1)
     | 6=>v=.i c
     | 7=>v=.bool (decide (127<c))
     | 8=>W.heap[w.heap.size+1]?=some (.cells (pR (t+1) c s ad pl true (.slice (some ⟨p,0,none⟩) n x) (.slice none 0 0)) 44 (0,0))
     | 9=>∃ g' c',v=.slice (some ⟨g',0,none⟩) m c'∧Row W w.heap.size g' m c' g∧(g'=w.heap.size+1+1∨z<g')
     | _=>v=.bool (decide (127<c))) ?_ ?_ ?_
   ·intro i j o v W W' hij ho hnw hW h
    match i,hij,ho,h with
    | 0,_,_,h=>exact h
    | 1,_,_,h=>exact h
    | 2,_,_,h=>exact h
    | 3,_,_,h=>exact h
    | 4,_,_,⟨g',c',h1,h2,h3⟩=>exact ⟨g',c',h1,h2.keep hW (fun o e=>by omega),h3⟩
    | 5,_,_,h=>exact h
    | 6,_,_,h=>exact h
    | 7,_,_,h=>exact h
    | 8,hij,_,h=>exact Ah h hW (fun o e=>hij e.1.symm)
    | 9,_,_,⟨g',c',h1,h2,h3⟩=>exact ⟨g',c',h1,h2.keep hW (fun o e=>by omega),h3⟩
    | _+10,_,_,h=>exact h
   ·intro i o a' W K' ho F' L hw hK
    have BW:Below w.heap.size w W:=C4.trans (L.below C4.size (fun b o hb ⟨j,_,_,_,_,e⟩=>by omega));have r0:=Ag (Ah x0 L (fun o ⟨j,_,_,_,_,e⟩=>by omega));have r2:=Ag (Ah x2 L (fun o ⟨j,_,_,_,_,e⟩=>by omega));have t1':=F'.get (t:=1) (v:=(pt w.heap.size 0)) (by decide) rfl;have t2':=F'.get (t:=2) (v:=(pt (w.heap.size+1) 0)) (by decide) rfl;have t5':=F'.get (t:=5) (v:=.slice (some ⟨w.heap.size+1+1,0,none⟩) 0 0) (by decide) rfl;have t6:=F'.get (t:=6) (v:=(pt z 0)) (by decide) rfl
    match i with
    | 0 =>
     cases ho;go_simp;exact Hk hK rfl
    | 1 =>
     cases ho;go_simp;exact Hk hK rfl
    | 2 =>
     cases ho;go_simp;exact Hk hK rfl
    | 3 =>
     cases ho;have q1:tv a' 41=_:=Hr hw 2;go_simp;exact Hk hK rfl
    | 4 =>
     cases ho;have q1:tv a' 40=_:=Hr hw 1;have q2:tv a' 42=_:=Hr hw 3;have r3:=Ah x3 L (fun o ⟨j,_,_,_,_,e⟩=>by omega);have hsz:=L.size;have hz4:=HZ.out;refine Jt W (.tmp 40) (.tmp 42) rfl (w.heap.size+1+1) (by simpa [Act.eval] using q1) r3 w.heap.size (by omega) G (.slice va m vx) m g (by simpa [Act.eval] using q2) (K.keep (Ab BW Aj) (fun _ _ _ x=>x)) ?_;intro g' c' W' h1 h2 h3;exact hK _ _ (Ab h2 _) ⟨g',c',rfl,h1,by omega⟩
    | 5 =>
     cases ho;go_simp;exact Hk hK rfl
    | 6 =>
     cases ho;have q1:tv a' 44=_:=Hr hw 5;go_simp;exact Hk hK rfl
    | 7 =>
     cases ho;have q1:tv a' 45=_:=Hr hw 6;go_simp;exact Hk hK rfl
    | 8 =>
     cases ho;have q1:tv a' 39=_:=Hr hw 0;have r1:=Ah x1 L (fun o ⟨j,_,h1,_,_,h2,e⟩=>h1 h2);have rc:=Ag r1;have rf:=As r1;go_simp;exact hK undef _ ((Ma _ _ _ _ _ _ _ _ _ _).mono (fun b o _ e=>⟨rfl,e⟩)) (Q4 r1 _ _ _ _ _ _ _ _)
    | 9 =>
     cases ho;obtain ⟨g',c',q2,q3,q4⟩:∃ g' c',a'.tmps[43]?.getD undef=.slice (some ⟨g',0,none⟩) m c'∧Row W w.heap.size g' m c' g∧(g'=w.heap.size+1+1∨z<g'):=Hr hw 4;go_simp;exact Hk hK ⟨g',c',rfl,q3,q4⟩
    | 10 =>
     cases ho;have q1:tv a' 46=_:=Hr hw 7;go_simp;exact Hk hK rfl
    | _+11=>simp at ho
   ·intro a' W F' L hφ
    obtain ⟨g',c',e3,R9,h9⟩:∃ g' c',a'.tmps[3]?.getD undef=.slice (some ⟨g',0,none⟩) m c'∧Row W w.heap.size g' m c' g∧(g'=w.heap.size+1+1∨z<g'):=Hd hφ 9;have e4:a'.tmps[4]?.getD undef=.bool (decide (127<c)):=Hd hφ 10;have b8:W.heap[w.heap.size+1]?=some (.cells (pR (t+1) c s ad pl true (.slice (some ⟨p,0,none⟩) n x) (.slice none 0 0)) 44 (0,0)):=Hd hφ 8;have c1:=Ag b8;have BW:Below w.heap.size w W:=C4.trans (L.below C4.size (fun b o hb ⟨j,e⟩=>by omega));have V1:=S1.keep L (fun o ⟨j,e⟩=>by omega);clear hφ L;rw [F'.same,show slotsOf [some 39,some 40,some 41,some 42,some 43,some 44,some 45,some 46,none,some 3,some 4]=[39,40,41,42,43,44,45,46,3,4] from rfl];simp only [List.foldl_cons,List.foldl_nil];rw [e3,e4];generalize a'.tmps[39]?.getD undef=s39;generalize a'.tmps[40]?.getD undef=s40
    generalize a'.tmps[41]?.getD undef=s41;generalize a'.tmps[42]?.getD undef=s42;generalize a'.tmps[43]?.getD undef=s43;generalize a'.tmps[44]?.getD undef=s44;generalize a'.tmps[45]?.getD undef=s45;generalize a'.tmps[46]?.getD undef=s46
    have fin:∃ v z',Ending.returned (.tuple #[.agg (pR (t+1) c s ad pl true (.slice (some ⟨p,0,none⟩) n x) (.slice none 0 0)),.slice (some ⟨g',0,none⟩) m c',.bool (decide (127<c))])=.returned (.tuple #[v,z',.bool (Py t c)])∧Ip w W v z' (Ga t) c s ad pl (Ho t bl) n f (tkM t m) (Kz t f s pl m g) (Ki t m) g:=by
     obtain ⟨i1,i2,i3,i4,i5,i6⟩:=HE.out;rw [i1,i2,i3,i4,i5,i6];have pw:=V1.parts;exact ⟨_,_,rfl,⟨⟨fun b=>b=p,fun b=>b=g',⟨_,_,_,_,rfl,V1.onD rfl,Cm.nil _,fun b o _ h=>absurd h (Bo _ _ _)⟩,⟨_,_,rfl,R9.onD rfl⟩,fun b h1 h2=>by omega,fun b h=>by have:=R9.parts; omega,BW⟩,_,_,_,rfl,V1,Or.inl ⟨rfl,rfl⟩⟩,fun _=>⟨_,_,rfl,R9⟩⟩
    have FIN:=Ad fin;clear fin R9 V1 BW b8 F' S1 x0 x1 x2 x3 C4;rename_i K1 k1 K2 k2;refine k2 _ _ ?_;go_simp;go_wp2;refine bodyPost_ret (v:=.tuple #[.agg (pR (t+1) c s ad pl true (.slice (some ⟨p,0,none⟩) n x) (.slice none 0 0)),.slice (some ⟨g',0,none⟩) m c',.bool (decide (127<c))]) (by simp [results,Tryz.results93,go_sem,c1]) rfl ?_;exact FIN.out
  by_cases hC:t%64=63
  ·have HE:Hid (Ga t=t+1∧Ho t bl=false∧tkM t m=m∧Kz t f s pl m g=g∧Ki t m=0∧Py t c=false):=⟨if_neg HT.out,(if_neg HT.out).trans ((if_neg hB).trans (if_pos hC)),(if_neg HT.out).trans ((if_neg hA).trans (if_neg hB)),(if_neg HT.out).trans (if_neg hA),(if_neg HT.out).trans (if_neg hB),(if_neg HT.out).trans (if_neg hB)⟩
   clear U1 U2 y0 y1 y2 y3 m64;rw [hC];clear hA hB hC;go_wp2;refine bodyPost_ret (v:=.tuple #[.agg (pR (t+1) c s ad pl false (.slice (some ⟨p,0,none⟩) n x) (.slice (some ⟨q,0,none⟩) m y)),.slice (some ⟨w.heap.size+1+1,0,none⟩) 0 0,.bool false]) (by simp [results,Tryz.results93,go_sem,d1]) rfl ?_
   have fin:∀ W5,Wrote (fun b _=>b=w.heap.size+1∨b=z) W3 W5→∃ v z',Ending.returned (.tuple #[.agg (pR (t+1) c s ad pl false (.slice (some ⟨p,0,none⟩) n x) (.slice (some ⟨q,0,none⟩) m y)),.slice (some ⟨w.heap.size+1+1,0,none⟩) 0 0,.bool false])=.returned (.tuple #[v,z',.bool (Py t c)])∧Ip w W5 v z' (Ga t) c s ad pl (Ho t bl) n f (tkM t m) (Kz t f s pl m g) (Ki t m) g:=fun W5 WX=>by
    obtain ⟨h1,h2,h3⟩:=KEY.out W5 WX;obtain ⟨e1,e2,e3,e4,e5,e6⟩:=HE.out;rw [e1,e2,e3,e4,e5,e6];obtain ⟨r1,r2,r3,r4⟩:=He (t:=t+1) (c:=c) (s:=s) (ad:=ad) (pl:=pl) (bl:=false) h1 h2 hpq (show w.heap.size≤w.heap.size+1+1 by omega) (by omega) (by omega) g;exact ⟨_,_,rfl,⟨⟨_,_,r1,r2,r3,r4,h3⟩,_,_,_,rfl,h1,Or.inr ⟨_,_,rfl,h2,by omega⟩⟩,fun h=>absurd h (by omega)⟩
   refine fin _ ?_
   repeat (first | with_reducible exact Wrote.refl _ _ | with_reducible refine Wrote.drew ?_ | with_reducible refine Wrote.setCell ?_ (fun _=>by omega) _)
  ·have HE:Hid (Ga t=t+1∧Ho t bl=bl∧tkM t m=m∧Kz t f s pl m g=g∧Ki t m=0∧Py t c=false):=⟨if_neg HT.out,(if_neg HT.out).trans ((if_neg hB).trans (if_neg hC)),(if_neg HT.out).trans ((if_neg hA).trans (if_neg hB)),(if_neg HT.out).trans (if_neg hA),(if_neg HT.out).trans (if_neg hB),(if_neg HT.out).trans (if_neg hB)⟩
   have b1:decide (t%64<48)=false:=by simpa using hA
   have b2:(t%64==48)=false:=by simpa using hB
   have b3:(t%64==63)=false:=by simpa using hC
   clear U1 U2 y0 y1 y2 y3 m64 hB hC;go_wp2;refine bodyPost_ret (v:=.tuple #[.agg (pR (t+1) c s ad pl bl (.slice (some ⟨p,0,none⟩) n x) (.slice (some ⟨q,0,none⟩) m y)),.slice (some ⟨w.heap.size+1+1,0,none⟩) 0 0,.bool false]) (by simp [results,Tryz.results93,go_sem,d1]) rfl ?_
   have fin:∀ W5,Wrote (fun b _=>b=w.heap.size+1∨b=z) W3 W5→∃ v z',Ending.returned (.tuple #[.agg (pR (t+1) c s ad pl bl (.slice (some ⟨p,0,none⟩) n x) (.slice (some ⟨q,0,none⟩) m y)),.slice (some ⟨w.heap.size+1+1,0,none⟩) 0 0,.bool false])=.returned (.tuple #[v,z',.bool (Py t c)])∧Ip w W5 v z' (Ga t) c s ad pl (Ho t bl) n f (tkM t m) (Kz t f s pl m g) (Ki t m) g:=fun W5 WX=>by
    obtain ⟨h1,h2,h3⟩:=KEY.out W5 WX;obtain ⟨e1,e2,e3,e4,e5,e6⟩:=HE.out;rw [e1,e2,e3,e4,e5,e6];obtain ⟨r1,r2,r3,r4⟩:=He (t:=t+1) (c:=c) (s:=s) (ad:=ad) (pl:=pl) (bl:=bl) h1 h2 hpq (show w.heap.size≤w.heap.size+1+1 by omega) (by omega) (by omega) g;exact ⟨_,_,rfl,⟨⟨_,_,r1,r2,r3,r4,h3⟩,_,_,_,rfl,h1,Or.inr ⟨_,_,rfl,h2,by omega⟩⟩,fun h=>absurd h (by omega)⟩
   refine fin _ ?_
   repeat (first | with_reducible exact Wrote.refl _ _ | with_reducible refine Wrote.drew ?_ | with_reducible refine Wrote.setCell ?_ (fun _=>by omega) _)
end Go.Proofs.YtgcmimcalmjaaaaGreatDoor
