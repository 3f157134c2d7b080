import Derived.Test.YtgcmimcalmjaaaaGreatDoorT8
namespace Go.Proofs.YtgcmimcalmjaaaaGreatDoor
set_option linter.unusedVariables false
set_option linter.unusedSimpArgs false
open Go.ChangeShapes Go.WideShapes Go.ChangeAt Go.RowKit
theorem Px.keep {R:Nat→Nat→Prop} {W W':World} {lo lo' p:Nat} {dd:Value} {m:Nat} {g:Nat→Int} (h:Px W lo p dd m g) (hw:Wrote R W W') (hd:∀ b o,lo≤b→¬ R b o) (hl:lo'≤lo):Px W' lo' p dd m g:=by
 rcases h with h | ⟨q,y,e,r,hne⟩
 ·exact Or.inl h
 ·exact Or.inr ⟨q,y,e,(r.keep hw (fun o=>hd q o r.parts.1)).mono hl,hne⟩
theorem Mc {W:World} {lo p x q y n m:Nat} {f g:Nat→Int} {t c s ad pl:Int} {bl:Bool} (R1:Row W lo p n x f) (R2:Row W lo q m y g) (h:p≠q) :
  Cf W (fun b=>lo≤b) (.agg (pR t c s ad pl bl (.slice (some ⟨p,0,none⟩) n x) (.slice (some ⟨q,0,none⟩) m y))) t c s ad pl bl n f m g :=
 ⟨_,_,_,_,rfl,R1.onD R1.parts.1,R2.onD R2.parts.1,E5 h⟩
theorem Md (w:World) (D:Nat→Prop) (v:Value) (t c s ad pl:Int) (bl:Bool) (n:Nat) (f:Nat→Int) (m:Nat) (g:Nat→Int) (H:Cf w D v t c s ad pl bl n f m g) (reg x:Int):Calls Tryz.prog 122 #[v,.i reg,.i x] w fun e w'=>∃ v',e=.returned v'∧Cf w' (fun b=>w.heap.size≤b) v' t (Jg (A1 t c s ad pl n f m g) reg x c) (Jh (A1 t c s ad pl n f m g) reg x s) (Ji (A1 t c s ad pl n f m g) reg x ad) (Jj (A1 t c s ad pl n f m g) reg x pl) bl n (Kh (A1 t c s ad pl n f m g) reg x ad f) m g∧Below w.heap.size w w':=by
 obtain ⟨u,u',rfl,h1,h2⟩:=H.ints;refine (Pw w _ _ t c s ad pl bl u u' n f m g reg x h1 h2).mono ?_;rintro e w' ⟨p,x,q,y,rfl,R1,R2,hpq,L⟩;exact ⟨_,rfl,Mc R1 R2 hpq,L⟩
theorem Nx (w:World) (D:Nat→Prop) (v:Value) (t c s ad pl:Int) (bl:Bool) (n:Nat) (f:Nat→Int) (m:Nat) (g:Nat→Int) (H:Cf w D v t c s ad pl bl n f m g) (reg:Int):Calls Tryz.prog 118 #[v,.i reg] w fun e w'=>∃ v',e=.returned (.tuple #[v',.i (Oo (A1 t c s ad pl n f m g) reg bl ad f)])∧Cf w' (fun b=>w.heap.size≤b) v' t c s (Mb (A1 t c s ad pl n f m g) reg ad) pl (Om (A1 t c s ad pl n f m g) reg bl) n f m g∧Below w.heap.size w w':=by
 obtain ⟨u,u',rfl,h1,h2⟩:=H.ints;refine (Q5 w _ _ t c s ad pl bl u u' n f m g reg h1 h2).mono ?_;rintro e w' ⟨p,x,q,y,rfl,R1,R2,hpq,L⟩;exact ⟨_,rfl,Mc R1 R2 hpq,L⟩
theorem By.small {W:World} {D:Nat→Prop} {u:Value} {k:Nat} {h:Nat→Int} (H:By W D u k h):k≤1048576:=by
 obtain ⟨d,z,e,hs⟩:=H;exact hs.small
theorem By.keep {R:Nat→Nat→Prop} {W W':World} {D:Nat→Prop} {u:Value} {k:Nat} {h:Nat→Int} (H:By W D u k h) (hw:Wrote R W W') (hd:∀ b o,D b→b<W.heap.size→¬ R b o):By W' D u k h:=by
 obtain ⟨d,z,e,hs⟩:=H;exact ⟨d,z,e,hs.keep hw (fun b o _=>hd b o)⟩
theorem By.below {W W':World} {D:Nat→Prop} {u:Value} {k:Nat} {h:Nat→Int} (H:By W D u k h) (L:Below W.heap.size W W'):By W' D u k h:=H.keep (Ab L Aj) (fun _ _ _ _ x=>x)
theorem By.mono {W:World} {D E:Nat→Prop} {u:Value} {k:Nat} {h:Nat→Int} (H:By W D u k h) (hd:∀ b,b<W.heap.size→D b→E b):By W E u k h:=by
 obtain ⟨d,z,e,hs⟩:=H;exact ⟨d,z,e,hs.mono hd⟩
theorem By.two {W:World} {D:Nat→Prop} {u:Value} {k:Nat} {h:Nat→Int} (H:By W D u k h):∃ d z,u=.slice d k z:=by
 obtain ⟨d,z,e,hs⟩:=H;exact ⟨d,z,e⟩
theorem Me (w:World) (D E:Nat→Prop) (u v:Value) (k:Nat) (h:Nat→Int) (H:By w D u k h) (K:By w E v k h):Calls Tryz.prog 31 #[u,v] w fun e w'=>e=.returned (.bool true)∧Below w.heap.size w w':=by
 obtain ⟨d,z,rfl,hs⟩:=H;obtain ⟨d',z',rfl,hs'⟩:=K;refine (J8 w _ _ _ _ k k h h (hs.ints z) (hs'.ints z')).mono ?_;rintro e w' ⟨rfl,dd,rfl⟩;exact ⟨by rw [Eq],below_drewN (Below.refl _ _) dd⟩
theorem I6 (w:World) (D:Nat→Prop) (u:Value) (k:Nat) (h:Nat→Int) (j:Int) (H:By w D u k h) (j0:0≤j) (j1:j≤1099511627776):Calls Tryz.prog 39 #[u,.i j] w fun e w'=>e=.returned (.i (j+k))∧By w' D u k (fun i=>j+i)∧Wrote (On D) w w':=by
 obtain ⟨d,z,rfl,hs⟩:=H;have hn:=hs.small;refine (Hs w d k z h j hs.row hs.free j0 (by omega)).mono ?_;rintro e w' ⟨rfl,R,T,-⟩;exact ⟨rfl,⟨_,_,rfl,hn,R,hs.free.keep T,hs.on⟩,T.mono (fun b o _ x=>hs.on b o x)⟩
theorem I7 (w:World) (D:Nat→Prop) (u:Value) (k:Nat) (j:Int) (H:By w D u k (fun i=>j+i)) (j0:0≤j) (j1:j≤1099511627776):Calls Tryz.prog 44 #[u,.i j] w fun e w'=>e=.returned (.i (j+k))∧Below w.heap.size w w':=by
 obtain ⟨d,z,rfl,hs⟩:=H;have hn:=hs.small;refine (Ht w d k z j hs.row j0 (by omega)).mono ?_;rintro e w' ⟨rfl,rfl⟩;exact ⟨rfl,Below.refl _ _⟩
theorem Jdb (x y:Int) (x0:0≤x) (x1:x≤63) (y0:0≤y) (y1:y≤63):0≤bits .xor .i64 x y∧bits .xor .i64 x y≤63:=by
 have key:∀ a b:Fin 64,0≤bits .xor .i64 ((a.val:Nat):Int) ((b.val:Nat):Int)∧bits .xor .i64 ((a.val:Nat):Int) ((b.val:Nat):Int)≤63:=by decide +kernel
 obtain ⟨a,rfl⟩:∃ a:Nat,x=a:=⟨x.toNat,by omega⟩
 obtain ⟨b,rfl⟩:∃ b:Nat,y=b:=⟨y.toNat,by omega⟩
 exact key ⟨a,by omega⟩ ⟨b,by omega⟩
section
variable {t c s ad pl:Int} {n:Nat} {f:Nat→Int} {m:Nat} {g:Nat→Int}
theorem Q6 (h:Iv t c s ad pl n f m g):A1 t c s ad pl n f m g=true :=
 Ol (Bn ⟨h.t0,h.t1⟩) (Bn ⟨h.c0,h.c1⟩) (Bn ⟨h.s0,h.s1⟩) (Bn ⟨h.a0,h.a1⟩) (Bn ⟨h.p0,h.p1⟩) h.n16 h.dots h.tab h.dot
theorem Ja6 (h:Iv t c s ad pl n f m g) (a:Int):0≤Hn f s pl a∧Hn f s pl a≤63:=by
 have h1:=h.tab ((a%8+s+a/8)%16).toNat (by have:=h.n16; omega);exact Jdb _ _ h1.1 h1.2 h.p0 h.p1
theorem Q7 (h:Iv t c s ad pl n f m g) (reg v:Int):Iv t (Jg true reg v c) (Jh true reg v s) (Ji true reg v ad) (Jj true reg v pl) n (Kh true reg v ad f) m g:=by
 have hc:0≤Jg true reg v c∧Jg true reg v c≤255:=by unfold Jg; split; omega; exact ⟨h.c0,h.c1⟩
 have hs:0≤Jh true reg v s∧Jh true reg v s≤255:=by unfold Jh; split; omega; exact ⟨h.s0,h.s1⟩
 have ha:0≤Ji true reg v ad∧Ji true reg v ad≤15:=by unfold Ji; split; omega; split; omega; exact ⟨h.a0,h.a1⟩
 have hp:0≤Jj true reg v pl∧Jj true reg v pl≤63:=by unfold Jj; split; omega; exact ⟨h.p0,h.p1⟩
 refine ⟨h.t0,h.t1,hc.1,hc.2,hs.1,hs.2,ha.1,ha.2,hp.1,hp.2,h.n16,h.dots,fun j hj=>?_,h.dot⟩;unfold Kh;split
 ·show 0≤(if j=ad.toNat then v%256%64 else f j)∧(if j=ad.toNat then v%256%64 else f j)≤63
  split
  ·omega
  ·exact h.tab j hj
 ·exact h.tab j hj
theorem Td (h:Iv t c s ad pl n f m g):Iv (Ga t) c s ad pl n f (tkM t m) (Kz t f s pl m g):=by
 have hd:=h.dots;have t0:=h.t0;have t1:=h.t1;unfold Dk at hd
 by_cases e:t=20000
 ·unfold Ga tkM Kz
  rw [if_pos e,if_pos e,if_pos e];exact h
 ·have e1:Ga t=t+1:=if_neg e
  have e2:tkM t m=if t%64<48 then m+1 else if t%64=48 then 0 else m:=if_neg e
  have e3:Kz t f s pl m g=if t%64<48 then snoc g m (Hn f s pl (t%64)) else g:=if_neg e
  have hdots:((tkM t m:Nat):Int)=Dk (Ga t):=by
   rw [e1,e2];unfold Dk;split
   ·rename_i a
    rw [if_neg (by omega)] at hd;rw [if_neg (by omega)]
    omega
   ·split
    ·rw [if_pos (by omega)]; rfl
    ·rw [if_pos (by omega)] at hd
     by_cases b:t%64=63
     ·rw [if_neg (by omega)]; omega
     ·rw [if_pos (by omega)]; omega
  refine ⟨by omega,by omega,h.c0,h.c1,h.s0,h.s1,h.a0,h.a1,h.p0,h.p1,h.n16,hdots,h.tab,fun j hj=>?_⟩;rw [e2] at hj;rw [e3];split
  ·rename_i a
   rw [if_pos a] at hj;unfold snoc;split
   ·exact Ja6 h _
   ·exact h.dot j (by omega)
  ·rename_i a
   rw [if_neg a] at hj;split at hj
   ·exact absurd hj (Nat.not_lt_zero _)
   ·exact h.dot j hj
end
set_option maxHeartbeats 1000000
def A5 (W:World) (lo:Nat):Option Nat→Value→Nat→(Nat→Int)→Prop
 | none,v,n,_=>v=.slice none 0 0∧n=0
 | some q,v,n,f=>∃ y,v=.slice (some ⟨q,0,none⟩) n y∧Row W lo q n y f
theorem A5.keep {R:Nat→Nat→Prop} {W W':World} {lo:Nat} {o:Option Nat} {v:Value} {n:Nat} {f:Nat→Int} (h:A5 W lo o v n f) (hw:Wrote R W W') (hd:∀ q,o=some q→lo≤q→q<W.heap.size→∀ k,¬ R q k):A5 W' lo o v n f:=by
 cases o with
 | none=>exact h
 | some q =>
  obtain ⟨y,e,r⟩:=h;exact ⟨y,e,r.keep hw (hd q rfl r.parts.1 r.parts.2.1)⟩
theorem A5.below {W W':World} {lo:Nat} {o:Option Nat} {v:Value} {n:Nat} {f:Nat→Int} (h:A5 W lo o v n f) (L:Below W.heap.size W W'):A5 W' lo o v n f:=h.keep (Ab L Aj) (fun _ _ _ _ _ x=>x)
theorem A5.mono {W:World} {lo lo':Nat} {o:Option Nat} {v:Value} {n:Nat} {f:Nat→Int} (h:A5 W lo o v n f) (hl:lo'≤lo):A5 W lo' o v n f:=by
 cases o with
 | none=>exact h
 | some q =>
  obtain ⟨y,e,r⟩:=h;exact ⟨y,e,r.mono hl⟩
theorem A5.lt {W:World} {lo q:Nat} {v:Value} {n:Nat} {f:Nat→Int} (h:A5 W lo (some q) v n f):lo≤q∧q<W.heap.size:=by
 obtain ⟨y,e,r⟩:=h;exact ⟨r.parts.1,r.parts.2.1⟩
theorem A5.sl {W:World} {lo:Nat} {o:Option Nat} {v:Value} {n:Nat} {f:Nat→Int} (h:A5 W lo o v n f):∃ a x,v=.slice a n x∧Cm W (fun b=>o=some b) a n f:=by
 cases o with
 | none =>
  obtain ⟨rfl,rfl⟩:=h;exact ⟨_,_,rfl,Cm.nil _⟩
 | some q =>
  obtain ⟨y,rfl,r⟩:=h;exact ⟨_,_,rfl,r.onD rfl⟩
theorem A5.form {W:World} {lo:Nat} {o:Option Nat} {v:Value} {n:Nat} {f:Nat→Int} (h:A5 W lo o v n f):∃ a x,v=.slice a n x:=by
 obtain ⟨a,x,e,-⟩:=h.sl;exact ⟨a,x,e⟩
theorem A5.ints {W:World} {lo:Nat} {o:Option Nat} {v:Value} {n:Nat} {f:Nat→Int} (h:A5 W lo o v n f):Ints .i64 W (On (fun b=>o=some b)) v n f:=by
 obtain ⟨a,x,rfl,r⟩:=h.sl;exact r.ints x
def Pz (o o':Option Nat):Prop:=∀ q,o=some q→¬ o'=some q
theorem Yz {W:World} {lo:Nat} {o o':Option Nat} {v v':Value} {n m:Nat} {f g:Nat→Int} {t c s ad pl:Int} {bl:Bool} (h1:A5 W lo o v n f) (h2:A5 W lo o' v' m g) (h3:Pz o o') :
  Cf W (fun b=>o=some b∨o'=some b) (.agg (pR t c s ad pl bl v v')) t c s ad pl bl n f m g:=by
 obtain ⟨a,x,rfl,r1⟩:=h1.sl;obtain ⟨b,y,rfl,r2⟩:=h2.sl;exact ⟨_,_,_,_,rfl,r1.mono (fun b _ h=>Or.inl h),r2.mono (fun b _ h=>Or.inr h),Q2 r1 r2 (fun b h=>h3 b h)⟩
theorem Jdc {W:World} {lo:Nat} {o o':Option Nat} {v v':Value} {n m:Nat} {f g:Nat→Int} (h1:A5 W lo o v n f) (h2:A5 W lo o' v' m g):∀ b,(o=some b∨o'=some b)→lo≤b:=fun b h=>by
 rcases h with rfl | rfl
 ·exact h1.lt.1
 ·exact h2.lt.1
theorem Gp (w:World) (G:Nat→Nat→Prop) (u:Value) (n:Nat) (g:Nat→Int) (K:Ints .i64 w G u n g) :
  Calls Tryz.prog 73 #[u] w fun e w'=>∃ v o,e=.returned v∧A5 w' w.heap.size o v n g∧Below w.heap.size w w':=by
 obtain ⟨ua,ucap,rfl,un,hrow,hG⟩:=K
 have hq:∀ W:World,(binOp .eql 25 (.slice ua n ucap) (.slice none 0 0)).run Tryz.prog W=.ok (.bool ua.isNone) W:=fun W=>Lib.run_eql_slice_nil W 25 3 ua n ucap 0 0 Tryz.underlying25
 cases ua with
 | none =>
  have hq':∀ W:World,(binOp .eql 25 (.slice none n ucap) (.slice none 0 0)).run Tryz.prog W=.ok (.bool true) W:=hq;clear hq
  have hn:n=0:=by
   rcases Nat.eq_zero_or_pos n with h | h
   ·exact h
   ·obtain ⟨b,off,e,-⟩:=hrow 0 h
    cases e
  subst hn;clear hrow
  go_enter Tryz.func73,Tryz.ntmps73
  go_wp2;go_ret;exact ⟨_,none,rfl,⟨rfl,rfl⟩,Below.refl _ _⟩
 | some ua =>
  have hq':∀ W:World,(binOp .eql 25 (.slice (some ua) n ucap) (.slice none 0 0)).run Tryz.prog W=.ok (.bool false) W:=hq;clear hq
  have K:Ints .i64 w G (.slice (some ua) n ucap) n g:=⟨_,_,rfl,un,hrow,hG⟩
  clear hrow hG;have L0:Below w.heap.size w (w.alloc (.cells #[] 3)):=(Below.refl _ _).alloc (Nat.le_refl _) _;have k0:=Al w #[] 3
  go_enter Tryz.func73,Tryz.ntmps73
  go_wp2_with (at_builtin; refine Eu _ rfl _ _ rfl w.heap.size rfl k0 w.heap.size (Nat.le_refl _) G (.slice (some ua) n ucap) n g rfl (K.keep (Ab L0 Aj) (fun _ _ _ x=>x)) ?_);rintro p x W2 R2 L2 hp;have L3:=L0.trans (L2.mono (by omega));have HR:=Ad R2;clear L0 L2 R2;go_wp2;go_ret;exact ⟨_,some p,rfl,⟨_,rfl,HR.out⟩,L3⟩
theorem P0 (w:World) (F G:Nat→Nat→Prop) (t c s ad pl:Int) (bl:Bool) (u u':Value) (n:Nat) (f:Nat→Int) (m:Nat) (g:Nat→Int) (H:Ints .i64 w F u n f) (K:Ints .i64 w G u' m g) :
  Calls Tryz.prog 75 #[.agg (pR t c s ad pl bl u u')] w fun e w'=>∃ v v' o o',e=.returned (.agg (pR t c s ad pl bl v v'))∧A5 w' w.heap.size o v n f∧A5 w' w.heap.size o' v' m g∧Pz o o'∧Below w.heap.size w w':=by
 obtain ⟨ua,ux,rfl,un,hr,hF⟩:=H;obtain ⟨va,vx,rfl,vn,hr',hF'⟩:=K
 have H:Ints .i64 w F (.slice ua n ux) n f:=⟨_,_,rfl,un,hr,hF⟩
 have K:Ints .i64 w G (.slice va m vx) m g:=⟨_,_,rfl,vn,hr',hF'⟩
 clear hr hF hr' hF';have L0:Below w.heap.size w ((w.alloc (.cells (pR t c s ad pl bl (.slice ua n ux) (.slice va m vx)) 44)).alloc (.cells (pR 0 0 0 0 0 false (.slice none 0 0) (.slice none 0 0)) 44)):=((Below.refl _ _).alloc (Nat.le_refl _) _).alloc (by simp) _;have k0:((w.alloc (.cells (pR t c s ad pl bl (.slice ua n ux) (.slice va m vx)) 44)).alloc (.cells (pR 0 0 0 0 0 false (.slice none 0 0) (.slice none 0 0)) 44)).heap[w.heap.size]?=some (.cells (pR t c s ad pl bl (.slice ua n ux) (.slice va m vx)) 44 (0,0)):=Ax (Al w _ _) _
 have k1:((w.alloc (.cells (pR t c s ad pl bl (.slice ua n ux) (.slice va m vx)) 44)).alloc (.cells (pR 0 0 0 0 0 false (.slice none 0 0) (.slice none 0 0)) 44)).heap[w.heap.size+1]?=some (.cells (pR 0 0 0 0 0 false (.slice none 0 0) (.slice none 0 0)) 44 (0,0)):=by simpa using Al (w.alloc (.cells (pR t c s ad pl bl (.slice ua n ux) (.slice va m vx)) 44)) (pR 0 0 0 0 0 false (.slice none 0 0) (.slice none 0 0)) 44
 go_enter Tryz.func75,Tryz.ntmps75
 go_wp2_with fail;generalize ((w.alloc (.cells (pR t c s ad pl bl (.slice ua n ux) (.slice va m vx)) 44)).alloc (.cells (pR 0 0 0 0 0 false (.slice none 0 0) (.slice none 0 0)) 44))=W0 at *;refine (Gp _ F _ n f (H.keep (Ab L0 Aj) (fun _ _ _ x=>x))).mono ?_;rintro e W1 ⟨v,o,rfl,R1,L1⟩;have z0:=Ac k1;have z1:=L1.size;have C1:=Ae L0 L1;replace k0:=Aa k0 L1 (Ac k0);replace k1:=Aa k1 L1 (Ac k1);have c0:=Ag k0;have f0:=As k0;obtain ⟨ra,rx,hv⟩:=R1.form;subst hv;clear L1;go_wp2_with fail;have WS:Wrote (fun b _=>b=w.heap.size) W1 (W1.setCell ⟨w.heap.size,6,none⟩ (.slice ra n rx)):=Wrote.setCell (R:=fun b _=>b=w.heap.size) (Wrote.refl _ W1) (fun _=>rfl) _;have j0:=Af (o:=6) k0 (.slice ra n rx);simp only [List.setIfInBounds_toArray,List.set_cons_succ,List.set_cons_zero] at j0
 have j1:=Bc (o:=6) (x:=.slice ra n rx) k1 (show w.heap.size+1≠w.heap.size by omega);have C2:=C1.setCell (p:=⟨w.heap.size,6,none⟩) (Nat.le_refl _) (.slice ra n rx);have S1:=R1.keep WS (fun q _ h1 _ _ h2=>by omega)
 have zz:(W1.setCell ⟨w.heap.size,6,none⟩ (.slice ra n rx)).heap.size=W1.heap.size:=by simp
 clear c0 f0 k0 k1 C1 R1 WS L0;generalize W1.setCell ⟨w.heap.size,6,none⟩ (.slice ra n rx)=W2 at *;refine (Gp _ G _ m g (K.keep (Ab C2 Aj) (fun _ _ _ x=>x))).mono ?_;rintro e W3 ⟨v',o',rfl,R3,L3⟩;have S3:=S1.below L3;have C3:=Ae C2 L3
 have HT:Hid (Pz o o'):=fun q e1 e2=>by
  subst e1 e2;have h1:=S1.lt;have h2:=R3.lt
  omega
 obtain ⟨ta,tx,hv⟩:=R3.form;subst hv;replace j0:=Aa j0 L3 (Ac j0);replace j1:=Aa j1 L3 (Ac j1);have c0:=Ag j0;have c1:=Ag j1;have f0:=As j0;have f1:=As j1
 have key:∀ W5,Wrote (fun b _=>b=w.heap.size∨b=w.heap.size+1) W3 W5→A5 W5 w.heap.size o (.slice ra n rx) n f∧A5 W5 w.heap.size o' (.slice ta m tx) m g∧Pz o o'∧Below w.heap.size w W5:=fun W5 WW =>
  ⟨(S3.keep WW (fun q _ h1 _ _ h2=>by omega)).mono (by omega),(R3.keep WW (fun q _ h1 _ _ h2=>by omega)).mono (by omega),HT.out,C3.trans (WW.below C3.size (fun b o hb h=>by omega))⟩
 have KEY:=Ad key;clear key S1 S3 R3 C2 C3 L3 j0 j1 H K;go_wp2;refine bodyPost_ret (v:=.agg (pR t c s ad pl bl (.slice ra n rx) (.slice ta m tx))) (by simp [results,Tryz.results75,go_sem,c1]) rfl ?_;refine ⟨_,_,_,_,rfl,KEY.out _ ?_⟩
 iterate 9 (refine Wrote.setCell ?_ (fun _=>by omega) _)
 exact Wrote.refl _ _
end Go.Proofs.YtgcmimcalmjaaaaGreatDoor
