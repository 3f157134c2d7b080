import Derived.Test.YtjnjnppongdhgaaGreatX2
import Derived.Test.YtjnjnppongdhgaaGreatAIa
import Derived.Test.YtjnjnppongdhgaaGreatI5
import Derived.Laws.EntriesVeiled
namespace Go.Proofs.YtjnjnppongdhgaaGreat
set_option linter.unusedVariables false
set_option linter.unusedSimpArgs false
open Go.ChangeShapes Go.WideShapes Go.ChangeAt Go.RowKit
theorem Ax {P:Program} {ops:Array Oper} {rest:List Oper} {o:Oper} {a:Act} {w:World} {Q:Exit→Act→World→Prop} (hg:o.guard=none)
  (f:FuncId) (args:Array Value) (hrun:(execOp a.eval o).run P w=.ok (.enter f args) w) {R:Ending→World→Prop} (hc:Calls P f args w R)
  (h:∀ e w',R e w'→∃ v,e=.returned v∧wpList P ops Q rest (a.put o.dst v) w'):wpList P ops Q (o :: rest) a w:=by
 refine wpList_plain hg fun K hK=>?_
 unfold Oper.wp;rw [hrun,Oper.upon_enter]
 refine hc.mono fun e w' hh=>?_
 obtain ⟨v,rfl,hw⟩:=h e w' hh;exact hK _ _ hw
theorem Xk {W:World} {g z:Nat} {c1 c2:Array Value} {t1 t2:TypeId} {f1 f2:Nat × Nat} (h:W.heap[g]?=some (Obj.cells c1 t1 f1)) (k:W.heap[z]?=some (Obj.cells c2 t2 f2)) (ht:t1≠t2):g≠z:=fun e=>by
 subst e;rw [h] at k
 injection k with k
 injection k with _ k' _
 exact ht k'
def rowL (u0 u1 u2 u3 u4 ov:Value) (g6 c6 g7 c7:Nat) (d:Ao):Array Value:=(kR d u0 u1 u2 u3 u4 ov (.slice (some ⟨g6,0,none⟩) d.ns c6) (.slice (some ⟨g7,0,none⟩) d.nq c7))
structure Bx (w W:World) (lo b r:Nat) (rs cs:Array Value):Prop where
 box:W.heap[b]?=some (.cells cs 41 (0,0))
 res:W.heap[r]?=some (.cells rs 41 (0,0))
 low:Below lo w W
 kept:Dc w W
 up:w.heap.size≤b
 up2:w.heap.size≤r
 ne:r≠b
 hl:lo≤w.heap.size
section
variable {w W W':World} {lo b r:Nat} {rs cs:Array Value}
theorem Bx.below (H:Bx w W lo b r rs cs) (L:Below W.heap.size W W'):Bx w W' lo b r rs cs :=
 ⟨Aa H.box L (Ae H.box),Aa H.res L (Ae H.res),H.low.trans (L.mono (Nat.le_trans H.hl H.low.size)),H.kept.trans (Dc.below L),H.up,H.up2,H.ne,H.hl⟩
theorem Bx.turn (H:Bx w W lo b r rs cs) (L:Below lo W W') (K:Dc W W'):Bx w W' lo b r rs cs :=
 ⟨K.2 _ _ _ H.box (by decide) (by decide),K.2 _ _ _ H.res (by decide) (by decide),H.low.trans L,H.kept.trans K,H.up,H.up2,H.ne,H.hl⟩
theorem Bx.wrote (H:Bx w W lo b r rs cs) {z:Nat} (hz:z=b∨z=r) (hw:Wrote (fun x _=>x=z) W W'):Below lo w W'∧Dc w W' :=
 have h1:=H.up;have h3:=H.up2;have h2:=H.hl
 ⟨H.low.trans (hw.below (Nat.le_trans H.hl H.low.size) (fun x o hb (e:x=z)=>by omega)),H.kept.wrote hw (fun x o hb (e:x=z)=>by exfalso; omega)⟩
theorem Bx.set (H:Bx w W lo b r rs cs) (cs':Array Value):Bx w (W.setRow b cs') lo b r rs cs' :=
 have hw:=An H.box cs';have k:=H.wrote (Or.inl rfl) hw
 ⟨setRow_heap _ _ _ cs' _ _ H.box,Ag H.res hw (fun o (e:r=b)=>H.ne e),k.1,k.2,H.up,H.up2,H.ne,H.hl⟩
theorem Bx.out (H:Bx w W lo b r rs cs) (rs':Array Value):Bx w (W.setRow r rs') lo b r rs' cs :=
 have hw:=An H.res rs';have k:=H.wrote (Or.inr rfl) hw
 ⟨Ag H.box hw (fun o (e:b=r)=>H.ne e.symm),setRow_heap _ _ _ rs' _ _ H.res,k.1,k.2,H.up,H.up2,H.ne,H.hl⟩
theorem Bx.cellW (H:Bx w W lo b r rs cs) (o:Nat) (v:Value):Wrote (fun x _=>x=b) W (W.setCell ⟨b,o,none⟩ v):=Wrote.setCell (b:=b) (o:=o) (R:=fun x _=>x=b) (Wrote.refl _ W) (fun _=>rfl) v
theorem Bx.cell (H:Bx w W lo b r rs cs) (o:Nat) (v:Value):Bx w (W.setCell ⟨b,o,none⟩ v) lo b r rs (cs.setIfInBounds o v) :=
 have hw:=H.cellW o v;have k:=H.wrote (Or.inl rfl) hw
 ⟨Ai H.box v,Ag H.res hw (fun o (e:r=b)=>H.ne e),k.1,k.2,H.up,H.up2,H.ne,H.hl⟩
end
structure Lx (w W:World) (lo N b r:Nat) (E D:Nat→Nat→Prop) (u0 u1 u2 u3 u4 ov:Value) (gb cp:Nat→Nat) (g6 c6 g7 c7:Nat) (d:Ao):Prop where
 lp:Az W lo N D u0 u1 u2 u3 u4 ov gb cp g6 c6 g7 c7 d
 ap:∀ i k,D i k→k≠b∧k≠r
 nr:Q3 w E D
 nl:lo≤N
section
variable {w W W':World} {lo N b r:Nat} {E D:Nat→Nat→Prop} {u0 u1 u2 u3 u4 ov:Value} {gb cp:Nat→Nat} {g6 c6 g7 c7:Nat} {d:Ao} {rs cs:Array Value}
theorem Lx.below (H:Lx w W lo N b r E D u0 u1 u2 u3 u4 ov gb cp g6 c6 g7 c7 d) (L:Below W.heap.size W W'):Lx w W' lo N b r E D u0 u1 u2 u3 u4 ov gb cp g6 c6 g7 c7 d:=⟨H.lp.below L,H.ap,H.nr,H.nl⟩
theorem Lx.wrote (H:Lx w W lo N b r E D u0 u1 u2 u3 u4 ov gb cp g6 c6 g7 c7 d) (B:Bx w W lo b r rs cs) {z:Nat} (hz:z=b∨z=r) (hw:Wrote (fun x _=>x=z) W W'):Lx w W' lo N b r E D u0 u1 u2 u3 u4 ov gb cp g6 c6 g7 c7 d:=by
 have kz:∃ c,W.heap[z]?=some (.cells c 41 (0,0)):=by
  rcases hz with e | e
  ·exact ⟨_,e ▸ B.box⟩
  ·exact ⟨_,e ▸ B.res⟩
 obtain ⟨c,kz⟩:=kz;obtain ⟨k6,h6⟩:=H.lp.h6.cur;obtain ⟨k7,h7⟩:=H.lp.h7.cur;exact ⟨H.lp.keepD hw (fun i x o h (e:x=z)=>by have:=H.ap i x h; omega) (fun o (e:g6=z)=>Xk h6 kz (by decide) e) (fun o (e:g7=z)=>Xk h7 kz (by decide) e),H.ap,H.nr,H.nl⟩
theorem Lx.nmi (H:Lx w W lo N b r E D u0 u1 u2 u3 u4 ov gb cp g6 c6 g7 c7 d) (x:Bool):Lx w W lo N b r E D u0 u1 u2 u3 u4 ov gb cp g6 c6 g7 c7 { d with nmi:=x } :=
 ⟨⟨H.lp.h0,H.lp.h1,H.lp.h2,H.lp.h3,H.lp.h4,H.lp.h4D,H.lp.h6,H.lp.h6D,H.lp.h7,H.lp.h7D,H.lp.dis,H.lp.bd,H.lp.n6,H.lp.n7,H.lp.nN,H.lp.hps⟩,H.ap,H.nr,H.nl⟩
theorem Lx.cpu (H:Lx w W lo N b r E D u0 u1 u2 u3 u4 ov gb cp g6 c6 g7 c7 d) (c:Bh):Lx w W lo N b r E D u0 u1 u2 u3 u4 ov gb cp g6 c6 g7 c7 (putCpu d d.g c) :=
 ⟨⟨H.lp.h0,H.lp.h1,H.lp.h2,H.lp.h3,H.lp.h4,H.lp.h4D,H.lp.h6,H.lp.h6D,H.lp.h7,H.lp.h7D,H.lp.dis,H.lp.bd,H.lp.n6,H.lp.n7,H.lp.nN,H.lp.hps⟩,H.ap,H.nr,H.nl⟩
theorem Lx.mem (H:Lx w W lo N b r E D u0 u1 u2 u3 u4 ov gb cp g6 c6 g7 c7 d) {p:Nat} {q:Value} {g:Nat→Int} (OI:Ay W p q 512 g) (hr:d.nr=512) (hp:N≤p) (hb:b<p) (hr2:r<p) (hw:w.heap.size≤p) (hq:p≤W.heap.size) :
  ∃ D',Lx w W lo W.heap.size b r E D' u0 u1 q u3 u4 ov gb cp g6 c6 g7 c7 { d with g:=g }:=by
 rw [← hr] at OI;have P2:=(Bn.own (bank:=d.bank) OI).mono (E:=fun x=>p≤x∧x<W.heap.size) (fun x hx h=>⟨h,hx⟩);refine ⟨_,H.lp.mem P2 hp H.nl hq (Nat.le_refl _),fun i k h=>?_,fun i k h=>?_,?_⟩
 ·rcases h with ⟨-,h1,h2⟩ | ⟨-,h⟩
  ·omega
  ·exact H.ap _ _ h
 ·rcases h with ⟨-,h1,h2⟩ | ⟨-,h⟩
  ·exact Or.inr (by omega)
  ·exact H.nr _ _ h
 ·have:=H.nl; omega
theorem Lx.one (H:Lx w W lo N b r E D u0 u1 u2 u3 u4 ov gb cp g6 c6 g7 c7 d):(rowL u0 u1 u2 u3 u4 ov g6 c6 g7 c7 d).all (·.oneCell')=true:=by
 obtain ⟨a0,b0,rfl⟩:=H.lp.h0.form;obtain ⟨a1,b1,rfl⟩:=H.lp.h1.two;obtain ⟨a2,b2,e2⟩:=H.lp.h2.two;simp only [Value.agg.injEq,Array.mk.injEq,List.cons.injEq,and_true] at e2;subst e2;obtain ⟨a3,b3,a4,b4,e3⟩:=H.lp.h3.two;simp only [Value.agg.injEq,Array.mk.injEq,List.cons.injEq,and_true,true_and] at e3;obtain ⟨rfl,rfl⟩:=e3;obtain ⟨a5,b5,rfl⟩:=H.lp.h4.form
 simp [rowL,Value.oneCell']
theorem Lx.nx (H:Lx w W lo N b r E D u0 u1 u2 u3 u4 ov gb cp g6 c6 g7 c7 d):Gh w W lo E (.agg (rowL u0 u1 u2 u3 u4 ov g6 c6 g7 c7 d)) d:=H.lp.nx H.nr
theorem Gh.lx {v:Value} {V:World} (H:Gh V W lo D v d) (hap:∀ i k,D i k→k≠b∧k≠r) (hnr:Q3 w E D) (hb:b<V.heap.size) (hr2:r<V.heap.size) (hw:w.heap.size≤V.heap.size) (hl:lo≤W.heap.size) :
  ∃ D' u0 u1 u2 u3 u4 ov gb cp g6 c6 g7 c7,v=.agg (rowL u0 u1 u2 u3 u4 ov g6 c6 g7 c7 d)∧Lx w W lo W.heap.size b r E D' u0 u1 u2 u3 u4 ov gb cp g6 c6 g7 c7 d:=by
 obtain ⟨D',⟨u0,u1,u2,u3,u4,ov,gb,cp,g6,c6,g7,c7,rfl,HP⟩,near⟩:=H;refine ⟨D',u0,u1,u2,u3,u4,ov,gb,cp,g6,c6,g7,c7,rfl,HP,fun i k h=>?_,fun i k h=>?_,hl⟩
 ·rcases near i k h with ⟨j,h'⟩ | h'
  ·exact hap j k h'
  ·omega
 ·rcases near i k h with ⟨j,h'⟩ | h'
  ·exact hnr j k h'
  ·exact Or.inr (by omega)
end
theorem Code.up {w w':World} {B:Nat} {a:Option Addr} {len:Nat} (H:Code w B a len) (hb:Below B w w') {B':Nat} (h:B≤B'):Code w' B' a len :=
 ⟨H.le,fun i hi=>by
  obtain ⟨b,off,ha,hlt,n,hc,h0,h1⟩:=H.at_ i hi
  exact ⟨b,off,ha,by omega,n,(hb.cell (p:=⟨b,off+i,none⟩) hlt).trans hc,h0,h1⟩⟩
theorem Cr.box {w:World} {lo lo' b:Nat} {v x:Value} {m:Nat} {ra:Nat→Option Addr} {ln rc:Nat→Nat} {f:Nat→Nat→Int} (h:Cr w lo v m ra ln rc f) (hb:b<lo) (hl:lo'≤b):Cr (w.setCell ⟨b,0,none⟩ x) lo' v m ra ln rc f :=
 (h.lower (by omega:b+1≤lo)).set_low hl
set_option linter.unusedVariables false
set_option linter.unusedSimpArgs false
open Go.Sort
theorem Uk (w:World) (z:Nat) (T P C B L:Int) (S Q:Bool) (hb:w.heap[z]?=some (.cells (aR T P C B L S Q) 35 (0,0))) (b:Bool) (h:decide (0<L)=b):Calls Tryz.prog 100 #[(pt z 0)] w fun e w'=>e=.returned (.bool b)∧w'=w:=by
 have hc:=Aj hb;have HH:=Ac h;clear h hb
 go_enter Tryz.func100,Tryz.ntmps100
 go_wp2;go_ret;exact ⟨Am HH.out,rfl⟩
set_option maxHeartbeats 1000000
def Bf (W:World) (lo:Nat):Option Nat→Value→Nat→(Nat→Int)→Prop
 | none,v,n,_=>v=.slice none 0 0∧n=0
 | some q,v,n,f=>∃ y,v=.slice (some ⟨q,0,none⟩) n y∧Row W lo q n y f
theorem Bf.keep {R:Nat→Nat→Prop} {W W':World} {lo:Nat} {o:Option Nat} {v:Value} {n:Nat} {f:Nat→Int} (h:Bf W lo o v n f) (hw:Wrote R W W') (hd:∀ q,o=some q→lo≤q→q<W.heap.size→∀ k,¬ R q k):Bf W' lo o v n f:=by
 cases o with
 | none=>exact h
 | some q =>
  obtain ⟨y,e,r⟩:=h;exact ⟨y,e,r.keep hw (hd q rfl r.parts.1 r.parts.2.1)⟩
theorem Bf.below {W W':World} {lo:Nat} {o:Option Nat} {v:Value} {n:Nat} {f:Nat→Int} (h:Bf W lo o v n f) (L:Below W.heap.size W W'):Bf W' lo o v n f:=h.keep (Ab L Ak) (fun _ _ _ _ _ x=>x)
theorem Bf.mono {W:World} {lo lo':Nat} {o:Option Nat} {v:Value} {n:Nat} {f:Nat→Int} (h:Bf W lo o v n f) (hl:lo'≤lo):Bf W lo' o v n f:=by
 cases o with
 | none=>exact h
 | some q =>
  obtain ⟨y,e,r⟩:=h;exact ⟨y,e,r.mono hl⟩
theorem Bf.lt {W:World} {lo q:Nat} {v:Value} {n:Nat} {f:Nat→Int} (h:Bf W lo (some q) v n f):lo≤q∧q<W.heap.size:=by
 obtain ⟨y,e,r⟩:=h;exact ⟨r.parts.1,r.parts.2.1⟩
theorem Bf.sl {W:World} {lo:Nat} {o:Option Nat} {v:Value} {n:Nat} {f:Nat→Int} (h:Bf W lo o v n f):∃ a x,v=.slice a n x∧Bp W (fun b=>o=some b) a n f:=by
 cases o with
 | none =>
  obtain ⟨rfl,rfl⟩:=h;exact ⟨_,_,rfl,Bp.nil _⟩
 | some q =>
  obtain ⟨y,rfl,r⟩:=h;exact ⟨_,_,rfl,r.onD rfl⟩
theorem Bf.form {W:World} {lo:Nat} {o:Option Nat} {v:Value} {n:Nat} {f:Nat→Int} (h:Bf W lo o v n f):∃ a x,v=.slice a n x:=by
 obtain ⟨a,x,e,-⟩:=h.sl;exact ⟨a,x,e⟩
theorem Bf.ints {W:World} {lo:Nat} {o:Option Nat} {v:Value} {n:Nat} {f:Nat→Int} (h:Bf W lo o v n f):Ints .i64 W (On (fun b=>o=some b)) v n f:=by
 obtain ⟨a,x,rfl,r⟩:=h.sl;exact r.ints x
def Y3 (o o':Option Nat):Prop:=∀ q,o=some q→¬ o'=some q
theorem Wk {W:World} {lo:Nat} {o o':Option Nat} {v v':Value} {n m:Nat} {f g:Nat→Int} {t c s ad pl:Int} {bl:Bool} (h1:Bf W lo o v n f) (h2:Bf W lo o' v' m g) (h3:Y3 o o') :
  Bv W (fun b=>o=some b∨o'=some b) (.agg (pR t c s ad pl bl v v')) t c s ad pl bl n f m g:=by
 obtain ⟨a,x,rfl,r1⟩:=h1.sl;obtain ⟨b,y,rfl,r2⟩:=h2.sl;exact ⟨_,_,_,_,rfl,r1.mono (fun b _ h=>Or.inl h),r2.mono (fun b _ h=>Or.inr h),Wg r1 r2 (fun b h=>h3 b h)⟩
theorem Jal {W:World} {lo:Nat} {o o':Option Nat} {v v':Value} {n m:Nat} {f g:Nat→Int} (h1:Bf W lo o v n f) (h2:Bf W lo o' v' m g):∀ b,(o=some b∨o'=some b)→lo≤b:=fun b h=>by
 rcases h with rfl | rfl
 ·exact h1.lt.1
 ·exact h2.lt.1
theorem Fq (w:World) (G:Nat→Nat→Prop) (u:Value) (n:Nat) (g:Nat→Int) (K:Ints .i64 w G u n g) :
  Calls Tryz.prog 43 #[u] w fun e w'=>∃ v o,e=.returned v∧Bf w' w.heap.size o v n g∧Below w.heap.size w w':=by
 obtain ⟨ua,ucap,rfl,un,hrow,hG⟩:=K
 have hq:∀ W:World,(binOp .eql 27 (.slice ua n ucap) (.slice none 0 0)).run Tryz.prog W=.ok (.bool ua.isNone) W:=fun W=>Lib.run_eql_slice_nil W 27 3 ua n ucap 0 0 Tryz.underlying27
 cases ua with
 | none =>
  have hq':∀ W:World,(binOp .eql 27 (.slice none n ucap) (.slice none 0 0)).run Tryz.prog W=.ok (.bool true) W:=hq;clear hq
  have hn:n=0:=by
   rcases Nat.eq_zero_or_pos n with h | h
   ·exact h
   ·obtain ⟨b,off,e,-⟩:=hrow 0 h
    cases e
  subst hn;clear hrow
  go_enter Tryz.func43,Tryz.ntmps43
  go_wp2;go_ret;exact ⟨_,none,rfl,⟨rfl,rfl⟩,Below.refl _ _⟩
 | some ua =>
  have hq':∀ W:World,(binOp .eql 27 (.slice (some ua) n ucap) (.slice none 0 0)).run Tryz.prog W=.ok (.bool false) W:=hq;clear hq
  have K:Ints .i64 w G (.slice (some ua) n ucap) n g:=⟨_,_,rfl,un,hrow,hG⟩
  clear hrow hG;have L0:Below w.heap.size w (w.alloc (.cells #[] 3)):=(Below.refl _ _).alloc (Nat.le_refl _) _;have k0:=Al w #[] 3
  go_enter Tryz.func43,Tryz.ntmps43
  go_wp2_with (at_builtin; refine Eb _ rfl _ _ rfl w.heap.size rfl k0 w.heap.size (Nat.le_refl _) G (.slice (some ua) n ucap) n g rfl (K.keep (Ab L0 Ak) (fun _ _ _ x=>x)) ?_);rintro p x W2 R2 L2 hp;have L3:=L0.trans (L2.mono (by omega));have HR:=Ac R2;clear L0 L2 R2;go_wp2;go_ret;exact ⟨_,some p,rfl,⟨_,rfl,HR.out⟩,L3⟩
theorem Oj (w:World) (F G:Nat→Nat→Prop) (t c s ad pl:Int) (bl:Bool) (u u':Value) (n:Nat) (f:Nat→Int) (m:Nat) (g:Nat→Int) (H:Ints .i64 w F u n f) (K:Ints .i64 w G u' m g) :
  Calls Tryz.prog 45 #[.agg (pR t c s ad pl bl u u')] w fun e w'=>∃ v v' o o',e=.returned (.agg (pR t c s ad pl bl v v'))∧Bf w' w.heap.size o v n f∧Bf w' w.heap.size o' v' m g∧Y3 o o'∧Below w.heap.size w w':=by
 obtain ⟨ua,ux,rfl,un,hr,hF⟩:=H;obtain ⟨va,vx,rfl,vn,hr',hF'⟩:=K
 have H:Ints .i64 w F (.slice ua n ux) n f:=⟨_,_,rfl,un,hr,hF⟩
 have K:Ints .i64 w G (.slice va m vx) m g:=⟨_,_,rfl,vn,hr',hF'⟩
 clear hr hF hr' hF';have L0:Below w.heap.size w ((w.alloc (.cells (pR t c s ad pl bl (.slice ua n ux) (.slice va m vx)) 33)).alloc (.cells (pR 0 0 0 0 0 false (.slice none 0 0) (.slice none 0 0)) 33)):=((Below.refl _ _).alloc (Nat.le_refl _) _).alloc (by simp) _;have k0:((w.alloc (.cells (pR t c s ad pl bl (.slice ua n ux) (.slice va m vx)) 33)).alloc (.cells (pR 0 0 0 0 0 false (.slice none 0 0) (.slice none 0 0)) 33)).heap[w.heap.size]?=some (.cells (pR t c s ad pl bl (.slice ua n ux) (.slice va m vx)) 33 (0,0)):=A4 (Al w _ _) _
 have k1:((w.alloc (.cells (pR t c s ad pl bl (.slice ua n ux) (.slice va m vx)) 33)).alloc (.cells (pR 0 0 0 0 0 false (.slice none 0 0) (.slice none 0 0)) 33)).heap[w.heap.size+1]?=some (.cells (pR 0 0 0 0 0 false (.slice none 0 0) (.slice none 0 0)) 33 (0,0)):=by simpa using Al (w.alloc (.cells (pR t c s ad pl bl (.slice ua n ux) (.slice va m vx)) 33)) (pR 0 0 0 0 0 false (.slice none 0 0) (.slice none 0 0)) 33
 go_enter Tryz.func45,Tryz.ntmps45
 go_wp2_with fail;generalize ((w.alloc (.cells (pR t c s ad pl bl (.slice ua n ux) (.slice va m vx)) 33)).alloc (.cells (pR 0 0 0 0 0 false (.slice none 0 0) (.slice none 0 0)) 33))=W0 at *;refine (Fq _ F _ n f (H.keep (Ab L0 Ak) (fun _ _ _ x=>x))).mono ?_;rintro e W1 ⟨v,o,rfl,R1,L1⟩;have z0:=Ae k1;have z1:=L1.size;have C1:=Ah L0 L1;replace k0:=Aa k0 L1 (Ae k0);replace k1:=Aa k1 L1 (Ae k1);have c0:=Aj k0;have f0:=Ar k0;obtain ⟨ra,rx,hv⟩:=R1.form;subst hv;clear L1;go_wp2_with fail;have WS:Wrote (fun b _=>b=w.heap.size) W1 (W1.setCell ⟨w.heap.size,6,none⟩ (.slice ra n rx)):=Wrote.setCell (R:=fun b _=>b=w.heap.size) (Wrote.refl _ W1) (fun _=>rfl) _;have j0:=Ai (o:=6) k0 (.slice ra n rx);simp only [List.setIfInBounds_toArray,List.set_cons_succ,List.set_cons_zero] at j0
 have j1:=B7 (o:=6) (x:=.slice ra n rx) k1 (show w.heap.size+1≠w.heap.size by omega);have C2:=C1.setCell (p:=⟨w.heap.size,6,none⟩) (Nat.le_refl _) (.slice ra n rx);have S1:=R1.keep WS (fun q _ h1 _ _ h2=>by omega)
 have zz:(W1.setCell ⟨w.heap.size,6,none⟩ (.slice ra n rx)).heap.size=W1.heap.size:=by simp
 clear c0 f0 k0 k1 C1 R1 WS L0;generalize W1.setCell ⟨w.heap.size,6,none⟩ (.slice ra n rx)=W2 at *;refine (Fq _ G _ m g (K.keep (Ab C2 Ak) (fun _ _ _ x=>x))).mono ?_;rintro e W3 ⟨v',o',rfl,R3,L3⟩;have S3:=S1.below L3;have C3:=Ah C2 L3
 have HT:Hid (Y3 o o'):=fun q e1 e2=>by
  subst e1 e2;have h1:=S1.lt;have h2:=R3.lt
  omega
 obtain ⟨ta,tx,hv⟩:=R3.form;subst hv;replace j0:=Aa j0 L3 (Ae j0);replace j1:=Aa j1 L3 (Ae j1);have c0:=Aj j0;have c1:=Aj j1;have f0:=Ar j0;have f1:=Ar j1
 have key:∀ W5,Wrote (fun b _=>b=w.heap.size∨b=w.heap.size+1) W3 W5→Bf W5 w.heap.size o (.slice ra n rx) n f∧Bf W5 w.heap.size o' (.slice ta m tx) m g∧Y3 o o'∧Below w.heap.size w W5:=fun W5 WW =>
  ⟨(S3.keep WW (fun q _ h1 _ _ h2=>by omega)).mono (by omega),(R3.keep WW (fun q _ h1 _ _ h2=>by omega)).mono (by omega),HT.out,C3.trans (WW.below C3.size (fun b o hb h=>by omega))⟩
 have KEY:=Ac key;clear key S1 S3 R3 C2 C3 L3 j0 j1 H K;go_wp2;refine bodyPost_ret (v:=.agg (pR t c s ad pl bl (.slice ra n rx) (.slice ta m tx))) (by simp [results,Tryz.results45,go_sem,c1]) rfl ?_;refine ⟨_,_,_,_,rfl,KEY.out _ ?_⟩
 iterate 9 (refine Wrote.setCell ?_ (fun _=>by omega) _)
 exact Wrote.refl _ _
set_option maxHeartbeats 1000000
theorem Yt {W:World} {lo g n c:Nat} {e:TypeId} {vs:List Value} (h:W.ownsRow lo e 1 (.slice (some ⟨g,0,none⟩) n c) n vs) (q:Nat) (y:Value):(W.setCell ⟨g,q,none⟩ y).ownsRow lo e 1 (.slice (some ⟨g,0,none⟩) n c) n (vs.set q y):=by
 refine ⟨by rw [List.length_set]; exact h.1,?_⟩
 rcases h.2 with ⟨e,_⟩ | ⟨g',cap,cur,hv,hb,hg,h1,h2,h3,h4⟩
 ·cases e
 ·have hv':=hv
  simp only [Value.slice.injEq,Option.some.injEq,Addr.mk.injEq,and_true,true_and] at hv';obtain ⟨rfl,rfl⟩:=hv';refine Or.inr ⟨g,c,cur.setIfInBounds q y,rfl,hb,Ai hg _,h1,h2,by simpa using h3,?_⟩;rw [Nat.mul_one] at h4 ⊢;rw [Array.toList_setIfInBounds,List.take_set,h4]
def Di (m:Nat) (ov:Nat→Value):List Value:=(List.range m).map ov
theorem E4 (m:Nat) (ov:Nat→Value):(Di m ov).length=m:=by unfold Di; simp
theorem Gc {m i:Nat} (ov:Nat→Value) (hi:i<m):(Di m ov)[i]?=some (ov i):=by unfold Di; simp [hi]
theorem Ut {m i:Nat} {ov:Nat→Value} {u:Value} (h:(Di m ov)[i]?=some u):i<m∧u=ov i:=by
 rcases Nat.lt_or_ge i m with hi | hi
 ·rw [Gc ov hi] at h; exact ⟨hi,(Option.some.inj h).symm⟩
 ·rw [List.getElem?_eq_none (by rw [E4]; exact hi)] at h; cases h
theorem Jc {m:Nat} {f g:Nat→Value} (h:∀ i,i<m→f i=g i):Di m f=Di m g:=List.map_congr_left (fun i hi=>h i (List.mem_range.1 hi))
theorem Rz (m q:Nat) (f:Nat→Value) (y:Value):(Di m f).set q y=Di m (fun i=>if i=q then y else f i):=by
 apply List.ext_getElem?
 intro j
 by_cases hj:j<m
 ·rw [Gc _ hj]
  by_cases e:j=q
  ·subst e
   rw [if_pos rfl,List.getElem?_set_self (by rw [E4]; exact hj)]
  ·rw [if_neg e,List.getElem?_set_ne (by omega),Gc _ hj]
 ·rw [List.getElem?_eq_none (by rw [List.length_set,E4]; omega),List.getElem?_eq_none (by rw [E4]; omega)]
theorem Ba.vals {w:World} {F:Nat→Nat→Prop} {a:Option Addr} {m cap:Nat} {ln:Nat→Nat} {f:Nat→Nat→Int} (H:Ba .i64 w F (.slice a m cap) m ln f):∃ ov:Nat→Value,(∀ i,i<m→Ints .i64 w F (ov i) (ln i) (f i))∧∀ i,i<m→∃ b off,a=some ⟨b,off,none⟩∧w.cell? ⟨b,off+i,none⟩=some (ov i):=by
 obtain ⟨a',cap',e,hm,hF,hc⟩:=H;simp only [Value.slice.injEq,true_and] at e;obtain ⟨rfl,rfl⟩:=e
 have key:∀ i,∃ u:Value,i<m→Ints .i64 w F u (ln i) (f i)∧∃ b off,a=some ⟨b,off,none⟩∧w.cell? ⟨b,off+i,none⟩=some u:=fun i=>by
  by_cases hi:i<m
  ·obtain ⟨b,off,u,h1,h2,h3⟩:=hc i hi
   exact ⟨u,fun _=>⟨h3,b,off,h1,h2⟩⟩
  ·exact ⟨undef,fun h=>absurd h hi⟩
 obtain ⟨ov,hov⟩:=Classical.axiomOfChoice key;exact ⟨ov,fun i hi=>(hov i hi).1,fun i hi=>(hov i hi).2⟩
theorem Wx (W:World) {o:Oper} {a:Act} {K:Act→World→Prop} {Q:Exit→Act→World→Prop} (s x:Operand) (hop:o.op=Op.call { callee:=Callee.builtin Builtin.append,args:=#[s,x],argTypes:=#[24,24] })
  (g0:Nat) (hs:a.eval s=.slice (some ⟨g0,0,none⟩) 0 0) (h0:W.heap[g0]?=some (.cells #[] 27 (0,0))) (lo:Nat) (hlo:lo≤g0) (ua:Option Addr) (m ux:Nat) (ov:Nat→Value) (hm:m≤1048576) (hx:a.eval x=.slice ua m ux) (hc:∀ i,i<m→∃ b off,ua=some ⟨b,off,none⟩∧W.cell? ⟨b,off+i,none⟩=some (ov i))
  (h:∀ g c W',W'.ownsRow lo 27 1 (.slice (some ⟨g,0,none⟩) m c) m (Di m ov)→Below W.heap.size W W'→(g=g0∨W.heap.size≤g)→K (a.put o.dst (.slice (some ⟨g,0,none⟩) m c)) W'):o.wp Tryz.prog a W K Q:=by
 obtain ⟨i0,hi,hz0,hz1,hz2⟩:=info_parts Ki
 by_cases hn:m=0
 ·subst hn
  have hsrc:Src Tryz.prog i0.size 24 (.slice ua 0 ux) 0 [] W:=by
   cases ua with
   | none=>exact Src.ofNil W Tryz.underlying24 ux
   | some ad=>exact Src.ofSlice W Tryz.underlying24 ad 0 ux [] (by simp) (fun j v hh=>by simp at hh) (fun v hh=>by cases hh)
  have hrun:=run_append_nothing (P:=Tryz.prog) W 24 24 o.type 27 i0 Tryz.underlying24 hi (some ⟨g0,0,none⟩) 0 0 (Nat.le_refl _) _ hsrc;unfold Oper.wp
  simp [execOp,hop,resolve,invoke,builtin,hs,hx,hrun,Result.andThen]
  exact h g0 0 W ⟨rfl,Or.inr ⟨g0,0,#[],rfl,hlo,h0,Nat.le_refl _,by simp,rfl,rfl⟩⟩ (Below.refl _ _) (Or.inl rfl)
 ·obtain ⟨rb,ro,rfl,-⟩:=hc 0 (by omega)
  have hcs:∀ j u,(Di m ov)[j]?=some u→W.cell? ((⟨rb,ro,none⟩:Addr).add j)=some u:=fun j u hu=>by
   obtain ⟨hj,rfl⟩:=Ut hu;obtain ⟨b,off,e,hcj⟩:=hc j hj;simp only [Option.some.injEq,Addr.mk.injEq,and_true] at e;obtain ⟨rfl,rfl⟩:=e;rw [Fx];exact hcj
  obtain ⟨v',w',hrun,r1,r2⟩:=run_append_arg_grows (P:=Tryz.prog) W 24 o.type 27 i0 (.slice none 0 0) 1 24 Tryz.underlying24 hi hz0 hz1 hz2 rfl (by decide) ⟨g0,0,none⟩ 0 0 [] rfl (fun j u hh=>by simp at hh) ⟨rb,ro,none⟩ m ux (Di m ov) (by rw [E4,Nat.mul_one]) hcs (by omega) (by unfold maxLen; omega) (by omega)
  have hon:w'.ownsRow W.heap.size 27 1 v' m (Di m ov):=by simpa using r1
  obtain ⟨g',cap2,rfl,hg,hlt⟩:=hon.form (by omega);have L:Below W.heap.size W w':=(Below.refl _ _).grown r2 (Nat.le_refl _) (fun _ e=>by cases e);unfold Oper.wp
  simp [execOp,hop,resolve,invoke,builtin,hs,hx,hrun,Result.andThen]
  exact h g' cap2 w' (Ov hon (by have:=Ae h0; omega)) L (Or.inr hg)
theorem Oz (W:World) {ops:Array Oper} {rest:List Oper} {o:Oper} {a:Act} {Q:Exit→Act→World→Prop} (hg:o.guard=none) (s x:Operand) (hop:o.op=Op.call { callee:=Callee.builtin Builtin.append,args:=#[s,x],argTypes:=#[24,24] })
  (g0:Nat) (hs:a.eval s=.slice (some ⟨g0,0,none⟩) 0 0) (h0:W.heap[g0]?=some (.cells #[] 27 (0,0))) (lo:Nat) (hlo:lo≤g0) (ua:Option Addr) (m ux:Nat) (ov:Nat→Value) (hm:m≤1048576) (hx:a.eval x=.slice ua m ux) (hc:∀ i,i<m→∃ b off,ua=some ⟨b,off,none⟩∧W.cell? ⟨b,off+i,none⟩=some (ov i))
  (h:∀ g c W',W'.ownsRow lo 27 1 (.slice (some ⟨g,0,none⟩) m c) m (Di m ov)→Below W.heap.size W W'→(g=g0∨W.heap.size≤g)→wpList Tryz.prog ops Q rest (a.put o.dst (.slice (some ⟨g,0,none⟩) m c)) W'):wpList Tryz.prog ops Q (o :: rest) a W :=
 wpList_plain hg fun K hK=>Wx W s x hop g0 hs h0 lo hlo ua m ux ov hm hx hc (fun g c W' r1 r2 r3=>hK _ _ (h g c W' r1 r2 r3))
structure SA (W:World) (lo:Nat) (v:Value) (m q:Nat) (ob:Nat→Option Nat) (iv ov:Nat→Value) (ln:Nat→Nat) (f:Nat→Nat→Int):Prop where
 own:W.ownsRow lo 27 1 v m (Di m (fun i=>if i<q then iv i else ov i))
 rows:∀ i,i<q→Bf W lo (ob i) (iv i) (ln i) (f i)
 inj:∀ i j,i<q→j<q→i≠j→Y3 (ob i) (ob j)
 dj:∀ g,v.ownBlock=some g→∀ i,i<q→ob i≠some g
 small:m≤1048576
section
variable {W W':World} {lo m q:Nat} {v:Value} {ob:Nat→Option Nat} {iv ov:Nat→Value} {ln:Nat→Nat} {f:Nat→Nat→Int} {R:Nat→Nat→Prop}
theorem SA.keep (H:SA W lo v m q ob iv ov ln f) (hw:Wrote R W W') (h1:∀ g o,v.ownBlock=some g→¬ R g o) (h2:∀ i b o,i<q→ob i=some b→¬ R b o):SA W' lo v m q ob iv ov ln f :=
 ⟨Lf H.own (fun g hg=>hw.block g (Cl H.own hg).2 (fun o=>h1 g o hg)),fun i hi=>(H.rows i hi).keep hw (fun b hb _ _ o=>h2 i b o hi hb),H.inj,H.dj,H.small⟩
theorem SA.below (H:SA W lo v m q ob iv ov ln f) (L:Below W.heap.size W W'):SA W' lo v m q ob iv ov ln f:=H.keep (Ab L Ak) (fun _ _ _ x=>x) (fun _ _ _ _ _ x=>x)
theorem SA.mono {lo':Nat} (H:SA W lo v m q ob iv ov ln f) (h:lo'≤lo):SA W lo' v m q ob iv ov ln f :=
 ⟨Ov H.own h,fun i hi=>(H.rows i hi).mono h,H.inj,H.dj,H.small⟩
theorem SA.form (H:SA W lo v m q ob iv ov ln f):∃ a c,v=.slice a m c:=by
 rcases H.own.2 with ⟨e,e0⟩ | ⟨g,c,cur,hv,-⟩
 ·have:m=0:=e0
  exact ⟨none,0,by rw [e,this]⟩
 ·exact ⟨_,_,hv⟩
theorem SA.cell {g c:Nat} (H:SA W lo (.slice (some ⟨g,0,none⟩) m c) m q ob iv ov ln f) {i:Nat} (hi:i<m):W.cell? ⟨g,i,none⟩=some (if i<q then iv i else ov i):=by
 have:=Hm H.own i _ (Gc _ hi)
 rwa [Fx,Nat.zero_add] at this
theorem SA.next {g c:Nat} {o:Option Nat} {y:Value} (H:SA W lo (.slice (some ⟨g,0,none⟩) m c) m q ob iv ov ln f) (RN:Bf W lo o y (ln q) (f q)) (h1:o≠some g) (h2:∀ i,i<q→Y3 (ob i) o) :
  SA (W.setCell ⟨g,q,none⟩ y) lo (.slice (some ⟨g,0,none⟩) m c) m (q+1) (fun i=>if i=q then o else ob i) (fun i=>if i=q then y else iv i) ov ln f:=by
 have hob:(Value.slice (some ⟨g,0,none⟩) m c).ownBlock=some g:=rfl;have hw:Wrote (fun b _=>b=g) W (W.setCell ⟨g,q,none⟩ y):=Wrote.setCell (R:=fun b _=>b=g) (Wrote.refl _ W) (fun _=>rfl) _;have e0:=Yt H.own q y;rw [Rz] at e0;refine ⟨?_,fun i hi=>?_,fun i j hi hj hij=>?_,fun g' hg i hi=>?_,H.small⟩
 ·rw [Jc (g:=fun i=>if i=q then y else if i<q then iv i else ov i) (fun i hi=>?_)]
  ·exact e0
  ·show (if i<q+1 then (if i=q then y else iv i) else ov i)=_
   by_cases e:i=q
   ·rw [if_pos (by omega),if_pos e,if_pos e]
   ·rw [if_neg e]
    by_cases h:i<q
    ·rw [if_pos (by omega),if_neg e,if_pos h]
    ·rw [if_neg (by omega),if_neg e,if_neg h]
 ·by_cases e:i=q
  ·subst e
   simp only [if_true];exact RN.keep hw (fun b hb _ _ o hR=>h1 (hb.trans (congrArg some hR)))
  ·simp only [if_neg e]
   exact (H.rows i (by omega)).keep hw (fun b hb _ _ o hR=>H.dj g hob i (by omega) (hb.trans (congrArg some hR)))
 ·by_cases e:i=q
  ·rw [if_pos e,if_neg (by omega)]
   exact fun b hb hb'=>h2 j (by omega) b hb' hb
  ·by_cases e':j=q
   ·rw [if_neg e,if_pos e']
    exact h2 i (by omega)
   ·rw [if_neg e,if_neg e']
    exact H.inj i j (by omega) (by omega) hij
 ·obtain rfl:g=g':=by simpa [Value.ownBlock] using hg
  by_cases e:i=q
  ·rw [if_pos e]; exact h1
  ·rw [if_neg e]; exact H.dj g hob i (by omega)
def slA:Value→Option Addr
 | .slice a _ _=>a
 | _=>none
def slC:Value→Nat
 | .slice _ _ c=>c
 | _=>0
theorem SA.onD (H:SA W lo v m m ob iv ov ln f) {D:Nat→Prop} (hD:∀ b,(v.ownBlock=some b∨∃ i,i<m∧ob i=some b)→D b) (hs:Cy ln m≤1099511627776):Cg W D v m ln f:=by
 have hsl:∀ i,i<m→iv i=.slice (slA (iv i)) (ln i) (slC (iv i))∧Bp W (fun b=>ob i=some b) (slA (iv i)) (ln i) (f i):=fun i hi=>by
  obtain ⟨a,x,e,hS⟩:=(H.rows i hi).sl;rw [e];exact ⟨rfl,hS⟩
 rcases id H.own.2 with ⟨e,e0⟩ | ⟨g,c,cur,hv,hb,hg,k1,k2,k3,k4⟩
 ·have hq:m=0:=e0
  subst hq;subst e;refine ⟨fun _=>none,fun _=>0,⟨⟨none,0,rfl,by omega,fun i hi=>absurd hi (Nat.not_lt_zero _)⟩,fun i hi=>absurd hi (Nat.not_lt_zero _),fun i j hi=>absurd hi (Nat.not_lt_zero _),hs⟩,fun i hi=>absurd hi (Nat.not_lt_zero _),fun i hi=>absurd hi (Nat.not_lt_zero _),fun a cap e b o hF=>absurd hF (A0 _ _ _),fun i hi=>absurd hi (Nat.not_lt_zero _)⟩
 ·subst hv
  have hob:(Value.slice (some ⟨g,0,none⟩) m c).ownBlock=some g:=rfl;refine ⟨fun i=>slA (iv i),fun i=>slC (iv i),⟨⟨_,_,rfl,H.small,fun i hi=>⟨g,0,rfl,?_,fun j hj hF=>H.dj g hob j hj ((hsl j hj).2.on _ _ hF)⟩⟩,fun i hi=>(hsl i hi).2.free,fun i j hi hj hij b o h1 h2=>H.inj i j hi hj hij b ((hsl i hi).2.on _ _ h1) ((hsl j hj).2.on _ _ h2),hs⟩,fun i hi=>(hsl i hi).2.row,fun i hi b o hF=>hD b (Or.inr ⟨i,hi,(hsl i hi).2.on _ _ hF⟩),fun a cap e b o hF=>?_,fun i hi=>(hsl i hi).2.small⟩
  ·rw [Nat.zero_add,H.cell hi,if_pos hi]
   exact congrArg some (hsl i hi).1
  ·simp only [Value.slice.injEq,true_and] at e
   obtain ⟨rfl,-⟩:=e;obtain ⟨off,e,_,_⟩:=hF;simp only [Option.some.injEq,Addr.mk.injEq] at e;rw [← e.1];exact hD _ (Or.inl rfl)
end
theorem Yu (w:World) (F:Nat→Nat→Prop) (u:Value) (m:Nat) (ln:Nat→Nat) (f:Nat→Nat→Int) (H:Ba .i64 w F u m ln f) :
  Calls Tryz.prog 123 #[u] w fun e w'=>∃ v ov,e=.returned v∧w'.ownsRow w.heap.size 27 1 v m (Di m ov)∧(∀ i,i<m→Ints .i64 w F (ov i) (ln i) (f i))∧Below w.heap.size w w':=by
 obtain ⟨ua,ucap,rfl,um,-,-⟩:=id H;obtain ⟨ov,h1,h2⟩:=H.vals;clear H
 have hq:∀ W:World,(binOp .eql 24 (.slice ua m ucap) (.slice none 0 0)).run Tryz.prog W=.ok (.bool ua.isNone) W:=fun W=>Lib.run_eql_slice_nil W 24 27 ua m ucap 0 0 Tryz.underlying24
 cases ua with
 | none =>
  have hq':∀ W:World,(binOp .eql 24 (.slice none m ucap) (.slice none 0 0)).run Tryz.prog W=.ok (.bool true) W:=hq;clear hq
  have hn:m=0:=by
   rcases Nat.eq_zero_or_pos m with h | h
   ·exact h
   ·obtain ⟨b,off,e,-⟩:=h2 0 h
    cases e
  subst hn;have HI:=Ac h1;clear h1 h2
  go_enter Tryz.func123,Tryz.ntmps123
  go_wp2;go_ret;exact ⟨_,ov,rfl,⟨rfl,Or.inl ⟨rfl,rfl⟩⟩,HI.out,Below.refl _ _⟩
 | some ua =>
  have hq':∀ W:World,(binOp .eql 24 (.slice (some ua) m ucap) (.slice none 0 0)).run Tryz.prog W=.ok (.bool false) W:=hq;clear hq;have L0:Below w.heap.size w (w.alloc (.cells #[] 27)):=(Below.refl _ _).alloc (Nat.le_refl _) _;have k0:=Al w #[] 27;have HI:=Ac h1
  have HC:=Ac (show ∀ i,i<m→∃ b off,some ua=some ⟨b,off,none⟩∧(w.alloc (.cells #[] 27)).cell? ⟨b,off+i,none⟩=some (ov i) from fun i hi=>by
   obtain ⟨b,off,e,hc⟩:=h2 i hi
   exact ⟨b,off,e,(L0.cell (block_lt_of_cell hc)).trans hc⟩)
  clear h1 h2
  go_enter Tryz.func123,Tryz.ntmps123
  go_wp2_with (at_builtin; refine Oz _ rfl _ _ rfl w.heap.size rfl k0 w.heap.size (Nat.le_refl _) (some ua) m ucap ov um rfl HC.out ?_);rintro p x W2 R2 L2 hp;have L3:=L0.trans (L2.mono (by omega));have HR:=Ac R2;clear L0 L2 R2;go_wp2;go_ret;exact ⟨_,ov,rfl,HR.out,HI.out,L3⟩
theorem Nn (w:World) (F:Nat→Nat→Prop) (u:Value) (m:Nat) (ln:Nat→Nat) (f:Nat→Nat→Int) (H:Ba .i64 w F u m ln f) :
  Calls Tryz.prog 88 #[u] w fun e w'=>∃ v ob iv ov,e=.returned v∧SA w' w.heap.size v m m ob iv ov ln f∧Below w.heap.size w w':=by
 obtain ⟨ua,ucap,rfl,um,-,-⟩:=id H;have HC:=Ac (Yu w F _ m ln f H);clear H
 go_enter Tryz.func88,Tryz.ntmps88
 go_wp2_with fail;refine HC.out.mono ?_;rintro e W1 ⟨v,ov,rfl,O1,HI,L1⟩
 have S1:SA W1 w.heap.size v m 0 (fun _=>none) ov ov ln f:=⟨by rw [Jc (g:=ov) (fun i hi=>if_neg (Nat.not_lt_zero _))]; exact O1,fun i hi=>absurd hi (Nat.not_lt_zero _),fun i j hi=>absurd hi (Nat.not_lt_zero _),fun g hg i hi=>absurd hi (Nat.not_lt_zero _),um⟩
 obtain ⟨va,vc,rfl⟩:=S1.form;have HV:=Ac HI;clear HI O1 HC;go_wp2
 go_loopw [10] (fun i wr=>∃ (q:Nat) (ob:Nat→Option Nat) (iv:Nat→Value),q≤m∧i=.i q∧SA wr w.heap.size (.slice va m vc) m q ob iv ov ln f∧Below w.heap.size w wr) (fun i _=>m-(intOf i).toNat)
 case atStart=>exact ⟨0,_,_,Nat.zero_le _,rfl,S1,L1⟩
 case round =>
  obtain ⟨q,ob,iv,hq,rfl,hS,hL⟩:=hrel;clear S1 L1
  by_cases hqm:q<m
  ·have hqm':(q:Int)<(m:Int):=by omega
   obtain ⟨g,cur,rfl,hlo,hg⟩:∃ g cur,va=some ⟨g,0,none⟩∧w.heap.size≤g∧wr.heap[g]?=some (.cells cur 27 (0,0)):=by
    rcases id hS.own.2 with ⟨e,e0⟩ | ⟨g,c,cur,hv,hb,hg,-⟩
    ·have h0:m=0:=e0
     omega
    ·simp only [Value.slice.injEq,true_and] at hv
     exact ⟨g,cur,hv.1,hb,hg⟩
   have hc:wr.cell? ⟨g,q,none⟩=some (ov q):=by
    have:=hS.cell hqm
    rwa [if_neg (Nat.lt_irrefl _)] at this
   have HI:=Ac (HV.out q hqm);obtain ⟨xa,xc,hov,xn,-,-⟩:=id HI.out;rw [hov] at hc HI
   have wq:IntKind.i64.wrap (q:Int)=q:=by rw [IntKind.wrap_i64]; omega
   have HS:=Ac hS;clear hS;go_wp2_with fail;refine (Fq _ F _ (ln q) (f q) (HI.out.keep (Ab hL Ak) (fun _ _ _ x=>x))).mono ?_;rintro e W2 ⟨y,o,rfl,RN,L2⟩;obtain ⟨ra,rx,rfl⟩:=RN.form;have hbl:=Ae hg;have hg2:=Aa hg L2 hbl;have f2:=Ar hg2 q;have c2:W2.cell? ⟨g,q,none⟩=some (.slice xa (ln q) xc):=(L2.cell hbl).trans hc;have S2:=Ac (HS.out.below L2);have LB:=Ac (Ah hL L2)
   have fr:∀ b,o=some b→wr.heap.size≤b:=fun b hb=>by subst hb; exact RN.lt.1
   have hin:∀ i b,i<q→ob i=some b→b<wr.heap.size:=fun i b hi hb=>by have:=HS.out.rows i hi; rw [hb] at this; exact this.lt.2
   have RN':=Ac (RN.mono hL.size);clear HS RN hL L2 hg hc HI hg2;go_wp2;go_roundw
   case rel=>exact ⟨q+1,_,_,by omega,by go_num,S2.out.next RN'.out (fun e=>by have:=fr g e; omega) (fun i hi b h1 h2=>by have:=fr b h2; have:=hin i b hi h1; omega),LB.out.setCell hlo _⟩
   case measure=>simp [intOf]; omega
  ·have hqm':¬ (q:Int)<(m:Int):=by omega
   obtain rfl:q=m:=by omega
   have HP:=Ac (And.intro hS hL);clear hS hL HV;go_wp2;go_ret;exact ⟨_,rfl,⟨ob,iv,ov,HP.out.1⟩,HP.out.2⟩
theorem Uu (w:World) (F:Nat→Nat→Prop) (u:Value) (m:Nat) (ln:Nat→Nat) (f:Nat→Nat→Int) (H:Ba .i64 w F u m ln f) :
  Calls Tryz.prog 42 #[.agg #[u]] w fun e w'=>∃ v ob iv ov,e=.returned (.agg #[v])∧SA w' w.heap.size v m m ob iv ov ln f∧Below w.heap.size w w':=by
 have L0:Below w.heap.size w ((w.alloc (.cells #[u] 26)).alloc (.cells #[.slice none 0 0] 26)):=((Below.refl _ _).alloc (Nat.le_refl _) _).alloc (by simp) _;have K0:=H.keep (Ab L0 Ak) (fun _ _ _ x=>x);obtain ⟨ua,ucap,rfl,un,-,-⟩:=H;have b1:((w.alloc (.cells #[.slice ua m ucap] 26)).alloc (.cells #[.slice none 0 0] 26)).heap[w.heap.size]?=some (.cells #[.slice ua m ucap] 26 (0,0)):=A4 (Al w _ _) _
 have r1:((w.alloc (.cells #[.slice ua m ucap] 26)).alloc (.cells #[.slice none 0 0] 26)).heap[w.heap.size+1]?=some (.cells #[.slice none 0 0] 26 (0,0)):=by simpa using Al (w.alloc (.cells #[.slice ua m ucap] 26)) #[.slice none 0 0] 26
 go_enter Tryz.func42,Tryz.ntmps42
 go_wp2_with fail;generalize ((w.alloc (.cells #[.slice ua m ucap] 26)).alloc (.cells #[.slice none 0 0] 26))=w1 at *;have cb:=Aj b1;have hr1:=Ae r1;go_wp2_with fail;refine (Nn _ F _ m ln f K0).mono ?_;rintro e w2 ⟨q,ob,iv,ov,rfl,O2,L2⟩;obtain ⟨qa,qc,rfl⟩:=O2.form;have cb2:=Aj (Aa b1 L2 (Ae b1));have cr2:=Aj (Aa r1 L2 (Ae r1));have fr2:=Ar (Aa r1 L2 (Ae r1));have HO2:=Ac O2;clear O2 K0 cb b1 r1;go_wp2;refine bodyPost_ret (v:=.agg #[.slice qa m qc]) (by simp [results,Tryz.results42,go_sem,cr2]) rfl ?_;have TT:=Wrote.setCell (R:=fun b _=>b=w.heap.size+1) (Wrote.refl _ w2) (o:=0) (b:=w.heap.size+1) (fun _=>rfl) (.slice qa m qc)
 have O3:=HO2.out.keep TT (fun g o hg (h:g=_)=>by have h1:=Cl HO2.out.own hg; have h2:w1.heap.size≤g:=h1.1; omega) (fun i b o hi hb (h:b=_)=>by have h1:=HO2.out.rows i hi; rw [hb] at h1; have h2:w1.heap.size≤b:=h1.lt.1; omega);exact ⟨_,ob,iv,ov,rfl,O3.mono (show w.heap.size≤w1.heap.size by omega),(L0.trans (L2.mono L0.size)).setCell (by simp) _⟩
set_option maxHeartbeats 2000000
theorem Qh (w:World) (z:Nat) (t c s ad pl:Int) (bl:Bool) (u1 u2:Value) (hb:w.heap[z]?=some (.cells (pR t c s ad pl bl u1 u2) 33 (0,0))) (a0:0≤ad) (a1:ad≤15) :
  Calls Tryz.prog 127 #[(pt z 0)] w fun e w'=>e=.returned (.tuple #[])∧w'=w.setCell ⟨z,3,none⟩ (.i ((ad+1)%16)):=by
 have hc:=Aj hb;have hf:=Ar hb;have t16:(ad+1).tmod 16=(ad+1)%16:=Int.tmod_eq_emod_of_nonneg (by omega)
 go_enter Tryz.func127,Tryz.ntmps127
 go_wp2
 ((try simp only [Exit.inBlock,Exit.then]); first | (refine bodyPost_ret (results_none rfl _ _ _) rfl ?_) | (refine bodyPost_end (results_none rfl _ _ _) rfl ?_))
 exact ⟨rfl,rfl⟩
theorem Wp (w:World) (z p n x lo:Nat) (t c s ad pl:Int) (bl:Bool) (u2:Value) (f:Nat→Int) (reg v:Int) (hb:w.heap[z]?=some (.cells (pR t c s ad pl bl (.slice (some ⟨p,0,none⟩) n x) u2) 33 (0,0))) (R:Row w lo p n x f) (hzp:z≠p) (h16:n=16) (a0:0≤ad) (a1:ad≤15) :
  Calls Tryz.prog 110 #[(pt z 0),.i reg,.i (v%256)] w fun e w'=>e=.returned (.tuple #[])∧w'.heap[z]?=some (.cells (pR t (Hz true reg v c) (Ia true reg v s) (Ib true reg v ad) (Ic true reg v pl) bl (.slice (some ⟨p,0,none⟩) n x) u2) 33 (0,0))∧Row w' lo p n x (I6 true reg v ad f)∧Wrote (fun b _=>b=z∨b=p) w w':=by
 have hc:=Aj hb;have hf:=Ar hb
 have KEY:Hid (∀ (k:Nat) (y:Value) (cs:Array Value),w.heap[z]?=some (.cells (pR t c s ad pl bl (.slice (some ⟨p,0,none⟩) n x) u2) 33 (0,0))→(pR t c s ad pl bl (.slice (some ⟨p,0,none⟩) n x) u2).setIfInBounds k y=cs→(w.setCell ⟨z,k,none⟩ y).heap[z]?=some (.cells cs 33 (0,0))∧Row (w.setCell ⟨z,k,none⟩ y) lo p n x f∧Wrote (fun b _=>b=z∨b=p) w (w.setCell ⟨z,k,none⟩ y)):=fun k y cs h e =>
  ⟨e ▸ Ai (o:=k) h y,R.keep (Wrote.setCell (R:=fun b _=>b=z) (Wrote.refl _ w) (fun _=>rfl) _) (fun _ h=>hzp h.symm),Wrote.setCell (Wrote.refl _ w) (fun _=>Or.inl rfl) _⟩
 have HB:=Ac hb;clear hb
 obtain ⟨vb,hvb⟩:∃ vb,Hid (vb=v%256):=⟨_,rfl⟩
 have vb0:0≤vb:=by rw [hvb.out]; omega
 have vb1:vb<256:=by rw [hvb.out]; omega
 rw [← hvb.out]
 by_cases e0:reg=0
 ·subst e0
  have HE:Hid (Hz true 0 v c=vb∧Ia true 0 v s=s∧Ib true 0 v ad=ad∧Ic true 0 v pl=pl∧I6 true 0 v ad f=f):=by rw [hvb.out]; exact ⟨rfl,rfl,rfl,rfl,rfl⟩
  go_enter Tryz.func110,Tryz.ntmps110
  go_wp2
  ((try simp only [Exit.inBlock,Exit.then]); first | (refine bodyPost_ret (results_none rfl _ _ _) rfl ?_) | (refine bodyPost_end (results_none rfl _ _ _) rfl ?_))
  rw [HE.out.1,HE.out.2.1,HE.out.2.2.1,HE.out.2.2.2.1,HE.out.2.2.2.2];exact ⟨rfl,KEY.out _ _ _ HB.out rfl⟩
 by_cases e1:reg=1
 ·subst e1
  have HE:Hid (Hz true 1 v c=c∧Ia true 1 v s=vb∧Ib true 1 v ad=ad∧Ic true 1 v pl=pl∧I6 true 1 v ad f=f):=by rw [hvb.out]; exact ⟨rfl,rfl,rfl,rfl,rfl⟩
  go_enter Tryz.func110,Tryz.ntmps110
  go_wp2
  ((try simp only [Exit.inBlock,Exit.then]); first | (refine bodyPost_ret (results_none rfl _ _ _) rfl ?_) | (refine bodyPost_end (results_none rfl _ _ _) rfl ?_))
  rw [HE.out.1,HE.out.2.1,HE.out.2.2.1,HE.out.2.2.2.1,HE.out.2.2.2.2];exact ⟨rfl,KEY.out _ _ _ HB.out rfl⟩
 by_cases e3:reg=3
 ·subst e3
  have HE:Hid (Hz true 3 v c=c∧Ia true 3 v s=s∧Ib true 3 v ad=vb%16∧Ic true 3 v pl=pl∧I6 true 3 v ad f=f):=by rw [hvb.out]; exact ⟨rfl,rfl,rfl,rfl,rfl⟩
  have tm:vb.tmod 16=vb%16:=Int.tmod_eq_emod_of_nonneg vb0
  go_enter Tryz.func110,Tryz.ntmps110
  go_wp2
  ((try simp only [Exit.inBlock,Exit.then]); first | (refine bodyPost_ret (results_none rfl _ _ _) rfl ?_) | (refine bodyPost_end (results_none rfl _ _ _) rfl ?_))
  rw [HE.out.1,HE.out.2.1,HE.out.2.2.1,HE.out.2.2.2.1,HE.out.2.2.2.2];exact ⟨rfl,KEY.out _ _ _ HB.out rfl⟩
 by_cases e5:reg=5
 ·subst e5
  have HE:Hid (Hz true 5 v c=c∧Ia true 5 v s=s∧Ib true 5 v ad=ad∧Ic true 5 v pl=vb%64∧I6 true 5 v ad f=f):=by rw [hvb.out]; exact ⟨rfl,rfl,rfl,rfl,rfl⟩
  have tm:vb.tmod 64=vb%64:=Int.tmod_eq_emod_of_nonneg vb0
  go_enter Tryz.func110,Tryz.ntmps110
  go_wp2
  ((try simp only [Exit.inBlock,Exit.then]); first | (refine bodyPost_ret (results_none rfl _ _ _) rfl ?_) | (refine bodyPost_end (results_none rfl _ _ _) rfl ?_))
  rw [HE.out.1,HE.out.2.1,HE.out.2.2.1,HE.out.2.2.2.1,HE.out.2.2.2.2];exact ⟨rfl,KEY.out _ _ _ HB.out rfl⟩
 by_cases e4:reg=4
 ·subst e4
  obtain ⟨k,rfl⟩:∃ k:Nat,ad=k:=⟨ad.toNat,by omega⟩
  have hk:k<n:=by omega
  have hki:(k:Int)<(n:Int):=by omega
  have HE:Hid (Hz true 4 v c=c∧Ia true 4 v s=s∧Ib true 4 v k=((k:Int)+1)%16∧Ic true 4 v pl=pl∧I6 true 4 v k f=fun i=>if i=k then vb%64 else f i):=by rw [hvb.out]; exact ⟨rfl,rfl,rfl,rfl,rfl⟩
  have t64:vb.tmod 64=vb%64:=Int.tmod_eq_emod_of_nonneg vb0
  have wk:IntKind.i64.wrap (k:Int)=k:=by rw [IntKind.wrap_i64]; omega
  have wv:IntKind.i64.wrap (vb%64)=vb%64:=by rw [IntKind.wrap_i64]; omega
  obtain ⟨bb,oo,ee,hcell⟩:=R.sl.row k hk;simp only [Option.some.injEq,Addr.mk.injEq,and_true] at ee;obtain ⟨rfl,rfl⟩:=ee;rw [Nat.zero_add] at hcell;have hfro:w.frozen? ⟨p,k,none⟩=false:=R.own.frozenAt k
  go_enter Tryz.func110,Tryz.ntmps110
  go_upto_region 8 with (fail);have hS:∀ j,(w.setCell ⟨p,k,none⟩ (.i (vb%64))).drew.cell? ⟨z,j,none⟩=(pR t c s (k:Int) pl bl (.slice (some ⟨p,0,none⟩) n x) u2)[j]?:=Aj (show (w.setCell ⟨p,k,none⟩ (.i (vb%64))).heap[z]?=_ from B7 HB.out hzp)
  have hk0:(0:Int)≤(k:Int):=by omega
  have hb2:(w.setCell ⟨p,k,none⟩ (.i (vb%64))).drew.heap[z]?=some (.cells (pR t c s (k:Int) pl bl (.slice (some ⟨p,0,none⟩) n x) u2) 33 (0,0)):=B7 HB.out hzp;have W1:Wrote (fun b _=>b=z∨b=p) w (w.setCell ⟨p,k,none⟩ (.i (vb%64))).drew:=(Wrote.setCell (Wrote.refl _ w) (fun _=>Or.inr rfl) _).drew;have R1:Row (w.setCell ⟨p,k,none⟩ (.i (vb%64))).drew lo p n x (fun i=>if i=k then vb%64 else f i):=(R.put k hk (vb%64)).block rfl;have HX:=Ac (And.intro hb2 (And.intro W1 R1));clear hb2 W1 R1 h16 KEY
  go_region_held3 (fun w'=>∀ j,w'.cell? ⟨z,j,none⟩=(pR t c s (k:Int) pl bl (.slice (some ⟨p,0,none⟩) n x) u2)[j]?) (first | (with_reducible assumption) | go_keep) (fail)
  all_goals
   go_wp2_with fail;obtain ⟨hb2,W1,R1⟩:=HX.out;generalize (w.setCell ⟨p,k,none⟩ (.i (vb%64))).drew=w2 at *;refine (Qh _ z t c s k pl bl _ u2 hb2 (by omega) (by omega)).mono ?_;rintro e w3 ⟨rfl,rfl⟩;have hb3:=Ai (o:=3) hb2 (.i (((k:Int)+1)%16));simp only [List.setIfInBounds_toArray,List.set_cons_succ,List.set_cons_zero] at hb3;have R3:=R1.keep (Wrote.setCell (b:=z) (o:=3) (R:=fun b _=>b=z) (Wrote.refl _ w2) (fun _=>rfl) (.i (((k:Int)+1)%16))) (fun _ h=>hzp h.symm);have W3:Wrote (fun b _=>b=z∨b=p) w (w2.setCell ⟨z,3,none⟩ (.i (((k:Int)+1)%16))):=W1.setCell (fun _=>Or.inl rfl) _;clear hb2 R1 W1 hS hc hf hcell hfro HX;rename_i hh1;clear hh1;go_wp2
   ((try simp only [Exit.inBlock,Exit.then]); first | (refine bodyPost_ret (results_none rfl _ _ _) rfl ?_) | (refine bodyPost_end (results_none rfl _ _ _) rfl ?_))
   rw [HE.out.1,HE.out.2.1,HE.out.2.2.1,HE.out.2.2.2.1,HE.out.2.2.2.2];exact ⟨rfl,hb3,R3,W3⟩
 ·have HE:Hid (Hz true reg v c=c∧Ia true reg v s=s∧Ib true reg v ad=ad∧Ic true reg v pl=pl∧I6 true reg v ad f=f):=⟨if_neg (by simp [e0]),if_neg (by simp [e1]),(if_neg (by simp [e3])).trans (if_neg (by simp [e4])),if_neg (by simp [e5]),if_neg (by simp [e4])⟩
  have e0':(reg==0)=false:=by simpa using e0
  have e1':(reg==1)=false:=by simpa using e1
  have e3':(reg==3)=false:=by simpa using e3
  have e4':(reg==4)=false:=by simpa using e4
  have e5':(reg==5)=false:=by simpa using e5
  clear e0 e1 e3 e4 e5
  go_enter Tryz.func110,Tryz.ntmps110
  go_wp2
  ((try simp only [Exit.inBlock,Exit.then]); first | (refine bodyPost_ret (results_none rfl _ _ _) rfl ?_) | (refine bodyPost_end (results_none rfl _ _ _) rfl ?_))
  rw [HE.out.1,HE.out.2.1,HE.out.2.2.1,HE.out.2.2.2.1,HE.out.2.2.2.2];exact ⟨rfl,HB.out,R,Wrote.refl _ _⟩
theorem Ym (w:World) (z p n x lo:Nat) (t c s ad pl:Int) (bl:Bool) (u2:Value) (f:Nat→Int) (reg:Int) (hb:w.heap[z]?=some (.cells (pR t c s ad pl bl (.slice (some ⟨p,0,none⟩) n x) u2) 33 (0,0))) (R:Row w lo p n x f) (h16:n=16) (a0:0≤ad) (a1:ad≤15) :
  Calls Tryz.prog 99 #[(pt z 0),.i reg] w fun e w'=>e=.returned (.i (La true reg bl ad f))∧w'.heap[z]?=some (.cells (pR t c s (J8 true reg ad) pl (L9 true reg bl) (.slice (some ⟨p,0,none⟩) n x) u2) 33 (0,0))∧Wrote (fun b _=>b=z) w w':=by
 have hc:=Aj hb;have hf:=Ar hb;have HB:=Ac hb;clear hb
 by_cases e2:reg=2
 ·subst e2
  have HE:Hid (J8 true 2 ad=ad∧L9 true 2 bl=false∧La true 2 bl ad f=128*Bb bl):=⟨rfl,rfl,rfl⟩
  have hb3:=Ai (o:=5) HB.out (.bool false);simp only [List.setIfInBounds_toArray,List.set_cons_succ,List.set_cons_zero] at hb3;have HX:=Ac hb3;clear hb3;cases bl
  ·go_enter Tryz.func99,Tryz.ntmps99
   go_wp2;go_ret;rw [HE.out.1,HE.out.2.1,HE.out.2.2];exact ⟨rfl,HX.out,Wrote.setCell (R:=fun b _=>b=z) (Wrote.refl _ w) (fun _=>rfl) _⟩
  ·go_enter Tryz.func99,Tryz.ntmps99
   go_wp2;go_ret;rw [HE.out.1,HE.out.2.1,HE.out.2.2];exact ⟨rfl,HX.out,Wrote.setCell (R:=fun b _=>b=z) (Wrote.refl _ w) (fun _=>rfl) _⟩
 ·by_cases e4:reg=4
  ·subst e4
   obtain ⟨k,rfl⟩:∃ k:Nat,ad=k:=⟨ad.toNat,by omega⟩
   have hk:k<n:=by omega
   have hki:(k:Int)<(n:Int):=by omega
   have HE:Hid (J8 true 4 (k:Int)=((k:Int)+1)%16∧L9 true 4 bl=bl∧La true 4 bl (k:Int) f=f k):=⟨rfl,rfl,rfl⟩
   have wk:IntKind.i64.wrap (k:Int)=k:=by rw [IntKind.wrap_i64]; omega
   obtain ⟨bb,oo,ee,hcell⟩:=R.sl.row k hk;simp only [Option.some.injEq,Addr.mk.injEq,and_true] at ee;obtain ⟨rfl,rfl⟩:=ee;rw [Nat.zero_add] at hcell
   have hk0:(0:Int)≤(k:Int):=by omega
   clear h16
   go_enter Tryz.func99,Tryz.ntmps99
   go_upto_region 8 with (fail)
   go_quiet (fail)
   go_wp2_with fail;have hb2:(w.drewN nq).heap[z]?=_:=HB.out;have W1:Wrote (fun b _=>b=z) w (w.drewN nq):=Ab (below_drewN (Below.refl _ _) _) _;generalize w.drewN nq=w2 at *;refine (Qh _ z t c s k pl bl _ u2 hb2 (by omega) (by omega)).mono ?_;rintro e w3 ⟨rfl,rfl⟩;have hb3:=Ai (o:=3) hb2 (.i (((k:Int)+1)%16));simp only [List.setIfInBounds_toArray,List.set_cons_succ,List.set_cons_zero] at hb3;have W3:Wrote (fun b _=>b=z) w (w2.setCell ⟨z,3,none⟩ (.i (((k:Int)+1)%16))):=W1.setCell (fun _=>rfl) _;clear hb2 W1 hc hf hcell;go_wp2;go_ret;rw [HE.out.1,HE.out.2.1,HE.out.2.2];exact ⟨rfl,hb3,W3⟩
  ·have HE:Hid (J8 true reg ad=ad∧L9 true reg bl=bl∧La true reg bl ad f=0):=⟨if_neg (by simp [e4]),if_neg (by simp [e2]),(if_neg (by simp [e2])).trans (if_neg (by simp [e4]))⟩
   have e2':(reg==2)=false:=by simpa using e2
   have e4':(reg==4)=false:=by simpa using e4
   clear e2 e4
   go_enter Tryz.func99,Tryz.ntmps99
   go_wp2;go_ret;rw [HE.out.1,HE.out.2.1,HE.out.2.2];exact ⟨rfl,HB.out,Wrote.refl _ _⟩
set_option maxHeartbeats 2000000
structure Cn (W:World) (lo:Nat) (D:Nat→Prop) (v:Value) (t c s ad pl:Int) (bl:Bool) (n:Nat) (f:Nat→Int) (m:Nat) (g:Nat→Int):Prop where
 ex:∃ u u' o o',v=.agg (pR t c s ad pl bl u u')∧Bf W lo o u n f∧Bf W lo o' u' m g∧Y3 o o'∧∀ b,(o=some b∨o'=some b)→D b
section
variable {R:Nat→Nat→Prop} {W W':World} {lo lo':Nat} {D E:Nat→Prop} {v:Value} {t c s ad pl:Int} {bl:Bool} {n m:Nat} {f g:Nat→Int}
theorem Cn.on (h:Cn W lo D v t c s ad pl bl n f m g):Bv W D v t c s ad pl bl n f m g:=by
 obtain ⟨u,u',o,o',rfl,h1,h2,h3,h4⟩:=h;exact (Wk h1 h2 h3).mono (fun b _ h=>h4 b h)
theorem Cn.keep (h:Cn W lo D v t c s ad pl bl n f m g) (hw:Wrote R W W') (hd:∀ b o,D b→b<W.heap.size→¬ R b o):Cn W' lo D v t c s ad pl bl n f m g:=by
 obtain ⟨u,u',o,o',e,h1,h2,h3,h4⟩:=h;exact ⟨u,u',o,o',e,h1.keep hw (fun q hq _ hl k=>hd q k (h4 q (Or.inl hq)) hl),h2.keep hw (fun q hq _ hl k=>hd q k (h4 q (Or.inr hq)) hl),h3,h4⟩
theorem Cn.below (h:Cn W lo D v t c s ad pl bl n f m g) (L:Below W.heap.size W W'):Cn W' lo D v t c s ad pl bl n f m g:=h.keep (Ab L Ak) (fun _ _ _ _ x=>x)
theorem Cn.mono (h:Cn W lo D v t c s ad pl bl n f m g) (hd:∀ b,b<W.heap.size→D b→E b):Cn W lo E v t c s ad pl bl n f m g:=by
 obtain ⟨u,u',o,o',e,h1,h2,h3,h4⟩:=h;refine ⟨u,u',o,o',e,h1,h2,h3,fun b hb=>hd b ?_ (h4 b hb)⟩
 rcases hb with rfl | rfl
 ·exact h1.lt.2
 ·exact h2.lt.2
theorem Cn.lower (h:Cn W lo D v t c s ad pl bl n f m g) (hl:lo'≤lo):Cn W lo' D v t c s ad pl bl n f m g:=by
 obtain ⟨u,u',o,o',e,h1,h2,h3,h4⟩:=h;exact ⟨u,u',o,o',e,h1.mono hl,h2.mono hl,h3,h4⟩
theorem Cn.two (h:Cn W lo D v t c s ad pl bl n f m g):∃ a x b y,v=.agg (pR t c s ad pl bl (.slice a n x) (.slice b m y)):=h.on.two
theorem Cn.ints (h:Cn W lo D v t c s ad pl bl n f m g):∃ u u',v=.agg (pR t c s ad pl bl u u')∧Ints .i64 W (On D) u n f∧Ints .i64 W (On D) u' m g:=h.on.ints
theorem Gs {o o':Option Nat} {u u':Value} (h1:Bf W lo o u n f) (h2:Bf W lo o' u' m g) (h3:Y3 o o') (hl:lo'≤lo):Cn W lo' (fun b=>lo'≤b) (.agg (pR t c s ad pl bl u u')) t c s ad pl bl n f m g :=
 ⟨u,u',o,o',rfl,h1.mono hl,h2.mono hl,h3,fun b hb=>Nat.le_trans hl (Jal h1 h2 b hb)⟩
end
theorem Mm (w:World) (F G:Nat→Nat→Prop) (t c s ad pl:Int) (bl:Bool) (u u':Value) (n:Nat) (f:Nat→Int) (m:Nat) (g:Nat→Int) (reg v:Int) (H:Ints .i64 w F u n f) (K:Ints .i64 w G u' m g) :
  Calls Tryz.prog 75 #[.agg (pR t c s ad pl bl u u'),.i reg,.i v] w fun e w'=>∃ v',e=.returned v'∧Cn w' w.heap.size (fun b=>w.heap.size≤b) v' t (Hz (A2 t c s ad pl n f m g) reg v c) (Ia (A2 t c s ad pl n f m g) reg v s) (Ib (A2 t c s ad pl n f m g) reg v ad) (Ic (A2 t c s ad pl n f m g) reg v pl) bl n (I6 (A2 t c s ad pl n f m g) reg v ad f) m g∧Below w.heap.size w w':=by
 obtain ⟨ua,ux,rfl,un,hr,hF⟩:=H;obtain ⟨va,vx,rfl,vn,hr',hF'⟩:=K
 have H:Ints .i64 w F (.slice ua n ux) n f:=⟨_,_,rfl,un,hr,hF⟩
 have K:Ints .i64 w G (.slice va m vx) m g:=⟨_,_,rfl,vn,hr',hF'⟩
 clear hr hF hr' hF';have L0:Below w.heap.size w ((w.alloc (.cells (pR t c s ad pl bl (.slice ua n ux) (.slice va m vx)) 33)).alloc (.cells (pR 0 0 0 0 0 false (.slice none 0 0) (.slice none 0 0)) 33)):=((Below.refl _ _).alloc (Nat.le_refl _) _).alloc (by simp) _;have k0:((w.alloc (.cells (pR t c s ad pl bl (.slice ua n ux) (.slice va m vx)) 33)).alloc (.cells (pR 0 0 0 0 0 false (.slice none 0 0) (.slice none 0 0)) 33)).heap[w.heap.size]?=some (.cells (pR t c s ad pl bl (.slice ua n ux) (.slice va m vx)) 33 (0,0)):=A4 (Al w _ _) _
 have k1:((w.alloc (.cells (pR t c s ad pl bl (.slice ua n ux) (.slice va m vx)) 33)).alloc (.cells (pR 0 0 0 0 0 false (.slice none 0 0) (.slice none 0 0)) 33)).heap[w.heap.size+1]?=some (.cells (pR 0 0 0 0 0 false (.slice none 0 0) (.slice none 0 0)) 33 (0,0)):=by simpa using Al (w.alloc (.cells (pR t c s ad pl bl (.slice ua n ux) (.slice va m vx)) 33)) (pR 0 0 0 0 0 false (.slice none 0 0) (.slice none 0 0)) 33
 go_enter Tryz.func75,Tryz.ntmps75
 go_wp2_with fail;generalize ((w.alloc (.cells (pR t c s ad pl bl (.slice ua n ux) (.slice va m vx)) 33)).alloc (.cells (pR 0 0 0 0 0 false (.slice none 0 0) (.slice none 0 0)) 33))=W0 at *;refine (Oj _ F G t c s ad pl bl _ _ n f m g (H.keep (Ab L0 Ak) (fun _ _ _ x=>x)) (K.keep (Ab L0 Ak) (fun _ _ _ x=>x))).mono ?_;rintro e W1 ⟨v1,v2,o1,o2,rfl,R1,R2,h12,L1⟩;have hz0:=Ae k1;have sz:=L1.size;have C1:=Ah L0 L1;obtain ⟨pa,px,rfl⟩:=R1.form;obtain ⟨qa,qx,rfl⟩:=R2.form;have x0:=A4 (Aa k0 L1 (Ae k0)) (.cells (pR t c s ad pl bl (.slice pa n px) (.slice qa m qx)) 33);have x1:=A4 (Aa k1 L1 (Ae k1)) (.cells (pR t c s ad pl bl (.slice pa n px) (.slice qa m qx)) 33);have x2:=Al W1 (pR t c s ad pl bl (.slice pa n px) (.slice qa m qx)) 33
 have LA:Below W1.heap.size W1 (W1.alloc (.cells (pR t c s ad pl bl (.slice pa n px) (.slice qa m qx)) 33)):=(Below.refl _ _).alloc (Nat.le_refl _) _;have C2:=Ah C1 LA;have HS1:=Ac (R1.below LA);have HS2:=Ac (R2.below LA)
 have HP:Hid ((∀ q,o1=some q→W0.heap.size≤q∧q<W1.heap.size)∧(∀ q,o2=some q→W0.heap.size≤q∧q<W1.heap.size)):=⟨fun q e=>by subst e; exact R1.lt,fun q e=>by subst e; exact R2.lt⟩
 have c0:=Aj x0;go_wp2_with fail;clear c0 k0 k1 L0 L1 C1 R1 R2 LA
 obtain ⟨z,hz⟩:∃ z,Hid (z=W1.heap.size):=⟨_,rfl⟩
 generalize W1.alloc (.cells (pR t c s ad pl bl (.slice pa n px) (.slice qa m qx)) 33)=W2 at *;rw [← hz.out] at x2 HP ⊢
 have hzw:w.heap.size+1<z:=by rw [hz.out]; omega
 have z0w:w.heap.size+1<W0.heap.size:=hz0;clear hz sz hz0;refine (Jr _ F G t c s ad pl bl _ _ n f m g (H.keep (Ab C2 Ak) (fun _ _ _ x=>x)) (K.keep (Ab C2 Ak) (fun _ _ _ x=>x))).mono ?_;rintro e W3 ⟨rfl,L⟩;replace x0:=Aa x0 L (Ae x0);replace x1:=Aa x1 L (Ae x1);replace x2:=Aa x2 L (Ae x2);have S1:=HS1.out.below L;have S2:=HS2.out.below L;have C3:=Ah C2 L;clear L C2 HS1 HS2 H K;have c1:=Aj x1;have c2:=Aj x2;have f1:=Ar x1;cases hok:A2 t c s ad pl n f m g
 ·have HE:Hid (Hz false reg v c=c∧Ia false reg v s=s∧Ib false reg v ad=ad∧Ic false reg v pl=pl∧I6 false reg v ad f=f):=⟨if_neg (by simp),if_neg (by simp),(if_neg (by simp)).trans (if_neg (by simp)),if_neg (by simp),if_neg (by simp)⟩
  have KEY:Hid (∀ W5,Wrote (fun b _=>b=w.heap.size+1) W3 W5→Cn W5 w.heap.size (fun b=>w.heap.size≤b) (.agg (pR t c s ad pl bl (.slice pa n px) (.slice qa m qx))) t c s ad pl bl n f m g∧Below w.heap.size w W5):=fun W5 WW=>by
   have T1:=S1.keep WW (fun q e _ _ _ h=>by have:=HP.out.1 q e; omega);have T2:=S2.keep WW (fun q e _ _ _ h=>by have:=HP.out.2 q e; omega);exact ⟨Gs T1 T2 h12 (by omega),C3.trans (WW.below C3.size (fun b o hb h=>by omega))⟩
  have HO:=Ac hok;clear hok S1 S2 C3 x0 x1 x2;go_wp2;refine bodyPost_ret (v:=.agg (pR t c s ad pl bl (.slice pa n px) (.slice qa m qx))) (by simp [results,Tryz.results75,go_sem,c1]) rfl ?_;rw [HO.out,HE.out.1,HE.out.2.1,HE.out.2.2.1,HE.out.2.2.2.1,HE.out.2.2.2.2];refine ⟨_,rfl,KEY.out _ ?_⟩
  iterate 8 (refine Wrote.setCell ?_ (fun _=>by omega) _)
  exact Wrote.refl _ _
 ·have IP:=Fp hok
  have a0:=IP.a0;have a1:=IP.a1;have h16:=IP.n16
  obtain ⟨p,rfl⟩:∃ p,o1=some p:=by
   cases o1 with
   | none=>obtain ⟨-,e⟩:=S1; omega
   | some p=>exact ⟨p,rfl⟩
  obtain ⟨y,e,R⟩:=S1;cases e;have hp:=HP.out.1 p rfl;have HO:=Ac hok;clear hok IP;go_wp2_with fail;refine (Dk _ _).mono ?_;rintro e W' ⟨rfl,rfl⟩;go_wp2_with fail;refine (Wp _ z p n px _ t c s ad pl bl (.slice qa m qx) f reg v x2 R (by omega) h16 a0 a1).mono ?_;rintro e W4 ⟨rfl,y2,R4,WR⟩;have y1:=Ag x1 WR (fun o h=>by omega);have S4:=S2.keep WR (fun q e _ _ _ h=>by have:=HP.out.2 q e; rcases h with h | h; omega; subst h; exact h12 q rfl e);have C4:=C3.trans (WR.below C3.size (fun b o hb h=>by omega));have d1:=Aj y1;have d2:=Aj y2;have g1:=Ar y1
  have HE:Hid (∀ W5,Wrote (fun b _=>b=w.heap.size+1) W4 W5→Cn W5 w.heap.size (fun b=>w.heap.size≤b) (.agg (pR t (Hz true reg v c) (Ia true reg v s) (Ib true reg v ad) (Ic true reg v pl) bl (.slice (some ⟨p,0,none⟩) n px) (.slice qa m qx))) t (Hz true reg v c) (Ia true reg v s) (Ib true reg v ad) (Ic true reg v pl) bl n (I6 true reg v ad f) m g∧Below w.heap.size w W5):=fun W5 WW=>by
   have T1:Bf W5 W0.heap.size (some p) (.slice (some ⟨p,0,none⟩) n px) n (I6 true reg v ad f):=⟨_,rfl,R4.keep WW (fun _ h=>by omega)⟩
   have T2:=S4.keep WW (fun q e _ _ _ h=>by have:=HP.out.2 q e; omega);exact ⟨Gs T1 T2 h12 (by omega),C4.trans (WW.below C4.size (fun b o hb h=>by omega))⟩
  clear c1 c2 f1 R R4 S2 S4 C3 C4 x0 x1 x2 y1 y2 WR;clear h16;go_wp2;refine bodyPost_ret (v:=.agg (pR t (Hz true reg v c) (Ia true reg v s) (Ib true reg v ad) (Ic true reg v pl) bl (.slice (some ⟨p,0,none⟩) n px) (.slice qa m qx))) (by simp [results,Tryz.results75,go_sem,d1]) rfl ?_;rw [HO.out];refine ⟨_,rfl,HE.out _ ?_⟩
  iterate 8 (refine Wrote.setCell ?_ (fun _=>by omega) _)
  exact Wrote.refl _ _
theorem Om (w:World) (F G:Nat→Nat→Prop) (t c s ad pl:Int) (bl:Bool) (u u':Value) (n:Nat) (f:Nat→Int) (m:Nat) (g:Nat→Int) (reg:Int) (H:Ints .i64 w F u n f) (K:Ints .i64 w G u' m g) :
  Calls Tryz.prog 55 #[.agg (pR t c s ad pl bl u u'),.i reg] w fun e w'=>∃ v',e=.returned (.tuple #[v',.i (La (A2 t c s ad pl n f m g) reg bl ad f)])∧Cn w' w.heap.size (fun b=>w.heap.size≤b) v' t c s (J8 (A2 t c s ad pl n f m g) reg ad) pl (L9 (A2 t c s ad pl n f m g) reg bl) n f m g∧Below w.heap.size w w':=by
 obtain ⟨ua,ux,rfl,un,hr,hF⟩:=H;obtain ⟨va,vx,rfl,vn,hr',hF'⟩:=K
 have H:Ints .i64 w F (.slice ua n ux) n f:=⟨_,_,rfl,un,hr,hF⟩
 have K:Ints .i64 w G (.slice va m vx) m g:=⟨_,_,rfl,vn,hr',hF'⟩
 clear hr hF hr' hF';have L0:Below w.heap.size w ((w.alloc (.cells (pR t c s ad pl bl (.slice ua n ux) (.slice va m vx)) 33)).alloc (.cells (pR 0 0 0 0 0 false (.slice none 0 0) (.slice none 0 0)) 33)):=((Below.refl _ _).alloc (Nat.le_refl _) _).alloc (by simp) _;have k0:((w.alloc (.cells (pR t c s ad pl bl (.slice ua n ux) (.slice va m vx)) 33)).alloc (.cells (pR 0 0 0 0 0 false (.slice none 0 0) (.slice none 0 0)) 33)).heap[w.heap.size]?=some (.cells (pR t c s ad pl bl (.slice ua n ux) (.slice va m vx)) 33 (0,0)):=A4 (Al w _ _) _
 have k1:((w.alloc (.cells (pR t c s ad pl bl (.slice ua n ux) (.slice va m vx)) 33)).alloc (.cells (pR 0 0 0 0 0 false (.slice none 0 0) (.slice none 0 0)) 33)).heap[w.heap.size+1]?=some (.cells (pR 0 0 0 0 0 false (.slice none 0 0) (.slice none 0 0)) 33 (0,0)):=by simpa using Al (w.alloc (.cells (pR t c s ad pl bl (.slice ua n ux) (.slice va m vx)) 33)) (pR 0 0 0 0 0 false (.slice none 0 0) (.slice none 0 0)) 33
 go_enter Tryz.func55,Tryz.ntmps55
 go_wp2_with fail;generalize ((w.alloc (.cells (pR t c s ad pl bl (.slice ua n ux) (.slice va m vx)) 33)).alloc (.cells (pR 0 0 0 0 0 false (.slice none 0 0) (.slice none 0 0)) 33))=W0 at *;refine (Oj _ F G t c s ad pl bl _ _ n f m g (H.keep (Ab L0 Ak) (fun _ _ _ x=>x)) (K.keep (Ab L0 Ak) (fun _ _ _ x=>x))).mono ?_;rintro e W1 ⟨v1,v2,o1,o2,rfl,R1,R2,h12,L1⟩;have hz0:=Ae k1;have sz:=L1.size;have C1:=Ah L0 L1;obtain ⟨pa,px,rfl⟩:=R1.form;obtain ⟨qa,qx,rfl⟩:=R2.form;have x0:=A4 (Aa k0 L1 (Ae k0)) (.cells (pR t c s ad pl bl (.slice pa n px) (.slice qa m qx)) 33);have x1:=A4 (Aa k1 L1 (Ae k1)) (.cells (pR t c s ad pl bl (.slice pa n px) (.slice qa m qx)) 33);have x2:=Al W1 (pR t c s ad pl bl (.slice pa n px) (.slice qa m qx)) 33
 have LA:Below W1.heap.size W1 (W1.alloc (.cells (pR t c s ad pl bl (.slice pa n px) (.slice qa m qx)) 33)):=(Below.refl _ _).alloc (Nat.le_refl _) _;have C2:=Ah C1 LA;have HS1:=Ac (R1.below LA);have HS2:=Ac (R2.below LA)
 have HP:Hid ((∀ q,o1=some q→W0.heap.size≤q∧q<W1.heap.size)∧(∀ q,o2=some q→W0.heap.size≤q∧q<W1.heap.size)):=⟨fun q e=>by subst e; exact R1.lt,fun q e=>by subst e; exact R2.lt⟩
 have c0:=Aj x0;go_wp2_with fail;clear c0 k0 k1 L0 L1 C1 R1 R2 LA
 obtain ⟨z,hz⟩:∃ z,Hid (z=W1.heap.size):=⟨_,rfl⟩
 generalize W1.alloc (.cells (pR t c s ad pl bl (.slice pa n px) (.slice qa m qx)) 33)=W2 at *;rw [← hz.out] at x2 HP ⊢
 have hzw:w.heap.size+1<z:=by rw [hz.out]; omega
 have z0w:w.heap.size+1<W0.heap.size:=hz0;clear hz sz hz0;refine (Jr _ F G t c s ad pl bl _ _ n f m g (H.keep (Ab C2 Ak) (fun _ _ _ x=>x)) (K.keep (Ab C2 Ak) (fun _ _ _ x=>x))).mono ?_;rintro e W3 ⟨rfl,L⟩;replace x0:=Aa x0 L (Ae x0);replace x1:=Aa x1 L (Ae x1);replace x2:=Aa x2 L (Ae x2);have S1:=HS1.out.below L;have S2:=HS2.out.below L;have C3:=Ah C2 L;clear L C2 HS1 HS2 H K;have c1:=Aj x1;have c2:=Aj x2;have f1:=Ar x1;cases hok:A2 t c s ad pl n f m g
 ·have HE:Hid (J8 false reg ad=ad∧L9 false reg bl=bl∧La false reg bl ad f=0):=⟨if_neg (by simp),if_neg (by simp),(if_neg (by simp)).trans (if_neg (by simp))⟩
  have KEY:Hid (∀ W5,Wrote (fun b _=>b=w.heap.size+1) W3 W5→Cn W5 w.heap.size (fun b=>w.heap.size≤b) (.agg (pR t c s ad pl bl (.slice pa n px) (.slice qa m qx))) t c s ad pl bl n f m g∧Below w.heap.size w W5):=fun W5 WW=>by
   have T1:=S1.keep WW (fun q e _ _ _ h=>by have:=HP.out.1 q e; omega);have T2:=S2.keep WW (fun q e _ _ _ h=>by have:=HP.out.2 q e; omega);exact ⟨Gs T1 T2 h12 (by omega),C3.trans (WW.below C3.size (fun b o hb h=>by omega))⟩
  have HO:=Ac hok;clear hok S1 S2 C3 x0 x1 x2;go_wp2;refine bodyPost_ret (v:=.tuple #[.agg (pR t c s ad pl bl (.slice pa n px) (.slice qa m qx)),.i 0]) (by simp [results,Tryz.results55,go_sem,c1]) rfl ?_;rw [HO.out,HE.out.1,HE.out.2.1,HE.out.2.2];refine ⟨_,rfl,KEY.out _ ?_⟩
  iterate 8 (refine Wrote.setCell ?_ (fun _=>by omega) _)
  exact Wrote.refl _ _
 ·have IP:=Fp hok
  have a0:=IP.a0;have a1:=IP.a1;have h16:=IP.n16
  obtain ⟨p,rfl⟩:∃ p,o1=some p:=by
   cases o1 with
   | none=>obtain ⟨-,e⟩:=S1; omega
   | some p=>exact ⟨p,rfl⟩
  obtain ⟨y,e,R⟩:=S1;cases e;have hp:=HP.out.1 p rfl;have HO:=Ac hok;clear hok IP;go_wp2_with fail;refine (Ym _ z p n px _ t c s ad pl bl (.slice qa m qx) f reg x2 R h16 a0 a1).mono ?_;rintro e W4 ⟨rfl,y2,WR⟩;have y1:=Ag x1 WR (fun o h=>by omega);have R4:=R.keep WR (fun _ h=>by omega);have S4:=S2.keep WR (fun q e _ _ _ h=>by have:=HP.out.2 q e; omega);have C4:=C3.trans (WR.below C3.size (fun b o hb h=>by omega));have d1:=Aj y1;have d2:=Aj y2;have g1:=Ar y1
  have HE:Hid (∀ W5,Wrote (fun b _=>b=w.heap.size+1) W4 W5→Cn W5 w.heap.size (fun b=>w.heap.size≤b) (.agg (pR t c s (J8 true reg ad) pl (L9 true reg bl) (.slice (some ⟨p,0,none⟩) n px) (.slice qa m qx))) t c s (J8 true reg ad) pl (L9 true reg bl) n f m g∧Below w.heap.size w W5):=fun W5 WW=>by
   have T1:Bf W5 W0.heap.size (some p) (.slice (some ⟨p,0,none⟩) n px) n f:=⟨_,rfl,R4.keep WW (fun _ h=>by omega)⟩
   have T2:=S4.keep WW (fun q e _ _ _ h=>by have:=HP.out.2 q e; omega);exact ⟨Gs T1 T2 h12 (by omega),C4.trans (WW.below C4.size (fun b o hb h=>by omega))⟩
  clear c1 c2 f1 R R4 S2 S4 C3 C4 x0 x1 x2 y1 y2 WR;clear h16;go_wp2;refine bodyPost_ret (v:=.tuple #[.agg (pR t c s (J8 true reg ad) pl (L9 true reg bl) (.slice (some ⟨p,0,none⟩) n px) (.slice qa m qx)),.i (La true reg bl ad f)]) (by simp [results,Tryz.results55,go_sem,d1]) rfl ?_;rw [HO.out];refine ⟨_,rfl,HE.out _ ?_⟩
  iterate 8 (refine Wrote.setCell ?_ (fun _=>by omega) _)
  exact Wrote.refl _ _
set_option maxHeartbeats 2000000
theorem Ci {n:Nat} {u w:World} (h:Below n u w):Below n u w.drew:=⟨h.os,h.tape,h.output,h.size,h.block⟩
theorem I8 (w:World):Calls Tryz.prog 111 #[] w fun e w'=>e=.returned (.agg #[.func (.func 131) #[] #[],.func (.func 132) #[] #[],.func (.func 133) #[] #[],.func (.func 134) #[] #[]])∧Below w.heap.size w w':=by
 have hmf:∀ (fn:Fn) (first cap:Array Value) (w:World),(Instr.makeFunc fn first cap).run Tryz.prog w=.ok (.func fn first cap) w:=fun _ _ _ _=>rfl
 have k0:=Al w #[.nilFunc,.nilFunc,.nilFunc,.nilFunc] 130;have L0:Below w.heap.size w (w.alloc (.cells #[.nilFunc,.nilFunc,.nilFunc,.nilFunc] 130)):=(Below.refl _ _).alloc (Nat.le_refl _) _
 go_enter Tryz.func111,Tryz.ntmps111
 go_upto_region 1 with (fail);generalize w.alloc (.cells #[.nilFunc,.nilFunc,.nilFunc,.nilFunc] 130)=W0 at *;have c0:=Aj k0;have f0:=Ar k0;have k4:=Bz (Bz (Bz (Bz k0 0 (.func (.func 131) #[] #[])) 1 (.func (.func 132) #[] #[])) 2 (.func (.func 133) #[] #[])) 3 (.func (.func 134) #[] #[]);simp only [List.setIfInBounds_toArray,List.set_cons_succ,List.set_cons_zero] at k4;have c4:=Aj k4;go_wp2;refine bodyPost_ret (v:=.agg #[.func (.func 131) #[] #[],.func (.func 132) #[] #[],.func (.func 133) #[] #[],.func (.func 134) #[] #[]]) (by simp [results,Tryz.results111,go_sem,c4]) rfl ?_;exact ⟨rfl,(((L0.setCell (Nat.le_refl _) _).setCell (Nat.le_refl _) _).setCell (Nat.le_refl _) _).setCell (Nat.le_refl _) _⟩
theorem Ul (w:World) (z:Nat) (T P C B L:Int) (S Q:Bool) (v:Int) (hb:w.heap[z]?=some (.cells (aR T P C B L S Q) 35 (0,0))) :
  Calls Tryz.prog 131 #[(pt z 0),.i (v%256)] w fun e w'=>e=.returned (.tuple #[])∧w'.heap[z]?=some (.cells (aR T (v%256) C B L S Q) 35 (0,0))∧Wrote (fun b _=>b=z) w w':=by
 obtain ⟨u,hu⟩:∃ u,Hid (u=v%256):=⟨_,rfl⟩
 have u0:0≤u:=by rw [hu.out]; omega
 have u1:u<256:=by rw [hu.out]; omega
 rw [← hu.out];have hc:=Aj hb;have hf:=Ar hb;have hb2:=Bz hb 1 (.i u);simp only [List.setIfInBounds_toArray,List.set_cons_succ,List.set_cons_zero] at hb2;have HX:=Ac (And.intro hb2 (Wrote.setCell (R:=fun b _=>b=z) (b:=z) (o:=1) (Wrote.refl _ w) (fun _=>rfl) (.i u)));clear hb2 hb
 go_enter Tryz.func131,Tryz.ntmps131
 go_wp2
 ((try simp only [Exit.inBlock,Exit.then]); first | (refine bodyPost_ret (results_none rfl _ _ _) rfl ?_) | (refine bodyPost_end (results_none rfl _ _ _) rfl ?_))
 exact ⟨rfl,HX.out.1,HX.out.2⟩
theorem Um (w:World) (z:Nat) (T P C B L:Int) (S Q:Bool) (v:Int) (hb:w.heap[z]?=some (.cells (aR T P C B L S Q) 35 (0,0))) :
  Calls Tryz.prog 132 #[(pt z 0),.i (v%256)] w fun e w'=>e=.returned (.tuple #[])∧w'.heap[z]?=some (.cells (aR T P C B (v%32) S Q) 35 (0,0))∧Wrote (fun b _=>b=z) w w':=by
 obtain ⟨u,hu⟩:∃ u,Hid (u=v%256):=⟨_,rfl⟩
 have u0:0≤u:=by rw [hu.out]; omega
 have u1:u<256:=by rw [hu.out]; omega
 have HE:Hid (v%32=u%32):=by show _=_; rw [hu.out]; omega
 rw [← hu.out,HE.out];have tm:u.tmod 32=u%32:=Int.tmod_eq_emod_of_nonneg u0;have hc:=Aj hb;have hf:=Ar hb;have hb2:=Bz hb 4 (.i (u%32));simp only [List.setIfInBounds_toArray,List.set_cons_succ,List.set_cons_zero] at hb2;have HX:=Ac (And.intro hb2 (Wrote.setCell (R:=fun b _=>b=z) (b:=z) (o:=4) (Wrote.refl _ w) (fun _=>rfl) (.i (u%32))));clear hb2 hb
 go_enter Tryz.func132,Tryz.ntmps132
 go_wp2
 ((try simp only [Exit.inBlock,Exit.then]); first | (refine bodyPost_ret (results_none rfl _ _ _) rfl ?_) | (refine bodyPost_end (results_none rfl _ _ _) rfl ?_))
 exact ⟨rfl,HX.out.1,HX.out.2⟩
theorem Yn (w:World) (z:Nat) (T P C B L:Int) (S Q:Bool) (v:Int) (hb:w.heap[z]?=some (.cells (aR T P C B L S Q) 35 (0,0))) :
  Calls Tryz.prog 133 #[(pt z 0),.i (v%256)] w fun e w'=>e=.returned (.tuple #[])∧w'.heap[z]?=some (.cells (aR T P C B L (v%2==1) (Q && (v%2==1))) 35 (0,0))∧Wrote (fun b _=>b=z) w w':=by
 obtain ⟨u,hu⟩:∃ u,Hid (u=v%256):=⟨_,rfl⟩
 have u0:0≤u:=by rw [hu.out]; omega
 have u1:u<256:=by rw [hu.out]; omega
 have tm:u.tmod 2=u%2:=Int.tmod_eq_emod_of_nonneg u0
 obtain ⟨o,ho⟩:∃ o,Hid (o=(v%2==1)):=⟨_,rfl⟩
 have ho2:(u%2 != 0)=o:=by
  rw [ho.out]
  have:u%2=v%2:=by rw [hu.out]; omega
  rw [this]
  rcases Int.emod_two_eq v with h | h <;> rw [h] <;> rfl
 rw [← hu.out,← ho.out];clear hu ho;have hc:=Aj hb;have hf:=Ar hb;have hb1:=Bz hb 5 (.bool o);simp only [List.setIfInBounds_toArray,List.set_cons_succ,List.set_cons_zero] at hb1;have hb2:=Bz hb1 6 (.bool (Q && o));simp only [List.setIfInBounds_toArray,List.set_cons_succ,List.set_cons_zero] at hb2;have hc1:=Aj hb1;have hf1:=Ar hb1;have HX:=Ac (And.intro hb2 (Wrote.setCell (b:=z) (o:=6) (Wrote.setCell (R:=fun b _=>b=z) (b:=z) (o:=5) (Wrote.refl _ w) (fun _=>rfl) (.bool o)) (fun _=>rfl) (.bool (Q && o))));clear hb2 hb1 hb;cases Q
 ·go_enter Tryz.func133,Tryz.ntmps133
  go_wp2
  ((try simp only [Exit.inBlock,Exit.then]); first | (refine bodyPost_ret (results_none rfl _ _ _) rfl ?_) | (refine bodyPost_end (results_none rfl _ _ _) rfl ?_))
  exact ⟨rfl,HX.out.1,HX.out.2⟩
 ·go_enter Tryz.func133,Tryz.ntmps133
  go_wp2
  ((try simp only [Exit.inBlock,Exit.then]); first | (refine bodyPost_ret (results_none rfl _ _ _) rfl ?_) | (refine bodyPost_end (results_none rfl _ _ _) rfl ?_))
  exact ⟨rfl,HX.out.1,HX.out.2⟩
theorem Jao (w:World) (z:Nat) (T P C B L:Int) (S Q:Bool) (v:Int) (hb:w.heap[z]?=some (.cells (aR T P C B L S Q) 35 (0,0))) :
  Calls Tryz.prog 134 #[(pt z 0),.i (v%256)] w fun e w'=>e=.returned (.tuple #[])∧w'.heap[z]?=some (.cells (aR T P C B L S false) 35 (0,0))∧Wrote (fun b _=>b=z) w w':=by
 generalize v%256=u;have hc:=Aj hb;have hf:=Ar hb;have hb2:=Bz hb 6 (.bool false);simp only [List.setIfInBounds_toArray,List.set_cons_succ,List.set_cons_zero] at hb2;have HX:=Ac (And.intro hb2 (Wrote.setCell (R:=fun b _=>b=z) (b:=z) (o:=6) (Wrote.refl _ w) (fun _=>rfl) (.bool false)));clear hb2 hb
 go_enter Tryz.func134,Tryz.ntmps134
 go_wp2
 ((try simp only [Exit.inBlock,Exit.then]); first | (refine bodyPost_ret (results_none rfl _ _ _) rfl ?_) | (refine bodyPost_end (results_none rfl _ _ _) rfl ?_))
 exact ⟨rfl,HX.out.1,HX.out.2⟩
theorem Ot (w:World) (T P C B L:Int) (S Q:Bool) (reg v:Int):Calls Tryz.prog 76 #[.agg (aR T P C B L S Q),.i reg,.i v] w
  fun e w'=>e=.returned (.agg (aR T (Hn true P reg v) C B (Ho true L reg v) (Im true S reg v) (Io true Q reg v)))∧Below w.heap.size w w':=by
 have k0:((w.alloc (.cells (aR T P C B L S Q) 35)).alloc (.cells (aR 0 0 0 0 0 false false) 35)).heap[w.heap.size]?=some (.cells (aR T P C B L S Q) 35 (0,0)):=A4 (Al w (aR T P C B L S Q) 35) _
 have k1:((w.alloc (.cells (aR T P C B L S Q) 35)).alloc (.cells (aR 0 0 0 0 0 false false) 35)).heap[w.heap.size+1]?=some (.cells (aR 0 0 0 0 0 false false) 35 (0,0)):=by simpa using Al (w.alloc (.cells (aR T P C B L S Q) 35)) (aR 0 0 0 0 0 false false) 35
 have C0:Below w.heap.size w ((w.alloc (.cells (aR T P C B L S Q) 35)).alloc (.cells (aR 0 0 0 0 0 false false) 35)):=((Below.refl _ _).alloc (Nat.le_refl _) _).alloc (by simp) _
 by_cases hr:0≤reg∧reg<4
 ·obtain ⟨r0,r4⟩:=hr
  by_cases e0:reg=0
  ·subst e0
   have HE:Hid (Hn true P 0 v=v%256∧Ho true L 0 v=L∧Im true S 0 v=S∧Io true Q 0 v=Q):=by show _∧_; simp [Hn,Ho,Im,Io]
   rw [HE.out.1,HE.out.2.1,HE.out.2.2.1,HE.out.2.2.2];clear HE;have HS:=Ac (fun W k=>Ul W w.heap.size T P C B L S Q v k);have HY:=Ac (fun W=>Dk v W)
   obtain ⟨u,hu⟩:∃ u,Hid (u=v%256):=⟨_,rfl⟩
   simp only [← hu.out] at HS HY ⊢;clear hu
   go_enter Tryz.func76,Tryz.ntmps76
   go_wp2_with fail;generalize (w.alloc (.cells (aR T P C B L S Q) 35)).alloc (.cells (aR 0 0 0 0 0 false false) 35)=W0 at *;refine (I8 _).mono ?_;rintro e W1 ⟨rfl,L1⟩;replace k0:=Aa k0 L1 (Ae k0);replace k1:=Aa k1 L1 (Ae k1);have C1:=Ah C0 L1;clear C0 L1;go_upto_region 3 with (fail);have kR:=Al W1 #[.func (.func 131) #[] #[],.func (.func 132) #[] #[],.func (.func 133) #[] #[],.func (.func 134) #[] #[]] 130
   have hz:w.heap.size≠W1.heap.size:=fun e=>by have:=Ae k0; omega
   replace k0:=A4 k0 (.cells #[.func (.func 131) #[] #[],.func (.func 132) #[] #[],.func (.func 133) #[] #[],.func (.func 134) #[] #[]] 130);replace k1:=A4 k1 (.cells #[.func (.func 131) #[] #[],.func (.func 132) #[] #[],.func (.func 133) #[] #[],.func (.func 134) #[] #[]] 130);replace C1:=Ah C1 ((Below.refl W1.heap.size W1).alloc (Nat.le_refl _) (.cells #[.func (.func 131) #[] #[],.func (.func 132) #[] #[],.func (.func 133) #[] #[],.func (.func 134) #[] #[]] 130))
   obtain ⟨zr,hzr⟩:∃ z,Hid (z=W1.heap.size):=⟨_,rfl⟩
   generalize W1.alloc (.cells #[.func (.func 131) #[] #[],.func (.func 132) #[] #[],.func (.func 133) #[] #[],.func (.func 134) #[] #[]] 130)=W2 at *;rw [← hzr.out] at kR hz ⊢;clear hzr;have HC:=Ac (HS.out W2.drew k0);clear HS;have hS:∀ j,W2.cell? ⟨zr,j,none⟩=#[.func (.func 131) #[] #[],.func (.func 132) #[] #[],.func (.func 133) #[] #[],.func (.func 134) #[] #[]][j]?:=Aj kR;have hSd:∀ j,W2.drew.cell? ⟨zr,j,none⟩=#[.func (.func 131) #[] #[],.func (.func 132) #[] #[],.func (.func 133) #[] #[],.func (.func 134) #[] #[]][j]?:=Aj (show W2.drew.heap[zr]?=_ from kR);have HK:=Ac (And.intro kR (And.intro k1 C1));clear kR k1 C1 k0
   go_region_held3 (fun w'=>∀ j,w'.cell? ⟨zr,j,none⟩=#[.func (.func 131) #[] #[],.func (.func 132) #[] #[],.func (.func 133) #[] #[],.func (.func 134) #[] #[]][j]?) (first | (with_reducible assumption) | go_keep) ((first | (go_at_call 92; refine (HY.out _).mono ?_; rintro e w' ⟨rfl,rfl⟩) | (go_at_call 131; refine HC.out.mono ?_; rintro e W3 ⟨rfl,k3,L3⟩; have hS3:∀ j,W3.cell? ⟨zr,j,none⟩=#[.func (.func 131) #[] #[],.func (.func 132) #[] #[],.func (.func 133) #[] #[],.func (.func 134) #[] #[]][j]?:=Aj ((L3.block zr (Ae (show W2.drew.heap[zr]?=_ from HK.out.1)) (fun o e=>hz e.symm)).trans HK.out.1); skip)))
   all_goals
    have k4:W3.heap[w.heap.size+1]?=some (.cells (aR 0 0 0 0 0 false false) 35 (0,0)):=(L3.block _ (Ae (show W2.drew.heap[w.heap.size+1]?=_ from HK.out.2.1)) (fun o e=>by omega)).trans HK.out.2.1;have C3:Below w.heap.size w W3:=(Ci HK.out.2.2).trans (L3.below (Ci HK.out.2.2).size (fun b o hb e=>by omega));have c3:=Aj k3;have c4:=Aj k4;have f4:=Ar k4;clear hS hSd hS3 L3 HC HY HK k3 hz;go_wp2;refine bodyPost_ret (v:=.agg (aR T u C B L S Q)) (by simp [results,Tryz.results76,go_sem,fun (x0 x1 x2 x3 x4 x5 x6:Value)=>Aj (Cd k4 x0 x1 x2 x3 x4 x5 x6)]) rfl ?_;exact ⟨rfl,C3.trans ((Rw W3 _ _ _ _ _ _ _ _).mono (by omega))⟩
  by_cases e1:reg=1
  ·subst e1
   have HE:Hid (Hn true P 1 v=P∧Ho true L 1 v=v%32∧Im true S 1 v=S∧Io true Q 1 v=Q):=by show _∧_; simp [Hn,Ho,Im,Io]
   rw [HE.out.1,HE.out.2.1,HE.out.2.2.1,HE.out.2.2.2];clear HE;have HS:=Ac (fun W k=>Um W w.heap.size T P C B L S Q v k);have HY:=Ac (fun W=>Dk v W)
   obtain ⟨u,hu⟩:∃ u,Hid (u=v%256):=⟨_,rfl⟩
   obtain ⟨l,hl⟩:∃ l,Hid (l=v%32):=⟨_,rfl⟩
   simp only [← hu.out,← hl.out] at HS HY ⊢;clear hu hl
   go_enter Tryz.func76,Tryz.ntmps76
   go_wp2_with fail;generalize (w.alloc (.cells (aR T P C B L S Q) 35)).alloc (.cells (aR 0 0 0 0 0 false false) 35)=W0 at *;refine (I8 _).mono ?_;rintro e W1 ⟨rfl,L1⟩;replace k0:=Aa k0 L1 (Ae k0);replace k1:=Aa k1 L1 (Ae k1);have C1:=Ah C0 L1;clear C0 L1;go_upto_region 3 with (fail);have kR:=Al W1 #[.func (.func 131) #[] #[],.func (.func 132) #[] #[],.func (.func 133) #[] #[],.func (.func 134) #[] #[]] 130
   have hz:w.heap.size≠W1.heap.size:=fun e=>by have:=Ae k0; omega
   replace k0:=A4 k0 (.cells #[.func (.func 131) #[] #[],.func (.func 132) #[] #[],.func (.func 133) #[] #[],.func (.func 134) #[] #[]] 130);replace k1:=A4 k1 (.cells #[.func (.func 131) #[] #[],.func (.func 132) #[] #[],.func (.func 133) #[] #[],.func (.func 134) #[] #[]] 130);replace C1:=Ah C1 ((Below.refl W1.heap.size W1).alloc (Nat.le_refl _) (.cells #[.func (.func 131) #[] #[],.func (.func 132) #[] #[],.func (.func 133) #[] #[],.func (.func 134) #[] #[]] 130))
   obtain ⟨zr,hzr⟩:∃ z,Hid (z=W1.heap.size):=⟨_,rfl⟩
   generalize W1.alloc (.cells #[.func (.func 131) #[] #[],.func (.func 132) #[] #[],.func (.func 133) #[] #[],.func (.func 134) #[] #[]] 130)=W2 at *;rw [← hzr.out] at kR hz ⊢;clear hzr;have HC:=Ac (HS.out W2.drew k0);clear HS;have hS:∀ j,W2.cell? ⟨zr,j,none⟩=#[.func (.func 131) #[] #[],.func (.func 132) #[] #[],.func (.func 133) #[] #[],.func (.func 134) #[] #[]][j]?:=Aj kR;have hSd:∀ j,W2.drew.cell? ⟨zr,j,none⟩=#[.func (.func 131) #[] #[],.func (.func 132) #[] #[],.func (.func 133) #[] #[],.func (.func 134) #[] #[]][j]?:=Aj (show W2.drew.heap[zr]?=_ from kR);have HK:=Ac (And.intro kR (And.intro k1 C1));clear kR k1 C1 k0
   go_region_held3 (fun w'=>∀ j,w'.cell? ⟨zr,j,none⟩=#[.func (.func 131) #[] #[],.func (.func 132) #[] #[],.func (.func 133) #[] #[],.func (.func 134) #[] #[]][j]?) (first | (with_reducible assumption) | go_keep) ((first | (go_at_call 92; refine (HY.out _).mono ?_; rintro e w' ⟨rfl,rfl⟩) | (go_at_call 132; refine HC.out.mono ?_; rintro e W3 ⟨rfl,k3,L3⟩; have hS3:∀ j,W3.cell? ⟨zr,j,none⟩=#[.func (.func 131) #[] #[],.func (.func 132) #[] #[],.func (.func 133) #[] #[],.func (.func 134) #[] #[]][j]?:=Aj ((L3.block zr (Ae (show W2.drew.heap[zr]?=_ from HK.out.1)) (fun o e=>hz e.symm)).trans HK.out.1); skip)))
   all_goals
    have k4:W3.heap[w.heap.size+1]?=some (.cells (aR 0 0 0 0 0 false false) 35 (0,0)):=(L3.block _ (Ae (show W2.drew.heap[w.heap.size+1]?=_ from HK.out.2.1)) (fun o e=>by omega)).trans HK.out.2.1;have C3:Below w.heap.size w W3:=(Ci HK.out.2.2).trans (L3.below (Ci HK.out.2.2).size (fun b o hb e=>by omega));have c3:=Aj k3;have c4:=Aj k4;have f4:=Ar k4;clear hS hSd hS3 L3 HC HY HK k3 hz;go_wp2;refine bodyPost_ret (v:=.agg (aR T P C B l S Q)) (by simp [results,Tryz.results76,go_sem,fun (x0 x1 x2 x3 x4 x5 x6:Value)=>Aj (Cd k4 x0 x1 x2 x3 x4 x5 x6)]) rfl ?_;exact ⟨rfl,C3.trans ((Rw W3 _ _ _ _ _ _ _ _).mono (by omega))⟩
  by_cases e2:reg=2
  ·subst e2
   have HE:Hid (Hn true P 2 v=P∧Ho true L 2 v=L∧Im true S 2 v=(v%2==1)∧Io true Q 2 v=(Q && (v%2==1))):=by show _∧_; simp [Hn,Ho,Im,Io]
   rw [HE.out.1,HE.out.2.1,HE.out.2.2.1,HE.out.2.2.2];clear HE;have HS:=Ac (fun W k=>Yn W w.heap.size T P C B L S Q v k);have HY:=Ac (fun W=>Dk v W)
   obtain ⟨u,hu⟩:∃ u,Hid (u=v%256):=⟨_,rfl⟩
   obtain ⟨o,ho⟩:∃ o,Hid (o=(v%2==1)):=⟨_,rfl⟩
   obtain ⟨q,hq⟩:∃ q,Hid (q=(Q && o)):=⟨_,rfl⟩
   simp only [← hu.out,← ho.out,← hq.out] at HS HY ⊢;clear hu ho hq
   go_enter Tryz.func76,Tryz.ntmps76
   go_wp2_with fail;generalize (w.alloc (.cells (aR T P C B L S Q) 35)).alloc (.cells (aR 0 0 0 0 0 false false) 35)=W0 at *;refine (I8 _).mono ?_;rintro e W1 ⟨rfl,L1⟩;replace k0:=Aa k0 L1 (Ae k0);replace k1:=Aa k1 L1 (Ae k1);have C1:=Ah C0 L1;clear C0 L1;go_upto_region 3 with (fail);have kR:=Al W1 #[.func (.func 131) #[] #[],.func (.func 132) #[] #[],.func (.func 133) #[] #[],.func (.func 134) #[] #[]] 130
   have hz:w.heap.size≠W1.heap.size:=fun e=>by have:=Ae k0; omega
   replace k0:=A4 k0 (.cells #[.func (.func 131) #[] #[],.func (.func 132) #[] #[],.func (.func 133) #[] #[],.func (.func 134) #[] #[]] 130);replace k1:=A4 k1 (.cells #[.func (.func 131) #[] #[],.func (.func 132) #[] #[],.func (.func 133) #[] #[],.func (.func 134) #[] #[]] 130);replace C1:=Ah C1 ((Below.refl W1.heap.size W1).alloc (Nat.le_refl _) (.cells #[.func (.func 131) #[] #[],.func (.func 132) #[] #[],.func (.func 133) #[] #[],.func (.func 134) #[] #[]] 130))
   obtain ⟨zr,hzr⟩:∃ z,Hid (z=W1.heap.size):=⟨_,rfl⟩
   generalize W1.alloc (.cells #[.func (.func 131) #[] #[],.func (.func 132) #[] #[],.func (.func 133) #[] #[],.func (.func 134) #[] #[]] 130)=W2 at *;rw [← hzr.out] at kR hz ⊢;clear hzr;have HC:=Ac (HS.out W2.drew k0);clear HS;have hS:∀ j,W2.cell? ⟨zr,j,none⟩=#[.func (.func 131) #[] #[],.func (.func 132) #[] #[],.func (.func 133) #[] #[],.func (.func 134) #[] #[]][j]?:=Aj kR;have hSd:∀ j,W2.drew.cell? ⟨zr,j,none⟩=#[.func (.func 131) #[] #[],.func (.func 132) #[] #[],.func (.func 133) #[] #[],.func (.func 134) #[] #[]][j]?:=Aj (show W2.drew.heap[zr]?=_ from kR);have HK:=Ac (And.intro kR (And.intro k1 C1));clear kR k1 C1 k0
   go_region_held3 (fun w'=>∀ j,w'.cell? ⟨zr,j,none⟩=#[.func (.func 131) #[] #[],.func (.func 132) #[] #[],.func (.func 133) #[] #[],.func (.func 134) #[] #[]][j]?) (first | (with_reducible assumption) | go_keep) ((first | (go_at_call 92; refine (HY.out _).mono ?_; rintro e w' ⟨rfl,rfl⟩) | (go_at_call 133; refine HC.out.mono ?_; rintro e W3 ⟨rfl,k3,L3⟩; have hS3:∀ j,W3.cell? ⟨zr,j,none⟩=#[.func (.func 131) #[] #[],.func (.func 132) #[] #[],.func (.func 133) #[] #[],.func (.func 134) #[] #[]][j]?:=Aj ((L3.block zr (Ae (show W2.drew.heap[zr]?=_ from HK.out.1)) (fun o e=>hz e.symm)).trans HK.out.1); skip)))
   all_goals
    have k4:W3.heap[w.heap.size+1]?=some (.cells (aR 0 0 0 0 0 false false) 35 (0,0)):=(L3.block _ (Ae (show W2.drew.heap[w.heap.size+1]?=_ from HK.out.2.1)) (fun o e=>by omega)).trans HK.out.2.1;have C3:Below w.heap.size w W3:=(Ci HK.out.2.2).trans (L3.below (Ci HK.out.2.2).size (fun b o hb e=>by omega));have c3:=Aj k3;have c4:=Aj k4;have f4:=Ar k4;clear hS hSd hS3 L3 HC HY HK k3 hz;go_wp2;refine bodyPost_ret (v:=.agg (aR T P C B L o q)) (by simp [results,Tryz.results76,go_sem,fun (x0 x1 x2 x3 x4 x5 x6:Value)=>Aj (Cd k4 x0 x1 x2 x3 x4 x5 x6)]) rfl ?_;exact ⟨rfl,C3.trans ((Rw W3 _ _ _ _ _ _ _ _).mono (by omega))⟩
  by_cases e3:reg=3
  ·subst e3
   have HE:Hid (Hn true P 3 v=P∧Ho true L 3 v=L∧Im true S 3 v=S∧Io true Q 3 v=false):=by show _∧_; simp [Hn,Ho,Im,Io]
   rw [HE.out.1,HE.out.2.1,HE.out.2.2.1,HE.out.2.2.2];clear HE;have HS:=Ac (fun W k=>Jao W w.heap.size T P C B L S Q v k);have HY:=Ac (fun W=>Dk v W)
   obtain ⟨u,hu⟩:∃ u,Hid (u=v%256):=⟨_,rfl⟩
   simp only [← hu.out] at HS HY ⊢;clear hu
   go_enter Tryz.func76,Tryz.ntmps76
   go_wp2_with fail;generalize (w.alloc (.cells (aR T P C B L S Q) 35)).alloc (.cells (aR 0 0 0 0 0 false false) 35)=W0 at *;refine (I8 _).mono ?_;rintro e W1 ⟨rfl,L1⟩;replace k0:=Aa k0 L1 (Ae k0);replace k1:=Aa k1 L1 (Ae k1);have C1:=Ah C0 L1;clear C0 L1;go_upto_region 3 with (fail);have kR:=Al W1 #[.func (.func 131) #[] #[],.func (.func 132) #[] #[],.func (.func 133) #[] #[],.func (.func 134) #[] #[]] 130
   have hz:w.heap.size≠W1.heap.size:=fun e=>by have:=Ae k0; omega
   replace k0:=A4 k0 (.cells #[.func (.func 131) #[] #[],.func (.func 132) #[] #[],.func (.func 133) #[] #[],.func (.func 134) #[] #[]] 130);replace k1:=A4 k1 (.cells #[.func (.func 131) #[] #[],.func (.func 132) #[] #[],.func (.func 133) #[] #[],.func (.func 134) #[] #[]] 130);replace C1:=Ah C1 ((Below.refl W1.heap.size W1).alloc (Nat.le_refl _) (.cells #[.func (.func 131) #[] #[],.func (.func 132) #[] #[],.func (.func 133) #[] #[],.func (.func 134) #[] #[]] 130))
   obtain ⟨zr,hzr⟩:∃ z,Hid (z=W1.heap.size):=⟨_,rfl⟩
   generalize W1.alloc (.cells #[.func (.func 131) #[] #[],.func (.func 132) #[] #[],.func (.func 133) #[] #[],.func (.func 134) #[] #[]] 130)=W2 at *;rw [← hzr.out] at kR hz ⊢;clear hzr;have HC:=Ac (HS.out W2.drew k0);clear HS;have hS:∀ j,W2.cell? ⟨zr,j,none⟩=#[.func (.func 131) #[] #[],.func (.func 132) #[] #[],.func (.func 133) #[] #[],.func (.func 134) #[] #[]][j]?:=Aj kR;have hSd:∀ j,W2.drew.cell? ⟨zr,j,none⟩=#[.func (.func 131) #[] #[],.func (.func 132) #[] #[],.func (.func 133) #[] #[],.func (.func 134) #[] #[]][j]?:=Aj (show W2.drew.heap[zr]?=_ from kR);have HK:=Ac (And.intro kR (And.intro k1 C1));clear kR k1 C1 k0
   go_region_held3 (fun w'=>∀ j,w'.cell? ⟨zr,j,none⟩=#[.func (.func 131) #[] #[],.func (.func 132) #[] #[],.func (.func 133) #[] #[],.func (.func 134) #[] #[]][j]?) (first | (with_reducible assumption) | go_keep) ((first | (go_at_call 92; refine (HY.out _).mono ?_; rintro e w' ⟨rfl,rfl⟩) | (go_at_call 134; refine HC.out.mono ?_; rintro e W3 ⟨rfl,k3,L3⟩; have hS3:∀ j,W3.cell? ⟨zr,j,none⟩=#[.func (.func 131) #[] #[],.func (.func 132) #[] #[],.func (.func 133) #[] #[],.func (.func 134) #[] #[]][j]?:=Aj ((L3.block zr (Ae (show W2.drew.heap[zr]?=_ from HK.out.1)) (fun o e=>hz e.symm)).trans HK.out.1); skip)))
   all_goals
    have k4:W3.heap[w.heap.size+1]?=some (.cells (aR 0 0 0 0 0 false false) 35 (0,0)):=(L3.block _ (Ae (show W2.drew.heap[w.heap.size+1]?=_ from HK.out.2.1)) (fun o e=>by omega)).trans HK.out.2.1;have C3:Below w.heap.size w W3:=(Ci HK.out.2.2).trans (L3.below (Ci HK.out.2.2).size (fun b o hb e=>by omega));have c3:=Aj k3;have c4:=Aj k4;have f4:=Ar k4;clear hS hSd hS3 L3 HC HY HK k3 hz;go_wp2;refine bodyPost_ret (v:=.agg (aR T P C B L S false)) (by simp [results,Tryz.results76,go_sem,fun (x0 x1 x2 x3 x4 x5 x6:Value)=>Aj (Cd k4 x0 x1 x2 x3 x4 x5 x6)]) rfl ?_;exact ⟨rfl,C3.trans ((Rw W3 _ _ _ _ _ _ _ _).mono (by omega))⟩
  exfalso
  omega
 ·have HE:Hid (Hn true P reg v=P∧Ho true L reg v=L∧Im true S reg v=S∧Io true Q reg v=Q):=by
   show _∧_
   have n0:¬ reg=0:=by omega
   have n1:¬ reg=1:=by omega
   have n2:¬ reg=2:=by omega
   have n3:¬ reg=3:=by omega
   simp [Hn,Ho,Im,Io,n0,n1,n2,n3]
  rw [HE.out.1,HE.out.2.1,HE.out.2.2.1,HE.out.2.2.2];clear HE
  by_cases r0:0≤reg
  all_goals
   go_enter Tryz.func76,Tryz.ntmps76
   go_wp2_with fail;generalize (w.alloc (.cells (aR T P C B L S Q) 35)).alloc (.cells (aR 0 0 0 0 0 false false) 35)=W0 at *;refine (I8 _).mono ?_;rintro e W1 ⟨rfl,L1⟩;replace k0:=Aa k0 L1 (Ae k0);replace k1:=Aa k1 L1 (Ae k1);have C1:=Ah C0 L1;clear C0 L1
   have r4:decide (0≤reg)=true→decide (reg<4)=false:=fun h=>decide_eq_false (fun h'=>hr ⟨of_decide_eq_true h,h'⟩)
   first | (have r4:¬ reg<4:=fun h=>hr ⟨(by omega),h⟩; clear hr; go_upto_region 4 with (fail); skip) | (clear hr; go_upto_region 4 with (fail))
   have kA:=A4 k0 (.cells #[.func (.func 131) #[] #[],.func (.func 132) #[] #[],.func (.func 133) #[] #[],.func (.func 134) #[] #[]] 130);have kB:=A4 k1 (.cells #[.func (.func 131) #[] #[],.func (.func 132) #[] #[],.func (.func 133) #[] #[],.func (.func 134) #[] #[]] 130);replace C1:=Ah C1 ((Below.refl W1.heap.size W1).alloc (Nat.le_refl _) (.cells #[.func (.func 131) #[] #[],.func (.func 132) #[] #[],.func (.func 133) #[] #[],.func (.func 134) #[] #[]] 130));generalize W1.alloc (.cells #[.func (.func 131) #[] #[],.func (.func 132) #[] #[],.func (.func 133) #[] #[],.func (.func 134) #[] #[]] 130)=W2 at *;have c3:=Aj kA;have c4:=Aj kB;have f4:=Ar kB;clear kA k0 k1;go_wp2;refine bodyPost_ret (v:=.agg (aR T P C B L S Q)) (by simp [results,Tryz.results76,go_sem,fun (x0 x1 x2 x3 x4 x5 x6:Value)=>Aj (Cd kB x0 x1 x2 x3 x4 x5 x6)]) rfl ?_
   exact ⟨rfl,C1.trans ((Rw W2 _ _ _ _ _ _ _ _).mono (by omega))⟩
end Go.Proofs.YtjnjnppongdhgaaGreat
