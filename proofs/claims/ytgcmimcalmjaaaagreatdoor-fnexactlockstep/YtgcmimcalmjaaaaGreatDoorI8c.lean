import Derived.Test.YtgcmimcalmjaaaaGreatDoorA8
import Derived.Test.YtgcmimcalmjaaaaGreatDoorC3
namespace Go.Proofs.YtgcmimcalmjaaaaGreatDoor
set_option maxHeartbeats 1000000
set_option linter.unusedVariables false
set_option linter.unusedSimpArgs false
open Go.ChangeShapes Go.WideShapes Go.ChangeAt Go.RowKit
def A5 (W:World) (lo:Nat):Option Nat→Value→Nat→(Nat→Int)→Prop
 | none,v,n,_=>v=.slice none 0 0∧n=0
 | some q,v,n,f=>∃ y,v=.slice (some ⟨q,0,none⟩) n y∧Row W lo q n y f
theorem A5.keep {R:Nat→Nat→Prop} {W W':World} {lo:Nat} {o:Option Nat} {v:Value} {n:Nat} {f:Nat→Int} (h:A5 W lo o v n f) (hw:Wrote R W W') (hd:∀ q,o=some q→lo≤q→q<W.heap.size→∀ k,¬ R q k):A5 W' lo o v n f:=by
 cases o with
 | none=>exact h
 | some q =>
  obtain ⟨y,e,r⟩:=h;exact ⟨y,e,r.keep hw (hd q rfl r.parts.1 r.parts.2.1)⟩
theorem A5.below {W W':World} {lo:Nat} {o:Option Nat} {v:Value} {n:Nat} {f:Nat→Int} (h:A5 W lo o v n f) (L:Below W.heap.size W W'):A5 W' lo o v n f:=h.keep (Ab L Aj) (fun _ _ _ _ _ x=>x)
theorem A5.mono {W:World} {lo lo':Nat} {o:Option Nat} {v:Value} {n:Nat} {f:Nat→Int} (h:A5 W lo o v n f) (hl:lo'≤lo):A5 W lo' o v n f:=by
 cases o with
 | none=>exact h
 | some q =>
  obtain ⟨y,e,r⟩:=h;exact ⟨y,e,r.mono hl⟩
theorem A5.lt {W:World} {lo q:Nat} {v:Value} {n:Nat} {f:Nat→Int} (h:A5 W lo (some q) v n f):lo≤q∧q<W.heap.size:=by
 obtain ⟨y,e,r⟩:=h;exact ⟨r.parts.1,r.parts.2.1⟩
theorem A5.sl {W:World} {lo:Nat} {o:Option Nat} {v:Value} {n:Nat} {f:Nat→Int} (h:A5 W lo o v n f):∃ a x,v=.slice a n x∧Cm W (fun b=>o=some b) a n f:=by
 cases o with
 | none =>
  obtain ⟨rfl,rfl⟩:=h;exact ⟨_,_,rfl,Cm.nil _⟩
 | some q =>
  obtain ⟨y,rfl,r⟩:=h;exact ⟨_,_,rfl,r.onD rfl⟩
theorem A5.form {W:World} {lo:Nat} {o:Option Nat} {v:Value} {n:Nat} {f:Nat→Int} (h:A5 W lo o v n f):∃ a x,v=.slice a n x:=by
 obtain ⟨a,x,e,-⟩:=h.sl;exact ⟨a,x,e⟩
theorem A5.ints {W:World} {lo:Nat} {o:Option Nat} {v:Value} {n:Nat} {f:Nat→Int} (h:A5 W lo o v n f):Ints .i64 W (On (fun b=>o=some b)) v n f:=by
 obtain ⟨a,x,rfl,r⟩:=h.sl;exact r.ints x
def Pz (o o':Option Nat):Prop:=∀ q,o=some q→¬ o'=some q
theorem Yz {W:World} {lo:Nat} {o o':Option Nat} {v v':Value} {n m:Nat} {f g:Nat→Int} {t c s ad pl:Int} {bl:Bool} (h1:A5 W lo o v n f) (h2:A5 W lo o' v' m g) (h3:Pz o o') :
  Cf W (fun b=>o=some b∨o'=some b) (.agg (pR t c s ad pl bl v v')) t c s ad pl bl n f m g:=by
 obtain ⟨a,x,rfl,r1⟩:=h1.sl;obtain ⟨b,y,rfl,r2⟩:=h2.sl;exact ⟨_,_,_,_,rfl,r1.mono (fun b _ h=>Or.inl h),r2.mono (fun b _ h=>Or.inr h),Q2 r1 r2 (fun b h=>h3 b h)⟩
theorem Jdc {W:World} {lo:Nat} {o o':Option Nat} {v v':Value} {n m:Nat} {f g:Nat→Int} (h1:A5 W lo o v n f) (h2:A5 W lo o' v' m g):∀ b,(o=some b∨o'=some b)→lo≤b:=fun b h=>by
 rcases h with rfl | rfl
 ·exact h1.lt.1
 ·exact h2.lt.1
theorem Gp (w:World) (G:Nat→Nat→Prop) (u:Value) (n:Nat) (g:Nat→Int) (K:Ints .i64 w G u n g) :
  Calls Tryz.prog 73 #[u] w fun e w'=>∃ v o,e=.returned v∧A5 w' w.heap.size o v n g∧Below w.heap.size w w':=by
 obtain ⟨ua,ucap,rfl,un,hrow,hG⟩:=K
 have hq:∀ W:World,(binOp .eql 25 (.slice ua n ucap) (.slice none 0 0)).run Tryz.prog W=.ok (.bool ua.isNone) W:=fun W=>Lib.run_eql_slice_nil W 25 3 ua n ucap 0 0 Tryz.underlying25
 cases ua with
 | none =>
  have hq':∀ W:World,(binOp .eql 25 (.slice none n ucap) (.slice none 0 0)).run Tryz.prog W=.ok (.bool true) W:=hq;clear hq
  have hn:n=0:=by
   rcases Nat.eq_zero_or_pos n with h | h
   ·exact h
   ·obtain ⟨b,off,e,-⟩:=hrow 0 h
    cases e
  subst hn;clear hrow
  go_enter Tryz.func73,Tryz.ntmps73
  go_wp2;go_ret;exact ⟨_,none,rfl,⟨rfl,rfl⟩,Below.refl _ _⟩
 | some ua =>
  have hq':∀ W:World,(binOp .eql 25 (.slice (some ua) n ucap) (.slice none 0 0)).run Tryz.prog W=.ok (.bool false) W:=hq;clear hq
  have K:Ints .i64 w G (.slice (some ua) n ucap) n g:=⟨_,_,rfl,un,hrow,hG⟩
  clear hrow hG;have L0:Below w.heap.size w (w.alloc (.cells #[] 3)):=(Below.refl _ _).alloc (Nat.le_refl _) _;have k0:=Al w #[] 3
  go_enter Tryz.func73,Tryz.ntmps73
  go_wp2_with (at_builtin; refine Eu _ rfl _ _ rfl w.heap.size rfl k0 w.heap.size (Nat.le_refl _) G (.slice (some ua) n ucap) n g rfl (K.keep (Ab L0 Aj) (fun _ _ _ x=>x)) ?_);rintro p x W2 R2 L2 hp;have L3:=L0.trans (L2.mono (by omega));have HR:=Ad R2;clear L0 L2 R2;go_wp2;go_ret;exact ⟨_,some p,rfl,⟨_,rfl,HR.out⟩,L3⟩
theorem P0 (w:World) (F G:Nat→Nat→Prop) (t c s ad pl:Int) (bl:Bool) (u u':Value) (n:Nat) (f:Nat→Int) (m:Nat) (g:Nat→Int) (H:Ints .i64 w F u n f) (K:Ints .i64 w G u' m g) :
  Calls Tryz.prog 75 #[.agg (pR t c s ad pl bl u u')] w fun e w'=>∃ v v' o o',e=.returned (.agg (pR t c s ad pl bl v v'))∧A5 w' w.heap.size o v n f∧A5 w' w.heap.size o' v' m g∧Pz o o'∧Below w.heap.size w w':=by
 obtain ⟨ua,ux,rfl,un,hr,hF⟩:=H;obtain ⟨va,vx,rfl,vn,hr',hF'⟩:=K
 have H:Ints .i64 w F (.slice ua n ux) n f:=⟨_,_,rfl,un,hr,hF⟩
 have K:Ints .i64 w G (.slice va m vx) m g:=⟨_,_,rfl,vn,hr',hF'⟩
 clear hr hF hr' hF';have L0:Below w.heap.size w ((w.alloc (.cells (pR t c s ad pl bl (.slice ua n ux) (.slice va m vx)) 44)).alloc (.cells (pR 0 0 0 0 0 false (.slice none 0 0) (.slice none 0 0)) 44)):=((Below.refl _ _).alloc (Nat.le_refl _) _).alloc (by simp) _;have k0:((w.alloc (.cells (pR t c s ad pl bl (.slice ua n ux) (.slice va m vx)) 44)).alloc (.cells (pR 0 0 0 0 0 false (.slice none 0 0) (.slice none 0 0)) 44)).heap[w.heap.size]?=some (.cells (pR t c s ad pl bl (.slice ua n ux) (.slice va m vx)) 44 (0,0)):=Ax (Al w _ _) _
 have k1:((w.alloc (.cells (pR t c s ad pl bl (.slice ua n ux) (.slice va m vx)) 44)).alloc (.cells (pR 0 0 0 0 0 false (.slice none 0 0) (.slice none 0 0)) 44)).heap[w.heap.size+1]?=some (.cells (pR 0 0 0 0 0 false (.slice none 0 0) (.slice none 0 0)) 44 (0,0)):=by simpa using Al (w.alloc (.cells (pR t c s ad pl bl (.slice ua n ux) (.slice va m vx)) 44)) (pR 0 0 0 0 0 false (.slice none 0 0) (.slice none 0 0)) 44
 go_enter Tryz.func75,Tryz.ntmps75
 go_wp2_with fail;generalize ((w.alloc (.cells (pR t c s ad pl bl (.slice ua n ux) (.slice va m vx)) 44)).alloc (.cells (pR 0 0 0 0 0 false (.slice none 0 0) (.slice none 0 0)) 44))=W0 at *;refine (Gp _ F _ n f (H.keep (Ab L0 Aj) (fun _ _ _ x=>x))).mono ?_;rintro e W1 ⟨v,o,rfl,R1,L1⟩;have z0:=Ac k1;have z1:=L1.size;have C1:=Ae L0 L1;replace k0:=Aa k0 L1 (Ac k0);replace k1:=Aa k1 L1 (Ac k1);have c0:=Ag k0;have f0:=As k0;obtain ⟨ra,rx,hv⟩:=R1.form;subst hv;clear L1;go_wp2_with fail;have WS:Wrote (fun b _=>b=w.heap.size) W1 (W1.setCell ⟨w.heap.size,6,none⟩ (.slice ra n rx)):=Wrote.setCell (R:=fun b _=>b=w.heap.size) (Wrote.refl _ W1) (fun _=>rfl) _;have j0:=Af (o:=6) k0 (.slice ra n rx);simp only [List.setIfInBounds_toArray,List.set_cons_succ,List.set_cons_zero] at j0
 have j1:=Bc (o:=6) (x:=.slice ra n rx) k1 (show w.heap.size+1≠w.heap.size by omega);have C2:=C1.setCell (p:=⟨w.heap.size,6,none⟩) (Nat.le_refl _) (.slice ra n rx);have S1:=R1.keep WS (fun q _ h1 _ _ h2=>by omega)
 have zz:(W1.setCell ⟨w.heap.size,6,none⟩ (.slice ra n rx)).heap.size=W1.heap.size:=by simp
 clear c0 f0 k0 k1 C1 R1 WS L0;generalize W1.setCell ⟨w.heap.size,6,none⟩ (.slice ra n rx)=W2 at *;refine (Gp _ G _ m g (K.keep (Ab C2 Aj) (fun _ _ _ x=>x))).mono ?_;rintro e W3 ⟨v',o',rfl,R3,L3⟩;have S3:=S1.below L3;have C3:=Ae C2 L3
 have HT:Hid (Pz o o'):=fun q e1 e2=>by
  subst e1 e2;have h1:=S1.lt;have h2:=R3.lt
  omega
 obtain ⟨ta,tx,hv⟩:=R3.form;subst hv;replace j0:=Aa j0 L3 (Ac j0);replace j1:=Aa j1 L3 (Ac j1);have c0:=Ag j0;have c1:=Ag j1;have f0:=As j0;have f1:=As j1
 have key:∀ W5,Wrote (fun b _=>b=w.heap.size∨b=w.heap.size+1) W3 W5→A5 W5 w.heap.size o (.slice ra n rx) n f∧A5 W5 w.heap.size o' (.slice ta m tx) m g∧Pz o o'∧Below w.heap.size w W5:=fun W5 WW =>
  ⟨(S3.keep WW (fun q _ h1 _ _ h2=>by omega)).mono (by omega),(R3.keep WW (fun q _ h1 _ _ h2=>by omega)).mono (by omega),HT.out,C3.trans (WW.below C3.size (fun b o hb h=>by omega))⟩
 have KEY:=Ad key;clear key S1 S3 R3 C2 C3 L3 j0 j1 H K;go_wp2;refine bodyPost_ret (v:=.agg (pR t c s ad pl bl (.slice ra n rx) (.slice ta m tx))) (by simp [results,Tryz.results75,go_sem,c1]) rfl ?_;refine ⟨_,_,_,_,rfl,KEY.out _ ?_⟩
 iterate 9 (refine Wrote.setCell ?_ (fun _=>by omega) _)
 exact Wrote.refl _ _
def Pn:List Int:=[0,0,1,2,0,0,0,0,0,0,0,0,0,0,1,2,0,0,0,0,0,0,0,0,0,0,0,0,0,1]
def Dc (w:World):Prop:=∀ i:Nat,i<30→w.cell? ⟨0,i*4,none⟩=some (.string (Vr.getD i ByteArray.empty))∧w.cell? ⟨0,i*4+1,none⟩=some (.i (Gz.getD i 1)) ∧
 w.cell? ⟨0,i*4+2,none⟩=some (.i (G8.getD i 2))∧w.cell? ⟨0,i*4+3,none⟩=some (.i (Pn.getD i 0))
theorem Sw:∀ i:Fin 30,Ff Tryz.prog 4 190 Rows.laid_loop_example_g00231_impl_opRows (i.1*4)=some (.string (Vr.getD i.1 ByteArray.empty)) ∧
  Ff Tryz.prog 4 190 Rows.laid_loop_example_g00231_impl_opRows (i.1*4+1)=some (.i (Gz.getD i.1 1)) ∧
  Ff Tryz.prog 4 190 Rows.laid_loop_example_g00231_impl_opRows (i.1*4+2)=some (.i (G8.getD i.1 2)) ∧
  Ff Tryz.prog 4 190 Rows.laid_loop_example_g00231_impl_opRows (i.1*4+3)=some (.i (Pn.getD i.1 0)):=by
 intro ⟨i,hi⟩
 show _∧_∧_∧_
 match i,hi with
 | 0,_=>exact ⟨by kernel_rfl,by kernel_rfl,by kernel_rfl,by kernel_rfl⟩
 | 1,_=>exact ⟨by kernel_rfl,by kernel_rfl,by kernel_rfl,by kernel_rfl⟩
 | 2,_=>exact ⟨by kernel_rfl,by kernel_rfl,by kernel_rfl,by kernel_rfl⟩
 | 3,_=>exact ⟨by kernel_rfl,by kernel_rfl,by kernel_rfl,by kernel_rfl⟩
 | 4,_=>exact ⟨by kernel_rfl,by kernel_rfl,by kernel_rfl,by kernel_rfl⟩
 | 5,_=>exact ⟨by kernel_rfl,by kernel_rfl,by kernel_rfl,by kernel_rfl⟩
 | 6,_=>exact ⟨by kernel_rfl,by kernel_rfl,by kernel_rfl,by kernel_rfl⟩
 | 7,_=>exact ⟨by kernel_rfl,by kernel_rfl,by kernel_rfl,by kernel_rfl⟩
 | 8,_=>exact ⟨by kernel_rfl,by kernel_rfl,by kernel_rfl,by kernel_rfl⟩
 | 9,_=>exact ⟨by kernel_rfl,by kernel_rfl,by kernel_rfl,by kernel_rfl⟩
 | 10,_=>exact ⟨by kernel_rfl,by kernel_rfl,by kernel_rfl,by kernel_rfl⟩
 | 11,_=>exact ⟨by kernel_rfl,by kernel_rfl,by kernel_rfl,by kernel_rfl⟩
 | 12,_=>exact ⟨by kernel_rfl,by kernel_rfl,by kernel_rfl,by kernel_rfl⟩
 | 13,_=>exact ⟨by kernel_rfl,by kernel_rfl,by kernel_rfl,by kernel_rfl⟩
 | 14,_=>exact ⟨by kernel_rfl,by kernel_rfl,by kernel_rfl,by kernel_rfl⟩
 | 15,_=>exact ⟨by kernel_rfl,by kernel_rfl,by kernel_rfl,by kernel_rfl⟩
 | 16,_=>exact ⟨by kernel_rfl,by kernel_rfl,by kernel_rfl,by kernel_rfl⟩
 | 17,_=>exact ⟨by kernel_rfl,by kernel_rfl,by kernel_rfl,by kernel_rfl⟩
 | 18,_=>exact ⟨by kernel_rfl,by kernel_rfl,by kernel_rfl,by kernel_rfl⟩
 | 19,_=>exact ⟨by kernel_rfl,by kernel_rfl,by kernel_rfl,by kernel_rfl⟩
 | 20,_=>exact ⟨by kernel_rfl,by kernel_rfl,by kernel_rfl,by kernel_rfl⟩
 | 21,_=>exact ⟨by kernel_rfl,by kernel_rfl,by kernel_rfl,by kernel_rfl⟩
 | 22,_=>exact ⟨by kernel_rfl,by kernel_rfl,by kernel_rfl,by kernel_rfl⟩
 | 23,_=>exact ⟨by kernel_rfl,by kernel_rfl,by kernel_rfl,by kernel_rfl⟩
 | 24,_=>exact ⟨by kernel_rfl,by kernel_rfl,by kernel_rfl,by kernel_rfl⟩
 | 25,_=>exact ⟨by kernel_rfl,by kernel_rfl,by kernel_rfl,by kernel_rfl⟩
 | 26,_=>exact ⟨by kernel_rfl,by kernel_rfl,by kernel_rfl,by kernel_rfl⟩
 | 27,_=>exact ⟨by kernel_rfl,by kernel_rfl,by kernel_rfl,by kernel_rfl⟩
 | 28,_=>exact ⟨by kernel_rfl,by kernel_rfl,by kernel_rfl,by kernel_rfl⟩
 | 29,_=>exact ⟨by kernel_rfl,by kernel_rfl,by kernel_rfl,by kernel_rfl⟩
 | n+30,hi=>exact absurd hi (by omega)
theorem Yj {w:World} (h:∀ i v,Ff Tryz.prog 4 190 Rows.laid_loop_example_g00231_impl_opRows i=some v→w.cell? ⟨0,i,none⟩=some v):Dc w:=fun i hi=>by
 obtain ⟨a,b,c,d⟩:=Sw ⟨i,hi⟩;exact ⟨h _ _ a,h _ _ b,h _ _ c,h _ _ d⟩
theorem Dc.mono {w w':World} (h:Dc w) (hb:Below w.heap.size w w'):Dc w':=fun i hi=>by
 obtain ⟨a,b,c,d⟩:=h i hi;have h0:0<w.heap.size:=block_lt_of_cell a;exact ⟨(hb.cell h0).trans a,(hb.cell h0).trans b,(hb.cell h0).trans c,(hb.cell h0).trans d⟩
def nmOf (x:Int):ByteArray:=if 0≤x∧x≤29 then Vr.getD x.toNat ByteArray.empty else ⟨#[]⟩
def lenOf (x:Int):Int:=if 0≤x∧x≤29 then Gz.getD x.toNat 1 else 1
def Jo (x:Int):Int:=if 0≤x∧x≤29 then G8.getD x.toNat 2 else 2
def Lk (x:Int):Int:=if 0≤x∧x≤29 then Pn.getD x.toNat 0 else 0
theorem opAt (w:World) (x:Int) (h:Dc w):Calls Tryz.prog 170 #[.i x] w fun e w'=>e=.returned (.agg #[.string (nmOf x),.i (lenOf x),.i (Jo x),.i (Lk x)])∧Below w.heap.size w w':=by
 have L0:∀ o,Below w.heap.size w (w.alloc o):=fun o=>(Below.refl _ _).alloc (Nat.le_refl _) _
 by_cases hx:0≤x∧x≤29
 ·obtain ⟨i,rfl⟩:∃ i:Nat,x=i:=⟨x.toNat,by omega⟩
  have hi:i<30:=by omega
  have hi':(i:Int)<30:=by omega
  obtain ⟨a,b,c,d⟩:=h i hi;have h0:0<w.heap.size:=block_lt_of_cell a
  have h1:decide ((i:Int)<0)=false:=by simp
  have h2:decide (30≤(i:Int))=false:=by simp; omega
  unfold nmOf lenOf Jo Lk;rw [if_pos hx,if_pos hx,if_pos hx,if_pos hx,Int.toNat_natCast]
  obtain ⟨v0,e0⟩:∃ v,v=Vr.getD i ByteArray.empty:=⟨_,rfl⟩
  obtain ⟨v1,e1⟩:∃ v,v=Gz.getD i 1:=⟨_,rfl⟩
  obtain ⟨v2,e2⟩:∃ v,v=G8.getD i 2:=⟨_,rfl⟩
  obtain ⟨v3,e3⟩:∃ v,v=Pn.getD i 0:=⟨_,rfl⟩
  rw [← e0] at a; rw [← e1] at b; rw [← e2] at c; rw [← e3] at d;rw [← e0,← e1,← e2,← e3];clear e0 e1 e2 e3 h hx
  go_enter Tryz.func170,Tryz.ntmps170
  go_wp2;refine bodyPost_ret (v:=.agg #[.string v0,.i v1,.i v2,.i v3]) (by simp [results,Tryz.results170,go_sem]) rfl ?_;exact ⟨rfl,L0 _⟩
 ·unfold nmOf lenOf Jo Lk
  rw [if_neg hx,if_neg hx,if_neg hx,if_neg hx]
  rcases (by omega:x<0∨30≤x) with h1 | h1
  ·have h2:decide (x<0)=true:=by simpa using h1
   clear hx
   go_enter Tryz.func170,Tryz.ntmps170
   go_wp2
   all_goals first | (exfalso; omega) | skip
   refine bodyPost_ret (v:=.agg #[.string ⟨#[]⟩,.i 1,.i 2,.i 0]) (by simp [results,Tryz.results170,go_sem]) rfl ?_;exact ⟨rfl,L0 _⟩
  ·have h2:decide (x<0)=false:=by simp; omega
   have h3:decide (30≤x)=true:=by simpa using h1
   clear hx
   go_enter Tryz.func170,Tryz.ntmps170
   go_wp2
   all_goals first | (exfalso; omega) | skip
   refine bodyPost_ret (v:=.agg #[.string ⟨#[]⟩,.i 1,.i 2,.i 0]) (by simp [results,Tryz.results170,go_sem]) rfl ?_;exact ⟨rfl,L0 _⟩
theorem Oc (w:World) (x:Int) (h:Dc w):Calls Tryz.prog 157 #[.i x] w fun e w'=>e=.returned (.i (lenOf x))∧Below w.heap.size w w':=by
 have hfd:∀ w:World,(Instr.field 167 (.agg #[.string (nmOf x),.i (lenOf x),.i (Jo x),.i (Lk x)]) 1).run Tryz.prog w=.ok (.i (lenOf x)) w:=fun _=>by kernel_rfl
 go_enter Tryz.func157,Tryz.ntmps157
 go_wp2_with fail;refine (opAt _ _ h).mono ?_;rintro e w1 ⟨rfl,hb⟩;go_wp2;go_ret;exact ⟨rfl,hb⟩
theorem Po (w:World) (x:Int) (h:Dc w):Calls Tryz.prog 142 #[.i x] w fun e w'=>e=.returned (.i (Jo x))∧Below w.heap.size w w':=by
 have hfd:∀ w:World,(Instr.field 167 (.agg #[.string (nmOf x),.i (lenOf x),.i (Jo x),.i (Lk x)]) 2).run Tryz.prog w=.ok (.i (Jo x)) w:=fun _=>by kernel_rfl
 go_enter Tryz.func142,Tryz.ntmps142
 go_wp2_with fail;refine (opAt _ _ h).mono ?_;rintro e w1 ⟨rfl,hb⟩;go_wp2;go_ret;exact ⟨rfl,hb⟩
theorem Pp (w:World) (x:Int) (h:Dc w):Calls Tryz.prog 159 #[.i x] w fun e w'=>e=.returned (.i (Lk x))∧Below w.heap.size w w':=by
 have hfd:∀ w:World,(Instr.field 167 (.agg #[.string (nmOf x),.i (lenOf x),.i (Jo x),.i (Lk x)]) 3).run Tryz.prog w=.ok (.i (Lk x)) w:=fun _=>by kernel_rfl
 go_enter Tryz.func159,Tryz.ntmps159
 go_wp2_with fail;refine (opAt _ _ h).mono ?_;rintro e w1 ⟨rfl,hb⟩;go_wp2;go_ret;exact ⟨rfl,hb⟩
theorem Sx (w:World) (x:Int) (h:Dc w):Calls Tryz.prog 182 #[.i x] w fun e w'=>e=.returned (.string (nmOf x))∧Below w.heap.size w w':=by
 have hfd:∀ w:World,(Instr.field 167 (.agg #[.string (nmOf x),.i (lenOf x),.i (Jo x),.i (Lk x)]) 0).run Tryz.prog w=.ok (.string (nmOf x)) w:=fun _=>by kernel_rfl
 go_enter Tryz.func182,Tryz.ntmps182
 go_wp2_with fail;refine (opAt _ _ h).mono ?_;rintro e w1 ⟨rfl,hb⟩;go_wp2;go_ret;exact ⟨rfl,hb⟩
theorem Jah (x:Int):Lk x=B9 x:=by
 unfold Lk;split
 ·rename_i h
  obtain ⟨i,rfl⟩:∃ i:Nat,x=i:=⟨x.toNat,by omega⟩
  have hi:i<30:=by omega
  rw [Int.toNat_natCast];clear h
  revert i
  decide
 ·unfold B9
  rw [if_neg (by omega),if_neg (by omega)]
set_option maxHeartbeats 1000000
set_option linter.unusedVariables false
set_option linter.unusedSimpArgs false
def Dr (n:Nat) (f:Nat→Int):Bool:=decide ((∀ i,i<n→0≤f i∧f i≤255)∧n≤20)
theorem Ww {n:Nat} {f:Nat→Int} {j:Nat} (hj:j<n) (h:¬ (0≤f j∧f j≤255)):Dr n f=false:=decide_eq_false (fun x=>h (x.1 j hj))
theorem Tl {n:Nat} {f:Nat→Int} (h:∀ j,j<n→0≤f j∧f j≤255):Dr n f=decide (n≤20):=decide_eq_decide.2 ⟨fun x=>x.2,fun x=>⟨h,x⟩⟩
theorem Ov {n:Nat} {f:Nat→Int} (h:Dr n f=true):(∀ j,j<n→0≤f j∧f j≤255)∧n≤20:=of_decide_eq_true h
def Fj (n:Nat) (f:Nat→Int) (t:Int):Int:=if Dr n f=true∧0<n then f ((max t 0/64)%n).toNat else 0
def Gr (v:Int):Bool:=v%2==1
def Eo (H:Bool) (S:Int) (n:Nat) (f:Nat→Int) (t v:Int):Int:=if (H || Gr v)=true then Fj n f t else S
def Ea (H:Bool) (S:Int) (n:Nat) (f:Nat→Int) (t:Int):Int:=if H=true then Fj n f t else S/2
def Ig (H:Bool) (S:Int) (n:Nat) (f:Nat→Int) (t:Int):Int:=if H=true then Fj n f t%2 else S%2
theorem Jx (v:Int):bits .and .i64 v 1=v%2:=by
  have h:=Jp v 1 (by omega);have e:((v%256).toNat &&& 1)=(v%256).toNat%2:=Nat.and_one_is_mod _;rw [show ((1:Nat):Int)=(1:Int) from rfl] at h;rw [h,e]
  omega
theorem Jdg (w:World) (H:Bool) (S:Int):Calls Tryz.prog 25 #[.agg #[.bool H,.i S]] w
    fun e w'=>e=.returned (.agg #[.bool H,.i S])∧Below w.heap.size w w':=by
  go_enter Tryz.func25,Tryz.ntmps25
  go_wp2;refine bodyPost_ret (v:=.agg #[.bool H,.i S]) (by simp [results,Tryz.results25,go_sem]) rfl ?_;exact ⟨rfl,(((Below.refl _ _).alloc (Nat.le_refl _) _).alloc (by simp) _).alloc (by simp; omega) _⟩
theorem Tm (w:World) (H:Bool) (S:Int):Calls Tryz.prog 36 #[.agg #[.bool H,.i S],.agg #[.bool H,.i S]] w
    fun e w'=>e=.returned (.bool true)∧Below w.heap.size w w':=by
  go_enter Tryz.func36,Tryz.ntmps36
  go_wp2;go_ret;exact ⟨rfl,((Below.refl _ _).alloc (Nat.le_refl _) _).alloc (by simp) _⟩
theorem Mg (w:World) (F:Nat→Nat→Prop) (u:Value) (n:Nat) (f:Nat→Int) (H:Ints .i64 w F u n f) :
    Calls Tryz.prog 49 #[u] w fun e w'=>e=.returned (.bool (Dr n f))∧w'=w:=by
  obtain ⟨a,cap,rfl,hn,hr,-⟩:=H;have HR:=Ad hr;clear hr
  go_enter Tryz.func49,Tryz.ntmps49
  go_wp2
  go_loopw [3] (fun i wr=>wr=w∧∃ k:Nat,k≤n∧i=.i k∧∀ j,j<k→0≤f j∧f j≤255) (fun i _=>n-(intOf i).toNat)
  case atStart=>exact ⟨rfl,0,Nat.zero_le _,rfl,fun j hj=>absurd hj (Nat.not_lt_zero _)⟩
  case round =>
    obtain ⟨rfl,k,hk,rfl,hall⟩:=hrel;have HA:=Ad hall;clear hall
    by_cases hlt:k<n
    · have hlt':(k:Int)<(n:Int):=by omega
      obtain ⟨b,o,rfl,hc⟩:=HR.out k hlt
      by_cases hin:0≤f k∧f k≤255
      · have HI:=Ad (fun W=>Ha W (f k))
        rw [Bn hin] at HI;go_wp2_with fail;refine (An HI _).mono ?_;rintro e w1 ⟨rfl,rfl⟩;go_wp2
        go_round
        case rel=>exact ⟨trivial,k+1,by omega,by go_num,fun j hj=>by
          by_cases e:j=k
          · rw [e]; exact hin
          · exact HA.out j (by omega)⟩
        case measure=>simp [intOf]; omega
      · have HI:=Ad (fun W=>Ha W (f k))
        rw [Cu hin] at HI;have HE:=Ad (Ww hlt hin);go_wp2_with fail;refine (An HI _).mono ?_;rintro e w1 ⟨rfl,rfl⟩;go_wp2;go_ret;exact ⟨Ap HE.out.symm,rfl⟩
    · have hkn:k=n:=by omega
      subst hkn;have HE:=Ad (Tl HA.out)
      by_cases h20:k≤20
      · go_wp2
        go_ret;exact ⟨Ap (by rw [HE.out,decide_eq_true h20,decide_eq_true (by omega)]),rfl⟩
      · go_wp2
        go_ret;exact ⟨Ap (by rw [HE.out,decide_eq_false h20,decide_eq_false (by omega)]),rfl⟩
theorem Ow (w:World) (F:Nat→Nat→Prop) (u:Value) (n:Nat) (f:Nat→Int) (t:Int) (ht:t≤9223372036854775807) (H:Ints .i64 w F u n f) :
    Calls Tryz.prog 146 #[u,.i t] w fun e w'=>e=.returned (.i (Fj n f t))∧w'=w:=by
  have HO:=Ad (Mg w F u n f H);have HF:=Ad (fun W=>Q9 W t ht);obtain ⟨a,cap,rfl,hn,hr,-⟩:=H
  obtain ⟨ok,hok⟩:∃ ok,Hid (ok=Dr n f):=⟨_,rfl⟩
  rw [← hok.out] at HO;have HR:=Ad hr;clear hr;cases ok
  · have HE:Hid (Fj n f t=0):=if_neg (by rw [← hok.out]; simp)
    go_enter Tryz.func146,Tryz.ntmps146
    go_wp2_with fail;refine (An HO).mono ?_;rintro e w1 ⟨rfl,rfl⟩;go_wp2;go_ret;exact ⟨Az HE.out.symm,rfl⟩
  · by_cases h0:n=0
    · have HE:Hid (Fj n f t=0):=if_neg (by omega)
      subst h0
      go_enter Tryz.func146,Tryz.ntmps146
      go_wp2_with fail;refine (An HO).mono ?_;rintro e w1 ⟨rfl,rfl⟩;go_wp2;go_ret;exact ⟨Az HE.out.symm,rfl⟩
    · have HE:Hid (Fj n f t=f ((max t 0/64)%n).toNat):=if_pos ⟨hok.out.symm,by omega⟩
      have h20:=(Ov hok.out.symm).2
      obtain ⟨q,hq⟩:∃ q,Hid (q=max t 0/64):=⟨_,rfl⟩
      have q0:0≤q:=by rw [hq.out]; omega
      have q1:q≤9223372036854775807:=by rw [hq.out]; omega
      rw [← hq.out] at HE HF;have hm:q.tmod n=q%n:=Int.tmod_eq_emod_of_nonneg q0;have hm1:q%(n:Int)<n:=Int.emod_lt_of_pos _ (by omega);have hm0:0≤q%(n:Int):=Int.emod_nonneg _ (by omega)
      obtain ⟨i,hi⟩:∃ i:Nat,q%(n:Int)=i:=⟨(q%(n:Int)).toNat,by omega⟩
      rw [hi] at hm hm1 hm0 HE
      have hin:i<n:=by omega
      obtain ⟨b,o,rfl,hc⟩:=HR.out i hin
      have hz:¬ (n:Int)=0:=by omega
      clear hm1 hm0 hi hq h0 HR
      go_enter Tryz.func146,Tryz.ntmps146
      go_wp2_with fail;refine (An HO).mono ?_;rintro e w1 ⟨rfl,rfl⟩;go_wp2_with fail;refine (An HF _).mono ?_;rintro e w1 ⟨rfl,rfl⟩;go_wp2;go_ret;exact ⟨Az HE.out.symm,rfl⟩
theorem Qa (w:World) (F:Nat→Nat→Prop) (H:Bool) (S:Int) (u:Value) (n:Nat) (f:Nat→Int) (t v:Int) (ht:t≤9223372036854775807) (K:Ints .i64 w F u n f) :
    Calls Tryz.prog 124 #[.agg #[.bool H,.i S],u,.i t,.i v] w fun e w'=>e=.returned (.agg #[.bool (Gr v),.i (Eo H S n f t v)])∧Below w.heap.size w w':=by
  have L2:∀ o o2:Obj,Below w.heap.size w ((w.alloc o).alloc o2):=fun o o2=>((Below.refl _ _).alloc (Nat.le_refl _) _).alloc (by simp) _
  have HP:=Ad (fun (o o2:Obj)=>Ow ((w.alloc o).alloc o2) F u n f t ht (K.keep (Ab (L2 o o2) Aj) (fun _ _ _ x=>x)));obtain ⟨a,cap,rfl,hn,hr,-⟩:=K;clear hr;have m1:bits .and .i64 v 1=v%2:=Jx v
  obtain ⟨x,hx⟩:∃ x,Hid (x=Fj n f t):=⟨_,rfl⟩
  obtain ⟨h',hh⟩:∃ h',Hid (Gr v=h'):=⟨_,rfl⟩
  have hb:(v%2==1)=h':=hh.out
  obtain ⟨s',hs⟩:∃ s',Hid (Eo H S n f t v=s'):=⟨_,rfl⟩
  have e:(if (H || h')=true then x else S)=s':=by rw [← hs.out,Eo,← hh.out,← hx.out]
  rw [← hx.out] at HP;rw [hh.out,hs.out];clear hh hs hx
  cases H <;> cases h'
  · obtain rfl:S=s':=e
    go_enter Tryz.func124,Tryz.ntmps124
    go_wp2;refine bodyPost_ret (v:=.agg #[.bool false,.i S]) (by simp [results,Tryz.results124,go_sem]) rfl ?_;exact ⟨rfl,L2 _ _⟩
  all_goals
    obtain rfl:x=s':=e
    go_enter Tryz.func124,Tryz.ntmps124
    go_wp2_with (go_at_call 146; refine (An HP _ _).mono ?_; rintro e w1 ⟨rfl,rfl⟩)
    first
      | (refine bodyPost_ret (v:=.agg #[.bool true,.i x]) (by simp [results,Tryz.results124,go_sem]) rfl ?_
         exact ⟨rfl,L2 _ _⟩)
      | (refine bodyPost_ret (v:=.agg #[.bool false,.i x]) (by simp [results,Tryz.results124,go_sem]) rfl ?_
         exact ⟨rfl,L2 _ _⟩)
theorem Ri (w:World) (F:Nat→Nat→Prop) (H:Bool) (S:Int) (u:Value) (n:Nat) (f:Nat→Int) (t:Int) (ht:t≤9223372036854775807) (K:Ints .i64 w F u n f) :
    Calls Tryz.prog 120 #[.agg #[.bool H,.i S],u,.i t] w fun e w'=>e=.returned (.tuple #[.agg #[.bool H,.i (Ea H S n f t)],.i (Ig H S n f t)])∧Below w.heap.size w w':=by
  have L2:∀ o o2:Obj,Below w.heap.size w ((w.alloc o).alloc o2):=fun o o2=>((Below.refl _ _).alloc (Nat.le_refl _) _).alloc (by simp) _
  have HP:=Ad (fun (o o2:Obj)=>Ow ((w.alloc o).alloc o2) F u n f t ht (K.keep (Ab (L2 o o2) Aj) (fun _ _ _ x=>x)));obtain ⟨a,cap,rfl,hn,hr,-⟩:=K;clear hr;cases H
  · have HE:Hid (Ea false S n f t=S/2∧Ig false S n f t=S%2):=by show _∧_; simp [Ea,Ig]
    rw [HE.out.1,HE.out.2];have m1:bits .and .i64 S 1=S%2:=Jx S;clear HE
    go_enter Tryz.func120,Tryz.ntmps120
    go_wp2;refine bodyPost_ret (v:=.tuple #[.agg #[.bool false,.i (S/2)],.i (S%2)]) (by simp [results,Tryz.results120,go_sem]) rfl ?_;exact ⟨rfl,L2 _ _⟩
  · obtain ⟨x,hx⟩:∃ x,Hid (x=Fj n f t):=⟨_,rfl⟩
    have HE:Hid (Ea true S n f t=x∧Ig true S n f t=x%2):=by show _∧_; rw [hx.out]; simp [Ea,Ig]
    rw [HE.out.1,HE.out.2];have m1:bits .and .i64 x 1=x%2:=Jx x;rw [← hx.out] at HP;clear HE hx
    go_enter Tryz.func120,Tryz.ntmps120
    go_wp2_with (go_at_call 146; refine (An HP _ _).mono ?_; rintro e w1 ⟨rfl,rfl⟩)
    go_region
    all_goals (
      go_wp2;refine bodyPost_ret (v:=.tuple #[.agg #[.bool true,.i x],.i (x%2)]) (by simp [results,Tryz.results120,go_sem]) rfl ?_
      exact ⟨rfl,(L2 _ _).trans ⟨rfl,rfl,rfl,Nat.le_refl _,fun _ _=>rfl⟩⟩)
end Go.Proofs.YtgcmimcalmjaaaaGreatDoor
