import Derived.Test.YtijljlnooibbmaaGreatDoorA8
import Derived.Test.YtijljlnooibbmaaGreatDoorC3
import Derived.Test.YtijljlnooibbmaaGreatDoorAB
import Derived.RangeFuncNested
import Derived.RangeFuncBound
import Derived.RangeFuncCalls
import Derived.RangeFuncLeaves
import Derived.Shelf.Abstract
import Derived.OwnWalkIn
import Derived.TacticsInMore
import Derived.LoopNIn
import Derived.LoopIn
import Derived.Laws.Tables
import Derived.Deep.WholeRow
namespace Go.Proofs.YtijljlnooibbmaaGreatDoor
open Go.Proofs.Tryz
set_option linter.unusedVariables false
set_option linter.unusedSimpArgs false
open Go.RowKit Go.Shelf
attribute [local go_sem] Oper.semAt_some
theorem Mz (w:World) (t:Int) (h:t<=9223372036854775807):Calls prog 99 #[.i t] w fun e w'=>e=.returned (.i (max t 0/64))/\w'=w:=by
 by_cases ht:0<=t
 .have d64:t.tdiv 64=t/64:=Int.tdiv_eq_ediv_of_nonneg ht
  go_enter func99,ntmps99
  go_wp2
  all_goals (go_ret; exact ⟨A5 (by omega),rfl⟩)
 .go_enter func99,ntmps99
  go_wp2
  all_goals (go_ret; exact ⟨A5 (by omega),rfl⟩)
open Go.ChangeShapes Go.WideShapes Go.ChangeAt
structure Gj (W:World) (D:Nat->Nat->Prop) (v:Value) (mf:Nat) (lf:Nat->Nat) (fr:Nat->Nat->Int) (ns:Nat) (sm:Nat->Int) (nq:Nat) (rd:Nat->Int):Prop where
 ex:∃ u5 u6 u7,v=.agg #[u5,u6,u7]/\Cu W (D 4) u5 mf lf fr/\Bs W (D 5) u6 ns sm/\Bs W (D 6) u7 nq rd
def Dis (D:Nat->Nat->Prop):Prop:=∀ i j b,D i b->D j b->i=j
structure Aq where
 m:Nat
 ln:Nat->Nat
 f:Nat->Nat->Int
 np:Nat
 p:Nat->Int
 nr:Nat
 g:Nat->Int
 bank:Int
 A:Int
 X:Int
 S:Int
 Pc:Int
 Z:Bool
 N:Bool
 C:Bool
 I:Bool
 t:Int
 c:Int
 s:Int
 ad:Int
 pl:Int
 bl:Bool
 nt:Nat
 tb:Nat->Int
 nd:Nat
 dt:Nat->Int
 T:Int
 P:Int
 K:Int
 B:Int
 L:Int
 Q:Bool
 R:Bool
 hd:Bool
 sh:Int
 nmi:Bool
 st:Int
 mf:Nat
 lf:Nat->Nat
 fr:Nat->Nat->Int
 ns:Nat
 sm:Nat->Int
 nq:Nat
 rd:Nat->Int
@[reducible] def kR (d:Aq) (u0 u1 u2 u3 u4 u5 u6 u7:Value):Array Value:=#[u0,u1,u2,.int .i64 d.bank,.int .i64 d.A,.int .i64 d.X,.int .i64 d.S,.int .i64 d.Pc,.bool d.Z,.bool d.N,.bool d.C,.bool d.I,.int .i64 d.t,.int .i64 d.c,.int .i64 d.s,.int .i64 d.ad,.int .i64 d.pl,.bool d.bl,u3,u4,.int .i64 d.T,.int .i64 d.P,.int .i64 d.K,.int .i64 d.B,.int .i64 d.L,.bool d.Q,.bool d.R,.bool d.hd,.int .i64 d.sh,.bool d.nmi,.int .i64 d.st,u5,u6,u7]
structure Aw (W:World) (D:Nat->Nat->Prop) (v:Value) (d:Aq):Prop where
 ex:∃ u0 u1 u2 u3 u4 u5 u6 u7,v=.agg (kR d u0 u1 u2 u3 u4 u5 u6 u7)/\Cu W (D 0) u0 d.m d.ln d.f/\Bs W (D 1) u1 d.np d.p/\Bw W (D 2) (.agg #[u2,.i d.bank]) d.nr d.g d.bank/\Co W (D 3) (.agg (pR d.t d.c d.s d.ad d.pl d.bl u3 u4)) d.t d.c d.s d.ad d.pl d.bl d.nt d.tb d.nd d.dt/\Gj W D (.agg #[u5,u6,u7]) d.mf d.lf d.fr d.ns d.sm d.nq d.rd
section
variable {R:Nat->Nat->Prop} {W W':World} {D E:Nat->Nat->Prop} {v:Value} {d:Aq}
theorem Gj.keep {mf:Nat} {lf:Nat->Nat} {fr:Nat->Nat->Int} {ns:Nat} {sm:Nat->Int} {nq:Nat} {rd:Nat->Int} (H:Gj W D v mf lf fr ns sm nq rd) (hw:Wrote R W W') (hd:∀ i b o,4<=i->D i b->b<W.heap.size->¬ R b o):Gj W' D v mf lf fr ns sm nq rd:=by
 obtain ⟨u5,u6,u7,e,h5,h6,h7⟩:=H;exact ⟨u5,u6,u7,e,h5.keep hw (fun b o=>hd 4 b o (by decide)),h6.keep hw (fun b o=>hd 5 b o (by decide)),h7.keep hw (fun b o=>hd 6 b o (by decide))⟩
theorem Gj.mono {mf:Nat} {lf:Nat->Nat} {fr:Nat->Nat->Int} {ns:Nat} {sm:Nat->Int} {nq:Nat} {rd:Nat->Int} (H:Gj W D v mf lf fr ns sm nq rd) (hd:∀ i b,b<W.heap.size->D i b->E i b):Gj W E v mf lf fr ns sm nq rd:=by
 obtain ⟨u5,u6,u7,e,h5,h6,h7⟩:=H;exact ⟨u5,u6,u7,e,h5.mono (hd 4),h6.mono (hd 5),h7.mono (hd 6)⟩
theorem Aw.keep (H:Aw W D v d) (hw:Wrote R W W') (hd:∀ i b o,D i b->b<W.heap.size->¬ R b o):Aw W' D v d:=by
 obtain ⟨u0,u1,u2,u3,u4,u5,u6,u7,e,h0,h1,h2,h3,h4⟩:=H;exact ⟨u0,u1,u2,u3,u4,u5,u6,u7,e,h0.keep hw (hd 0),h1.keep hw (hd 1),h2.keep hw (hd 2),h3.keep hw (hd 3),h4.keep hw (fun i b o _=>hd i b o)⟩
theorem Aw.below (H:Aw W D v d) (L:Below W.heap.size W W'):Aw W' D v d:=H.keep (Aa L Aj) (fun _ _ _ _ _ x=>x)
theorem Aw.mono (H:Aw W D v d) (hd:∀ i b,b<W.heap.size->D i b->E i b):Aw W E v d:=by
 obtain ⟨u0,u1,u2,u3,u4,u5,u6,u7,e,h0,h1,h2,h3,h4⟩:=H;exact ⟨u0,u1,u2,u3,u4,u5,u6,u7,e,h0.mono (hd 0),h1.mono (hd 1),h2.mono (hd 2),h3.mono (hd 3),h4.mono hd⟩
theorem Aw.form (H:Aw W D v d):∃ x0 x1 x2 x3 x4 x5 x6 x7 x8 x9 x10 x11 x12 x13 x14 x15 x16 x17 x18 x19 x20 x21 x22 x23 x24 x25 x26 x27 x28 x29 x30 x31 x32 x33,v=.agg #[x0,x1,x2,x3,x4,x5,x6,x7,x8,x9,x10,x11,x12,x13,x14,x15,x16,x17,x18,x19,x20,x21,x22,x23,x24,x25,x26,x27,x28,x29,x30,x31,x32,x33]:=by
 obtain ⟨u0,u1,u2,u3,u4,u5,u6,u7,e,-⟩:=H;exact ⟨_,_,_,_,_,_,_,_,_,_,_,_,_,_,_,_,_,_,_,_,_,_,_,_,_,_,_,_,_,_,_,_,_,_,e⟩
end
def frN (t:Int):Int:=(t+15)/64
def Mr (m:Nat) (ln:Nat->Nat) (t:Int):Bool:=decide ((∀ i,i<m->ln i=48)/\(m:Int)=frN t)
theorem Y4 {m:Nat} {ln:Nat->Nat} {t:Int} {i:Nat} (hi:i<m) (h:¬ ln i=48):Mr m ln t=false:=decide_eq_false (fun x=>h (x.1 i hi))
theorem Vj {m:Nat} {ln:Nat->Nat} {t:Int} (h:∀ i,i<m->ln i=48):Mr m ln t=((m:Int)==frN t):=by
 by_cases e:(m:Int)=frN t
 .rw [Mr,decide_eq_true ⟨h,e⟩]; exact (beq_iff_eq.2 e).symm
 .rw [Mr,decide_eq_false (fun x=>e x.2)]; exact (beq_eq_false_iff_ne.2 e).symm
theorem Er {t c s ad pl:Int} {n:Nat} {f:Nat->Int} {m:Nat} {g:Nat->Int} (h:A1 t c s ad pl n f m g=true):0<=t/\t<=20000:=by
 unfold A1 at h;rw [Bool.and_eq_true] at h;exact (Dj _ _ _).1 h.1
def okLock (d:Aq):Bool:=Du d.np d.p && (B9 d.m d.ln d.f d.nr d.g d.bank && (I9 d.A d.X d.S d.Pc && (A1 d.t d.c d.s d.ad d.pl d.nt d.tb d.nd d.dt && (Ck d.T d.P d.K d.B d.L && (Cr d.sh 0 255 && ((d.t==d.T) && (Cr d.st 0 d.t && (Mr d.mf d.lf d.t && ((d.ns:Int)==d.t/16)))))))))
theorem As {w:World} {g:Nat} {old:Array Value} {t:TypeId} (hg:w.heap[g]?=some (.cells old t (0,0))) (cs:Array Value):Wrote (fun b _=>b=g) w (w.setRow g cs) :=
 ⟨rfl,rfl,rfl,by simp [World.setRow],fun k hk hn=>setRow_other _ _ _ _ (fun e=>hn 0 e),fun b o hb hn=>cell_setRow_other _ _ _ _ hn,fun b o hb=>by
  by_cases e:b=g
  .subst e
   rw [Au (setRow_heap _ _ _ _ _ _ hg),Au hg]
  .simp [World.frozen?,setRow_other _ _ _ _ e]⟩
theorem An:(prog.info? 41).map (·.size)=some 34:=by kernel_rfl
structure Jgb (W:World) (u0 u1 u2 u3 u4 u5 u6 u7:Value) (d:Aq):Prop where
 h0:∃ F,Bg .i64 W F u0 d.m d.ln d.f
 h1:∃ F,Ints .i64 W F u1 d.np d.p
 h2:∃ F,Ints .i64 W F u2 d.nr d.g
 h3:∃ F,Ints .i64 W F u3 d.nt d.tb
 h4:∃ F,Ints .i64 W F u4 d.nd d.dt
 h5:∃ F,Bg .i64 W F u5 d.mf d.lf d.fr
 h6:∃ F,Ints .i64 W F u6 d.ns d.sm
 h7:∃ F,Ints .i64 W F u7 d.nq d.rd
theorem Jgb.below {W W':World} {u0 u1 u2 u3 u4 u5 u6 u7:Value} {d:Aq} (H:Jgb W u0 u1 u2 u3 u4 u5 u6 u7 d) (lo:∀ F v m ln f,Bg .i64 W F v m ln f->∃ G,Bg .i64 W' G v m ln f) (l1:∀ F v n f,Ints .i64 W F v n f->∃ G,Ints .i64 W' G v n f):Jgb W' u0 u1 u2 u3 u4 u5 u6 u7 d :=
 ⟨H.h0.elim (fun F h=>lo F _ _ _ _ h),H.h1.elim (fun F h=>l1 F _ _ _ h),H.h2.elim (fun F h=>l1 F _ _ _ h),H.h3.elim (fun F h=>l1 F _ _ _ h),H.h4.elim (fun F h=>l1 F _ _ _ h),H.h5.elim (fun F h=>lo F _ _ _ _ h),H.h6.elim (fun F h=>l1 F _ _ _ h),H.h7.elim (fun F h=>l1 F _ _ _ h)⟩
theorem infoAt {P:Program} {ty:TypeId} {n:Nat} {cs:Array Value} (h:(P.info? ty).map (·.size)=some n) (hs:cs.size=n):(P.info? ty).map (·.size)=some cs.size:=by rw [hs]; exact h
theorem Aw.agg {W:World} {D:Nat->Nat->Prop} {v:Value} {d:Aq} (H:Aw W D v d):∃ cs,v=.agg cs/\cs.size=34/\cs.all (·.oneCell')=true:=by
 obtain ⟨u0,u1,u2,u3,u4,u5,u6,u7,e,h0,h1,h2,h3,h4⟩:=H;obtain ⟨a0,b0,rfl⟩:=h0.form;obtain ⟨a1,b1,rfl⟩:=h1.two;obtain ⟨a2,b2,e2⟩:=h2.two;obtain ⟨a3,b3,a4,b4,e3⟩:=h3.two;obtain ⟨v5,v6,v7,e4,h5,h6,h7⟩:=h4;obtain ⟨a5,b5,rfl⟩:=h5.form;obtain ⟨a6,b6,rfl⟩:=h6.two;obtain ⟨a7,b7,rfl⟩:=h7.two;simp only [Value.agg.injEq,Array.mk.injEq,List.cons.injEq,and_true,true_and] at e2 e3 e4;obtain ⟨rfl,rfl⟩:=e3;obtain ⟨rfl,rfl,rfl⟩:=e4;subst e2;exact ⟨_,e,rfl,by first | kernel_rfl | simp [Value.oneCell']⟩
set_option maxHeartbeats 4000000
set_option maxRecDepth 40000
theorem Oi {ln:Nat->Nat} {K:Nat}:∀ {m:Nat},(∀ i,i<m->ln i<=K)->Dw ln m<=m*K
 | 0,_=>by simp [Dw]
 | m+1,h=>by
  have h1:=Oi (m:=m) (fun i hi=>h i (by omega));have h2:=h m (by omega);simp only [Dw];rw [Nat.succ_mul]
  omega
theorem Lf {ln:Nat->Nat} {m:Nat} (hm:m<=1048576) (h:∀ i,i<m->ln i<=1048576):Dw ln m<=1099511627776:=by
 have h1:=Oi h;have h2:=Nat.mul_le_mul_right 1048576 hm
 omega
theorem Ve (w:World) (F:Nat->Nat->Prop) (u:Value) (m:Nat) (ln:Nat->Nat) (f:Nat->Nat->Int) (H:Bg .i64 w F u m ln f):Calls prog 55 #[.agg #[u]] w fun e w'=>∃ v,e=.returned (.agg #[v])/\Cu w' (fun b=>w.heap.size<=b/\b<w'.heap.size) v m ln f/\Below w.heap.size w w':=by
 obtain ⟨a,cap,rfl,hn,-,hc⟩:=H;have hps:Dw ln m<=1099511627776:=Lf hn (fun i hi=>by obtain ⟨b,off,u,-,-,a',c',-,h,-⟩:=hc i hi; exact h);have L0:Below w.heap.size w (((w.alloc (.cells #[.slice a m cap] 26)).alloc (.cells #[.slice none 0 0] 26)).alloc (.cells #[.slice none 0 0] 26)):=(((Below.refl _ _).alloc (Nat.le_refl _) _).alloc (by simp) _).alloc (by simp; omega) _;have B0:(((w.alloc (.cells #[.slice a m cap] 26)).alloc (.cells #[.slice none 0 0] 26)).alloc (.cells #[.slice none 0 0] 26)).heap[w.heap.size]?=some (.cells #[.slice a m cap] 26 (0,0)):=Az (Az (Ak w _ _) _) _
 have B1:(((w.alloc (.cells #[.slice a m cap] 26)).alloc (.cells #[.slice none 0 0] 26)).alloc (.cells #[.slice none 0 0] 26)).heap[w.heap.size+1]?=some (.cells #[.slice none 0 0] 26 (0,0)):=Az (by simpa using Ak (w.alloc (.cells #[.slice a m cap] 26)) #[.slice none 0 0] 26) _
 have B2:(((w.alloc (.cells #[.slice a m cap] 26)).alloc (.cells #[.slice none 0 0] 26)).alloc (.cells #[.slice none 0 0] 26)).heap[w.heap.size+1+1]?=some (.cells #[.slice none 0 0] 26 (0,0)):=by simpa using Ak ((w.alloc (.cells #[.slice a m cap] 26)).alloc (.cells #[.slice none 0 0] 26)) #[.slice none 0 0] 26
 have HL:=Ac hc;clear hc
 go_enter func55,ntmps55
 go_wp2;generalize ((w.alloc (.cells #[.slice a m cap] 26)).alloc (.cells #[.slice none 0 0] 26)).alloc (.cells #[.slice none 0 0] 26)=W0 at *
 go_loopw [4] (fun i wr=>∃ (q:Nat) (gb cp:Nat->Nat) (ov:Value),q<=m/\i=.i q/\SG wr (w.heap.size+3) ov q gb cp ln f/\wr.heap[w.heap.size]?=some (.cells #[.slice a m cap] 26 (0,0))/\wr.heap[w.heap.size+1]?=some (.cells #[.slice none 0 0] 26 (0,0))/\wr.heap[w.heap.size+1+1]?=some (.cells #[ov] 26 (0,0))/\Below w.heap.size w wr) (fun i _=>m-(intOf i).toNat)
 case atStart=>exact ⟨0,fun _=>0,fun _=>0,.slice none 0 0,Nat.zero_le _,rfl,SG.nil _ _ _ _ _ _,B0,B1,B2,L0⟩
 case round =>
  obtain ⟨q,gb,cp,ov,hq,rfl,hG,b0,b1,b2,hL⟩:=hrel;clear B0 B1 B2 L0;have hz:=Ad b2
  by_cases hqm:q<m
  .have hqm':(q:Int)<(m:Int):=by omega
   obtain ⟨b,off,u',rfl,hcell,hI⟩:=HL.out q hqm;have hbl:=block_lt_of_cell hcell;have hcell':wr.cell? ⟨b,off+q,none⟩=some u':=(hL.cell hbl).trans hcell;have hI':=hI.keep (Aa hL Aj) (fun _ _ _ x=>x)
   have wq:IntKind.i64.wrap (q:Int)=q:=by rw [IntKind.wrap_i64]; omega
   have hqi:(0:Int)<=(q:Int):=by omega
   have hob:∀ g,ov.ownBlock=some g->w.heap.size+3<=g/\g<wr.heap.size:=fun g hg=>Df hG.own hg
   obtain ⟨S,hS⟩:∃ S,Hid (S=wr.heap.size):=⟨_,rfl⟩
   obtain ⟨ua,ux,rfl,un,ur,uF⟩:=id hI';have c0:=Af b0;go_upto_region 5 with (fail);clear c0
   refine Bp [some 13,some 14,some 15,some 16,some 17,some 18,some 19,some 20,some 21,some 22,some 23,some 24,none] (by kernel_rfl) (by kernel_rfl) (by kernel_rfl) (by kernel_rfl) (by simp [slotsOf])
    (fun j b' _=>(j=10/\ov.ownBlock=some b')\/(j=12/\b'=w.heap.size+1+1))
    (fun i v W=>match i with
     | 0=>v=(pt (w.heap.size+1+1) 0)
     | 1=>v=ov
     | 2=>∃ gE,v=.sl gE 0 0 0/\W.heap[gE]?=some (.cells #[] 3 (0,0))/\S<=gE
     | 3=>v=(pt w.heap.size 0)
     | 4=>v=.sl b off m cap
     | 5=>v=.i (q:Int)
     | 6=>v=.pointer (some ⟨b,off+q,none⟩)
     | 7=>v=.slice ua (ln q) ux
     | 8=>∃ gN cN,v=.sl gN 0 (ln q) cN/\Row W (w.heap.size+3) gN (ln q) cN (f q)/\S<=gN
     | 9=>∃ gB gN cN,v=.sl gB 0 1 1/\W.heap[gB]?=some (.cells #[.sl gN 0 (ln q) cN] 27 (0,0))/\Row W (w.heap.size+3) gN (ln q) cN (f q)/\S<=gN/\S<=gB
     | 10=>∃ g' c' gb' cp',v=.sl g' 0 (q+1) c'/\SG W (w.heap.size+3) v (q+1) gb' cp' ln f
     | 11=>v=(pt (w.heap.size+1+1) 0)
     | _=>∃ g' c' gb' cp',W.heap[w.heap.size+1+1]?=some (.cells #[.sl g' 0 (q+1) c'] 26 (0,0))/\SG W (w.heap.size+3) (.sl g' 0 (q+1) c') (q+1) gb' cp' ln f) ?_ ?_ ?_
   .intro i j o v W W' hij ho hnw hW h
    have far:∀ (g k:Nat),S<=g->¬ ((j=10/\ov.ownBlock=some g)\/(j=12/\g=w.heap.size+1+1)):=fun g k hg hR=>by
     have:=hS.out
     rcases hR with ⟨-,h⟩ | ⟨-,h⟩
     .have:=hob _ h; omega
     .omega
    match i,ho,hnw,hij,h with
    | 0,_,_,_,h=>exact h
    | 1,_,_,_,h=>exact h
    | 2,_,_,_,⟨gE,h1,h2,h3⟩=>exact ⟨gE,h1,Al h2 hW (fun o=>far gE o h3),h3⟩
    | 3,_,_,_,h=>exact h
    | 4,_,_,_,h=>exact h
    | 5,_,_,_,h=>exact h
    | 6,_,_,_,h=>exact h
    | 7,_,_,_,h=>exact h
    | 8,_,_,_,⟨gN,cN,h1,h2,h3⟩=>exact ⟨gN,cN,h1,h2.keep hW (fun o=>far gN o h3),h3⟩
    | 9,_,_,_,⟨gB,gN,cN,h1,h2,h3,h4,h5⟩=>exact ⟨gB,gN,cN,h1,Al h2 hW (fun o=>far gB o h5),h3.keep hW (fun o=>far gN o h4),h4,h5⟩
    | 10,_,_,hij,⟨g',c',gb',cp',h1,h2⟩ =>
     refine ⟨g',c',gb',cp',h1,h2.keep hW (fun g o hg hR=>?_) (fun i o hi hR=>?_)⟩
     .rcases hR with ⟨e,-⟩ | ⟨-,e⟩
      .exact hij e.symm
      .have:=Df h2.own hg; omega
     .rcases hR with ⟨e,-⟩ | ⟨-,e⟩
      .exact hij e.symm
      .have:=(h2.rows i hi).parts.1; omega
    | 11,_,_,_,h=>exact h
    | 12,ho,hnw,hij,⟨g',c',gb',cp',h1,h2⟩ =>
     cases ho
     by_cases e10:j=10
     .subst e10
      cases hnw.symm.trans (show A0 _ 10=true by kernel_rfl)
     .have no:∀ (b' k:Nat),¬ ((j=10/\ov.ownBlock=some b')\/(j=12/\b'=w.heap.size+1+1)):=fun b' k hR=>by rcases hR with ⟨e,-⟩ | ⟨e,-⟩ <;> omega
      exact ⟨g',c',gb',cp',Al h1 hW (fun o=>no _ o),h2.keep hW (fun g o _=>no g o) (fun i o _=>no _ o)⟩
    | n+13,ho,_,_,_=>simp at ho
   .intro i o a' W K ho F L hw hK
    have hS':=hS.out;have t1:=F.get (t:=1) (v:=(pt w.heap.size 0)) (by decide) rfl;have t3:=F.get (t:=3) (v:=(pt (w.heap.size+1+1) 0)) (by decide) rfl;have t4:=F.get (t:=4) (v:=.i (q:Int)) (by decide) rfl
    have low:∀ (g j:Nat),g<w.heap.size+1+1->¬ ((j=10/\ov.ownBlock=some g)\/(j=12/\g=w.heap.size+1+1)):=fun g j hg hR=>by
     rcases hR with ⟨-,h⟩ | ⟨-,h⟩
     .have:=hob _ h; omega
     .omega
    have LW:Below w.heap.size w W:=hL.trans (L.below hL.size (fun g k hg ⟨j,_,_,_,_,hR⟩=>low g j (by omega) hR));have r0:=Af (Al b0 L (fun k ⟨j,_,_,_,_,hR⟩=>low _ j (by omega) hR));have rc:W.cell? ⟨b,off+q,none⟩=some (.slice ua (ln q) ux):=(LW.cell hbl).trans hcell
    have WS:S<=W.heap.size:=by have:=L.size; omega
    match i with
    | 0 =>
     cases ho;go_simp;exact Hk hK rfl
    | 1 =>
     cases ho;have q0:tv a' 13=_:=Hr hw 0
     have r2:=Af (Al b2 L (fun k ⟨j,oj,hj,hoj,hwj,hR⟩=>by
      rcases hR with ⟨-,h⟩ | ⟨rfl,-⟩
      .have:=hob _ h; omega
      .simp only [Sg,Sh,Si,Option.some.injEq] at hoj
       subst hoj
       cases hwj.symm.trans (show A0 _ 1=true by kernel_rfl)))
     go_simp;exact Hk hK rfl
    | 2 =>
     cases ho;go_simp;exact hK _ _ ((Wrote.refl _ W).alloc _) ⟨_,rfl,Ak W #[] 3,WS⟩
    | 3 =>
     cases ho;go_simp;exact Hk hK rfl
    | 4 =>
     cases ho;have q0:tv a' 16=_:=Hr hw 3;go_simp;exact Hk hK rfl
    | 5 =>
     cases ho;go_simp;exact Hk hK rfl
    | 6 =>
     cases ho;have q0:tv a' 17=_:=Hr hw 4;have q1:tv a' 18=_:=Hr hw 5;go_simp;exact Hk hK rfl
    | 7 =>
     cases ho;have q0:tv a' 19=_:=Hr hw 6;go_simp;exact Hk hK rfl
    | 8 =>
     cases ho;obtain ⟨gE,q0,q1,q2⟩:∃ gE,a'.tmps[15]?.getD undef=.sl gE 0 0 0/\W.heap[gE]?=some (.cells #[] 3 (0,0))/\S<=gE:=Hr hw 2;have q3:tv a' 20=_:=Hr hw 7;refine Jq W (.tmp 15) (.tmp 20) rfl gE (by simpa [Act.eval] using q0) q1 (w.heap.size+3) (by omega) _ _ (ln q) (f q) (by simpa [Act.eval] using q3) (hI.keep (Aa LW Aj) (fun _ _ _ x=>x)) ?_;intro gN cN W' hR hB hat;exact hK _ _ (Aa hB _) ⟨gN,cN,rfl,hR,by rcases hat with h | h <;> omega⟩
    | 9 =>
     cases ho;obtain ⟨gN,cN,q0,q1,q2⟩:∃ gN cN,a'.tmps[21]?.getD undef=.sl gN 0 (ln q) cN/\Row W (w.heap.size+3) gN (ln q) cN (f q)/\S<=gN:=Hr hw 8;go_simp;exact hK _ _ ((Wrote.refl _ W).alloc _) ⟨_,gN,cN,rfl,Ak W #[.sl gN 0 (ln q) cN] 27,q1.below ((Below.refl _ _).alloc (Nat.le_refl _) _),q2,WS⟩
    | 10 =>
     cases ho;have q0:tv a' 14=_:=Hr hw 1;obtain ⟨gB,gN,cN,q1,q2,q3,q4,q5⟩:∃ gB gN cN,a'.tmps[22]?.getD undef=.sl gB 0 1 1/\W.heap[gB]?=some (.cells #[.sl gN 0 (ln q) cN] 27 (0,0))/\Row W (w.heap.size+3) gN (ln q) cN (f q)/\S<=gN/\S<=gB:=Hr hw 9
     have hG':=hG.keep L (fun g k hg ⟨j,oj,hj,hoj,hwj,hR⟩=>by
      rcases hR with ⟨e,-⟩ | ⟨rfl,-⟩
      .exact hj e
      .simp only [Sg,Sh,Si,Option.some.injEq] at hoj
       subst hoj
       cases hwj.symm.trans (show A0 _ 10=true by kernel_rfl)) (fun i k hi ⟨j,oj,hj,hoj,hwj,hR⟩=>by
      rcases hR with ⟨e,-⟩ | ⟨rfl,-⟩
      .exact hj e
      .simp only [Sg,Sh,Si,Option.some.injEq] at hoj
       subst hoj
       cases hwj.symm.trans (show A0 _ 10=true by kernel_rfl))
     refine Vd W (.tmp 14) (.tmp 22) rfl (w.heap.size+3) ov q _ (by simpa [Act.eval] using q0) hG'.own (by omega) (by omega) gB (.sl gN 0 (ln q) cN) rfl (by simpa [Act.eval] using q1) (Af q2 0) ?_;intro g' c' W' own' hB hat;exact hK _ _ (hB.mono (fun b' k _ h=>Or.inl ⟨rfl,h⟩)) ⟨g',c',_,_,rfl,hG'.push hB own' hat q3 (fun e=>by have:=hob _ e; omega) (fun i hi e=>by have:=(hG.rows i hi).parts.2.1; omega) (by omega)⟩
    | 11 =>
     cases ho;go_simp;exact Hk hK rfl
    | 12 =>
     cases ho;have q0:tv a' 24=_:=Hr hw 11;obtain ⟨g',c',gb',cp',q1,q2⟩:∃ g' c' gb' cp',a'.tmps[23]?.getD undef=.sl g' 0 (q+1) c'/\SG W (w.heap.size+3) (a'.tmps[23]?.getD undef) (q+1) gb' cp' ln f:=Hr hw 10;rw [q1] at q2
     have r2:=Al b2 L (fun k ⟨j,oj,hj,hoj,hwj,hR⟩=>by
      rcases hR with ⟨-,h⟩ | ⟨e,-⟩
      .have:=hob _ h; omega
      .exact hj e)
     have c2:=Af r2;have f2:=Au r2;have HQ:=Ac q2;have HB:=Ac (Am (o:=0) r2 (.sl g' 0 (q+1) c'));clear q2 r2;go_simp;refine hK undef _ (Wrote.setCell (Wrote.refl _ W) (fun _=>Or.inr ⟨rfl,rfl⟩) _) ⟨g',c',gb',cp',HB.out,HQ.out.keep (Wrote.setCell (R:=fun b' _=>b'=w.heap.size+1+1) (Wrote.refl _ W) (fun _=>rfl) _) (fun g o hg (e:g=_)=>by have:=Df HQ.out.own hg; omega) (fun i o hi (e:_=_)=>by have:=(HQ.out.rows i hi).parts.1; omega)⟩
    | n+13=>simp at ho
   .intro a' W F L hφ
    obtain ⟨g',c',gb',cp',p1,p2⟩:∃ g' c' gb' cp',W.heap[w.heap.size+1+1]?=some (.cells #[.sl g' 0 (q+1) c'] 26 (0,0))/\SG W (w.heap.size+3) (.sl g' 0 (q+1) c') (q+1) gb' cp' ln f:=Hd hφ 12
    have low:∀ (g k:Nat),g<w.heap.size+1+1->¬ (∃ j:Nat,(j=10/\ov.ownBlock=some g)\/(j=12/\g=w.heap.size+1+1)):=fun g k hg ⟨j,hR⟩=>by
     rcases hR with ⟨-,h⟩ | ⟨-,h⟩
     .have:=hob _ h; omega
     .omega
    have LW:Below w.heap.size w W:=hL.trans (L.below hL.size (fun g k hg=>low g k (by omega)));have r0:=Al b0 L (fun k=>low _ k (by omega));have r1:=Al b1 L (fun k=>low _ k (by omega));rw [F.same,show slotsOf [some 13,some 14,some 15,some 16,some 17,some 18,some 19,some 20,some 21,some 22,some 23,some 24,none]=[13,14,15,16,17,18,19,20,21,22,23,24] from rfl];simp only [List.foldl_cons,List.foldl_nil];generalize a'.tmps[13]?.getD undef=s13;generalize a'.tmps[14]?.getD undef=s14;generalize a'.tmps[15]?.getD undef=s15;generalize a'.tmps[16]?.getD undef=s16;generalize a'.tmps[17]?.getD undef=s17;generalize a'.tmps[18]?.getD undef=s18;generalize a'.tmps[19]?.getD undef=s19;generalize a'.tmps[20]?.getD undef=s20;generalize a'.tmps[21]?.getD undef=s21;generalize a'.tmps[22]?.getD undef=s22
    generalize a'.tmps[23]?.getD undef=s23;generalize a'.tmps[24]?.getD undef=s24;have HP:=Ac (And.intro p1 (And.intro p2 (And.intro r0 (And.intro r1 LW))));clear hφ L F p1 p2 r0 r1 LW hG b0 b1 b2 hL hcell hcell' hI hI' ur uF HL;rename_i KK hKK;refine hKK _ _ ?_;go_simp;go_wp2;go_roundw
    case rel=>exact ⟨q+1,gb',cp',_,by omega,by go_num,HP.out.2.1,HP.out.2.2.1,HP.out.2.2.2.1,HP.out.1,HP.out.2.2.2.2⟩
    case measure=>simp [intOf]; omega
  .have hqm':¬ (q:Int)<(m:Int):=by omega
   obtain rfl:q=m:=by omega
   obtain ⟨oa,oc,hof⟩:∃ oa oc,ov=.slice oa q oc:=by
    rcases hG.own.2 with ⟨e,e0⟩ | ⟨g,c,cur,hv,-⟩
    .have:q=0:=by simpa using e0
     exact ⟨none,0,by rw [e,this]⟩
    .exact ⟨_,_,hv⟩
   subst hof;have c0:=Af b0;have c1:=Af b1;have c2:=Af b2;have f1:=Au b1;have HP:=Ac (And.intro hG hL);clear hG b0 b1 b2 hL HL;go_wp2;refine bodyPost_ret (v:=.agg #[.slice oa q oc]) (by simp [results,results55,go_sem,c1]) rfl ?_;have WW:=Wrote.setCell (b:=w.heap.size+1) (o:=0) (R:=fun b _=>b=w.heap.size+1) (Wrote.refl _ wr) (fun _=>rfl) (.slice oa q oc);refine ⟨_,rfl,(HP.out.1.keep WW (fun g o hg (e:g=_)=>by have:=Df HP.out.1.own hg; omega) (fun i o hi (e:_=_)=>by have:=(HP.out.1.rows i hi).parts.1; omega)).on (fun b h1 h2=>⟨by omega,h2⟩) hps,HP.out.2.trans (WW.below HP.out.2.size (fun b o hb (e:b=_)=>by omega))⟩
theorem Jeq (w:World) (F:Nat->Nat->Prop) (u:Value) (m:Nat) (ln:Nat->Nat) (f:Nat->Nat->Int) (H:Bg .i64 w F u m ln f):Calls prog 58 #[u] w fun e w'=>∃ ov gb cp,e=.returned ov/\SG w' w.heap.size ov m gb cp ln f/\Below w.heap.size w w':=by
 obtain ⟨a,cap,rfl,hn,-,hc⟩:=H;have L0:Below w.heap.size w (w.alloc (.cells #[] 27)):=(Below.refl _ _).alloc (Nat.le_refl _) _;have B0:=Ak w #[] 27;have HL:=Ac hc;clear hc
 go_enter func58,ntmps58
 go_wp2;generalize w.alloc (.cells #[] 27)=W0 at *
 go_loopw [3,4] (fun ov i wr=>∃ (q:Nat) (gb cp:Nat->Nat),q<=m/\i=.i q/\SG wr w.heap.size ov q gb cp ln f/\Below w.heap.size w wr) (fun _ i _=>m-(intOf i).toNat)
 case atStart=>exact ⟨0,fun _=>0,fun _=>0,Nat.zero_le _,rfl,SG.start B0 (Nat.le_refl _) _ _ _ _,L0⟩
 case round =>
  obtain ⟨q,gb,cp,hq,rfl,hG,hL⟩:=hrel;clear B0 L0
  by_cases hqm:q<m
  .have hqm':(q:Int)<(m:Int):=by omega
   obtain ⟨b,off,u',rfl,hcell,hI⟩:=HL.out q hqm;have hbl:=block_lt_of_cell hcell;obtain ⟨ua,ux,rfl,un,ur,uF⟩:=id hI;have LA:Below w.heap.size w (wr.alloc (.cells #[] 3)):=hL.alloc hL.size _;have ca:(wr.alloc (.cells #[] 3)).cell? ⟨b,off+q,none⟩=some (.slice ua (ln q) ux):=(LA.cell hbl).trans hcell;have hE:=Ak wr #[] 3;have GA:=Ac (hG.below ((Below.refl _ wr).alloc (Nat.le_refl _) (.cells #[] 3)))
   have hob:∀ g,u3.ownBlock=some g->w.heap.size<=g/\g<wr.heap.size:=fun g hg=>Df hG.own hg
   have hgb:∀ i,i<q->gb i<wr.heap.size:=fun i hi=>(hG.rows i hi).parts.2.1
   have hLs:=hL.size
   have wq:IntKind.i64.wrap (q:Int)=q:=by rw [IntKind.wrap_i64]; omega
   have hsz:(wr.alloc (.cells #[] 3)).heap.size=wr.heap.size+1:=by simp
   have HSZ:=Ac hsz;clear hG hcell hsz;go_wp2_with (at_builtin; refine Fe _ rfl _ _ rfl wr.heap.size rfl hE w.heap.size hLs F (.slice ua (ln q) ux) (ln q) (f q) rfl (hI.keep (Aa LA Aj) (fun _ _ _ x=>x)) ?_);intro gN cN W2 RN L2 hat
   have hgN:wr.heap.size<=gN:=by have:=HSZ.out; rcases hat with h | h <;> omega
   replace L2:Below (wr.alloc (.cells #[] 3)).heap.size (wr.alloc (.cells #[] 3)) W2:=by rw [HSZ.out]; exact L2
   have G2:=GA.out.below L2;have LB:=Ah LA L2;clear GA LA L2 hat HSZ ca hE;have LX:Below W2.heap.size W2 (W2.alloc (.cells #[.sl gN 0 (ln q) cN] 27)):=(Below.refl _ _).alloc (Nat.le_refl _) _;have hB:=Af (Ak W2 #[.sl gN 0 (ln q) cN] 27) 0;have G3:=Ac (G2.below LX);have R3:=Ac (RN.below LX);have LC:=Ac (Ah LB LX);clear G2 RN LB LX;go_wp2_with (at_builtin; refine Fx _ rfl _ _ rfl w.heap.size u3 q _ rfl G3.out.own (by omega) LC.out.size W2.heap.size (.sl gN 0 (ln q) cN) rfl rfl hB ?_);intro g' c' W4 own' hW hat';have GN:=Ac (G3.out.push hW own' (by simpa using hat') R3.out (fun e=>by have:=hob _ e; omega) (fun i hi e=>by have:=hgb i hi; omega) (by omega));have LD:=LC.out.trans (hW.below LC.out.size (fun b o hb (e:u3.ownBlock=some b)=>by have:=hob _ e; omega));clear G3 R3 LC own' hW hat' hB;go_wp2;go_roundw
   case rel=>exact ⟨q+1,_,_,by omega,by go_num,GN.out,LD⟩
   case measure=>simp [intOf]; omega
  .have hqm':¬ (q:Int)<(m:Int):=by omega
   obtain rfl:q=m:=by omega
   have HP:=Ac (And.intro hG hL);clear hG hL HL;go_wp2;go_ret
   first | exact ⟨_,gb,cp,rfl,HP.out.1,HP.out.2⟩ | exact ⟨_,rfl,⟨gb,cp,HP.out.1⟩,HP.out.2⟩
end Go.Proofs.YtijljlnooibbmaaGreatDoor
