import Derived.Test.YtjnjnppongdhgaaGreatNA
import Derived.Test.YtjnjnppongdhgaaGreatCB
import Derived.Test.YtjnjnppongdhgaaGreatKD
namespace Go.Proofs.YtjnjnppongdhgaaGreat
open Go.ChangeShapes Go.WideShapes Go.ChangeAt Go.RowKit
theorem Iu {w w':World} {base size n:Nat} {e:TypeId} {v:Value} {xs:List Value} (h:w.ownsRow base e size v n xs) (hb:∀ k,v.ownBlock=some k→w'.heap[k]?=w.heap[k]?):w'.ownsRow base e size v n xs:=by
 obtain ⟨h1,h2⟩:=h;refine ⟨h1,?_⟩
 rcases h2 with h | ⟨g,cap,cur,rfl,hbg,hg,r⟩
 ·exact .inl h
 ·exact .inr ⟨g,cap,cur,rfl,hbg,(hb g rfl).trans hg,r⟩
structure E8 (w:World) (lo q:Nat) (gb:Nat→Nat) (F:Nat→Nat→Int):Prop where
 rows:∀ i,i<q→Bu .i64 w (some ⟨gb i,0,none⟩) 256 (F i)
 free:∀ i,i<q→∀ o,w.frozen? ⟨gb i,o,none⟩=false
 low:∀ i,i<q→lo≤gb i∧gb i<w.heap.size
 inj:∀ i j,i<q→j<q→i≠j→gb i≠gb j
theorem E8.keep {w w':World} {lo q:Nat} {gb:Nat→Nat} {F:Nat→Nat→Int} (h:E8 w lo q gb F) (hs:w.heap.size≤w'.heap.size) (hb:∀ i,i<q→w'.heap[gb i]?=w.heap[gb i]?):E8 w' lo q gb F :=
 ⟨fun i hi j hj=>by
  obtain ⟨b,off,e,hc⟩:=h.rows i hi j hj;simp only [Option.some.injEq,Addr.mk.injEq,and_true] at e;obtain ⟨rfl,rfl⟩:=e
  exact ⟨_,_,rfl,(World.cell?_of_block (a:=⟨gb i,0+j,none⟩) (hb i hi)).trans hc⟩,fun i hi o=>(World.frozen?_of_block (a:=⟨gb i,o,none⟩) (hb i hi)).trans (h.free i hi o),fun i hi=>⟨(h.low i hi).1,Nat.lt_of_lt_of_le (h.low i hi).2 hs⟩,h.inj⟩
theorem E8.snoc {w:World} {lo q g:Nat} {gb:Nat→Nat} {F:Nat→Nat→Int} (h:E8 w lo q gb F) (hr:Bu .i64 w (some ⟨g,0,none⟩) 256 (F q)) (hf:∀ o,w.frozen? ⟨g,o,none⟩=false) (hl:lo≤g) (hg:g<w.heap.size) (hn:∀ i,i<q→gb i≠g):E8 w lo (q+1) (fun i=>if i=q then g else gb i) F:=by
 refine ⟨fun i hi=>?_,fun i hi o=>?_,fun i hi=>?_,fun i j hi hj hij=>?_⟩
 ·by_cases e:i=q
  ·subst e; simpa using hr
  ·simpa [e] using h.rows i (by omega)
 ·by_cases e:i=q
  ·subst e; simpa using hf o
  ·simpa [e] using h.free i (by omega) o
 ·by_cases e:i=q
  ·subst e; simpa using ⟨hl,hg⟩
  ·simpa [e] using h.low i (by omega)
 ·by_cases e:i=q
  ·subst e
   have hne:¬ j=i:=fun x=>hij x.symm
   simpa [hne] using fun x=>hn j (by omega) x.symm
  ·by_cases e2:j=q
   ·subst e2
    simpa [e] using hn i (by omega)
   ·simpa [e,e2] using h.inj i j (by omega) (by omega) hij
def Md (q:Nat) (gb cp:Nat→Nat):List Value:=(List.range q).map fun i=>.slice (some ⟨gb i,0,none⟩) 256 (cp i)
theorem Vp {q:Nat} {gb cp:Nat→Nat} {i:Nat} (h:i<q):(Md q gb cp)[i]?=some (.slice (some ⟨gb i,0,none⟩) 256 (cp i)):=by simp [Md,h]
theorem Tp (q g c:Nat) (gb cp:Nat→Nat):Md (q+1) (fun i=>if i=q then g else gb i) (fun i=>if i=q then c else cp i)=Md q gb cp++[.slice (some ⟨g,0,none⟩) 256 c]:=by
 unfold Md;rw [List.range_succ,List.map_append]
 congr 1
 ·apply List.map_congr_left
  intro i hi;have:i<q:=List.mem_range.1 hi
  simp [show ¬ i=q by omega]
 ·simp
theorem Tq {w:World} {base lo q go co:Nat} {t:TypeId} {gb cp:Nat→Nat} {F:Nat→Nat→Int} (h:E8 w lo q gb F) (ho:w.ownsRow base t 1 (.slice (some ⟨go,0,none⟩) q co) q (Md q gb cp)) (hlo:lo≤go) (hn:∀ i,i<q→gb i≠go) (hq:q≤8) :
  Cr w lo (.slice (some ⟨go,0,none⟩) q co) q (fun i=>some ⟨gb i,0,none⟩) (fun _=>256) cp F:=by
 have hF:∀ i b o,Ce (some ⟨gb i,0,none⟩) 256 b o→b=gb i:=fun i b o hF=>by
  obtain ⟨off,e,_⟩:=hF;simp only [Option.some.injEq,Addr.mk.injEq,and_true] at e;exact e.1.symm
 refine ⟨⟨⟨_,_,rfl,by omega,fun i hi'=>⟨go,0,rfl,?_,fun j hj hf=>?_⟩⟩,fun i hi' b o hf=>?_,fun i j hi' hj hij b o h1 h2=>?_,by rw [Vo]; omega⟩,fun i hi'=>h.rows i hi',fun i hi' b o hf=>?_,fun a cap e b o hf=>?_,fun i hi'=>by omega⟩
 ·rw [Nat.zero_add,ho.cellAt i (by omega),Vp hi']
 ·have:=hF j _ _ hf
  exact hn j hj this.symm
 ·have e:=hF i _ _ hf
  subst e;exact ⟨(h.low i hi').2,h.free i hi' o⟩
 ·have:=hF i _ _ h1
  have:=hF j _ _ h2;exact h.inj i j hi' hj hij (by omega)
 ·have:=hF i _ _ hf
  have:=(h.low i hi').1
  omega
 ·cases e
  obtain ⟨off,e,_⟩:=hf;simp only [Option.some.injEq,Addr.mk.injEq,and_true] at e
  omega
set_option linter.unusedVariables false
set_option linter.unusedSimpArgs false
theorem Yw (x:Int):1≤opLn x∧opLn x≤3:=by
 have key:∀ i:Nat,i<30→1≤Dh.getD i 1∧Dh.getD i 1≤3:=by decide
 unfold opLn
 by_cases h:0≤x∧x≤29
 ·rw [if_pos h]
  exact key x.toNat (by omega)
 ·rw [if_neg h]
  omega
structure Bh where
 A:Int
 X:Int
 S:Int
 Pc:Int
 Z:Bool
 N:Bool
 C:Bool
 I:Bool
def Bh.v (c:Bh):Value:=.agg (cR c.A c.X c.S c.Pc c.Z c.N c.C c.I)
def setAc (c:Bh) (x:Int):Bh:={ c with A:=x%256,Z:=x%256==0,N:=decide (127<x%256) }
def Tc (c:Bh) (x:Int):Bh:={ c with X:=x%256,Z:=x%256==0,N:=decide (127<x%256) }
def addC (c:Bh) (v:Int):Bh:={ setAc c ((c.A%256+v%256+Bb c.C)%256) with C:=decide (255<c.A%256+v%256+Bb c.C) }
def Jbd (c:Bh) (v:Int):Bh:={ setAc c ((c.A%256-v%256-1+Bb c.C)%256) with C:=decide (0≤c.A%256-v%256-1+Bb c.C) }
def Jbe (c:Bh) (v:Int):Bh:={ c with Z:=(c.A%256-v%256)%256==0,N:=decide (127<(c.A%256-v%256)%256),C:=decide (v%256≤c.A%256) }
def Ih (op:Int):Bool:=decide (op=1∨op=2∨op=14∨op=4∨op=29∨op=5∨op=6∨op=7∨op=8∨op=9∨op=10∨op=11∨op=12∨op=13)
def aluC (c:Bh) (op arg v:Int):Bh :=
 if op=1 then setAc c arg else if op=2∨op=14 then setAc c v else if op=4 then addC c arg else if op=29 then addC c v else if op=5 then Jbd c arg
 else if op=6 then setAc c (bits .and .i64 (c.A%256) (arg%256)) else if op=7 then setAc c (bits .or .i64 (c.A%256) (arg%256)) else if op=8 then setAc c (bits .xor .i64 (c.A%256) (arg%256))
 else if op=9 then Jbe c arg else if op=10 then Tc c c.A else if op=11 then setAc c c.X else if op=12 then Tc c (c.X%256+1) else if op=13 then Tc c (c.X%256-1) else c
def D7 (g:Nat→Int) (S:Int):Int:=g (256+(S+1)%256).toNat%256
def No (g:Nat→Int) (c:Bh):Bh:={ c with S:=((c.S+1)%256+1)%256,Pc:=D7 g c.S%256+256*(D7 g ((c.S+1)%256)%256) }
def nextC (c:Bh) (op:Int):Bh:={ c with Pc:=(c.Pc+opLn op)%65536 }
def E5 (g:Nat→Int) (c:Bh) (op arg v:Int):Bh :=
 if Ih op=true then aluC (nextC c op) op arg v else if op=16 then (if c.Z=true then nextC c 16 else { nextC c 16 with Pc:=arg%65536 }) else if op=17 then (if c.Z=true then { nextC c 17 with Pc:=arg%65536 } else nextC c 17) else if op=18 then (if c.C=true then { nextC c 18 with Pc:=arg%65536 } else nextC c 18) else if op=19 then { nextC c 19 with Pc:=arg%65536 }
 else if op=20 then { nextC c 20 with S:=dec8 (dec8 c.S),Pc:=arg%65536 } else if op=21 then No g (nextC c 21) else if op=22 then { nextC c 22 with S:=dec8 c.S } else if op=23 then setAc { nextC c 23 with S:=(c.S+1)%256 } (D7 g c.S)
 else if op=24 then No g { nextC c 24 with S:=(c.S+1)%256,Z:=hasB (D7 g c.S) 2,N:=hasB (D7 g c.S) 128,C:=hasB (D7 g c.S) 1,I:=hasB (D7 g c.S) 4 } else if op=25 then { nextC c 25 with I:=true } else if op=26 then { nextC c 26 with I:=false } else if op=27 then { nextC c 27 with C:=true } else if op=28 then { nextC c 28 with C:=false } else nextC c op
def Gx (g:Nat→Int) (c:Bh) (op:Int):Nat→Int:=if op=20 then Ee (Ee g c.S ((nextC c 20).Pc/256)) (dec8 c.S) (nextC c 20).Pc else if op=22 then Ee g c.S c.A else g
theorem Xc {op:Int} (h:Ih op=true):¬ op=20∧¬ op=22:=by
 unfold Ih at h;have:=of_decide_eq_true h
 omega
theorem Qv (W:World) {o:Oper} {a:Act} {K:Act→World→Prop} {Q:Exit→Act→World→Prop} (s x:Operand) (hop:o.op=Op.call { callee:=Callee.builtin Builtin.append,args:=#[s,x],argTypes:=#[27,27] })
  (lo g n c:Nat) (f:Nat→Int) (hs:a.eval s=.slice (some ⟨g,0,none⟩) n c) (R:Row W lo g n c f) (hn:n<1048576) (q:Nat) (y:Int) (hx:a.eval x=.slice (some ⟨q,0,none⟩) 1 1) (hq:W.cell? ⟨q,0,none⟩=some (.i y))
  (h:∀ g' c' W',Row W' lo g' (n+1) c' (snoc f n y)→Wrote (fun b _=>b=g∧n+1≤c) W W'→((g'=g∧n+1≤c)∨W.heap.size≤g')→K (a.put o.dst (.slice (some ⟨g',0,none⟩) (n+1) c')) W'):o.wp Tryz.prog a W K Q:=by
 obtain ⟨i0,hi,hz0,hz1,hz2⟩:=info_parts Gd;have hp:=R.parts
 have hnews:∀ j u,[Value.i y][j]?=some u→W.cell? ((⟨q,0,none⟩:Addr).add j)=some u:=fun j u hh=>by
  cases j with
  | zero=>simp at hh; rw [← hh]; exact hq
  | succ j=>simp at hh
 by_cases hr:n+1≤c
 ·have hsp:(W.cell? ⟨g,n,none⟩).isSome=true∧W.frozen? ⟨g,n,none⟩=false:=by
   rcases R.own.2 with ⟨e,_⟩ | ⟨g',cap,cur,hv,hb,hg,h1,h2,h3,h4⟩
   ·cases e
   ·simp only [Value.slice.injEq,Option.some.injEq,Addr.mk.injEq,and_true,true_and] at hv
    obtain ⟨rfl,rfl⟩:=hv;refine ⟨?_,Ar hg n⟩;rw [Aj hg n,Array.getElem?_eq_getElem (by omega)]
    rfl
  have hrun:=run_append_room_cells (P:=Tryz.prog) W 27 o.type 3 i0 Tryz.underlying27 hi g 0 n c ⟨q,0,none⟩ 1 1 [.i y] (by rw [hz1]; rfl) hnews (fun u hu=>by simp at hu; rw [hu]; rfl) hr
   (fun j hj=>by have:j=0:=(by simpa using hj); subst this; rw [hz1]; simpa using hsp.1) (fun j hj=>by have:j=0:=(by simpa using hj); subst this; rw [hz1]; simpa using hsp.2)
  rw [hz1] at hrun;unfold Oper.wp
  simp [execOp,hop,resolve,invoke,builtin,hs,hx,hrun,Result.andThen,World.setCells]
  exact h g c _ (R.more hr hn y) (Wrote.setCell (R:=fun b _=>b=g∧n+1≤c) (Wrote.refl _ W) (fun _=>⟨rfl,hr⟩) _) (Or.inl ⟨rfl,hr⟩)
 ·obtain ⟨v',w',hrun,r1,r2⟩:=run_append_arg_grows (P:=Tryz.prog) W 27 o.type 3 i0 (.i 0) 1 8 Tryz.underlying27 hi hz0 hz1 hz2 rfl (by decide) ⟨g,0,none⟩ n c (rowVals n f) (by rw [A3,Nat.mul_one]) (Cw R.sl.row) ⟨q,0,none⟩ 1 1 [.i y] rfl hnews (by omega) (by unfold maxLen; omega) (by omega)
  rw [F0] at r1;obtain ⟨g',cap2,rfl,hg,hlt⟩:=r1.form (by omega);have L:Below W.heap.size W w':=(Below.refl _ _).grown r2 (Nat.le_refl _) (fun _ e=>by cases e);unfold Oper.wp
  simp [execOp,hop,resolve,invoke,builtin,hs,hx,hrun,Result.andThen]
  exact h g' cap2 w' ((Row.mk r1 (by omega)).mono (by omega)) (Ab L _) (Or.inr hg)
theorem B4 (W:World) {ops:Array Oper} {rest:List Oper} {o:Oper} {a:Act} {Q:Exit→Act→World→Prop} (hg:o.guard=none) (s x:Operand) (hop:o.op=Op.call { callee:=Callee.builtin Builtin.append,args:=#[s,x],argTypes:=#[27,27] })
  (lo g n c:Nat) (f:Nat→Int) (hs:a.eval s=.slice (some ⟨g,0,none⟩) n c) (R:Row W lo g n c f) (hn:n<1048576) (q:Nat) (y:Int) (hx:a.eval x=.slice (some ⟨q,0,none⟩) 1 1) (hq:W.cell? ⟨q,0,none⟩=some (.i y))
  (h:∀ g' c' W',Row W' lo g' (n+1) c' (snoc f n y)→Wrote (fun b _=>b=g∧n+1≤c) W W'→((g'=g∧n+1≤c)∨W.heap.size≤g')→wpList Tryz.prog ops Q rest (a.put o.dst (.slice (some ⟨g',0,none⟩) (n+1) c')) W'):wpList Tryz.prog ops Q (o :: rest) a W :=
 wpList_plain hg fun K hK=>Qv W s x hop lo g n c f hs R hn q y hx hq (fun g c W' r1 r2 r3=>hK _ _ (h g c W' r1 r2 r3))
theorem Row.room {W:World} {lo g n c:Nat} {f:Nat→Int} (h:Row W lo g n c f):(W.heap[g]?.map fun o=>match o with | .cells cs _ _=>cs.size | _=>0)=some c:=by
 rcases h.own.2 with ⟨e,_⟩ | ⟨g',cap,cur,hv,hb,hg,h1,h2,h3,h4⟩
 ·cases e
 ·simp only [Value.slice.injEq,Option.some.injEq,Addr.mk.injEq,and_true,true_and] at hv
  obtain ⟨rfl,rfl⟩:=hv;rw [hg]
  simp
  omega
structure Az (W:World) (lo N:Nat) (D:Nat→Nat→Prop) (u0 u1 u2 u3 u4 ov:Value) (gb cp:Nat→Nat) (g6 c6 g7 c7:Nat) (d:Ao):Prop where
 h0:Cg W (D 0) u0 d.m d.ln d.f
 h1:Bl W (D 1) u1 d.np d.p
 h2:Bn W (D 2) (.agg #[u2,.i d.bank]) d.nr d.g d.bank
 h3:Bv W (D 3) (.agg (pR d.t d.c d.s d.ad d.pl d.bl u3 u4)) d.t d.c d.s d.ad d.pl d.bl d.nt d.tb d.nd d.dt
 h4:SG W lo ov d.mf gb cp d.lf d.fr
 h4D:∀ b,(ov.ownBlock=some b∨∃ i,i<d.mf∧gb i=b)→D 4 b
 h6:Row W lo g6 d.ns c6 d.sm
 h6D:D 5 g6∨(d.ns=0∧c6=0)
 h7:Row W lo g7 d.nq c7 d.rd
 h7D:D 6 g7∨(d.nq=0∧c7=0)
 dis:Up D
 bd:∀ i b,D i b→lo≤b∧b<N
 n6:g6<N
 n7:g7<N
 nN:N≤W.heap.size
 hps:Cy d.lf d.mf≤1099511627776
section
variable {R:Nat→Nat→Prop} {W W':World} {lo N:Nat} {D:Nat→Nat→Prop} {u0 u1 u2 u3 u4 ov:Value} {gb cp:Nat→Nat} {g6 c6 g7 c7:Nat} {d:Ao}
theorem Az.ow (H:Az W lo N D u0 u1 u2 u3 u4 ov gb cp g6 c6 g7 c7 d):Bt W lo (.agg (kR d u0 u1 u2 u3 u4 ov (.slice (some ⟨g6,0,none⟩) d.ns c6) (.slice (some ⟨g7,0,none⟩) d.nq c7))) d :=
 ⟨D,u0,u1,u2,u3,u4,ov,gb,cp,g6,c6,g7,c7,rfl,H.h0,H.h1,H.h2,H.h3,H.h4,H.h4D,H.h6,H.h6D,H.h7,H.h7D,H.dis,fun i b h=>⟨(H.bd i b h).1,Nat.lt_of_lt_of_le (H.bd i b h).2 H.nN⟩,H.hps⟩
theorem Az.of {v:Value} (H:Bt W lo v d):∃ D u0 u1 u2 u3 u4 ov gb cp g6 c6 g7 c7,v=.agg (kR d u0 u1 u2 u3 u4 ov (.slice (some ⟨g6,0,none⟩) d.ns c6) (.slice (some ⟨g7,0,none⟩) d.nq c7))∧Az W lo W.heap.size D u0 u1 u2 u3 u4 ov gb cp g6 c6 g7 c7 d:=by
 obtain ⟨D,u0,u1,u2,u3,u4,ov,gb,cp,g6,c6,g7,c7,e,h0,h1,h2,h3,h4,h4D,h6,h6D,h7,h7D,dis,bd,hps⟩:=H;exact ⟨D,u0,u1,u2,u3,u4,ov,gb,cp,g6,c6,g7,c7,e,h0,h1,h2,h3,h4,h4D,h6,h6D,h7,h7D,dis,bd,h6.parts.2.1,h7.parts.2.1,Nat.le_refl _,hps⟩
theorem Az.keep (H:Az W lo N D u0 u1 u2 u3 u4 ov gb cp g6 c6 g7 c7 d) (hw:Wrote R W W') (hn:∀ b o,b<N→¬ R b o):Az W' lo N D u0 u1 u2 u3 u4 ov gb cp g6 c6 g7 c7 d :=
 ⟨H.h0.keep hw (fun b o h _=>hn b o (H.bd _ b h).2),H.h1.keep hw (fun b o h _=>hn b o (H.bd _ b h).2),H.h2.keep hw (fun b o h _=>hn b o (H.bd _ b h).2),H.h3.keep hw (fun b o h _=>hn b o (H.bd _ b h).2),H.h4.keep hw (fun g o hg=>hn g o (H.bd _ g (H.h4D g (Or.inl hg))).2) (fun i o hi=>hn _ o (H.bd _ _ (H.h4D _ (Or.inr ⟨i,hi,rfl⟩))).2),H.h4D,H.h6.keep hw (fun o=>hn _ o H.n6),H.h6D,H.h7.keep hw (fun o=>hn _ o H.n7),H.h7D,H.dis,H.bd,H.n6,H.n7,Nat.le_trans H.nN hw.size,H.hps⟩
theorem Az.keepD (H:Az W lo N D u0 u1 u2 u3 u4 ov gb cp g6 c6 g7 c7 d) (hw:Wrote R W W') (hd:∀ i b o,D i b→¬ R b o) (k6:∀ o,¬ R g6 o) (k7:∀ o,¬ R g7 o):Az W' lo N D u0 u1 u2 u3 u4 ov gb cp g6 c6 g7 c7 d :=
 ⟨H.h0.keep hw (fun b o h _=>hd _ b o h),H.h1.keep hw (fun b o h _=>hd _ b o h),H.h2.keep hw (fun b o h _=>hd _ b o h),H.h3.keep hw (fun b o h _=>hd _ b o h),H.h4.keep hw (fun g o hg=>hd _ g o (H.h4D g (Or.inl hg))) (fun i o hi=>hd _ _ o (H.h4D _ (Or.inr ⟨i,hi,rfl⟩))),H.h4D,H.h6.keep hw k6,H.h6D,H.h7.keep hw k7,H.h7D,H.dis,H.bd,H.n6,H.n7,Nat.le_trans H.nN hw.size,H.hps⟩
theorem Az.below (H:Az W lo N D u0 u1 u2 u3 u4 ov gb cp g6 c6 g7 c7 d) (L:Below W.heap.size W W'):Az W' lo N D u0 u1 u2 u3 u4 ov gb cp g6 c6 g7 c7 d:=H.keep (Ab L Ak) (fun _ _ _ x=>x)
theorem Az.ppu (H:Az W lo N D u0 u1 u2 u3 u4 ov gb cp g6 c6 g7 c7 d) {p q:Nat} {w3 w4:Value} {c s ad pl:Int} {t:Int} {bl:Bool} {nt nd:Nat} {tb dt:Nat→Int} (hP:Bv W (fun b=>p≤b∧b<q) (.agg (pR t c s ad pl bl w3 w4)) t c s ad pl bl nt tb nd dt) (hp:N≤p) (hl:lo≤N) (hpq:p≤q) (hq:q≤W.heap.size) :
  Az W lo q (fun i b=>(i=3∧p≤b∧b<q)∨(i≠3∧D i b)) u0 u1 u2 w3 w4 ov gb cp g6 c6 g7 c7 { d with t:=t,c:=c,s:=s,ad:=ad,pl:=pl,bl:=bl,nt:=nt,tb:=tb,nd:=nd,dt:=dt }:=by
 have nN:=H.nN;refine ⟨H.h0.mono (fun b _ h=>Or.inr ⟨by decide,h⟩),H.h1.mono (fun b _ h=>Or.inr ⟨by decide,h⟩),H.h2.mono (fun b _ h=>Or.inr ⟨by decide,h⟩),hP.mono (fun b _ h=>Or.inl ⟨rfl,h⟩),H.h4,fun b h=>Or.inr ⟨by decide,H.h4D b h⟩,H.h6,?_,H.h7,?_,?_,?_,by have:=H.n6; omega,by have:=H.n7; omega,hq,H.hps⟩
 ·rcases H.h6D with h | h
  ·exact Or.inl (Or.inr ⟨by decide,h⟩)
  ·exact Or.inr h
 ·rcases H.h7D with h | h
  ·exact Or.inl (Or.inr ⟨by decide,h⟩)
  ·exact Or.inr h
 ·intro i j b h1 h2
  rcases h1 with ⟨rfl,_,_⟩ | ⟨n1,h1⟩ <;> rcases h2 with ⟨rfl,_,_⟩ | ⟨n2,h2⟩
  ·rfl
  ·have:=H.bd _ _ h2; omega
  ·have:=H.bd _ _ h1; omega
  ·exact H.dis _ _ _ h1 h2
 ·intro i b h
  rcases h with ⟨rfl,_,_⟩ | ⟨_,h⟩
  ·omega
  ·have:=H.bd _ _ h; omega
theorem Az.push (H:Az W lo N D u0 u1 u2 u3 u4 ov gb cp g6 c6 g7 c7 d) (hl:lo≤N) {g' c':Nat} {x:Int} (hw:Wrote (fun b _=>b=g7∧d.nq+1≤c7) W W') (R7:Row W' lo g' (d.nq+1) c' (snoc d.rd d.nq x)) (hat:(g'=g7∧d.nq+1≤c7)∨W.heap.size≤g') :
  Az W' lo W'.heap.size (fun i b=>(i=6∧b=g')∨(i≠6∧D i b)) u0 u1 u2 u3 u4 ov gb cp g6 c6 g' c' { d with nq:=d.nq+1,rd:=snoc d.rd d.nq x }:=by
 have nN:=H.nN;have hz:=hw.size
 have far:∀ i b (o:Nat),i≠6→D i b→¬ (b=g7∧d.nq+1≤c7):=fun i b o hi hb ⟨e,hc⟩=>by
  rcases H.h7D with h | h
  ·exact hi (H.dis i 6 b hb (e ▸ h))
  ·omega
 have f6:∀ (o:Nat),¬ (g6=g7∧d.nq+1≤c7∧0<c6):=fun o ⟨e,hc,h0⟩=>by
  rcases H.h6D with h | h
  ·exact far 5 g6 o (by decide) h ⟨e,hc⟩
  ·omega
 have K6:Row W' lo g6 d.ns c6 d.sm:=by
  by_cases e:g6=g7∧d.nq+1≤c7
  ·exfalso
   have hc6:c6=0:=by
    by_cases h:0<c6
    ·exact absurd ⟨e.1,e.2,h⟩ (f6 0)
    ·omega
   have p6:=H.h6.room;have p7:=H.h7.room;rw [e.1,p7] at p6;have:=Option.some.inj p6
   omega
  ·exact H.h6.keep hw (fun o h=>e h)
 refine ⟨(H.h0.keep hw (fun b o h _=>far 0 b o (by decide) h)).mono (fun b _ h=>Or.inr ⟨by decide,h⟩),(H.h1.keep hw (fun b o h _=>far 1 b o (by decide) h)).mono (fun b _ h=>Or.inr ⟨by decide,h⟩),(H.h2.keep hw (fun b o h _=>far 2 b o (by decide) h)).mono (fun b _ h=>Or.inr ⟨by decide,h⟩),(H.h3.keep hw (fun b o h _=>far 3 b o (by decide) h)).mono (fun b _ h=>Or.inr ⟨by decide,h⟩),
  H.h4.keep hw (fun g o hg=>far 4 g o (by decide) (H.h4D g (Or.inl hg))) (fun i o hi=>far 4 _ o (by decide) (H.h4D _ (Or.inr ⟨i,hi,rfl⟩))),fun b h=>Or.inr ⟨by decide,H.h4D b h⟩,K6,?_,R7,Or.inl (Or.inl ⟨rfl,rfl⟩),?_,?_,by have:=H.n6; omega,R7.parts.2.1,Nat.le_refl _,H.hps⟩
 ·rcases H.h6D with h | h
  ·exact Or.inl (Or.inr ⟨by decide,h⟩)
  ·exact Or.inr h
 ·intro i j b h1 h2
  have key:∀ i,i≠6→D i g'→False:=fun i hi h=>by
   rcases hat with ⟨e,hc⟩ | h'
   ·exact far i g' 0 hi h ⟨e,hc⟩
   ·have:=H.bd _ _ h; omega
  rcases h1 with ⟨rfl,rfl⟩ | ⟨n1,h1⟩ <;> rcases h2 with ⟨rfl,e⟩ | ⟨n2,h2⟩
  ·rfl
  ·exact absurd h2 (fun h=>key j n2 h)
  ·subst e; exact absurd h1 (fun h=>key i n1 h)
  ·exact H.dis _ _ _ h1 h2
 ·intro i b h
  rcases h with ⟨rfl,rfl⟩ | ⟨_,h⟩
  ·exact ⟨R7.parts.1,R7.parts.2.1⟩
  ·have:=H.bd _ _ h; omega
end
set_option maxHeartbeats 8000000
set_option maxRecDepth 40000
theorem Au {P:Program} {fn:Func} {p q:Tmp} {ty:TypeId} (h:fn.results=#[.cell p ty,.tmp q]) (tmps:Array Value) (w:World) (g:Nat) (t:TypeId) (cs:Array Value) (fr:Nat × Nat) (dd:TypeDesc)
  (hp:tmps.getD p undef=(pt g 0)) (hg:w.heap[g]?=some (.cells cs t fr)) (hu:P.underlying ty=some dd) (hd:(match dd with | .struct _ | .array _ _=>true | _=>false)=true) (hi:(P.info? ty).map (·.size)=some cs.size) :
  (results fn tmps).run P w=.ok (.tuple #[.agg cs,tmps.getD q undef]) w:=by
 have hp':tmps[p]?.getD undef=(pt g 0):=by simpa using hp
 simp [results,h,hp',asAddr,run_loadVar_row w g t ty cs fr dd hg hu hd hi]
def Bo (d:Ao) (a:Int):Int :=
 if rgN (a%65536)=2 then La true (rgP (a%65536)) d.bl d.ad d.tb else if rgN (a%65536)=3 then Pl true d.L d.R (rgP (a%65536)) else if rgN (a%65536)=4 then Fs d.hd d.sh d.np d.p d.t else Dr d.m d.f d.g d.bank (a%65536)
def Bd (d:Ao) (a:Int):Ao :=
 if rgN (a%65536)=2 then { d with ad:=J8 true (rgP (a%65536)) d.ad,bl:=L9 true (rgP (a%65536)) d.bl,nq:=d.nq+1,rd:=snoc d.rd d.nq (Bo d a) } else if rgN (a%65536)=3 then { d with R:=Rx true d.R (rgP (a%65536)),nq:=d.nq+1,rd:=snoc d.rd d.nq (Bo d a) } else if rgN (a%65536)=4 then { d with sh:=Da d.hd d.sh d.np d.p d.t,nq:=d.nq+1,rd:=snoc d.rd d.nq (Bo d a) } else d
theorem De {d:Ao} (h:okLock d=true):C9 d.np d.p=true∧Bq d.m d.ln d.f d.nr d.g d.bank=true∧A2 d.t d.c d.s d.ad d.pl d.nt d.tb d.nd d.dt=true∧Bw d.T d.P d.K d.B d.L=true∧By d.sh 0 255=true:=by
 unfold okLock at h;simp only [Bool.and_eq_true] at h;exact ⟨h.1,h.2.1,h.2.2.2.1,h.2.2.2.2.1,h.2.2.2.2.2.1⟩
theorem Yq (w:World) (lo:Nat) (v:Value) (d:Ao) (a:Int) (H:Bt w lo v d) (hlo:lo≤w.heap.size) (hok:okLock d=true) (hnq:d.nq<1048576):Calls Tryz.prog 21 #[v,.i a] w fun e w'=>∃ v',e=.returned (.tuple #[v',.i (Bo d a)])∧Bt w' lo v' (Bd d a)∧Below lo w w':=by
 obtain ⟨okp,okm,oku,oka,oks⟩:=De hok;obtain ⟨D,u0,u1,u2,u3,u4,ov,gb,cp,g6,c6,g7,c7,rfl,HP0⟩:=Az.of H;obtain ⟨x0,y0,rfl⟩:=HP0.h0.form;obtain ⟨x1,y1,rfl⟩:=HP0.h1.two;obtain ⟨x2,y2,e2⟩:=HP0.h2.two;simp only [Value.agg.injEq,Array.mk.injEq,List.cons.injEq,and_true] at e2;subst e2;obtain ⟨x3,y3,x4,y4,e3⟩:=HP0.h3.two;simp only [Value.agg.injEq,Array.mk.injEq,List.cons.injEq,and_true,true_and] at e3;obtain ⟨rfl,rfl⟩:=e3;obtain ⟨x5,y5,rfl⟩:=HP0.h4.form;have L0:Below w.heap.size w ((w.alloc (.cells (kR d (.slice x0 d.m y0) (.slice x1 d.np y1) (.slice x2 d.nr y2) (.slice x3 d.nt y3) (.slice x4 d.nd y4) (.slice x5 d.mf y5) (.slice (some ⟨g6,0,none⟩) d.ns c6) (.slice (some ⟨g7,0,none⟩) d.nq c7)) 41)).alloc (.cells zR 41)):=((Below.refl _ _).alloc (Nat.le_refl _) _).alloc (by simp) _
 have B0:((w.alloc (.cells (kR d (.slice x0 d.m y0) (.slice x1 d.np y1) (.slice x2 d.nr y2) (.slice x3 d.nt y3) (.slice x4 d.nd y4) (.slice x5 d.mf y5) (.slice (some ⟨g6,0,none⟩) d.ns c6) (.slice (some ⟨g7,0,none⟩) d.nq c7)) 41)).alloc (.cells zR 41)).heap[w.heap.size]?=some (.cells (kR d (.slice x0 d.m y0) (.slice x1 d.np y1) (.slice x2 d.nr y2) (.slice x3 d.nt y3) (.slice x4 d.nd y4) (.slice x5 d.mf y5) (.slice (some ⟨g6,0,none⟩) d.ns c6) (.slice (some ⟨g7,0,none⟩) d.nq c7)) 41 (0,0)):=A4 (Al w _ _) _
 have B1:((w.alloc (.cells (kR d (.slice x0 d.m y0) (.slice x1 d.np y1) (.slice x2 d.nr y2) (.slice x3 d.nt y3) (.slice x4 d.nd y4) (.slice x5 d.mf y5) (.slice (some ⟨g6,0,none⟩) d.ns c6) (.slice (some ⟨g7,0,none⟩) d.nq c7)) 41)).alloc (.cells zR 41)).heap[w.heap.size+1]?=some (.cells zR 41 (0,0)):=by simpa using Al (w.alloc (.cells (kR d (.slice x0 d.m y0) (.slice x1 d.np y1) (.slice x2 d.nr y2) (.slice x3 d.nt y3) (.slice x4 d.nd y4) (.slice x5 d.mf y5) (.slice (some ⟨g6,0,none⟩) d.ns c6) (.slice (some ⟨g7,0,none⟩) d.nq c7)) 41)) zR 41
 have HQ:=HP0.below L0;have bd0:=HP0.bd;have n60:=HP0.n6;have n70:=HP0.n7;clear HP0 H
 obtain ⟨rg,hrg⟩:∃ x,Hid (x=rgN (a%65536)):=⟨_,rfl⟩
 obtain ⟨at',hat⟩:∃ x,Hid (x=rgP (a%65536)):=⟨_,rfl⟩
 have HG:=Ac (fun W=>Dx W a);rw [← hrg.out,← hat.out] at HG
 by_cases r2:rg=2
 ·have HV:Hid (Bo d a=La true at' d.bl d.ad d.tb∧Bd d a={ d with ad:=J8 true at' d.ad,bl:=L9 true at' d.bl,nq:=d.nq+1,rd:=snoc d.rd d.nq (La true at' d.bl d.ad d.tb) }):=by
   have e:rgN (a%65536)=2:=by rw [← hrg.out]; exact r2
   show _∧_
   unfold Bd Bo;simp only [e,if_true];rw [← hat.out];exact ⟨rfl,rfl⟩
  rw [HV.out.1,HV.out.2];subst r2;clear HV hrg
  obtain ⟨x,hx⟩:∃ x,Hid (x=La true at' d.bl d.ad d.tb):=⟨_,rfl⟩
  obtain ⟨ad',had⟩:∃ x,Hid (x=J8 true at' d.ad):=⟨_,rfl⟩
  obtain ⟨bl',hbl⟩:∃ x,Hid (x=L9 true at' d.bl):=⟨_,rfl⟩
  have HP:=Ac (fun W E v h=>Ie W E v d.t d.c d.s d.ad d.pl d.bl d.nt d.tb d.nd d.dt h at');rw [oku,← hx.out,← had.out,← hbl.out] at HP;rw [← hx.out,← had.out,← hbl.out];clear hx had hbl hat
  go_enter Tryz.func21,Tryz.ntmps21
  go_wp2_with fail;generalize (w.alloc (.cells (kR d (.slice x0 d.m y0) (.slice x1 d.np y1) (.slice x2 d.nr y2) (.slice x3 d.nt y3) (.slice x4 d.nd y4) (.slice x5 d.mf y5) (.slice (some ⟨g6,0,none⟩) d.ns c6) (.slice (some ⟨g7,0,none⟩) d.nq c7)) 41)).alloc (.cells zR 41)=W0 at *;refine (HG.out _).mono ?_;rintro e W1 ⟨rfl,rfl⟩;have c0':=Aj B0;go_wp2_with fail;clear c0';refine (HP.out _ _ _ HQ.h3).mono ?_;rintro e W2 ⟨v',rfl,P3,L⟩;clear HP;obtain ⟨x3',y3',x4',y4',rfl⟩:=P3.two;replace P3:=P3.mono (E:=fun b=>W1.heap.size≤b∧b<W2.heap.size) (fun b hb h=>⟨h,hb⟩);have l12:=L.size;have hb1:=Ae B1;replace HQ:=HQ.below L;replace L0:=Ah L0 L;replace B0:=Aa B0 L (Ae B0);replace B1:=Aa B1 L (Ae B1);replace HQ:=HQ.ppu P3 (by omega) hlo l12 (Nat.le_refl _);clear L P3;have c0':=Aj B0;have f0':=Ar B0
  go_upto_region 11 with (fail);clear c0' f0'
  have TT:=Wrote.setCell (b:=w.heap.size) (o:=19) (R:=fun b _=>b=w.heap.size) (Wrote.setCell (b:=w.heap.size) (o:=18) (R:=fun b _=>b=w.heap.size) (Wrote.setCell (b:=w.heap.size) (o:=17) (R:=fun b _=>b=w.heap.size) (Wrote.setCell (b:=w.heap.size) (o:=16) (R:=fun b _=>b=w.heap.size) (Wrote.setCell (b:=w.heap.size) (o:=15) (R:=fun b _=>b=w.heap.size) (Wrote.setCell (b:=w.heap.size) (o:=14) (R:=fun b _=>b=w.heap.size) (Wrote.setCell (b:=w.heap.size) (o:=13) (R:=fun b _=>b=w.heap.size) (Wrote.setCell (b:=w.heap.size) (o:=12) (R:=fun b _=>b=w.heap.size) (Wrote.refl _ W2) (fun _=>rfl) (.i d.t)) (fun _=>rfl) (.i d.c)) (fun _=>rfl) (.i d.s)) (fun _=>rfl) (.i ad')) (fun _=>rfl) (.i d.pl)) (fun _=>rfl) (.bool bl')) (fun _=>rfl) (.slice x3' d.nt y3')) (fun _=>rfl) (.slice x4' d.nd y4')
  replace B1:=Ag B1 TT (fun o (h:_=_)=>by omega);replace B0:=Ai (o:=12) B0 (.i d.t);replace B0:=Ai (o:=13) B0 (.i d.c);replace B0:=Ai (o:=14) B0 (.i d.s);replace B0:=Ai (o:=15) B0 (.i ad');replace B0:=Ai (o:=16) B0 (.i d.pl);replace B0:=Ai (o:=17) B0 (.bool bl');replace B0:=Ai (o:=18) B0 (.slice x3' d.nt y3');replace B0:=Ai (o:=19) B0 (.slice x4' d.nd y4');simp only [List.setIfInBounds_toArray,List.set_cons_succ,List.set_cons_zero] at B0;replace HQ:=HQ.keepD TT (fun i b o h (e:b=_)=>by rcases h with ⟨-,h1,h2⟩ | ⟨-,h⟩; (omega); (have:=bd0 _ _ h; omega)) (fun o (e:_=_)=>by omega) (fun o (e:_=_)=>by omega);replace L0:=L0.trans (TT.below L0.size (fun b o hb (h:b=_)=>by omega));clear TT
  generalize (((((((W2.setCell ⟨w.heap.size,12,none⟩ (.i d.t)).setCell ⟨w.heap.size,13,none⟩ (.i d.c)).setCell ⟨w.heap.size,14,none⟩ (.i d.s)).setCell ⟨w.heap.size,15,none⟩ (.i ad')).setCell ⟨w.heap.size,16,none⟩ (.i d.pl)).setCell ⟨w.heap.size,17,none⟩ (.bool bl')).setCell ⟨w.heap.size,18,none⟩ (.slice x3' d.nt y3')).setCell ⟨w.heap.size,19,none⟩ (.slice x4' d.nd y4')=W3 at *;have LA:Below W3.heap.size W3 (W3.alloc (.cells #[.i x] 3)):=(Below.refl _ _).alloc (Nat.le_refl _) _;have hE:=Aj (Al W3 #[.i x] 3) 0;have hbk:=Ae B1;have c0':=Aj (Aa B0 LA (Ae B0));have c0s:=Aj B0;have HQA:=Ac (HQ.below LA);have LXA:=Ac (Ah L0 LA);have B0A:=Ac (Aa B0 LA (Ae B0));have B1A:=Ac (Aa B1 LA (Ae B1));clear HQ L0 LA B0 B1
  go_wp2_with (at_builtin; refine B4 _ rfl _ _ rfl lo g7 d.nq c7 d.rd rfl HQA.out.h7 hnq W3.heap.size x rfl hE ?_);intro g9 c9 W9 R9 hW hat9;clear c0' c0s hE
  replace hat9:(g9=g7∧d.nq+1≤c7)∨(W3.alloc (.cells #[.i x] 3)).heap.size≤g9:=by simpa using hat9
  have hs9:(W3.alloc (.cells #[.i x] 3)).heap.size=W3.heap.size+1:=by simp
  have HQN:=HQA.out.push (by have:=HQA.out.n7; omega) hW R9 hat9;have B0:=Ag B0A.out hW (fun o ⟨e,_⟩=>by omega);have B1:=Ag B1A.out hW (fun o ⟨e,_⟩=>by omega);have LW:Below lo w W9:=(LXA.out.mono hlo).trans (hW.below (Nat.le_trans hlo LXA.out.size) (fun b o hb ⟨e,_⟩=>by have:=HQA.out.h7.parts.1; omega))
  have hg9:g9≠w.heap.size∧g9≠w.heap.size+1:=by rcases hat9 with ⟨e,_⟩ | h <;> omega
  clear HQA LXA B0A B1A hW R9 hat9 hs9;have c0':=Aj B0;have f0':=Ar B0;go_upto_region 12 with (fail);clear c0' f0';rename_i K2 hK2;have TT:=Wrote.setCell (b:=w.heap.size) (o:=33) (R:=fun b _=>b=w.heap.size∨b=w.heap.size+1) (Wrote.refl _ W9) (fun _=>Or.inl rfl) (.slice (some ⟨g9,0,none⟩) (d.nq+1) c9);replace B1:=Ag B1 (Wrote.setCell (b:=w.heap.size) (o:=33) (R:=fun b _=>b=w.heap.size) (Wrote.refl _ W9) (fun _=>rfl) (.slice (some ⟨g9,0,none⟩) (d.nq+1) c9)) (fun o (h:_=_)=>by omega);replace B0:=Ai (o:=33) B0 (.slice (some ⟨g9,0,none⟩) (d.nq+1) c9);simp only [List.setIfInBounds_toArray,List.set_cons_succ,List.set_cons_zero] at B0;generalize W9.setCell ⟨w.heap.size,33,none⟩ (.slice (some ⟨g9,0,none⟩) (d.nq+1) c9)=W10 at *;refine wp_region_lit ?_
  refine wpList_load_row rfl _ _ rfl w.heap.size rfl _ _ _ _ B0 Tryz.underlying41 rfl Af ?_;refine wpList_plain rfl (fun K3 hK3=>?_);go_simp;refine hK3 _ _ ?_;clear hK3;refine wpList_store_row rfl _ _ _ rfl (w.heap.size+1) _ rfl rfl _ _ B1 Af rfl (by first | kernel_rfl | simp [Value.oneCell']) ?_;have B3:=setRow_heap _ _ _ (kR { d with ad:=ad',bl:=bl' } (.slice x0 d.m y0) (.slice x1 d.np y1) (.slice x2 d.nr y2) (.slice x3' d.nt y3') (.slice x4' d.nd y4') (.slice x5 d.mf y5) (.slice (some ⟨g6,0,none⟩) d.ns c6) (.slice (some ⟨g9,0,none⟩) (d.nq+1) c9)) _ _ B1
  have WW:=(An B1 (kR { d with ad:=ad',bl:=bl' } (.slice x0 d.m y0) (.slice x1 d.np y1) (.slice x2 d.nr y2) (.slice x3' d.nt y3') (.slice x4' d.nd y4') (.slice x5 d.mf y5) (.slice (some ⟨g6,0,none⟩) d.ns c6) (.slice (some ⟨g9,0,none⟩) (d.nq+1) c9))).mono (S:=fun b _=>b=w.heap.size∨b=w.heap.size+1) (fun b o _ h=>Or.inr h);generalize W10.setRow (w.heap.size+1) (kR { d with ad:=ad',bl:=bl' } (.slice x0 d.m y0) (.slice x1 d.np y1) (.slice x2 d.nr y2) (.slice x3' d.nt y3') (.slice x4' d.nd y4') (.slice x5 d.mf y5) (.slice (some ⟨g6,0,none⟩) d.ns c6) (.slice (some ⟨g9,0,none⟩) (d.nq+1) c9))=W11 at *;refine wpList_plain rfl (fun K4 hK4=>?_);go_simp;refine hK4 _ _ ?_;clear hK4;refine hK2 _ _ ?_
  have HF:=Ac (HQN.keepD (TT.trans WW) (fun i b o h e=>by rcases h with ⟨-,rfl⟩ | ⟨-,⟨-,h1,h2⟩ | ⟨-,h⟩⟩; (omega); (omega); (have:=bd0 _ _ h; omega)) (fun o e=>by omega) (fun o e=>by omega));have LF:=Ac (LW.trans ((TT.trans WW).below (Nat.le_trans hlo LW.size) (fun b o hb e=>by omega)));clear HQN TT WW B0 B1 LW;go_wp2;refine bodyPost_ret (v:=.tuple #[.agg (kR { d with ad:=ad',bl:=bl' } (.slice x0 d.m y0) (.slice x1 d.np y1) (.slice x2 d.nr y2) (.slice x3' d.nt y3') (.slice x4' d.nd y4') (.slice x5 d.mf y5) (.slice (some ⟨g6,0,none⟩) d.ns c6) (.slice (some ⟨g9,0,none⟩) (d.nq+1) c9)),.i x]) (Au Tryz.results21 _ _ (w.heap.size+1) _ _ _ _ rfl B3 Tryz.underlying41 rfl Af) rfl ?_;exact ⟨_,rfl,HF.out.ow,LF.out⟩
 by_cases r3:rg=3
 ·have HV:Hid (Bo d a=Pl true d.L d.R at'∧Bd d a={ d with R:=Rx true d.R at',nq:=d.nq+1,rd:=snoc d.rd d.nq (Pl true d.L d.R at') }):=by
   have e:rgN (a%65536)=3:=by rw [← hrg.out]; exact r3
   show _∧_
   unfold Bd Bo;simp only [e,if_true,show ¬ ((3:Int)=2) by decide,if_false]
   first | (rw [← hat.out]; exact ⟨rfl,rfl⟩) | exact ⟨rfl,rfl⟩ | exact ⟨trivial,rfl⟩ | exact ⟨trivial,trivial⟩ | trivial
  rw [HV.out.1,HV.out.2];subst r3;clear HV hrg
  obtain ⟨x,hx⟩:∃ x,Hid (x=Pl true d.L d.R at'):=⟨_,rfl⟩
  obtain ⟨r',hr'⟩:∃ x,Hid (x=Rx true d.R at'):=⟨_,rfl⟩
  have HP:=Ac (fun W (_:Az W lo w.heap.size D (.slice x0 d.m y0) (.slice x1 d.np y1) (.slice x2 d.nr y2) (.slice x3 d.nt y3) (.slice x4 d.nd y4) (.slice x5 d.mf y5) gb cp g6 c6 g7 c7 d) (_:Below w.heap.size w W)=>Jz W d.T d.P d.K d.B d.L d.Q d.R at');rw [oka,← hx.out,← hr'.out] at HP;rw [← hx.out,← hr'.out];clear hx hr' hat
  go_enter Tryz.func21,Tryz.ntmps21
  go_wp2_with fail;generalize (w.alloc (.cells (kR d (.slice x0 d.m y0) (.slice x1 d.np y1) (.slice x2 d.nr y2) (.slice x3 d.nt y3) (.slice x4 d.nd y4) (.slice x5 d.mf y5) (.slice (some ⟨g6,0,none⟩) d.ns c6) (.slice (some ⟨g7,0,none⟩) d.nq c7)) 41)).alloc (.cells zR 41)=W0 at *;refine (HG.out _).mono ?_;rintro e W1 ⟨rfl,rfl⟩;have c0':=Aj B0;go_wp2_with fail;clear c0';refine (HP.out _ HQ L0).mono ?_;rintro e W2 ⟨rfl,L⟩;clear HP;have hb1:=Ae B1;replace HQ:=HQ.below L;replace L0:=Ah L0 L;replace B0:=Aa B0 L (Ae B0);replace B1:=Aa B1 L (Ae B1)
  replace HQ:Az W2 lo w.heap.size D (.slice x0 d.m y0) (.slice x1 d.np y1) (.slice x2 d.nr y2) (.slice x3 d.nt y3) (.slice x4 d.nd y4) (.slice x5 d.mf y5) gb cp g6 c6 g7 c7 { d with R:=r' }:=⟨HQ.h0,HQ.h1,HQ.h2,HQ.h3,HQ.h4,HQ.h4D,HQ.h6,HQ.h6D,HQ.h7,HQ.h7D,HQ.dis,HQ.bd,HQ.n6,HQ.n7,HQ.nN,HQ.hps⟩
  clear L;have c0':=Aj B0;have f0':=Ar B0;go_upto_region 11 with (fail);clear c0' f0';have TT:=Wrote.setCell (b:=w.heap.size) (o:=26) (R:=fun b _=>b=w.heap.size) (Wrote.setCell (b:=w.heap.size) (o:=25) (R:=fun b _=>b=w.heap.size) (Wrote.setCell (b:=w.heap.size) (o:=24) (R:=fun b _=>b=w.heap.size) (Wrote.setCell (b:=w.heap.size) (o:=23) (R:=fun b _=>b=w.heap.size) (Wrote.setCell (b:=w.heap.size) (o:=22) (R:=fun b _=>b=w.heap.size) (Wrote.setCell (b:=w.heap.size) (o:=21) (R:=fun b _=>b=w.heap.size) (Wrote.setCell (b:=w.heap.size) (o:=20) (R:=fun b _=>b=w.heap.size) (Wrote.refl _ W2) (fun _=>rfl) (.i d.T)) (fun _=>rfl) (.i d.P)) (fun _=>rfl) (.i d.K)) (fun _=>rfl) (.i d.B)) (fun _=>rfl) (.i d.L)) (fun _=>rfl) (.bool d.Q)) (fun _=>rfl) (.bool r')
  replace B1:=Ag B1 TT (fun o (h:_=_)=>by omega);replace B0:=Ai (o:=20) B0 (.i d.T);replace B0:=Ai (o:=21) B0 (.i d.P);replace B0:=Ai (o:=22) B0 (.i d.K);replace B0:=Ai (o:=23) B0 (.i d.B);replace B0:=Ai (o:=24) B0 (.i d.L);replace B0:=Ai (o:=25) B0 (.bool d.Q);replace B0:=Ai (o:=26) B0 (.bool r');simp only [List.setIfInBounds_toArray,List.set_cons_succ,List.set_cons_zero] at B0;replace HQ:=HQ.keepD TT (fun i b o h (e:b=_)=>by have:=bd0 _ _ h; omega) (fun o (e:_=_)=>by omega) (fun o (e:_=_)=>by omega);replace L0:=L0.trans (TT.below L0.size (fun b o hb (h:b=_)=>by omega));clear TT
  generalize ((((((W2.setCell ⟨w.heap.size,20,none⟩ (.i d.T)).setCell ⟨w.heap.size,21,none⟩ (.i d.P)).setCell ⟨w.heap.size,22,none⟩ (.i d.K)).setCell ⟨w.heap.size,23,none⟩ (.i d.B)).setCell ⟨w.heap.size,24,none⟩ (.i d.L)).setCell ⟨w.heap.size,25,none⟩ (.bool d.Q)).setCell ⟨w.heap.size,26,none⟩ (.bool r')=W3 at *;have LA:Below W3.heap.size W3 (W3.alloc (.cells #[.i x] 3)):=(Below.refl _ _).alloc (Nat.le_refl _) _;have hE:=Aj (Al W3 #[.i x] 3) 0;have hbk:=Ae B1;have c0':=Aj (Aa B0 LA (Ae B0));have c0s:=Aj B0;have HQA:=Ac (HQ.below LA);have LXA:=Ac (Ah L0 LA);have B0A:=Ac (Aa B0 LA (Ae B0));have B1A:=Ac (Aa B1 LA (Ae B1));clear HQ L0 LA B0 B1;go_wp2_with (at_builtin; refine B4 _ rfl _ _ rfl lo g7 d.nq c7 d.rd rfl HQA.out.h7 hnq W3.heap.size x rfl hE ?_);intro g9 c9 W9 R9 hW hat9
  clear c0' c0s hE
  replace hat9:(g9=g7∧d.nq+1≤c7)∨(W3.alloc (.cells #[.i x] 3)).heap.size≤g9:=by simpa using hat9
  have hs9:(W3.alloc (.cells #[.i x] 3)).heap.size=W3.heap.size+1:=by simp
  have HQN:=HQA.out.push (by have:=HQA.out.n7; omega) hW R9 hat9;have B0:=Ag B0A.out hW (fun o ⟨e,_⟩=>by omega);have B1:=Ag B1A.out hW (fun o ⟨e,_⟩=>by omega);have LW:Below lo w W9:=(LXA.out.mono hlo).trans (hW.below (Nat.le_trans hlo LXA.out.size) (fun b o hb ⟨e,_⟩=>by have:=HQA.out.h7.parts.1; omega))
  have hg9:g9≠w.heap.size∧g9≠w.heap.size+1:=by rcases hat9 with ⟨e,_⟩ | h <;> omega
  clear HQA LXA B0A B1A hW R9 hat9 hs9;have c0':=Aj B0;have f0':=Ar B0;go_upto_region 12 with (fail);clear c0' f0';rename_i K2 hK2;have TT:=Wrote.setCell (b:=w.heap.size) (o:=33) (R:=fun b _=>b=w.heap.size∨b=w.heap.size+1) (Wrote.refl _ W9) (fun _=>Or.inl rfl) (.slice (some ⟨g9,0,none⟩) (d.nq+1) c9);replace B1:=Ag B1 (Wrote.setCell (b:=w.heap.size) (o:=33) (R:=fun b _=>b=w.heap.size) (Wrote.refl _ W9) (fun _=>rfl) (.slice (some ⟨g9,0,none⟩) (d.nq+1) c9)) (fun o (h:_=_)=>by omega);replace B0:=Ai (o:=33) B0 (.slice (some ⟨g9,0,none⟩) (d.nq+1) c9);simp only [List.setIfInBounds_toArray,List.set_cons_succ,List.set_cons_zero] at B0;generalize W9.setCell ⟨w.heap.size,33,none⟩ (.slice (some ⟨g9,0,none⟩) (d.nq+1) c9)=W10 at *;refine wp_region_lit ?_
  refine wpList_load_row rfl _ _ rfl w.heap.size rfl _ _ _ _ B0 Tryz.underlying41 rfl Af ?_;refine wpList_plain rfl (fun K3 hK3=>?_);go_simp;refine hK3 _ _ ?_;clear hK3;refine wpList_store_row rfl _ _ _ rfl (w.heap.size+1) _ rfl rfl _ _ B1 Af rfl (by first | kernel_rfl | simp [Value.oneCell']) ?_;have B3:=setRow_heap _ _ _ (kR { d with R:=r' } (.slice x0 d.m y0) (.slice x1 d.np y1) (.slice x2 d.nr y2) (.slice x3 d.nt y3) (.slice x4 d.nd y4) (.slice x5 d.mf y5) (.slice (some ⟨g6,0,none⟩) d.ns c6) (.slice (some ⟨g9,0,none⟩) (d.nq+1) c9)) _ _ B1
  have WW:=(An B1 (kR { d with R:=r' } (.slice x0 d.m y0) (.slice x1 d.np y1) (.slice x2 d.nr y2) (.slice x3 d.nt y3) (.slice x4 d.nd y4) (.slice x5 d.mf y5) (.slice (some ⟨g6,0,none⟩) d.ns c6) (.slice (some ⟨g9,0,none⟩) (d.nq+1) c9))).mono (S:=fun b _=>b=w.heap.size∨b=w.heap.size+1) (fun b o _ h=>Or.inr h);generalize W10.setRow (w.heap.size+1) (kR { d with R:=r' } (.slice x0 d.m y0) (.slice x1 d.np y1) (.slice x2 d.nr y2) (.slice x3 d.nt y3) (.slice x4 d.nd y4) (.slice x5 d.mf y5) (.slice (some ⟨g6,0,none⟩) d.ns c6) (.slice (some ⟨g9,0,none⟩) (d.nq+1) c9))=W11 at *;refine wpList_plain rfl (fun K4 hK4=>?_);go_simp;refine hK4 _ _ ?_;clear hK4;refine hK2 _ _ ?_;have HF:=Ac (HQN.keepD (TT.trans WW) (fun i b o h e=>by rcases h with ⟨-,rfl⟩ | ⟨-,h⟩; (omega); (have:=bd0 _ _ h; omega)) (fun o e=>by omega) (fun o e=>by omega))
  have LF:=Ac (LW.trans ((TT.trans WW).below (Nat.le_trans hlo LW.size) (fun b o hb e=>by omega)));clear HQN TT WW B0 B1 LW;go_wp2;refine bodyPost_ret (v:=.tuple #[.agg (kR { d with R:=r' } (.slice x0 d.m y0) (.slice x1 d.np y1) (.slice x2 d.nr y2) (.slice x3 d.nt y3) (.slice x4 d.nd y4) (.slice x5 d.mf y5) (.slice (some ⟨g6,0,none⟩) d.ns c6) (.slice (some ⟨g9,0,none⟩) (d.nq+1) c9)),.i x]) (Au Tryz.results21 _ _ (w.heap.size+1) _ _ _ _ rfl B3 Tryz.underlying41 rfl Af) rfl ?_;exact ⟨_,rfl,HF.out.ow,LF.out⟩
 by_cases r4:rg=4
 ·have HV:Hid (Bo d a=Fs d.hd d.sh d.np d.p d.t∧Bd d a={ d with sh:=Da d.hd d.sh d.np d.p d.t,nq:=d.nq+1,rd:=snoc d.rd d.nq (Fs d.hd d.sh d.np d.p d.t) }):=by
   have e:rgN (a%65536)=4:=by rw [← hrg.out]; exact r4
   show _∧_
   unfold Bd Bo;simp only [e,if_true,show ¬ ((4:Int)=2) by decide,if_false,show ¬ ((4:Int)=3) by decide,if_false]
   first | (rw [← hat.out]; exact ⟨rfl,rfl⟩) | exact ⟨rfl,rfl⟩ | exact ⟨trivial,rfl⟩ | exact ⟨trivial,trivial⟩ | trivial
  rw [HV.out.1,HV.out.2];subst r4;clear HV hrg
  obtain ⟨x,hx⟩:∃ x,Hid (x=Fs d.hd d.sh d.np d.p d.t):=⟨_,rfl⟩
  obtain ⟨s',hs'⟩:∃ x,Hid (x=Da d.hd d.sh d.np d.p d.t):=⟨_,rfl⟩
  have HP:=Ac (fun W (h:Az W lo w.heap.size D (.slice x0 d.m y0) (.slice x1 d.np y1) (.slice x2 d.nr y2) (.slice x3 d.nt y3) (.slice x4 d.nd y4) (.slice x5 d.mf y5) gb cp g6 c6 g7 c7 d) (_:Below w.heap.size w W)=>J0 W (On (D 1)) d.hd d.sh (.slice x1 d.np y1) d.np d.p d.t (by have:=(Cu oku).2; omega) (by obtain ⟨aa,cc,e,hs⟩:=h.h1; rw [e]; exact hs.ints cc));rw [← hx.out,← hs'.out] at HP;rw [← hx.out,← hs'.out];clear hx hs' hat
  go_enter Tryz.func21,Tryz.ntmps21
  go_wp2_with fail;generalize (w.alloc (.cells (kR d (.slice x0 d.m y0) (.slice x1 d.np y1) (.slice x2 d.nr y2) (.slice x3 d.nt y3) (.slice x4 d.nd y4) (.slice x5 d.mf y5) (.slice (some ⟨g6,0,none⟩) d.ns c6) (.slice (some ⟨g7,0,none⟩) d.nq c7)) 41)).alloc (.cells zR 41)=W0 at *;refine (HG.out _).mono ?_;rintro e W1 ⟨rfl,rfl⟩;have c0':=Aj B0;go_wp2_with fail;clear c0';refine (HP.out _ HQ L0).mono ?_;rintro e W2 ⟨rfl,L⟩;clear HP;have hb1:=Ae B1;replace HQ:=HQ.below L;replace L0:=Ah L0 L;replace B0:=Aa B0 L (Ae B0);replace B1:=Aa B1 L (Ae B1)
  replace HQ:Az W2 lo w.heap.size D (.slice x0 d.m y0) (.slice x1 d.np y1) (.slice x2 d.nr y2) (.slice x3 d.nt y3) (.slice x4 d.nd y4) (.slice x5 d.mf y5) gb cp g6 c6 g7 c7 { d with sh:=s' }:=⟨HQ.h0,HQ.h1,HQ.h2,HQ.h3,HQ.h4,HQ.h4D,HQ.h6,HQ.h6D,HQ.h7,HQ.h7D,HQ.dis,HQ.bd,HQ.n6,HQ.n7,HQ.nN,HQ.hps⟩
  clear L;have c0':=Aj B0;have f0':=Ar B0;go_upto_region 11 with (fail);clear c0' f0';have TT:=Wrote.setCell (b:=w.heap.size) (o:=28) (R:=fun b _=>b=w.heap.size) (Wrote.setCell (b:=w.heap.size) (o:=27) (R:=fun b _=>b=w.heap.size) (Wrote.refl _ W2) (fun _=>rfl) (.bool d.hd)) (fun _=>rfl) (.i s');replace B1:=Ag B1 TT (fun o (h:_=_)=>by omega);replace B0:=Ai (o:=27) B0 (.bool d.hd);replace B0:=Ai (o:=28) B0 (.i s');simp only [List.setIfInBounds_toArray,List.set_cons_succ,List.set_cons_zero] at B0;replace HQ:=HQ.keepD TT (fun i b o h (e:b=_)=>by have:=bd0 _ _ h; omega) (fun o (e:_=_)=>by omega) (fun o (e:_=_)=>by omega);replace L0:=L0.trans (TT.below L0.size (fun b o hb (h:b=_)=>by omega));clear TT
  generalize (W2.setCell ⟨w.heap.size,27,none⟩ (.bool d.hd)).setCell ⟨w.heap.size,28,none⟩ (.i s')=W3 at *;have LA:Below W3.heap.size W3 (W3.alloc (.cells #[.i x] 3)):=(Below.refl _ _).alloc (Nat.le_refl _) _;have hE:=Aj (Al W3 #[.i x] 3) 0;have hbk:=Ae B1;have c0':=Aj (Aa B0 LA (Ae B0));have c0s:=Aj B0;have HQA:=Ac (HQ.below LA);have LXA:=Ac (Ah L0 LA);have B0A:=Ac (Aa B0 LA (Ae B0));have B1A:=Ac (Aa B1 LA (Ae B1));clear HQ L0 LA B0 B1;go_wp2_with (at_builtin; refine B4 _ rfl _ _ rfl lo g7 d.nq c7 d.rd rfl HQA.out.h7 hnq W3.heap.size x rfl hE ?_);intro g9 c9 W9 R9 hW hat9;clear c0' c0s hE
  replace hat9:(g9=g7∧d.nq+1≤c7)∨(W3.alloc (.cells #[.i x] 3)).heap.size≤g9:=by simpa using hat9
  have hs9:(W3.alloc (.cells #[.i x] 3)).heap.size=W3.heap.size+1:=by simp
  have HQN:=HQA.out.push (by have:=HQA.out.n7; omega) hW R9 hat9;have B0:=Ag B0A.out hW (fun o ⟨e,_⟩=>by omega);have B1:=Ag B1A.out hW (fun o ⟨e,_⟩=>by omega);have LW:Below lo w W9:=(LXA.out.mono hlo).trans (hW.below (Nat.le_trans hlo LXA.out.size) (fun b o hb ⟨e,_⟩=>by have:=HQA.out.h7.parts.1; omega))
  have hg9:g9≠w.heap.size∧g9≠w.heap.size+1:=by rcases hat9 with ⟨e,_⟩ | h <;> omega
  clear HQA LXA B0A B1A hW R9 hat9 hs9;have c0':=Aj B0;have f0':=Ar B0;go_upto_region 12 with (fail);clear c0' f0';rename_i K2 hK2;have TT:=Wrote.setCell (b:=w.heap.size) (o:=33) (R:=fun b _=>b=w.heap.size∨b=w.heap.size+1) (Wrote.refl _ W9) (fun _=>Or.inl rfl) (.slice (some ⟨g9,0,none⟩) (d.nq+1) c9);replace B1:=Ag B1 (Wrote.setCell (b:=w.heap.size) (o:=33) (R:=fun b _=>b=w.heap.size) (Wrote.refl _ W9) (fun _=>rfl) (.slice (some ⟨g9,0,none⟩) (d.nq+1) c9)) (fun o (h:_=_)=>by omega);replace B0:=Ai (o:=33) B0 (.slice (some ⟨g9,0,none⟩) (d.nq+1) c9);simp only [List.setIfInBounds_toArray,List.set_cons_succ,List.set_cons_zero] at B0;generalize W9.setCell ⟨w.heap.size,33,none⟩ (.slice (some ⟨g9,0,none⟩) (d.nq+1) c9)=W10 at *;refine wp_region_lit ?_
  refine wpList_load_row rfl _ _ rfl w.heap.size rfl _ _ _ _ B0 Tryz.underlying41 rfl Af ?_;refine wpList_plain rfl (fun K3 hK3=>?_);go_simp;refine hK3 _ _ ?_;clear hK3;refine wpList_store_row rfl _ _ _ rfl (w.heap.size+1) _ rfl rfl _ _ B1 Af rfl (by first | kernel_rfl | simp [Value.oneCell']) ?_;have B3:=setRow_heap _ _ _ (kR { d with sh:=s' } (.slice x0 d.m y0) (.slice x1 d.np y1) (.slice x2 d.nr y2) (.slice x3 d.nt y3) (.slice x4 d.nd y4) (.slice x5 d.mf y5) (.slice (some ⟨g6,0,none⟩) d.ns c6) (.slice (some ⟨g9,0,none⟩) (d.nq+1) c9)) _ _ B1
  have WW:=(An B1 (kR { d with sh:=s' } (.slice x0 d.m y0) (.slice x1 d.np y1) (.slice x2 d.nr y2) (.slice x3 d.nt y3) (.slice x4 d.nd y4) (.slice x5 d.mf y5) (.slice (some ⟨g6,0,none⟩) d.ns c6) (.slice (some ⟨g9,0,none⟩) (d.nq+1) c9))).mono (S:=fun b _=>b=w.heap.size∨b=w.heap.size+1) (fun b o _ h=>Or.inr h);generalize W10.setRow (w.heap.size+1) (kR { d with sh:=s' } (.slice x0 d.m y0) (.slice x1 d.np y1) (.slice x2 d.nr y2) (.slice x3 d.nt y3) (.slice x4 d.nd y4) (.slice x5 d.mf y5) (.slice (some ⟨g6,0,none⟩) d.ns c6) (.slice (some ⟨g9,0,none⟩) (d.nq+1) c9))=W11 at *;refine wpList_plain rfl (fun K4 hK4=>?_);go_simp;refine hK4 _ _ ?_;clear hK4;refine hK2 _ _ ?_;have HF:=Ac (HQN.keepD (TT.trans WW) (fun i b o h e=>by rcases h with ⟨-,rfl⟩ | ⟨-,h⟩; (omega); (have:=bd0 _ _ h; omega)) (fun o e=>by omega) (fun o e=>by omega))
  have LF:=Ac (LW.trans ((TT.trans WW).below (Nat.le_trans hlo LW.size) (fun b o hb e=>by omega)));clear HQN TT WW B0 B1 LW;go_wp2;refine bodyPost_ret (v:=.tuple #[.agg (kR { d with sh:=s' } (.slice x0 d.m y0) (.slice x1 d.np y1) (.slice x2 d.nr y2) (.slice x3 d.nt y3) (.slice x4 d.nd y4) (.slice x5 d.mf y5) (.slice (some ⟨g6,0,none⟩) d.ns c6) (.slice (some ⟨g9,0,none⟩) (d.nq+1) c9)),.i x]) (Au Tryz.results21 _ _ (w.heap.size+1) _ _ _ _ rfl B3 Tryz.underlying41 rfl Af) rfl ?_;exact ⟨_,rfl,HF.out.ow,LF.out⟩
 have HV:Hid (Bo d a=Dr d.m d.f d.g d.bank (a%65536)∧Bd d a=d):=by
  have e2:¬ rgN (a%65536)=2:=by rw [← hrg.out]; exact r2
  have e3:¬ rgN (a%65536)=3:=by rw [← hrg.out]; exact r3
  have e4:¬ rgN (a%65536)=4:=by rw [← hrg.out]; exact r4
  show _∧_
  unfold Bd Bo;rw [if_neg e2,if_neg e3,if_neg e4,if_neg e2,if_neg e3,if_neg e4];exact ⟨rfl,rfl⟩
 rw [HV.out.1,HV.out.2];clear HV hrg hat;have q2:(rg==2)=false:=beq_eq_false_iff_ne.2 r2;have q3:(rg==3)=false:=beq_eq_false_iff_ne.2 r3;have q4:(rg==4)=false:=beq_eq_false_iff_ne.2 r4;clear r2 r3 r4
 obtain ⟨x,hx⟩:∃ x,Hid (x=Dr d.m d.f d.g d.bank (a%65536)):=⟨_,rfl⟩
 have HP:=Ac (fun W F G v u h k=>Ro W F G v u d.m d.ln d.f d.nr d.g d.bank a h k okm);rw [← hx.out] at HP;rw [← hx.out];clear hx
 go_enter Tryz.func21,Tryz.ntmps21
 go_wp2_with fail;generalize (w.alloc (.cells (kR d (.slice x0 d.m y0) (.slice x1 d.np y1) (.slice x2 d.nr y2) (.slice x3 d.nt y3) (.slice x4 d.nd y4) (.slice x5 d.mf y5) (.slice (some ⟨g6,0,none⟩) d.ns c6) (.slice (some ⟨g7,0,none⟩) d.nq c7)) 41)).alloc (.cells zR 41)=W0 at *;refine (HG.out _).mono ?_;rintro e W1 ⟨rfl,rfl⟩;go_upto_region 4 with (fail);rename_i K2 hK2;have hb1:=Ae B1;obtain ⟨y2',hy2,I2⟩:=HQ.h2.ints;simp only [Value.agg.injEq,Array.mk.injEq,List.cons.injEq,and_true] at hy2;subst hy2;have I0:=HQ.h0.ints
 refine Bi [some 15,some 16,some 17,some 18,some 19,some 20,some 21,none,some 5] (by kernel_rfl) (by kernel_rfl) (by kernel_rfl) (by kernel_rfl) (by simp [slotsOf])
  (fun j b _=>j=7∧b=w.heap.size+1)
  (fun i v W=>match i with
   | 0=>v=.agg (kR d (.slice x0 d.m y0) (.slice x1 d.np y1) (.slice x2 d.nr y2) (.slice x3 d.nt y3) (.slice x4 d.nd y4) (.slice x5 d.mf y5) (.slice (some ⟨g6,0,none⟩) d.ns c6) (.slice (some ⟨g7,0,none⟩) d.nq c7))
   | 1=>v=(pt w.heap.size 0)
   | 2=>v=.agg #[.slice x0 d.m y0]
   | 3=>v=(pt w.heap.size 2)
   | 4=>v=.agg #[.slice x2 d.nr y2,.i d.bank]
   | 5=>v=.i a
   | 6=>v=.i x
   | 7=>W.heap[w.heap.size+1]?=some (.cells (kR d (.slice x0 d.m y0) (.slice x1 d.np y1) (.slice x2 d.nr y2) (.slice x3 d.nt y3) (.slice x4 d.nd y4) (.slice x5 d.mf y5) (.slice (some ⟨g6,0,none⟩) d.ns c6) (.slice (some ⟨g7,0,none⟩) d.nq c7)) 41 (0,0))
   | _=>v=.i x) ?_ ?_ ?_
 ·intro i j o v W W' hij _ _ hW h
  match i,hij,h with
  | 0,_,h=>exact h
  | 1,_,h=>exact h
  | 2,_,h=>exact h
  | 3,_,h=>exact h
  | 4,_,h=>exact h
  | 5,_,h=>exact h
  | 6,_,h=>exact h
  | 7,hij,h=>exact Ag h hW (fun o e=>hij e.1.symm)
  | _+8,_,h=>exact h
 ·intro i o a' W K ho F L hw hK
  have t1:=F.get (t:=1) (v:=.i a) (by decide) rfl;have t2:=F.get (t:=2) (v:=(pt w.heap.size 0)) (by decide) rfl;have t4:=F.get (t:=4) (v:=(pt (w.heap.size+1) 0)) (by decide) rfl;have LW:Below (w.heap.size+1) W1 W:=L.below (by omega) (fun b o hb ⟨j,_,_,_,_,_,e⟩=>by omega);have rB:=Aa B0 LW (by omega);have rb:=Aj rB
  match i with
  | 0 =>
    cases ho;refine wp_load_row _ _ rfl w.heap.size (by simpa [Act.eval] using t2) _ _ _ _ rB Tryz.underlying41 rfl Af ?_;exact Hk hK rfl
  | 1 =>
    cases ho;go_simp;exact Hk hK rfl
  | 2 =>
    cases ho;have q1:tv a' 16=_:=Hr hw 1;go_simp;exact Hk hK rfl
  | 3 =>
    cases ho;go_simp;exact Hk hK rfl
  | 4 =>
    cases ho;have q1:tv a' 18=_:=Hr hw 3;go_simp;exact Hk hK rfl
  | 5 =>
    cases ho;go_simp;exact Hk hK rfl
  | 6 =>
    cases ho;have p2:a'.tmps[17]?.getD undef=_:=Hr hw 2;have p4:a'.tmps[19]?.getD undef=_:=Hr hw 4;have p5:a'.tmps[20]?.getD undef=_:=Hr hw 5;go_simp;refine (HP.out W _ _ _ _ (I0.keep L (fun b o hb ⟨j,_,_,_,_,_,e⟩=>by have:=bd0 _ _ hb; omega)) (I2.keep L (fun b o hb ⟨j,_,_,_,_,_,e⟩=>by have:=bd0 _ _ hb; omega))).mono ?_;rintro e W' ⟨rfl,LX⟩;exact hK _ _ (Ab LX _) rfl
  | 7 =>
    cases ho;have p0:a'.tmps[15]?.getD undef=_:=Hr hw 0;have rB1:=Ag B1 L (fun o ⟨j,_,hj,_,_,e,_⟩=>hj e);refine wp_store_row _ _ _ rfl (w.heap.size+1) (kR d (.slice x0 d.m y0) (.slice x1 d.np y1) (.slice x2 d.nr y2) (.slice x3 d.nt y3) (.slice x4 d.nd y4) (.slice x5 d.mf y5) (.slice (some ⟨g6,0,none⟩) d.ns c6) (.slice (some ⟨g7,0,none⟩) d.nq c7)) (by simpa [Act.eval] using t4) (by simpa [Act.eval] using p0) _ _ rB1 Af rfl (by first | kernel_rfl | simp [Value.oneCell']) ?_;exact hK undef _ ((An rB1 _).mono (fun b o _ h=>⟨rfl,h⟩)) (setRow_heap _ _ _ _ _ _ rB1)
  | 8 =>
    cases ho;have p6:a'.tmps[21]?.getD undef=_:=Hr hw 6;go_simp;exact Hk hK rfl
  | _+9=>simp at ho
 ·intro a' W F L hφ
  have p7:W.heap[w.heap.size+1]?=some (.cells (kR d (.slice x0 d.m y0) (.slice x1 d.np y1) (.slice x2 d.nr y2) (.slice x3 d.nt y3) (.slice x4 d.nd y4) (.slice x5 d.mf y5) (.slice (some ⟨g6,0,none⟩) d.ns c6) (.slice (some ⟨g7,0,none⟩) d.nq c7)) 41 (0,0)):=Hd hφ 7;have p8:a'.tmps[5]?.getD undef=_:=Hd hφ 8;have HF:=Ac (HQ.keepD L (fun i b o h ⟨j,_,e⟩=>by have:=bd0 _ _ h; omega) (fun o ⟨j,_,e⟩=>by omega) (fun o ⟨j,_,e⟩=>by omega));have LF:=Ac ((L0.trans (L.below L0.size (fun b o hb ⟨j,_,e⟩=>by omega))).mono hlo);rw [F.same,show slotsOf [some 15,some 16,some 17,some 18,some 19,some 20,some 21,none,some 5]=[15,16,17,18,19,20,21,5] from rfl];simp only [List.foldl_cons,List.foldl_nil];rw [p8];generalize a'.tmps[15]?.getD undef=s15;generalize a'.tmps[16]?.getD undef=s16;generalize a'.tmps[17]?.getD undef=s17
  generalize a'.tmps[18]?.getD undef=s18;generalize a'.tmps[19]?.getD undef=s19;generalize a'.tmps[20]?.getD undef=s20;generalize a'.tmps[21]?.getD undef=s21;clear hφ L F p8 HQ L0 B0 B1 I0 I2;refine hK2 _ _ ?_;go_simp;go_wp2;refine bodyPost_ret (v:=.tuple #[.agg (kR d (.slice x0 d.m y0) (.slice x1 d.np y1) (.slice x2 d.nr y2) (.slice x3 d.nt y3) (.slice x4 d.nd y4) (.slice x5 d.mf y5) (.slice (some ⟨g6,0,none⟩) d.ns c6) (.slice (some ⟨g7,0,none⟩) d.nq c7)),.i x]) (Au Tryz.results21 _ _ (w.heap.size+1) _ _ _ _ rfl p7 Tryz.underlying41 rfl Af) rfl ?_;exact ⟨_,rfl,HF.out.ow,LF.out⟩
end Go.Proofs.YtjnjnppongdhgaaGreat
