import Derived.Test.YtfjieibndedngaaGreatD5
import Derived.Test.YtfjieibndedngaaGreatE8b
import Derived.Test.YtfjieibndedngaaGreatKD
import Derived.Test.YtfjieibndedngaaGreatN8
import Derived.Lib.LazyBuf
import Derived.Handy
namespace Go.Proofs.YtfjieibndedngaaGreat
open Go.ChangeShapes Go.WideShapes Go.ChangeAt Go.RowKit
def part (m:Nat) (f:Nat→Nat→Int) (k j:Nat):Int:=if j<6+k then Wh m f 0 j else 0
set_option linter.unusedVariables false
structure Do (c:Nat) (w w':World):Prop where
 wrote:Wrote (fun b _=>b=c) w w'
 size:w'.heap.size=w.heap.size
theorem Do.refl (c:Nat) (w:World):Do c w w:=⟨Wrote.refl _ _,rfl⟩
theorem Do.trans {c:Nat} {u v w:World} (h:Do c u v) (k:Do c v w):Do c u w:=⟨h.wrote.trans k.wrote,k.size.trans h.size⟩
theorem Do.drewN {c:Nat} {u w:World} (h:Do c u w) (n:Nat):Do c u (w.drewN n):=⟨h.wrote.drewN n,h.size⟩
theorem Do.drew {c:Nat} {u w:World} (h:Do c u w):Do c u w.drew:=⟨h.wrote.drew,h.size⟩
theorem Do.setCell {c:Nat} {u w:World} (h:Do c u w) {o:Nat} (x:Value):Do c u (w.setCell ⟨c,o,none⟩ x):=⟨h.wrote.setCell (fun _=>rfl) x,by simpa [World.setCell] using h.size⟩
theorem Do.only {c:Nat} {w w':World} (h:Do c w w'):A1 c w w':=⟨h.wrote.os,h.wrote.tape,h.wrote.output,h.size,fun k hk=>by
 rcases Nat.lt_or_ge k w.heap.size with l | l
 ·exact h.wrote.block k l (fun _=>hk)
 ·rw [Array.getElem?_eq_none l,Array.getElem?_eq_none (by rw [h.size]; exact l)]⟩
theorem Do.step {c:Nat} {w w':World} (h:Do c w w'):Step c w w':=h.only.step
set_option linter.unusedSimpArgs false
structure LP (w W:World) (B c:Nat) (a:Option Addr) (len cap g n x:Nat) (f:Nat→Int):Prop where
 row:Row W w.heap.size g n x f
 cur:Dc W B c a len cap
 step:Step c w W
theorem LP.lt {w W:World} {B c:Nat} {a:Option Addr} {len cap g n x:Nat} {f:Nat→Int} (h:LP w W B c a len cap g n x f) (hc:c<w.heap.size):c<W.heap.size:=Nat.lt_of_lt_of_le hc h.step.size
theorem LP.moved {w W W':World} {B c:Nat} {a:Option Addr} {len cap g n x:Nat} {f:Nat→Int} (h:LP w W B c a len cap g n x f) (hc:c<w.heap.size) (M:Step c W W') (H:Dc W' B c a len cap):LP w W' B c a len cap g n x f :=
 ⟨h.row.block (M.block g h.row.parts.2.1 (by have:=h.row.parts.1; omega)),H,h.step.trans M⟩
theorem LP.below {w W W':World} {B c:Nat} {a:Option Addr} {len cap g n x:Nat} {f:Nat→Int} (h:LP w W B c a len cap g n x f) (hc:c<w.heap.size) (M:Below W.heap.size W W'):LP w W' B c a len cap g n x f :=
 h.moved hc (By M (Nat.le_refl _)) (h.cur.below M (h.lt hc))
theorem LP.push {w W W':World} {B c:Nat} {a:Option Addr} {len cap g n x:Nat} {f:Nat→Int} (h:LP w W B c a len cap g n x f) (hc:c<w.heap.size) {g' n' x':Nat} {f':Nat→Int} (R:Row W' w.heap.size g' n' x' f') (WW:Wrote (fun b _=>b=g) W W'):LP w W' B c a len cap g' n' x' f':=by
 have hg:=h.row.parts.1;exact ⟨R,h.cur.below (WW.below (B:=w.heap.size) h.step.size (fun b o hb e=>by omega)) hc,⟨WW.os.trans h.step.os,WW.tape.trans h.step.tape,WW.output.trans h.step.output,Nat.le_trans h.step.size WW.size,fun k hk hkc=>(WW.block k (Nat.lt_of_lt_of_le hk h.step.size) (fun o e=>by omega)).trans (h.step.block k hk hkc)⟩⟩
structure Bytes (w:World) (a:Option Addr) (n:Nat) (f:Nat→Int):Prop where
 row:Bv .u8 w a n f
 len:n≤1048576
 byte:∀ i,i<n→0≤f i∧f i≤255
theorem Uz (x:Int):1≤opLn x∧opLn x≤3:=by
 have key:∀ i:Nat,i<30→1≤Dd.getD i 1∧Dd.getD i 1≤3:=by decide
 unfold opLn
 by_cases h:0≤x∧x≤29
 ·rw [if_pos h]
  exact key x.toNat (by omega)
 ·rw [if_neg h]
  omega
structure Bd where
 A:Int
 X:Int
 S:Int
 Pc:Int
 Z:Bool
 N:Bool
 C:Bool
 I:Bool
def Bd.v (c:Bd):Value:=.agg (cR c.A c.X c.S c.Pc c.Z c.N c.C c.I)
def setAc (c:Bd) (x:Int):Bd:={ c with A:=x%256,Z:=x%256==0,N:=decide (127<x%256) }
def Q2 (c:Bd) (x:Int):Bd:={ c with X:=x%256,Z:=x%256==0,N:=decide (127<x%256) }
def addC (c:Bd) (v:Int):Bd:={ setAc c ((c.A%256+v%256+Bc c.C)%256) with C:=decide (255<c.A%256+v%256+Bc c.C) }
def Wl (c:Bd) (v:Int):Bd:={ setAc c ((c.A%256-v%256-1+Bc c.C)%256) with C:=decide (0≤c.A%256-v%256-1+Bc c.C) }
def Wm (c:Bd) (v:Int):Bd:={ c with Z:=(c.A%256-v%256)%256==0,N:=decide (127<(c.A%256-v%256)%256),C:=decide (v%256≤c.A%256) }
def Gy (op:Int):Bool:=decide (op=1∨op=2∨op=14∨op=4∨op=29∨op=5∨op=6∨op=7∨op=8∨op=9∨op=10∨op=11∨op=12∨op=13)
def aluC (c:Bd) (op arg v:Int):Bd :=
 if op=1 then setAc c arg else if op=2∨op=14 then setAc c v else if op=4 then addC c arg else if op=29 then addC c v else if op=5 then Wl c arg
 else if op=6 then setAc c (bits .and .i64 (c.A%256) (arg%256)) else if op=7 then setAc c (bits .or .i64 (c.A%256) (arg%256)) else if op=8 then setAc c (bits .xor .i64 (c.A%256) (arg%256))
 else if op=9 then Wm c arg else if op=10 then Q2 c c.A else if op=11 then setAc c c.X else if op=12 then Q2 c (c.X%256+1) else if op=13 then Q2 c (c.X%256-1) else c
def Dw (g:Nat→Int) (S:Int):Int:=g (256+(S+1)%256).toNat%256
def Lm (g:Nat→Int) (c:Bd):Bd:={ c with S:=((c.S+1)%256+1)%256,Pc:=Dw g c.S%256+256*(Dw g ((c.S+1)%256)%256) }
def nextC (c:Bd) (op:Int):Bd:={ c with Pc:=(c.Pc+opLn op)%65536 }
def Ex (g:Nat→Int) (c:Bd) (op arg v:Int):Bd :=
 if Gy op=true then aluC (nextC c op) op arg v else if op=16 then (if c.Z=true then nextC c 16 else { nextC c 16 with Pc:=arg%65536 }) else if op=17 then (if c.Z=true then { nextC c 17 with Pc:=arg%65536 } else nextC c 17) else if op=18 then (if c.C=true then { nextC c 18 with Pc:=arg%65536 } else nextC c 18) else if op=19 then { nextC c 19 with Pc:=arg%65536 }
 else if op=20 then { nextC c 20 with S:=dec8 (dec8 c.S),Pc:=arg%65536 } else if op=21 then Lm g (nextC c 21) else if op=22 then { nextC c 22 with S:=dec8 c.S } else if op=23 then setAc { nextC c 23 with S:=(c.S+1)%256 } (Dw g c.S)
 else if op=24 then Lm g { nextC c 24 with S:=(c.S+1)%256,Z:=hasB (Dw g c.S) 2,N:=hasB (Dw g c.S) 128,C:=hasB (Dw g c.S) 1,I:=hasB (Dw g c.S) 4 } else if op=25 then { nextC c 25 with I:=true } else if op=26 then { nextC c 26 with I:=false } else if op=27 then { nextC c 27 with C:=true } else if op=28 then { nextC c 28 with C:=false } else nextC c op
def Ge (g:Nat→Int) (c:Bd) (op:Int):Nat→Int:=if op=20 then Eg (Eg g c.S ((nextC c 20).Pc/256)) (dec8 c.S) (nextC c 20).Pc else if op=22 then Eg g c.S c.A else g
theorem To {op:Int} (h:Gy op=true):¬ op=20∧¬ op=22:=by
 unfold Gy at h;have:=of_decide_eq_true h
 omega
theorem Om (W:World) {o:Oper} {a:Act} {K:Act→World→Prop} {Q:Exit→Act→World→Prop} (s x:Operand) (hop:o.op=Op.call { callee:=Callee.builtin Builtin.append,args:=#[s,x],argTypes:=#[25,25] })
  (lo g n c:Nat) (f:Nat→Int) (hs:a.eval s=.slice (some ⟨g,0,none⟩) n c) (R:Row W lo g n c f) (hn:n<1048576) (q:Nat) (y:Int) (hx:a.eval x=.slice (some ⟨q,0,none⟩) 1 1) (hq:W.cell? ⟨q,0,none⟩=some (.i y))
  (h:∀ g' c' W',Row W' lo g' (n+1) c' (snoc f n y)→Wrote (fun b _=>b=g∧n+1≤c) W W'→((g'=g∧n+1≤c)∨W.heap.size≤g')→K (a.put o.dst (.slice (some ⟨g',0,none⟩) (n+1) c')) W'):o.wp Tryz.prog a W K Q:=by
 obtain ⟨i0,hi,hz0,hz1,hz2⟩:=info_parts info3;have hp:=R.parts
 have hnews:∀ j u,[Value.i y][j]?=some u→W.cell? ((⟨q,0,none⟩:Addr).add j)=some u:=fun j u hh=>by
  cases j with
  | zero=>simp at hh; rw [← hh]; exact hq
  | succ j=>simp at hh
 by_cases hr:n+1≤c
 ·have hsp:(W.cell? ⟨g,n,none⟩).isSome=true∧W.frozen? ⟨g,n,none⟩=false:=by
   rcases R.own.2 with ⟨e,_⟩ | ⟨g',cap,cur,hv,hb,hg,h1,h2,h3,h4⟩
   ·cases e
   ·simp only [Value.slice.injEq,Option.some.injEq,Addr.mk.injEq,and_true,true_and] at hv
    obtain ⟨rfl,rfl⟩:=hv;refine ⟨?_,Ax hg n⟩;rw [Aj hg n,Array.getElem?_eq_getElem (by omega)]
    rfl
  have hrun:=run_append_room_cells (P:=Tryz.prog) W 25 o.type 3 i0 Tryz.underlying25 hi g 0 n c ⟨q,0,none⟩ 1 1 [.i y] (by rw [hz1]; rfl) hnews (fun u hu=>by simp at hu; rw [hu]; rfl) hr
   (fun j hj=>by have:j=0:=(by simpa using hj); subst this; rw [hz1]; simpa using hsp.1) (fun j hj=>by have:j=0:=(by simpa using hj); subst this; rw [hz1]; simpa using hsp.2)
  rw [hz1] at hrun;unfold Oper.wp
  simp [execOp,hop,resolve,invoke,builtin,hs,hx,hrun,Result.andThen,World.setCells]
  exact h g c _ (R.more hr hn y) (Wrote.setCell (R:=fun b _=>b=g∧n+1≤c) (Wrote.refl _ W) (fun _=>⟨rfl,hr⟩) _) (Or.inl ⟨rfl,hr⟩)
 ·obtain ⟨v',w',hrun,r1,r2⟩:=run_append_arg_grows (P:=Tryz.prog) W 25 o.type 3 i0 (.i 0) 1 8 Tryz.underlying25 hi hz0 hz1 hz2 rfl (by decide) ⟨g,0,none⟩ n c (rowVals n f) (by rw [Bi,Nat.mul_one]) (Dx R.sl.row) ⟨q,0,none⟩ 1 1 [.i y] rfl hnews (by omega) (by unfold maxLen; omega) (by omega)
  rw [Fw] at r1;obtain ⟨g',cap2,rfl,hg,hlt⟩:=r1.form (by omega);have L:Below W.heap.size W w':=(Below.refl _ _).grown r2 (Nat.le_refl _) (fun _ e=>by cases e);unfold Oper.wp
  simp [execOp,hop,resolve,invoke,builtin,hs,hx,hrun,Result.andThen]
  exact h g' cap2 w' ((Row.mk r1 (by omega)).mono (by omega)) (Aa L _) (Or.inr hg)
theorem Da (W:World) {ops:Array Oper} {rest:List Oper} {o:Oper} {a:Act} {Q:Exit→Act→World→Prop} (hg:o.guard=none) (s x:Operand) (hop:o.op=Op.call { callee:=Callee.builtin Builtin.append,args:=#[s,x],argTypes:=#[25,25] })
  (lo g n c:Nat) (f:Nat→Int) (hs:a.eval s=.slice (some ⟨g,0,none⟩) n c) (R:Row W lo g n c f) (hn:n<1048576) (q:Nat) (y:Int) (hx:a.eval x=.slice (some ⟨q,0,none⟩) 1 1) (hq:W.cell? ⟨q,0,none⟩=some (.i y))
  (h:∀ g' c' W',Row W' lo g' (n+1) c' (snoc f n y)→Wrote (fun b _=>b=g∧n+1≤c) W W'→((g'=g∧n+1≤c)∨W.heap.size≤g')→wpList Tryz.prog ops Q rest (a.put o.dst (.slice (some ⟨g',0,none⟩) (n+1) c')) W'):wpList Tryz.prog ops Q (o :: rest) a W :=
 wpList_plain hg fun K hK=>Om W s x hop lo g n c f hs R hn q y hx hq (fun g c W' r1 r2 r3=>hK _ _ (h g c W' r1 r2 r3))
theorem Row.room {W:World} {lo g n c:Nat} {f:Nat→Int} (h:Row W lo g n c f):(W.heap[g]?.map fun o=>match o with | .cells cs _ _=>cs.size | _=>0)=some c:=by
 rcases h.own.2 with ⟨e,_⟩ | ⟨g',cap,cur,hv,hb,hg,h1,h2,h3,h4⟩
 ·cases e
 ·simp only [Value.slice.injEq,Option.some.injEq,Addr.mk.injEq,and_true,true_and] at hv
  obtain ⟨rfl,rfl⟩:=hv;rw [hg]
  simp
  omega
structure Av (W:World) (lo N:Nat) (D:Nat→Nat→Prop) (u0 u1 u2 u3 u4 ov:Value) (gb cp:Nat→Nat) (g6 c6 g7 c7:Nat) (d:Am):Prop where
 h0:Ck W (D 0) u0 d.m d.ln d.f
 h1:Bg W (D 1) u1 d.np d.p
 h2:Bn W (D 2) (.agg #[u2,.i d.bank]) d.nr d.g d.bank
 h3:Bt W (D 3) (.agg (pR d.t d.c d.s d.ad d.pl d.bl u3 u4)) d.t d.c d.s d.ad d.pl d.bl d.nt d.tb d.nd d.dt
 h4:SG W lo ov d.mf gb cp d.lf d.fr
 h4D:∀ b,(ov.ownBlock=some b∨∃ i,i<d.mf∧gb i=b)→D 4 b
 h6:Row W lo g6 d.ns c6 d.sm
 h6D:D 5 g6∨(d.ns=0∧c6=0)
 h7:Row W lo g7 d.nq c7 d.rd
 h7D:D 6 g7∨(d.nq=0∧c7=0)
 dis:T9 D
 bd:∀ i b,D i b→lo≤b∧b<N
 n6:g6<N
 n7:g7<N
 nN:N≤W.heap.size
 hps:Cv d.lf d.mf≤1099511627776
section
variable {R:Nat→Nat→Prop} {W W':World} {lo N:Nat} {D:Nat→Nat→Prop} {u0 u1 u2 u3 u4 ov:Value} {gb cp:Nat→Nat} {g6 c6 g7 c7:Nat} {d:Am}
theorem Av.ow (H:Av W lo N D u0 u1 u2 u3 u4 ov gb cp g6 c6 g7 c7 d):Ct W lo (.agg (kR d u0 u1 u2 u3 u4 ov (.slice (some ⟨g6,0,none⟩) d.ns c6) (.slice (some ⟨g7,0,none⟩) d.nq c7))) d :=
 ⟨D,u0,u1,u2,u3,u4,ov,gb,cp,g6,c6,g7,c7,rfl,H.h0,H.h1,H.h2,H.h3,H.h4,H.h4D,H.h6,H.h6D,H.h7,H.h7D,H.dis,fun i b h=>⟨(H.bd i b h).1,Nat.lt_of_lt_of_le (H.bd i b h).2 H.nN⟩,H.hps⟩
theorem Av.of {v:Value} (H:Ct W lo v d):∃ D u0 u1 u2 u3 u4 ov gb cp g6 c6 g7 c7,v=.agg (kR d u0 u1 u2 u3 u4 ov (.slice (some ⟨g6,0,none⟩) d.ns c6) (.slice (some ⟨g7,0,none⟩) d.nq c7))∧Av W lo W.heap.size D u0 u1 u2 u3 u4 ov gb cp g6 c6 g7 c7 d:=by
 obtain ⟨D,u0,u1,u2,u3,u4,ov,gb,cp,g6,c6,g7,c7,e,h0,h1,h2,h3,h4,h4D,h6,h6D,h7,h7D,dis,bd,hps⟩:=H;exact ⟨D,u0,u1,u2,u3,u4,ov,gb,cp,g6,c6,g7,c7,e,h0,h1,h2,h3,h4,h4D,h6,h6D,h7,h7D,dis,bd,h6.parts.2.1,h7.parts.2.1,Nat.le_refl _,hps⟩
theorem Av.keep (H:Av W lo N D u0 u1 u2 u3 u4 ov gb cp g6 c6 g7 c7 d) (hw:Wrote R W W') (hn:∀ b o,b<N→¬ R b o):Av W' lo N D u0 u1 u2 u3 u4 ov gb cp g6 c6 g7 c7 d :=
 ⟨H.h0.keep hw (fun b o h _=>hn b o (H.bd _ b h).2),H.h1.keep hw (fun b o h _=>hn b o (H.bd _ b h).2),H.h2.keep hw (fun b o h _=>hn b o (H.bd _ b h).2),H.h3.keep hw (fun b o h _=>hn b o (H.bd _ b h).2),H.h4.keep hw (fun g o hg=>hn g o (H.bd _ g (H.h4D g (Or.inl hg))).2) (fun i o hi=>hn _ o (H.bd _ _ (H.h4D _ (Or.inr ⟨i,hi,rfl⟩))).2),H.h4D,H.h6.keep hw (fun o=>hn _ o H.n6),H.h6D,H.h7.keep hw (fun o=>hn _ o H.n7),H.h7D,H.dis,H.bd,H.n6,H.n7,Nat.le_trans H.nN hw.size,H.hps⟩
theorem Av.keepD (H:Av W lo N D u0 u1 u2 u3 u4 ov gb cp g6 c6 g7 c7 d) (hw:Wrote R W W') (hd:∀ i b o,D i b→¬ R b o) (k6:∀ o,¬ R g6 o) (k7:∀ o,¬ R g7 o):Av W' lo N D u0 u1 u2 u3 u4 ov gb cp g6 c6 g7 c7 d :=
 ⟨H.h0.keep hw (fun b o h _=>hd _ b o h),H.h1.keep hw (fun b o h _=>hd _ b o h),H.h2.keep hw (fun b o h _=>hd _ b o h),H.h3.keep hw (fun b o h _=>hd _ b o h),H.h4.keep hw (fun g o hg=>hd _ g o (H.h4D g (Or.inl hg))) (fun i o hi=>hd _ _ o (H.h4D _ (Or.inr ⟨i,hi,rfl⟩))),H.h4D,H.h6.keep hw k6,H.h6D,H.h7.keep hw k7,H.h7D,H.dis,H.bd,H.n6,H.n7,Nat.le_trans H.nN hw.size,H.hps⟩
theorem Av.below (H:Av W lo N D u0 u1 u2 u3 u4 ov gb cp g6 c6 g7 c7 d) (L:Below W.heap.size W W'):Av W' lo N D u0 u1 u2 u3 u4 ov gb cp g6 c6 g7 c7 d:=H.keep (Aa L Ah) (fun _ _ _ x=>x)
theorem Av.ppu (H:Av W lo N D u0 u1 u2 u3 u4 ov gb cp g6 c6 g7 c7 d) {p q:Nat} {w3 w4:Value} {c s ad pl:Int} {t:Int} {bl:Bool} {nt nd:Nat} {tb dt:Nat→Int} (hP:Bt W (fun b=>p≤b∧b<q) (.agg (pR t c s ad pl bl w3 w4)) t c s ad pl bl nt tb nd dt) (hp:N≤p) (hl:lo≤N) (hpq:p≤q) (hq:q≤W.heap.size) :
  Av W lo q (fun i b=>(i=3∧p≤b∧b<q)∨(i≠3∧D i b)) u0 u1 u2 w3 w4 ov gb cp g6 c6 g7 c7 { d with t:=t,c:=c,s:=s,ad:=ad,pl:=pl,bl:=bl,nt:=nt,tb:=tb,nd:=nd,dt:=dt }:=by
 have nN:=H.nN;refine ⟨H.h0.mono (fun b _ h=>Or.inr ⟨by decide,h⟩),H.h1.mono (fun b _ h=>Or.inr ⟨by decide,h⟩),H.h2.mono (fun b _ h=>Or.inr ⟨by decide,h⟩),hP.mono (fun b _ h=>Or.inl ⟨rfl,h⟩),H.h4,fun b h=>Or.inr ⟨by decide,H.h4D b h⟩,H.h6,?_,H.h7,?_,?_,?_,by have:=H.n6; omega,by have:=H.n7; omega,hq,H.hps⟩
 ·rcases H.h6D with h | h
  ·exact Or.inl (Or.inr ⟨by decide,h⟩)
  ·exact Or.inr h
 ·rcases H.h7D with h | h
  ·exact Or.inl (Or.inr ⟨by decide,h⟩)
  ·exact Or.inr h
 ·intro i j b h1 h2
  rcases h1 with ⟨rfl,_,_⟩ | ⟨n1,h1⟩ <;> rcases h2 with ⟨rfl,_,_⟩ | ⟨n2,h2⟩
  ·rfl
  ·have:=H.bd _ _ h2; omega
  ·have:=H.bd _ _ h1; omega
  ·exact H.dis _ _ _ h1 h2
 ·intro i b h
  rcases h with ⟨rfl,_,_⟩ | ⟨_,h⟩
  ·omega
  ·have:=H.bd _ _ h; omega
theorem Av.push (H:Av W lo N D u0 u1 u2 u3 u4 ov gb cp g6 c6 g7 c7 d) (hl:lo≤N) {g' c':Nat} {x:Int} (hw:Wrote (fun b _=>b=g7∧d.nq+1≤c7) W W') (R7:Row W' lo g' (d.nq+1) c' (snoc d.rd d.nq x)) (hat:(g'=g7∧d.nq+1≤c7)∨W.heap.size≤g') :
  Av W' lo W'.heap.size (fun i b=>(i=6∧b=g')∨(i≠6∧D i b)) u0 u1 u2 u3 u4 ov gb cp g6 c6 g' c' { d with nq:=d.nq+1,rd:=snoc d.rd d.nq x }:=by
 have nN:=H.nN;have hz:=hw.size
 have far:∀ i b (o:Nat),i≠6→D i b→¬ (b=g7∧d.nq+1≤c7):=fun i b o hi hb ⟨e,hc⟩=>by
  rcases H.h7D with h | h
  ·exact hi (H.dis i 6 b hb (e ▸ h))
  ·omega
 have f6:∀ (o:Nat),¬ (g6=g7∧d.nq+1≤c7∧0<c6):=fun o ⟨e,hc,h0⟩=>by
  rcases H.h6D with h | h
  ·exact far 5 g6 o (by decide) h ⟨e,hc⟩
  ·omega
 have K6:Row W' lo g6 d.ns c6 d.sm:=by
  by_cases e:g6=g7∧d.nq+1≤c7
  ·exfalso
   have hc6:c6=0:=by
    by_cases h:0<c6
    ·exact absurd ⟨e.1,e.2,h⟩ (f6 0)
    ·omega
   have p6:=H.h6.room;have p7:=H.h7.room;rw [e.1,p7] at p6;have:=Option.some.inj p6
   omega
  ·exact H.h6.keep hw (fun o h=>e h)
 refine ⟨(H.h0.keep hw (fun b o h _=>far 0 b o (by decide) h)).mono (fun b _ h=>Or.inr ⟨by decide,h⟩),(H.h1.keep hw (fun b o h _=>far 1 b o (by decide) h)).mono (fun b _ h=>Or.inr ⟨by decide,h⟩),(H.h2.keep hw (fun b o h _=>far 2 b o (by decide) h)).mono (fun b _ h=>Or.inr ⟨by decide,h⟩),(H.h3.keep hw (fun b o h _=>far 3 b o (by decide) h)).mono (fun b _ h=>Or.inr ⟨by decide,h⟩),
  H.h4.keep hw (fun g o hg=>far 4 g o (by decide) (H.h4D g (Or.inl hg))) (fun i o hi=>far 4 _ o (by decide) (H.h4D _ (Or.inr ⟨i,hi,rfl⟩))),fun b h=>Or.inr ⟨by decide,H.h4D b h⟩,K6,?_,R7,Or.inl (Or.inl ⟨rfl,rfl⟩),?_,?_,by have:=H.n6; omega,R7.parts.2.1,Nat.le_refl _,H.hps⟩
 ·rcases H.h6D with h | h
  ·exact Or.inl (Or.inr ⟨by decide,h⟩)
  ·exact Or.inr h
 ·intro i j b h1 h2
  have key:∀ i,i≠6→D i g'→False:=fun i hi h=>by
   rcases hat with ⟨e,hc⟩ | h'
   ·exact far i g' 0 hi h ⟨e,hc⟩
   ·have:=H.bd _ _ h; omega
  rcases h1 with ⟨rfl,rfl⟩ | ⟨n1,h1⟩ <;> rcases h2 with ⟨rfl,e⟩ | ⟨n2,h2⟩
  ·rfl
  ·exact absurd h2 (fun h=>key j n2 h)
  ·subst e; exact absurd h1 (fun h=>key i n1 h)
  ·exact H.dis _ _ _ h1 h2
 ·intro i b h
  rcases h with ⟨rfl,rfl⟩ | ⟨_,h⟩
  ·exact ⟨R7.parts.1,R7.parts.2.1⟩
  ·have:=H.bd _ _ h; omega
end
structure Cl (w:World) (lo:Nat) (v:Value) (m:Nat) (ra:Nat→Option Addr) (ln rc:Nat→Nat) (f:Nat→Nat→Int):Prop where
 sep:Vw w v m ra ln rc
 rows:∀ i,i<m→Bv .i64 w (ra i) (ln i) (f i)
 inner:∀ i,i<m→∀ b o,Cd (ra i) (ln i) b o→lo≤b
 outer:∀ a cap,v=.slice a m cap→∀ b o,Cd a m b o→lo≤b
 len:∀ i,i<m→ln i≤1048576
theorem Cl.keep {w w':World} {lo:Nat} {v:Value} {m:Nat} {ra:Nat→Option Addr} {ln rc:Nat→Nat} {f:Nat→Nat→Int} {R:Nat→Nat→Prop} (h:Cl w lo v m ra ln rc f) (hw:Wrote R w w') (hd:∀ b o,R b o→b<lo):Cl w' lo v m ra ln rc f:=by
 obtain ⟨⟨⟨a,cap,hv,hm,ho⟩,hf,hdj,hs⟩,hr,hi,hou,hl⟩:=h;refine ⟨⟨⟨a,cap,hv,hm,fun i hi'=>?_⟩,fun i hi'=>(hf i hi').keep hw,hdj,hs⟩,fun i hi'=>(hr i hi').keep hw (fun b o hF hR=>?_),hi,hou,hl⟩
 ·obtain ⟨b,off,ha,hc,hn⟩:=ho i hi'
  refine ⟨b,off,ha,?_,hn⟩;rw [hw.cell b (off+i) (block_lt_of_cell hc) (fun hR=>by have:=hd _ _ hR; have:=hou a cap hv b (off+i) (by rw [ha]; exact Bj hi'); omega)];exact hc
 ·have:=hd _ _ hR
  have:=hi i hi' b o hF
  omega
theorem Cl.ints {w:World} {lo:Nat} {v:Value} {m:Nat} {ra:Nat→Option Addr} {ln rc:Nat→Nat} {f:Nat→Nat→Int} (h:Cl w lo v m ra ln rc f):Bm .i64 w (fun b _=>lo≤b) v m ln f:=by
 obtain ⟨⟨⟨a,cap,hv,hm,ho⟩,hf,hdj,hs⟩,hr,hi,hou,hl⟩:=h;refine ⟨a,cap,hv,hm,fun b o hF=>hou a cap hv b o hF,fun i hi'=>?_⟩;obtain ⟨b,off,ha,hc,hn⟩:=ho i hi';exact ⟨b,off,_,ha,hc,ra i,rc i,rfl,hl i hi',hr i hi',fun b o hF=>hi i hi' b o hF⟩
theorem Bytes.keep {w w':World} {R:Nat→Nat→Prop} {a:Option Addr} {n:Nat} {f:Nat→Int} (h:Bytes w a n f) (hw:Wrote R w w') (hd:∀ b o,Cd a n b o→¬ R b o):Bytes w' a n f:=⟨h.row.keep hw hd,h.len,h.byte⟩
theorem Sl (k:Nat):Cv (fun _=>256) k=256*k:=by
 induction k with
 | zero=>rfl
 | succ k ih=>simp only [Cv,ih]; omega
set_option linter.unusedVariables false
set_option linter.unusedSimpArgs false
theorem A0 {P:Program} {fn:Func} {p q:Tmp} {ty:TypeId} (h:fn.results=#[.cell p ty,.tmp q]) (tmps:Array Value) (w:World) (g:Nat) (t:TypeId) (cs:Array Value) (fr:Nat × Nat) (dd:TypeDesc)
  (hp:tmps.getD p undef=(pt g 0)) (hg:w.heap[g]?=some (.cells cs t fr)) (hu:P.underlying ty=some dd) (hd:(match dd with | .struct _ | .array _ _=>true | _=>false)=true) (hi:(P.info? ty).map (·.size)=some cs.size) :
  (results fn tmps).run P w=.ok (.tuple #[.agg cs,tmps.getD q undef]) w:=by
 have hp':tmps[p]?.getD undef=(pt g 0):=by simpa using hp
 simp [results,h,hp',asAddr,run_loadVar_row w g t ty cs fr dd hg hu hd hi]
def E8 (d:Am) (a:Int):Int :=
 if rgN (a%65536)=2 then T8 true (rgP (a%65536)) d.bl d.ad d.tb else if rgN (a%65536)=3 then Ut true d.L d.R (rgP (a%65536)) else if rgN (a%65536)=4 then Mq d.hd d.sh d.np d.p d.t else G6 d.m d.f d.g d.bank (a%65536)
def Cz (d:Am) (a:Int):Am :=
 if rgN (a%65536)=2 then { d with ad:=Sd true (rgP (a%65536)) d.ad,bl:=Up true (rgP (a%65536)) d.bl,nq:=d.nq+1,rd:=snoc d.rd d.nq (E8 d a) } else if rgN (a%65536)=3 then { d with R:=Va true d.R (rgP (a%65536)),nq:=d.nq+1,rd:=snoc d.rd d.nq (E8 d a) } else if rgN (a%65536)=4 then { d with sh:=Gb d.hd d.sh d.np d.p d.t,nq:=d.nq+1,rd:=snoc d.rd d.nq (E8 d a) } else d
theorem Hu {d:Am} (h:okLock d=true):Ff d.np d.p=true∧Co d.m d.ln d.f d.nr d.g d.bank=true∧A6 d.t d.c d.s d.ad d.pl d.nt d.tb d.nd d.dt=true∧Dl d.T d.P d.K d.B d.L=true∧Cw d.sh 0 255=true:=by
 unfold okLock at h;simp only [Bool.and_eq_true] at h;exact ⟨h.1,h.2.1,h.2.2.2.1,h.2.2.2.2.1,h.2.2.2.2.2.1⟩
def B9 (W:World) (lo:Nat):Option Nat→Value→Nat→(Nat→Int)→Prop
 | none,v,n,_=>v=.slice none 0 0∧n=0
 | some q,v,n,f=>∃ y,v=.slice (some ⟨q,0,none⟩) n y∧Row W lo q n y f
theorem B9.keep {R:Nat→Nat→Prop} {W W':World} {lo:Nat} {o:Option Nat} {v:Value} {n:Nat} {f:Nat→Int} (h:B9 W lo o v n f) (hw:Wrote R W W') (hd:∀ q,o=some q→lo≤q→q<W.heap.size→∀ k,¬ R q k):B9 W' lo o v n f:=by
 cases o with
 | none=>exact h
 | some q =>
  obtain ⟨y,e,r⟩:=h;exact ⟨y,e,r.keep hw (hd q rfl r.parts.1 r.parts.2.1)⟩
theorem B9.below {W W':World} {lo:Nat} {o:Option Nat} {v:Value} {n:Nat} {f:Nat→Int} (h:B9 W lo o v n f) (L:Below W.heap.size W W'):B9 W' lo o v n f:=h.keep (Aa L Ah) (fun _ _ _ _ _ x=>x)
theorem B9.mono {W:World} {lo lo':Nat} {o:Option Nat} {v:Value} {n:Nat} {f:Nat→Int} (h:B9 W lo o v n f) (hl:lo'≤lo):B9 W lo' o v n f:=by
 cases o with
 | none=>exact h
 | some q =>
  obtain ⟨y,e,r⟩:=h;exact ⟨y,e,r.mono hl⟩
theorem B9.lt {W:World} {lo q:Nat} {v:Value} {n:Nat} {f:Nat→Int} (h:B9 W lo (some q) v n f):lo≤q∧q<W.heap.size:=by
 obtain ⟨y,e,r⟩:=h;exact ⟨r.parts.1,r.parts.2.1⟩
theorem B9.sl {W:World} {lo:Nat} {o:Option Nat} {v:Value} {n:Nat} {f:Nat→Int} (h:B9 W lo o v n f):∃ a x,v=.slice a n x∧Bl W (fun b=>o=some b) a n f:=by
 cases o with
 | none =>
  obtain ⟨rfl,rfl⟩:=h;exact ⟨_,_,rfl,Bl.nil _⟩
 | some q =>
  obtain ⟨y,rfl,r⟩:=h;exact ⟨_,_,rfl,r.onD rfl⟩
theorem B9.form {W:World} {lo:Nat} {o:Option Nat} {v:Value} {n:Nat} {f:Nat→Int} (h:B9 W lo o v n f):∃ a x,v=.slice a n x:=by
 obtain ⟨a,x,e,-⟩:=h.sl;exact ⟨a,x,e⟩
theorem B9.ints {W:World} {lo:Nat} {o:Option Nat} {v:Value} {n:Nat} {f:Nat→Int} (h:B9 W lo o v n f):Ints .i64 W (On (fun b=>o=some b)) v n f:=by
 obtain ⟨a,x,rfl,r⟩:=h.sl;exact r.ints x
def Wi (o o':Option Nat):Prop:=∀ q,o=some q→¬ o'=some q
theorem Tg {W:World} {lo:Nat} {o o':Option Nat} {v v':Value} {n m:Nat} {f g:Nat→Int} {t c s ad pl:Int} {bl:Bool} (h1:B9 W lo o v n f) (h2:B9 W lo o' v' m g) (h3:Wi o o') :
  Bt W (fun b=>o=some b∨o'=some b) (.agg (pR t c s ad pl bl v v')) t c s ad pl bl n f m g:=by
 obtain ⟨a,x,rfl,r1⟩:=h1.sl;obtain ⟨b,y,rfl,r2⟩:=h2.sl;exact ⟨_,_,_,_,rfl,r1.mono (fun b _ h=>Or.inl h),r2.mono (fun b _ h=>Or.inr h),Tc r1 r2 (fun b h=>h3 b h)⟩
section
variable {W:World} {lo N:Nat} {D:Nat→Nat→Prop} {u0 u1 u2 u3 u4 ov:Value} {gb cp:Nat→Nat} {g6 c6 g7 c7:Nat} {d:Am}
theorem Av.mem (H:Av W lo N D u0 u1 u2 u3 u4 ov gb cp g6 c6 g7 c7 d) {p q:Nat} {w2:Value} {bank:Int} {nr:Nat} {g:Nat→Int} (hM:Bn W (fun b=>p≤b∧b<q) (.agg #[w2,.i bank]) nr g bank) (hp:N≤p) (hl:lo≤N) (hpq:p≤q) (hq:q≤W.heap.size) :
  Av W lo q (fun i b=>(i=2∧p≤b∧b<q)∨(i≠2∧D i b)) u0 u1 w2 u3 u4 ov gb cp g6 c6 g7 c7 { d with nr:=nr,g:=g,bank:=bank }:=by
 have nN:=H.nN;refine ⟨H.h0.mono (fun b _ h=>Or.inr ⟨by decide,h⟩),H.h1.mono (fun b _ h=>Or.inr ⟨by decide,h⟩),hM.mono (fun b _ h=>Or.inl ⟨rfl,h⟩),H.h3.mono (fun b _ h=>Or.inr ⟨by decide,h⟩),H.h4,fun b h=>Or.inr ⟨by decide,H.h4D b h⟩,H.h6,?_,H.h7,?_,?_,?_,by have:=H.n6; omega,by have:=H.n7; omega,hq,H.hps⟩
 ·rcases H.h6D with h | h
  ·exact Or.inl (Or.inr ⟨by decide,h⟩)
  ·exact Or.inr h
 ·rcases H.h7D with h | h
  ·exact Or.inl (Or.inr ⟨by decide,h⟩)
  ·exact Or.inr h
 ·intro i j b h1 h2
  rcases h1 with ⟨rfl,_,_⟩ | ⟨n1,h1⟩ <;> rcases h2 with ⟨rfl,_,_⟩ | ⟨n2,h2⟩
  ·rfl
  ·have:=H.bd _ _ h2; omega
  ·have:=H.bd _ _ h1; omega
  ·exact H.dis _ _ _ h1 h2
 ·intro i b h
  rcases h with ⟨rfl,_,_⟩ | ⟨_,h⟩
  ·omega
  ·have:=H.bd _ _ h; omega
end
def Cc (d:Am) (a y:Int):Am :=
 if rgN (a%65536)=2 then { d with c:=Ph true (rgP (a%65536)) y d.c,s:=Pi true (rgP (a%65536)) y d.s,ad:=Pj true (rgP (a%65536)) y d.ad,pl:=Pk true (rgP (a%65536)) y d.pl,tb:=Qx true (rgP (a%65536)) y d.ad d.tb } else if rgN (a%65536)=3 then { d with P:=Nc true d.P (rgP (a%65536)) y,L:=Nf true d.L (rgP (a%65536)) y,Q:=Pm true d.Q (rgP (a%65536)) y,R:=Pn true d.R (rgP (a%65536)) y } else if rgN (a%65536)=4 then { d with hd:=Lh y,sh:=Im d.hd d.sh d.np d.p d.t y } else { d with g:=Gu true d.g (a%65536) y,bank:=Ji true d.m d.bank (a%65536) y }
def Ej (f:Nat→Nat) (n x:Nat):Nat→Nat:=fun i=>if i=n then x else f i
def Iu (f:Nat→Nat→Int) (n:Nat) (x:Nat→Int):Nat→Nat→Int:=fun i=>if i=n then x else f i
def Cu (d:Am):Am:={ d with
 t:=Iz d.t,bl:=Pl d.t d.bl,nd:=tkM d.t d.nd,dt:=N9 d.t d.tb d.s d.pl d.nd d.dt
 T:=d.T+1,K:=Ks d.P d.K,B:=Km d.K d.B d.L,L:=Kn d.T d.L,R:=Mo d.T d.L d.Q d.R
 nmi:=d.nmi || Rr d.t d.c
 mf:=if d.t%64=48 then d.mf+1 else d.mf
 lf:=if d.t%64=48 then Ej d.lf d.mf d.nd else d.lf
 fr:=if d.t%64=48 then Iu d.fr d.mf d.dt else d.fr
 ns:=if Ei d.T=true then d.ns+1 else d.ns
 sm:=if Ei d.T=true then snoc d.sm d.ns (Ti d.T d.K d.B d.L) else d.sm }
def tickN:Nat→Am→Am
 | 0,d=>d
 | k+1,d=>tickN k (Cu d)
theorem J3 (k:Nat) (d:Am):tickN (k+1) d=Cu (tickN k d):=by
 induction k generalizing d with
 | zero=>rfl
 | succ k ih=>show tickN (k+1) (Cu d)=_; rw [ih]; rfl
def withSt (d:Am) (s:Int):Am:={ d with st:=s }
structure Gn (d:Am):Prop where
 ppu:Gw d.t d.c d.s d.ad d.pl d.nt d.tb d.nd d.dt
 apu:Gx d.T d.P d.K d.B d.L
 same:d.t=d.T
 lf:∀ i,i<d.mf→d.lf i=48
 mf:(d.mf:Int)=Ub d.t
 ns:(d.ns:Int)=d.t/16
theorem Gn.mfs {d:Am} (h:Gn d):d.mf<1048576:=by
 have h0:=h.ppu.t0;have h1:=h.ppu.t1;have:=h.mf;unfold Ub at this
 omega
theorem Gn.nss {d:Am} (h:Gn d):d.ns<1048576:=by
 have h0:=h.ppu.t0;have h1:=h.ppu.t1;have:=h.ns
 omega
theorem Gn.nd48 {d:Am} (h:Gn d) (h48:d.t%64=48):d.nd=48:=by
 have h1:=h.ppu.dots;unfold Eh at h1;rw [if_neg (by omega)] at h1
 omega
theorem Qd {T P C B L:Int} (h:Gx T P C B L) (hT:T≠20000):Gx (T+1) P (Ks P C) (Km C B L) (Kn T L):=by
 obtain ⟨t0,t1,p0,p1,c0,c1,b0,b1,l0,l1⟩:=h;unfold Ks Km Kn
 refine ⟨?_,?_,p0,p1,?_,?_,?_,?_,?_,?_⟩ <;> (try split) <;> omega
theorem Gn.tick {d:Am} (h:Gn d) (ht:d.t≠20000):Gn (Cu d):=by
 have h0:=h.ppu.t0;have h1:=h.ppu.t1;have hs:=h.same;have e1:Iz d.t=d.t+1:=if_neg ht;have hf:=h.mf;have hn:=h.ns;unfold Ub at hf;refine ⟨P4 h.ppu,Qd h.apu (by omega),?_,?_,?_,?_⟩
 ·show Iz d.t=d.T+1
  rw [e1,hs]
 ·intro i hi
  show (if d.t%64=48 then Ej d.lf d.mf d.nd else d.lf) i=48
  replace hi:i<(if d.t%64=48 then d.mf+1 else d.mf):=hi
  by_cases h48:d.t%64=48
  ·rw [if_pos h48] at hi ⊢
   unfold Ej
   by_cases e:i=d.mf
   ·rw [if_pos e]; exact h.nd48 h48
   ·rw [if_neg e]; exact h.lf i (by omega)
  ·rw [if_neg h48] at hi ⊢
   exact h.lf i hi
 ·show (((if d.t%64=48 then d.mf+1 else d.mf):Nat):Int)=Ub (Iz d.t)
  rw [e1];unfold Ub
  split <;> omega
 ·show (((if Ei d.T=true then d.ns+1 else d.ns):Nat):Int)=Iz d.t/16
  rw [e1];unfold Ei;simp only [decide_eq_true_eq]
  split <;> omega
structure Vx (d:Am):Prop where
 ok:okLock d=true
 t:Gn d
 img:Gp d.m d.ln d.f=true
 nr:d.nr=512
 bank:0≤d.bank∧d.bank≤(d.m:Int)-1
 row:∀ j,j<512→0≤d.g j∧d.g j≤255
 pads:Ff d.np d.p=true
 cpu:(0≤d.A∧d.A≤255)∧(0≤d.X∧d.X≤255)∧(0≤d.S∧d.S≤255)∧0≤d.Pc∧d.Pc≤65535
 sh:0≤d.sh∧d.sh≤255
 st:0≤d.st∧d.st≤d.t
theorem Tq {d:Am} (h:okLock d=true):Vx d:=by
 have h':=h;unfold okLock Nx at h';simp only [Bool.and_eq_true,beq_iff_eq,Cr] at h';obtain ⟨p,m,⟨⟨⟨cA,cX⟩,cS⟩,cP⟩,u,a,sh,e,st,fr,ns⟩:=h';obtain ⟨mi,mn,mb,mr⟩:=Jg m;have hf:=of_decide_eq_true fr;exact ⟨h,⟨Hp u,Tj a,e,hf.1,hf.2,ns⟩,mi,mn,mb,mr,p,⟨cA,cX,cS,cP⟩,sh,st⟩
def E9 (d:Am):Bd:=⟨d.A,d.X,d.S,d.Pc,d.Z,d.N,d.C,d.I⟩
def putCpu (d:Am) (g:Nat→Int) (c:Bd):Am:={ d with g:=g,A:=c.A,X:=c.X,S:=c.S,Pc:=c.Pc,Z:=c.Z,N:=c.N,C:=c.C,I:=c.I }
def entC (d:Am) (vec:Int):Bd:=⟨d.A,d.X,dec8 (dec8 (dec8 d.S)),Mj d.m d.ln d.f (enterG d.g d.S d.Pc d.Z d.N d.C d.I) d.bank vec,d.Z,d.N,d.C,true⟩
def Tr (d:Am) (vec:Int):Am:=putCpu d (enterG d.g d.S d.Pc d.Z d.N d.C d.I) (entC d vec)
def We (d:Am):Int:=peekV d.m d.ln d.f d.nr d.g d.bank d.Pc
def Wn (d:Am):Int:=Jk (peekV d.m d.ln d.f d.nr d.g d.bank) d.Pc
def De (d:Am) (op arg:Int):Am:=if Di op=1 then Cz d (Ho op arg d.X) else if Di op=2 then Cc d (Ho op arg d.X) (Rp op d.A) else d
def J4 (d:Am) (op arg:Int):Int:=if Di op=1 then E8 d (Ho op arg d.X) else 0
def Ts (d:Am) (op arg x:Int):Am:=putCpu d (Ge d.g (E9 d) op) (Ex d.g (E9 d) op arg x)
def Wo (d:Am) (op arg:Int):Am:=Ts (De d op arg) op arg (J4 d op arg)
def Tt (x:Int):Int:=if 0≤x∧x≤29 then Jd.getD x.toNat 2 else 2
def noNmi (d:Am):Am:={ d with nmi:=false }
def actD (d:Am):Am:=if d.nmi=true then Tr (noNmi d) 65530 else if (d.R && !d.I)=true then Tr d 65534 else Wo d (We d) (Wn d)
def Fg (d:Am):Int:=if d.nmi=true then 7 else if (d.R && !d.I)=true then 7 else Tt (We d)
def Gg (d:Am):Bool:=decide ((actD d).t+Fg d≤20000)
def Lp (d:Am):Am:=withSt (tickN (Fg d).toNat (actD d)) ((tickN (Fg d).toNat (actD d)).st+1)
theorem U6 (x:Int):0≤Tt x∧Tt x≤6:=by
 unfold Tt;split
 ·rename_i h
  have key:∀ k:Fin 30,0≤Jd.getD k.1 2∧Jd.getD k.1 2≤6:=by decide
  exact key ⟨x.toNat,by omega⟩
 ·omega
theorem I1 (d:Am):0≤Fg d∧Fg d≤7:=by
 unfold Fg;have:=U6 (We d)
 repeat' split
 all_goals omega
theorem Gn.put {d:Am} (h:Gn d) (g:Nat→Int) (c:Bd):Gn (putCpu d g c):=⟨h.ppu,h.apu,h.same,h.lf,h.mf,h.ns⟩
theorem Gn.read {d:Am} (h:Gn d) (a:Int):Gn (Cz d a):=by
 unfold Cz;split
 ·have ha:0≤Sd true (rgP (a%65536)) d.ad∧Sd true (rgP (a%65536)) d.ad≤15:=by unfold Sd; split; omega; exact ⟨h.ppu.a0,h.ppu.a1⟩
  exact ⟨⟨h.ppu.t0,h.ppu.t1,h.ppu.c0,h.ppu.c1,h.ppu.s0,h.ppu.s1,ha.1,ha.2,h.ppu.p0,h.ppu.p1,h.ppu.n16,h.ppu.dots,h.ppu.tab,h.ppu.dot⟩,h.apu,h.same,h.lf,h.mf,h.ns⟩
 ·split
  ·exact ⟨h.ppu,h.apu,h.same,h.lf,h.mf,h.ns⟩
  ·split
   ·exact ⟨h.ppu,h.apu,h.same,h.lf,h.mf,h.ns⟩
   ·exact h
theorem Ou {T P C B L:Int} (h:Gx T P C B L) (reg v:Int):Gx T (Nc true P reg v) C B (Nf true L reg v):=by
 obtain ⟨t0,t1,p0,p1,c0,c1,b0,b1,l0,l1⟩:=h;unfold Nc Nf
 refine ⟨t0,t1,?_,?_,c0,c1,b0,b1,?_,?_⟩ <;> split <;> omega
theorem Gn.write {d:Am} (h:Gn d) (a y:Int):Gn (Cc d a y):=by
 unfold Cc;split
 ·exact ⟨Oa h.ppu _ _,h.apu,h.same,h.lf,h.mf,h.ns⟩
 ·split
  ·exact ⟨h.ppu,Ou h.apu _ _,h.same,h.lf,h.mf,h.ns⟩
  ·split
   ·exact ⟨h.ppu,h.apu,h.same,h.lf,h.mf,h.ns⟩
   ·exact ⟨h.ppu,h.apu,h.same,h.lf,h.mf,h.ns⟩
theorem Gn.reach {d:Am} (h:Gn d) (op arg:Int):Gn (De d op arg):=by
 unfold De;split
 ·exact h.read _
 ·split
  ·exact h.write _ _
  ·exact h
theorem Gn.act {d:Am} (h:Gn d):Gn (actD d):=by
 unfold actD;split
 ·exact Gn.put (d:=noNmi d) ⟨h.ppu,h.apu,h.same,h.lf,h.mf,h.ns⟩ _ _
 ·split
  ·exact h.put _ _
  ·exact (h.reach _ _).put _ _
theorem Qe (d:Am) (a:Int):(Cz d a).t=d.t∧(Cz d a).st=d.st∧(Cz d a).nr=d.nr∧(Cz d a).g=d.g∧(Cz d a).bank=d.bank∧E9 (Cz d a)=E9 d∧(Cz d a).nq≤d.nq+1:=by
 unfold Cz;split
 ·exact ⟨rfl,rfl,rfl,rfl,rfl,rfl,Nat.le_refl _⟩
 ·split
  ·exact ⟨rfl,rfl,rfl,rfl,rfl,rfl,Nat.le_refl _⟩
  ·split
   ·exact ⟨rfl,rfl,rfl,rfl,rfl,rfl,Nat.le_refl _⟩
   ·exact ⟨rfl,rfl,rfl,rfl,rfl,rfl,Nat.le_succ _⟩
theorem Tu {g:Nat→Int} (h:∀ j,j<512→0≤g j∧g j≤255) (ok:Bool) (a y:Int):∀ j,j<512→0≤Gu ok g a y j∧Gu ok g a y j≤255:=by
 intro j hj;have h1:=h j hj;unfold Gu;split
 ·unfold Gt
  split <;> omega
 ·exact h1
theorem Ov (d:Am) (a y:Int) (hr:∀ j,j<512→0≤d.g j∧d.g j≤255):(Cc d a y).t=d.t∧(Cc d a y).st=d.st∧(Cc d a y).nr=d.nr∧(∀ j,j<512→0≤(Cc d a y).g j∧(Cc d a y).g j≤255)∧E9 (Cc d a y)=E9 d∧(Cc d a y).nq=d.nq:=by
 unfold Cc;split
 ·exact ⟨rfl,rfl,rfl,hr,rfl,rfl⟩
 ·split
  ·exact ⟨rfl,rfl,rfl,hr,rfl,rfl⟩
  ·split
   ·exact ⟨rfl,rfl,rfl,hr,rfl,rfl⟩
   ·exact ⟨rfl,rfl,rfl,Tu hr _ _ _,rfl,rfl⟩
theorem Iv (d:Am) (op arg:Int) (hr:∀ j,j<512→0≤d.g j∧d.g j≤255):(De d op arg).t=d.t∧(De d op arg).st=d.st∧(De d op arg).nr=d.nr∧(∀ j,j<512→0≤(De d op arg).g j∧(De d op arg).g j≤255)∧E9 (De d op arg)=E9 d∧(De d op arg).nq≤d.nq+1:=by
 unfold De;split
 ·obtain ⟨h1,h2,h3,h4,h5,h6,h7⟩:=Qe d (Ho op arg d.X)
  exact ⟨h1,h2,h3,by rw [h4]; exact hr,h6,h7⟩
 ·split
  ·obtain ⟨h1,h2,h3,h4,h5,h6⟩:=Ov d (Ho op arg d.X) (Rp op d.A) hr
   exact ⟨h1,h2,h3,h4,h5,by omega⟩
  ·exact ⟨rfl,rfl,rfl,hr,rfl,Nat.le_succ _⟩
theorem Lq (d:Am) (hr:∀ j,j<512→0≤d.g j∧d.g j≤255):(actD d).t=d.t∧(actD d).st=d.st∧(actD d).nq≤d.nq+1:=by
 unfold actD;split
 ·exact ⟨rfl,rfl,Nat.le_succ _⟩
 ·split
  ·exact ⟨rfl,rfl,Nat.le_succ _⟩
  ·obtain ⟨h1,h2,h3,h4,h5,h6⟩:=Iv d (We d) (Wn d) hr
   exact ⟨h1,h2,h6⟩
theorem Q3:∀ (k:Nat) (d:Am),d.t+k≤20000→(tickN k d).t=d.t+k
 | 0,d,_=>by simp [tickN]
 | k+1,d,h=>by
  have e:(Cu d).t=d.t+1:=if_neg (by omega)
  show (tickN k (Cu d)).t=_
  rw [Q3 k (Cu d) (by rw [e]; omega),e]
  omega
theorem Gn.ticks:∀ (k:Nat) {d:Am},Gn d→d.t+k≤20000→Gn (tickN k d)
 | 0,d,h,_=>h
 | k+1,d,h,hk=>by
  have e:(Cu d).t=d.t+1:=if_neg (by omega);exact Gn.ticks k (h.tick (by omega)) (by rw [e]; omega)
theorem Cl.lower {w:World} {lo lo':Nat} {v:Value} {m:Nat} {ra:Nat→Option Addr} {ln rc:Nat→Nat} {f:Nat→Nat→Int} (h:Cl w lo v m ra ln rc f) (hl:lo'≤lo):Cl w lo' v m ra ln rc f :=
 ⟨h.sep,h.rows,fun i hi b o hF=>Nat.le_trans hl (h.inner i hi b o hF),fun a cap e b o hF=>Nat.le_trans hl (h.outer a cap e b o hF),h.len⟩
theorem Cl.set_low {w:World} {lo b:Nat} {v x:Value} {m:Nat} {ra:Nat→Option Addr} {ln rc:Nat→Nat} {f:Nat→Nat→Int} (h:Cl w (b+1) v m ra ln rc f) (hb:lo≤b):Cl (w.setCell ⟨b,0,none⟩ x) lo v m ra ln rc f :=
 by
 have W:Wrote (fun k _=>k=b) w (w.setCell ⟨b,0,none⟩ x):=Wrote.setCell (R:=fun k _=>k=b) (b:=b) (o:=0) (Wrote.refl _ w) (fun _=>rfl) x;exact (h.keep W (fun k o e=>by omega)).lower (by omega)
set_option linter.unusedVariables false
def zero34:Array Value:=zR
theorem Gh:zero34.size=34:=rfl
def Hw:Am :=
 { m:=0,ln:=fun _=>0,f:=fun _ _=>0,np:=0,p:=fun _=>0,nr:=0,g:=fun _=>0,bank:=0,A:=0,X:=0,S:=0,Pc:=0,Z:=false,N:=false,C:=false,I:=false,t:=0,c:=0,s:=0,ad:=0,pl:=0,bl:=false,nt:=0,tb:=fun _=>0,nd:=0,dt:=fun _=>0,T:=0,P:=0,K:=0,B:=0,L:=0,Q:=false,R:=false,hd:=false,sh:=0,nmi:=false,st:=0,mf:=0,lf:=fun _=>0,fr:=fun _ _=>0,ns:=0,sm:=fun _=>0,nq:=0,rd:=fun _=>0 }
theorem Ck.noneL {W:World} {D:Nat→Prop} (f:Nat→Nat→Int):Ck W D (.slice none 0 0) 0 (fun _=>0) f :=
 ⟨fun _=>none,fun _=>0,⟨⟨none,0,rfl,by omega,fun i hi=>absurd hi (Nat.not_lt_zero _)⟩,fun i hi=>absurd hi (Nat.not_lt_zero _),fun i j hi=>absurd hi (Nat.not_lt_zero _),by simp [Cv]⟩,fun i hi=>absurd hi (Nat.not_lt_zero _),fun i hi=>absurd hi (Nat.not_lt_zero _),fun a cap e b o hF=>absurd hF (Ay _ _ _),fun i hi=>absurd hi (Nat.not_lt_zero _)⟩
theorem Ow {W:World} {D:Nat→Nat→Prop}:As W D (.agg zR) Hw :=
 ⟨_,_,_,_,_,_,_,_,rfl,Ck.noneL _,⟨_,_,rfl,Bl.zero _ _⟩,⟨_,_,rfl,by show (0:Nat)≤_; omega,fun i hi=>absurd hi (Nat.not_lt_zero _),fun b o hF=>absurd hF (Ay _ _ _),fun b o hF=>absurd hF (Ay _ _ _)⟩,⟨_,_,_,_,rfl,Bl.zero _ _,Bl.zero _ _,fun b o h=>absurd h (Ay _ _ _)⟩,⟨_,_,_,rfl,Ck.noneL _,⟨_,_,rfl,Bl.zero _ _⟩,⟨_,_,rfl,Bl.zero _ _⟩⟩⟩
def Fq (d:Am):Am:=if okLock d=true then (if Gg d=true then Lp d else d) else Hw
def stepQ (d:Am):Bool:=okLock d && Gg d
set_option linter.unusedSimpArgs false
theorem Ha {R:Nat→Nat→Prop} {w w':World} {b:Nat} {o:Obj} (h:w.heap[b]?=some o) (hw:Wrote R w w') (hd:∀ o,¬ R b o):w'.heap[b]?=some o:=(hw.block b (Af h) hd).trans h
theorem Lo {w:World} {g:Nat} {old:Array Value} {t:TypeId} (hg:w.heap[g]?=some (.cells old t (0,0))) (cs:Array Value):Wrote (fun b _=>b=g) w (w.setRow g cs) :=
 ⟨rfl,rfl,rfl,by simp [World.setRow],fun k hk hn=>setRow_other _ _ _ _ (fun e=>hn 0 e),fun b o hb hn=>cell_setRow_other _ _ _ _ hn,fun b o hb=>by
  by_cases e:b=g
  ·subst e
   rw [Ax (setRow_heap _ _ _ _ _ _ hg),Ax hg]
  ·unfold World.frozen?; rw [setRow_other _ _ _ _ e]⟩
theorem Hi {w w':World} {base size n:Nat} {e:TypeId} {v:Value} {xs:List Value} (h:w.ownsRow base e size v n xs) (hb:∀ k,v.ownBlock=some k→w'.heap[k]?=w.heap[k]?):w'.ownsRow base e size v n xs:=by
 obtain ⟨h1,h2⟩:=h;refine ⟨h1,?_⟩
 rcases h2 with h | ⟨g,cap,cur,rfl,hbg,hg,r⟩
 ·exact .inl h
 ·exact .inr ⟨g,cap,cur,rfl,hbg,(hb g rfl).trans hg,r⟩
structure Ez (w:World) (lo q:Nat) (gb:Nat→Nat) (F:Nat→Nat→Int):Prop where
 rows:∀ i,i<q→Bv .i64 w (some ⟨gb i,0,none⟩) 256 (F i)
 free:∀ i,i<q→∀ o,w.frozen? ⟨gb i,o,none⟩=false
 low:∀ i,i<q→lo≤gb i∧gb i<w.heap.size
 inj:∀ i j,i<q→j<q→i≠j→gb i≠gb j
theorem Ez.keep {w w':World} {lo q:Nat} {gb:Nat→Nat} {F:Nat→Nat→Int} (h:Ez w lo q gb F) (hs:w.heap.size≤w'.heap.size) (hb:∀ i,i<q→w'.heap[gb i]?=w.heap[gb i]?):Ez w' lo q gb F :=
 ⟨fun i hi j hj=>by
  obtain ⟨b,off,e,hc⟩:=h.rows i hi j hj;simp only [Option.some.injEq,Addr.mk.injEq,and_true] at e;obtain ⟨rfl,rfl⟩:=e
  exact ⟨_,_,rfl,(World.cell?_of_block (a:=⟨gb i,0+j,none⟩) (hb i hi)).trans hc⟩,fun i hi o=>(World.frozen?_of_block (a:=⟨gb i,o,none⟩) (hb i hi)).trans (h.free i hi o),fun i hi=>⟨(h.low i hi).1,Nat.lt_of_lt_of_le (h.low i hi).2 hs⟩,h.inj⟩
theorem Ez.snoc {w:World} {lo q g:Nat} {gb:Nat→Nat} {F:Nat→Nat→Int} (h:Ez w lo q gb F) (hr:Bv .i64 w (some ⟨g,0,none⟩) 256 (F q)) (hf:∀ o,w.frozen? ⟨g,o,none⟩=false) (hl:lo≤g) (hg:g<w.heap.size) (hn:∀ i,i<q→gb i≠g):Ez w lo (q+1) (fun i=>if i=q then g else gb i) F:=by
 refine ⟨fun i hi=>?_,fun i hi o=>?_,fun i hi=>?_,fun i j hi hj hij=>?_⟩
 ·by_cases e:i=q
  ·subst e; simpa using hr
  ·simpa [e] using h.rows i (by omega)
 ·by_cases e:i=q
  ·subst e; simpa using hf o
  ·simpa [e] using h.free i (by omega) o
 ·by_cases e:i=q
  ·subst e; simpa using ⟨hl,hg⟩
  ·simpa [e] using h.low i (by omega)
 ·by_cases e:i=q
  ·subst e
   have hne:¬ j=i:=fun x=>hij x.symm
   simpa [hne] using fun x=>hn j (by omega) x.symm
  ·by_cases e2:j=q
   ·subst e2
    simpa [e] using hn i (by omega)
   ·simpa [e,e2] using h.inj i j (by omega) (by omega) hij
def Ko (q:Nat) (gb cp:Nat→Nat):List Value:=(List.range q).map fun i=>.slice (some ⟨gb i,0,none⟩) 256 (cp i)
theorem Sm {q:Nat} {gb cp:Nat→Nat} {i:Nat} (h:i<q):(Ko q gb cp)[i]?=some (.slice (some ⟨gb i,0,none⟩) 256 (cp i)):=by simp [Ko,h]
theorem Q8 (q g c:Nat) (gb cp:Nat→Nat):Ko (q+1) (fun i=>if i=q then g else gb i) (fun i=>if i=q then c else cp i)=Ko q gb cp++[.slice (some ⟨g,0,none⟩) 256 c]:=by
 unfold Ko;rw [List.range_succ,List.map_append]
 congr 1
 ·apply List.map_congr_left
  intro i hi;have:i<q:=List.mem_range.1 hi
  simp [show ¬ i=q by omega]
 ·simp
theorem Q9 {w:World} {base lo q go co:Nat} {t:TypeId} {gb cp:Nat→Nat} {F:Nat→Nat→Int} (h:Ez w lo q gb F) (ho:w.ownsRow base t 1 (.slice (some ⟨go,0,none⟩) q co) q (Ko q gb cp)) (hlo:lo≤go) (hn:∀ i,i<q→gb i≠go) (hq:q≤8) :
  Cl w lo (.slice (some ⟨go,0,none⟩) q co) q (fun i=>some ⟨gb i,0,none⟩) (fun _=>256) cp F:=by
 have hF:∀ i b o,Cd (some ⟨gb i,0,none⟩) 256 b o→b=gb i:=fun i b o hF=>by
  obtain ⟨off,e,_⟩:=hF;simp only [Option.some.injEq,Addr.mk.injEq,and_true] at e;exact e.1.symm
 refine ⟨⟨⟨_,_,rfl,by omega,fun i hi'=>⟨go,0,rfl,?_,fun j hj hf=>?_⟩⟩,fun i hi' b o hf=>?_,fun i j hi' hj hij b o h1 h2=>?_,by rw [Sl]; omega⟩,fun i hi'=>h.rows i hi',fun i hi' b o hf=>?_,fun a cap e b o hf=>?_,fun i hi'=>by omega⟩
 ·rw [Nat.zero_add,ho.cellAt i (by omega),Sm hi']
 ·have:=hF j _ _ hf
  exact hn j hj this.symm
 ·have e:=hF i _ _ hf
  subst e;exact ⟨(h.low i hi').2,h.free i hi' o⟩
 ·have:=hF i _ _ h1
  have:=hF j _ _ h2;exact h.inj i j hi' hj hij (by omega)
 ·have:=hF i _ _ hf
  have:=(h.low i hi').1
  omega
 ·cases e
  obtain ⟨off,e,_⟩:=hf;simp only [Option.some.injEq,Addr.mk.injEq,and_true] at e
  omega
end Go.Proofs.YtfjieibndedngaaGreat
