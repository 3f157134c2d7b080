import Derived.Test.YtfjieibndedngaaGreatA8
import Derived.Test.YtfjieibndedngaaGreatAA
import Derived.Test.YtfjieibndedngaaGreatPD
import Derived.Lib.SlBytesConst
namespace Go.Proofs.YtfjieibndedngaaGreat
open Go.ChangeShapes Go.WideShapes Go.ChangeAt Go.RowKit
def vals (k:IntKind) (n:Nat) (g:Nat→Int):List Value:=(List.range n).map (fun i=>.int k (g i))
def flat (f:Nat→Nat→Int) (j:Nat):Int:=f (j/256) (j%256)
def Wh (m:Nat) (f:Nat→Nat→Int) (s:Int) (j:Nat):Int:=if j=0 then 50 else if j=1 then 67 else if j=2 then 76 else if j=3 then 75 else if j=4 then m else if j=5 then s else flat f (j-6)
theorem L9 (w:World) (C:Array Value) (t:TypeId) (fr:Nat × Nat) (n:Nat) (hn:n=w.heap.size):∀ j u,C.toList[j]?=some u→(w.alloc (.cells C t fr)).cell? ((⟨n,0,none⟩:Addr).add j)=some u:=by
 subst hn;exact World.news_of_block (t:=t) (fr:=fr) (by show (w.heap.push _)[w.heap.size]?=_; simp)
set_option linter.unusedVariables false
set_option linter.unusedSimpArgs false
structure Dp (W:World) (D:Nat→Nat→Prop) (v:Value) (mf:Nat) (lf:Nat→Nat) (fr:Nat→Nat→Int) (ns:Nat) (sm:Nat→Int) (nq:Nat) (rd:Nat→Int):Prop where
 ex:∃ u5 u6 u7,v=.agg #[u5,u6,u7]∧Ck W (D 4) u5 mf lf fr∧Bg W (D 5) u6 ns sm∧Bg W (D 6) u7 nq rd
def T9 (D:Nat→Nat→Prop):Prop:=∀ i j b,D i b→D j b→i=j
structure Am where
 m:Nat
 ln:Nat→Nat
 f:Nat→Nat→Int
 np:Nat
 p:Nat→Int
 nr:Nat
 g:Nat→Int
 bank:Int
 A:Int
 X:Int
 S:Int
 Pc:Int
 Z:Bool
 N:Bool
 C:Bool
 I:Bool
 t:Int
 c:Int
 s:Int
 ad:Int
 pl:Int
 bl:Bool
 nt:Nat
 tb:Nat→Int
 nd:Nat
 dt:Nat→Int
 T:Int
 P:Int
 K:Int
 B:Int
 L:Int
 Q:Bool
 R:Bool
 hd:Bool
 sh:Int
 nmi:Bool
 st:Int
 mf:Nat
 lf:Nat→Nat
 fr:Nat→Nat→Int
 ns:Nat
 sm:Nat→Int
 nq:Nat
 rd:Nat→Int
@[reducible] def kR (d:Am) (u0 u1 u2 u3 u4 u5 u6 u7:Value):Array Value:=#[u0,u1,u2,.int .i64 d.bank,.int .i64 d.A,.int .i64 d.X,.int .i64 d.S,.int .i64 d.Pc,.bool d.Z,.bool d.N,.bool d.C,.bool d.I,.int .i64 d.t,.int .i64 d.c,.int .i64 d.s,.int .i64 d.ad,.int .i64 d.pl,.bool d.bl,u3,u4,.int .i64 d.T,.int .i64 d.P,.int .i64 d.K,.int .i64 d.B,.int .i64 d.L,.bool d.Q,.bool d.R,.bool d.hd,.int .i64 d.sh,.bool d.nmi,.int .i64 d.st,u5,u6,u7]
structure As (W:World) (D:Nat→Nat→Prop) (v:Value) (d:Am):Prop where
 ex:∃ u0 u1 u2 u3 u4 u5 u6 u7,v=.agg (kR d u0 u1 u2 u3 u4 u5 u6 u7)∧Ck W (D 0) u0 d.m d.ln d.f∧Bg W (D 1) u1 d.np d.p∧Bn W (D 2) (.agg #[u2,.i d.bank]) d.nr d.g d.bank∧Bt W (D 3) (.agg (pR d.t d.c d.s d.ad d.pl d.bl u3 u4)) d.t d.c d.s d.ad d.pl d.bl d.nt d.tb d.nd d.dt∧Dp W D (.agg #[u5,u6,u7]) d.mf d.lf d.fr d.ns d.sm d.nq d.rd
section
variable {R:Nat→Nat→Prop} {W W':World} {D E:Nat→Nat→Prop} {v:Value} {d:Am}
theorem Dp.keep {mf:Nat} {lf:Nat→Nat} {fr:Nat→Nat→Int} {ns:Nat} {sm:Nat→Int} {nq:Nat} {rd:Nat→Int} (H:Dp W D v mf lf fr ns sm nq rd) (hw:Wrote R W W') (hd:∀ i b o,4≤i→D i b→b<W.heap.size→¬ R b o):Dp W' D v mf lf fr ns sm nq rd:=by
 obtain ⟨u5,u6,u7,e,h5,h6,h7⟩:=H;exact ⟨u5,u6,u7,e,h5.keep hw (fun b o=>hd 4 b o (by decide)),h6.keep hw (fun b o=>hd 5 b o (by decide)),h7.keep hw (fun b o=>hd 6 b o (by decide))⟩
theorem Dp.mono {mf:Nat} {lf:Nat→Nat} {fr:Nat→Nat→Int} {ns:Nat} {sm:Nat→Int} {nq:Nat} {rd:Nat→Int} (H:Dp W D v mf lf fr ns sm nq rd) (hd:∀ i b,b<W.heap.size→D i b→E i b):Dp W E v mf lf fr ns sm nq rd:=by
 obtain ⟨u5,u6,u7,e,h5,h6,h7⟩:=H;exact ⟨u5,u6,u7,e,h5.mono (hd 4),h6.mono (hd 5),h7.mono (hd 6)⟩
theorem As.keep (H:As W D v d) (hw:Wrote R W W') (hd:∀ i b o,D i b→b<W.heap.size→¬ R b o):As W' D v d:=by
 obtain ⟨u0,u1,u2,u3,u4,u5,u6,u7,e,h0,h1,h2,h3,h4⟩:=H;exact ⟨u0,u1,u2,u3,u4,u5,u6,u7,e,h0.keep hw (hd 0),h1.keep hw (hd 1),h2.keep hw (hd 2),h3.keep hw (hd 3),h4.keep hw (fun i b o _=>hd i b o)⟩
theorem As.below (H:As W D v d) (L:Below W.heap.size W W'):As W' D v d:=H.keep (Aa L Ah) (fun _ _ _ _ _ x=>x)
theorem As.mono (H:As W D v d) (hd:∀ i b,b<W.heap.size→D i b→E i b):As W E v d:=by
 obtain ⟨u0,u1,u2,u3,u4,u5,u6,u7,e,h0,h1,h2,h3,h4⟩:=H;exact ⟨u0,u1,u2,u3,u4,u5,u6,u7,e,h0.mono (hd 0),h1.mono (hd 1),h2.mono (hd 2),h3.mono (hd 3),h4.mono hd⟩
theorem As.form (H:As W D v d):∃ x0 x1 x2 x3 x4 x5 x6 x7 x8 x9 x10 x11 x12 x13 x14 x15 x16 x17 x18 x19 x20 x21 x22 x23 x24 x25 x26 x27 x28 x29 x30 x31 x32 x33,v=.agg #[x0,x1,x2,x3,x4,x5,x6,x7,x8,x9,x10,x11,x12,x13,x14,x15,x16,x17,x18,x19,x20,x21,x22,x23,x24,x25,x26,x27,x28,x29,x30,x31,x32,x33]:=by
 obtain ⟨u0,u1,u2,u3,u4,u5,u6,u7,e,-⟩:=H;exact ⟨_,_,_,_,_,_,_,_,_,_,_,_,_,_,_,_,_,_,_,_,_,_,_,_,_,_,_,_,_,_,_,_,_,_,e⟩
end
end Go.Proofs.YtfjieibndedngaaGreat
