import Derived.Test.YtjnjnppongdhgaaGreatUQ0
import Derived.Test.YtjnjnppongdhgaaGreatA8
import Derived.Laws.CopyOwn
import Derived.Lib.SlBytesConst
import Derived.Lib.LazyBuf
namespace Go.Proofs.YtjnjnppongdhgaaGreat
open Go.ChangeShapes Go.WideShapes Go.ChangeAt Go.RowKit
theorem To {w:World} {lo g n:Nat} {f:Nat→Int} (h:w.heap[g]?=some (.cells (rowVals n f).toArray 3 (0,0))) (hg:lo≤g) (hn:n≤1048576):Ay w lo (.slice (some ⟨g,0,none⟩) n n) n f:=by
 have hc:=World.news_of_block h;have hz:g<w.heap.size:=(Array.getElem?_eq_some_iff.1 h).1;refine ⟨_,n,rfl,hn,fun i hi=>⟨g,0,rfl,?_⟩,fun b o hF=>?_,fun b o hF=>?_⟩
 ·have:=hc i (.i (f i)) (A8 n f i hi)
  rw [Fx] at this;exact this
 ·obtain ⟨off,e,_⟩:=hF
  simp only [Option.some.injEq,Addr.mk.injEq,and_true] at e;obtain ⟨rfl,rfl⟩:=e;refine ⟨hz,?_⟩
  simp [World.frozen?,h]
 ·obtain ⟨off,e,_⟩:=hF
  simp only [Option.some.injEq,Addr.mk.injEq,and_true] at e
  omega
def vals (k:IntKind) (n:Nat) (g:Nat→Int):List Value:=(List.range n).map (fun i=>.int k (g i))
def flat (f:Nat→Nat→Int) (j:Nat):Int:=f (j/256) (j%256)
def Jar (m:Nat) (f:Nat→Nat→Int) (s:Int) (j:Nat):Int:=if j=0 then 50 else if j=1 then 67 else if j=2 then 76 else if j=3 then 75 else if j=4 then m else if j=5 then s else flat f (j-6)
theorem N2 (w:World) (C:Array Value) (t:TypeId) (fr:Nat × Nat) (n:Nat) (hn:n=w.heap.size):∀ j u,C.toList[j]?=some u→(w.alloc (.cells C t fr)).cell? ((⟨n,0,none⟩:Addr).add j)=some u:=by
 subst hn;exact World.news_of_block (t:=t) (fr:=fr) (by show (w.heap.push _)[w.heap.size]?=_; simp)
def part (m:Nat) (f:Nat→Nat→Int) (k j:Nat):Int:=if j<6+k then Jar m f 0 j else 0
structure Bytes (w:World) (a:Option Addr) (n:Nat) (f:Nat→Int):Prop where
 row:Bu .u8 w a n f
 len:n≤1048576
 byte:∀ i,i<n→0≤f i∧f i≤255
set_option linter.unusedVariables false
set_option linter.unusedSimpArgs false
structure Ex (W:World) (D:Nat→Nat→Prop) (v:Value) (mf:Nat) (lf:Nat→Nat) (fr:Nat→Nat→Int) (ns:Nat) (sm:Nat→Int) (nq:Nat) (rd:Nat→Int):Prop where
 ex:∃ u5 u6 u7,v=.agg #[u5,u6,u7]∧Cg W (D 4) u5 mf lf fr∧Bl W (D 5) u6 ns sm∧Bl W (D 6) u7 nq rd
def Up (D:Nat→Nat→Prop):Prop:=∀ i j b,D i b→D j b→i=j
structure Cr (w:World) (lo:Nat) (v:Value) (m:Nat) (ra:Nat→Option Addr) (ln rc:Nat→Nat) (f:Nat→Nat→Int):Prop where
 sep:Z8 w v m ra ln rc
 rows:∀ i,i<m→Bu .i64 w (ra i) (ln i) (f i)
 inner:∀ i,i<m→∀ b o,Ce (ra i) (ln i) b o→lo≤b
 outer:∀ a cap,v=.slice a m cap→∀ b o,Ce a m b o→lo≤b
 len:∀ i,i<m→ln i≤1048576
theorem Cr.keep {w w':World} {lo:Nat} {v:Value} {m:Nat} {ra:Nat→Option Addr} {ln rc:Nat→Nat} {f:Nat→Nat→Int} {R:Nat→Nat→Prop} (h:Cr w lo v m ra ln rc f) (hw:Wrote R w w') (hd:∀ b o,R b o→b<lo):Cr w' lo v m ra ln rc f:=by
 obtain ⟨⟨⟨a,cap,hv,hm,ho⟩,hf,hdj,hs⟩,hr,hi,hou,hl⟩:=h;refine ⟨⟨⟨a,cap,hv,hm,fun i hi'=>?_⟩,fun i hi'=>(hf i hi').keep hw,hdj,hs⟩,fun i hi'=>(hr i hi').keep hw (fun b o hF hR=>?_),hi,hou,hl⟩
 ·obtain ⟨b,off,ha,hc,hn⟩:=ho i hi'
  refine ⟨b,off,ha,?_,hn⟩;rw [hw.cell b (off+i) (block_lt_of_cell hc) (fun hR=>by have:=hd _ _ hR; have:=hou a cap hv b (off+i) (by rw [ha]; exact Br hi'); omega)];exact hc
 ·have:=hd _ _ hR
  have:=hi i hi' b o hF
  omega
theorem Cr.ints {w:World} {lo:Nat} {v:Value} {m:Nat} {ra:Nat→Option Addr} {ln rc:Nat→Nat} {f:Nat→Nat→Int} (h:Cr w lo v m ra ln rc f):Ba .i64 w (fun b _=>lo≤b) v m ln f:=by
 obtain ⟨⟨⟨a,cap,hv,hm,ho⟩,hf,hdj,hs⟩,hr,hi,hou,hl⟩:=h;refine ⟨a,cap,hv,hm,fun b o hF=>hou a cap hv b o hF,fun i hi'=>?_⟩;obtain ⟨b,off,ha,hc,hn⟩:=ho i hi';exact ⟨b,off,_,ha,hc,ra i,rc i,rfl,hl i hi',hr i hi',fun b o hF=>hi i hi' b o hF⟩
theorem Bytes.keep {w w':World} {R:Nat→Nat→Prop} {a:Option Addr} {n:Nat} {f:Nat→Int} (h:Bytes w a n f) (hw:Wrote R w w') (hd:∀ b o,Ce a n b o→¬ R b o):Bytes w' a n f:=⟨h.row.keep hw hd,h.len,h.byte⟩
theorem Vo (k:Nat):Cy (fun _=>256) k=256*k:=by
 induction k with
 | zero=>rfl
 | succ k ih=>simp only [Cy,ih]; omega
structure Ao where
 m:Nat
 ln:Nat→Nat
 f:Nat→Nat→Int
 np:Nat
 p:Nat→Int
 nr:Nat
 g:Nat→Int
 bank:Int
 A:Int
 X:Int
 S:Int
 Pc:Int
 Z:Bool
 N:Bool
 C:Bool
 I:Bool
 t:Int
 c:Int
 s:Int
 ad:Int
 pl:Int
 bl:Bool
 nt:Nat
 tb:Nat→Int
 nd:Nat
 dt:Nat→Int
 T:Int
 P:Int
 K:Int
 B:Int
 L:Int
 Q:Bool
 R:Bool
 hd:Bool
 sh:Int
 nmi:Bool
 st:Int
 mf:Nat
 lf:Nat→Nat
 fr:Nat→Nat→Int
 ns:Nat
 sm:Nat→Int
 nq:Nat
 rd:Nat→Int
@[reducible] def kR (d:Ao) (u0 u1 u2 u3 u4 u5 u6 u7:Value):Array Value:=#[u0,u1,u2,.int .i64 d.bank,.int .i64 d.A,.int .i64 d.X,.int .i64 d.S,.int .i64 d.Pc,.bool d.Z,.bool d.N,.bool d.C,.bool d.I,.int .i64 d.t,.int .i64 d.c,.int .i64 d.s,.int .i64 d.ad,.int .i64 d.pl,.bool d.bl,u3,u4,.int .i64 d.T,.int .i64 d.P,.int .i64 d.K,.int .i64 d.B,.int .i64 d.L,.bool d.Q,.bool d.R,.bool d.hd,.int .i64 d.sh,.bool d.nmi,.int .i64 d.st,u5,u6,u7]
structure As (W:World) (D:Nat→Nat→Prop) (v:Value) (d:Ao):Prop where
 ex:∃ u0 u1 u2 u3 u4 u5 u6 u7,v=.agg (kR d u0 u1 u2 u3 u4 u5 u6 u7)∧Cg W (D 0) u0 d.m d.ln d.f∧Bl W (D 1) u1 d.np d.p∧Bn W (D 2) (.agg #[u2,.i d.bank]) d.nr d.g d.bank∧Bv W (D 3) (.agg (pR d.t d.c d.s d.ad d.pl d.bl u3 u4)) d.t d.c d.s d.ad d.pl d.bl d.nt d.tb d.nd d.dt∧Ex W D (.agg #[u5,u6,u7]) d.mf d.lf d.fr d.ns d.sm d.nq d.rd
section
variable {R:Nat→Nat→Prop} {W W':World} {D E:Nat→Nat→Prop} {v:Value} {d:Ao}
theorem Ex.keep {mf:Nat} {lf:Nat→Nat} {fr:Nat→Nat→Int} {ns:Nat} {sm:Nat→Int} {nq:Nat} {rd:Nat→Int} (H:Ex W D v mf lf fr ns sm nq rd) (hw:Wrote R W W') (hd:∀ i b o,4≤i→D i b→b<W.heap.size→¬ R b o):Ex W' D v mf lf fr ns sm nq rd:=by
 obtain ⟨u5,u6,u7,e,h5,h6,h7⟩:=H;exact ⟨u5,u6,u7,e,h5.keep hw (fun b o=>hd 4 b o (by decide)),h6.keep hw (fun b o=>hd 5 b o (by decide)),h7.keep hw (fun b o=>hd 6 b o (by decide))⟩
theorem Ex.mono {mf:Nat} {lf:Nat→Nat} {fr:Nat→Nat→Int} {ns:Nat} {sm:Nat→Int} {nq:Nat} {rd:Nat→Int} (H:Ex W D v mf lf fr ns sm nq rd) (hd:∀ i b,b<W.heap.size→D i b→E i b):Ex W E v mf lf fr ns sm nq rd:=by
 obtain ⟨u5,u6,u7,e,h5,h6,h7⟩:=H;exact ⟨u5,u6,u7,e,h5.mono (hd 4),h6.mono (hd 5),h7.mono (hd 6)⟩
theorem As.keep (H:As W D v d) (hw:Wrote R W W') (hd:∀ i b o,D i b→b<W.heap.size→¬ R b o):As W' D v d:=by
 obtain ⟨u0,u1,u2,u3,u4,u5,u6,u7,e,h0,h1,h2,h3,h4⟩:=H;exact ⟨u0,u1,u2,u3,u4,u5,u6,u7,e,h0.keep hw (hd 0),h1.keep hw (hd 1),h2.keep hw (hd 2),h3.keep hw (hd 3),h4.keep hw (fun i b o _=>hd i b o)⟩
theorem As.below (H:As W D v d) (L:Below W.heap.size W W'):As W' D v d:=H.keep (Ab L Ak) (fun _ _ _ _ _ x=>x)
theorem As.mono (H:As W D v d) (hd:∀ i b,b<W.heap.size→D i b→E i b):As W E v d:=by
 obtain ⟨u0,u1,u2,u3,u4,u5,u6,u7,e,h0,h1,h2,h3,h4⟩:=H;exact ⟨u0,u1,u2,u3,u4,u5,u6,u7,e,h0.mono (hd 0),h1.mono (hd 1),h2.mono (hd 2),h3.mono (hd 3),h4.mono hd⟩
theorem As.form (H:As W D v d):∃ x0 x1 x2 x3 x4 x5 x6 x7 x8 x9 x10 x11 x12 x13 x14 x15 x16 x17 x18 x19 x20 x21 x22 x23 x24 x25 x26 x27 x28 x29 x30 x31 x32 x33,v=.agg #[x0,x1,x2,x3,x4,x5,x6,x7,x8,x9,x10,x11,x12,x13,x14,x15,x16,x17,x18,x19,x20,x21,x22,x23,x24,x25,x26,x27,x28,x29,x30,x31,x32,x33]:=by
 obtain ⟨u0,u1,u2,u3,u4,u5,u6,u7,e,-⟩:=H;exact ⟨_,_,_,_,_,_,_,_,_,_,_,_,_,_,_,_,_,_,_,_,_,_,_,_,_,_,_,_,_,_,_,_,_,_,e⟩
end
def Ct (V:Nat→Value) (i:Nat) (v:Value):Nat→Value:=fun k=>if k=i then v else V k
theorem Aq (V:Nat→Value) (i:Nat) (v:Value):Ct V i v i=v:=if_pos rfl
theorem Ap (V:Nat→Value) {i k:Nat} (v:Value) (h:k≠i):Ct V i v k=V k:=if_neg h
section
variable {P:Program} {ops:Array Oper} {Q:Exit→Act→World→Prop}
theorem Ey {id:Nat} {a:Act} {w:World} (ds:List (Option Nat)) (hm:P.follows .mixedOrders=true) (hb:Kq ops=true) (hg:Of ops=true) (hd:Ky ops ds=true) (hsz:∀ d,d∈slotsOf ds→d<a.tmps.size)
  (R:Nat→Nat→Nat→Prop) (φ:Nat→(Nat→Value)→Nat→Nat→World→Prop)
  (hstab:∀ i j o V x lo hi W W',i≠j→ops[i]?=some o→A1 o j=false→w.heap.size≤lo→hi≤W.heap.size→Wrote (R j) W W'→φ i V lo hi W→φ i (Ct V j x) lo hi W')
  (hstep:∀ i o a' W K,ops[i]?=some o→Fr (slotsOf ds) a a'→Wrote (fun b o'=>∃ j oj,j≠i∧ops[j]?=some oj∧A1 oj i=false∧R j b o') w W→(∀ j,A1 o j=true→∃ lo hi,w.heap.size≤lo∧hi≤W.heap.size∧φ j (Be ds a') lo hi W)→(∀ v W',Wrote (R i) W W'→φ i (Ct (Be ds a') i (if o.dst=none then undef else v)) W.heap.size W'.heap.size W'→K (a'.put o.dst v) W')→o.wp P a' W K Q)
  (hend:∀ a' W,Fr (slotsOf ds) a a'→Wrote (fun b o=>∃ j,R j b o) w W→(lo hi:Nat→Nat)→(∀ i,i<ops.size→w.heap.size≤lo i∧lo i≤hi i∧hi i≤W.heap.size∧φ i (Be ds a') (lo i) (hi i) W)→(∀ i j,i<ops.size→j<ops.size→i≠j→hi i≤lo j∨hi j≤lo i)→Q .normal a' W):(Code.region id ops true).wp P Q a w:=by
 unfold Ky at hd;simp only [Bool.and_eq_true,decide_eq_true_eq] at hd;obtain ⟨⟨hlen,hd1⟩,hd2⟩:=hd
 have hgo:∀ (i:Nat) (o:Oper),ops[i]?=some o→o.guard=none:=fun i o ho=>by
  have h1:=(Array.all_eq_true_iff_forall_mem.1 hg) o (Array.mem_of_getElem? ho)
  simpa using h1
 have hlt:∀ (i:Nat) (o:Oper),ops[i]?=some o→i<ops.size:=fun i o ho=>by
  rcases Nat.lt_or_ge i ops.size with h | h
  ·exact h
  ·rw [Array.getElem?_eq_none h] at ho; cases ho
 have hdst:∀ (i:Nat) (o:Oper),ops[i]?=some o→ds[i]?=some o.dst:=fun i o ho=>by
  have h1:=List.all_eq_true.1 hd1 i (List.mem_range.2 (by rw [hlen]; exact hlt i o ho));rw [ho] at h1;simp only [Option.map_some,Option.getD_some,beq_iff_eq] at h1;exact h1.symm
 have hne:∀ i j d,i≠j→ds[i]?=some (some d)→ds[j]?≠some (some d):=fun i j d h hi hj=>by
  have li:i<ds.length:=by rcases Nat.lt_or_ge i ds.length with x | x; exact x; (rw [List.getElem?_eq_none x] at hi; cases hi)
  have lj:j<ds.length:=by rcases Nat.lt_or_ge j ds.length with x | x; exact x; (rw [List.getElem?_eq_none x] at hj; cases hj)
  have h1:=List.all_eq_true.1 (List.all_eq_true.1 hd2 i (List.mem_range.2 li)) j (List.mem_range.2 lj);rw [hi,hj] at h1
  simp at h1
  exact h h1
 refine Fg hm hb (fun _ l a' W=>Fr (slotsOf ds) a a'∧Wrote (fun b o=>∃ j,l[j]?=some true∧R j b o) w W∧(∀ (k:Nat) (o:Oper),l[k]?=some true→ops[k]?=some o→∀ j:Nat,A1 o j=true→l[j]?=some true)∧∃ lo hi:Nat→Nat,(∀ i:Nat,l[i]?=some true→w.heap.size≤lo i∧lo i≤hi i∧hi i≤W.heap.size∧φ i (Be ds a') (lo i) (hi i) W)∧∀ i j:Nat,l[i]?=some true→l[j]?=some true→i≠j→hi i≤lo j∨hi j≤lo i) ?_ ?_ ?_
 ·have hno:∀ i:Nat,(Array.replicate ops.size false)[i]?≠some true:=fun i h=>by
   rcases Nat.lt_or_ge i ops.size with x | x
   ·simp [x] at h
   ·rw [Array.getElem?_eq_none (by simpa using x)] at h; cases h
  exact ⟨⟨rfl,rfl,fun _ _=>rfl⟩,⟨rfl,rfl,rfl,Nat.le_refl _,fun _ _ _=>rfl,fun _ _ _ _=>rfl,fun _ _ _=>rfl⟩,fun k _ h=>absurd h (hno k),fun _=>0,fun _=>0,fun i h=>absurd h (hno i),fun i _ h=>absurd h (hno i)⟩
 ·rintro l a' W i o K hl ⟨F,L,hcl,lo,hi',hφ,hdj⟩ ho hf ha hK
  have hi:=hlt i o ho;have hdi:=hdst i o ho
  have hdone:∀ j,l[j]?=some true→∀ b o,R j b o→∃ j oj,j≠i∧ops[j]?=some oj∧A1 oj i=false∧R j b o:=fun j h1 b o h2=>by
   have hjl:j<ops.size:=by
    rcases Nat.lt_or_ge j ops.size with x | x
    ·exact x
    ·rw [Array.getElem?_eq_none (by omega)] at h1; cases h1
   have hjo:ops[j]?=some ops[j]:=Array.getElem?_eq_getElem hjl;refine ⟨j,ops[j],(fun e=>by rw [e,hf] at h1; cases h1),hjo,?_,h2⟩;cases hw:A1 ops[j] i
   ·rfl
   ·have:=hcl j _ h1 hjo i hw
    rw [hf] at this; cases this
  refine Hi ho (hgo i o ho) (hstep i o a' W K ho F (L.mono (fun b o _ ⟨j,h1,h2⟩=>hdone j h1 b o h2)) (fun j hj=>⟨lo j,hi' j,(hφ j (Cv ha hj)).1,(hφ j (Cv ha hj)).2.2⟩) (fun v W' hW hv=>hK _ _ ?_))
  have hset:(l.setIfInBounds i true)[i]?=some true:=by simp [hl,hi]
  have hval:Be ds (a'.put o.dst v)=Ct (Be ds a') i (if o.dst=none then undef else v):=by
   funext k
   by_cases e:k=i
   ·subst e
    rw [Aq]
    cases e:o.dst with
    | none =>
     rw [e] at hdi;unfold Be;rw [hdi]
     simp
    | some d =>
     rw [e] at hdi;have hmem:d∈slotsOf ds:=List.mem_filterMap.2 ⟨some d,List.mem_of_getElem? hdi,rfl⟩;unfold Be;rw [hdi]
     simpa using Fa (by rw [F.size]; exact hsz d hmem)
   ·rw [Ap _ _ e]
    cases e2:o.dst with
    | none=>rfl
    | some d =>
     rw [e2] at hdi;unfold Be
     cases e3:ds[k]? with
     | none=>rfl
     | some x =>
      cases x with
      | none=>rfl
      | some d' =>
       have:d≠d':=fun x=>hne k i d' e e3 (by rw [hdi,x])
       exact D9 this
  have hne':∀ k,(l.setIfInBounds i true)[k]?=some true→k≠i→l[k]?=some true:=fun k hk e=>by rw [Array.getElem?_setIfInBounds_ne (by omega)] at hk; exact hk
  refine ⟨?_,(L.mono (fun b o _ ⟨j,h1,h2⟩=>⟨j,by rw [Array.getElem?_setIfInBounds_ne (fun e=>by rw [← e,hf] at h1; cases h1)]; exact h1,h2⟩)).trans (hW.mono (fun b o _ h=>⟨i,hset,h⟩)),fun k o' hk hko j hj=>?_,fun k=>if k=i then W.heap.size else lo k,fun k=>if k=i then W'.heap.size else hi' k,fun k hk=>?_,fun k k' hk hk' hkk=>?_⟩
  ·cases e:o.dst with
   | none=>exact F
   | some d =>
    rw [e] at hdi;exact F.put (List.mem_filterMap.2 ⟨some d,List.mem_of_getElem? hdi,rfl⟩) v
  ·have h1:l[j]?=some true:=by
    by_cases e:k=i
    ·subst e
     rw [ho] at hko;obtain rfl:=Option.some.inj hko;exact Cv ha hj
    ·rw [Array.getElem?_setIfInBounds_ne (by omega)] at hk
     exact hcl k o' hk hko j hj
   by_cases e:j=i
   ·rw [e]; exact hset
   ·rw [Array.getElem?_setIfInBounds_ne (by omega)]; exact h1
  ·rw [hval]
   by_cases e:k=i
   ·subst e
    simp only [if_true];exact ⟨L.size,hW.size,Nat.le_refl _,hv⟩
   ·simp only [if_neg e]
    rw [Array.getElem?_setIfInBounds_ne (by omega)] at hk;obtain ⟨g1,g2,g3,g4⟩:=hφ k hk;refine ⟨g1,g2,Nat.le_trans g3 hW.size,?_⟩
    have hkl:k<ops.size:=by
     rcases Nat.lt_or_ge k ops.size with x | x
     ·exact x
     ·rw [Array.getElem?_eq_none (by omega)] at hk; cases hk
    have hko:ops[k]?=some ops[k]:=Array.getElem?_eq_getElem hkl
    have hnw:A1 ops[k] i=false:=by
     cases hw:A1 ops[k] i
     ·rfl
     ·have:=hcl k _ hk hko i hw
      rw [hf] at this; cases this
    exact hstab k i _ _ _ _ _ W W' e hko hnw g1 g3 hW g4
  ·by_cases e:k=i
   ·have e':k'≠i:=fun x=>hkk (e.trans x.symm)
    simp only [if_pos e,if_neg e'];exact Or.inr (hφ k' (hne' k' hk' e')).2.2.1
   ·by_cases e':k'=i
    ·simp only [if_neg e,if_pos e']
     exact Or.inl (hφ k (hne' k hk e)).2.2.1
    ·simp only [if_neg e,if_neg e']
     exact hdj k k' (hne' k hk e) (hne' k' hk' e') hkk
 ·rintro l a' W hall ⟨F,L,-,lo,hi',hφ,hdj⟩
  exact hend a' W F (L.mono (fun b o _ ⟨j,_,h2⟩=>⟨j,h2⟩)) lo hi' (fun i hi=>hφ i (hall i hi)) (fun i j hi hj=>hdj i j (hall i hi) (hall j hj))
end
end Go.Proofs.YtjnjnppongdhgaaGreat
