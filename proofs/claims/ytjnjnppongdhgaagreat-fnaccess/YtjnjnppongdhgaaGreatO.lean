import Derived.Test.YtjnjnppongdhgaaGreatE2
import Derived.ChangeOld
import Derived.ShutString
import Derived.Lib.SmallJoins
import Derived.Lib.LaidTab
import Derived.Deep.RegionLawGrows
import Derived.Deep.RegionWith
import Derived.Deep.RegionHeld3
import Derived.Deep.AppendLies
import Derived.Orders
namespace Go.Proofs.YtjnjnppongdhgaaGreat
set_option maxRecDepth 20000
open Go.ChangeShapes Go.WideShapes Go.ChangeAt Go.RowKit
section
variable {H:Type} {enc:TypeId × Value→H} {P:Program} {w:World} {base:Nat} {spare:Nat→Bool} {held:Bool}
theorem Vl {t e:TypeId} {k:IntKind} {fuel:Nat} {cs:List Value} {x:DataW H × List MemPlace} (ht:P.underlying t=some (.slice e)) (he:P.underlying e=some (.int k)) (hc:P.cellsOf e=1)
  (h:DataW.trod enc P w base spare held fuel t cs=some x) :
  ∃ (a:Option Addr) (n cap:Nat) (f:Nat→Int),cs=[.slice a n cap]∧n≤9223372036854775807∧Bu k w a n f∧∀ i,i<n→(Lit.int k (f i)).wf=true:=by
 rcases open_ints ht he hc h with ⟨rfl,_⟩ | ⟨⟨b,off,spot⟩,n,cap,zs,rfl,_,hl,hm,hz,_,hcell,hw⟩
 ·exact ⟨none,0,0,fun _=>0,rfl,by omega,fun i hi=>absurd hi (Nat.not_lt_zero _),fun i hi=>absurd hi (Nat.not_lt_zero _)⟩
 ·have hnz:n≤zs.length:=by rw [hz]; split <;> omega
  refine ⟨some ⟨b,off,spot⟩,n,cap,fun i=>zs.getD i 0,rfl,by unfold maxLen at hm; omega,fun i hi=>?_,fun i hi=>hw _ ?_⟩
  ·have hs:spot=none:=by simpa [Addr.add] using World.cell?_spot (hcell 0 (by omega))
   subst hs;refine ⟨b,off,rfl,?_⟩;have:=hcell i (by omega);unfold Addr.add at this;split at this
   ·rename_i h0
    subst h0;exact this
   ·exact this
  ·show zs.getD i 0∈zs
   rw [List.getD_eq_getElem?_getD,List.getElem?_eq_getElem (by omega)];exact List.getElem_mem _
theorem Vm {t e:TypeId} {k:IntKind} {a:Option Addr} {n cap:Nat} {d:DataW H} {p:List MemPlace} (ht:P.underlying t=some (.slice e)) (he:P.underlying e=some (.int k)) (hc:P.cellsOf e=1)
  (h:DataW.Trod enc P w base spare held t (.slice a n cap) d p):∃ f:Nat→Int,n≤9223372036854775807∧Bu k w a n f∧∀ i,i<n→(Lit.int k (f i)).wf=true:=by
 obtain ⟨fuel,hf⟩:=h;obtain ⟨a',n',c',f,e,r⟩:=Vl ht he hc hf
 simp [Value.cells] at e
 obtain ⟨rfl,rfl,rfl⟩:=e;exact ⟨f,r⟩
end
set_option linter.unusedVariables false
set_option linter.unusedSimpArgs false
theorem Jbb (w:World) (a b:Int):Calls Tryz.prog 140 #[.i a,.i b] w fun e w'=>e=.returned (.i (max a b))∧w'=w:=by
 by_cases h:b<a
 ·have HE:Hid (max a b=a):=by show _=_; omega
  go_enter Tryz.func140,Tryz.ntmps140
  go_wp2;go_ret;exact ⟨A7 HE.out.symm,rfl⟩
 ·have HE:Hid (max a b=b):=by show _=_; omega
  go_enter Tryz.func140,Tryz.ntmps140
  go_wp2;go_ret;exact ⟨A7 HE.out.symm,rfl⟩
theorem Jan (w:World) (a b:Int):Calls Tryz.prog 120 #[.i a,.i b] w fun e w'=>e=.returned (.i (min a b))∧w'=w:=by
 by_cases h:a<b
 ·have HE:Hid (min a b=a):=by show _=_; omega
  go_enter Tryz.func120,Tryz.ntmps120
  go_wp2;go_ret;exact ⟨A7 HE.out.symm,rfl⟩
 ·have HE:Hid (min a b=b):=by show _=_; omega
  go_enter Tryz.func120,Tryz.ntmps120
  go_wp2;go_ret;exact ⟨A7 HE.out.symm,rfl⟩
theorem Qi (w:World) (t:Int) (h:t≤9223372036854775807):Calls Tryz.prog 129 #[.i t] w fun e w'=>e=.returned (.i (max t 0/64))∧w'=w:=by
 have f0:0≤max t 0:=by omega
 have f1:max t 0≤9223372036854775807:=by omega
 have M:=Ac (Jbb w t 0);generalize max t 0=f at *;have d64:f.tdiv 64=f/64:=Int.tdiv_eq_ediv_of_nonneg f0
 go_enter Tryz.func129,Tryz.ntmps129
 go_wp2_with fail;refine (Ad M).mono ?_;rintro e w1 ⟨rfl,rfl⟩;go_wp2;go_ret;exact ⟨rfl,rfl⟩
structure Ay (w:World) (lo:Nat) (v:Value) (n:Nat) (f:Nat→Int):Prop where
 ex:∃ a cap,v=.slice a n cap∧n≤1048576∧Bu .i64 w a n f∧Ji w (Ce a n)∧∀ b o,Ce a n b o→lo≤b
theorem Fj {m:Nat} {ln:Nat→Nat} {f:Nat→Nat→Int} (h:E6 m ln f=true):(∀ i,i<m→Cz (ln i) (f i)=true)∧1≤m∧m≤8:=of_decide_eq_true h
def rowVals (n:Nat) (g:Nat→Int):List Value:=(List.range n).map (fun i=>.int .i64 (g i))
theorem A3 (n:Nat) (g:Nat→Int):(rowVals n g).length=n:=by simp [rowVals]
theorem A8 (n:Nat) (g:Nat→Int) (j:Nat) (h:j<n):(rowVals n g)[j]?=some (.int .i64 (g j)):=by simp [rowVals,h]
theorem E7 (n:Nat) (g:Nat→Int):∀ u∈rowVals n g,u.oneCell'=true:=fun u hu=>by
 simp only [rowVals,List.mem_map] at hu;obtain ⟨i,_,rfl⟩:=hu
 rfl
theorem Fx (b off j:Nat):(⟨b,off,none⟩:Addr).add j=⟨b,off+j,none⟩:=by
 unfold Addr.add;split
 ·rename_i h
  subst h
  rfl
 ·rfl
theorem Cw {w:World} {b off n:Nat} {g:Nat→Int} (h:Bu .i64 w (some ⟨b,off,none⟩) n g):∀ j u,(rowVals n g)[j]?=some u→w.cell? ((⟨b,off,none⟩:Addr).add j)=some u:=fun j u hu=>by
 have hj:j<n:=by
  have:=List.getElem?_eq_some_iff.1 hu;obtain ⟨hl,_⟩:=this;rw [A3] at hl;exact hl
 rw [A8 n g j hj] at hu;obtain ⟨b',off',e,hc⟩:=h j hj;simp only [Option.some.injEq,Addr.mk.injEq,and_true] at e hu;obtain ⟨rfl,rfl⟩:=e;rw [Fx,hc,hu]
theorem N1 {w:World} {base lo n cap g:Nat} {f:Nat→Int} (h:w.ownsRow base 3 1 (.slice (some ⟨g,0,none⟩) n cap) n (rowVals n f)) (hg:lo≤g) (hlt:g<w.heap.size) (hn:n≤1048576):Ay w lo (.slice (some ⟨g,0,none⟩) n cap) n f :=
 ⟨_,cap,rfl,hn,fun i hi=>⟨g,0,rfl,by rw [Nat.zero_add,h.cellAt i (by omega),A8 n f i hi]⟩,fun b o hF=>by
  obtain ⟨off,e,_⟩:=hF;simp only [Option.some.injEq,Addr.mk.injEq,and_true] at e;obtain ⟨rfl,rfl⟩:=e
  exact ⟨hlt,h.frozenAt o⟩,fun b o hF=>by
  obtain ⟨off,e,_⟩:=hF;simp only [Option.some.injEq,Addr.mk.injEq,and_true] at e
  omega⟩
theorem A0 (a:Option Addr) (b o:Nat):¬ Ce a 0 b o:=fun ⟨_,_,_,_⟩=>by omega
set_option linter.unusedVariables false
section
variable {P:Program} {ops:Array Oper} {Q:Exit→Act→World→Prop}
theorem Hi {i:Nat} {o:Oper} {K:Act→World→Prop} {a:Act} {w:World} (ho:ops[i]?=some o) (hg:o.guard=none) (h:o.wp P a w K Q):wpOp P ops Q i K a w:=by
 have hw:Region.wanted o (yielded ops a.tmps)=true:=by simp [Region.wanted,hg]
 unfold wpOp;rw [ho];simp only [hw,if_true];exact Or.inl h
def Kq (ops:Array Oper):Bool:=(List.range ops.size).all fun i=>((ops[i]?).map (·.after.all fun e=>!Region.binds .any e || decide (e.on<i))).getD true
theorem Ty (hb:Kq ops=true) {l:Array Bool} (hs:l.size=ops.size) (h:Region.ready .any ops l=[]):∀ i,i<ops.size→l[i]?=some true:=by
 intro i
 induction i using Nat.strongRecOn with
 | ind i ih =>
  intro hi
  rcases hb':l[i]? with _ | b
  ·rw [Array.getElem?_eq_none_iff] at hb'; omega
  ·cases b with
   | true=>rfl
   | false =>
    exfalso
    have hm:i∈Region.ready .any ops l:=by
     unfold Region.ready;rw [List.mem_filter];refine ⟨List.mem_range.2 hi,?_⟩;have ho:ops[i]?=some ops[i]:=Array.getElem?_eq_getElem hi
     have hd:l.getD i true=false:=by rw [Array.getD_eq_getD_getElem?,hb']; rfl
     rw [hd,ho];simp only [Bool.not_false,Bool.true_and,Option.map_some,Option.getD_some];rw [Array.all_eq_true_iff_forall_mem];intro e he;have h1:=List.all_eq_true.1 hb i (List.mem_range.2 hi);rw [ho] at h1;simp only [Option.map_some,Option.getD_some] at h1;have h2:=(Array.all_eq_true_iff_forall_mem.1 h1) e he
     cases hbe:Region.binds .any e with
     | false=>rfl
     | true =>
      rw [hbe] at h2;simp only [Bool.not_true,Bool.false_or,decide_eq_true_eq] at h2;have:=ih e.on h2 (by omega);rw [Array.getD_eq_getD_getElem?,this]
      rfl
    rw [h] at hm;exact absurd hm (by simp)
theorem Tz (hb:Kq ops=true) (J:Array Bool→Act→World→Prop)
  (hs:∀ l a w i o K,l.size=ops.size→J l a w→ops[i]?=some o→l[i]?=some false→(o.after.all fun e=>!Region.binds .any e || l.getD e.on false)=true→(∀ a' w',J (l.setIfInBounds i true) a' w'→K a' w')→wpOp P ops Q i K a w)
  (he:∀ l a w,(∀ i,i<ops.size→l[i]?=some true)→J l a w→Q .normal a w) :
  ∀ (fuel:Nat) (l:Array Bool) (a:Act) (w:World),l.size=ops.size→(l.toList.filter (!·)).length≤fuel→J l a w→wpAny P .any ops Q fuel l a w:=by
 intro fuel
 induction fuel with
 | zero =>
  intro l a w hl hc hj
  have hall:∀ i,i<ops.size→l[i]?=some true:=by
   intro i hi
   rcases hb':l[i]? with _ | b
   ·rw [Array.getElem?_eq_none_iff] at hb'; omega
   ·cases b with
    | true=>rfl
    | false =>
     have hm:false∈l.toList.filter (!·):=List.mem_filter.2 ⟨by rw [Array.mem_toList_iff]; exact Array.mem_of_getElem? hb',rfl⟩;have:=List.length_pos_of_mem hm
     omega
  refine ⟨?_,he l a w hall hj⟩;unfold Region.ready;rw [List.filter_eq_nil_iff];intro i hi;have:=hall i (List.mem_range.1 hi);rw [Array.getD_eq_getD_getElem?,this]
  simp
 | succ fuel ih =>
  intro l a w hl hc hj;refine ⟨fun hr=>he l a w (Ty hb hl hr) hj,fun i hi=>?_⟩;unfold Region.ready at hi;rw [List.mem_filter] at hi;obtain ⟨hi1,hi2⟩:=hi;have hlt:=List.mem_range.1 hi1;have ho:ops[i]?=some ops[i]:=Array.getElem?_eq_getElem hlt;rw [ho] at hi2;simp only [Option.map_some,Option.getD_some,Bool.and_eq_true,Bool.not_eq_true'] at hi2;obtain ⟨hf,ha⟩:=hi2
  have hfl:l[i]?=some false:=by
   rcases hb':l[i]? with _ | b
   ·rw [Array.getElem?_eq_none_iff] at hb'; omega
   ·rw [Array.getD_eq_getD_getElem?,hb'] at hf; simp at hf; rw [hf]
  refine hs l a w i ops[i] _ hl hj ho hfl ha (fun a' w' hj'=>ih _ a' w' (by simp [hl]) ?_ hj')
  have key:∀ (xs:List Bool) (k:Nat),xs[k]?=some false→((xs.set k true).filter (!·)).length+1=(xs.filter (!·)).length:=by
   intro xs
   induction xs with
   | nil=>intro k hk; simp at hk
   | cons x xs ihx =>
    intro k hk
    cases k with
    | zero=>simp at hk; subst hk; simp
    | succ k =>
     have:=ihx k (by simpa using hk)
     cases x <;> simp <;> simp at this <;> omega
  have hk:=key l.toList i (by rw [Array.getElem?_toList]; exact hfl);rw [Array.toList_setIfInBounds]
  omega
theorem Fg {id:Nat} {a:Act} {w:World} (hm:P.follows .mixedOrders=true) (hb:Kq ops=true) (J:Act→Array Bool→Act→World→Prop)
  (h0:J a (Array.replicate ops.size false) a { w with drawn:=w.drawn+1 })
  (hs:∀ l a' w' i o K,l.size=ops.size→J a l a' w'→ops[i]?=some o→l[i]?=some false→(o.after.all fun e=>!Region.binds .any e || l.getD e.on false)=true→(∀ a'' w'',J a (l.setIfInBounds i true) a'' w''→K a'' w'')→wpOp P ops Q i K a' w')
  (he:∀ l a' w',(∀ i,i<ops.size→l[i]?=some true)→J a l a' w'→Q .normal a' w'):(Code.region id ops true).wp P Q a w :=
 wp_region_any hm (Tz hb (J a) hs he ops.size _ a _ (by simp) (by simp) h0)
end
theorem D9 {a:Act} {d t:Nat} {v:Value} (h:d≠t):(a.put (some d) v).tmps[t]?.getD undef=a.tmps[t]?.getD undef:=by
 simp [Act.put,h]
theorem Fa {a:Act} {d:Nat} {v:Value} (h:d<a.tmps.size):(a.put (some d) v).tmps[d]?.getD undef=v:=by
 simp [Act.put,h]
theorem size_put {a:Act} {d:Option Nat} {v:Value}:(a.put d v).tmps.size=a.tmps.size:=by cases d <;> simp [Act.put]
theorem Kr {a:Act} {d:Option Nat} {v:Value}:(a.put d v).defers=a.defers:=by cases d <;> rfl
structure Fr (ts:List Nat) (a0 a:Act):Prop where
 defers:a.defers=a0.defers
 size:a.tmps.size=a0.tmps.size
 keep:∀ t,t ∉ ts→a.tmps[t]?.getD undef=a0.tmps[t]?.getD undef
theorem Fr.put {ts:List Nat} {a0 a:Act} (h:Fr ts a0 a) {d:Nat} (hd:d∈ts) (v:Value):Fr ts a0 (a.put (some d) v) :=
 ⟨Kr.trans h.defers,size_put.trans h.size,fun t ht=>(D9 (fun e=>ht (by subst e; exact hd))).trans (h.keep t ht)⟩
theorem Fr.get {ts:List Nat} {a0 a:Act} (h:Fr ts a0 a) {t:Nat} {v:Value} (ht:t ∉ ts) (hv:a0.tmps[t]?.getD undef=v):a.tmps[t]?.getD undef=v:=(h.keep t ht).trans hv
theorem Fr.same {ts:List Nat} {a0 a:Act} (h:Fr ts a0 a):a=ts.foldl (fun b t=>b.put (some t) (a.tmps[t]?.getD undef)) a0:=by
 have key:∀ (xs:List Nat) (b:Act),(xs.foldl (fun b t=>b.put (some t) (a.tmps[t]?.getD undef)) b).defers=b.defers∧(xs.foldl (fun b t=>b.put (some t) (a.tmps[t]?.getD undef)) b).tmps.size=b.tmps.size ∧
   (b.tmps.size=a.tmps.size→∀ t,(t∈xs∨b.tmps[t]?.getD undef=a.tmps[t]?.getD undef)→(xs.foldl (fun b t=>b.put (some t) (a.tmps[t]?.getD undef)) b).tmps[t]?.getD undef=a.tmps[t]?.getD undef):=by
  intro xs
  induction xs with
  | nil=>intro b; exact ⟨rfl,rfl,fun _ t ht=>ht.elim (fun h=>absurd h (by simp)) id⟩
  | cons x xs ih =>
   intro b;obtain ⟨i1,i2,i3⟩:=ih (b.put (some x) (a.tmps[x]?.getD undef));refine ⟨i1.trans Kr,i2.trans size_put,fun hs t ht=>i3 (size_put.trans hs) t ?_⟩
   by_cases e:x=t
   ·subst e
    by_cases hx:x<b.tmps.size
    ·exact Or.inr (Fa hx)
    ·right
     simp [Act.put,hx]
     rw [Array.getElem?_eq_none (by omega)]
     rfl
   ·rcases ht with ht | ht
    ·rcases List.mem_cons.1 ht with h' | h'
     ·exact absurd h'.symm e
     ·exact Or.inl h'
    ·exact Or.inr ((D9 e).trans ht)
 obtain ⟨k1,k2,k3⟩:=key ts a0
 rcases a with ⟨tm,df⟩
 generalize hF:ts.foldl (fun b t=>b.put (some t) ((Act.mk tm df).tmps[t]?.getD undef)) a0=F at *
 rcases F with ⟨tm',df'⟩
 have e1:df=df':=h.defers.trans k1.symm
 have e2:tm=tm':=by
  apply Array.ext
  ·exact h.size.trans k2.symm
  ·intro i h1 h2
   have:=k3 h.size.symm i (by
    by_cases hm:i∈ts
    ·exact Or.inl hm
    ·exact Or.inr (h.keep i hm).symm)
   simp [h1,h2] at this
   exact this.symm
 rw [e1,e2]
structure Code (w:World) (B:Nat) (a:Option Addr) (len:Nat):Prop where
 le:len≤1048576
 at_:∀ i,i<len→∃ b off,a=some ⟨b,off,none⟩∧b<B∧∃ n,w.cell? ⟨b,off+i,none⟩=some (.int .u8 n)∧0≤n∧n<256
structure A5 (c:Nat) (w w':World):Prop where
 os:w'.os=w.os
 tape:w'.tape=w.tape
 output:w'.output=w.output
 size:w'.heap.size=w.heap.size
 block:∀ k,k≠c→w'.heap[k]?=w.heap[k]?
theorem A5.refl (c:Nat) (w:World):A5 c w w:=⟨rfl,rfl,rfl,rfl,fun _ _=>rfl⟩
theorem A5.trans {c:Nat} {u v w:World} (h:A5 c u v) (k:A5 c v w):A5 c u w :=
 ⟨k.os.trans h.os,k.tape.trans h.tape,k.output.trans h.output,k.size.trans h.size,fun i hi=>(k.block i hi).trans (h.block i hi)⟩
theorem A5.drew {c:Nat} {u w:World} (h:A5 c u w):A5 c u w.drew:=⟨h.os,h.tape,h.output,h.size,h.block⟩
theorem A5.drewN {c:Nat} {u w:World} (h:A5 c u w) (n:Nat):A5 c u (w.drewN n):=⟨h.os,h.tape,h.output,h.size,h.block⟩
theorem A5.setCell {c:Nat} {u w:World} (h:A5 c u w) {o:Nat} {s:Option _} (x:Value):A5 c u (w.setCell ⟨c,o,s⟩ x) :=
 h.trans ⟨rfl,rfl,rfl,by simp [World.setCell],fun k hk=>Below.heap_setCell _ _ _ _ hk⟩
theorem A5.below {c B:Nat} {w w':World} (h:A5 c w w') (hB:B≤c):Below B w w' :=
 ⟨h.os,h.tape,h.output,Nat.le_of_eq h.size.symm,fun k hk=>h.block k (by omega)⟩
theorem A5.cell {c:Nat} {w w':World} (h:A5 c w w') {p:Addr} (hp:p.block≠c):w'.cell? p=w.cell? p:=World.cell?_of_block (w:=w) (h.block p.block hp)
theorem A5.frozen {c:Nat} {w w':World} (h:A5 c w w') {p:Addr} (hp:p.block≠c):w'.frozen? p=w.frozen? p:=World.frozen?_of_block (w:=w) (h.block p.block hp)
structure Dl (w:World) (B c:Nat) (a:Option Addr) (len cap:Nat):Prop where
 up:B≤c
 code:Code w B a len
 sl:w.cell? ⟨c,0,none⟩=some (.slice a len cap)
 ix:∃ i:Nat,i≤len∧w.cell? ⟨c,1,none⟩=some (.i i)
 hx:∃ h:Int,w.cell? ⟨c,2,none⟩=some (.i h)
 f1:w.frozen? ⟨c,1,none⟩=false
 f2:w.frozen? ⟨c,2,none⟩=false
theorem Code.keep {w w':World} {B:Nat} {a:Option Addr} {len:Nat} (h:Code w B a len) (k:Below B w w'):Code w' B a len :=
 ⟨h.le,fun i hi=>by
  obtain ⟨b,off,ha,hb,n,hn,n0,n1⟩:=h.at_ i hi
  exact ⟨b,off,ha,hb,n,by rw [k.cell (p:=⟨b,off+i,none⟩) hb]; exact hn,n0,n1⟩⟩
theorem Dl.drewN {w:World} {B c:Nat} {a:Option Addr} {len cap:Nat} (H:Dl w B c a len cap) (n:Nat):Dl (w.drewN n) B c a len cap :=
 ⟨H.up,H.code.keep ((A5.refl c w).drewN n |>.below H.up),H.sl,H.ix,H.hx,H.f1,H.f2⟩
theorem Xu {w:World} {B c:Nat} {a:Option Addr} {len cap:Nat} (up:B≤c) (code:Code w B a len) (sl:w.cell? ⟨c,0,none⟩=some (.slice a len cap)) {i:Nat} (hi:i≤len) (ix:w.cell? ⟨c,1,none⟩=some (.i i)) {h:Int} (hx:w.cell? ⟨c,2,none⟩=some (.i h)) (f1:w.frozen? ⟨c,1,none⟩=false) (f2:w.frozen? ⟨c,2,none⟩=false) (h':Int) :
  Dl (w.setCell ⟨c,2,none⟩ (.i h')) B c a len cap :=
 ⟨up,code.keep ((A5.refl c w).setCell _ |>.below up),by go_simp,⟨i,hi,by go_simp⟩,⟨h',by go_simp⟩,by go_simp,by go_simp⟩
theorem Vq {w:World} {B c:Nat} {a:Option Addr} {len cap:Nat} (up:B≤c) (code:Code w B a len) (sl:w.cell? ⟨c,0,none⟩=some (.slice a len cap)) {i:Nat} (ix:w.cell? ⟨c,1,none⟩=some (.i i)) {h:Int} (hx:w.cell? ⟨c,2,none⟩=some (.i h)) (f1:w.frozen? ⟨c,1,none⟩=false) (f2:w.frozen? ⟨c,2,none⟩=false) (h':Int) (n:Nat) (hi:i<len) :
  Dl (((w.setCell ⟨c,2,none⟩ (.i h')).drewN n).setCell ⟨c,1,none⟩ (.i ((i:Int)+1))) B c a len cap :=
 ⟨up,code.keep ((((A5.refl c w).setCell _).drewN n).setCell _ |>.below up),by go_simp,⟨i+1,hi,by go_simp⟩,⟨h',by go_simp⟩,by go_simp,by go_simp⟩
theorem Kn (w:World) (B c:Nat) (a:Option Addr) (len cap:Nat) (H:Dl w B c a len cap) :
  Calls Tryz.prog 86 #[(pt c 0)] w fun e w'=>∃ x:Int,e=.returned (.i x)∧0≤x∧x<256∧Dl w' B c a len cap∧A5 c w w':=by
 obtain ⟨up,code,sl,⟨i,hi,ix⟩,⟨h,hx⟩,f1,f2⟩:=H;have h255:=Kg;have hle:=code.le
 by_cases hlt:i<len
 ·obtain ⟨b,off,rfl,hb,n,hn,n0,n1⟩:=code.at_ i hlt
  have hbc:b≠c:=by omega
  have hlt':(i:Int)<(len:Int):=by omega
  go_enter Tryz.func86,Tryz.ntmps86
  go_wp2
  go_quiet (fail)
  go_wp2
  go_quiet (fail)
  go_wp2
  go_quiet (fail)
  go_wp2;go_ret;exact ⟨_,rfl,by omega,by omega,Vq up code sl ix hx f1 f2 _ _ hlt,(((A5.refl c w).setCell _).drewN _).setCell _⟩
 ·have hlt':decide ((i:Int)<(len:Int))=false:=by simp; omega
  go_enter Tryz.func86,Tryz.ntmps86
  go_wp2
  go_quiet (fail)
  go_wp2
  go_quiet (fail)
  go_wp2;go_ret;exact ⟨_,rfl,by omega,by omega,((Xu up code sl hi ix hx f1 f2 _).drewN _).drewN _,(((A5.refl c w).setCell _).drewN _).drewN _⟩
theorem Cq (w:World) (B c:Nat) (a:Option Addr) (len cap:Nat) (H:Dl w B c a len cap) (n:Int) :
  Calls Tryz.prog 39 #[(pt c 0),.i n] w fun e w'=>∃ x:Int,e=.returned (.i x)∧0≤x∧(x<n∨x=0)∧Dl w' B c a len cap∧A5 c w w':=by
 by_cases h0:n≤0
 ·go_enter Tryz.func39,Tryz.ntmps39
  go_wp2;go_ret;exact ⟨0,rfl,by omega,Or.inr rfl,H,A5.refl _ _⟩
 ·by_cases h1:n≤256
  ·go_enter Tryz.func39,Tryz.ntmps39
   go_wp2_with (go_at_call 86; refine (Kn _ B c a len cap H).mono ?_; rintro e w1 ⟨x,rfl,x0,x1,H1,O1⟩);go_ret;exact ⟨_,rfl,Int.emod_nonneg _ (by omega),Or.inl (Int.emod_lt_of_pos _ (by omega)),H1,O1⟩
  ·go_enter Tryz.func39,Tryz.ntmps39
   go_wp2_with fail;refine (Kn _ B c a len cap H).mono ?_;rintro e w1 ⟨x1,rfl,p1,q1,H1,O1⟩;go_wp2_with fail;refine (Kn _ B c a len cap H1).mono ?_;rintro e w2 ⟨x2,rfl,p2,q2,H2,O2⟩;go_wp2_with fail;refine (Kn _ B c a len cap H2).mono ?_;rintro e w3 ⟨x3,rfl,p3,q3,H3,O3⟩;go_wp2_with fail;refine (Kn _ B c a len cap H3).mono ?_;rintro e w4 ⟨x4,rfl,p4,q4,H4,O4⟩;go_wp2;go_ret;exact ⟨_,rfl,Int.emod_nonneg _ (by omega),Or.inl (Int.emod_lt_of_pos _ (by omega)),H4,((O1.trans O2).trans O3).trans O4⟩
theorem Vr (w:World) (B c:Nat) (a:Option Addr) (len cap:Nat) (H:Dl w B c a len cap) (n:Int) :
  Calls Tryz.prog 74 #[(pt c 0),.i n] w fun e w'=>∃ x:Bool,e=.returned (.bool x)∧Dl w' B c a len cap∧A5 c w w':=by
 go_enter Tryz.func74,Tryz.ntmps74
 go_wp2_with (go_at_call 39; refine (Cq _ B c a len cap H n).mono ?_; rintro e w1 ⟨x,rfl,x0,x1,H1,O1⟩);go_ret;exact ⟨_,rfl,H1,O1⟩
theorem Dl.only {w w':World} {B c d:Nat} {a:Option Addr} {len cap:Nat} (H:Dl w B c a len cap) (k:A5 d w w') (hd:d≠c) (hB:B≤d):Dl w' B c a len cap:=by
 have e:∀ o,w'.cell? ⟨c,o,none⟩=w.cell? ⟨c,o,none⟩:=fun o=>k.cell (p:=⟨c,o,none⟩) (fun h=>hd h.symm)
 have f:∀ o,w'.frozen? ⟨c,o,none⟩=w.frozen? ⟨c,o,none⟩:=fun o=>k.frozen (p:=⟨c,o,none⟩) (fun h=>hd h.symm)
 obtain ⟨up,code,sl,⟨i,hi,ix⟩,⟨h,hx⟩,f1,f2⟩:=H;exact ⟨up,code.keep (k.below hB),(e 0).trans sl,⟨i,hi,(e 1).trans ix⟩,⟨h,(e 2).trans hx⟩,(f 1).trans f1,(f 2).trans f2⟩
theorem Dl.below {w w':World} {B c B':Nat} {a:Option Addr} {len cap:Nat} (H:Dl w B c a len cap) (k:Below B' w w') (hc:c<B'):Dl w' B c a len cap:=by
 have e:∀ o,w'.cell? ⟨c,o,none⟩=w.cell? ⟨c,o,none⟩:=fun o=>k.cell (p:=⟨c,o,none⟩) hc
 have f:∀ o,w'.frozen? ⟨c,o,none⟩=w.frozen? ⟨c,o,none⟩:=fun o=>k.frozen (p:=⟨c,o,none⟩) hc
 obtain ⟨up,code,sl,⟨i,hi,ix⟩,⟨h,hx⟩,f1,f2⟩:=H;exact ⟨up,code.keep (k.mono (by omega)),(e 0).trans sl,⟨i,hi,(e 1).trans ix⟩,⟨h,(e 2).trans hx⟩,(f 1).trans f1,(f 2).trans f2⟩
theorem Y1 (w:World) (B:Nat) (a:Option Addr) (len cap:Nat) (hB:B≤w.heap.size) (H:Code w B a len) :
  Calls Tryz.prog 14 #[.slice a len cap] w fun e w'=>e=.returned ((pt w.heap.size 0))∧Dl w' B w.heap.size a len cap∧Below w.heap.size w w'∧w'.heap.size=w.heap.size+1:=by
 have hle:=H.le
 go_enter Tryz.func14,Tryz.ntmps14
 go_wp2
 go_loop [3,4] (fun h i=>∃ k:Nat,k≤len∧i=.i k∧∃ z:Int,h=.i z) (fun _ i=>len-(intOf i).toNat)
 case atStart=>exact ⟨0,Nat.zero_le _,rfl,_,rfl⟩
 case round =>
  obtain ⟨k,hk,rfl,z,rfl⟩:=hrel
  by_cases h1:k<len
  ·by_cases h2:k<4000
   ·obtain ⟨b,off,rfl,hb,n,hn,n0,n1⟩:=H.at_ k h1
    have h1':(k:Int)<(len:Int):=by omega
    have h2':(k:Int)<4000:=by omega
    go_wp2
    go_round
    case rel=>exact ⟨k+1,by omega,by go_num,_,rfl⟩
    case measure=>simp [intOf]; omega
   ·have h1':(k:Int)<(len:Int):=by omega
    have h2':¬ (k:Int)<4000:=by omega
    go_wp2;go_ret;refine ⟨rfl,⟨hB,H.keep ((Below.refl _ _).alloc hB _),by go_simp,⟨0,Nat.zero_le _,by go_simp⟩,⟨z,by go_simp⟩,by go_simp,by go_simp⟩,(Below.refl _ _).alloc (Nat.le_refl _) _,by simp⟩
  ·have h1':¬ (k:Int)<(len:Int):=by omega
   have h3':decide ((k:Int)<(len:Int))=false:=by simpa using h1'
   go_wp2;go_ret;refine ⟨rfl,⟨hB,H.keep ((Below.refl _ _).alloc hB _),by go_simp,⟨0,Nat.zero_le _,by go_simp⟩,⟨z,by go_simp⟩,by go_simp,by go_simp⟩,(Below.refl _ _).alloc (Nat.le_refl _) _,by simp⟩
structure Step (c:Nat) (w w':World):Prop where
 os:w'.os=w.os
 tape:w'.tape=w.tape
 output:w'.output=w.output
 size:w.heap.size≤w'.heap.size
 block:∀ k,k<w.heap.size→k≠c→w'.heap[k]?=w.heap[k]?
theorem Step.refl (c:Nat) (w:World):Step c w w:=⟨rfl,rfl,rfl,Nat.le_refl _,fun _ _ _=>rfl⟩
theorem Step.trans {c:Nat} {u v w:World} (h:Step c u v) (k:Step c v w):Step c u w :=
 ⟨k.os.trans h.os,k.tape.trans h.tape,k.output.trans h.output,Nat.le_trans h.size k.size,fun i hi hc=>(k.block i (Nat.lt_of_lt_of_le hi h.size) hc).trans (h.block i hi hc)⟩
theorem A5.step {c:Nat} {w w':World} (h:A5 c w w'):Step c w w':=⟨h.os,h.tape,h.output,Nat.le_of_eq h.size.symm,fun k _ hk=>h.block k hk⟩
theorem Dw {B c:Nat} {w w':World} (h:Below B w w') (hB:w.heap.size≤B):Step c w w':=⟨h.os,h.tape,h.output,h.size,fun k hk _=>h.block k (by omega)⟩
theorem Step.alloc {c:Nat} {u w:World} (h:Step c u w) (o:Obj):Step c u (w.alloc o) :=
 h.trans (Dw ((Below.refl w.heap.size w).alloc (Nat.le_refl _) o) (Nat.le_refl _))
theorem Step.drewN {c:Nat} {u w:World} (h:Step c u w) (n:Nat):Step c u (w.drewN n):=⟨h.os,h.tape,h.output,h.size,h.block⟩
theorem Step.below {c B:Nat} {w w':World} (h:Step c w w') (hc:B≤c) (hB:B≤w.heap.size):Below B w w' :=
 ⟨h.os,h.tape,h.output,h.size,fun k hk=>h.block k (by omega) (by omega)⟩
theorem Dl.alloc {w:World} {B c:Nat} {a:Option Addr} {len cap:Nat} (H:Dl w B c a len cap) (o:Obj) (hc:c<w.heap.size):Dl (w.alloc o) B c a len cap :=
 H.below ((Below.refl w.heap.size w).alloc (Nat.le_refl _) o) hc
theorem Ep (w:World) (B c:Nat) (a:Option Addr) (len cap:Nat) (H:Dl w B c a len cap) (m n:Nat) (hn:0<n) (hn':n≤1048576) (hm:m≠c) (zs:Nat→Int) (hz:∀ j,j<n→w.cell? ⟨m,j,none⟩=some (.i (zs j))) :
  Calls Tryz.prog 41 #[(pt c 0),.slice (some ⟨m,0,none⟩) n n] w fun e w'=>∃ j:Nat,e=.returned (.i (zs j))∧j<n∧Dl w' B c a len cap∧A5 c w w':=by
 go_enter Tryz.func41,Tryz.ntmps41
 go_wp2_with fail;refine (Cq _ B c a len cap H n).mono ?_;rintro e w1 ⟨x,rfl,x0,x1,H1,O1⟩;obtain ⟨j,rfl⟩:=Int.eq_ofNat_of_zero_le x0
 have hj:j<n:=by omega
 have hj':(j:Int)<(n:Int):=by omega
 have hc:=(O1.cell (p:=⟨m,j,none⟩) hm).trans (hz j hj);go_wp2;go_ret;exact ⟨j,rfl,hj,H1,O1⟩
end Go.Proofs.YtjnjnppongdhgaaGreat
