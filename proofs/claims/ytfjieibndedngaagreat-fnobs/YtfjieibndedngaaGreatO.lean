import Derived.Test.YtfjieibndedngaaGreatS2
import Derived.Test.YtfjieibndedngaaGreatC1
import Derived.ChangeOld
import Derived.ShutString
import Derived.Lib.SmallJoins
import Derived.Lib.LaidTab
import Derived.Deep.RegionLawGrows
import Derived.Deep.RegionWith
import Derived.Deep.RegionHeld3
import Derived.Deep.AppendLies
import Derived.Laws.Tables
import Derived.Laws.CopyRow
namespace Go.Proofs.YtfjieibndedngaaGreat
set_option maxRecDepth 20000
open Go.ChangeShapes Go.WideShapes Go.ChangeAt Go.RowKit
section
variable {H:Type} {enc:TypeId × Value→H} {P:Program} {w:World} {base:Nat} {spare:Nat→Bool} {held:Bool}
theorem Sj {t e:TypeId} {k:IntKind} {fuel:Nat} {cs:List Value} {x:DataW H × List MemPlace} (ht:P.underlying t=some (.slice e)) (he:P.underlying e=some (.int k)) (hc:P.cellsOf e=1)
  (h:DataW.trod enc P w base spare held fuel t cs=some x) :
  ∃ (a:Option Addr) (n cap:Nat) (f:Nat→Int),cs=[.slice a n cap]∧n≤9223372036854775807∧Bv k w a n f∧∀ i,i<n→(Lit.int k (f i)).wf=true:=by
 rcases open_ints ht he hc h with ⟨rfl,_⟩ | ⟨⟨b,off,spot⟩,n,cap,zs,rfl,_,hl,hm,hz,_,hcell,hw⟩
 ·exact ⟨none,0,0,fun _=>0,rfl,by omega,fun i hi=>absurd hi (Nat.not_lt_zero _),fun i hi=>absurd hi (Nat.not_lt_zero _)⟩
 ·have hnz:n≤zs.length:=by rw [hz]; split <;> omega
  refine ⟨some ⟨b,off,spot⟩,n,cap,fun i=>zs.getD i 0,rfl,by unfold maxLen at hm; omega,fun i hi=>?_,fun i hi=>hw _ ?_⟩
  ·have hs:spot=none:=by simpa [Addr.add] using World.cell?_spot (hcell 0 (by omega))
   subst hs;refine ⟨b,off,rfl,?_⟩;have:=hcell i (by omega);unfold Addr.add at this;split at this
   ·rename_i h0
    subst h0;exact this
   ·exact this
  ·show zs.getD i 0∈zs
   rw [List.getD_eq_getElem?_getD,List.getElem?_eq_getElem (by omega)];exact List.getElem_mem _
theorem Sk {t e:TypeId} {k:IntKind} {a:Option Addr} {n cap:Nat} {d:DataW H} {p:List MemPlace} (ht:P.underlying t=some (.slice e)) (he:P.underlying e=some (.int k)) (hc:P.cellsOf e=1)
  (h:DataW.Trod enc P w base spare held t (.slice a n cap) d p):∃ f:Nat→Int,n≤9223372036854775807∧Bv k w a n f∧∀ i,i<n→(Lit.int k (f i)).wf=true:=by
 obtain ⟨fuel,hf⟩:=h;obtain ⟨a',n',c',f,e,r⟩:=Sj ht he hc hf
 simp [Value.cells] at e
 obtain ⟨rfl,rfl,rfl⟩:=e;exact ⟨f,r⟩
end
set_option linter.unusedVariables false
section
variable {P:Program} {ops:Array Oper} {Q:Exit→Act→World→Prop}
def G8 (ops:Array Oper):Nat→Nat→Nat→Bool
 | 0,_,_=>false
 | n+1,j,i=>match ops[j]? with
  | none=>false
  | some o=>A2 o i || (List.range ops.size).any fun k=>A2 o k && G8 ops n k i
theorem Gc {l:Array Bool} (hcl:∀ (k:Nat) (o:Oper),l[k]?=some true→ops[k]?=some o→∀ j:Nat,A2 o j=true→l[j]?=some true):∀ (n j i:Nat),l[j]?=some true→G8 ops n j i=true→l[i]?=some true
 | 0,_,_,_,h=>by cases h
 | n+1,j,i,hj,h=>by
  unfold G8 at h
  cases ho:ops[j]? with
  | none=>rw [ho] at h; cases h
  | some o =>
   rw [ho] at h;simp only [Bool.or_eq_true,List.any_eq_true,Bool.and_eq_true] at h
   rcases h with h | ⟨k,-,h1,h2⟩
   ·exact hcl j o hj ho i h
   ·exact Gc hcl n k i (hcl j o hj ho k h1) h2
end
structure Au (w:World) (lo:Nat) (v:Value) (n:Nat) (f:Nat→Int):Prop where
 ex:∃ a cap,v=.slice a n cap∧n≤1048576∧Bv .i64 w a n f∧Ie w (Cd a n)∧∀ b o,Cd a n b o→lo≤b
theorem Ja {m:Nat} {ln:Nat→Nat} {f:Nat→Nat→Int} (h:Gp m ln f=true):(∀ i,i<m→Ed (ln i) (f i)=true)∧1≤m∧m≤8:=of_decide_eq_true h
def rowVals (n:Nat) (g:Nat→Int):List Value:=(List.range n).map (fun i=>.int .i64 (g i))
theorem Bi (n:Nat) (g:Nat→Int):(rowVals n g).length=n:=by simp [rowVals]
theorem B4 (n:Nat) (g:Nat→Int) (j:Nat) (h:j<n):(rowVals n g)[j]?=some (.int .i64 (g j)):=by simp [rowVals,h]
theorem No (n:Nat) (g:Nat→Int):∀ u∈rowVals n g,u.oneCell'=true:=fun u hu=>by
 simp only [rowVals,List.mem_map] at hu;obtain ⟨i,_,rfl⟩:=hu
 rfl
theorem F5 (b off j:Nat):(⟨b,off,none⟩:Addr).add j=⟨b,off+j,none⟩:=by
 unfold Addr.add;split
 ·rename_i h
  subst h
  rfl
 ·rfl
theorem Dx {w:World} {b off n:Nat} {g:Nat→Int} (h:Bv .i64 w (some ⟨b,off,none⟩) n g):∀ j u,(rowVals n g)[j]?=some u→w.cell? ((⟨b,off,none⟩:Addr).add j)=some u:=fun j u hu=>by
 have hj:j<n:=by
  have:=List.getElem?_eq_some_iff.1 hu;obtain ⟨hl,_⟩:=this;rw [Bi] at hl;exact hl
 rw [B4 n g j hj] at hu;obtain ⟨b',off',e,hc⟩:=h j hj;simp only [Option.some.injEq,Addr.mk.injEq,and_true] at e hu;obtain ⟨rfl,rfl⟩:=e;rw [F5,hc,hu]
theorem Qp {w:World} {base lo n cap g:Nat} {f:Nat→Int} (h:w.ownsRow base 3 1 (.slice (some ⟨g,0,none⟩) n cap) n (rowVals n f)) (hg:lo≤g) (hlt:g<w.heap.size) (hn:n≤1048576):Au w lo (.slice (some ⟨g,0,none⟩) n cap) n f :=
 ⟨_,cap,rfl,hn,fun i hi=>⟨g,0,rfl,by rw [Nat.zero_add,h.cellAt i (by omega),B4 n f i hi]⟩,fun b o hF=>by
  obtain ⟨off,e,_⟩:=hF;simp only [Option.some.injEq,Addr.mk.injEq,and_true] at e;obtain ⟨rfl,rfl⟩:=e
  exact ⟨hlt,h.frozenAt o⟩,fun b o hF=>by
  obtain ⟨off,e,_⟩:=hF;simp only [Option.some.injEq,Addr.mk.injEq,and_true] at e
  omega⟩
theorem Ay (a:Option Addr) (b o:Nat):¬ Cd a 0 b o:=fun ⟨_,_,_,_⟩=>by omega
set_option linter.unusedSimpArgs false
def putAt (cs:Array Value) (o:Nat) (vs:Array Value):Array Value:=(cs.toList.take o++vs.toList++cs.toList.drop (o+vs.size)).toArray
theorem Qc {cs vs:Array Value} {o:Nat} (h:o+vs.size≤cs.size):(putAt cs o vs).size=cs.size:=by
 unfold putAt;simp only [List.size_toArray,List.length_append,List.length_take,List.length_drop,Array.length_toList]
 omega
section
variable {P:Program}
theorem Hv (w:World) (g o:Nat) (t ty:TypeId) (old cells:Array Value) (hg:w.heap[g]?=some (.cells old t (0,0))) (hi:(P.info? ty).map (·.size)=some cells.size)
  (ho:o+cells.size≤old.size) (h1:cells.all (·.oneCell')=true) :
  (storeVar ty ⟨g,o,none⟩ (.agg cells)).run P w=.ok () (w.setRow g (putAt old o cells)):=by
 have:=run_storeCells_at (P:=P) g o t cells.toList 0 old w hg (by simp; omega) (fun v hv=>(Array.all_eq_true_iff_forall_mem.1 h1) v (by simpa using hv));simp only [Nat.add_zero,Array.length_toList] at this;have this':(storeCells ⟨g,o,none⟩ cells.toList 0).run P w=.ok () (w.setRow g (putAt old o cells)):=this
 cases hq:P.info? ty with
 | none=>simp [hq] at hi
 | some i =>
  have hs:cells.size=i.size:=by simp [hq] at hi; omega
  simp [storeVar,sizeOf,typeInfo,hq,Value.cells,hs,this']
theorem Fp (w:World) (g o:Nat) (t ty:TypeId) (cs part:Array Value) (fr:Nat × Nat) (d:TypeDesc) (hg:w.heap[g]?=some (.cells cs t fr)) (hp:∀ j v,part[j]?=some v→cs[o+j]?=some v)
  (hu:P.underlying ty=some d) (hd:(match d with | .struct _ | .array _ _=>true | _=>false)=true) (hi:(P.info? ty).map (·.size)=some part.size) :
  (loadVar ty ⟨g,o,none⟩).run P w=.ok (.agg part) w:=by
 have hl:(loadCells ⟨g,o,none⟩ part.toList.length).run P w=.ok part.toList.toArray w :=
  run_loadCells_list (P:=P) w ⟨g,o,none⟩ part.toList (fun j v hv=>by
   have hadd:(⟨g,o,none⟩:Addr).add j=⟨g,o+j,none⟩:=by unfold Addr.add; split <;> simp_all
   rw [hadd,cell_of_row w g (o+j) cs t fr hg]
   exact hp j v (by simpa using hv))
 cases hq:P.info? ty with
 | none=>simp [hq] at hi
 | some i =>
  have hs:i.size=part.size:=by simpa [hq] using hi
  have hagg:(isAgg ty).run P w=.ok true w:=by
   unfold isAgg;rw [Sem.run_bind,run_underlying hu w]
   cases d <;> simp_all
  simp only [Array.length_toList,Array.toArray_toList] at hl
  simp [loadVar,Sem.run_bind,hagg,sizeOf,typeInfo,hq,hs,hl]
theorem My {o:Oper} {a:Act} {w:World} {K:Act→World→Prop} {Q:Exit→Act→World→Prop} (ty:TypeId) (x:Operand) (ho:o.op=.load ty x)
  (g off:Nat) (hx:a.eval x=(pt g off)) (t:TypeId) (cs part:Array Value) (fr:Nat × Nat) (d:TypeDesc) (hg:w.heap[g]?=some (.cells cs t fr)) (hp:∀ j v,part[j]?=some v→cs[off+j]?=some v)
  (hu:P.underlying ty=some d) (hd:(match d with | .struct _ | .array _ _=>true | _=>false)=true) (hi:(P.info? ty).map (·.size)=some part.size)
  (h:K (a.put o.dst (.agg part)) w):o.wp P a w K Q:=by
 unfold Oper.wp execOp;simp only [ho,hx,Instr.loadAt,Instr.sureAddr,Sem.run_bind,Sem.run_pure,Result.andThen_ok,Fp w g off t ty cs part fr d hg hp hu hd hi];exact h
theorem A4 {ops:Array Oper} {rest:List Oper} {o:Oper} {a:Act} {w:World} {Q:Exit→Act→World→Prop} (hgd:o.guard=none) (ty:TypeId) (x:Operand) (ho:o.op=.load ty x)
  (g off:Nat) (hx:a.eval x=(pt g off)) (t:TypeId) (cs part:Array Value) (fr:Nat × Nat) (d:TypeDesc) (hg:w.heap[g]?=some (.cells cs t fr)) (hp:∀ j v,part[j]?=some v→cs[off+j]?=some v)
  (hu:P.underlying ty=some d) (hd:(match d with | .struct _ | .array _ _=>true | _=>false)=true) (hi:(P.info? ty).map (·.size)=some part.size)
  (h:wpList P ops Q rest (a.put o.dst (.agg part)) w):wpList P ops Q (o :: rest) a w :=
 wpList_plain hgd fun _ hK=>My ty x ho g off hx t cs part fr d hg hp hu hd hi (hK _ _ h)
theorem Ku {o:Oper} {a:Act} {w:World} {K:Act→World→Prop} {Q:Exit→Act→World→Prop} (ty:TypeId) (x y:Operand) (ho:o.op=.store ty x y)
  (g off:Nat) (cells:Array Value) (hx:a.eval x=(pt g off)) (hy:a.eval y=.agg cells)
  (t:TypeId) (old:Array Value) (hg:w.heap[g]?=some (.cells old t (0,0))) (hi:(P.info? ty).map (·.size)=some cells.size)
  (hold:off+cells.size≤old.size) (h1:cells.all (·.oneCell')=true)
  (h:K (a.put o.dst undef) (w.setRow g (putAt old off cells))):o.wp P a w K Q:=by
 unfold Oper.wp execOp;simp only [ho,hx,hy,Instr.storeAt,Instr.sureAddr,Sem.run_bind,Sem.run_pure,Result.andThen_ok,Hv w g off t ty old cells hg hi hold h1];exact h
theorem Bb {ops:Array Oper} {rest:List Oper} {o:Oper} {a:Act} {w:World} {Q:Exit→Act→World→Prop} (hgd:o.guard=none) (ty:TypeId) (x y:Operand) (ho:o.op=.store ty x y)
  (g off:Nat) (cells:Array Value) (hx:a.eval x=(pt g off)) (hy:a.eval y=.agg cells)
  (t:TypeId) (old:Array Value) (hg:w.heap[g]?=some (.cells old t (0,0))) (hi:(P.info? ty).map (·.size)=some cells.size)
  (hold:off+cells.size≤old.size) (h1:cells.all (·.oneCell')=true)
  (h:wpList P ops Q rest (a.put o.dst undef) (w.setRow g (putAt old off cells))):wpList P ops Q (o :: rest) a w :=
 wpList_plain hgd fun _ hK=>Ku ty x y ho g off cells hx hy t old hg hi hold h1 (hK _ _ h)
end
def Ev (V:Nat→Value) (i:Nat) (v:Value):Nat→Value:=fun k=>if k=i then v else V k
theorem A3 (V:Nat→Value) (i:Nat) (v:Value):Ev V i v i=v:=if_pos rfl
theorem Aw (V:Nat→Value) {i k:Nat} (v:Value) (h:k≠i):Ev V i v k=V k:=if_neg h
section
variable {P:Program} {ops:Array Oper} {Q:Exit→Act→World→Prop}
theorem Jv {id:Nat} {a:Act} {w:World} (ds:List (Option Nat)) (hm:P.follows .mixedOrders=true) (hb:Je ops=true) (hg:Mk ops=true) (hd:Jm ops ds=true) (hsz:∀ d,d∈slotsOf ds→d<a.tmps.size)
  (R:Nat→Nat→Nat→Prop) (φ:Nat→(Nat→Value)→Nat→Nat→World→Prop)
  (hstab:∀ i j o V x lo hi W W',i≠j→ops[i]?=some o→A2 o j=false→w.heap.size≤lo→hi≤W.heap.size→Wrote (R j) W W'→φ i V lo hi W→φ i (Ev V j x) lo hi W')
  (hstep:∀ i o a' W K,ops[i]?=some o→Fr (slotsOf ds) a a'→Wrote (fun b o'=>∃ j oj,j≠i∧ops[j]?=some oj∧A2 oj i=false∧R j b o') w W→(∀ j,A2 o j=true→∃ lo hi,w.heap.size≤lo∧hi≤W.heap.size∧φ j (Bo ds a') lo hi W)→(∀ v W',Wrote (R i) W W'→φ i (Ev (Bo ds a') i (if o.dst=none then undef else v)) W.heap.size W'.heap.size W'→K (a'.put o.dst v) W')→o.wp P a' W K Q)
  (hend:∀ a' W,Fr (slotsOf ds) a a'→Wrote (fun b o=>∃ j,R j b o) w W→(lo hi:Nat→Nat)→(∀ i,i<ops.size→w.heap.size≤lo i∧lo i≤hi i∧hi i≤W.heap.size∧φ i (Bo ds a') (lo i) (hi i) W)→(∀ i j,i<ops.size→j<ops.size→i≠j→hi i≤lo j∨hi j≤lo i)→Q .normal a' W):(Code.region id ops true).wp P Q a w:=by
 unfold Jm at hd;simp only [Bool.and_eq_true,decide_eq_true_eq] at hd;obtain ⟨⟨hlen,hd1⟩,hd2⟩:=hd
 have hgo:∀ (i:Nat) (o:Oper),ops[i]?=some o→o.guard=none:=fun i o ho=>by
  have h1:=(Array.all_eq_true_iff_forall_mem.1 hg) o (Array.mem_of_getElem? ho)
  simpa using h1
 have hlt:∀ (i:Nat) (o:Oper),ops[i]?=some o→i<ops.size:=fun i o ho=>by
  rcases Nat.lt_or_ge i ops.size with h | h
  ·exact h
  ·rw [Array.getElem?_eq_none h] at ho; cases ho
 have hdst:∀ (i:Nat) (o:Oper),ops[i]?=some o→ds[i]?=some o.dst:=fun i o ho=>by
  have h1:=List.all_eq_true.1 hd1 i (List.mem_range.2 (by rw [hlen]; exact hlt i o ho));rw [ho] at h1;simp only [Option.map_some,Option.getD_some,beq_iff_eq] at h1;exact h1.symm
 have hne:∀ i j d,i≠j→ds[i]?=some (some d)→ds[j]?≠some (some d):=fun i j d h hi hj=>by
  have li:i<ds.length:=by rcases Nat.lt_or_ge i ds.length with x | x; exact x; (rw [List.getElem?_eq_none x] at hi; cases hi)
  have lj:j<ds.length:=by rcases Nat.lt_or_ge j ds.length with x | x; exact x; (rw [List.getElem?_eq_none x] at hj; cases hj)
  have h1:=List.all_eq_true.1 (List.all_eq_true.1 hd2 i (List.mem_range.2 li)) j (List.mem_range.2 lj);rw [hi,hj] at h1
  simp at h1
  exact h h1
 refine Fe hm hb (fun _ l a' W=>Fr (slotsOf ds) a a'∧Wrote (fun b o=>∃ j,l[j]?=some true∧R j b o) w W∧(∀ (k:Nat) (o:Oper),l[k]?=some true→ops[k]?=some o→∀ j:Nat,A2 o j=true→l[j]?=some true)∧∃ lo hi:Nat→Nat,(∀ i:Nat,l[i]?=some true→w.heap.size≤lo i∧lo i≤hi i∧hi i≤W.heap.size∧φ i (Bo ds a') (lo i) (hi i) W)∧∀ i j:Nat,l[i]?=some true→l[j]?=some true→i≠j→hi i≤lo j∨hi j≤lo i) ?_ ?_ ?_
 ·have hno:∀ i:Nat,(Array.replicate ops.size false)[i]?≠some true:=fun i h=>by
   rcases Nat.lt_or_ge i ops.size with x | x
   ·simp [x] at h
   ·rw [Array.getElem?_eq_none (by simpa using x)] at h; cases h
  exact ⟨⟨rfl,rfl,fun _ _=>rfl⟩,⟨rfl,rfl,rfl,Nat.le_refl _,fun _ _ _=>rfl,fun _ _ _ _=>rfl,fun _ _ _=>rfl⟩,fun k _ h=>absurd h (hno k),fun _=>0,fun _=>0,fun i h=>absurd h (hno i),fun i _ h=>absurd h (hno i)⟩
 ·rintro l a' W i o K hl ⟨F,L,hcl,lo,hi',hφ,hdj⟩ ho hf ha hK
  have hi:=hlt i o ho;have hdi:=hdst i o ho
  have hdone:∀ j,l[j]?=some true→∀ b o,R j b o→∃ j oj,j≠i∧ops[j]?=some oj∧A2 oj i=false∧R j b o:=fun j h1 b o h2=>by
   have hjl:j<ops.size:=by
    rcases Nat.lt_or_ge j ops.size with x | x
    ·exact x
    ·rw [Array.getElem?_eq_none (by omega)] at h1; cases h1
   have hjo:ops[j]?=some ops[j]:=Array.getElem?_eq_getElem hjl;refine ⟨j,ops[j],(fun e=>by rw [e,hf] at h1; cases h1),hjo,?_,h2⟩;cases hw:A2 ops[j] i
   ·rfl
   ·have:=hcl j _ h1 hjo i hw
    rw [hf] at this; cases this
  refine E4 ho (hgo i o ho) (hstep i o a' W K ho F (L.mono (fun b o _ ⟨j,h1,h2⟩=>hdone j h1 b o h2)) (fun j hj=>⟨lo j,hi' j,(hφ j (Cs ha hj)).1,(hφ j (Cs ha hj)).2.2⟩) (fun v W' hW hv=>hK _ _ ?_))
  have hset:(l.setIfInBounds i true)[i]?=some true:=by simp [hl,hi]
  have hval:Bo ds (a'.put o.dst v)=Ev (Bo ds a') i (if o.dst=none then undef else v):=by
   funext k
   by_cases e:k=i
   ·subst e
    rw [A3]
    cases e:o.dst with
    | none =>
     rw [e] at hdi;unfold Bo;rw [hdi]
     simp
    | some d =>
     rw [e] at hdi;have hmem:d∈slotsOf ds:=List.mem_filterMap.2 ⟨some d,List.mem_of_getElem? hdi,rfl⟩;unfold Bo;rw [hdi]
     simpa using E5 (by rw [F.size]; exact hsz d hmem)
   ·rw [Aw _ _ e]
    cases e2:o.dst with
    | none=>rfl
    | some d =>
     rw [e2] at hdi;unfold Bo
     cases e3:ds[k]? with
     | none=>rfl
     | some x =>
      cases x with
      | none=>rfl
      | some d' =>
       have:d≠d':=fun x=>hne k i d' e e3 (by rw [hdi,x])
       exact Dz this
  have hne':∀ k,(l.setIfInBounds i true)[k]?=some true→k≠i→l[k]?=some true:=fun k hk e=>by rw [Array.getElem?_setIfInBounds_ne (by omega)] at hk; exact hk
  refine ⟨?_,(L.mono (fun b o _ ⟨j,h1,h2⟩=>⟨j,by rw [Array.getElem?_setIfInBounds_ne (fun e=>by rw [← e,hf] at h1; cases h1)]; exact h1,h2⟩)).trans (hW.mono (fun b o _ h=>⟨i,hset,h⟩)),fun k o' hk hko j hj=>?_,fun k=>if k=i then W.heap.size else lo k,fun k=>if k=i then W'.heap.size else hi' k,fun k hk=>?_,fun k k' hk hk' hkk=>?_⟩
  ·cases e:o.dst with
   | none=>exact F
   | some d =>
    rw [e] at hdi;exact F.put (List.mem_filterMap.2 ⟨some d,List.mem_of_getElem? hdi,rfl⟩) v
  ·have h1:l[j]?=some true:=by
    by_cases e:k=i
    ·subst e
     rw [ho] at hko;obtain rfl:=Option.some.inj hko;exact Cs ha hj
    ·rw [Array.getElem?_setIfInBounds_ne (by omega)] at hk
     exact hcl k o' hk hko j hj
   by_cases e:j=i
   ·rw [e]; exact hset
   ·rw [Array.getElem?_setIfInBounds_ne (by omega)]; exact h1
  ·rw [hval]
   by_cases e:k=i
   ·subst e
    simp only [if_true];exact ⟨L.size,hW.size,Nat.le_refl _,hv⟩
   ·simp only [if_neg e]
    rw [Array.getElem?_setIfInBounds_ne (by omega)] at hk;obtain ⟨g1,g2,g3,g4⟩:=hφ k hk;refine ⟨g1,g2,Nat.le_trans g3 hW.size,?_⟩
    have hkl:k<ops.size:=by
     rcases Nat.lt_or_ge k ops.size with x | x
     ·exact x
     ·rw [Array.getElem?_eq_none (by omega)] at hk; cases hk
    have hko:ops[k]?=some ops[k]:=Array.getElem?_eq_getElem hkl
    have hnw:A2 ops[k] i=false:=by
     cases hw:A2 ops[k] i
     ·rfl
     ·have:=hcl k _ hk hko i hw
      rw [hf] at this; cases this
    exact hstab k i _ _ _ _ _ W W' e hko hnw g1 g3 hW g4
  ·by_cases e:k=i
   ·have e':k'≠i:=fun x=>hkk (e.trans x.symm)
    simp only [if_pos e,if_neg e'];exact Or.inr (hφ k' (hne' k' hk' e')).2.2.1
   ·by_cases e':k'=i
    ·simp only [if_neg e,if_pos e']
     exact Or.inl (hφ k (hne' k hk e)).2.2.1
    ·simp only [if_neg e,if_neg e']
     exact hdj k k' (hne' k hk e) (hne' k' hk' e') hkk
 ·rintro l a' W hall ⟨F,L,-,lo,hi',hφ,hdj⟩
  exact hend a' W F (L.mono (fun b o _ ⟨j,_,h2⟩=>⟨j,h2⟩)) lo hi' (fun i hi=>hφ i (hall i hi)) (fun i j hi hj=>hdj i j (hall i hi) (hall j hj))
end
structure Code (w:World) (B:Nat) (a:Option Addr) (len:Nat):Prop where
 le:len≤1048576
 at_:∀ i,i<len→∃ b off,a=some ⟨b,off,none⟩∧b<B∧∃ n,w.cell? ⟨b,off+i,none⟩=some (.int .u8 n)∧0≤n∧n<256
structure A1 (c:Nat) (w w':World):Prop where
 os:w'.os=w.os
 tape:w'.tape=w.tape
 output:w'.output=w.output
 size:w'.heap.size=w.heap.size
 block:∀ k,k≠c→w'.heap[k]?=w.heap[k]?
theorem A1.refl (c:Nat) (w:World):A1 c w w:=⟨rfl,rfl,rfl,rfl,fun _ _=>rfl⟩
theorem A1.trans {c:Nat} {u v w:World} (h:A1 c u v) (k:A1 c v w):A1 c u w :=
 ⟨k.os.trans h.os,k.tape.trans h.tape,k.output.trans h.output,k.size.trans h.size,fun i hi=>(k.block i hi).trans (h.block i hi)⟩
theorem A1.drew {c:Nat} {u w:World} (h:A1 c u w):A1 c u w.drew:=⟨h.os,h.tape,h.output,h.size,h.block⟩
theorem A1.drewN {c:Nat} {u w:World} (h:A1 c u w) (n:Nat):A1 c u (w.drewN n):=⟨h.os,h.tape,h.output,h.size,h.block⟩
theorem A1.setCell {c:Nat} {u w:World} (h:A1 c u w) {o:Nat} {s:Option _} (x:Value):A1 c u (w.setCell ⟨c,o,s⟩ x) :=
 h.trans ⟨rfl,rfl,rfl,by simp [World.setCell],fun k hk=>Below.heap_setCell _ _ _ _ hk⟩
theorem A1.below {c B:Nat} {w w':World} (h:A1 c w w') (hB:B≤c):Below B w w' :=
 ⟨h.os,h.tape,h.output,Nat.le_of_eq h.size.symm,fun k hk=>h.block k (by omega)⟩
theorem A1.cell {c:Nat} {w w':World} (h:A1 c w w') {p:Addr} (hp:p.block≠c):w'.cell? p=w.cell? p:=World.cell?_of_block (w:=w) (h.block p.block hp)
theorem A1.frozen {c:Nat} {w w':World} (h:A1 c w w') {p:Addr} (hp:p.block≠c):w'.frozen? p=w.frozen? p:=World.frozen?_of_block (w:=w) (h.block p.block hp)
structure Dc (w:World) (B c:Nat) (a:Option Addr) (len cap:Nat):Prop where
 up:B≤c
 code:Code w B a len
 sl:w.cell? ⟨c,0,none⟩=some (.slice a len cap)
 ix:∃ i:Nat,i≤len∧w.cell? ⟨c,1,none⟩=some (.i i)
 hx:∃ h:Int,w.cell? ⟨c,2,none⟩=some (.i h)
 f1:w.frozen? ⟨c,1,none⟩=false
 f2:w.frozen? ⟨c,2,none⟩=false
theorem Code.keep {w w':World} {B:Nat} {a:Option Addr} {len:Nat} (h:Code w B a len) (k:Below B w w'):Code w' B a len :=
 ⟨h.le,fun i hi=>by
  obtain ⟨b,off,ha,hb,n,hn,n0,n1⟩:=h.at_ i hi
  exact ⟨b,off,ha,hb,n,by rw [k.cell (p:=⟨b,off+i,none⟩) hb]; exact hn,n0,n1⟩⟩
theorem Dc.drewN {w:World} {B c:Nat} {a:Option Addr} {len cap:Nat} (H:Dc w B c a len cap) (n:Nat):Dc (w.drewN n) B c a len cap :=
 ⟨H.up,H.code.keep ((A1.refl c w).drewN n |>.below H.up),H.sl,H.ix,H.hx,H.f1,H.f2⟩
theorem Ud {w:World} {B c:Nat} {a:Option Addr} {len cap:Nat} (up:B≤c) (code:Code w B a len) (sl:w.cell? ⟨c,0,none⟩=some (.slice a len cap)) {i:Nat} (hi:i≤len) (ix:w.cell? ⟨c,1,none⟩=some (.i i)) {h:Int} (hx:w.cell? ⟨c,2,none⟩=some (.i h)) (f1:w.frozen? ⟨c,1,none⟩=false) (f2:w.frozen? ⟨c,2,none⟩=false) (h':Int) :
  Dc (w.setCell ⟨c,2,none⟩ (.i h')) B c a len cap :=
 ⟨up,code.keep ((A1.refl c w).setCell _ |>.below up),by go_simp,⟨i,hi,by go_simp⟩,⟨h',by go_simp⟩,by go_simp,by go_simp⟩
theorem Sn {w:World} {B c:Nat} {a:Option Addr} {len cap:Nat} (up:B≤c) (code:Code w B a len) (sl:w.cell? ⟨c,0,none⟩=some (.slice a len cap)) {i:Nat} (ix:w.cell? ⟨c,1,none⟩=some (.i i)) {h:Int} (hx:w.cell? ⟨c,2,none⟩=some (.i h)) (f1:w.frozen? ⟨c,1,none⟩=false) (f2:w.frozen? ⟨c,2,none⟩=false) (h':Int) (n:Nat) (hi:i<len) :
  Dc (((w.setCell ⟨c,2,none⟩ (.i h')).drewN n).setCell ⟨c,1,none⟩ (.i ((i:Int)+1))) B c a len cap :=
 ⟨up,code.keep ((((A1.refl c w).setCell _).drewN n).setCell _ |>.below up),by go_simp,⟨i+1,hi,by go_simp⟩,⟨h',by go_simp⟩,by go_simp,by go_simp⟩
theorem Jb (w:World) (B c:Nat) (a:Option Addr) (len cap:Nat) (H:Dc w B c a len cap) :
  Calls Tryz.prog 36 #[(pt c 0)] w fun e w'=>∃ x:Int,e=.returned (.i x)∧0≤x∧x<256∧Dc w' B c a len cap∧A1 c w w':=by
 obtain ⟨up,code,sl,⟨i,hi,ix⟩,⟨h,hx⟩,f1,f2⟩:=H;have h255:=I5;have hle:=code.le
 by_cases hlt:i<len
 ·obtain ⟨b,off,rfl,hb,n,hn,n0,n1⟩:=code.at_ i hlt
  have hbc:b≠c:=by omega
  have hlt':(i:Int)<(len:Int):=by omega
  go_enter Tryz.func36,Tryz.ntmps36
  go_wp2
  go_quiet (fail)
  go_wp2
  go_quiet (fail)
  go_wp2
  go_quiet (fail)
  go_wp2;go_ret;exact ⟨_,rfl,by omega,by omega,Sn up code sl ix hx f1 f2 _ _ hlt,(((A1.refl c w).setCell _).drewN _).setCell _⟩
 ·have hlt':decide ((i:Int)<(len:Int))=false:=by simp; omega
  go_enter Tryz.func36,Tryz.ntmps36
  go_wp2
  go_quiet (fail)
  go_wp2
  go_quiet (fail)
  go_wp2;go_ret;exact ⟨_,rfl,by omega,by omega,((Ud up code sl hi ix hx f1 f2 _).drewN _).drewN _,(((A1.refl c w).setCell _).drewN _).drewN _⟩
theorem Bw (w:World) (B c:Nat) (a:Option Addr) (len cap:Nat) (H:Dc w B c a len cap) (n:Int) :
  Calls Tryz.prog 24 #[(pt c 0),.i n] w fun e w'=>∃ x:Int,e=.returned (.i x)∧0≤x∧(x<n∨x=0)∧Dc w' B c a len cap∧A1 c w w':=by
 by_cases h0:n≤0
 ·go_enter Tryz.func24,Tryz.ntmps24
  go_wp2;go_ret;exact ⟨0,rfl,by omega,Or.inr rfl,H,A1.refl _ _⟩
 ·by_cases h1:n≤256
  ·go_enter Tryz.func24,Tryz.ntmps24
   go_wp2_with (go_at_call 36; refine (Jb _ B c a len cap H).mono ?_; rintro e w1 ⟨x,rfl,x0,x1,H1,O1⟩);go_ret;exact ⟨_,rfl,Int.emod_nonneg _ (by omega),Or.inl (Int.emod_lt_of_pos _ (by omega)),H1,O1⟩
  ·go_enter Tryz.func24,Tryz.ntmps24
   go_wp2_with fail;refine (Jb _ B c a len cap H).mono ?_;rintro e w1 ⟨x1,rfl,p1,q1,H1,O1⟩;go_wp2_with fail;refine (Jb _ B c a len cap H1).mono ?_;rintro e w2 ⟨x2,rfl,p2,q2,H2,O2⟩;go_wp2_with fail;refine (Jb _ B c a len cap H2).mono ?_;rintro e w3 ⟨x3,rfl,p3,q3,H3,O3⟩;go_wp2_with fail;refine (Jb _ B c a len cap H3).mono ?_;rintro e w4 ⟨x4,rfl,p4,q4,H4,O4⟩;go_wp2;go_ret;exact ⟨_,rfl,Int.emod_nonneg _ (by omega),Or.inl (Int.emod_lt_of_pos _ (by omega)),H4,((O1.trans O2).trans O3).trans O4⟩
theorem Sp (w:World) (B c:Nat) (a:Option Addr) (len cap:Nat) (H:Dc w B c a len cap) (n:Int) :
  Calls Tryz.prog 58 #[(pt c 0),.i n] w fun e w'=>∃ x:Bool,e=.returned (.bool x)∧Dc w' B c a len cap∧A1 c w w':=by
 go_enter Tryz.func58,Tryz.ntmps58
 go_wp2_with (go_at_call 24; refine (Bw _ B c a len cap H n).mono ?_; rintro e w1 ⟨x,rfl,x0,x1,H1,O1⟩);go_ret;exact ⟨_,rfl,H1,O1⟩
theorem Dc.only {w w':World} {B c d:Nat} {a:Option Addr} {len cap:Nat} (H:Dc w B c a len cap) (k:A1 d w w') (hd:d≠c) (hB:B≤d):Dc w' B c a len cap:=by
 have e:∀ o,w'.cell? ⟨c,o,none⟩=w.cell? ⟨c,o,none⟩:=fun o=>k.cell (p:=⟨c,o,none⟩) (fun h=>hd h.symm)
 have f:∀ o,w'.frozen? ⟨c,o,none⟩=w.frozen? ⟨c,o,none⟩:=fun o=>k.frozen (p:=⟨c,o,none⟩) (fun h=>hd h.symm)
 obtain ⟨up,code,sl,⟨i,hi,ix⟩,⟨h,hx⟩,f1,f2⟩:=H;exact ⟨up,code.keep (k.below hB),(e 0).trans sl,⟨i,hi,(e 1).trans ix⟩,⟨h,(e 2).trans hx⟩,(f 1).trans f1,(f 2).trans f2⟩
theorem Dc.below {w w':World} {B c B':Nat} {a:Option Addr} {len cap:Nat} (H:Dc w B c a len cap) (k:Below B' w w') (hc:c<B'):Dc w' B c a len cap:=by
 have e:∀ o,w'.cell? ⟨c,o,none⟩=w.cell? ⟨c,o,none⟩:=fun o=>k.cell (p:=⟨c,o,none⟩) hc
 have f:∀ o,w'.frozen? ⟨c,o,none⟩=w.frozen? ⟨c,o,none⟩:=fun o=>k.frozen (p:=⟨c,o,none⟩) hc
 obtain ⟨up,code,sl,⟨i,hi,ix⟩,⟨h,hx⟩,f1,f2⟩:=H;exact ⟨up,code.keep (k.mono (by omega)),(e 0).trans sl,⟨i,hi,(e 1).trans ix⟩,⟨h,(e 2).trans hx⟩,(f 1).trans f1,(f 2).trans f2⟩
theorem U8 (w:World) (B:Nat) (a:Option Addr) (len cap:Nat) (hB:B≤w.heap.size) (H:Code w B a len) :
  Calls Tryz.prog 14 #[.slice a len cap] w fun e w'=>e=.returned ((pt w.heap.size 0))∧Dc w' B w.heap.size a len cap∧Below w.heap.size w w'∧w'.heap.size=w.heap.size+1:=by
 have hle:=H.le
 go_enter Tryz.func14,Tryz.ntmps14
 go_wp2
 go_loop [3,4] (fun h i=>∃ k:Nat,k≤len∧i=.i k∧∃ z:Int,h=.i z) (fun _ i=>len-(intOf i).toNat)
 case atStart=>exact ⟨0,Nat.zero_le _,rfl,_,rfl⟩
 case round =>
  obtain ⟨k,hk,rfl,z,rfl⟩:=hrel
  by_cases h1:k<len
  ·by_cases h2:k<4000
   ·obtain ⟨b,off,rfl,hb,n,hn,n0,n1⟩:=H.at_ k h1
    have h1':(k:Int)<(len:Int):=by omega
    have h2':(k:Int)<4000:=by omega
    go_wp2
    go_round
    case rel=>exact ⟨k+1,by omega,by go_num,_,rfl⟩
    case measure=>simp [intOf]; omega
   ·have h1':(k:Int)<(len:Int):=by omega
    have h2':¬ (k:Int)<4000:=by omega
    go_wp2;go_ret;refine ⟨rfl,⟨hB,H.keep ((Below.refl _ _).alloc hB _),by go_simp,⟨0,Nat.zero_le _,by go_simp⟩,⟨z,by go_simp⟩,by go_simp,by go_simp⟩,(Below.refl _ _).alloc (Nat.le_refl _) _,by simp⟩
  ·have h1':¬ (k:Int)<(len:Int):=by omega
   have h3':decide ((k:Int)<(len:Int))=false:=by simpa using h1'
   go_wp2;go_ret;refine ⟨rfl,⟨hB,H.keep ((Below.refl _ _).alloc hB _),by go_simp,⟨0,Nat.zero_le _,by go_simp⟩,⟨z,by go_simp⟩,by go_simp,by go_simp⟩,(Below.refl _ _).alloc (Nat.le_refl _) _,by simp⟩
structure Step (c:Nat) (w w':World):Prop where
 os:w'.os=w.os
 tape:w'.tape=w.tape
 output:w'.output=w.output
 size:w.heap.size≤w'.heap.size
 block:∀ k,k<w.heap.size→k≠c→w'.heap[k]?=w.heap[k]?
theorem Step.refl (c:Nat) (w:World):Step c w w:=⟨rfl,rfl,rfl,Nat.le_refl _,fun _ _ _=>rfl⟩
theorem Step.trans {c:Nat} {u v w:World} (h:Step c u v) (k:Step c v w):Step c u w :=
 ⟨k.os.trans h.os,k.tape.trans h.tape,k.output.trans h.output,Nat.le_trans h.size k.size,fun i hi hc=>(k.block i (Nat.lt_of_lt_of_le hi h.size) hc).trans (h.block i hi hc)⟩
theorem A1.step {c:Nat} {w w':World} (h:A1 c w w'):Step c w w':=⟨h.os,h.tape,h.output,Nat.le_of_eq h.size.symm,fun k _ hk=>h.block k hk⟩
theorem By {B c:Nat} {w w':World} (h:Below B w w') (hB:w.heap.size≤B):Step c w w':=⟨h.os,h.tape,h.output,h.size,fun k hk _=>h.block k (by omega)⟩
theorem Step.alloc {c:Nat} {u w:World} (h:Step c u w) (o:Obj):Step c u (w.alloc o) :=
 h.trans (By ((Below.refl w.heap.size w).alloc (Nat.le_refl _) o) (Nat.le_refl _))
theorem Step.drewN {c:Nat} {u w:World} (h:Step c u w) (n:Nat):Step c u (w.drewN n):=⟨h.os,h.tape,h.output,h.size,h.block⟩
theorem Step.below {c B:Nat} {w w':World} (h:Step c w w') (hc:B≤c) (hB:B≤w.heap.size):Below B w w' :=
 ⟨h.os,h.tape,h.output,h.size,fun k hk=>h.block k (by omega) (by omega)⟩
theorem Dc.alloc {w:World} {B c:Nat} {a:Option Addr} {len cap:Nat} (H:Dc w B c a len cap) (o:Obj) (hc:c<w.heap.size):Dc (w.alloc o) B c a len cap :=
 H.below ((Below.refl w.heap.size w).alloc (Nat.le_refl _) o) hc
theorem Fi (w:World) (B c:Nat) (a:Option Addr) (len cap:Nat) (H:Dc w B c a len cap) (m n:Nat) (hn:0<n) (hn':n≤1048576) (hm:m≠c) (zs:Nat→Int) (hz:∀ j,j<n→w.cell? ⟨m,j,none⟩=some (.i (zs j))) :
  Calls Tryz.prog 44 #[(pt c 0),.slice (some ⟨m,0,none⟩) n n] w fun e w'=>∃ j:Nat,e=.returned (.i (zs j))∧j<n∧Dc w' B c a len cap∧A1 c w w':=by
 go_enter Tryz.func44,Tryz.ntmps44
 go_wp2_with fail;refine (Bw _ B c a len cap H n).mono ?_;rintro e w1 ⟨x,rfl,x0,x1,H1,O1⟩;obtain ⟨j,rfl⟩:=Int.eq_ofNat_of_zero_le x0
 have hj:j<n:=by omega
 have hj':(j:Int)<(n:Int):=by omega
 have hc:=(O1.cell (p:=⟨m,j,none⟩) hm).trans (hz j hj);go_wp2;go_ret;exact ⟨j,rfl,hj,H1,O1⟩
end Go.Proofs.YtfjieibndedngaaGreat
