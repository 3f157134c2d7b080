import Derived.Test.YtjnjnppongdhgaaGreatNA
import Derived.Test.YtjnjnppongdhgaaGreatCB
import Derived.Test.YtjnjnppongdhgaaGreatI6b
import Derived.RangeFuncNested
import Derived.RangeFuncBound
import Derived.RangeFuncCalls
import Derived.RangeFuncLeaves
import Derived.Shelf.Abstract
import Derived.OwnWalkIn
import Derived.TacticsInMore
import Derived.LoopNIn
import Derived.LoopIn
namespace Go.Proofs.YtjnjnppongdhgaaGreat
set_option linter.unusedVariables false
set_option linter.unusedSimpArgs false
open Go.Sort Go.RowKit
section
variable {P:Program} {ops:Array Oper} {C:World→Prop}
def Yp (ops:Array Oper) (n:Nat) (l:Array Bool):Prop:=l.size=ops.size∧(∀ k,k<n→l.getD k true=true)∧∀ k,n≤k→k<ops.size→l.getD k true=false
def Wv (ops:Array Oper) (n:Nat):Prop:=∀ j,n≤j→j<ops.size→∀ k,k<n→Ip ops 6 j k=true
def Closed (ops:Array Oper) (l:Array Bool):Prop:=∀ (k:Nat) (o:Oper),l[k]?=some true→ops[k]?=some o→∀ j:Nat,A1 o j=true→l[j]?=some true
theorem Qs {l:Array Bool} {i k:Nat} (h:l[k]?=some true):(l.setIfInBounds i true)[k]?=some true:=by
 by_cases e:i=k
 ·subst e; have:=(Array.getElem?_eq_some_iff.1 h).1; simp [this]
 ·rw [Array.getElem?_setIfInBounds_ne e]; exact h
theorem Closed.set {l:Array Bool} (H:Closed ops l) {i:Nat} (hi:i∈Region.ready .any ops l):Closed ops (l.setIfInBounds i true):=by
 intro k o hk ho j hj
 by_cases e:i=k
 ·subst e
  obtain ⟨-,o',ho',hall⟩:=mem_ready.1 hi;rw [ho'] at ho;cases ho;unfold A1 at hj;rw [Array.any_eq_true'] at hj;obtain ⟨e,he,hb⟩:=hj;simp only [Bool.and_eq_true,beq_iff_eq] at hb;have h1:=hall e he hb.1;rw [hb.2,Array.getD_eq_getD_getElem?] at h1;refine Qs ?_
  rcases hq:l[j]? with _ | b
  ·rw [hq] at h1; simp at h1
  ·rw [hq] at h1; simpa using h1
 ·rw [Array.getElem?_setIfInBounds_ne e] at hk
  exact Qs (H k o hk ho j hj)
def Lj (P:Program) (ops:Array Oper) (C:World→Prop) (n:Nat) (Q:Act→Prop):Nat→Array Bool→Act→Prop
 | 0,l,a=>Yp ops n l∧Q a
 | f+1,l,a=>(∃ i,i∈Region.ready .any ops l)∧∀ i∈Region.ready .any ops l,qOp P ops C i (Lj P ops C n Q f (l.setIfInBounds i true)) a
theorem Ow {n:Nat} (hn:Wv ops n) {Q:Act→Prop} {i:Nat} {oi:Oper} {v:Value} (hin:i<n) (hi:ops[i]?=some oi) (hsel:∀ (j:Nat) (o:Oper) cs b,ops[j]?=some o→o.op≠.select cs b) :
  ∀ (f:Nat) (l:Array Bool) (a:Act),Closed ops l →
   (∀ j oj,ops[j]?=some oj→j≠i→l.getD j true=false→(∀ e∈oj.after,Region.binds .any e=true→e.on≠i)→oi.apart ops oj=true) →
   i∈Region.ready .any ops l→YieldsIn P ops C oi v a →
   Lj P ops C n Q f (l.setIfInBounds i true) (a.put oi.dst v)→Lj P ops C n Q (f+1) l a:=by
 intro f
 induction f with
 | zero =>
  intro l a hcl _ hr hy H;refine ⟨⟨i,hr⟩,fun j hj=>?_⟩
  by_cases hji:j=i
  ·subst hji; exact hy.qOp hi H
  ·exfalso
   obtain ⟨hjun,oj,hoj,hall⟩:=mem_ready.1 hj
   rcases Nat.lt_or_ge j n with h | h
   ·have h1:=H.1.2.1 j h
    rw [getD_set_ne true (Ne.symm hji),hjun] at h1;cases h1
   ·have hlt:j<ops.size:=(Array.getElem?_eq_some_iff.1 hoj).1
    have hsz:l.size=ops.size:=by simpa using H.1.1
    have h1:=Gt (hcl.set hj) 6 j i (by simp [hsz,hlt]) (hn j h hlt i hin);rw [Array.getElem?_setIfInBounds_ne hji] at h1;have h0:=(mem_ready.1 hr).1;rw [Array.getD_eq_getD_getElem?,h1] at h0;cases h0
 | succ f ih =>
  intro l a hcl hfree hr hy H;refine ⟨⟨i,hr⟩,fun j hj=>?_⟩
  by_cases hji:j=i
  ·subst hji; exact hy.qOp hi H
  ·have h1:=H.2 j (ready_mono hj hji)
   obtain ⟨hjun,oj,hoj,hall⟩:=mem_ready.1 hj
   have hnot:∀ e∈oj.after,Region.binds .any e=true→e.on≠i:=fun e he hb heq=>by
    have h1:=hall e he hb;have h0:=(mem_ready.1 hr).1;rw [heq] at h1
    rcases Nat.lt_or_ge i l.size with h' | h'
    ·simp [h'] at h0 h1; rw [h0] at h1; cases h1
    ·simp [Array.getElem?_eq_none h'] at h1
   have h2:=qOp_put hoj (hfree j oj hoj hji hjun hnot) (fun cs b=>hsel i oi cs b hi) (fun cs b=>hsel j oj cs b hoj) hy h1
   have hfree':∀ k ok,ops[k]?=some ok→k≠i→(l.setIfInBounds j true).getD k true=false →
     (∀ e∈ok.after,Region.binds .any e=true→e.on≠i)→oi.apart ops ok=true:=fun k ok hk hki hun hno=>by
    refine hfree k ok hk hki ?_ hno
    by_cases hjk:j=k
    ·subst hjk; exact hjun
    ·rw [getD_set_ne true hjk] at hun; exact hun
   refine qOp_mono (fun a' h3=>ih (l.setIfInBounds j true) a' (hcl.set hj) hfree' (ready_mono hr (Ne.symm hji)) h3.1 ?_) h2;rw [Array.setIfInBounds_comm _ _ hji];exact h3.2
def Qt (ops:Array Oper):Nat→Nat→Array Bool→Bool
 | 0,_,_=>true
 | f+1,k,l=>(Region.ready .any ops l).contains k && Region.free .any ops l k && Qt ops f (k+1) (l.setIfInBounds k true)
theorem Lk {n:Nat} (hn:Wv ops n) (hz:n≤ops.size) {Q:Act→Prop} (hs:Region.noSelect ops=true):∀ (t:List Oper) (k:Nat) (l:Array Bool) (a:Act),k+t.length=n→l.size=ops.size→Closed ops l→Yp ops k l→(∀ j,j<t.length→t[j]?=ops[k+j]?) →
  Qt ops t.length k l=true→wpQuiet P ops C Q t a→Lj P ops C n Q t.length l a
 | [],k,l,a,hk,hl,_,hu,_,hB,h=>by
  have e:k=n:=by simpa using hk
  exact ⟨e ▸ hu,h⟩
 | o :: t,k,l,a,hk,hl,hcl,hu,ht,hB,h=>by
  have h0:ops[k]?=some o:=by simpa using (ht 0 (by simp)).symm
  simp only [List.length_cons] at hk;simp only [List.length_cons,Qt,Bool.and_eq_true] at hB;obtain ⟨⟨hr,hf⟩,hB'⟩:=hB
  have hst:qOp P ops C k (wpQuiet P ops C Q t) a:=by unfold qOp; simp only [h0]; exact h
  obtain ⟨v,hy,hK⟩:=yieldsIn_of_qOp h0 hst
  refine Ow hn (by omega) h0 (Region.noSelect_spec hs) t.length l a hcl (Region.free_spec h0 hf) (by simpa using hr) hy
   (Lk hn hz hs t (k+1) _ _ (by omega) (by simpa using hl) (hcl.set (by simpa using hr)) ⟨by simpa using hl,fun j hj=>?_,fun j hj hj2=>?_⟩ (fun j hj=>by have:=ht (j+1) (by simpa using hj); simpa [Nat.add_assoc,Nat.add_comm 1 j] using this) hB' hK)
  ·by_cases e:k=j
   ·subst e; simp [Array.getD_eq_getD_getElem?,hl,show k<ops.size by omega]
   ·rw [getD_set_ne true e]; exact hu.2.1 j (by omega)
  ·rw [getD_set_ne true (by omega)]; exact hu.2.2 j (by omega) hj2
theorem Ll {n m:Nat} {Q:Act→Prop} {Q':Exit→Act→World→Prop} (hQ:∀ l a w,C w→Yp ops n l→Q a→wpAny P .any ops Q' m l a w):∀ (f:Nat) (l:Array Bool) (a:Act) (w:World),C w →
  Lj P ops C n Q f l a→wpAny P .any ops Q' (f+m) l a w
 | 0,l,a,w,hw,h=>by rw [Nat.zero_add]; exact hQ l a w hw h.1 h.2
 | f+1,l,a,w,hw,h=>by
  rw [show f+1+m=(f+m)+1 by omega];exact ⟨fun h0=>(by obtain ⟨i,hi⟩:=h.1; rw [h0] at hi; cases hi),fun i hi=>wpOp_of_qOp hw (fun a' w' hw'=>Ll hQ f _ a' w' hw') (h.2 i hi)⟩
abbrev Z2 (w:World):World→Prop:=fun w'=>∃ p:Regrown,w'=grow (redrawn w p.d) p.os
def Jt (P:Program) (Q:Exit→Act→World→Prop):List Oper→Act→World→Prop
 | [],a,w=>Q .normal a w
 | o :: r,a,w=>o.wp P a w (Jt P Q r) Q
def Sz (ops:Array Oper) (n:Nat):Bool:=(List.range ops.size).all fun j=>decide (j<n) || ((List.range n).all (Ip ops 6 j) && match ops[j]? with | some o=>o.guard.isNone && o.after.all (fun e=>!Region.binds .any e || decide (e.on<j)) && (decide (j=n) || A1 o (j-1)) | none=>false)
theorem Ju {n j:Nat} {o:Oper} (hB:Sz ops n=true) (hn:n≤j) (ho:ops[j]?=some o):(∀ k,k<n→Ip ops 6 j k=true)∧o.guard=none∧(∀ e∈o.after,Region.binds .any e=true→e.on<j)∧(j=n∨A1 o (j-1)=true):=by
 have h:=List.all_eq_true.1 hB j (List.mem_range.2 (Array.getElem?_eq_some_iff.1 ho).1);rw [ho,Bool.or_eq_true,decide_eq_true_eq] at h
 rcases h with h | h
 ·omega
 ·simp only [Bool.and_eq_true,List.all_eq_true,List.mem_range,Bool.or_eq_true,decide_eq_true_eq] at h
  obtain ⟨h1,⟨h2,h3⟩,h4⟩:=h;refine ⟨h1,by simpa using h2,fun e he hb=>?_,h4⟩;have:=(Array.all_eq_true_iff_forall_mem.1 h3) e he;rw [hb] at this
  simpa using this
theorem Lm {n:Nat} {Q:Exit→Act→World→Prop} (hB:Sz ops n=true):∀ (r:List Oper) (k:Nat) (l:Array Bool) (a:Act) (w:World),n≤k→k+r.length=ops.size→(∀ j,j<r.length→r[j]?=ops[k+j]?)→Yp ops k l→Jt P Q r a w→wpAny P .any ops Q r.length l a w
 | [],k,l,a,w,_,hk,_,hu,h=>by
  refine ⟨List.eq_nil_iff_forall_not_mem.2 fun i hi=>?_,h⟩;obtain ⟨h0,oj,hoj,-⟩:=mem_ready.1 hi;have:=(Array.getElem?_eq_some_iff.1 hoj).1;simp only [List.length_nil] at hk;rw [hu.2.1 i (by omega)] at h0;cases h0
 | o :: r,k,l,a,w,hn,hk,ht,hu,h=>by
  simp only [List.length_cons] at hk
  have ho:ops[k]?=some o:=by simpa using (ht 0 (by simp)).symm
  obtain ⟨-,hg,hb,-⟩:=Ju hB hn ho
  have hr:∀ i,i∈Region.ready .any ops l→i=k:=fun i hi=>by
   obtain ⟨h0,oj,hoj,hall⟩:=mem_ready.1 hi;have hlt:=(Array.getElem?_eq_some_iff.1 hoj).1
   rcases Nat.lt_trichotomy i k with h1 | h1 | h1
   ·rw [hu.2.1 i h1] at h0; cases h0
   ·exact h1
   ·exfalso
    obtain ⟨-,-,-,hw⟩:=Ju hB (show n≤i by omega) hoj
    rcases hw with hw | hw
    ·omega
    ·unfold A1 at hw
     rw [Array.any_eq_true'] at hw;obtain ⟨e,he,hbe⟩:=hw;simp only [Bool.and_eq_true,beq_iff_eq] at hbe;have h2:=hall e he hbe.1;have h3:=hu.2.2 (i-1) (by omega) (by omega);rw [hbe.2,Array.getD_eq_getD_getElem?] at h2;rw [Array.getD_eq_getD_getElem?] at h3
     rcases hq:l[i-1]? with _ | b
     ·rw [Array.getElem?_eq_none_iff,hu.1] at hq; omega
     ·rw [hq] at h2 h3; simp at h2 h3; rw [h2] at h3; cases h3
  have hi:k∈Region.ready .any ops l:=mem_ready.2 ⟨hu.2.2 k (Nat.le_refl _) (by omega),o,ho,fun e he hbe=>by
   have h1:=hb e he hbe;have h2:=hu.2.1 e.on h1;rw [Array.getD_eq_getD_getElem?] at h2 ⊢
   rcases hq:l[e.on]? with _ | b
   ·rw [Array.getElem?_eq_none_iff,hu.1] at hq; omega
   ·simpa [hq] using h2⟩
  refine ⟨fun h0=>(by rw [h0] at hi; cases hi),fun i hi'=>?_⟩;obtain rfl:=hr i hi';refine Hi ho hg (Oper.wp_mono (fun a' w' h'=>Lm hB r (i+1) _ a' w' (by omega) (by omega) (fun j hj=>by have:=ht (j+1) (by simpa using hj); simpa [Nat.add_assoc,Nat.add_comm 1 j] using this) ⟨by simpa using hu.1,fun j hj=>?_,fun j hj hj2=>?_⟩ h') h)
  ·by_cases e:i=j
   ·subst e; simp [Array.getD_eq_getD_getElem?,hu.1,show i<ops.size by omega]
   ·rw [getD_set_ne true e]; exact hu.2.1 j (by omega)
  ·rw [getD_set_ne true (by omega)]; exact hu.2.2 j (by omega) hj2
theorem Ez {id n:Nat} {Q:Exit→Act→World→Prop} {a:Act} {w:World} {t:List Oper} (hm:P.follows .mixedOrders=true) (hB:(Region.noSelect t.toArray && Qt t.toArray n 0 (Array.replicate t.toArray.size false) && Sz t.toArray n && decide (n≤t.toArray.size))=true)
  (h:wpQuiet P t.toArray (Z2 w) (fun a'=>∀ w',Z2 w w'→Jt P Q (t.drop n) a' w') (t.take n) a):(Code.region id t.toArray true).wp P Q a w:=by
 simp only [Bool.and_eq_true,decide_eq_true_eq] at hB;obtain ⟨⟨⟨hs,hl⟩,ht⟩,hz⟩:=hB
 have hz':n≤t.length:=by simpa using hz
 have hd:(t.drop n).length=t.toArray.size-n:=by simp
 have htk:(t.take n).length=n:=by simp; omega
 refine wp_region_any hm ?_;rw [show wpAny P .any t.toArray Q t.toArray.size=wpAny P .any t.toArray Q (n+(t.drop n).length) by rw [hd,Nat.add_sub_cancel' hz]];refine Ll (C:=Z2 w) (n:=n) (Q:=fun a'=>∀ w',Z2 w w'→Jt P Q (t.drop n) a' w') (fun l a' w' hw hu hq=>Lm ht _ n l a' w' (Nat.le_refl _) (by rw [hd]; omega) (fun j hj=>by simp) hu (hq w' hw)) n _ a _ ⟨⟨w.drawn+1,#[]⟩,by rw [grow_empty]; rfl⟩ ?_
 have:=Lk (C:=Z2 w) (n:=n) (fun j hj hlt k hk=>by obtain ⟨o,ho⟩:∃ o,t.toArray[j]?=some o:=⟨_,Array.getElem?_eq_some_iff.2 ⟨hlt,rfl⟩⟩; exact (Ju ht hj ho).1 k hk) hz hs (t.take n) 0 (Array.replicate t.toArray.size false) a (by omega) (by simp) (fun k o hk=>by rw [Array.getElem?_replicate] at hk; split at hk <;> simp at hk) ⟨by simp,fun k hk=>absurd hk (Nat.not_lt_zero _),fun k _ hk=>by rw [Array.getD_eq_getD_getElem?,Array.getElem?_replicate,if_pos hk]; rfl⟩ (fun j hj=>by rw [htk] at hj; simp [List.getElem?_take,hj]) (by rw [htk]; exact hl) h;rw [htk] at this;exact this
theorem E3 {id n:Nat} {Q:Exit→Act→World→Prop} {a:Act} {w:World} {t:List Oper} {o:Oper} (hm:P.follows .mixedOrders=true) (hB:(Region.noSelect t.toArray && Qt t.toArray n 0 (Array.replicate t.toArray.size false) && Sz t.toArray n && decide (n≤t.toArray.size) && decide (n+1=t.toArray.size))=true) (ho:t[n]?=some o)
  (h:wpQuiet P t.toArray (Z2 w) (fun a'=>∀ w',Z2 w w'→o.wp P a' w' (fun a'' w''=>Q .normal a'' w'') Q) (t.take n) a):(Code.region id t.toArray true).wp P Q a w:=by
 rw [Bool.and_eq_true,decide_eq_true_eq] at hB
 have e:t.drop n=[o]:=by
  have:=hB.2
  simp at this
  rw [List.drop_eq_getElem_cons (by omega),List.drop_eq_nil_of_le (by omega),(List.getElem?_eq_some_iff.1 ho).2]
 refine Ez hm hB.1 ?_;rw [e];exact h
theorem Em {w:World} {Q:Act→Prop} {a:Act} {o:Oper} {rest:List Oper} (ty:TypeId) (x:Operand) (ho:o.op=.load ty x) (hgu:o.guard=none)
  (g off:Nat) (hx:a.eval x=(pt g off)) (t:TypeId) (cs part:Array Value) (fr:Nat × Nat) (d:TypeDesc) (hg:w.heap[g]?=some (.cells cs t fr)) (hp:∀ j v,part[j]?=some v→cs[off+j]?=some v)
  (hu:P.underlying ty=some d) (hd:(match d with | .struct _ | .array _ _=>true | _=>false)=true) (hi:(P.info? ty).map (·.size)=some part.size)
  (h:wpQuiet P ops (fun w'=>∃ p:Regrown,w'=grow (redrawn w p.d) p.os) Q rest (a.put o.dst (.agg part))):wpQuiet P ops (fun w'=>∃ p:Regrown,w'=grow (redrawn w p.d) p.os) Q (o :: rest) a:=by
 unfold wpQuiet;rw [if_pos (by simp [Region.wanted,hgu])];refine ⟨.agg part,fun w' hw'=>?_,h⟩;obtain ⟨p,rfl⟩:=hw'
 have hg':(grow (redrawn w p.d) p.os).heap[g]?=some (.cells cs t fr):=by
  rw [(below_regrown w p.d p.os).block g (Array.getElem?_eq_some_iff.1 hg).1]; exact hg
 unfold Oper.quietAt execOp;simp only [ho,hx,Instr.loadAt,Instr.sureAddr,Sem.run_bind,Sem.run_pure,Result.andThen_ok,Ft _ g off t ty cs part fr d hg' hp hu hd hi];exact ⟨rfl,rfl⟩
end
open Go.Shelf
attribute [local go_sem] Oper.semAt_some
theorem Jy (w:World) (t:Int) (h:t≤9223372036854775807):Calls Tryz.prog 126 #[.i t] w fun e w'=>e=.returned (.i (max t 0/64))∧w'=w:=by
 by_cases ht:0≤t
 ·have d64:t.tdiv 64=t/64:=Int.tdiv_eq_ediv_of_nonneg ht
  go_enter Tryz.func126,Tryz.ntmps126
  go_wp2
  all_goals (go_ret; exact ⟨A7 (by omega),rfl⟩)
 ·go_enter Tryz.func126,Tryz.ntmps126
  go_wp2
  all_goals (go_ret; exact ⟨A7 (by omega),rfl⟩)
open Go.ChangeShapes Go.WideShapes Go.ChangeAt
theorem Ir {R:Nat→Nat→Prop} {w w':World} {b:Nat} {o:Obj} (h:w.heap[b]?=some o) (hw:Wrote R w w') (hd:∀ o,¬ R b o):w'.heap[b]?=some o:=(hw.block b (Ae h) hd).trans h
theorem Nr {w:World} {g:Nat} {old:Array Value} {t:TypeId} (hg:w.heap[g]?=some (.cells old t (0,0))) (cs:Array Value):Wrote (fun b _=>b=g) w (w.setRow g cs) :=
 ⟨rfl,rfl,rfl,by simp [World.setRow],fun k hk hn=>setRow_other _ _ _ _ (fun e=>hn 0 e),fun b o hb hn=>cell_setRow_other _ _ _ _ hn,fun b o hb=>by
  by_cases e:b=g
  ·subst e
   rw [Ar (setRow_heap _ _ _ _ _ _ hg),Ar hg]
  ·unfold World.frozen?; rw [setRow_other _ _ _ _ e]⟩
theorem Jak (x y:Int) (x0:0≤x) (x1:x≤63) (y0:0≤y) (y1:y≤63):0≤bits .xor .i64 x y∧bits .xor .i64 x y≤63:=by
 have key:∀ a b:Fin 64,0≤bits .xor .i64 ((a.val:Nat):Int) ((b.val:Nat):Int)∧bits .xor .i64 ((a.val:Nat):Int) ((b.val:Nat):Int)≤63:=by decide +kernel
 obtain ⟨a,rfl⟩:∃ a:Nat,x=a:=⟨x.toNat,by omega⟩
 obtain ⟨b,rfl⟩:∃ b:Nat,y=b:=⟨y.toNat,by omega⟩
 exact key ⟨a,by omega⟩ ⟨b,by omega⟩
section
variable {t c s ad pl:Int} {n:Nat} {f:Nat→Int} {m:Nat} {g:Nat→Int}
theorem Wj (h:Hy t c s ad pl n f m g):A2 t c s ad pl n f m g=true :=
 Nc (Bj ⟨h.t0,h.t1⟩) (Bj ⟨h.c0,h.c1⟩) (Bj ⟨h.s0,h.s1⟩) (Bj ⟨h.a0,h.a1⟩) (Bj ⟨h.p0,h.p1⟩) h.n16 h.dots h.tab h.dot
theorem Yk (h:Hy t c s ad pl n f m g) (a:Int):0≤Ml f s pl a∧Ml f s pl a≤63:=by
 have h1:=h.tab ((a%8+s+a/8)%16).toNat (by have:=h.n16; omega);exact Jak _ _ h1.1 h1.2 h.p0 h.p1
theorem Qg (h:Hy t c s ad pl n f m g) (reg v:Int):Hy t (Hz true reg v c) (Ia true reg v s) (Ib true reg v ad) (Ic true reg v pl) n (I6 true reg v ad f) m g:=by
 have hc:0≤Hz true reg v c∧Hz true reg v c≤255:=by unfold Hz; split; omega; exact ⟨h.c0,h.c1⟩
 have hs:0≤Ia true reg v s∧Ia true reg v s≤255:=by unfold Ia; split; omega; exact ⟨h.s0,h.s1⟩
 have ha:0≤Ib true reg v ad∧Ib true reg v ad≤15:=by unfold Ib; split; omega; split; omega; exact ⟨h.a0,h.a1⟩
 have hp:0≤Ic true reg v pl∧Ic true reg v pl≤63:=by unfold Ic; split; omega; exact ⟨h.p0,h.p1⟩
 refine ⟨h.t0,h.t1,hc.1,hc.2,hs.1,hs.2,ha.1,ha.2,hp.1,hp.2,h.n16,h.dots,fun j hj=>?_,h.dot⟩;unfold I6;split
 ·show 0≤(if j=ad.toNat then v%256%64 else f j)∧(if j=ad.toNat then v%256%64 else f j)≤63
  split
  ·omega
  ·exact h.tab j hj
 ·exact h.tab j hj
theorem Rt (h:Hy t c s ad pl n f m g):Hy (Ke t) c s ad pl n f (tkM t m) (Qf t f s pl m g):=by
 have hd:=h.dots;have t0:=h.t0;have t1:=h.t1;unfold Dg at hd
 by_cases e:t=20000
 ·unfold Ke tkM Qf
  rw [if_pos e,if_pos e,if_pos e];exact h
 ·have e1:Ke t=t+1:=if_neg e
  have e2:tkM t m=if t%64<48 then m+1 else if t%64=48 then 0 else m:=if_neg e
  have e3:Qf t f s pl m g=if t%64<48 then snoc g m (Ml f s pl (t%64)) else g:=if_neg e
  have hdots:((tkM t m:Nat):Int)=Dg (Ke t):=by
   rw [e1,e2];unfold Dg;split
   ·rename_i a
    rw [if_neg (by omega)] at hd;rw [if_neg (by omega)]
    omega
   ·split
    ·rw [if_pos (by omega)]; rfl
    ·rw [if_pos (by omega)] at hd
     by_cases b:t%64=63
     ·rw [if_neg (by omega)]; omega
     ·rw [if_pos (by omega)]; omega
  refine ⟨by omega,by omega,h.c0,h.c1,h.s0,h.s1,h.a0,h.a1,h.p0,h.p1,h.n16,hdots,h.tab,fun j hj=>?_⟩;rw [e2] at hj;rw [e3];split
  ·rename_i a
   rw [if_pos a] at hj;unfold snoc;split
   ·exact Yk h _
   ·exact h.dot j (by omega)
  ·rename_i a
   rw [if_neg a] at hj;split at hj
   ·exact absurd hj (Nat.not_lt_zero _)
   ·exact h.dot j hj
end
set_option maxHeartbeats 1000000
set_option maxRecDepth 20000
def Mu (s:ByteArray) (v:Value):Prop :=
 (∃ (i:Nat) (h:i<s.size),(s[i]'h).toNat=32∧(∀ j (_:j<i) (hl:j<s.size),(s[j]'hl).toNat≠32)∧v=.tuple #[.string (s.extract 0 i),.i (numOf (s.extract (i+1) s.size)),.bool (decide (0≤numOf (s.extract (i+1) s.size)))]) ∨
 ((∀ j (hl:j<s.size),(s[j]'hl).toNat≠32)∧v=.tuple #[.string s,.i (-1),.bool true])
theorem Za (w:World) (s:ByteArray) (hs:s.size≤1048576):Calls Tryz.prog 141 #[.string s] w fun e w'=>(∃ v,e=.returned v∧Mu s v)∧Below w.heap.size w w':=by
 go_enter Tryz.func141,Tryz.ntmps141
 go_wp2
 go_loop [5] (fun i=>∃ q:Nat,q≤s.size∧i=.i q∧∀ j (_:j<q) (hl:j<s.size),(s[j]'hl).toNat≠32) (fun i=>s.size-(intOf i).toNat)
 case atStart=>exact ⟨0,Nat.zero_le _,rfl,fun j hj=>absurd hj (Nat.not_lt_zero _)⟩
 case round =>
  obtain ⟨q,hq,rfl,hno⟩:=hrel;have HN:=Ac hno;clear hno
  by_cases hlt:q<s.size
  ·have hlt':(q:Int)<(s.size:Int):=by omega
   by_cases h32:(s[q]'hlt).toNat=32
   ·have h32':((((s[q]'hlt).toNat:Nat):Int)==32)=true:=by simp [h32]
    have hex:(s.extract (q+1) s.size).size≤1048576:=by simp; omega
    have H32:=Ac h32;clear h32;go_wp2_with fail;refine (Jab _ _ hex).mono ?_;rintro e w1 ⟨rfl,L1⟩;have HV:Hid (Mu s (.tuple #[.string (s.extract 0 q),.i (numOf (s.extract (q+1) s.size)),.bool (decide (0≤numOf (s.extract (q+1) s.size)))])):=Or.inl ⟨q,hlt,Ad H32,Ad HN,rfl⟩;generalize numOf (s.extract (q+1) s.size)=z at *;go_wp2;refine bodyPost_ret (results_tmp3 rfl _ _ _) rfl ?_;exact ⟨⟨_,rfl,HV.out⟩,L1⟩
   ·have h32':((((s[q]'hlt).toNat:Nat):Int)==32)=false:=by simp; omega
    have hno2:∀ j (_:j<q+1) (hl:j<s.size),(s[j]'hl).toNat≠32:=fun j hj hl=>by
     by_cases e:j=q
     ·subst e; exact h32
     ·exact Ad HN j (by omega) hl
    have HN2:=Ac hno2;clear h32 hno2;go_wp2
    go_round
    case rel=>exact ⟨q+1,by omega,by go_num,Ad HN2⟩
    case measure=>simp [intOf]; omega
  ·have hlt':¬ (q:Int)<(s.size:Int):=by omega
   have HV:Hid (Mu s (.tuple #[.string s,.i (-1),.bool true])):=Or.inr ⟨fun j hl=>Ad HN j (by omega) hl,rfl⟩;go_wp2;refine bodyPost_ret (results_tmp3 rfl _ _ _) rfl ?_;exact ⟨⟨_,rfl,HV.out⟩,Below.refl _ _⟩
def atW:List UInt8:=[97,116]
def Pv:List UInt8:=[98,121,116,101]
theorem Jx (s:ByteArray):-1≤numOf s∧numOf s≤99999:=by
 unfold numOf;split
 ·omega
 ·rename_i h
  split
  ·omega
  ·rename_i h2
   split
   ·have hl:s.data.toList.length=s.size:=rfl
    have h3:=Y2 s.data.toList s.data.toList.length (fun j _ hl=>by
     have:s.data.toList.all E9=true:=by simpa using h2
     exact List.all_eq_true.1 this _ (List.getElem_mem hl))
    rw [Vu] at h3;have h4:Ij s.data.toList<100000:=Nat.lt_of_lt_of_le h3 (Nat.pow_le_pow_right (by omega) (show s.data.toList.length≤5 by omega))
    omega
   ·omega
theorem Rl {s:ByteArray} {v:Value} (h:Mu s v):∃ wd n k,v=.tuple #[.string wd,.i n,.bool k]∧-1≤n∧n≤99999:=by
 rcases h with ⟨i,hi,_,_,rfl⟩ | ⟨_,rfl⟩
 ·exact ⟨_,_,_,rfl,(Jx _).1,(Jx _).2⟩
 ·exact ⟨_,_,_,rfl,by omega,by omega⟩
def Ff (wd:ByteArray) (n:Int) (k:Bool) (L:List Int) (tq:Int) (ok:Bool):Prop :=
 (k=false∧L=[]∧tq=-1∧ok=false) ∨
 (k=true∧wd.toList=atW∧L=[]∧ok=By n 0 255∧tq=if By n 0 255 then n else -1) ∨
 (k=true∧wd.toList=Pv∧ok=By n 0 255∧tq=-1∧L=if By n 0 255 then [n] else []) ∨
 (k=true∧¬ wd.toList=atW∧¬ wd.toList=Pv∧tq=-1∧∃ r,Y7 wd r∧((r=-1∧L=[]∧ok=false)∨(0≤r∧((Dh.getD r.toNat 1=1∧L=[r]∧ok=decide (n<0))∨(Dh.getD r.toNat 1=2∧L=[r,n%256]∧ok=By n 0 255)∨(Dh.getD r.toNat 1=3∧L=[r,n%256,n/256%256]∧ok=By n 0 65535)))))
theorem Vv {w:World} {lo g:Nat} (L:List Int) (hb:w.heap[g]?=some (.cells (L.map (Value.int .i64)).toArray 3 (0,0))) (hg:lo≤g) (hn:L.length≤1048576):Ay w lo (.slice (some ⟨g,0,none⟩) L.length L.length) L.length (fun i=>L.getD i 0):=by
 have e:(L.map (Value.int .i64)).toArray=(rowVals L.length (fun i=>L.getD i 0)).toArray:=by
  congr 1
  apply List.ext_getElem?
  intro j
  by_cases hj:j<L.length
  ·rw [A8 _ _ _ hj]
   simp [hj]
  ·rw [List.getElem?_eq_none (by simp; omega),List.getElem?_eq_none (by rw [A3]; omega)]
 rw [e] at hb;exact To hb hg hn
theorem Ej (W:World) (lo:Nat) (L:List Int) (h:lo≤W.heap.size) (hn:L.length≤1048576):Ay (W.alloc (.cells (L.map (Value.int .i64)).toArray 3)) lo (.slice (some ⟨W.heap.size,0,none⟩) L.length L.length) L.length (fun i=>L.getD i 0) :=
 Vv L (by show (W.heap.push _)[W.heap.size]?=_; simp) h hn
theorem N7 (i:Nat) (h:i<30):Dh.getD i 1=1∨Dh.getD i 1=2∨Dh.getD i 1=3:=by
 have:∀ j:Fin 30,Dh.getD j.val 1=1∨Dh.getD j.val 1=2∨Dh.getD j.val 1=3:=by decide
 exact this ⟨i,h⟩
theorem Sr (w:World) (s:ByteArray) (hs:s.size≤1048576):Calls Tryz.prog 137 #[.string s] w fun e w'=>(∃ v L tq ok,e=.returned (.tuple #[v,.i tq,.bool ok])∧Ay w' w.heap.size v L.length (fun i=>L.getD i 0)∧∃ wd n k,Mu s (.tuple #[.string wd,.i n,.bool k])∧Ff wd n k L tq ok)∧Below w.heap.size w w':=by
 go_enter Tryz.func137,Tryz.ntmps137
 go_wp2_with fail;refine (Za _ _ hs).mono ?_;rintro e w1 ⟨⟨v,rfl,hv⟩,L1⟩;obtain ⟨wd,n,k,rfl,hn0,hn1⟩:=Rl hv;have HV:=Ac hv;clear hv;cases k
 ·go_wp2
  go_ret3
  exact ⟨⟨_,[],_,_,rfl,Ej _ _ [] (L1.size) (by simp),wd,n,_,Ad HV,Or.inl ⟨rfl,rfl,rfl,rfl⟩⟩,(L1).alloc (L1.size) _⟩
 ·by_cases hat:wd.toList=atW
  ·have hat':(wd.toList==[97,116])=true:=by simpa [atW] using hat
   cases hin:By n 0 255
   ·have HW:Hid (Ff wd n true [] (-1) false):=Or.inr (Or.inl ⟨rfl,hat,rfl,hin.symm,by rw [hin]; rfl⟩)
    clear hat;go_wp2_with fail;refine (D8 _ _ _ _).mono ?_;rintro e wx ⟨rfl,rfl⟩;rw [hin];go_wp2
    go_ret3
    exact ⟨⟨_,[],_,_,rfl,Ej _ _ [] (L1.size) (by simp),wd,n,_,Ad HV,HW.out⟩,(L1).alloc (L1.size) _⟩
   ·have HW:Hid (Ff wd n true [] n true):=Or.inr (Or.inl ⟨rfl,hat,rfl,hin.symm,by rw [hin]; rfl⟩)
    clear hat;go_wp2_with fail;refine (D8 _ _ _ _).mono ?_;rintro e wx ⟨rfl,rfl⟩;rw [hin];go_wp2
    go_ret3
    exact ⟨⟨_,[],_,_,rfl,Ej _ _ [] (L1.size) (by simp),wd,n,_,Ad HV,HW.out⟩,(L1).alloc (L1.size) _⟩
  ·have hat':(wd.toList==[97,116])=false:=by simpa [atW] using hat
   by_cases hby:wd.toList=Pv
   ·have hby':(wd.toList==[98,121,116,101])=true:=by simpa [Pv] using hby
    cases hin:By n 0 255
    ·have HW:Hid (Ff wd n true [] (-1) false):=Or.inr (Or.inr (Or.inl ⟨rfl,hby,hin.symm,rfl,by rw [hin]; rfl⟩))
     clear hat hby;go_wp2_with fail;refine (D8 _ _ _ _).mono ?_;rintro e wx ⟨rfl,rfl⟩;rw [hin];go_wp2
     go_ret3
     exact ⟨⟨_,[],_,_,rfl,Ej _ _ [] (L1.size) (by simp),wd,n,_,Ad HV,HW.out⟩,(L1).alloc (L1.size) _⟩
    ·have HW:Hid (Ff wd n true [n] (-1) true):=Or.inr (Or.inr (Or.inl ⟨rfl,hby,hin.symm,rfl,by rw [hin]; rfl⟩))
     clear hat hby;go_wp2_with fail;refine (D8 _ _ _ _).mono ?_;rintro e wx ⟨rfl,rfl⟩;rw [hin];go_wp2
     go_ret3
     exact ⟨⟨_,[n],_,_,rfl,Ej _ _ [n] (L1.size) (by simp),wd,n,_,Ad HV,HW.out⟩,(L1).alloc (L1.size) _⟩
   ·have hby':(wd.toList==[98,121,116,101])=false:=by simpa [Pv] using hby
    have HA:=Ac hat;have HB:=Ac hby;clear hat hby;go_wp2_with fail;refine (Vs _ _).mono ?_;rintro e w2 ⟨⟨r,rfl,hr⟩,L2'⟩;have L2:=L1.trans (L2'.mono L1.size);clear L2';have HR:=Ac hr
    rcases hr with ⟨i,hi,rfl,-⟩ | ⟨rfl,-⟩
    ·have hi0:¬ ((i:Int)<0):=by omega
     have hl0:(if 0≤(i:Int)∧(i:Int)≤29 then Dh.getD (i:Int).toNat 1 else 1)=Dh.getD i 1:=by rw [if_pos (by omega),Int.toNat_natCast]
     have HL:=Ac hl0;clear hl0;go_wp2_with fail;refine (Jj _ _).mono ?_;rintro e w3 ⟨rfl,L3'⟩;have L3:=L2.trans (L3'.mono L2.size);clear L3';rw [Ad HL]
     rcases N7 i hi with h1 | h2 | h3
     ·have HW:Hid (Ff wd n true [(i:Int)] (-1) (decide (n<0))):=Or.inr (Or.inr (Or.inr ⟨rfl,Ad HA,Ad HB,rfl,_,Ad HR,Or.inr ⟨by omega,Or.inl ⟨by simpa using h1,rfl,rfl⟩⟩⟩))
      rw [h1];clear h1;go_wp2
      go_ret3
      exact ⟨⟨_,[(i:Int)],_,_,rfl,Ej _ _ [(i:Int)] (L3.size) (by simp),wd,n,_,Ad HV,HW.out⟩,(L3).alloc (L3.size) _⟩
     ·have HW:Hid (Ff wd n true [(i:Int),n%256] (-1) (By n 0 255)):=Or.inr (Or.inr (Or.inr ⟨rfl,Ad HA,Ad HB,rfl,_,Ad HR,Or.inr ⟨by omega,Or.inr (Or.inl ⟨by simpa using h2,rfl,rfl⟩)⟩⟩))
      rw [h2];clear h2;go_wp2_with (first | (go_at_call 113; refine (Bc _ _).mono ?_; rintro e wx ⟨rfl,rfl⟩) | (go_at_call 33; refine (D8 _ _ _ _).mono ?_; rintro e wx ⟨rfl,rfl⟩))
      go_ret3
      exact ⟨⟨_,[(i:Int),n%256],_,_,rfl,Ej _ _ [(i:Int),n%256] (L3.size) (by simp),wd,n,_,Ad HV,HW.out⟩,(L3).alloc (L3.size) _⟩
     ·have HW:Hid (Ff wd n true [(i:Int),n%256,n/256%256] (-1) (By n 0 65535)):=Or.inr (Or.inr (Or.inr ⟨rfl,Ad HA,Ad HB,rfl,_,Ad HR,Or.inr ⟨by omega,Or.inr (Or.inr ⟨by simpa using h3,rfl,rfl⟩)⟩⟩))
      rw [h3];clear h3;go_wp2_with (first | (go_at_call 113; refine (Bc _ _).mono ?_; rintro e wx ⟨rfl,rfl⟩) | (go_at_call 33; refine (D8 _ _ _ _).mono ?_; rintro e wx ⟨rfl,rfl⟩))
      go_ret3
      exact ⟨⟨_,[(i:Int),n%256,n/256%256],_,_,rfl,Ej _ _ [(i:Int),n%256,n/256%256] (L3.size) (by simp),wd,n,_,Ad HV,HW.out⟩,(L3).alloc (L3.size) _⟩
    ·have HW:Hid (Ff wd n true [] (-1) false):=Or.inr (Or.inr (Or.inr ⟨rfl,Ad HA,Ad HB,rfl,_,Ad HR,Or.inl ⟨rfl,rfl,rfl⟩⟩))
     go_wp2
     go_ret3
     exact ⟨⟨_,[],_,_,rfl,Ej _ _ [] (L2.size) (by simp),wd,n,_,Ad HV,HW.out⟩,(L2).alloc (L2.size) _⟩
end Go.Proofs.YtjnjnppongdhgaaGreat
