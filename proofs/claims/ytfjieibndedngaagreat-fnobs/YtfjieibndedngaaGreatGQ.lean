import Derived.Test.YtfjieibndedngaaGreatC3
import Derived.Test.YtfjieibndedngaaGreatC6
import Derived.Lib.QuietBelow
import Derived.Deep.WholeRow
namespace Go.Proofs.YtfjieibndedngaaGreat
set_option linter.unusedVariables false
set_option linter.unusedSimpArgs false
open Go.Sort Go.RowKit
section
variable {P:Program} {ops:Array Oper} {C:World→Prop}
def Uv (ops:Array Oper) (n:Nat) (l:Array Bool):Prop:=l.size=ops.size∧(∀ k,k<n→l.getD k true=true)∧∀ k,n≤k→k<ops.size→l.getD k true=false
def Tl (ops:Array Oper) (n:Nat):Prop:=∀ j,n≤j→j<ops.size→∀ k,k<n→G8 ops 6 j k=true
def Closed (ops:Array Oper) (l:Array Bool):Prop:=∀ (k:Nat) (o:Oper),l[k]?=some true→ops[k]?=some o→∀ j:Nat,A2 o j=true→l[j]?=some true
theorem Oi {l:Array Bool} {i k:Nat} (h:l[k]?=some true):(l.setIfInBounds i true)[k]?=some true:=by
 by_cases e:i=k
 ·subst e; have:=(Array.getElem?_eq_some_iff.1 h).1; simp [this]
 ·rw [Array.getElem?_setIfInBounds_ne e]; exact h
theorem Closed.set {l:Array Bool} (H:Closed ops l) {i:Nat} (hi:i∈Region.ready .any ops l):Closed ops (l.setIfInBounds i true):=by
 intro k o hk ho j hj
 by_cases e:i=k
 ·subst e
  obtain ⟨-,o',ho',hall⟩:=mem_ready.1 hi;rw [ho'] at ho;cases ho;unfold A2 at hj;rw [Array.any_eq_true'] at hj;obtain ⟨e,he,hb⟩:=hj;simp only [Bool.and_eq_true,beq_iff_eq] at hb;have h1:=hall e he hb.1;rw [hb.2,Array.getD_eq_getD_getElem?] at h1;refine Oi ?_
  rcases hq:l[j]? with _ | b
  ·rw [hq] at h1; simp at h1
  ·rw [hq] at h1; simpa using h1
 ·rw [Array.getElem?_setIfInBounds_ne e] at hk
  exact Oi (H k o hk ho j hj)
def Jx (P:Program) (ops:Array Oper) (C:World→Prop) (n:Nat) (Q:Act→Prop):Nat→Array Bool→Act→Prop
 | 0,l,a=>Uv ops n l∧Q a
 | f+1,l,a=>(∃ i,i∈Region.ready .any ops l)∧∀ i∈Region.ready .any ops l,qOp P ops C i (Jx P ops C n Q f (l.setIfInBounds i true)) a
theorem Ms {n:Nat} (hn:Tl ops n) {Q:Act→Prop} {i:Nat} {oi:Oper} {v:Value} (hin:i<n) (hi:ops[i]?=some oi) (hsel:∀ (j:Nat) (o:Oper) cs b,ops[j]?=some o→o.op≠.select cs b) :
  ∀ (f:Nat) (l:Array Bool) (a:Act),Closed ops l →
   (∀ j oj,ops[j]?=some oj→j≠i→l.getD j true=false→(∀ e∈oj.after,Region.binds .any e=true→e.on≠i)→oi.apart ops oj=true) →
   i∈Region.ready .any ops l→YieldsIn P ops C oi v a →
   Jx P ops C n Q f (l.setIfInBounds i true) (a.put oi.dst v)→Jx P ops C n Q (f+1) l a:=by
 intro f
 induction f with
 | zero =>
  intro l a hcl _ hr hy H;refine ⟨⟨i,hr⟩,fun j hj=>?_⟩
  by_cases hji:j=i
  ·subst hji; exact hy.qOp hi H
  ·exfalso
   obtain ⟨hjun,oj,hoj,hall⟩:=mem_ready.1 hj
   rcases Nat.lt_or_ge j n with h | h
   ·have h1:=H.1.2.1 j h
    rw [getD_set_ne true (Ne.symm hji),hjun] at h1;cases h1
   ·have hlt:j<ops.size:=(Array.getElem?_eq_some_iff.1 hoj).1
    have hsz:l.size=ops.size:=by simpa using H.1.1
    have h1:=Gc (hcl.set hj) 6 j i (by simp [hsz,hlt]) (hn j h hlt i hin);rw [Array.getElem?_setIfInBounds_ne hji] at h1;have h0:=(mem_ready.1 hr).1;rw [Array.getD_eq_getD_getElem?,h1] at h0;cases h0
 | succ f ih =>
  intro l a hcl hfree hr hy H;refine ⟨⟨i,hr⟩,fun j hj=>?_⟩
  by_cases hji:j=i
  ·subst hji; exact hy.qOp hi H
  ·have h1:=H.2 j (ready_mono hj hji)
   obtain ⟨hjun,oj,hoj,hall⟩:=mem_ready.1 hj
   have hnot:∀ e∈oj.after,Region.binds .any e=true→e.on≠i:=fun e he hb heq=>by
    have h1:=hall e he hb;have h0:=(mem_ready.1 hr).1;rw [heq] at h1
    rcases Nat.lt_or_ge i l.size with h' | h'
    ·simp [h'] at h0 h1; rw [h0] at h1; cases h1
    ·simp [Array.getElem?_eq_none h'] at h1
   have h2:=qOp_put hoj (hfree j oj hoj hji hjun hnot) (fun cs b=>hsel i oi cs b hi) (fun cs b=>hsel j oj cs b hoj) hy h1
   have hfree':∀ k ok,ops[k]?=some ok→k≠i→(l.setIfInBounds j true).getD k true=false →
     (∀ e∈ok.after,Region.binds .any e=true→e.on≠i)→oi.apart ops ok=true:=fun k ok hk hki hun hno=>by
    refine hfree k ok hk hki ?_ hno
    by_cases hjk:j=k
    ·subst hjk; exact hjun
    ·rw [getD_set_ne true hjk] at hun; exact hun
   refine qOp_mono (fun a' h3=>ih (l.setIfInBounds j true) a' (hcl.set hj) hfree' (ready_mono hr (Ne.symm hji)) h3.1 ?_) h2;rw [Array.setIfInBounds_comm _ _ hji];exact h3.2
def Oj (ops:Array Oper):Nat→Nat→Array Bool→Bool
 | 0,_,_=>true
 | f+1,k,l=>(Region.ready .any ops l).contains k && Region.free .any ops l k && Oj ops f (k+1) (l.setIfInBounds k true)
theorem Jy {n:Nat} (hn:Tl ops n) (hz:n≤ops.size) {Q:Act→Prop} (hs:Region.noSelect ops=true):∀ (t:List Oper) (k:Nat) (l:Array Bool) (a:Act),k+t.length=n→l.size=ops.size→Closed ops l→Uv ops k l→(∀ j,j<t.length→t[j]?=ops[k+j]?) →
  Oj ops t.length k l=true→wpQuiet P ops C Q t a→Jx P ops C n Q t.length l a
 | [],k,l,a,hk,hl,_,hu,_,hB,h=>by
  have e:k=n:=by simpa using hk
  exact ⟨e ▸ hu,h⟩
 | o :: t,k,l,a,hk,hl,hcl,hu,ht,hB,h=>by
  have h0:ops[k]?=some o:=by simpa using (ht 0 (by simp)).symm
  simp only [List.length_cons] at hk;simp only [List.length_cons,Oj,Bool.and_eq_true] at hB;obtain ⟨⟨hr,hf⟩,hB'⟩:=hB
  have hst:qOp P ops C k (wpQuiet P ops C Q t) a:=by unfold qOp; simp only [h0]; exact h
  obtain ⟨v,hy,hK⟩:=yieldsIn_of_qOp h0 hst
  refine Ms hn (by omega) h0 (Region.noSelect_spec hs) t.length l a hcl (Region.free_spec h0 hf) (by simpa using hr) hy
   (Jy hn hz hs t (k+1) _ _ (by omega) (by simpa using hl) (hcl.set (by simpa using hr)) ⟨by simpa using hl,fun j hj=>?_,fun j hj hj2=>?_⟩ (fun j hj=>by have:=ht (j+1) (by simpa using hj); simpa [Nat.add_assoc,Nat.add_comm 1 j] using this) hB' hK)
  ·by_cases e:k=j
   ·subst e; simp [Array.getD_eq_getD_getElem?,hl,show k<ops.size by omega]
   ·rw [getD_set_ne true e]; exact hu.2.1 j (by omega)
  ·rw [getD_set_ne true (by omega)]; exact hu.2.2 j (by omega) hj2
theorem Jz {n m:Nat} {Q:Act→Prop} {Q':Exit→Act→World→Prop} (hQ:∀ l a w,C w→Uv ops n l→Q a→wpAny P .any ops Q' m l a w):∀ (f:Nat) (l:Array Bool) (a:Act) (w:World),C w →
  Jx P ops C n Q f l a→wpAny P .any ops Q' (f+m) l a w
 | 0,l,a,w,hw,h=>by rw [Nat.zero_add]; exact hQ l a w hw h.1 h.2
 | f+1,l,a,w,hw,h=>by
  rw [show f+1+m=(f+m)+1 by omega];exact ⟨fun h0=>(by obtain ⟨i,hi⟩:=h.1; rw [h0] at hi; cases hi),fun i hi=>wpOp_of_qOp hw (fun a' w' hw'=>Jz hQ f _ a' w' hw') (h.2 i hi)⟩
abbrev Vq (w:World):World→Prop:=fun w'=>∃ p:Regrown,w'=grow (redrawn w p.d) p.os
def Ip (P:Program) (Q:Exit→Act→World→Prop):List Oper→Act→World→Prop
 | [],a,w=>Q .normal a w
 | o :: r,a,w=>o.wp P a w (Ip P Q r) Q
def Qy (ops:Array Oper) (n:Nat):Bool:=(List.range ops.size).all fun j=>decide (j<n) || ((List.range n).all (G8 ops 6 j) && match ops[j]? with | some o=>o.guard.isNone && o.after.all (fun e=>!Region.binds .any e || decide (e.on<j)) && (decide (j=n) || A2 o (j-1)) | none=>false)
theorem Iq {n j:Nat} {o:Oper} (hB:Qy ops n=true) (hn:n≤j) (ho:ops[j]?=some o):(∀ k,k<n→G8 ops 6 j k=true)∧o.guard=none∧(∀ e∈o.after,Region.binds .any e=true→e.on<j)∧(j=n∨A2 o (j-1)=true):=by
 have h:=List.all_eq_true.1 hB j (List.mem_range.2 (Array.getElem?_eq_some_iff.1 ho).1);rw [ho,Bool.or_eq_true,decide_eq_true_eq] at h
 rcases h with h | h
 ·omega
 ·simp only [Bool.and_eq_true,List.all_eq_true,List.mem_range,Bool.or_eq_true,decide_eq_true_eq] at h
  obtain ⟨h1,⟨h2,h3⟩,h4⟩:=h;refine ⟨h1,by simpa using h2,fun e he hb=>?_,h4⟩;have:=(Array.all_eq_true_iff_forall_mem.1 h3) e he;rw [hb] at this
  simpa using this
theorem J0 {n:Nat} {Q:Exit→Act→World→Prop} (hB:Qy ops n=true):∀ (r:List Oper) (k:Nat) (l:Array Bool) (a:Act) (w:World),n≤k→k+r.length=ops.size→(∀ j,j<r.length→r[j]?=ops[k+j]?)→Uv ops k l→Ip P Q r a w→wpAny P .any ops Q r.length l a w
 | [],k,l,a,w,_,hk,_,hu,h=>by
  refine ⟨List.eq_nil_iff_forall_not_mem.2 fun i hi=>?_,h⟩;obtain ⟨h0,oj,hoj,-⟩:=mem_ready.1 hi;have:=(Array.getElem?_eq_some_iff.1 hoj).1;simp only [List.length_nil] at hk;rw [hu.2.1 i (by omega)] at h0;cases h0
 | o :: r,k,l,a,w,hn,hk,ht,hu,h=>by
  simp only [List.length_cons] at hk
  have ho:ops[k]?=some o:=by simpa using (ht 0 (by simp)).symm
  obtain ⟨-,hg,hb,-⟩:=Iq hB hn ho
  have hr:∀ i,i∈Region.ready .any ops l→i=k:=fun i hi=>by
   obtain ⟨h0,oj,hoj,hall⟩:=mem_ready.1 hi;have hlt:=(Array.getElem?_eq_some_iff.1 hoj).1
   rcases Nat.lt_trichotomy i k with h1 | h1 | h1
   ·rw [hu.2.1 i h1] at h0; cases h0
   ·exact h1
   ·exfalso
    obtain ⟨-,-,-,hw⟩:=Iq hB (show n≤i by omega) hoj
    rcases hw with hw | hw
    ·omega
    ·unfold A2 at hw
     rw [Array.any_eq_true'] at hw;obtain ⟨e,he,hbe⟩:=hw;simp only [Bool.and_eq_true,beq_iff_eq] at hbe;have h2:=hall e he hbe.1;have h3:=hu.2.2 (i-1) (by omega) (by omega);rw [hbe.2,Array.getD_eq_getD_getElem?] at h2;rw [Array.getD_eq_getD_getElem?] at h3
     rcases hq:l[i-1]? with _ | b
     ·rw [Array.getElem?_eq_none_iff,hu.1] at hq; omega
     ·rw [hq] at h2 h3; simp at h2 h3; rw [h2] at h3; cases h3
  have hi:k∈Region.ready .any ops l:=mem_ready.2 ⟨hu.2.2 k (Nat.le_refl _) (by omega),o,ho,fun e he hbe=>by
   have h1:=hb e he hbe;have h2:=hu.2.1 e.on h1;rw [Array.getD_eq_getD_getElem?] at h2 ⊢
   rcases hq:l[e.on]? with _ | b
   ·rw [Array.getElem?_eq_none_iff,hu.1] at hq; omega
   ·simpa [hq] using h2⟩
  refine ⟨fun h0=>(by rw [h0] at hi; cases hi),fun i hi'=>?_⟩;obtain rfl:=hr i hi';refine E4 ho hg (Oper.wp_mono (fun a' w' h'=>J0 hB r (i+1) _ a' w' (by omega) (by omega) (fun j hj=>by have:=ht (j+1) (by simpa using hj); simpa [Nat.add_assoc,Nat.add_comm 1 j] using this) ⟨by simpa using hu.1,fun j hj=>?_,fun j hj hj2=>?_⟩ h') h)
  ·by_cases e:i=j
   ·subst e; simp [Array.getD_eq_getD_getElem?,hu.1,show i<ops.size by omega]
   ·rw [getD_set_ne true e]; exact hu.2.1 j (by omega)
  ·rw [getD_set_ne true (by omega)]; exact hu.2.2 j (by omega) hj2
theorem Ew {id n:Nat} {Q:Exit→Act→World→Prop} {a:Act} {w:World} {t:List Oper} (hm:P.follows .mixedOrders=true) (hB:(Region.noSelect t.toArray && Oj t.toArray n 0 (Array.replicate t.toArray.size false) && Qy t.toArray n && decide (n≤t.toArray.size))=true)
  (h:wpQuiet P t.toArray (Vq w) (fun a'=>∀ w',Vq w w'→Ip P Q (t.drop n) a' w') (t.take n) a):(Code.region id t.toArray true).wp P Q a w:=by
 simp only [Bool.and_eq_true,decide_eq_true_eq] at hB;obtain ⟨⟨⟨hs,hl⟩,ht⟩,hz⟩:=hB
 have hz':n≤t.length:=by simpa using hz
 have hd:(t.drop n).length=t.toArray.size-n:=by simp
 have htk:(t.take n).length=n:=by simp; omega
 refine wp_region_any hm ?_;rw [show wpAny P .any t.toArray Q t.toArray.size=wpAny P .any t.toArray Q (n+(t.drop n).length) by rw [hd,Nat.add_sub_cancel' hz]];refine Jz (C:=Vq w) (n:=n) (Q:=fun a'=>∀ w',Vq w w'→Ip P Q (t.drop n) a' w') (fun l a' w' hw hu hq=>J0 ht _ n l a' w' (Nat.le_refl _) (by rw [hd]; omega) (fun j hj=>by simp) hu (hq w' hw)) n _ a _ ⟨⟨w.drawn+1,#[]⟩,by rw [grow_empty]; rfl⟩ ?_
 have:=Jy (C:=Vq w) (n:=n) (fun j hj hlt k hk=>by obtain ⟨o,ho⟩:∃ o,t.toArray[j]?=some o:=⟨_,Array.getElem?_eq_some_iff.2 ⟨hlt,rfl⟩⟩; exact (Iq ht hj ho).1 k hk) hz hs (t.take n) 0 (Array.replicate t.toArray.size false) a (by omega) (by simp) (fun k o hk=>by rw [Array.getElem?_replicate] at hk; split at hk <;> simp at hk) ⟨by simp,fun k hk=>absurd hk (Nat.not_lt_zero _),fun k _ hk=>by rw [Array.getD_eq_getD_getElem?,Array.getElem?_replicate,if_pos hk]; rfl⟩ (fun j hj=>by rw [htk] at hj; simp [List.getElem?_take,hj]) (by rw [htk]; exact hl) h;rw [htk] at this;exact this
theorem Cx {id n:Nat} {Q:Exit→Act→World→Prop} {a:Act} {w:World} {t:List Oper} {o:Oper} (hm:P.follows .mixedOrders=true) (hB:(Region.noSelect t.toArray && Oj t.toArray n 0 (Array.replicate t.toArray.size false) && Qy t.toArray n && decide (n≤t.toArray.size) && decide (n+1=t.toArray.size))=true) (ho:t[n]?=some o)
  (h:wpQuiet P t.toArray (Vq w) (fun a'=>∀ w',Vq w w'→o.wp P a' w' (fun a'' w''=>Q .normal a'' w'') Q) (t.take n) a):(Code.region id t.toArray true).wp P Q a w:=by
 rw [Bool.and_eq_true,decide_eq_true_eq] at hB
 have e:t.drop n=[o]:=by
  have:=hB.2
  simp at this
  rw [List.drop_eq_getElem_cons (by omega),List.drop_eq_nil_of_le (by omega),(List.getElem?_eq_some_iff.1 ho).2]
 refine Ew hm hB.1 ?_;rw [e];exact h
theorem En {w:World} {Q:Act→Prop} {a:Act} {o:Oper} {rest:List Oper} (ty:TypeId) (x:Operand) (ho:o.op=.load ty x) (hgu:o.guard=none)
  (g off:Nat) (hx:a.eval x=(pt g off)) (t:TypeId) (cs part:Array Value) (fr:Nat × Nat) (d:TypeDesc) (hg:w.heap[g]?=some (.cells cs t fr)) (hp:∀ j v,part[j]?=some v→cs[off+j]?=some v)
  (hu:P.underlying ty=some d) (hd:(match d with | .struct _ | .array _ _=>true | _=>false)=true) (hi:(P.info? ty).map (·.size)=some part.size)
  (h:wpQuiet P ops (fun w'=>∃ p:Regrown,w'=grow (redrawn w p.d) p.os) Q rest (a.put o.dst (.agg part))):wpQuiet P ops (fun w'=>∃ p:Regrown,w'=grow (redrawn w p.d) p.os) Q (o :: rest) a:=by
 unfold wpQuiet;rw [if_pos (by simp [Region.wanted,hgu])];refine ⟨.agg part,fun w' hw'=>?_,h⟩;obtain ⟨p,rfl⟩:=hw'
 have hg':(grow (redrawn w p.d) p.os).heap[g]?=some (.cells cs t fr):=by
  rw [(below_regrown w p.d p.os).block g (Array.getElem?_eq_some_iff.1 hg).1]; exact hg
 unfold Oper.quietAt execOp;simp only [ho,hx,Instr.loadAt,Instr.sureAddr,Sem.run_bind,Sem.run_pure,Result.andThen_ok,Fp _ g off t ty cs part fr d hg' hp hu hd hi];exact ⟨rfl,rfl⟩
end
open Go.ChangeShapes Go.WideShapes Go.ChangeAt
def Jc (j:Nat):Int:=[-1,256,65535,65536,9223372036854775807,-9223372036854775808,511].getD j 0
theorem Ra (j:Nat):-9223372036854775808≤Jc j∧Jc j≤9223372036854775807:=by
 unfold Jc
 rcases j with _ | _ | _ | _ | _ | _ | _ | j <;> simp
theorem If (w:World) (B c:Nat) (a:Option Addr) (len cap:Nat) (H:Dc w B c a len cap) (hcw:c<w.heap.size) :
  Calls Tryz.prog 43 #[(pt c 0)] w fun e w'=>∃ x:Int,e=.returned (.i x)∧-9223372036854775808≤x∧x≤9223372036854775807∧Dc w' B c a len cap∧Step c w w':=by
 go_enter Tryz.func43,Tryz.ntmps43
 go_wp2_with fail;refine (Sp _ B c a len cap H 9).mono ?_;rintro e w1 ⟨x,rfl,H1,O1⟩
 have hs:c<w1.heap.size:=by rw [O1.size]; exact hcw
 cases x
 ·go_wp2_with fail
  refine (Bw _ B c a len cap H1 256).mono ?_;rintro e w2 ⟨y,rfl,y0,y1,H2,O2⟩;go_wp2;go_ret;exact ⟨y,rfl,by omega,by omega,H2,O1.step.trans O2.step⟩
 ·go_wp2_with fail
  refine (Fi _ B c a len cap (H1.alloc _ hs) w1.heap.size 7 (by omega) (by omega) (by omega) Jc ?_).mono ?_
  ·intro j hj
   rw [World.cell?_alloc_new]
   rcases j with _ | _ | _ | _ | _ | _ | _ | j
   ·rfl
   ·rfl
   ·rfl
   ·rfl
   ·rfl
   ·rfl
   ·rfl
   ·omega
  ·rintro e w2 ⟨j,rfl,hj,H2,O2⟩
   have hp:=Ra j;go_wp2;go_ret;exact ⟨Jc j,rfl,hp.1,hp.2,H2,(O1.step.alloc _).trans O2.step⟩
theorem Qq (w:World) (a:Option Addr) (len cap:Nat) :
  Calls Tryz.prog 4 #[.slice a len cap] w fun e w'=>e=.returned (.bool (decide (1048576<(len:Int))))∧w'=w:=by
 go_enter Tryz.func4,Tryz.ntmps4
 go_wp2;go_ret;exact ⟨rfl,rfl⟩
set_option maxRecDepth 20000
def dg (n:Nat):List UInt8:=if _h:n=0 then [] else dg (n/10)++[UInt8.ofNat (48+n%10)]
decreasing_by exact Nat.div_lt_self (Nat.pos_of_ne_zero _h) (by decide)
def chr (k:Nat):UInt8:=UInt8.ofNat (48+k%10)
theorem Vf (k:Nat):UInt8.ofNat (48+(k:Int)%10).toNat=chr k:=by
 have e:(48+(k:Int)%10).toNat=48+k%10:=by omega
 rw [e]
 rfl
def Np (n:Nat):List UInt8:=if n=0 then [48] else dg n
theorem Qr {n:Nat} (h:0<n):dg n=dg (n/10)++[chr n]:=by
 rw [dg,dif_neg (by omega)]
 rfl
theorem Mb:dg 0=[]:=by rw [dg,dif_pos rfl]
theorem Vg (d n:Nat) (h:n<10 ^ d):(dg n).length≤d:=by
 induction d generalizing n with
 | zero =>
  have e:n=0:=by simp at h; exact h
  subst e;rw [Mb]
  simp
 | succ d ih =>
  by_cases e:n=0
  ·subst e; rw [Mb]; simp
  ·rw [Qr (by omega),List.length_append]
   have:=ih (n/10) (by rw [Nat.pow_succ] at h; omega)
   simp
   omega
theorem Vy (W:World) (g:Nat) (x:Int) (h:W.cell? ⟨g,0,none⟩=some (.int .u8 x)) :
  (convert 22 9 (.slice (some ⟨g,0,none⟩) 1 1)).run Tryz.prog W=.ok (.string ⟨#[UInt8.ofNat x.toNat]⟩) W:=by
 rw [run_convert_bytes_string W 22 9 5 _ _ _ Tryz.underlying22 Tryz.underlying5 Tryz.underlying9]
 have hl:=run_loadCells_list (P:=Tryz.prog) W ⟨g,0,none⟩ [.int .u8 x] (fun j v hj=>by
  match j,hj with
  | 0,hj=>cases hj; simpa [Addr.add] using h
  | k+1,hj=>simp at hj)
 rw [run_bytesToString W ⟨g,0,none⟩ 1 1 [x] hl]
 rfl
theorem Sr (w:World) (n:Nat) (hn:n≤9223372036854775807):Calls Tryz.prog 110 #[.i n] w fun e w'=>(∃ s:ByteArray,e=.returned (.string s)∧s.toList=Np n)∧Below w.heap.size w w':=by
 by_cases h0:n=0
 ·subst h0
  go_enter Tryz.func110,Tryz.ntmps110
  go_wp2;go_ret;exact ⟨⟨_,rfl,by simp [Np,ByteArray.toList_eq]⟩,Below.refl _ _⟩
 ·have h0':((n:Int)==0)=false:=by simp; omega
  have hd:Np n=dg n:=by unfold Np; rw [if_neg h0]
  rw [hd]
  go_enter Tryz.func110,Tryz.ntmps110
  go_wp2
  go_loopw [0,3] (fun x o wr=>∃ (k:Nat) (s:ByteArray),x=.i k∧o=.string s∧dg n=dg k++s.data.toList∧Hid (k≤9223372036854775807)∧Below w.heap.size w wr) (fun x _ _=>(intOf x).toNat)
  case atStart=>exact ⟨n,_,rfl,rfl,by simp,hn,Below.refl _ _⟩
  case round =>
   obtain ⟨k,s,rfl,rfl,hdg,hk,hbel⟩:=hrel;have HD:=Ad hdg;clear hdg
   by_cases hk0:0<k
   ·have hk0':(0:Int)<(k:Int):=by omega
    have hkk:=hk.out;have hcv:=Vy (wr.alloc (.cells #[.int .u8 (48+(k:Int)%10)] 5)) wr.heap.size (48+(k:Int)%10) (by go_simp);rw [Vf] at hcv
    have hd0:0≤(k:Int)%10:=by omega
    have hd9:(k:Int)%10≤9:=by omega
    have hss:s.size≤19:=by
     have h1:=congrArg List.length (Ab HD);have h2:=Vg 19 n (by omega);rw [List.length_append] at h1;have h3:s.data.toList.length=s.size:=rfl
     omega
    have HD2:Hid (dg n=dg (k/10)++((⟨#[chr k]⟩:ByteArray)++s).data.toList):=by
     show _=_
     rw [Ab HD,Qr hk0,List.append_assoc]
     congr 1
    generalize chr k=ch at *;go_wp2;go_roundw
    case rel=>exact ⟨k/10,_,by go_num,rfl,Ab HD2,by show _≤_; omega,hbel.alloc hbel.size _⟩
    case measure=>simp [intOf]; omega
   ·have hk0':¬ (0:Int)<(k:Int):=by omega
    have e:k=0:=by omega
    subst e;go_wp2;go_ret;exact ⟨⟨_,rfl,by rw [ByteArray.toList_eq,Ab HD,Mb]; rfl⟩,hbel⟩
def E3 (c:UInt8):Bool:=decide (48≤c.toNat) && decide (c.toNat≤57)
def G5 (l:List UInt8):Nat:=l.foldl (fun x c=>10*x+(c.toNat-48)) 0
theorem Rb (l:List UInt8) (c:UInt8):G5 (l++[c])=10*G5 l+(c.toNat-48):=by simp [G5]
def pv (l:List UInt8) (q:Nat):Nat:=G5 (l.take q)
theorem Qs (l:List UInt8) (q:Nat) (h:q<l.length):pv l (q+1)=10*pv l q+((l[q]'h).toNat-48):=by
 unfold pv;rw [List.take_succ_eq_append_getElem h,Rb]
theorem U9 (l:List UInt8) (q:Nat) (h:∀ j (_:j<q) (hl:j<l.length),E3 (l[j]'hl)=true):pv l q<10 ^ q:=by
 induction q with
 | zero=>simp [pv,G5]
 | succ q ih =>
  have h1:=ih (fun j hj hl=>h j (by omega) hl)
  by_cases hq:q<l.length
  ·rw [Qs l q hq,Nat.pow_succ]
   have h2:=h q (by omega) hq
   simp [E3] at h2
   omega
  ·have e:pv l (q+1)=pv l q:=by
    unfold pv;rw [List.take_of_length_le (by omega),List.take_of_length_le (by omega)]
   rw [e,Nat.pow_succ]
   omega
theorem Ss (l:List UInt8):pv l l.length=G5 l:=by unfold pv; rw [List.take_length]
theorem Uf {l:List UInt8} (h:∀ j (hl:j<l.length),E3 (l[j]'hl)=true):l.all E3=true:=by
 rw [List.all_eq_true];intro x hx;obtain ⟨j,hj,rfl⟩:=List.mem_iff_getElem.1 hx;exact h j hj
theorem Ug {l:List UInt8} {j:Nat} (hl:j<l.length) (h:E3 (l[j]'hl)=false):l.all E3=false:=by
 rw [List.all_eq_false];exact ⟨_,List.getElem_mem hl,by simp [h]⟩
def numOf (s:ByteArray):Int:=if s.size=0∨5<s.size then -1 else if s.data.toList.all E3=false then -1 else if Np (G5 s.data.toList)=s.data.toList then G5 s.data.toList else -1
theorem Vz (w:World) (s:ByteArray) (hs:s.size≤1048576):Calls Tryz.prog 102 #[.string s] w fun e w'=>e=.returned (.i (numOf s))∧Below w.heap.size w w':=by
 by_cases h0:s.size=0
 ·have HN:Hid (numOf s=-1):=by show _=_; unfold numOf; rw [if_pos (Or.inl h0)]
  have e:s=ByteArray.empty:=by
   apply ByteArray.ext
   exact Array.eq_empty_of_size_eq_zero h0
  subst e
  go_enter Tryz.func102,Tryz.ntmps102
  go_wp2;go_ret;exact ⟨Bs HN.out.symm,Below.refl _ _⟩
 ·have h0':(s.toList==[])=false:=by
   rw [ByteArray.toList_eq];simp only [beq_eq_false_iff_ne,ne_eq,Array.toList_eq_nil_iff];intro e
   apply h0
   show s.data.size=0
   rw [e]
   rfl
  by_cases h5:5<s.size
  ·have HN:Hid (numOf s=-1):=by show _=_; unfold numOf; rw [if_pos (Or.inr h5)]
   have h5':(5:Int)<(s.size:Int):=by omega
   go_enter Tryz.func102,Tryz.ntmps102
   go_wp2;go_ret;exact ⟨Bs HN.out.symm,Below.refl _ _⟩
  ·have h5':decide ((5:Int)<(s.size:Int))=false:=decide_eq_false (by omega)
   go_enter Tryz.func102,Tryz.ntmps102
   go_wp2
   go_loop [3,4] (fun x i=>∃ q:Nat,q≤s.size∧i=.i q∧x=.i (pv s.data.toList q)∧∀ j (_:j<q) (hl:j<s.data.toList.length),E3 (s.data.toList[j]'hl)=true) (fun _ i=>s.size-(intOf i).toNat)
   case atStart=>exact ⟨0,Nat.zero_le _,rfl,rfl,fun j hj=>absurd hj (Nat.not_lt_zero _)⟩
   case round =>
    obtain ⟨q,hq,rfl,rfl,hdg⟩:=hrel;have hpv:=U9 s.data.toList q hdg;have hp5:pv s.data.toList q<100000:=Nat.lt_of_lt_of_le hpv (Nat.pow_le_pow_right (by omega) (show q≤5 by omega));have HD:=Ad hdg;clear hdg hpv
    by_cases hlt:q<s.size
    ·have hlt':(q:Int)<(s.size:Int):=by omega
     have hll:q<s.data.toList.length:=by simpa using hlt
     have hps:=Ad (Qs s.data.toList q hll)
     have hce:(s.data.toList[q]'hll).toNat=(s[q]'hlt).toNat:=by simp; rfl
     cases hd:E3 (s.data.toList[q]'hll)
     ·have HN:Hid (numOf s=-1):=by
       show _=_
       unfold numOf;rw [if_neg (by omega),if_pos (Ug hll hd)]
      unfold E3 at hd;rw [hce] at hd
      by_cases h48:(((s[q]'hlt).toNat:Nat):Int)<48
      ·clear hd hce
       go_wp2;go_ret;exact ⟨Bs HN.out.symm,Below.refl _ _⟩
      ·have h57:(57:Int)<(((s[q]'hlt).toNat:Nat):Int):=by
        simp only [Bool.and_eq_false_iff,decide_eq_false_iff_not] at hd
        omega
       clear hd hce;go_wp2;go_ret;exact ⟨Bs HN.out.symm,Below.refl _ _⟩
     ·have hdd:∀ j (_:j<q+1) (hl:j<s.data.toList.length),E3 (s.data.toList[j]'hl)=true:=fun j hj hl=>by
       by_cases e:j=q
       ·subst e; exact hd
       ·exact Ab HD j (by omega) hl
      have HDD:=Ad hdd;unfold E3 at hd;rw [hce] at hd;simp only [Bool.and_eq_true,decide_eq_true_eq] at hd
      have h48:¬ (((s[q]'hlt).toNat:Nat):Int)<48:=by omega
      have h57:¬ (57:Int)<(((s[q]'hlt).toNat:Nat):Int):=by omega
      have hps2:Hid (pv s.data.toList (q+1)=10*pv s.data.toList q+((s[q]'hlt).toNat-48)):=by show _=_; rw [Ab hps,hce]
      have hd1:=hd.1;clear hd hce hdd hps;go_wp2
      go_round
      case rel=>exact ⟨q+1,by omega,by go_num,congrArg (Value.int .i64) (by rw [hps2.out]; omega),Ab HDD⟩
      case measure=>simp [intOf]; omega
    ·have hlt':¬ (q:Int)<(s.size:Int):=by omega
     have e:q=s.size:=by omega
     subst e;have hal:s.data.toList.all E3=true:=Uf (fun j hl=>Ab HD j (by simpa using hl) hl);have hpe:pv s.data.toList s.size=G5 s.data.toList:=Ss s.data.toList
     have hnum:numOf s=if Np (G5 s.data.toList)=s.data.toList then (G5 s.data.toList:Int) else -1:=by
      unfold numOf;rw [if_neg (by omega),if_neg (by rw [hal]; decide)]
     have HNM:=Ad hnum;clear hnum hal;go_wp2_with fail;refine (Sr _ _ (by omega)).mono ?_;rintro e w1 ⟨⟨t,rfl,ht0⟩,L1⟩
     have ht:t.toList=Np (G5 s.data.toList):=by first | exact ht0 | (rw [hpe] at ht0; exact ht0)
     clear ht0
     by_cases hq:Np (G5 s.data.toList)=s.data.toList
     ·have hq':(!t.toList==s.toList)=false:=by rw [ht,ByteArray.toList_eq,hq]; simp
      have HE:Hid (((G5 s.data.toList:Nat):Int)=numOf s):=by show _=_; rw [Ab HNM,if_pos hq]
      clear ht hq hpe;go_wp2;go_ret;exact ⟨Bs HE.out,L1⟩
     ·have hq':(!t.toList==s.toList)=true:=by
       rw [ht,ByteArray.toList_eq]
       simpa using hq
      have HE:Hid (numOf s=-1):=by show _=_; rw [Ab HNM,if_neg hq]
      clear ht hq hpe;go_wp2;go_ret;exact ⟨Bs HE.out.symm,L1⟩
theorem S8 {cs:Array Value} {o:Nat} {v:Value} (h:cs[o]?=some v):∀ (j:Nat) (x:Value),#[v][j]?=some x→cs[o+j]?=some x:=fun j x hx=>by
 rcases j with _ | j
 ·exact h.trans hx
 ·simp at hx
theorem Qu {cs:Array Value} {o:Nat} {v0 v1:Value} (h0:cs[o]?=some v0) (h1:cs[o+1]?=some v1):∀ (j:Nat) (x:Value),#[v0,v1][j]?=some x→cs[o+j]?=some x:=fun j x hx=>by
 rcases j with _ | _ | j
 ·exact h0.trans hx
 ·exact h1.trans hx
 ·simp at hx
theorem Qv {cs:Array Value} {o:Nat} {v0 v1 v2 v3 v4 v5 v6 v7:Value} (h0:cs[o]?=some v0) (h1:cs[o+1]?=some v1) (h2:cs[o+2]?=some v2) (h3:cs[o+3]?=some v3) (h4:cs[o+4]?=some v4) (h5:cs[o+5]?=some v5) (h6:cs[o+6]?=some v6) (h7:cs[o+7]?=some v7):∀ (j:Nat) (x:Value),#[v0,v1,v2,v3,v4,v5,v6,v7][j]?=some x→cs[o+j]?=some x:=fun j x hx=>by
 rcases j with _ | _ | _ | _ | _ | _ | _ | _ | j
 ·exact h0.trans hx
 ·exact h1.trans hx
 ·exact h2.trans hx
 ·exact h3.trans hx
 ·exact h4.trans hx
 ·exact h5.trans hx
 ·exact h6.trans hx
 ·exact h7.trans hx
 ·simp at hx
theorem Ce {w:World} {g:Nat} {old:Array Value} {t:TypeId} (hg:w.heap[g]?=some (.cells old t (0,0))) (cs:Array Value):Wrote (fun b _=>b=g) w (w.setRow g cs) :=
 ⟨rfl,rfl,rfl,by simp [World.setRow],fun k hk hn=>setRow_other _ _ _ _ (fun e=>hn 0 e),fun b o hb hn=>cell_setRow_other _ _ _ _ hn,fun b o hb=>by
  by_cases e:b=g
  ·subst e
   rw [Ax (setRow_heap _ _ _ _ _ _ hg),Ax hg]
  ·simp [World.frozen?,setRow_other _ _ _ _ e]⟩
theorem Wj (w:World) (a b:Int):Calls Tryz.prog 113 #[.i a,.i b] w fun e w'=>e=.returned (.i (max a b))∧w'=w:=by
 by_cases h:b<a
 ·have HE:Hid (max a b=a):=by show _=_; omega
  go_enter Tryz.func113,Tryz.ntmps113
  go_wp2;go_ret;exact ⟨Bs HE.out.symm,rfl⟩
 ·have HE:Hid (max a b=b):=by show _=_; omega
  go_enter Tryz.func113,Tryz.ntmps113
  go_wp2;go_ret;exact ⟨Bs HE.out.symm,rfl⟩
theorem Wa (w:World) (a b:Int):Calls Tryz.prog 38 #[.i a,.i b] w fun e w'=>e=.returned (.i (min a b))∧w'=w:=by
 by_cases h:a<b
 ·have HE:Hid (min a b=a):=by show _=_; omega
  go_enter Tryz.func38,Tryz.ntmps38
  go_wp2;go_ret;exact ⟨Bs HE.out.symm,rfl⟩
 ·have HE:Hid (min a b=b):=by show _=_; omega
  go_enter Tryz.func38,Tryz.ntmps38
  go_wp2;go_ret;exact ⟨Bs HE.out.symm,rfl⟩
theorem Ob (w:World) (t:Int) (h:t≤9223372036854775807):Calls Tryz.prog 111 #[.i t] w fun e w'=>e=.returned (.i (max t 0/64))∧w'=w:=by
 have f0:0≤max t 0:=by omega
 have f1:max t 0≤9223372036854775807:=by omega
 have M:=Ad (Wj w t 0);generalize max t 0=f at *;have d64:f.tdiv 64=f/64:=Int.tdiv_eq_ediv_of_nonneg f0
 go_enter Tryz.func111,Tryz.ntmps111
 go_wp2_with fail;refine (Ab M).mono ?_;rintro e w1 ⟨rfl,rfl⟩;go_wp2;go_ret;exact ⟨rfl,rfl⟩
abbrev On (D:Nat→Prop):Nat→Nat→Prop:=fun b _=>D b
theorem Ag {R:Nat→Nat→Prop} {w w':World} {b:Nat} {o:Obj} (h:w.heap[b]?=some o) (hw:Wrote R w w') (hd:∀ o,¬ R b o):w'.heap[b]?=some o:=(hw.block b (Af h) hd).trans h
theorem An {w:World} {b o:Nat} {cs:Array Value} {t:TypeId} {fr:Nat × Nat} (h:w.heap[b]?=some (.cells cs t fr)) (x:Value):(w.setCell ⟨b,o,none⟩ x).heap[b]?=some (.cells (cs.setIfInBounds o x) t fr):=by
 simp [World.setCell,Array.getElem?_modify,h]
structure Bn (W:World) (D:Nat→Prop) (v:Value) (n:Nat) (g:Nat→Int) (bank:Int):Prop where
 ex:∃ a cap,v=.agg #[.slice a n cap,.i bank]∧n≤1048576∧Bv .i64 W a n g∧Ie W (Cd a n)∧∀ b o,Cd a n b o→D b
theorem Bn.keep {R:Nat→Nat→Prop} {W W':World} {D:Nat→Prop} {v:Value} {n:Nat} {g:Nat→Int} {bank:Int} (h:Bn W D v n g bank) (hw:Wrote R W W') (hd:∀ b o,D b→b<W.heap.size→¬ R b o):Bn W' D v n g bank:=by
 obtain ⟨a,cap,e,hn,hr,hF,hD⟩:=h;exact ⟨a,cap,e,hn,hr.keep hw (fun b o hf=>hd b o (hD b o hf) (hF b o hf).1),hF.keep hw,hD⟩
theorem Bn.below {W W':World} {D:Nat→Prop} {v:Value} {n:Nat} {g:Nat→Int} {bank:Int} (h:Bn W D v n g bank) (L:Below W.heap.size W W'):Bn W' D v n g bank:=h.keep (Aa L Ah) (fun _ _ _ _ x=>x)
theorem Bn.mono {W:World} {D E:Nat→Prop} {v:Value} {n:Nat} {g:Nat→Int} {bank:Int} (h:Bn W D v n g bank) (hd:∀ b,b<W.heap.size→D b→E b):Bn W E v n g bank:=by
 obtain ⟨a,cap,e,hn,hr,hF,hD⟩:=h;exact ⟨a,cap,e,hn,hr,hF,fun b o hf=>hd b (hF b o hf).1 (hD b o hf)⟩
theorem Bn.ints {W:World} {D:Nat→Prop} {v:Value} {n:Nat} {g:Nat→Int} {bank:Int} (h:Bn W D v n g bank):∃ u,v=.agg #[u,.i bank]∧Ints .i64 W (On D) u n g:=by
 obtain ⟨a,cap,e,hn,hr,hF,hD⟩:=h;exact ⟨_,e,a,cap,rfl,hn,hr,hD⟩
theorem Bn.size {W:World} {D:Nat→Prop} {v:Value} {n:Nat} {g:Nat→Int} {bank:Int} (h:Bn W D v n g bank):n≤1048576:=by
 obtain ⟨a,cap,e,hn,hr,hF,hD⟩:=h;exact hn
theorem Bn.two {W:World} {D:Nat→Prop} {v:Value} {n:Nat} {g:Nat→Int} {bank:Int} (h:Bn W D v n g bank):∃ a c,v=.agg #[.slice a n c,.i bank]:=by
 obtain ⟨a,c,e,_⟩:=h;exact ⟨a,c,e⟩
theorem Bn.own {W:World} {lo n:Nat} {u:Value} {g:Nat→Int} {bank:Int} (h:Au W lo u n g):Bn W (fun b=>lo≤b) (.agg #[u,.i bank]) n g bank:=by
 obtain ⟨a,cap,rfl,hn,hr,hF,hD⟩:=h;exact ⟨a,cap,rfl,hn,hr,hF,hD⟩
structure F7 (W:World) (D:Nat→Prop) (v:Value) (m:Nat) (ln:Nat→Nat) (f:Nat→Nat→Int):Prop where
 ex:∃ p,v=.agg #[.slice (some ⟨p,0,none⟩) m m]∧m+Cv ln m≤1048576∧Fz W p m ln f∧p+1+m≤W.heap.size∧∀ b,p≤b→b<p+1+m→D b
theorem F7.keep {R:Nat→Nat→Prop} {W W':World} {D:Nat→Prop} {v:Value} {m:Nat} {ln:Nat→Nat} {f:Nat→Nat→Int} (h:F7 W D v m ln f) (hw:Wrote R W W') (hd:∀ b o,D b→b<W.heap.size→¬ R b o):F7 W' D v m ln f:=by
 obtain ⟨p,e,hm,hr,hs,hD⟩:=h;exact ⟨p,e,hm,hr.keep hw (fun b o h1 h2=>hd b o (hD b h1 h2) (by omega)),Nat.le_trans hs hw.size,hD⟩
theorem F7.below {W W':World} {D:Nat→Prop} {v:Value} {m:Nat} {ln:Nat→Nat} {f:Nat→Nat→Int} (h:F7 W D v m ln f) (L:Below W.heap.size W W'):F7 W' D v m ln f:=h.keep (Aa L Ah) (fun _ _ _ _ x=>x)
theorem F7.mono {W:World} {D E:Nat→Prop} {v:Value} {m:Nat} {ln:Nat→Nat} {f:Nat→Nat→Int} (h:F7 W D v m ln f) (hd:∀ b,b<W.heap.size→D b→E b):F7 W E v m ln f:=by
 obtain ⟨p,e,hm,hr,hs,hD⟩:=h;exact ⟨p,e,hm,hr,hs,fun b h1 h2=>hd b (by omega) (hD b h1 h2)⟩
theorem F7.ints {W:World} {D:Nat→Prop} {v:Value} {m:Nat} {ln:Nat→Nat} {f:Nat→Nat→Int} (h:F7 W D v m ln f):∃ u F,v=.agg #[u]∧Bm .i64 W F u m ln f:=by
 obtain ⟨p,e,hm,hr,hs,hD⟩:=h;exact ⟨_,_,e,hr.ints hm⟩
structure Bl (W:World) (D:Nat→Prop) (a:Option Addr) (n:Nat) (f:Nat→Int):Prop where
 small:n≤1048576
 row:Bv .i64 W a n f
 free:Ie W (Cd a n)
 on:∀ b o,Cd a n b o→D b
theorem Bl.keep {R:Nat→Nat→Prop} {W W':World} {D:Nat→Prop} {a:Option Addr} {n:Nat} {f:Nat→Int} (h:Bl W D a n f) (hw:Wrote R W W') (hd:∀ b o,Cd a n b o→D b→b<W.heap.size→¬ R b o):Bl W' D a n f :=
 ⟨h.small,h.row.keep hw (fun b o hf=>hd b o hf (h.on b o hf) (h.free b o hf).1),h.free.keep hw,h.on⟩
theorem Bl.wr {R:Nat→Nat→Prop} {W W':World} {D:Nat→Prop} {p i n:Nat} {f:Nat→Int} (h:Bl W D (some ⟨p,i,none⟩) n f) (hw:Wrote R W W') (hd:∀ o,¬ R p o):Bl W' D (some ⟨p,i,none⟩) n f :=
 h.keep hw (fun b o ⟨off,e,_,_⟩ _ _=>by
  simp only [Option.some.injEq,Addr.mk.injEq] at e;obtain ⟨rfl,-,-⟩:=e
  exact hd o)
theorem Bl.mono {W:World} {D E:Nat→Prop} {a:Option Addr} {n:Nat} {f:Nat→Int} (h:Bl W D a n f) (hd:∀ b,b<W.heap.size→D b→E b):Bl W E a n f :=
 ⟨h.small,h.row,h.free,fun b o hf=>hd b (h.free b o hf).1 (h.on b o hf)⟩
theorem Bl.ints {W:World} {D:Nat→Prop} {a:Option Addr} {n:Nat} {f:Nat→Int} (h:Bl W D a n f) (c:Nat):Ints .i64 W (On D) (.slice a n c) n f:=⟨a,c,rfl,h.small,h.row,h.on⟩
theorem Bl.congr {W:World} {D:Nat→Prop} {a:Option Addr} {n:Nat} {f g:Nat→Int} (h:Bl W D a n f) (e:∀ i,i<n→f i=g i):Bl W D a n g:=⟨h.small,h.row.congr e,h.free,h.on⟩
theorem Bl.own {W:World} {lo:Nat} {a:Option Addr} {n c:Nat} {f:Nat→Int} (h:Au W lo (.slice a n c) n f):Bl W (fun b=>lo≤b) a n f:=by
 obtain ⟨a',c',e,hn,hr,hF,hD⟩:=h;simp only [Value.slice.injEq,true_and] at e;obtain ⟨rfl,rfl⟩:=e;exact ⟨hn,hr,hF,hD⟩
theorem Bl.fresh {W:World} {p n lo:Nat} {f:Nat→Int} (hr:W.rowIs p 3 n (fun i=>.i (f i))) (hn:n≤1048576) (hp:lo≤p):Bl W (fun b=>lo≤b) (some ⟨p,0,none⟩) n f :=
 ⟨hn,Lc hr,fun b o ⟨off,e,_,_⟩=>by
  simp only [Option.some.injEq,Addr.mk.injEq] at e;obtain ⟨rfl,-,-⟩:=e
  exact ⟨hr.lt,hr.frozen _⟩,fun b o ⟨off,e,_,_⟩=>by
  simp only [Option.some.injEq,Addr.mk.injEq] at e;obtain ⟨rfl,-,-⟩:=e
  exact hp⟩
def Apart (a:Option Addr) (n:Nat) (a':Option Addr) (n':Nat):Prop:=∀ b o,Cd a n b o→¬ Cd a' n' b o
theorem Apart.symm {a a':Option Addr} {n n':Nat} (h:Apart a n a' n'):Apart a' n' a n:=fun b o x y=>h b o y x
theorem Fv {p q n m:Nat} {i j:Nat} (h:p≠q):Apart (some ⟨p,i,none⟩) n (some ⟨q,j,none⟩) m:=by
 rintro b o ⟨off,e,_,_⟩ ⟨off',e',_,_⟩;simp only [Option.some.injEq,Addr.mk.injEq] at e e';exact h (e.1.trans e'.1.symm)
theorem Tc {W W':World} {D E:Nat→Prop} {a a':Option Addr} {n n':Nat} {f g:Nat→Int} (h:Bl W D a n f) (k:Bl W' E a' n' g) (hd:∀ b,D b→¬ E b):Apart a n a' n':=fun b o x y=>hd b (h.on b o x) (k.on b o y)
structure Bt (W:World) (D:Nat→Prop) (v:Value) (t c s ad pl:Int) (bl:Bool) (n:Nat) (f:Nat→Int) (m:Nat) (g:Nat→Int):Prop where
 ex:∃ a x b y,v=.agg (pR t c s ad pl bl (.slice a n x) (.slice b m y))∧Bl W D a n f∧Bl W D b m g∧Apart a n b m
section
variable {R:Nat→Nat→Prop} {W W':World} {D E:Nat→Prop} {v:Value} {t c s ad pl:Int} {bl:Bool} {n m:Nat} {f g:Nat→Int}
theorem Bt.keep (h:Bt W D v t c s ad pl bl n f m g) (hw:Wrote R W W') (hd:∀ b o,D b→b<W.heap.size→¬ R b o):Bt W' D v t c s ad pl bl n f m g:=by
 obtain ⟨a,x,b,y,e,h1,h2,h3⟩:=h;exact ⟨a,x,b,y,e,h1.keep hw (fun b o _=>hd b o),h2.keep hw (fun b o _=>hd b o),h3⟩
theorem Bt.below (h:Bt W D v t c s ad pl bl n f m g) (L:Below W.heap.size W W'):Bt W' D v t c s ad pl bl n f m g:=h.keep (Aa L Ah) (fun _ _ _ _ x=>x)
theorem Bt.mono (h:Bt W D v t c s ad pl bl n f m g) (hd:∀ b,b<W.heap.size→D b→E b):Bt W E v t c s ad pl bl n f m g:=by
 obtain ⟨a,x,b,y,e,h1,h2,h3⟩:=h;exact ⟨a,x,b,y,e,h1.mono hd,h2.mono hd,h3⟩
theorem Bt.two (h:Bt W D v t c s ad pl bl n f m g):∃ a x b y,v=.agg (pR t c s ad pl bl (.slice a n x) (.slice b m y)):=by
 obtain ⟨a,x,b,y,e,-⟩:=h;exact ⟨a,x,b,y,e⟩
theorem Bt.ints (h:Bt W D v t c s ad pl bl n f m g):∃ u u',v=.agg (pR t c s ad pl bl u u')∧Ints .i64 W (On D) u n f∧Ints .i64 W (On D) u' m g:=by
 obtain ⟨a,x,b,y,e,h1,h2,h3⟩:=h;exact ⟨_,_,e,h1.ints x,h2.ints y⟩
end
theorem below_drewN {n:Nat} {w W:World} (L:Below n w W) (d:Nat):Below n w (W.drewN d):=L.trans ⟨rfl,rfl,rfl,Nat.le_refl _,fun _ _=>rfl⟩
theorem Dj {w:World} {b d o:Nat} {ob:Obj} {x:Value} (h:w.heap[b]?=some ob) (hd:b≠d):(w.setCell ⟨d,o,none⟩ x).heap[b]?=some ob :=
 ((Wrote.setCell (R:=fun b' _=>b'=d) (Wrote.refl _ w) (fun _=>rfl) x).block b (Af h) (fun _ e=>hd e)).trans h
end Go.Proofs.YtfjieibndedngaaGreat
