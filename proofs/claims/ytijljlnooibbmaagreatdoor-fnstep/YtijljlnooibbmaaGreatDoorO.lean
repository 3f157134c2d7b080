import Derived.Test.YtijljlnooibbmaaGreatDoorMath
import Derived.ChangeOld
import Derived.ShutString
import Derived.Lib.SmallJoins
import Derived.Lib.LaidTab
import Derived.Orders
import Derived.Deep.RegionLawGrows
import Derived.Deep.RegionWith
import Derived.Deep.RegionHeld3
import Derived.Deep.AppendLies
namespace Go.Proofs.YtijljlnooibbmaaGreatDoor
set_option maxRecDepth 20000
open Go.ChangeShapes Go.WideShapes Go.ChangeAt Go.RowKit
section
variable {H:Type} {enc:TypeId × Value->H} {P:Program} {w:World} {base:Nat} {spare:Nat->Bool} {held:Bool}
theorem Jbq {t e:TypeId} {k:IntKind} {fuel:Nat} {cs:List Value} {x:DataW H × List MemPlace} (ht:P.underlying t=some (.slice e)) (he:P.underlying e=some (.int k)) (hc:P.cellsOf e=1)
  (h:DataW.trod enc P w base spare held fuel t cs=some x) :
  ∃ (a:Option Addr) (n cap:Nat) (f:Nat->Int),cs=[.slice a n cap]/\n<=9223372036854775807/\Cg k w a n f/\∀ i,i<n->(Lit.int k (f i)).wf=true:=by
 rcases open_ints ht he hc h with ⟨rfl,_⟩ | ⟨⟨b,off,spot⟩,n,cap,zs,rfl,_,hl,hm,hz,_,hcell,hw⟩
 .exact ⟨none,0,0,fun _=>0,rfl,by omega,fun i hi=>absurd hi (Nat.not_lt_zero _),fun i hi=>absurd hi (Nat.not_lt_zero _)⟩
 .have hnz:n<=zs.length:=by rw [hz]; split <;> omega
  refine ⟨some ⟨b,off,spot⟩,n,cap,fun i=>zs.getD i 0,rfl,by unfold maxLen at hm; omega,fun i hi=>?_,fun i hi=>hw _ ?_⟩
  .have hs:spot=none:=by simpa [Addr.add] using World.cell?_spot (hcell 0 (by omega))
   subst hs;refine ⟨b,off,rfl,?_⟩;have:=hcell i (by omega);unfold Addr.add at this;split at this
   .rename_i h0
    subst h0;exact this
   .exact this
  .show zs.getD i 0∈zs
   rw [List.getD_eq_getElem?_getD,List.getElem?_eq_getElem (by omega)];exact List.getElem_mem _
theorem Jbr {t e:TypeId} {k:IntKind} {a:Option Addr} {n cap:Nat} {d:DataW H} {p:List MemPlace} (ht:P.underlying t=some (.slice e)) (he:P.underlying e=some (.int k)) (hc:P.cellsOf e=1)
  (h:DataW.Trod enc P w base spare held t (.slice a n cap) d p):∃ f:Nat->Int,n<=9223372036854775807/\Cg k w a n f/\∀ i,i<n->(Lit.int k (f i)).wf=true:=by
 obtain ⟨fuel,hf⟩:=h;obtain ⟨a',n',c',f,e,r⟩:=Jbq ht he hc hf
 simp [Value.cells] at e
 obtain ⟨rfl,rfl,rfl⟩:=e;exact ⟨f,r⟩
end
open Go.Proofs.Tryz
set_option linter.unusedVariables false
set_option linter.unusedSimpArgs false
theorem Jht (w:World) (a b:Int):Calls prog 235 #[.i a,.i b] w fun e w'=>e=.returned (.i (max a b))/\w'=w:=by
 by_cases h:b<a
 .have HE:Hid (max a b=a):=by show _=_; omega
  go_enter func235,ntmps235
  go_wp2;go_ret;exact ⟨A5 HE.out.symm,rfl⟩
 .have HE:Hid (max a b=b):=by show _=_; omega
  go_enter func235,ntmps235
  go_wp2;go_ret;exact ⟨A5 HE.out.symm,rfl⟩
theorem Jg2 (w:World) (a b:Int):Calls prog 111 #[.i a,.i b] w fun e w'=>e=.returned (.i (min a b))/\w'=w:=by
 by_cases h:a<b
 .have HE:Hid (min a b=a):=by show _=_; omega
  go_enter func111,ntmps111
  go_wp2;go_ret;exact ⟨A5 HE.out.symm,rfl⟩
 .have HE:Hid (min a b=b):=by show _=_; omega
  go_enter func111,ntmps111
  go_wp2;go_ret;exact ⟨A5 HE.out.symm,rfl⟩
theorem Us (w:World) (t:Int) (h:t<=9223372036854775807):Calls prog 212 #[.i t] w fun e w'=>e=.returned (.i (max t 0/64))/\w'=w:=by
 have f0:0<=max t 0:=by omega
 have f1:max t 0<=9223372036854775807:=by omega
 have M:=Ac (Jht w t 0);generalize max t 0=f at *;have d64:f.tdiv 64=f/64:=Int.tdiv_eq_ediv_of_nonneg f0
 go_enter func212,ntmps212
 go_wp2_with fail;refine (Ae M).mono ?_;rintro e w1 ⟨rfl,rfl⟩;go_wp2;go_ret;exact ⟨rfl,rfl⟩
section
variable {P:Program} {ops:Array Oper} {Q:Exit->Act->World->Prop}
theorem Ii {i:Nat} {o:Oper} {K:Act->World->Prop} {a:Act} {w:World} (ho:ops[i]?=some o) (hg:o.guard=none) (h:o.wp P a w K Q):wpOp P ops Q i K a w:=by
 have hw:Region.wanted o (yielded ops a.tmps)=true:=by simp [Region.wanted,hg]
 unfold wpOp;rw [ho];simp only [hw,if_true];exact Or.inl h
def Mx (ops:Array Oper):Bool:=(List.range ops.size).all fun i=>((ops[i]?).map (·.after.all fun e=>!Region.binds .any e || decide (e.on<i))).getD true
theorem Zy (hb:Mx ops=true) {l:Array Bool} (hs:l.size=ops.size) (h:Region.ready .any ops l=[]):∀ i,i<ops.size->l[i]?=some true:=by
 intro i
 induction i using Nat.strongRecOn with
 | ind i ih =>
  intro hi
  rcases hb':l[i]? with _ | b
  .rw [Array.getElem?_eq_none_iff] at hb'; omega
  .cases b with
   | true=>rfl
   | false =>
    exfalso
    have hm:i∈Region.ready .any ops l:=by
     unfold Region.ready;rw [List.mem_filter];refine ⟨List.mem_range.2 hi,?_⟩;have ho:ops[i]?=some ops[i]:=Array.getElem?_eq_getElem hi
     have hd:l.getD i true=false:=by rw [Array.getD_eq_getD_getElem?,hb']; rfl
     rw [hd,ho];simp only [Bool.not_false,Bool.true_and,Option.map_some,Option.getD_some];rw [Array.all_eq_true_iff_forall_mem];intro e he;have h1:=List.all_eq_true.1 hb i (List.mem_range.2 hi);rw [ho] at h1;simp only [Option.map_some,Option.getD_some] at h1;have h2:=(Array.all_eq_true_iff_forall_mem.1 h1) e he
     cases hbe:Region.binds .any e with
     | false=>rfl
     | true =>
      rw [hbe] at h2;simp only [Bool.not_true,Bool.false_or,decide_eq_true_eq] at h2;have:=ih e.on h2 (by omega);rw [Array.getD_eq_getD_getElem?,this]
      rfl
    rw [h] at hm;exact absurd hm (by simp)
theorem Zz (hb:Mx ops=true) (J:Array Bool->Act->World->Prop)
  (hs:∀ l a w i o K,l.size=ops.size->J l a w->ops[i]?=some o->l[i]?=some false->(o.after.all fun e=>!Region.binds .any e || l.getD e.on false)=true->(∀ a' w',J (l.setIfInBounds i true) a' w'->K a' w')->wpOp P ops Q i K a w)
  (he:∀ l a w,(∀ i,i<ops.size->l[i]?=some true)->J l a w->Q .normal a w) :
  ∀ (fuel:Nat) (l:Array Bool) (a:Act) (w:World),l.size=ops.size->(l.toList.filter (!·)).length<=fuel->J l a w->wpAny P .any ops Q fuel l a w:=by
 intro fuel
 induction fuel with
 | zero =>
  intro l a w hl hc hj
  have hall:∀ i,i<ops.size->l[i]?=some true:=by
   intro i hi
   rcases hb':l[i]? with _ | b
   .rw [Array.getElem?_eq_none_iff] at hb'; omega
   .cases b with
    | true=>rfl
    | false =>
     have hm:false∈l.toList.filter (!·):=List.mem_filter.2 ⟨by rw [Array.mem_toList_iff]; exact Array.mem_of_getElem? hb',rfl⟩;have:=List.length_pos_of_mem hm
     omega
  refine ⟨?_,he l a w hall hj⟩;unfold Region.ready;rw [List.filter_eq_nil_iff];intro i hi;have:=hall i (List.mem_range.1 hi);rw [Array.getD_eq_getD_getElem?,this]
  simp
 | succ fuel ih =>
  intro l a w hl hc hj;refine ⟨fun hr=>he l a w (Zy hb hl hr) hj,fun i hi=>?_⟩;unfold Region.ready at hi;rw [List.mem_filter] at hi;obtain ⟨hi1,hi2⟩:=hi;have hlt:=List.mem_range.1 hi1;have ho:ops[i]?=some ops[i]:=Array.getElem?_eq_getElem hlt;rw [ho] at hi2;simp only [Option.map_some,Option.getD_some,Bool.and_eq_true,Bool.not_eq_true'] at hi2;obtain ⟨hf,ha⟩:=hi2
  have hfl:l[i]?=some false:=by
   rcases hb':l[i]? with _ | b
   .rw [Array.getElem?_eq_none_iff] at hb'; omega
   .rw [Array.getD_eq_getD_getElem?,hb'] at hf; simp at hf; rw [hf]
  refine hs l a w i ops[i] _ hl hj ho hfl ha (fun a' w' hj'=>ih _ a' w' (by simp [hl]) ?_ hj')
  have key:∀ (xs:List Bool) (k:Nat),xs[k]?=some false->((xs.set k true).filter (!·)).length+1=(xs.filter (!·)).length:=by
   intro xs
   induction xs with
   | nil=>intro k hk; simp at hk
   | cons x xs ihx =>
    intro k hk
    cases k with
    | zero=>simp at hk; subst hk; simp
    | succ k =>
     have:=ihx k (by simpa using hk)
     cases x <;> simp <;> simp at this <;> omega
  have hk:=key l.toList i (by rw [Array.getElem?_toList]; exact hfl);rw [Array.toList_setIfInBounds]
  omega
theorem E6 {id:Nat} {a:Act} {w:World} (hm:P.follows .mixedOrders=true) (hb:Mx ops=true) (J:Act->Array Bool->Act->World->Prop)
  (h0:J a (Array.replicate ops.size false) a { w with drawn:=w.drawn+1 })
  (hs:∀ l a' w' i o K,l.size=ops.size->J a l a' w'->ops[i]?=some o->l[i]?=some false->(o.after.all fun e=>!Region.binds .any e || l.getD e.on false)=true->(∀ a'' w'',J a (l.setIfInBounds i true) a'' w''->K a'' w'')->wpOp P ops Q i K a' w')
  (he:∀ l a' w',(∀ i,i<ops.size->l[i]?=some true)->J a l a' w'->Q .normal a' w'):(Code.region id ops true).wp P Q a w :=
 wp_region_any hm (Zz hb (J a) hs he ops.size _ a _ (by simp) (by simp) h0)
end
theorem Eq {a:Act} {d t:Nat} {v:Value} (h:d≠t):(a.put (some d) v).tmps[t]?.getD undef=a.tmps[t]?.getD undef:=by
 simp [Act.put,h]
theorem Fa {a:Act} {d:Nat} {v:Value} (h:d<a.tmps.size):(a.put (some d) v).tmps[d]?.getD undef=v:=by
 simp [Act.put,h]
theorem size_put {a:Act} {d:Option Nat} {v:Value}:(a.put d v).tmps.size=a.tmps.size:=by cases d <;> simp [Act.put]
theorem Nu {a:Act} {d:Option Nat} {v:Value}:(a.put d v).defers=a.defers:=by cases d <;> rfl
structure Fr (ts:List Nat) (a0 a:Act):Prop where
 defers:a.defers=a0.defers
 size:a.tmps.size=a0.tmps.size
 keep:∀ t,t ∉ ts->a.tmps[t]?.getD undef=a0.tmps[t]?.getD undef
theorem Fr.put {ts:List Nat} {a0 a:Act} (h:Fr ts a0 a) {d:Nat} (hd:d∈ts) (v:Value):Fr ts a0 (a.put (some d) v) :=
 ⟨Nu.trans h.defers,size_put.trans h.size,fun t ht=>(Eq (fun e=>ht (by subst e; exact hd))).trans (h.keep t ht)⟩
theorem Fr.get {ts:List Nat} {a0 a:Act} (h:Fr ts a0 a) {t:Nat} {v:Value} (ht:t ∉ ts) (hv:a0.tmps[t]?.getD undef=v):a.tmps[t]?.getD undef=v:=(h.keep t ht).trans hv
theorem Fr.same {ts:List Nat} {a0 a:Act} (h:Fr ts a0 a):a=ts.foldl (fun b t=>b.put (some t) (a.tmps[t]?.getD undef)) a0:=by
 have key:∀ (xs:List Nat) (b:Act),(xs.foldl (fun b t=>b.put (some t) (a.tmps[t]?.getD undef)) b).defers=b.defers/\(xs.foldl (fun b t=>b.put (some t) (a.tmps[t]?.getD undef)) b).tmps.size=b.tmps.size /\
   (b.tmps.size=a.tmps.size->∀ t,(t∈xs\/b.tmps[t]?.getD undef=a.tmps[t]?.getD undef)->(xs.foldl (fun b t=>b.put (some t) (a.tmps[t]?.getD undef)) b).tmps[t]?.getD undef=a.tmps[t]?.getD undef):=by
  intro xs
  induction xs with
  | nil=>intro b; exact ⟨rfl,rfl,fun _ t ht=>ht.elim (fun h=>absurd h (by simp)) id⟩
  | cons x xs ih =>
   intro b;obtain ⟨i1,i2,i3⟩:=ih (b.put (some x) (a.tmps[x]?.getD undef));refine ⟨i1.trans Nu,i2.trans size_put,fun hs t ht=>i3 (size_put.trans hs) t ?_⟩
   by_cases e:x=t
   .subst e
    by_cases hx:x<b.tmps.size
    .exact Or.inr (Fa hx)
    .right
     simp [Act.put,hx]
     rw [Array.getElem?_eq_none (by omega)]
     rfl
   .rcases ht with ht | ht
    .rcases List.mem_cons.1 ht with h' | h'
     .exact absurd h'.symm e
     .exact Or.inl h'
    .exact Or.inr ((Eq e).trans ht)
 obtain ⟨k1,k2,k3⟩:=key ts a0
 rcases a with ⟨tm,df⟩
 generalize hF:ts.foldl (fun b t=>b.put (some t) ((Act.mk tm df).tmps[t]?.getD undef)) a0=F at *
 rcases F with ⟨tm',df'⟩
 have e1:df=df':=h.defers.trans k1.symm
 have e2:tm=tm':=by
  apply Array.ext
  .exact h.size.trans k2.symm
  .intro i h1 h2
   have:=k3 h.size.symm i (by
    by_cases hm:i∈ts
    .exact Or.inl hm
    .exact Or.inr (h.keep i hm).symm)
   simp [h1,h2] at this
   exact this.symm
 rw [e1,e2]
open Go.RowKit
def N4 (ops:Array Oper):Bool:=ops.all fun o=>o.guard.isNone
def A0 (o:Oper) (j:Nat):Bool:=o.after.any fun e=>Region.binds .any e && e.on==j
theorem Hn {ops:Array Oper} {i k:Nat} {p:Prop} (h:(k==i || (match ops[k]? with | some x=>A0 x i | none=>true))=true:=by kernel_rfl) (o:Nat):¬ ∃ j oj,j≠i/\ops[j]?=some oj/\A0 oj i=false/\(j=k/\p):=by
  rintro ⟨j,oj,hj,hoj,hw,rfl,-⟩;rw [hoj] at h
  simp [hj,hw] at h
section
variable {P:Program} {ops:Array Oper} {Q:Exit->Act->World->Prop}
theorem Cw {o:Oper} {l:Array Bool} (ha:(o.after.all fun e=>!Region.binds .any e || l.getD e.on false)=true) {j:Nat} (hj:A0 o j=true):l[j]?=some true:=by
 unfold A0 at hj;rw [Array.any_eq_true'] at hj;obtain ⟨e,he,hb⟩:=hj;have h1:=(Array.all_eq_true_iff_forall_mem.1 ha) e he;simp only [Bool.and_eq_true,beq_iff_eq] at hb;rw [hb.1,hb.2] at h1;simp only [Bool.not_true,Bool.false_or] at h1;rw [Array.getD_eq_getD_getElem?] at h1
 rcases hb':l[j]? with _ | b
 .rw [hb'] at h1; simp at h1
 .rw [hb'] at h1; simp at h1; rw [h1]
def Bi (ds:List (Option Nat)) (a:Act) (i:Nat):Value:=match ds[i]? with
 | some (some d)=>a.tmps[d]?.getD undef
 | _=>undef
def Kw (ops:Array Oper) (ds:List (Option Nat)):Bool:=decide (ds.length=ops.size) && ((List.range ds.length).all fun i=>((ops[i]?).map fun o=>some o.dst==ds[i]?).getD false) && (List.range ds.length).all fun i=>(List.range ds.length).all fun j=>decide (i=j) || ds[i]? != ds[j]? || ds[i]?==some none
def slotsOf (ds:List (Option Nat)):List Nat:=ds.filterMap id
theorem N6 {id:Nat} {a:Act} {w:World} (ds:List (Option Nat)) (hm:P.follows .mixedOrders=true) (hb:Mx ops=true) (hg:N4 ops=true) (hd:Kw ops ds=true) (hsz:∀ d,d∈slotsOf ds->d<a.tmps.size)
  (R:Nat->Nat->Nat->Prop) (E:Nat->World->World->Prop) (hER:∀ j W W',E j W W'->Wrote (R j) W W') (φ:Nat->Value->World->Prop)
  (hstab:∀ i j o v W W',i≠j->ops[i]?=some o->A0 o j=false->E j W W'->φ i v W->φ i v W')
  (hstep:∀ i o a' W K,ops[i]?=some o->Fr (slotsOf ds) a a'->Wrote (fun b o'=>∃ j oj,j≠i/\ops[j]?=some oj/\A0 oj i=false/\R j b o') w W->(∀ j,A0 o j=true->φ j (Bi ds a' j) W)->(∀ v W',E i W W'->φ i (if o.dst=none then undef else v) W'->K (a'.put o.dst v) W')->o.wp P a' W K Q)
  (hend:∀ a' W,Fr (slotsOf ds) a a'->Wrote (fun b o=>∃ j,R j b o) w W->(∀ i,i<ops.size->φ i (Bi ds a' i) W)->Q .normal a' W):(Code.region id ops true).wp P Q a w:=by
 unfold Kw at hd;simp only [Bool.and_eq_true,decide_eq_true_eq] at hd;obtain ⟨⟨hlen,hd1⟩,hd2⟩:=hd
 have hgo:∀ (i:Nat) (o:Oper),ops[i]?=some o->o.guard=none:=fun i o ho=>by
  have h1:=(Array.all_eq_true_iff_forall_mem.1 hg) o (Array.mem_of_getElem? ho)
  simpa using h1
 have hlt:∀ (i:Nat) (o:Oper),ops[i]?=some o->i<ops.size:=fun i o ho=>by
  rcases Nat.lt_or_ge i ops.size with h | h
  .exact h
  .rw [Array.getElem?_eq_none h] at ho; cases ho
 have hdst:∀ (i:Nat) (o:Oper),ops[i]?=some o->ds[i]?=some o.dst:=fun i o ho=>by
  have h1:=List.all_eq_true.1 hd1 i (List.mem_range.2 (by rw [hlen]; exact hlt i o ho));rw [ho] at h1;simp only [Option.map_some,Option.getD_some,beq_iff_eq] at h1;exact h1.symm
 have hne:∀ i j d,i≠j->ds[i]?=some (some d)->ds[j]?≠some (some d):=fun i j d h hi hj=>by
  have li:i<ds.length:=by rcases Nat.lt_or_ge i ds.length with x | x; exact x; (rw [List.getElem?_eq_none x] at hi; cases hi)
  have lj:j<ds.length:=by rcases Nat.lt_or_ge j ds.length with x | x; exact x; (rw [List.getElem?_eq_none x] at hj; cases hj)
  have h1:=List.all_eq_true.1 (List.all_eq_true.1 hd2 i (List.mem_range.2 li)) j (List.mem_range.2 lj);rw [hi,hj] at h1
  simp at h1
  exact h h1
 refine E6 hm hb (fun _ l a' W=>Fr (slotsOf ds) a a'/\Wrote (fun b o=>∃ j,l[j]?=some true/\R j b o) w W/\(∀ (k:Nat) (o:Oper),l[k]?=some true->ops[k]?=some o->∀ j:Nat,A0 o j=true->l[j]?=some true)/\∀ i:Nat,l[i]?=some true->φ i (Bi ds a' i) W) ?_ ?_ ?_
 .have hno:∀ i:Nat,(Array.replicate ops.size false)[i]?≠some true:=fun i h=>by
   rcases Nat.lt_or_ge i ops.size with x | x
   .simp [x] at h
   .rw [Array.getElem?_eq_none (by simpa using x)] at h; cases h
  exact ⟨⟨rfl,rfl,fun _ _=>rfl⟩,⟨rfl,rfl,rfl,Nat.le_refl _,fun _ _ _=>rfl,fun _ _ _ _=>rfl,fun _ _ _=>rfl⟩,fun k _ h=>absurd h (hno k),fun i h=>absurd h (hno i)⟩
 .rintro l a' W i o K hl ⟨F,L,hcl,hφ⟩ ho hf ha hK
  have hi:=hlt i o ho;have hdi:=hdst i o ho
  have hdone:∀ j,l[j]?=some true->∀ b o,R j b o->∃ j oj,j≠i/\ops[j]?=some oj/\A0 oj i=false/\R j b o:=fun j h1 b o h2=>by
   have hjl:j<ops.size:=by
    rcases Nat.lt_or_ge j ops.size with x | x
    .exact x
    .rw [Array.getElem?_eq_none (by omega)] at h1; cases h1
   have hjo:ops[j]?=some ops[j]:=Array.getElem?_eq_getElem hjl;refine ⟨j,ops[j],(fun e=>by rw [e,hf] at h1; cases h1),hjo,?_,h2⟩;cases hw:A0 ops[j] i
   .rfl
   .have:=hcl j _ h1 hjo i hw
    rw [hf] at this; cases this
  refine Ii ho (hgo i o ho) (hstep i o a' W K ho F (L.mono (fun b o _ ⟨j,h1,h2⟩=>hdone j h1 b o h2)) (fun j hj=>hφ j (Cw ha hj)) (fun v W' hW hv=>hK _ _ ?_))
  have hset:(l.setIfInBounds i true)[i]?=some true:=by simp [hl,hi]
  refine ⟨?_,(L.mono (fun b o _ ⟨j,h1,h2⟩=>⟨j,by rw [Array.getElem?_setIfInBounds_ne (fun e=>by rw [<- e,hf] at h1; cases h1)]; exact h1,h2⟩)).trans ((hER _ _ _ hW).mono (fun b o _ h=>⟨i,hset,h⟩)),fun k o' hk hko j hj=>?_,fun k hk=>?_⟩
  .cases e:o.dst with
   | none=>exact F
   | some d =>
    rw [e] at hdi;exact F.put (List.mem_filterMap.2 ⟨some d,List.mem_of_getElem? hdi,rfl⟩) v
  .have h1:l[j]?=some true:=by
    by_cases e:k=i
    .subst e
     rw [ho] at hko;obtain rfl:=Option.some.inj hko;exact Cw ha hj
    .rw [Array.getElem?_setIfInBounds_ne (by omega)] at hk
     exact hcl k o' hk hko j hj
   by_cases e:j=i
   .rw [e]; exact hset
   .rw [Array.getElem?_setIfInBounds_ne (by omega)]; exact h1
  .by_cases e:k=i
   .subst e
    cases e:o.dst with
    | none =>
     rw [e] at hdi hv;unfold Bi;rw [hdi]
     simpa using hv
    | some d =>
     rw [e] at hdi hv;have hmem:d∈slotsOf ds:=List.mem_filterMap.2 ⟨some d,List.mem_of_getElem? hdi,rfl⟩
     have:Bi ds (a'.put (some d) v) k=v:=by
      unfold Bi;rw [hdi];exact Fa (by rw [F.size]; exact hsz d hmem)
     rw [this]
     simpa using hv
   .rw [Array.getElem?_setIfInBounds_ne (by omega)] at hk
    have hkl:k<ops.size:=by
     rcases Nat.lt_or_ge k ops.size with x | x
     .exact x
     .rw [Array.getElem?_eq_none (by omega)] at hk; cases hk
    have hko:ops[k]?=some ops[k]:=Array.getElem?_eq_getElem hkl
    have hnw:A0 ops[k] i=false:=by
     cases hw:A0 ops[k] i
     .rfl
     .have:=hcl k _ hk hko i hw
      rw [hf] at this; cases this
    have h1:=hstab k i _ _ W W' e hko hnw hW (hφ k hk)
    have:Bi ds (a'.put o.dst v) k=Bi ds a' k:=by
     cases e2:o.dst with
     | none=>rfl
     | some d =>
      rw [e2] at hdi;unfold Bi
      cases e3:ds[k]? with
      | none=>rfl
      | some x =>
       cases x with
       | none=>rfl
       | some d' =>
        have:d≠d':=fun x=>hne k i d' e e3 (by rw [hdi,x])
        exact Eq this
    rw [this];exact h1
 .rintro l a' W hall ⟨F,L,-,hφ⟩
  exact hend a' W F (L.mono (fun b o _ ⟨j,_,h2⟩=>⟨j,h2⟩)) (fun i hi=>hφ i (hall i hi))
theorem Bp {id:Nat} {a:Act} {w:World} (ds:List (Option Nat)) (hm:P.follows .mixedOrders=true) (hb:Mx ops=true) (hg:N4 ops=true) (hd:Kw ops ds=true) (hsz:∀ d,d∈slotsOf ds->d<a.tmps.size)
  (R:Nat->Nat->Nat->Prop) (φ:Nat->Value->World->Prop)
  (hstab:∀ i j o v W W',i≠j->ops[i]?=some o->A0 o j=false->Wrote (R j) W W'->φ i v W->φ i v W')
  (hstep:∀ i o a' W K,ops[i]?=some o->Fr (slotsOf ds) a a'->Wrote (fun b o'=>∃ j oj,j≠i/\ops[j]?=some oj/\A0 oj i=false/\R j b o') w W->(∀ j,A0 o j=true->φ j (Bi ds a' j) W)->(∀ v W',Wrote (R i) W W'->φ i (if o.dst=none then undef else v) W'->K (a'.put o.dst v) W')->o.wp P a' W K Q)
  (hend:∀ a' W,Fr (slotsOf ds) a a'->Wrote (fun b o=>∃ j,R j b o) w W->(∀ i,i<ops.size->φ i (Bi ds a' i) W)->Q .normal a' W):(Code.region id ops true).wp P Q a w :=
 N6 ds hm hb hg hd hsz R (fun j=>Wrote (R j)) (fun _ _ _ h=>h) φ hstab hstep hend
end
structure Ao (w:World) (lo:Nat) (v:Value) (n:Nat) (f:Nat→Int):Prop where
 ex:∃ a cap,v=.slice a n cap∧n≤1048576∧Cg .i64 w a n f∧Mb w (Cz a n)∧∀ b o,Cz a n b o→lo≤b
theorem Hm {m:Nat} {ln:Nat→Nat} {f:Nat→Nat→Int} (h:Fp m ln f=true):(∀ i,i<m→D9 (ln i) (f i)=true)∧1≤m∧m≤8:=of_decide_eq_true h
def rowVals (n:Nat) (g:Nat→Int):List Value:=(List.range n).map (fun i=>.int .i64 (g i))
theorem A6 (n:Nat) (g:Nat→Int):(rowVals n g).length=n:=by simp [rowVals]
theorem Bj (n:Nat) (g:Nat→Int) (j:Nat) (h:j<n):(rowVals n g)[j]?=some (.int .i64 (g j)):=by simp [rowVals,h]
theorem Gq (n:Nat) (g:Nat→Int):∀ u∈rowVals n g,u.oneCell'=true:=fun u hu=>by
 simp only [rowVals,List.mem_map] at hu;obtain ⟨i,_,rfl⟩:=hu
 rfl
theorem Ig (b off j:Nat):(⟨b,off,none⟩:Addr).add j=⟨b,off+j,none⟩:=by
 unfold Addr.add;split
 ·rename_i h
  subst h
  rfl
 ·rfl
theorem Dd {w:World} {b off n:Nat} {g:Nat→Int} (h:Cg .i64 w (some ⟨b,off,none⟩) n g):∀ j u,(rowVals n g)[j]?=some u→w.cell? ((⟨b,off,none⟩:Addr).add j)=some u:=fun j u hu=>by
 have hj:j<n:=by
  have:=List.getElem?_eq_some_iff.1 hu;obtain ⟨hl,_⟩:=this;rw [A6] at hl;exact hl
 rw [Bj n g j hj] at hu;obtain ⟨b',off',e,hc⟩:=h j hj;simp only [Option.some.injEq,Addr.mk.injEq,and_true] at e hu;obtain ⟨rfl,rfl⟩:=e;rw [Ig,hc,hu]
theorem Rc {w:World} {base lo n cap g:Nat} {f:Nat→Int} (h:w.ownsRow base 3 1 (.slice (some ⟨g,0,none⟩) n cap) n (rowVals n f)) (hg:lo≤g) (hlt:g<w.heap.size) (hn:n≤1048576):Ao w lo (.slice (some ⟨g,0,none⟩) n cap) n f :=
 ⟨_,cap,rfl,hn,fun i hi=>⟨g,0,rfl,by rw [Nat.zero_add,h.cellAt i (by omega),Bj n f i hi]⟩,fun b o hF=>by
  obtain ⟨off,e,_⟩:=hF;simp only [Option.some.injEq,Addr.mk.injEq,and_true] at e;obtain ⟨rfl,rfl⟩:=e
  exact ⟨hlt,h.frozenAt o⟩,fun b o hF=>by
  obtain ⟨off,e,_⟩:=hF;simp only [Option.some.injEq,Addr.mk.injEq,and_true] at e
  omega⟩
theorem A4 (a:Option Addr) (b o:Nat):¬ Cz a 0 b o:=fun ⟨_,_,_,_⟩=>by omega
end Go.Proofs.YtijljlnooibbmaaGreatDoor
