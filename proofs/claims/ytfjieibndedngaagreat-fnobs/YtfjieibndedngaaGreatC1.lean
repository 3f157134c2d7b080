import Derived.Test.YtfjieibndedngaaGreatH
import Derived.Orders
namespace Go.Proofs.YtfjieibndedngaaGreat
open Go.ChangeShapes Go.WideShapes Go.ChangeAt Go.RowKit
theorem Ba (x:Int) (w:World):Calls Tryz.prog 70 #[.i x] w fun e w'=>e=.returned (.i (x%256))∧w'=w:=by
 go_enter Tryz.func70,Tryz.ntmps70
 go_wp2;go_ret;exact ⟨Bs (I5 x),rfl⟩
theorem B8 (x:Int) (w:World):Calls Tryz.prog 88 #[.i x] w fun e w'=>e=.returned (.i (x%65536))∧w'=w:=by
 go_enter Tryz.func88,Tryz.ntmps88
 go_wp2;go_ret;exact ⟨Bs (Lz x),rfl⟩
theorem Nh (b:Bool) (w:World):Calls Tryz.prog 104 #[.bool b] w fun e w'=>e=.returned (.i (Bc b))∧w'=w:=by
 cases b <;> (go_enter Tryz.func104,Tryz.ntmps104; go_wp2; go_ret; exact ⟨rfl,rfl⟩)
theorem Se (a b:Int) (c:Bool) (w:World):Calls Tryz.prog 112 #[.i a,.i b,.bool c] w fun e w'=>e=.returned (.tuple #[.i ((a%256+b%256+Bc c)%256),.bool (decide (255<a%256+b%256+Bc c))])∧w'=w:=by
 have hc:0≤Bc c∧Bc c≤1:=by cases c <;> simp [Bc]
 go_enter Tryz.func112,Tryz.ntmps112
 go_wp2_with (first | (go_at_call 70; refine (Ba _ _).mono ?_; rintro e w' ⟨rfl,rfl⟩) | (go_at_call 104; refine (Nh _ _).mono ?_; rintro e w' ⟨rfl,rfl⟩));go_ret2;exact ⟨I6 rfl rfl,rfl⟩
theorem Sf (a b:Int) (c:Bool) (w:World):Calls Tryz.prog 107 #[.i a,.i b,.bool c] w fun e w'=>e=.returned (.tuple #[.i ((a%256-b%256-1+Bc c)%256),.bool (decide (0≤a%256-b%256-1+Bc c))])∧w'=w:=by
 have hc:0≤Bc c∧Bc c≤1:=by cases c <;> simp [Bc]
 go_enter Tryz.func107,Tryz.ntmps107
 go_wp2_with (first | (go_at_call 70; refine (Ba _ _).mono ?_; rintro e w' ⟨rfl,rfl⟩) | (go_at_call 104; refine (Nh _ _).mono ?_; rintro e w' ⟨rfl,rfl⟩));go_ret2;exact ⟨I6 rfl rfl,rfl⟩
theorem Ic (x:Int) (w:World):Calls Tryz.prog 108 #[.i x] w fun e w'=>e=.returned (.tuple #[.bool (x%256==0),.bool (decide (127<x%256))])∧w'=w:=by
 go_enter Tryz.func108,Tryz.ntmps108
 go_wp2_with (first | (go_at_call 70; refine (Ba _ _).mono ?_; rintro e w' ⟨rfl,rfl⟩));go_ret2;exact ⟨I6 rfl rfl,rfl⟩
theorem Hh (a b:Int) (w:World):Calls Tryz.prog 67 #[.i a,.i b] w fun e w'=>e=.returned (.i (a%256+256*(b%256)))∧w'=w:=by
 go_enter Tryz.func67,Tryz.ntmps67
 go_wp2_with (first | (go_at_call 70; refine (Ba _ _).mono ?_; rintro e w' ⟨rfl,rfl⟩));go_ret;exact ⟨Bs rfl,rfl⟩
set_option linter.unusedVariables false
section
variable {P:Program} {ops:Array Oper} {Q:Exit→Act→World→Prop}
theorem E4 {i:Nat} {o:Oper} {K:Act→World→Prop} {a:Act} {w:World} (ho:ops[i]?=some o) (hg:o.guard=none) (h:o.wp P a w K Q):wpOp P ops Q i K a w:=by
 have hw:Region.wanted o (yielded ops a.tmps)=true:=by simp [Region.wanted,hg]
 unfold wpOp;rw [ho];simp only [hw,if_true];exact Or.inl h
def Je (ops:Array Oper):Bool:=(List.range ops.size).all fun i=>((ops[i]?).map (·.after.all fun e=>!Region.binds .any e || decide (e.on<i))).getD true
theorem Rj (hb:Je ops=true) {l:Array Bool} (hs:l.size=ops.size) (h:Region.ready .any ops l=[]):∀ i,i<ops.size→l[i]?=some true:=by
 intro i
 induction i using Nat.strongRecOn with
 | ind i ih =>
  intro hi
  rcases hb':l[i]? with _ | b
  ·rw [Array.getElem?_eq_none_iff] at hb'; omega
  ·cases b with
   | true=>rfl
   | false =>
    exfalso
    have hm:i∈Region.ready .any ops l:=by
     unfold Region.ready;rw [List.mem_filter];refine ⟨List.mem_range.2 hi,?_⟩;have ho:ops[i]?=some ops[i]:=Array.getElem?_eq_getElem hi
     have hd:l.getD i true=false:=by rw [Array.getD_eq_getD_getElem?,hb']; rfl
     rw [hd,ho];simp only [Bool.not_false,Bool.true_and,Option.map_some,Option.getD_some];rw [Array.all_eq_true_iff_forall_mem];intro e he;have h1:=List.all_eq_true.1 hb i (List.mem_range.2 hi);rw [ho] at h1;simp only [Option.map_some,Option.getD_some] at h1;have h2:=(Array.all_eq_true_iff_forall_mem.1 h1) e he
     cases hbe:Region.binds .any e with
     | false=>rfl
     | true =>
      rw [hbe] at h2;simp only [Bool.not_true,Bool.false_or,decide_eq_true_eq] at h2;have:=ih e.on h2 (by omega);rw [Array.getD_eq_getD_getElem?,this]
      rfl
    rw [h] at hm;exact absurd hm (by simp)
theorem Rk (hb:Je ops=true) (J:Array Bool→Act→World→Prop)
  (hs:∀ l a w i o K,l.size=ops.size→J l a w→ops[i]?=some o→l[i]?=some false→(o.after.all fun e=>!Region.binds .any e || l.getD e.on false)=true→(∀ a' w',J (l.setIfInBounds i true) a' w'→K a' w')→wpOp P ops Q i K a w)
  (he:∀ l a w,(∀ i,i<ops.size→l[i]?=some true)→J l a w→Q .normal a w) :
  ∀ (fuel:Nat) (l:Array Bool) (a:Act) (w:World),l.size=ops.size→(l.toList.filter (!·)).length≤fuel→J l a w→wpAny P .any ops Q fuel l a w:=by
 intro fuel
 induction fuel with
 | zero =>
  intro l a w hl hc hj
  have hall:∀ i,i<ops.size→l[i]?=some true:=by
   intro i hi
   rcases hb':l[i]? with _ | b
   ·rw [Array.getElem?_eq_none_iff] at hb'; omega
   ·cases b with
    | true=>rfl
    | false =>
     have hm:false∈l.toList.filter (!·):=List.mem_filter.2 ⟨by rw [Array.mem_toList_iff]; exact Array.mem_of_getElem? hb',rfl⟩;have:=List.length_pos_of_mem hm
     omega
  refine ⟨?_,he l a w hall hj⟩;unfold Region.ready;rw [List.filter_eq_nil_iff];intro i hi;have:=hall i (List.mem_range.1 hi);rw [Array.getD_eq_getD_getElem?,this]
  simp
 | succ fuel ih =>
  intro l a w hl hc hj;refine ⟨fun hr=>he l a w (Rj hb hl hr) hj,fun i hi=>?_⟩;unfold Region.ready at hi;rw [List.mem_filter] at hi;obtain ⟨hi1,hi2⟩:=hi;have hlt:=List.mem_range.1 hi1;have ho:ops[i]?=some ops[i]:=Array.getElem?_eq_getElem hlt;rw [ho] at hi2;simp only [Option.map_some,Option.getD_some,Bool.and_eq_true,Bool.not_eq_true'] at hi2;obtain ⟨hf,ha⟩:=hi2
  have hfl:l[i]?=some false:=by
   rcases hb':l[i]? with _ | b
   ·rw [Array.getElem?_eq_none_iff] at hb'; omega
   ·rw [Array.getD_eq_getD_getElem?,hb'] at hf; simp at hf; rw [hf]
  refine hs l a w i ops[i] _ hl hj ho hfl ha (fun a' w' hj'=>ih _ a' w' (by simp [hl]) ?_ hj')
  have key:∀ (xs:List Bool) (k:Nat),xs[k]?=some false→((xs.set k true).filter (!·)).length+1=(xs.filter (!·)).length:=by
   intro xs
   induction xs with
   | nil=>intro k hk; simp at hk
   | cons x xs ihx =>
    intro k hk
    cases k with
    | zero=>simp at hk; subst hk; simp
    | succ k =>
     have:=ihx k (by simpa using hk)
     cases x <;> simp <;> simp at this <;> omega
  have hk:=key l.toList i (by rw [Array.getElem?_toList]; exact hfl);rw [Array.toList_setIfInBounds]
  omega
theorem Fe {id:Nat} {a:Act} {w:World} (hm:P.follows .mixedOrders=true) (hb:Je ops=true) (J:Act→Array Bool→Act→World→Prop)
  (h0:J a (Array.replicate ops.size false) a { w with drawn:=w.drawn+1 })
  (hs:∀ l a' w' i o K,l.size=ops.size→J a l a' w'→ops[i]?=some o→l[i]?=some false→(o.after.all fun e=>!Region.binds .any e || l.getD e.on false)=true→(∀ a'' w'',J a (l.setIfInBounds i true) a'' w''→K a'' w'')→wpOp P ops Q i K a' w')
  (he:∀ l a' w',(∀ i,i<ops.size→l[i]?=some true)→J a l a' w'→Q .normal a' w'):(Code.region id ops true).wp P Q a w :=
 wp_region_any hm (Rk hb (J a) hs he ops.size _ a _ (by simp) (by simp) h0)
end
theorem Dz {a:Act} {d t:Nat} {v:Value} (h:d≠t):(a.put (some d) v).tmps[t]?.getD undef=a.tmps[t]?.getD undef:=by
 simp [Act.put,h]
theorem E5 {a:Act} {d:Nat} {v:Value} (h:d<a.tmps.size):(a.put (some d) v).tmps[d]?.getD undef=v:=by
 simp [Act.put,h]
theorem size_put {a:Act} {d:Option Nat} {v:Value}:(a.put d v).tmps.size=a.tmps.size:=by cases d <;> simp [Act.put]
theorem Jf {a:Act} {d:Option Nat} {v:Value}:(a.put d v).defers=a.defers:=by cases d <;> rfl
structure Fr (ts:List Nat) (a0 a:Act):Prop where
 defers:a.defers=a0.defers
 size:a.tmps.size=a0.tmps.size
 keep:∀ t,t ∉ ts→a.tmps[t]?.getD undef=a0.tmps[t]?.getD undef
theorem Fr.put {ts:List Nat} {a0 a:Act} (h:Fr ts a0 a) {d:Nat} (hd:d∈ts) (v:Value):Fr ts a0 (a.put (some d) v) :=
 ⟨Jf.trans h.defers,size_put.trans h.size,fun t ht=>(Dz (fun e=>ht (by subst e; exact hd))).trans (h.keep t ht)⟩
theorem Fr.get {ts:List Nat} {a0 a:Act} (h:Fr ts a0 a) {t:Nat} {v:Value} (ht:t ∉ ts) (hv:a0.tmps[t]?.getD undef=v):a.tmps[t]?.getD undef=v:=(h.keep t ht).trans hv
theorem Fr.same {ts:List Nat} {a0 a:Act} (h:Fr ts a0 a):a=ts.foldl (fun b t=>b.put (some t) (a.tmps[t]?.getD undef)) a0:=by
 have key:∀ (xs:List Nat) (b:Act),(xs.foldl (fun b t=>b.put (some t) (a.tmps[t]?.getD undef)) b).defers=b.defers∧(xs.foldl (fun b t=>b.put (some t) (a.tmps[t]?.getD undef)) b).tmps.size=b.tmps.size ∧
   (b.tmps.size=a.tmps.size→∀ t,(t∈xs∨b.tmps[t]?.getD undef=a.tmps[t]?.getD undef)→(xs.foldl (fun b t=>b.put (some t) (a.tmps[t]?.getD undef)) b).tmps[t]?.getD undef=a.tmps[t]?.getD undef):=by
  intro xs
  induction xs with
  | nil=>intro b; exact ⟨rfl,rfl,fun _ t ht=>ht.elim (fun h=>absurd h (by simp)) id⟩
  | cons x xs ih =>
   intro b;obtain ⟨i1,i2,i3⟩:=ih (b.put (some x) (a.tmps[x]?.getD undef));refine ⟨i1.trans Jf,i2.trans size_put,fun hs t ht=>i3 (size_put.trans hs) t ?_⟩
   by_cases e:x=t
   ·subst e
    by_cases hx:x<b.tmps.size
    ·exact Or.inr (E5 hx)
    ·right
     simp [Act.put,hx]
     rw [Array.getElem?_eq_none (by omega)]
     rfl
   ·rcases ht with ht | ht
    ·rcases List.mem_cons.1 ht with h' | h'
     ·exact absurd h'.symm e
     ·exact Or.inl h'
    ·exact Or.inr ((Dz e).trans ht)
 obtain ⟨k1,k2,k3⟩:=key ts a0
 rcases a with ⟨tm,df⟩
 generalize hF:ts.foldl (fun b t=>b.put (some t) ((Act.mk tm df).tmps[t]?.getD undef)) a0=F at *
 rcases F with ⟨tm',df'⟩
 have e1:df=df':=h.defers.trans k1.symm
 have e2:tm=tm':=by
  apply Array.ext
  ·exact h.size.trans k2.symm
  ·intro i h1 h2
   have:=k3 h.size.symm i (by
    by_cases hm:i∈ts
    ·exact Or.inl hm
    ·exact Or.inr (h.keep i hm).symm)
   simp [h1,h2] at this
   exact this.symm
 rw [e1,e2]
open Go.RowKit
def Mk (ops:Array Oper):Bool:=ops.all fun o=>o.guard.isNone
def A2 (o:Oper) (j:Nat):Bool:=o.after.any fun e=>Region.binds .any e && e.on==j
section
variable {P:Program} {ops:Array Oper} {Q:Exit→Act→World→Prop}
theorem Cs {o:Oper} {l:Array Bool} (ha:(o.after.all fun e=>!Region.binds .any e || l.getD e.on false)=true) {j:Nat} (hj:A2 o j=true):l[j]?=some true:=by
 unfold A2 at hj;rw [Array.any_eq_true'] at hj;obtain ⟨e,he,hb⟩:=hj;have h1:=(Array.all_eq_true_iff_forall_mem.1 ha) e he;simp only [Bool.and_eq_true,beq_iff_eq] at hb;rw [hb.1,hb.2] at h1;simp only [Bool.not_true,Bool.false_or] at h1;rw [Array.getD_eq_getD_getElem?] at h1
 rcases hb':l[j]? with _ | b
 ·rw [hb'] at h1; simp at h1
 ·rw [hb'] at h1; simp at h1; rw [h1]
def Bo (ds:List (Option Nat)) (a:Act) (i:Nat):Value:=match ds[i]? with
 | some (some d)=>a.tmps[d]?.getD undef
 | _=>undef
def Jm (ops:Array Oper) (ds:List (Option Nat)):Bool:=decide (ds.length=ops.size) && ((List.range ds.length).all fun i=>((ops[i]?).map fun o=>some o.dst==ds[i]?).getD false) && (List.range ds.length).all fun i=>(List.range ds.length).all fun j=>decide (i=j) || ds[i]? != ds[j]? || ds[i]?==some none
def slotsOf (ds:List (Option Nat)):List Nat:=ds.filterMap id
theorem Jn {id:Nat} {a:Act} {w:World} (ds:List (Option Nat)) (hm:P.follows .mixedOrders=true) (hb:Je ops=true) (hg:Mk ops=true) (hd:Jm ops ds=true) (hsz:∀ d,d∈slotsOf ds→d<a.tmps.size)
  (R:Nat→Nat→Nat→Prop) (E:Nat→World→World→Prop) (hER:∀ j W W',E j W W'→Wrote (R j) W W') (φ:Nat→Value→World→Prop)
  (hstab:∀ i j o v W W',i≠j→ops[i]?=some o→A2 o j=false→E j W W'→φ i v W→φ i v W')
  (hstep:∀ i o a' W K,ops[i]?=some o→Fr (slotsOf ds) a a'→Wrote (fun b o'=>∃ j oj,j≠i∧ops[j]?=some oj∧A2 oj i=false∧R j b o') w W→(∀ j,A2 o j=true→φ j (Bo ds a' j) W)→(∀ v W',E i W W'→φ i (if o.dst=none then undef else v) W'→K (a'.put o.dst v) W')→o.wp P a' W K Q)
  (hend:∀ a' W,Fr (slotsOf ds) a a'→Wrote (fun b o=>∃ j,R j b o) w W→(∀ i,i<ops.size→φ i (Bo ds a' i) W)→Q .normal a' W):(Code.region id ops true).wp P Q a w:=by
 unfold Jm at hd;simp only [Bool.and_eq_true,decide_eq_true_eq] at hd;obtain ⟨⟨hlen,hd1⟩,hd2⟩:=hd
 have hgo:∀ (i:Nat) (o:Oper),ops[i]?=some o→o.guard=none:=fun i o ho=>by
  have h1:=(Array.all_eq_true_iff_forall_mem.1 hg) o (Array.mem_of_getElem? ho)
  simpa using h1
 have hlt:∀ (i:Nat) (o:Oper),ops[i]?=some o→i<ops.size:=fun i o ho=>by
  rcases Nat.lt_or_ge i ops.size with h | h
  ·exact h
  ·rw [Array.getElem?_eq_none h] at ho; cases ho
 have hdst:∀ (i:Nat) (o:Oper),ops[i]?=some o→ds[i]?=some o.dst:=fun i o ho=>by
  have h1:=List.all_eq_true.1 hd1 i (List.mem_range.2 (by rw [hlen]; exact hlt i o ho));rw [ho] at h1;simp only [Option.map_some,Option.getD_some,beq_iff_eq] at h1;exact h1.symm
 have hne:∀ i j d,i≠j→ds[i]?=some (some d)→ds[j]?≠some (some d):=fun i j d h hi hj=>by
  have li:i<ds.length:=by rcases Nat.lt_or_ge i ds.length with x | x; exact x; (rw [List.getElem?_eq_none x] at hi; cases hi)
  have lj:j<ds.length:=by rcases Nat.lt_or_ge j ds.length with x | x; exact x; (rw [List.getElem?_eq_none x] at hj; cases hj)
  have h1:=List.all_eq_true.1 (List.all_eq_true.1 hd2 i (List.mem_range.2 li)) j (List.mem_range.2 lj);rw [hi,hj] at h1
  simp at h1
  exact h h1
 refine Fe hm hb (fun _ l a' W=>Fr (slotsOf ds) a a'∧Wrote (fun b o=>∃ j,l[j]?=some true∧R j b o) w W∧(∀ (k:Nat) (o:Oper),l[k]?=some true→ops[k]?=some o→∀ j:Nat,A2 o j=true→l[j]?=some true)∧∀ i:Nat,l[i]?=some true→φ i (Bo ds a' i) W) ?_ ?_ ?_
 ·have hno:∀ i:Nat,(Array.replicate ops.size false)[i]?≠some true:=fun i h=>by
   rcases Nat.lt_or_ge i ops.size with x | x
   ·simp [x] at h
   ·rw [Array.getElem?_eq_none (by simpa using x)] at h; cases h
  exact ⟨⟨rfl,rfl,fun _ _=>rfl⟩,⟨rfl,rfl,rfl,Nat.le_refl _,fun _ _ _=>rfl,fun _ _ _ _=>rfl,fun _ _ _=>rfl⟩,fun k _ h=>absurd h (hno k),fun i h=>absurd h (hno i)⟩
 ·rintro l a' W i o K hl ⟨F,L,hcl,hφ⟩ ho hf ha hK
  have hi:=hlt i o ho;have hdi:=hdst i o ho
  have hdone:∀ j,l[j]?=some true→∀ b o,R j b o→∃ j oj,j≠i∧ops[j]?=some oj∧A2 oj i=false∧R j b o:=fun j h1 b o h2=>by
   have hjl:j<ops.size:=by
    rcases Nat.lt_or_ge j ops.size with x | x
    ·exact x
    ·rw [Array.getElem?_eq_none (by omega)] at h1; cases h1
   have hjo:ops[j]?=some ops[j]:=Array.getElem?_eq_getElem hjl;refine ⟨j,ops[j],(fun e=>by rw [e,hf] at h1; cases h1),hjo,?_,h2⟩;cases hw:A2 ops[j] i
   ·rfl
   ·have:=hcl j _ h1 hjo i hw
    rw [hf] at this; cases this
  refine E4 ho (hgo i o ho) (hstep i o a' W K ho F (L.mono (fun b o _ ⟨j,h1,h2⟩=>hdone j h1 b o h2)) (fun j hj=>hφ j (Cs ha hj)) (fun v W' hW hv=>hK _ _ ?_))
  have hset:(l.setIfInBounds i true)[i]?=some true:=by simp [hl,hi]
  refine ⟨?_,(L.mono (fun b o _ ⟨j,h1,h2⟩=>⟨j,by rw [Array.getElem?_setIfInBounds_ne (fun e=>by rw [← e,hf] at h1; cases h1)]; exact h1,h2⟩)).trans ((hER _ _ _ hW).mono (fun b o _ h=>⟨i,hset,h⟩)),fun k o' hk hko j hj=>?_,fun k hk=>?_⟩
  ·cases e:o.dst with
   | none=>exact F
   | some d =>
    rw [e] at hdi;exact F.put (List.mem_filterMap.2 ⟨some d,List.mem_of_getElem? hdi,rfl⟩) v
  ·have h1:l[j]?=some true:=by
    by_cases e:k=i
    ·subst e
     rw [ho] at hko;obtain rfl:=Option.some.inj hko;exact Cs ha hj
    ·rw [Array.getElem?_setIfInBounds_ne (by omega)] at hk
     exact hcl k o' hk hko j hj
   by_cases e:j=i
   ·rw [e]; exact hset
   ·rw [Array.getElem?_setIfInBounds_ne (by omega)]; exact h1
  ·by_cases e:k=i
   ·subst e
    cases e:o.dst with
    | none =>
     rw [e] at hdi hv;unfold Bo;rw [hdi]
     simpa using hv
    | some d =>
     rw [e] at hdi hv;have hmem:d∈slotsOf ds:=List.mem_filterMap.2 ⟨some d,List.mem_of_getElem? hdi,rfl⟩
     have:Bo ds (a'.put (some d) v) k=v:=by
      unfold Bo;rw [hdi];exact E5 (by rw [F.size]; exact hsz d hmem)
     rw [this]
     simpa using hv
   ·rw [Array.getElem?_setIfInBounds_ne (by omega)] at hk
    have hkl:k<ops.size:=by
     rcases Nat.lt_or_ge k ops.size with x | x
     ·exact x
     ·rw [Array.getElem?_eq_none (by omega)] at hk; cases hk
    have hko:ops[k]?=some ops[k]:=Array.getElem?_eq_getElem hkl
    have hnw:A2 ops[k] i=false:=by
     cases hw:A2 ops[k] i
     ·rfl
     ·have:=hcl k _ hk hko i hw
      rw [hf] at this; cases this
    have h1:=hstab k i _ _ W W' e hko hnw hW (hφ k hk)
    have:Bo ds (a'.put o.dst v) k=Bo ds a' k:=by
     cases e2:o.dst with
     | none=>rfl
     | some d =>
      rw [e2] at hdi;unfold Bo
      cases e3:ds[k]? with
      | none=>rfl
      | some x =>
       cases x with
       | none=>rfl
       | some d' =>
        have:d≠d':=fun x=>hne k i d' e e3 (by rw [hdi,x])
        exact Dz this
    rw [this];exact h1
 ·rintro l a' W hall ⟨F,L,-,hφ⟩
  exact hend a' W F (L.mono (fun b o _ ⟨j,_,h2⟩=>⟨j,h2⟩)) (fun i hi=>hφ i (hall i hi))
theorem B7 {id:Nat} {a:Act} {w:World} (ds:List (Option Nat)) (hm:P.follows .mixedOrders=true) (hb:Je ops=true) (hg:Mk ops=true) (hd:Jm ops ds=true) (hsz:∀ d,d∈slotsOf ds→d<a.tmps.size)
  (R:Nat→Nat→Nat→Prop) (φ:Nat→Value→World→Prop)
  (hstab:∀ i j o v W W',i≠j→ops[i]?=some o→A2 o j=false→Wrote (R j) W W'→φ i v W→φ i v W')
  (hstep:∀ i o a' W K,ops[i]?=some o→Fr (slotsOf ds) a a'→Wrote (fun b o'=>∃ j oj,j≠i∧ops[j]?=some oj∧A2 oj i=false∧R j b o') w W→(∀ j,A2 o j=true→φ j (Bo ds a' j) W)→(∀ v W',Wrote (R i) W W'→φ i (if o.dst=none then undef else v) W'→K (a'.put o.dst v) W')→o.wp P a' W K Q)
  (hend:∀ a' W,Fr (slotsOf ds) a a'→Wrote (fun b o=>∃ j,R j b o) w W→(∀ i,i<ops.size→φ i (Bo ds a' i) W)→Q .normal a' W):(Code.region id ops true).wp P Q a w :=
 Jn ds hm hb hg hd hsz R (fun j=>Wrote (R j)) (fun _ _ _ h=>h) φ hstab hstep hend
end
end Go.Proofs.YtfjieibndedngaaGreat
