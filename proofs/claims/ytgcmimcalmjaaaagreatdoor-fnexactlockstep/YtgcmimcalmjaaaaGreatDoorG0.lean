import Derived.Test.YtgcmimcalmjaaaaGreatDoorC6
import Derived.RangeFuncNested
import Derived.RangeFuncBound
import Derived.RangeFuncCalls
import Derived.RangeFuncLeaves
import Derived.Shelf.Abstract
import Derived.OwnWalkIn
import Derived.TacticsInMore
import Derived.LoopNIn
import Derived.LoopIn
namespace Go.Proofs.YtgcmimcalmjaaaaGreatDoor
set_option linter.unusedVariables false
open Go.RowKit
def Pu (ops:Array Oper):Bool:=ops.all fun o=>o.guard.isNone
def A0 (o:Oper) (j:Nat):Bool:=o.after.any fun e=>Region.binds .any e && e.on==j
section
variable {P:Program} {ops:Array Oper} {Q:Exit→Act→World→Prop}
theorem D9 {o:Oper} {l:Array Bool} (ha:(o.after.all fun e=>!Region.binds .any e || l.getD e.on false)=true) {j:Nat} (hj:A0 o j=true):l[j]?=some true:=by
 unfold A0 at hj;rw [Array.any_eq_true'] at hj;obtain ⟨e,he,hb⟩:=hj;have h1:=(Array.all_eq_true_iff_forall_mem.1 ha) e he;simp only [Bool.and_eq_true,beq_iff_eq] at hb;rw [hb.1,hb.2] at h1;simp only [Bool.not_true,Bool.false_or] at h1;rw [Array.getD_eq_getD_getElem?] at h1
 rcases hb':l[j]? with _ | b
 ·rw [hb'] at h1; simp at h1
 ·rw [hb'] at h1; simp at h1; rw [h1]
def Bl (ds:List (Option Nat)) (a:Act) (i:Nat):Value:=match ds[i]? with
 | some (some d)=>a.tmps[d]?.getD undef
 | _=>undef
def Lw (ops:Array Oper) (ds:List (Option Nat)):Bool:=decide (ds.length=ops.size) && ((List.range ds.length).all fun i=>((ops[i]?).map fun o=>some o.dst==ds[i]?).getD false) && (List.range ds.length).all fun i=>(List.range ds.length).all fun j=>decide (i=j) || ds[i]? != ds[j]? || ds[i]?==some none
def slotsOf (ds:List (Option Nat)):List Nat:=ds.filterMap id
theorem Ly {id:Nat} {a:Act} {w:World} (ds:List (Option Nat)) (hm:P.follows .mixedOrders=true) (hb:Lm ops=true) (hg:Pu ops=true) (hd:Lw ops ds=true) (hsz:∀ d,d∈slotsOf ds→d<a.tmps.size)
  (R:Nat→Nat→Nat→Prop) (E:Nat→World→World→Prop) (hER:∀ j W W',E j W W'→Wrote (R j) W W') (φ:Nat→Value→World→Prop)
  (hstab:∀ i j o v W W',i≠j→ops[i]?=some o→A0 o j=false→E j W W'→φ i v W→φ i v W')
  (hstep:∀ i o a' W K,ops[i]?=some o→Fr (slotsOf ds) a a'→Wrote (fun b o'=>∃ j oj,j≠i∧ops[j]?=some oj∧A0 oj i=false∧R j b o') w W→(∀ j,A0 o j=true→φ j (Bl ds a' j) W)→(∀ v W',E i W W'→φ i (if o.dst=none then undef else v) W'→K (a'.put o.dst v) W')→o.wp P a' W K Q)
  (hend:∀ a' W,Fr (slotsOf ds) a a'→Wrote (fun b o=>∃ j,R j b o) w W→(∀ i,i<ops.size→φ i (Bl ds a' i) W)→Q .normal a' W):(Code.region id ops true).wp P Q a w:=by
 unfold Lw at hd;simp only [Bool.and_eq_true,decide_eq_true_eq] at hd;obtain ⟨⟨hlen,hd1⟩,hd2⟩:=hd
 have hgo:∀ (i:Nat) (o:Oper),ops[i]?=some o→o.guard=none:=fun i o ho=>by
  have h1:=(Array.all_eq_true_iff_forall_mem.1 hg) o (Array.mem_of_getElem? ho)
  simpa using h1
 have hlt:∀ (i:Nat) (o:Oper),ops[i]?=some o→i<ops.size:=fun i o ho=>by
  rcases Nat.lt_or_ge i ops.size with h | h
  ·exact h
  ·rw [Array.getElem?_eq_none h] at ho; cases ho
 have hdst:∀ (i:Nat) (o:Oper),ops[i]?=some o→ds[i]?=some o.dst:=fun i o ho=>by
  have h1:=List.all_eq_true.1 hd1 i (List.mem_range.2 (by rw [hlen]; exact hlt i o ho));rw [ho] at h1;simp only [Option.map_some,Option.getD_some,beq_iff_eq] at h1;exact h1.symm
 have hne:∀ i j d,i≠j→ds[i]?=some (some d)→ds[j]?≠some (some d):=fun i j d h hi hj=>by
  have li:i<ds.length:=by rcases Nat.lt_or_ge i ds.length with x | x; exact x; (rw [List.getElem?_eq_none x] at hi; cases hi)
  have lj:j<ds.length:=by rcases Nat.lt_or_ge j ds.length with x | x; exact x; (rw [List.getElem?_eq_none x] at hj; cases hj)
  have h1:=List.all_eq_true.1 (List.all_eq_true.1 hd2 i (List.mem_range.2 li)) j (List.mem_range.2 lj);rw [hi,hj] at h1
  simp at h1
  exact h h1
 refine Gf hm hb (fun _ l a' W=>Fr (slotsOf ds) a a'∧Wrote (fun b o=>∃ j,l[j]?=some true∧R j b o) w W∧(∀ (k:Nat) (o:Oper),l[k]?=some true→ops[k]?=some o→∀ j:Nat,A0 o j=true→l[j]?=some true)∧∀ i:Nat,l[i]?=some true→φ i (Bl ds a' i) W) ?_ ?_ ?_
 ·have hno:∀ i:Nat,(Array.replicate ops.size false)[i]?≠some true:=fun i h=>by
   rcases Nat.lt_or_ge i ops.size with x | x
   ·simp [x] at h
   ·rw [Array.getElem?_eq_none (by simpa using x)] at h; cases h
  exact ⟨⟨rfl,rfl,fun _ _=>rfl⟩,⟨rfl,rfl,rfl,Nat.le_refl _,fun _ _ _=>rfl,fun _ _ _ _=>rfl,fun _ _ _=>rfl⟩,fun k _ h=>absurd h (hno k),fun i h=>absurd h (hno i)⟩
 ·rintro l a' W i o K hl ⟨F,L,hcl,hφ⟩ ho hf ha hK
  have hi:=hlt i o ho;have hdi:=hdst i o ho
  have hdone:∀ j,l[j]?=some true→∀ b o,R j b o→∃ j oj,j≠i∧ops[j]?=some oj∧A0 oj i=false∧R j b o:=fun j h1 b o h2=>by
   have hjl:j<ops.size:=by
    rcases Nat.lt_or_ge j ops.size with x | x
    ·exact x
    ·rw [Array.getElem?_eq_none (by omega)] at h1; cases h1
   have hjo:ops[j]?=some ops[j]:=Array.getElem?_eq_getElem hjl;refine ⟨j,ops[j],(fun e=>by rw [e,hf] at h1; cases h1),hjo,?_,h2⟩;cases hw:A0 ops[j] i
   ·rfl
   ·have:=hcl j _ h1 hjo i hw
    rw [hf] at this; cases this
  refine Ky ho (hgo i o ho) (hstep i o a' W K ho F (L.mono (fun b o _ ⟨j,h1,h2⟩=>hdone j h1 b o h2)) (fun j hj=>hφ j (D9 ha hj)) (fun v W' hW hv=>hK _ _ ?_))
  have hset:(l.setIfInBounds i true)[i]?=some true:=by simp [hl,hi]
  refine ⟨?_,(L.mono (fun b o _ ⟨j,h1,h2⟩=>⟨j,by rw [Array.getElem?_setIfInBounds_ne (fun e=>by rw [← e,hf] at h1; cases h1)]; exact h1,h2⟩)).trans ((hER _ _ _ hW).mono (fun b o _ h=>⟨i,hset,h⟩)),fun k o' hk hko j hj=>?_,fun k hk=>?_⟩
  ·cases e:o.dst with
   | none=>exact F
   | some d =>
    rw [e] at hdi;exact F.put (List.mem_filterMap.2 ⟨some d,List.mem_of_getElem? hdi,rfl⟩) v
  ·have h1:l[j]?=some true:=by
    by_cases e:k=i
    ·subst e
     rw [ho] at hko;obtain rfl:=Option.some.inj hko;exact D9 ha hj
    ·rw [Array.getElem?_setIfInBounds_ne (by omega)] at hk
     exact hcl k o' hk hko j hj
   by_cases e:j=i
   ·rw [e]; exact hset
   ·rw [Array.getElem?_setIfInBounds_ne (by omega)]; exact h1
  ·by_cases e:k=i
   ·subst e
    cases e:o.dst with
    | none =>
     rw [e] at hdi hv;unfold Bl;rw [hdi]
     simpa using hv
    | some d =>
     rw [e] at hdi hv;have hmem:d∈slotsOf ds:=List.mem_filterMap.2 ⟨some d,List.mem_of_getElem? hdi,rfl⟩
     have:Bl ds (a'.put (some d) v) k=v:=by
      unfold Bl;rw [hdi];exact Fz (by rw [F.size]; exact hsz d hmem)
     rw [this]
     simpa using hv
   ·rw [Array.getElem?_setIfInBounds_ne (by omega)] at hk
    have hkl:k<ops.size:=by
     rcases Nat.lt_or_ge k ops.size with x | x
     ·exact x
     ·rw [Array.getElem?_eq_none (by omega)] at hk; cases hk
    have hko:ops[k]?=some ops[k]:=Array.getElem?_eq_getElem hkl
    have hnw:A0 ops[k] i=false:=by
     cases hw:A0 ops[k] i
     ·rfl
     ·have:=hcl k _ hk hko i hw
      rw [hf] at this; cases this
    have h1:=hstab k i _ _ W W' e hko hnw hW (hφ k hk)
    have:Bl ds (a'.put o.dst v) k=Bl ds a' k:=by
     cases e2:o.dst with
     | none=>rfl
     | some d =>
      rw [e2] at hdi;unfold Bl
      cases e3:ds[k]? with
      | none=>rfl
      | some x =>
       cases x with
       | none=>rfl
       | some d' =>
        have:d≠d':=fun x=>hne k i d' e e3 (by rw [hdi,x])
        exact Es this
    rw [this];exact h1
 ·rintro l a' W hall ⟨F,L,-,hφ⟩
  exact hend a' W F (L.mono (fun b o _ ⟨j,_,h2⟩=>⟨j,h2⟩)) (fun i hi=>hφ i (hall i hi))
theorem A8 {id:Nat} {a:Act} {w:World} (ds:List (Option Nat)) (hm:P.follows .mixedOrders=true) (hb:Lm ops=true) (hg:Pu ops=true) (hd:Lw ops ds=true) (hsz:∀ d,d∈slotsOf ds→d<a.tmps.size)
  (R:Nat→Nat→Nat→Prop) (φ:Nat→Value→World→Prop)
  (hstab:∀ i j o v W W',i≠j→ops[i]?=some o→A0 o j=false→Wrote (R j) W W'→φ i v W→φ i v W')
  (hstep:∀ i o a' W K,ops[i]?=some o→Fr (slotsOf ds) a a'→Wrote (fun b o'=>∃ j oj,j≠i∧ops[j]?=some oj∧A0 oj i=false∧R j b o') w W→(∀ j,A0 o j=true→φ j (Bl ds a' j) W)→(∀ v W',Wrote (R i) W W'→φ i (if o.dst=none then undef else v) W'→K (a'.put o.dst v) W')→o.wp P a' W K Q)
  (hend:∀ a' W,Fr (slotsOf ds) a a'→Wrote (fun b o=>∃ j,R j b o) w W→(∀ i,i<ops.size→φ i (Bl ds a' i) W)→Q .normal a' W):(Code.region id ops true).wp P Q a w :=
 Ly ds hm hb hg hd hsz R (fun j=>Wrote (R j)) (fun _ _ _ h=>h) φ hstab hstep hend
end
open Go.ChangeShapes Go.WideShapes Go.ChangeAt
def Df (V:Nat→Value) (i:Nat) (v:Value):Nat→Value:=fun k=>if k=i then v else V k
theorem Ai (V:Nat→Value) (i:Nat) (v:Value):Df V i v i=v:=if_pos rfl
theorem Ar (V:Nat→Value) {i k:Nat} (v:Value) (h:k≠i):Df V i v k=V k:=if_neg h
section
variable {P:Program} {ops:Array Oper} {Q:Exit→Act→World→Prop}
theorem Fo {id:Nat} {a:Act} {w:World} (ds:List (Option Nat)) (hm:P.follows .mixedOrders=true) (hb:Lm ops=true) (hg:Pu ops=true) (hd:Lw ops ds=true) (hsz:∀ d,d∈slotsOf ds→d<a.tmps.size)
  (R:Nat→Nat→Nat→Prop) (φ:Nat→(Nat→Value)→Nat→Nat→World→Prop)
  (hstab:∀ i j o V x lo hi W W',i≠j→ops[i]?=some o→A0 o j=false→w.heap.size≤lo→hi≤W.heap.size→Wrote (R j) W W'→φ i V lo hi W→φ i (Df V j x) lo hi W')
  (hstep:∀ i o a' W K,ops[i]?=some o→Fr (slotsOf ds) a a'→Wrote (fun b o'=>∃ j oj,j≠i∧ops[j]?=some oj∧A0 oj i=false∧R j b o') w W→(∀ j,A0 o j=true→∃ lo hi,w.heap.size≤lo∧hi≤W.heap.size∧φ j (Bl ds a') lo hi W)→(∀ v W',Wrote (R i) W W'→φ i (Df (Bl ds a') i (if o.dst=none then undef else v)) W.heap.size W'.heap.size W'→K (a'.put o.dst v) W')→o.wp P a' W K Q)
  (hend:∀ a' W,Fr (slotsOf ds) a a'→Wrote (fun b o=>∃ j,R j b o) w W→(lo hi:Nat→Nat)→(∀ i,i<ops.size→w.heap.size≤lo i∧lo i≤hi i∧hi i≤W.heap.size∧φ i (Bl ds a') (lo i) (hi i) W)→(∀ i j,i<ops.size→j<ops.size→i≠j→hi i≤lo j∨hi j≤lo i)→Q .normal a' W):(Code.region id ops true).wp P Q a w:=by
 unfold Lw at hd;simp only [Bool.and_eq_true,decide_eq_true_eq] at hd;obtain ⟨⟨hlen,hd1⟩,hd2⟩:=hd
 have hgo:∀ (i:Nat) (o:Oper),ops[i]?=some o→o.guard=none:=fun i o ho=>by
  have h1:=(Array.all_eq_true_iff_forall_mem.1 hg) o (Array.mem_of_getElem? ho)
  simpa using h1
 have hlt:∀ (i:Nat) (o:Oper),ops[i]?=some o→i<ops.size:=fun i o ho=>by
  rcases Nat.lt_or_ge i ops.size with h | h
  ·exact h
  ·rw [Array.getElem?_eq_none h] at ho; cases ho
 have hdst:∀ (i:Nat) (o:Oper),ops[i]?=some o→ds[i]?=some o.dst:=fun i o ho=>by
  have h1:=List.all_eq_true.1 hd1 i (List.mem_range.2 (by rw [hlen]; exact hlt i o ho));rw [ho] at h1;simp only [Option.map_some,Option.getD_some,beq_iff_eq] at h1;exact h1.symm
 have hne:∀ i j d,i≠j→ds[i]?=some (some d)→ds[j]?≠some (some d):=fun i j d h hi hj=>by
  have li:i<ds.length:=by rcases Nat.lt_or_ge i ds.length with x | x; exact x; (rw [List.getElem?_eq_none x] at hi; cases hi)
  have lj:j<ds.length:=by rcases Nat.lt_or_ge j ds.length with x | x; exact x; (rw [List.getElem?_eq_none x] at hj; cases hj)
  have h1:=List.all_eq_true.1 (List.all_eq_true.1 hd2 i (List.mem_range.2 li)) j (List.mem_range.2 lj);rw [hi,hj] at h1
  simp at h1
  exact h h1
 refine Gf hm hb (fun _ l a' W=>Fr (slotsOf ds) a a'∧Wrote (fun b o=>∃ j,l[j]?=some true∧R j b o) w W∧(∀ (k:Nat) (o:Oper),l[k]?=some true→ops[k]?=some o→∀ j:Nat,A0 o j=true→l[j]?=some true)∧∃ lo hi:Nat→Nat,(∀ i:Nat,l[i]?=some true→w.heap.size≤lo i∧lo i≤hi i∧hi i≤W.heap.size∧φ i (Bl ds a') (lo i) (hi i) W)∧∀ i j:Nat,l[i]?=some true→l[j]?=some true→i≠j→hi i≤lo j∨hi j≤lo i) ?_ ?_ ?_
 ·have hno:∀ i:Nat,(Array.replicate ops.size false)[i]?≠some true:=fun i h=>by
   rcases Nat.lt_or_ge i ops.size with x | x
   ·simp [x] at h
   ·rw [Array.getElem?_eq_none (by simpa using x)] at h; cases h
  exact ⟨⟨rfl,rfl,fun _ _=>rfl⟩,⟨rfl,rfl,rfl,Nat.le_refl _,fun _ _ _=>rfl,fun _ _ _ _=>rfl,fun _ _ _=>rfl⟩,fun k _ h=>absurd h (hno k),fun _=>0,fun _=>0,fun i h=>absurd h (hno i),fun i _ h=>absurd h (hno i)⟩
 ·rintro l a' W i o K hl ⟨F,L,hcl,lo,hi',hφ,hdj⟩ ho hf ha hK
  have hi:=hlt i o ho;have hdi:=hdst i o ho
  have hdone:∀ j,l[j]?=some true→∀ b o,R j b o→∃ j oj,j≠i∧ops[j]?=some oj∧A0 oj i=false∧R j b o:=fun j h1 b o h2=>by
   have hjl:j<ops.size:=by
    rcases Nat.lt_or_ge j ops.size with x | x
    ·exact x
    ·rw [Array.getElem?_eq_none (by omega)] at h1; cases h1
   have hjo:ops[j]?=some ops[j]:=Array.getElem?_eq_getElem hjl;refine ⟨j,ops[j],(fun e=>by rw [e,hf] at h1; cases h1),hjo,?_,h2⟩;cases hw:A0 ops[j] i
   ·rfl
   ·have:=hcl j _ h1 hjo i hw
    rw [hf] at this; cases this
  refine Ky ho (hgo i o ho) (hstep i o a' W K ho F (L.mono (fun b o _ ⟨j,h1,h2⟩=>hdone j h1 b o h2)) (fun j hj=>⟨lo j,hi' j,(hφ j (D9 ha hj)).1,(hφ j (D9 ha hj)).2.2⟩) (fun v W' hW hv=>hK _ _ ?_))
  have hset:(l.setIfInBounds i true)[i]?=some true:=by simp [hl,hi]
  have hval:Bl ds (a'.put o.dst v)=Df (Bl ds a') i (if o.dst=none then undef else v):=by
   funext k
   by_cases e:k=i
   ·subst e
    rw [Ai]
    cases e:o.dst with
    | none =>
     rw [e] at hdi;unfold Bl;rw [hdi]
     simp
    | some d =>
     rw [e] at hdi;have hmem:d∈slotsOf ds:=List.mem_filterMap.2 ⟨some d,List.mem_of_getElem? hdi,rfl⟩;unfold Bl;rw [hdi]
     simpa using Fz (by rw [F.size]; exact hsz d hmem)
   ·rw [Ar _ _ e]
    cases e2:o.dst with
    | none=>rfl
    | some d =>
     rw [e2] at hdi;unfold Bl
     cases e3:ds[k]? with
     | none=>rfl
     | some x =>
      cases x with
      | none=>rfl
      | some d' =>
       have:d≠d':=fun x=>hne k i d' e e3 (by rw [hdi,x])
       exact Es this
  have hne':∀ k,(l.setIfInBounds i true)[k]?=some true→k≠i→l[k]?=some true:=fun k hk e=>by rw [Array.getElem?_setIfInBounds_ne (by omega)] at hk; exact hk
  refine ⟨?_,(L.mono (fun b o _ ⟨j,h1,h2⟩=>⟨j,by rw [Array.getElem?_setIfInBounds_ne (fun e=>by rw [← e,hf] at h1; cases h1)]; exact h1,h2⟩)).trans (hW.mono (fun b o _ h=>⟨i,hset,h⟩)),fun k o' hk hko j hj=>?_,fun k=>if k=i then W.heap.size else lo k,fun k=>if k=i then W'.heap.size else hi' k,fun k hk=>?_,fun k k' hk hk' hkk=>?_⟩
  ·cases e:o.dst with
   | none=>exact F
   | some d =>
    rw [e] at hdi;exact F.put (List.mem_filterMap.2 ⟨some d,List.mem_of_getElem? hdi,rfl⟩) v
  ·have h1:l[j]?=some true:=by
    by_cases e:k=i
    ·subst e
     rw [ho] at hko;obtain rfl:=Option.some.inj hko;exact D9 ha hj
    ·rw [Array.getElem?_setIfInBounds_ne (by omega)] at hk
     exact hcl k o' hk hko j hj
   by_cases e:j=i
   ·rw [e]; exact hset
   ·rw [Array.getElem?_setIfInBounds_ne (by omega)]; exact h1
  ·rw [hval]
   by_cases e:k=i
   ·subst e
    simp only [if_true];exact ⟨L.size,hW.size,Nat.le_refl _,hv⟩
   ·simp only [if_neg e]
    rw [Array.getElem?_setIfInBounds_ne (by omega)] at hk;obtain ⟨g1,g2,g3,g4⟩:=hφ k hk;refine ⟨g1,g2,Nat.le_trans g3 hW.size,?_⟩
    have hkl:k<ops.size:=by
     rcases Nat.lt_or_ge k ops.size with x | x
     ·exact x
     ·rw [Array.getElem?_eq_none (by omega)] at hk; cases hk
    have hko:ops[k]?=some ops[k]:=Array.getElem?_eq_getElem hkl
    have hnw:A0 ops[k] i=false:=by
     cases hw:A0 ops[k] i
     ·rfl
     ·have:=hcl k _ hk hko i hw
      rw [hf] at this; cases this
    exact hstab k i _ _ _ _ _ W W' e hko hnw g1 g3 hW g4
  ·by_cases e:k=i
   ·have e':k'≠i:=fun x=>hkk (e.trans x.symm)
    simp only [if_pos e,if_neg e'];exact Or.inr (hφ k' (hne' k' hk' e')).2.2.1
   ·by_cases e':k'=i
    ·simp only [if_neg e,if_pos e']
     exact Or.inl (hφ k (hne' k hk e)).2.2.1
    ·simp only [if_neg e,if_neg e']
     exact hdj k k' (hne' k hk e) (hne' k' hk' e') hkk
 ·rintro l a' W hall ⟨F,L,-,lo,hi',hφ,hdj⟩
  exact hend a' W F (L.mono (fun b o _ ⟨j,_,h2⟩=>⟨j,h2⟩)) lo hi' (fun i hi=>hφ i (hall i hi)) (fun i j hi hj=>hdj i j (hall i hi) (hall j hj))
end
theorem Vp (w:World) (v:Value) (m:Nat) (ra:Nat→Option Addr) (ln rc:Nat→Nat) (f:Nat→Nat→Int) (k:Int) (S:Sep w v m ra ln rc) (hr:∀ i,i<m→Be .i64 w (ra i) (ln i) (f i)) (k0:0≤k) (k1:k≤1099511627776) :
  Calls Tryz.prog 38 #[.agg #[v],.i k] w fun e w'=>e=.returned (.i (k+psum ln m))∧(∀ i,i<m→Be .i64 w' (ra i) (ln i) (fun j=>k+psum ln i+j))∧Wrote (fun b o=>∃ i,i<m∧Da (ra i) (ln i) b o) w w':=by
 have L0:Below w.heap.size w (w.alloc (.cells #[v] 41)):=(Below.refl _ _).alloc (Nat.le_refl _) _;have W0:=Ab L0 (fun b o=>∃ i,i<m∧Da (ra i) (ln i) b o)
 have hr0:=fun i hi=>(hr i hi).keep (Ab L0 Aj) (fun _ _ _ x=>x)
 have S0:=S.keep (Ab L0 Aj) (fun _ _ x=>absurd x id)
 go_enter Tryz.func38,Tryz.ntmps38
 go_wp2_with fail;refine (N8 _ v m ra ln rc f k S0 hr0 k0 k1).mono ?_;rintro e w1 ⟨rfl,R1,W1,s1⟩;go_wp2;go_ret;exact ⟨rfl,R1,W0.trans W1⟩
theorem Vq (w:World) (v:Value) (m:Nat) (ra:Nat→Option Addr) (ln rc:Nat→Nat) (k:Int) (S:Sep w v m ra ln rc) (hr:∀ i,i<m→Be .i64 w (ra i) (ln i) (fun j=>k+psum ln i+j)) (k0:0≤k) (k1:k≤1099511627776) :
  Calls Tryz.prog 43 #[.agg #[v],.i k] w fun e w'=>e=.returned (.i (k+psum ln m))∧Below w.heap.size w w':=by
 have L0:Below w.heap.size w (w.alloc (.cells #[v] 41)):=(Below.refl _ _).alloc (Nat.le_refl _) _
 have hr0:=fun i hi=>(hr i hi).keep (Ab L0 Aj) (fun _ _ _ x=>x)
 have S0:=S.keep (Ab L0 Aj) (fun _ _ x=>absurd x id)
 have hk:¬ (k+(psum ln m:Int)<0):=by omega
 go_enter Tryz.func43,Tryz.ntmps43
 go_wp2_with fail;refine (N9 _ v m ra ln rc k S0 hr0 k0 k1).mono ?_;rintro e w1 ⟨rfl,rfl⟩;go_wp2;go_ret;exact ⟨rfl,L0⟩
set_option linter.unusedVariables false
set_option linter.unusedSimpArgs false
theorem Jd4 (w:World) (a b:Int):Calls Tryz.prog 218 #[.i a,.i b] w fun e w'=>e=.returned (.i (max a b))∧w'=w:=by
 by_cases h:b<a
 ·have HE:Hid (max a b=a):=by show _=_; omega
  go_enter Tryz.func218,Tryz.ntmps218
  go_wp2;go_ret;exact ⟨Az HE.out.symm,rfl⟩
 ·have HE:Hid (max a b=b):=by show _=_; omega
  go_enter Tryz.func218,Tryz.ntmps218
  go_wp2;go_ret;exact ⟨Az HE.out.symm,rfl⟩
theorem Q9 (w:World) (t:Int) (h:t≤9223372036854775807):Calls Tryz.prog 175 #[.i t] w fun e w'=>e=.returned (.i (max t 0/64))∧w'=w:=by
 have f0:0≤max t 0:=by omega
 have f1:max t 0≤9223372036854775807:=by omega
 have M:=Ad (Jd4 w t 0);generalize max t 0=f at *;have d64:f.tdiv 64=f/64:=Int.tdiv_eq_ediv_of_nonneg f0
 go_enter Tryz.func175,Tryz.ntmps175
 go_wp2_with fail;refine (An M).mono ?_;rintro e w1 ⟨rfl,rfl⟩;go_wp2;go_ret;exact ⟨rfl,rfl⟩
abbrev On (D:Nat→Prop):Nat→Nat→Prop:=fun b _=>D b
theorem Ah {R:Nat→Nat→Prop} {w w':World} {b:Nat} {o:Obj} (h:w.heap[b]?=some o) (hw:Wrote R w w') (hd:∀ o,¬ R b o):w'.heap[b]?=some o:=(hw.block b (Ac h) hd).trans h
theorem Af {w:World} {b o:Nat} {cs:Array Value} {t:TypeId} {fr:Nat × Nat} (h:w.heap[b]?=some (.cells cs t fr)) (x:Value):(w.setCell ⟨b,o,none⟩ x).heap[b]?=some (.cells (cs.setIfInBounds o x) t fr):=by
 simp [World.setCell,Array.getElem?_modify,h]
structure Bw (W:World) (D:Nat→Prop) (v:Value) (n:Nat) (g:Nat→Int) (bank:Int):Prop where
 ex:∃ a cap,v=.agg #[.slice a n cap,.i bank]∧n≤1048576∧Be .i64 W a n g∧Pd W (Da a n)∧∀ b o,Da a n b o→D b
theorem Bw.keep {R:Nat→Nat→Prop} {W W':World} {D:Nat→Prop} {v:Value} {n:Nat} {g:Nat→Int} {bank:Int} (h:Bw W D v n g bank) (hw:Wrote R W W') (hd:∀ b o,D b→b<W.heap.size→¬ R b o):Bw W' D v n g bank:=by
 obtain ⟨a,cap,e,hn,hr,hF,hD⟩:=h;exact ⟨a,cap,e,hn,hr.keep hw (fun b o hf=>hd b o (hD b o hf) (hF b o hf).1),hF.keep hw,hD⟩
theorem Bw.below {W W':World} {D:Nat→Prop} {v:Value} {n:Nat} {g:Nat→Int} {bank:Int} (h:Bw W D v n g bank) (L:Below W.heap.size W W'):Bw W' D v n g bank:=h.keep (Ab L Aj) (fun _ _ _ _ x=>x)
theorem Bw.mono {W:World} {D E:Nat→Prop} {v:Value} {n:Nat} {g:Nat→Int} {bank:Int} (h:Bw W D v n g bank) (hd:∀ b,b<W.heap.size→D b→E b):Bw W E v n g bank:=by
 obtain ⟨a,cap,e,hn,hr,hF,hD⟩:=h;exact ⟨a,cap,e,hn,hr,hF,fun b o hf=>hd b (hF b o hf).1 (hD b o hf)⟩
theorem Bw.ints {W:World} {D:Nat→Prop} {v:Value} {n:Nat} {g:Nat→Int} {bank:Int} (h:Bw W D v n g bank):∃ u,v=.agg #[u,.i bank]∧Ints .i64 W (On D) u n g:=by
 obtain ⟨a,cap,e,hn,hr,hF,hD⟩:=h;exact ⟨_,e,a,cap,rfl,hn,hr,hD⟩
theorem Bw.size {W:World} {D:Nat→Prop} {v:Value} {n:Nat} {g:Nat→Int} {bank:Int} (h:Bw W D v n g bank):n≤1048576:=by
 obtain ⟨a,cap,e,hn,hr,hF,hD⟩:=h;exact hn
theorem Bw.two {W:World} {D:Nat→Prop} {v:Value} {n:Nat} {g:Nat→Int} {bank:Int} (h:Bw W D v n g bank):∃ a c,v=.agg #[.slice a n c,.i bank]:=by
 obtain ⟨a,c,e,_⟩:=h;exact ⟨a,c,e⟩
theorem Bw.own {W:World} {lo n:Nat} {u:Value} {g:Nat→Int} {bank:Int} (h:Am W lo u n g):Bw W (fun b=>lo≤b) (.agg #[u,.i bank]) n g bank:=by
 obtain ⟨a,cap,rfl,hn,hr,hF,hD⟩:=h;exact ⟨a,cap,rfl,hn,hr,hF,hD⟩
structure Hy (W:World) (D:Nat→Prop) (v:Value) (m:Nat) (ln:Nat→Nat) (f:Nat→Nat→Int):Prop where
 ex:∃ p,v=.agg #[.slice (some ⟨p,0,none⟩) m m]∧m+psum ln m≤1048576∧Fw W p m ln f∧p+1+m≤W.heap.size∧∀ b,p≤b→b<p+1+m→D b
theorem Hy.keep {R:Nat→Nat→Prop} {W W':World} {D:Nat→Prop} {v:Value} {m:Nat} {ln:Nat→Nat} {f:Nat→Nat→Int} (h:Hy W D v m ln f) (hw:Wrote R W W') (hd:∀ b o,D b→b<W.heap.size→¬ R b o):Hy W' D v m ln f:=by
 obtain ⟨p,e,hm,hr,hs,hD⟩:=h;exact ⟨p,e,hm,hr.keep hw (fun b o h1 h2=>hd b o (hD b h1 h2) (by omega)),Nat.le_trans hs hw.size,hD⟩
theorem Hy.below {W W':World} {D:Nat→Prop} {v:Value} {m:Nat} {ln:Nat→Nat} {f:Nat→Nat→Int} (h:Hy W D v m ln f) (L:Below W.heap.size W W'):Hy W' D v m ln f:=h.keep (Ab L Aj) (fun _ _ _ _ x=>x)
theorem Hy.mono {W:World} {D E:Nat→Prop} {v:Value} {m:Nat} {ln:Nat→Nat} {f:Nat→Nat→Int} (h:Hy W D v m ln f) (hd:∀ b,b<W.heap.size→D b→E b):Hy W E v m ln f:=by
 obtain ⟨p,e,hm,hr,hs,hD⟩:=h;exact ⟨p,e,hm,hr,hs,fun b h1 h2=>hd b (by omega) (hD b h1 h2)⟩
theorem Hy.ints {W:World} {D:Nat→Prop} {v:Value} {m:Nat} {ln:Nat→Nat} {f:Nat→Nat→Int} (h:Hy W D v m ln f):∃ u F,v=.agg #[u]∧Ba .i64 W F u m ln f:=by
 obtain ⟨p,e,hm,hr,hs,hD⟩:=h;exact ⟨_,_,e,hr.ints hm⟩
theorem Jam (w:World) (F:Nat→Nat→Prop) (u:Value) (n:Nat) (f:Nat→Int) (bank:Int) (H:Ints .i64 w F u n f) (hn:n≤1048576) :
  Calls Tryz.prog 21 #[.agg #[u,.i bank]] w fun e w'=>∃ v,e=.returned v∧Bw w' (fun b=>w.heap.size≤b) v n f bank∧Below w.heap.size w w' :=
 (Jc0 w F u n f bank H).mono (by
  rintro e w' ⟨p,hp,rfl,hr,L⟩;refine ⟨_,rfl,⟨_,_,rfl,hn,Od hr,fun b o ⟨off,e,_,_⟩=>?_,fun b o ⟨off,e,_,_⟩=>?_⟩,L⟩
  ·simp only [Option.some.injEq,Addr.mk.injEq] at e
   obtain ⟨rfl,-,-⟩:=e;exact ⟨hr.lt,hr.frozen _⟩
  ·simp only [Option.some.injEq,Addr.mk.injEq] at e
   obtain ⟨rfl,-,-⟩:=e
   exact hp)
theorem Jan (w:World) (D E:Nat→Prop) (v u:Value) (n:Nat) (f:Nat→Int) (bank:Int) (H:Bw w D v n f bank) (K:Bw w E u n f bank) :
  Calls Tryz.prog 32 #[v,u] w fun e w'=>e=.returned (.bool true)∧Below w.heap.size w w':=by
 obtain ⟨v',rfl,hv⟩:=H.ints;obtain ⟨u',rfl,hu⟩:=K.ints;exact Sz w _ _ v' u' n f bank hv hu
theorem V8 (w:World) (D:Nat→Prop) (v:Value) (n:Nat) (f:Nat→Int) (bank k:Int) (H:Bw w D v n f bank) (k0:0≤k) (k1:k≤1099511627776) :
  Calls Tryz.prog 40 #[v,.i k] w fun e w'=>e=.returned (.i (k+n))∧Bw w' D v n (fun i=>k+i) bank∧Wrote (On D) w w':=by
 obtain ⟨a,cap,rfl,hn,hr,hF,hD⟩:=H;refine (Jak w a n cap f bank k hr hF k0 (by omega)).mono ?_;rintro e w' ⟨rfl,hr',hw⟩;exact ⟨rfl,⟨a,cap,rfl,hn,hr',hF.keep hw,hD⟩,hw.mono (fun b o _ h=>hD b o h)⟩
theorem V9 (w:World) (D:Nat→Prop) (v:Value) (n:Nat) (bank k:Int) (H:Bw w D v n (fun i=>k+i) bank) (k0:0≤k) (k1:k≤1099511627776) :
  Calls Tryz.prog 45 #[v,.i k] w fun e w'=>e=.returned (.i (k+n))∧Below w.heap.size w w':=by
 obtain ⟨a,cap,rfl,hn,hr,hF,hD⟩:=H;exact Jal w a n cap bank k hr k0 (by omega)
set_option linter.unusedSimpArgs false
open Go.Shelf
attribute [local go_sem] Oper.semAt_some
theorem Kp (w:World) (t:Int) (h:t≤9223372036854775807):Calls Tryz.prog 134 #[.i t] w fun e w'=>e=.returned (.i (max t 0/64))∧w'=w:=by
 by_cases ht:0≤t
 ·have d64:t.tdiv 64=t/64:=Int.tdiv_eq_ediv_of_nonneg ht
  go_enter Tryz.func134,Tryz.ntmps134
  go_wp2
  all_goals (go_ret; exact ⟨Az (by omega),rfl⟩)
 ·go_enter Tryz.func134,Tryz.ntmps134
  go_wp2
  all_goals (go_ret; exact ⟨Az (by omega),rfl⟩)
section
variable {P:Program} {ops:Array Oper} {Q:Exit→Act→World→Prop}
def Bb (ops:Array Oper):Nat→Nat→Nat→Bool
 | 0,_,_=>false
 | n+1,j,i=>match ops[j]? with
  | none=>false
  | some o=>A0 o i || (List.range ops.size).any fun k=>A0 o k && Bb ops n k i
theorem Gc {l:Array Bool} (hcl:∀ (k:Nat) (o:Oper),l[k]?=some true→ops[k]?=some o→∀ j:Nat,A0 o j=true→l[j]?=some true):∀ (n j i:Nat),l[j]?=some true→Bb ops n j i=true→l[i]?=some true
 | 0,_,_,_,h=>by cases h
 | n+1,j,i,hj,h=>by
  unfold Bb at h
  cases ho:ops[j]? with
  | none=>rw [ho] at h; cases h
  | some o =>
   rw [ho] at h;simp only [Bool.or_eq_true,List.any_eq_true,Bool.and_eq_true] at h
   rcases h with h | ⟨k,-,h1,h2⟩
   ·exact hcl j o hj ho i h
   ·exact Gc hcl n k i (hcl j o hj ho k h1) h2
end
set_option maxHeartbeats 1000000
structure Cm (W:World) (D:Nat→Prop) (a:Option Addr) (n:Nat) (f:Nat→Int):Prop where
 small:n≤1048576
 row:Be .i64 W a n f
 free:Pd W (Da a n)
 on:∀ b o,Da a n b o→D b
theorem Cm.keep {R:Nat→Nat→Prop} {W W':World} {D:Nat→Prop} {a:Option Addr} {n:Nat} {f:Nat→Int} (h:Cm W D a n f) (hw:Wrote R W W') (hd:∀ b o,Da a n b o→D b→b<W.heap.size→¬ R b o):Cm W' D a n f :=
 ⟨h.small,h.row.keep hw (fun b o hf=>hd b o hf (h.on b o hf) (h.free b o hf).1),h.free.keep hw,h.on⟩
theorem Cm.wr {R:Nat→Nat→Prop} {W W':World} {D:Nat→Prop} {p i n:Nat} {f:Nat→Int} (h:Cm W D (some ⟨p,i,none⟩) n f) (hw:Wrote R W W') (hd:∀ o,¬ R p o):Cm W' D (some ⟨p,i,none⟩) n f :=
 h.keep hw (fun b o ⟨off,e,_,_⟩ _ _=>by
  simp only [Option.some.injEq,Addr.mk.injEq] at e;obtain ⟨rfl,-,-⟩:=e
  exact hd o)
theorem Cm.mono {W:World} {D E:Nat→Prop} {a:Option Addr} {n:Nat} {f:Nat→Int} (h:Cm W D a n f) (hd:∀ b,b<W.heap.size→D b→E b):Cm W E a n f :=
 ⟨h.small,h.row,h.free,fun b o hf=>hd b (h.free b o hf).1 (h.on b o hf)⟩
theorem Cm.ints {W:World} {D:Nat→Prop} {a:Option Addr} {n:Nat} {f:Nat→Int} (h:Cm W D a n f) (c:Nat):Ints .i64 W (On D) (.slice a n c) n f:=⟨a,c,rfl,h.small,h.row,h.on⟩
theorem Cm.congr {W:World} {D:Nat→Prop} {a:Option Addr} {n:Nat} {f g:Nat→Int} (h:Cm W D a n f) (e:∀ i,i<n→f i=g i):Cm W D a n g:=⟨h.small,h.row.congr e,h.free,h.on⟩
theorem Cm.own {W:World} {lo:Nat} {a:Option Addr} {n c:Nat} {f:Nat→Int} (h:Am W lo (.slice a n c) n f):Cm W (fun b=>lo≤b) a n f:=by
 obtain ⟨a',c',e,hn,hr,hF,hD⟩:=h;simp only [Value.slice.injEq,true_and] at e;obtain ⟨rfl,rfl⟩:=e;exact ⟨hn,hr,hF,hD⟩
theorem Cm.fresh {W:World} {p n lo:Nat} {f:Nat→Int} (hr:W.rowIs p 3 n (fun i=>.i (f i))) (hn:n≤1048576) (hp:lo≤p):Cm W (fun b=>lo≤b) (some ⟨p,0,none⟩) n f :=
 ⟨hn,Od hr,fun b o ⟨off,e,_,_⟩=>by
  simp only [Option.some.injEq,Addr.mk.injEq] at e;obtain ⟨rfl,-,-⟩:=e
  exact ⟨hr.lt,hr.frozen _⟩,fun b o ⟨off,e,_,_⟩=>by
  simp only [Option.some.injEq,Addr.mk.injEq] at e;obtain ⟨rfl,-,-⟩:=e
  exact hp⟩
def Apart (a:Option Addr) (n:Nat) (a':Option Addr) (n':Nat):Prop:=∀ b o,Da a n b o→¬ Da a' n' b o
theorem Apart.symm {a a':Option Addr} {n n':Nat} (h:Apart a n a' n'):Apart a' n' a n:=fun b o x y=>h b o y x
theorem E5 {p q n m:Nat} {i j:Nat} (h:p≠q):Apart (some ⟨p,i,none⟩) n (some ⟨q,j,none⟩) m:=by
 rintro b o ⟨off,e,_,_⟩ ⟨off',e',_,_⟩;simp only [Option.some.injEq,Addr.mk.injEq] at e e';exact h (e.1.trans e'.1.symm)
theorem Q2 {W W':World} {D E:Nat→Prop} {a a':Option Addr} {n n':Nat} {f g:Nat→Int} (h:Cm W D a n f) (k:Cm W' E a' n' g) (hd:∀ b,D b→¬ E b):Apart a n a' n':=fun b o x y=>hd b (h.on b o x) (k.on b o y)
structure Cf (W:World) (D:Nat→Prop) (v:Value) (t c s ad pl:Int) (bl:Bool) (n:Nat) (f:Nat→Int) (m:Nat) (g:Nat→Int):Prop where
 ex:∃ a x b y,v=.agg (pR t c s ad pl bl (.slice a n x) (.slice b m y))∧Cm W D a n f∧Cm W D b m g∧Apart a n b m
section
variable {R:Nat→Nat→Prop} {W W':World} {D E:Nat→Prop} {v:Value} {t c s ad pl:Int} {bl:Bool} {n m:Nat} {f g:Nat→Int}
theorem Cf.keep (h:Cf W D v t c s ad pl bl n f m g) (hw:Wrote R W W') (hd:∀ b o,D b→b<W.heap.size→¬ R b o):Cf W' D v t c s ad pl bl n f m g:=by
 obtain ⟨a,x,b,y,e,h1,h2,h3⟩:=h;exact ⟨a,x,b,y,e,h1.keep hw (fun b o _=>hd b o),h2.keep hw (fun b o _=>hd b o),h3⟩
theorem Cf.below (h:Cf W D v t c s ad pl bl n f m g) (L:Below W.heap.size W W'):Cf W' D v t c s ad pl bl n f m g:=h.keep (Ab L Aj) (fun _ _ _ _ x=>x)
theorem Cf.mono (h:Cf W D v t c s ad pl bl n f m g) (hd:∀ b,b<W.heap.size→D b→E b):Cf W E v t c s ad pl bl n f m g:=by
 obtain ⟨a,x,b,y,e,h1,h2,h3⟩:=h;exact ⟨a,x,b,y,e,h1.mono hd,h2.mono hd,h3⟩
theorem Cf.two (h:Cf W D v t c s ad pl bl n f m g):∃ a x b y,v=.agg (pR t c s ad pl bl (.slice a n x) (.slice b m y)):=by
 obtain ⟨a,x,b,y,e,-⟩:=h;exact ⟨a,x,b,y,e⟩
theorem Cf.ints (h:Cf W D v t c s ad pl bl n f m g):∃ u u',v=.agg (pR t c s ad pl bl u u')∧Ints .i64 W (On D) u n f∧Ints .i64 W (On D) u' m g:=by
 obtain ⟨a,x,b,y,e,h1,h2,h3⟩:=h;exact ⟨_,_,e,h1.ints x,h2.ints y⟩
end
theorem below_drewN {n:Nat} {w W:World} (L:Below n w W) (d:Nat):Below n w (W.drewN d):=L.trans ⟨rfl,rfl,rfl,Nat.le_refl _,fun _ _=>rfl⟩
theorem Bc {w:World} {b d o:Nat} {ob:Obj} {x:Value} (h:w.heap[b]?=some ob) (hd:b≠d):(w.setCell ⟨d,o,none⟩ x).heap[b]?=some ob :=
 ((Wrote.setCell (R:=fun b' _=>b'=d) (Wrote.refl _ w) (fun _=>rfl) x).block b (Ac h) (fun _ e=>hd e)).trans h
theorem Wk {left:Int} {n m:Nat} (h:(n:Int)≤left):Db (left-n) m=Db left (n+m):=by
 unfold Db
 by_cases e:left-n<m
 ·rw [if_pos e,if_pos (by omega)]
 ·rw [if_neg e,if_neg (by omega)]; omega
theorem Wl {left:Int} {n m:Nat} (h:left<n):Db left (n+m)=-1:=B4 (by omega)
theorem Jc8 (w:World) (t c s ad pl:Int) (bl:Bool) (a:Option Addr) (n x:Nat) (b:Option Addr) (m y:Nat) (left:Int) (h1:n≤9223372036854775807) (h1':m≤9223372036854775807) (h0:0≤left) (h2:left≤1048576) :
  Calls Tryz.prog 14 #[.agg (pR t c s ad pl bl (.slice a n x) (.slice b m y)),.i left] w fun e w'=>e=.returned (.i (Db left (n+m)))∧Below w.heap.size w w':=by
 have L0:∀ o,Below w.heap.size w (w.alloc o):=fun o=>(Below.refl _ _).alloc (Nat.le_refl _) _
 by_cases h:left<n
 ·have HS:=Ad (B4 h)
  have HT:=Ad (Wl (m:=m) h)
  go_enter Tryz.func14,Tryz.ntmps14
  go_wp2_with fail;refine (El _ _ _ _ _ (by omega) h0 h2).mono ?_;rintro e w1 ⟨rfl,rfl⟩;rw [HS.out];go_wp2;go_ret;exact ⟨Az HT.out.symm,L0 _⟩
 ·have HS:=Ad (Cl (show (n:Int)≤left by omega))
  have HT:=Ad (Wk (m:=m) (show (n:Int)≤left by omega))
  have hn:¬ (left-(n:Int)<0):=by omega
  have hr:Db left (n+m)<0→Db left (n+m)=-1:=fun hh=>by
   unfold Db at *;split
   ·rfl
   ·rename_i q; rw [if_neg q] at hh; omega
  have HR:=Ad hr;clear hr
  go_enter Tryz.func14,Tryz.ntmps14
  go_wp2_with fail;refine (El _ _ _ _ _ (by omega) h0 h2).mono ?_;rintro e w1 ⟨rfl,rfl⟩;rw [HS.out];go_wp2_with fail;refine (El _ _ _ _ _ (by omega) (by omega) (by omega)).mono ?_;rintro e w1 ⟨rfl,rfl⟩;rw [HT.out]
  by_cases hq:Db left (n+m)<0
  ·have HQ:=Ad (HR.out hq)
   go_wp2;go_ret;exact ⟨Az HQ.out.symm,L0 _⟩
  ·go_wp2
   go_ret;exact ⟨rfl,L0 _⟩
theorem Jc9 (w:World) (F G:Nat→Nat→Prop) (t c s ad pl:Int) (bl:Bool) (u u':Value) (n:Nat) (f:Nat→Int) (m:Nat) (g:Nat→Int) (H:Ints .i64 w F u n f) (K:Ints .i64 w G u' m g) :
  Calls Tryz.prog 23 #[.agg (pR t c s ad pl bl u u')] w fun e w'=>∃ v,e=.returned v∧Cf w' (fun b=>w.heap.size≤b) v t c s ad pl bl n f m g∧Below w.heap.size w w':=by
 obtain ⟨ua,ux,rfl,un,-,-⟩:=id H;obtain ⟨va,vx,rfl,vn,-,-⟩:=id K;have L0:Below w.heap.size w (((w.alloc (.cells (pR t c s ad pl bl (.slice ua n ux) (.slice va m vx)) 31)).alloc (.cells (pR 0 0 0 0 0 false (.slice none 0 0) (.slice none 0 0)) 44)).alloc (.cells (pR t c s ad pl bl (.slice none 0 0) (.slice none 0 0)) 44)):=(((Below.refl _ _).alloc (Nat.le_refl _) _).alloc (by simp) _).alloc (by simp; omega) _;have k0:(((w.alloc (.cells (pR t c s ad pl bl (.slice ua n ux) (.slice va m vx)) 31)).alloc (.cells (pR 0 0 0 0 0 false (.slice none 0 0) (.slice none 0 0)) 44)).alloc (.cells (pR t c s ad pl bl (.slice none 0 0) (.slice none 0 0)) 44)).heap[w.heap.size]?=some (.cells (pR t c s ad pl bl (.slice ua n ux) (.slice va m vx)) 31 (0,0)):=Ax (Ax (Al w _ _) _) _
 have k1:(((w.alloc (.cells (pR t c s ad pl bl (.slice ua n ux) (.slice va m vx)) 31)).alloc (.cells (pR 0 0 0 0 0 false (.slice none 0 0) (.slice none 0 0)) 44)).alloc (.cells (pR t c s ad pl bl (.slice none 0 0) (.slice none 0 0)) 44)).heap[w.heap.size+1]?=some (.cells (pR 0 0 0 0 0 false (.slice none 0 0) (.slice none 0 0)) 44 (0,0)):=by simpa using Ax (Al (w.alloc (.cells (pR t c s ad pl bl (.slice ua n ux) (.slice va m vx)) 31)) (pR 0 0 0 0 0 false (.slice none 0 0) (.slice none 0 0)) 44) (.cells (pR t c s ad pl bl (.slice none 0 0) (.slice none 0 0)) 44)
 have k2:(((w.alloc (.cells (pR t c s ad pl bl (.slice ua n ux) (.slice va m vx)) 31)).alloc (.cells (pR 0 0 0 0 0 false (.slice none 0 0) (.slice none 0 0)) 44)).alloc (.cells (pR t c s ad pl bl (.slice none 0 0) (.slice none 0 0)) 44)).heap[w.heap.size+1+1]?=some (.cells (pR t c s ad pl bl (.slice none 0 0) (.slice none 0 0)) 44 (0,0)):=by simpa using Al ((w.alloc (.cells (pR t c s ad pl bl (.slice ua n ux) (.slice va m vx)) 31)).alloc (.cells (pR 0 0 0 0 0 false (.slice none 0 0) (.slice none 0 0)) 44)) (pR t c s ad pl bl (.slice none 0 0) (.slice none 0 0)) 44
 go_enter Tryz.func23,Tryz.ntmps23
 go_wp2_with fail;generalize (((w.alloc (.cells (pR t c s ad pl bl (.slice ua n ux) (.slice va m vx)) 31)).alloc (.cells (pR 0 0 0 0 0 false (.slice none 0 0) (.slice none 0 0)) 44)).alloc (.cells (pR t c s ad pl bl (.slice none 0 0) (.slice none 0 0)) 44))=W0 at *;refine (Ld _ F _ n f (H.keep (Ab L0 Aj) (fun _ _ _ x=>x))).mono ?_;rintro e W1 ⟨rfl,hr,hs,L⟩;have z0:=Ac k2
 obtain ⟨p,hp⟩:∃ p,Hid (p=W0.heap.size):=⟨_,rfl⟩
 rw [← hp.out] at hr hs ⊢;have L1:=Ae L0 L;replace k0:=Aa k0 L (Ac k0);replace k1:=Aa k1 L (Ac k1);replace k2:=Aa k2 L (Ac k2)
 have pz:w.heap.size+1+1<p:=by rw [hp.out]; exact z0
 clear L L0 z0 hp;have j0:=Bc (o:=6) (x:=.slice (some ⟨p,0,none⟩) n n) k0 (show w.heap.size≠w.heap.size+1+1 by omega);have j1:=Bc (o:=6) (x:=.slice (some ⟨p,0,none⟩) n n) k1 (show w.heap.size+1≠w.heap.size+1+1 by omega);have j2:=Af (o:=6) k2 (.slice (some ⟨p,0,none⟩) n n);have M1:=L1.setCell (p:=⟨w.heap.size+1+1,6,none⟩) (by show w.heap.size≤w.heap.size+1+1; omega) (.slice (some ⟨p,0,none⟩) n n);have r1:=(Cm.fresh hr un (show w.heap.size≤p by omega)).wr (Wrote.setCell (b:=w.heap.size+1+1) (o:=6) (R:=fun b _=>b=w.heap.size+1+1) (Wrote.refl _ W1) (fun _=>rfl) (.slice (some ⟨p,0,none⟩) n n)) (fun o=>show ¬ p=w.heap.size+1+1 by omega)
 have s1:(W1.setCell ⟨w.heap.size+1+1,6,none⟩ (.slice (some ⟨p,0,none⟩) n n)).heap.size=p+1:=by simpa using hs
 have c0:=Ag k0;have c2:=Ag k2;have f2:=As k2;go_wp2_with fail;clear c0 c2 f2 k0 k1 k2 L1 hr hs;generalize W1.setCell ⟨w.heap.size+1+1,6,none⟩ (.slice (some ⟨p,0,none⟩) n n)=W2 at *;refine (Ld _ G _ m g (K.keep (Ab M1 Aj) (fun _ _ _ x=>x))).mono ?_;rintro e W3 ⟨rfl,hr,hs,L⟩;rw [s1] at hr hs ⊢;have L3:=Ae M1 L;replace j0:=Aa j0 L (Ac j0);replace j1:=Aa j1 L (Ac j1);replace j2:=Aa j2 L (Ac j2);replace r1:=r1.wr (Ab L Aj) (fun _ x=>x);have r2:=Cm.fresh hr vn (show w.heap.size≤p+1 by omega);clear L M1 s1;simp only [List.setIfInBounds_toArray,List.set_cons_succ,List.set_cons_zero] at j2;have c0:=Ag j0;have c1:=Ag j1;have c2:=Ag j2;have f1:=As j1;have f2:=As j2;have HR:=Ad (And.intro r1 r2);clear r1 r2 hr hs j0 j1 j2;go_wp2
 refine bodyPost_ret (v:=.agg (pR t c s ad pl bl (.slice (some ⟨p,0,none⟩) n n) (.slice (some ⟨p+1,0,none⟩) m m))) (by simp [results,Tryz.results23,go_sem,c1]) rfl ?_
 have key:∀ W4,Wrote (fun b _=>b=w.heap.size+1∨b=w.heap.size+1+1) W3 W4→Cf W4 (fun b=>w.heap.size≤b) (.agg (pR t c s ad pl bl (.slice (some ⟨p,0,none⟩) n n) (.slice (some ⟨p+1,0,none⟩) m m))) t c s ad pl bl n f m g∧Below w.heap.size w W4:=fun W4 WW =>
  ⟨⟨_,_,_,_,rfl,HR.out.1.wr WW (fun _ h=>by omega),HR.out.2.wr WW (fun _ h=>by omega),E5 (by omega)⟩,L3.trans (WW.below L3.size (fun b o hb h=>by omega))⟩
 refine ⟨_,rfl,key _ ?_⟩
 iterate 9 (refine Wrote.setCell ?_ (fun _=>by omega) _)
 exact Wrote.refl _ _
theorem Tc (w:World) (F G F' G':Nat→Nat→Prop) (t c s ad pl:Int) (bl:Bool) (u u' z z':Value) (n:Nat) (f:Nat→Int) (m:Nat) (g:Nat→Int) (H:Ints .i64 w F u n f) (K:Ints .i64 w G u' m g) (H':Ints .i64 w F' z n f) (K':Ints .i64 w G' z' m g) :
  Calls Tryz.prog 34 #[.agg (pR t c s ad pl bl u u'),.agg (pR t c s ad pl bl z z')] w fun e w'=>e=.returned (.bool true)∧Below w.heap.size w w':=by
 have L0:Below w.heap.size w ((w.alloc (.cells (pR t c s ad pl bl u u') 44)).alloc (.cells (pR t c s ad pl bl z z') 44)):=((Below.refl _ _).alloc (Nat.le_refl _) _).alloc (by simp) _;have HL:=Ad L0
 go_enter Tryz.func34,Tryz.ntmps34
 go_wp2_with fail;refine (J8 _ F F' _ _ n n f f (H.keep (Ab L0 Aj) (fun _ _ _ x=>x)) (H'.keep (Ab L0 Aj) (fun _ _ _ x=>x))).mono ?_;rintro e w1 ⟨rfl,d,rfl⟩;rw [Eq];have L1:=below_drewN L0 d;go_wp2_with fail;refine (J8 _ G G' _ _ m m g g (K.keep (Ab L1 Aj) (fun _ _ _ x=>x)) (K'.keep (Ab L1 Aj) (fun _ _ _ x=>x))).mono ?_;rintro e w1 ⟨rfl,d',rfl⟩;rw [Eq];go_wp2;go_ret;exact ⟨rfl,below_drewN L0 _⟩
theorem Jav (w:World) (D E:Nat→Prop) (v u:Value) (t c s ad pl:Int) (bl:Bool) (n:Nat) (f:Nat→Int) (m:Nat) (g:Nat→Int) (H:Cf w D v t c s ad pl bl n f m g) (K:Cf w E u t c s ad pl bl n f m g) :
  Calls Tryz.prog 34 #[v,u] w fun e w'=>e=.returned (.bool true)∧Below w.heap.size w w':=by
 obtain ⟨a,a',rfl,h1,h2⟩:=H.ints;obtain ⟨b,b',rfl,k1,k2⟩:=K.ints;exact Tc w _ _ _ _ t c s ad pl bl a a' b b' n f m g h1 h2 k1 k2
theorem Wm (w:World) (D:Nat→Prop) (v:Value) (t c s ad pl:Int) (bl:Bool) (n:Nat) (f:Nat→Int) (m:Nat) (g:Nat→Int) (k:Int) (H:Cf w D v t c s ad pl bl n f m g) (k0:0≤k) (k1:k≤1099511627776) :
  Calls Tryz.prog 41 #[v,.i k] w fun e w'=>e=.returned (.i (k+n+m))∧Cf w' D v t c s ad pl bl n (fun i=>k+i) m (fun i=>k+n+i)∧Wrote (On D) w w':=by
 obtain ⟨a,x,b,y,rfl,h1,h2,h3⟩:=H;have hn:=h1.small;have hm:=h2.small;have L0:Below w.heap.size w (w.alloc (.cells (pR t c s ad pl bl (.slice a n x) (.slice b m y)) 44)):=(Below.refl _ _).alloc (Nat.le_refl _) _;have B0:=Al w (pR t c s ad pl bl (.slice a n x) (.slice b m y)) 44;have WL:=Ab L0 (On D);have e1:=h1.keep (Ab L0 Aj) (fun _ _ _ _ _ x=>x);have e2:=h2.keep (Ab L0 Aj) (fun _ _ _ _ _ x=>x)
 have q1:∀ b' o,Da a n b' o→b'<w.heap.size:=fun b' o h=>(h1.free b' o h).1
 have q2:∀ b' o,Da b m b' o→b'<w.heap.size:=fun b' o h=>(h2.free b' o h).1
 have HD:=Ad (And.intro h1.on h2.on);clear h1 h2 L0
 go_enter Tryz.func41,Tryz.ntmps41
 go_wp2_with fail;generalize w.alloc (.cells (pR t c s ad pl bl (.slice a n x) (.slice b m y)) 44)=W0 at *;refine (Hs _ a n x f k e1.row e1.free k0 (by omega)).mono ?_;rintro e W1 ⟨rfl,R1,T1,s1⟩;have B1:=Ah B0 T1 (fun o h=>by have:=q1 _ _ h; omega);have f2:=e2.keep T1 (fun b' o hf _ _ h=>h3 b' o h hf);have F1:=e1.free.keep T1;have HS:=Ad (WL.trans (T1.mono (fun b o _ h=>HD.out.1 b o h)));clear e1 e2 T1 s1 WL B0;have c1:=Ag B1;go_wp2_with fail;clear c1;refine (Hs _ b m y g (k+n) f2.row f2.free (by omega) (by omega)).mono ?_;rintro e W2 ⟨rfl,R2,T2,s2⟩;have g1:=R1.keep T2 (fun b' o hf h=>h3 b' o hf h);have HE:=Ad (And.intro g1 (And.intro R2 (And.intro (F1.keep T2) (And.intro (f2.free.keep T2) (HS.out.trans (T2.mono (fun b o _ h=>HD.out.2 b o h)))))));clear R1 R2 T2 s2 g1 F1 f2 B1;go_wp2;go_ret
 exact ⟨rfl,⟨_,_,_,_,rfl,⟨hn,HE.out.1,HE.out.2.2.1,HD.out.1⟩,⟨hm,HE.out.2.1,HE.out.2.2.2.1,HD.out.2⟩,h3⟩,HE.out.2.2.2.2⟩
theorem Wn (w:World) (D:Nat→Prop) (v:Value) (t c s ad pl:Int) (bl:Bool) (n:Nat) (m:Nat) (k:Int) (H:Cf w D v t c s ad pl bl n (fun i=>k+i) m (fun i=>k+n+i)) (k0:0≤k) (k1:k≤1099511627776) :
  Calls Tryz.prog 46 #[v,.i k] w fun e w'=>e=.returned (.i (k+n+m))∧Below w.heap.size w w':=by
 obtain ⟨a,x,b,y,rfl,h1,h2,h3⟩:=H;have hn:=h1.small;have hm:=h2.small;have L0:Below w.heap.size w (w.alloc (.cells (pR t c s ad pl bl (.slice a n x) (.slice b m y)) 44)):=(Below.refl _ _).alloc (Nat.le_refl _) _;have e1:=(h1.keep (Ab L0 Aj) (fun _ _ _ _ _ x=>x)).row;have e2:=(h2.keep (Ab L0 Aj) (fun _ _ _ _ _ x=>x)).row
 have hk:¬ (k+(n:Int)<0):=by omega
 have hk2:¬ (k+(n:Int)+(m:Int)<0):=by omega
 clear h1 h2 h3
 go_enter Tryz.func46,Tryz.ntmps46
 go_wp2_with fail;refine (Ht _ a n x k e1 k0 (by omega)).mono ?_;rintro e w1 ⟨rfl,rfl⟩;go_wp2_with fail;refine (Ht _ b m y (k+n) e2 (by omega) (by omega)).mono ?_;rintro e w1 ⟨rfl,rfl⟩;go_wp2;go_ret;exact ⟨rfl,L0⟩
end Go.Proofs.YtgcmimcalmjaaaaGreatDoor
