import Derived.Test.YtgcmimcalmjaaaaGreatDoorS8
import Derived.Laws.CopyRow
import Derived.Laws.IdiomCopy
import Derived.Laws.Tables
import Derived.Laws.StructEq
import Derived.ChangeKeysEq
import Derived.Lib.QuietBelow
import Derived.Deep.WholeRow
import Derived.Handy
namespace Go.Proofs.YtgcmimcalmjaaaaGreatDoor
open Go.ChangeShapes Go.WideShapes Go.ChangeAt Go.RowKit
theorem isByte (x:Int) (w:World):Calls Tryz.prog 69 #[.i x] w fun e w'=>e=.returned (.bool (Cs x 0 255))∧w'=w:=by
 by_cases h:0≤x∧x≤255
 ·have e:=Ad (Bn h)
  go_enter Tryz.func69,Tryz.ntmps69
  go_wp2;go_ret;exact ⟨Ap ((by first | rfl | (simp; done) | (simp; omega):_=true).trans (An e).symm),rfl⟩
 ·have e:=Ad (Cu h)
  go_enter Tryz.func69,Tryz.ntmps69
  go_wp2;go_ret;exact ⟨Ap ((by simp; omega:_=false).trans (An e).symm),rfl⟩
def Nl (n:Nat) (f:Nat→Int):Bool:=decide (∀ j,j<n→Cs (f j) 0 255=true)
theorem Jag {n j:Nat} {f:Nat→Int} (hj:j<n) (h:Cs (f j) 0 255=false):Nl n f=false:=decide_eq_false (fun x=>by have:=x j hj; rw [h] at this; cases this)
theorem Lh {n:Nat} {f:Nat→Int} (h:∀ j,j<n→Cs (f j) 0 255=true):Nl n f=true:=decide_eq_true h
theorem Sv {f:Nat→Int}:Dq 256 f=Nl 256 f:=by
 unfold Dq Nl
 simp
theorem Qy (w:World) (F:Nat→Nat→Prop) (v:Value) (n:Nat) (f:Nat→Int) (H:Ints .i64 w F v n f) :
  Calls Tryz.prog 97 #[v] w fun e w'=>e=.returned (.bool (Nl n f))∧w'=w:=by
 obtain ⟨a,cap,rfl,hn,hrow,-⟩:=H
 go_enter Tryz.func97,Tryz.ntmps97
 go_wp2
 go_loop [7] (fun i=>∃ q:Nat,q≤n∧i=.i q∧∀ j,j<q→Cs (f j) 0 255=true) (fun i=>n-(intOf i).toNat)
 case atStart=>exact ⟨0,Nat.zero_le _,rfl,fun i hi=>absurd hi (Nat.not_lt_zero _)⟩
 case round =>
  obtain ⟨q,hq,rfl,hok⟩:=hrel;have HO:=Ad hok;clear hok
  by_cases hlt:q<n
  ·obtain ⟨b,off,rfl,hcell⟩:=hrow q hlt
   have hlt':(q:Int)<(n:Int):=by omega
   cases hin:Cs (f q) 0 255
   ·go_wp2_with fail
    refine (isByte _ _).mono ?_;rintro e w1 ⟨rfl,rfl⟩;rw [hin];go_wp2;go_ret;exact ⟨Ap (Jag hlt hin).symm,rfl⟩
   ·go_wp2_with fail
    refine (isByte _ _).mono ?_;rintro e w1 ⟨rfl,rfl⟩;rw [hin];go_wp2
    go_round
    case rel =>
     refine ⟨q+1,by omega,by go_num,fun j hj=>?_⟩
     by_cases e:j=q
     ·rw [e]; exact hin
     ·exact An HO j (by omega)
    case measure=>simp [intOf]; omega
  ·have hlt':¬ (q:Int)<(n:Int):=by omega
   go_wp2;go_ret;exact ⟨Ap (Lh (fun j hj=>An HO j (by omega))).symm,rfl⟩
def isRow (n:Nat) (f:Nat→Int) (many:Int):Bool:=decide ((n:Int)=many) && Nl n f
theorem Li {n:Nat} {f:Nat→Int} {many:Int} (h:¬ (n:Int)=many):isRow n f many=false:=by unfold isRow; rw [decide_eq_false h]; rfl
theorem E9 {n:Nat} {f:Nat→Int} {many:Int} (h:(n:Int)=many):isRow n f many=Nl n f:=by unfold isRow; rw [decide_eq_true h]; rfl
theorem Pi {n:Nat} {f:Nat→Int}:Dq n f=isRow n f 256:=by
 by_cases h:n=256
 ·subst h
  rw [E9 (by rfl)];exact Sv
 ·rw [Li (by omega),Lf h]
theorem isBytes (w:World) (F:Nat→Nat→Prop) (v:Value) (n:Nat) (f:Nat→Int) (many:Int) (H:Ints .i64 w F v n f) :
  Calls Tryz.prog 96 #[v,.i many] w fun e w'=>e=.returned (.bool (isRow n f many))∧w'=w:=by
 have H0:=H;obtain ⟨a,cap,rfl,hn,-,-⟩:=H
 by_cases h:(n:Int)=many
 ·have h':((n:Int)==many)=true:=by simpa using h
  have HE:=Ad (E9 (f:=f) h);clear h
  go_enter Tryz.func96,Tryz.ntmps96
  go_wp2_with fail;refine (Qy _ F _ n f H0).mono ?_;rintro e w1 ⟨rfl,rfl⟩;go_wp2;go_ret;exact ⟨Ap HE.out.symm,rfl⟩
 ·have h':((n:Int)==many)=false:=by simpa using h
  have HE:=Ad (Li (f:=f) h);clear h
  go_enter Tryz.func96,Tryz.ntmps96
  go_wp2;go_ret;exact ⟨Ap HE.out.symm,rfl⟩
theorem Lj {m:Nat} {ln:Nat→Nat} {f:Nat→Nat→Int} (h:¬ (1≤m∧m≤8)):Fx m ln f=false:=decide_eq_false (fun x=>h x.2)
theorem Vo {m:Nat} {ln:Nat→Nat} {f:Nat→Nat→Int} (h:∀ i,i<m→Dq (ln i) (f i)=true) (h1:1≤m) (h8:m≤8):Fx m ln f=true:=decide_eq_true ⟨h,h1,h8⟩
theorem Qz (w:World) (F:Nat→Nat→Prop) (v:Value) (m:Nat) (ln:Nat→Nat) (f:Nat→Nat→Int) (H:Ba .i64 w F v m ln f) :
  Calls Tryz.prog 95 #[.agg #[v]] w fun e w'=>e=.returned (.bool (Fx m ln f))∧Below w.heap.size w w':=by
 have L0:Below w.heap.size w (w.alloc (.cells #[v] 41)):=(Below.refl _ _).alloc (Nat.le_refl _) _;have H0:=H.keep (Ab L0 Aj) (fun _ _ _ x=>x);obtain ⟨a,cap,rfl,hm,-,hc⟩:=H0
 by_cases h1:1≤m
 ·by_cases h8:m≤8
  ·go_enter Tryz.func95,Tryz.ntmps95
   have h1':¬ (m:Int)<1:=by omega
   have h8':¬ (8:Int)<m:=by omega
   go_wp2
   go_loop [18] (fun i=>∃ q:Nat,q≤m∧i=.i q∧∀ i,i<q→Dq (ln i) (f i)=true) (fun i=>m-(intOf i).toNat)
   case atStart=>exact ⟨0,Nat.zero_le _,rfl,fun i hi=>absurd hi (Nat.not_lt_zero _)⟩
   case round =>
    obtain ⟨q,hq,rfl,hok⟩:=hrel;have HO:=Ad hok;clear hok
    by_cases hlt:q<m
    ·obtain ⟨b,off,u,rfl,hcell,a',cap',rfl,hn',hrow,-⟩:=hc q hlt
     have hlt':(q:Int)<(m:Int):=by omega
     have EA:=Ad (Pi (n:=ln q) (f:=f q));cases hin:isRow (ln q) (f q) 256
     ·go_wp2_with fail
      refine (isBytes _ (fun _ _=>True) _ (ln q) (f q) 256 ⟨_,_,rfl,hn',hrow,fun _ _ _=>trivial⟩).mono ?_;rintro e w1 ⟨rfl,rfl⟩;rw [hin];go_wp2;go_ret;exact ⟨Ap (Lg hlt ((An EA).trans hin)).symm,L0⟩
     ·go_wp2_with fail
      refine (isBytes _ (fun _ _=>True) _ (ln q) (f q) 256 ⟨_,_,rfl,hn',hrow,fun _ _ _=>trivial⟩).mono ?_;rintro e w1 ⟨rfl,rfl⟩;rw [hin];go_wp2
      go_round
      case rel=>exact ⟨q+1,by omega,by go_num,Qw (An HO) ((An EA).trans hin)⟩
      case measure=>simp [intOf]; omega
    ·have hlt':¬ (q:Int)<(m:Int):=by omega
     have e:q=m:=by omega
     subst e;go_wp2;go_ret;exact ⟨Ap (Vo (An HO) (by omega) (by omega)).symm,L0⟩
  ·have HI:=Ad (Lj (ln:=ln) (f:=f) (m:=m) (by omega))
   have h1':¬ (m:Int)<1:=by omega
   have h8':(8:Int)<m:=by omega
   go_enter Tryz.func95,Tryz.ntmps95
   go_wp2;go_ret;exact ⟨Ap (An HI).symm,L0⟩
 ·have HI:=Ad (Lj (ln:=ln) (f:=f) (m:=m) (by omega))
  have h1':(m:Int)<1:=by omega
  go_enter Tryz.func95,Tryz.ntmps95
  go_wp2;go_ret;exact ⟨Ap (An HI).symm,L0⟩
set_option linter.unusedVariables false
section
variable {P:Program} {ops:Array Oper} {Q:Exit→Act→World→Prop}
def Jbu (ops:Array Oper) (D:List (Nat × Nat)) (i j:Nat):Bool:=D.all fun p=>p.1 != j || p.2==i || Bb ops 6 p.2 i
theorem Jbn {D:List (Nat × Nat)} {i j k:Nat} (h:Jbu ops D k i=true) (hm:(i,j)∈D):j=k∨Bb ops 6 j k=true:=by
 have h1:=List.all_eq_true.1 h (i,j) hm;simp only [bne_self_eq_false,Bool.false_or,Bool.or_eq_true,beq_iff_eq] at h1;exact h1
theorem Bz {id:Nat} {a:Act} {w:World} (ds:List (Option Nat)) (hm:P.follows .mixedOrders=true) (hb:Lm ops=true) (hg:Pu ops=true) (hd:Lw ops ds=true) (hsz:∀ d,d∈slotsOf ds→d<a.tmps.size) (D:List (Nat × Nat))
  (R:Nat→Nat→Nat→Prop) (φ:Nat→(Nat→Value)→World→Prop)
  (hstab:∀ i j o V x W W',i≠j→ops[i]?=some o→A0 o j=false∧(i,j) ∉ D→Wrote (R j) W W'→φ i V W→φ i (Df V j x) W')
  (hstep:∀ i o a' W K,ops[i]?=some o→Fr (slotsOf ds) a a'→Wrote (fun b o'=>∃ j oj,j≠i∧ops[j]?=some oj∧Bb ops 6 j i=false∧R j b o') w W→(∀ j,A0 o j=true→Jbu ops D i j=true→φ j (Bl ds a') W)→(∀ v W',Wrote (R i) W W'→φ i (Df (Bl ds a') i (if o.dst=none then undef else v)) W'→K (a'.put o.dst v) W')→o.wp P a' W K Q)
  (hend:∀ a' W,Fr (slotsOf ds) a a'→Wrote (fun b o=>∃ j,R j b o) w W→(∀ i,i<ops.size→(∀ j,(i,j) ∉ D)→φ i (Bl ds a') W)→Q .normal a' W):(Code.region id ops true).wp P Q a w:=by
 unfold Lw at hd;simp only [Bool.and_eq_true,decide_eq_true_eq] at hd;obtain ⟨⟨hlen,hd1⟩,hd2⟩:=hd
 have hgo:∀ (i:Nat) (o:Oper),ops[i]?=some o→o.guard=none:=fun i o ho=>by
  have h1:=(Array.all_eq_true_iff_forall_mem.1 hg) o (Array.mem_of_getElem? ho)
  simpa using h1
 have hlt:∀ (i:Nat) (o:Oper),ops[i]?=some o→i<ops.size:=fun i o ho=>by
  rcases Nat.lt_or_ge i ops.size with h | h
  ·exact h
  ·rw [Array.getElem?_eq_none h] at ho; cases ho
 have hdst:∀ (i:Nat) (o:Oper),ops[i]?=some o→ds[i]?=some o.dst:=fun i o ho=>by
  have h1:=List.all_eq_true.1 hd1 i (List.mem_range.2 (by rw [hlen]; exact hlt i o ho));rw [ho] at h1;simp only [Option.map_some,Option.getD_some,beq_iff_eq] at h1;exact h1.symm
 have hne:∀ i j d,i≠j→ds[i]?=some (some d)→ds[j]?≠some (some d):=fun i j d h hi hj=>by
  have li:i<ds.length:=by rcases Nat.lt_or_ge i ds.length with x | x; exact x; (rw [List.getElem?_eq_none x] at hi; cases hi)
  have lj:j<ds.length:=by rcases Nat.lt_or_ge j ds.length with x | x; exact x; (rw [List.getElem?_eq_none x] at hj; cases hj)
  have h1:=List.all_eq_true.1 (List.all_eq_true.1 hd2 i (List.mem_range.2 li)) j (List.mem_range.2 lj);rw [hi,hj] at h1
  simp at h1
  exact h h1
 refine Gf hm hb (fun _ l a' W=>Fr (slotsOf ds) a a'∧Wrote (fun b o=>∃ j,l[j]?=some true∧R j b o) w W∧(∀ (k:Nat) (o:Oper),l[k]?=some true→ops[k]?=some o→∀ j:Nat,A0 o j=true→l[j]?=some true)∧∀ i:Nat,l[i]?=some true→(∀ j:Nat,l[j]?=some true→(i,j) ∉ D)→φ i (Bl ds a') W) ?_ ?_ ?_
 ·have hno:∀ i:Nat,(Array.replicate ops.size false)[i]?≠some true:=fun i h=>by
   rcases Nat.lt_or_ge i ops.size with x | x
   ·simp [x] at h
   ·rw [Array.getElem?_eq_none (by simpa using x)] at h; cases h
  exact ⟨⟨rfl,rfl,fun _ _=>rfl⟩,⟨rfl,rfl,rfl,Nat.le_refl _,fun _ _ _=>rfl,fun _ _ _ _=>rfl,fun _ _ _=>rfl⟩,fun k _ h=>absurd h (hno k),fun i h=>absurd h (hno i)⟩
 ·rintro l a' W i o K hl ⟨F,L,hcl,hφ⟩ ho hf ha hK
  have hi:=hlt i o ho;have hdi:=hdst i o ho
  have hdone:∀ j,l[j]?=some true→∀ b o,R j b o→∃ j oj,j≠i∧ops[j]?=some oj∧Bb ops 6 j i=false∧R j b o:=fun j h1 b o h2=>by
   have hjl:j<ops.size:=by
    rcases Nat.lt_or_ge j ops.size with x | x
    ·exact x
    ·rw [Array.getElem?_eq_none (by omega)] at h1; cases h1
   have hjo:ops[j]?=some ops[j]:=Array.getElem?_eq_getElem hjl;refine ⟨j,ops[j],(fun e=>by rw [e,hf] at h1; cases h1),hjo,?_,h2⟩;cases hw:Bb ops 6 j i
   ·rfl
   ·have:=Gc hcl 6 j i h1 hw
    rw [hf] at this; cases this
  refine Ky ho (hgo i o ho) (hstep i o a' W K ho F (L.mono (fun b o _ ⟨j,h1,h2⟩=>hdone j h1 b o h2)) (fun j hj hv=>hφ j (D9 ha hj) (fun j' hj' hm=>?_)) (fun v W' hW hv=>hK _ _ ?_))
  ·rcases Jbn hv hm with e | e
   ·rw [e,hf] at hj'; cases hj'
   ·have:=Gc hcl 6 j' i hj' e
    rw [hf] at this; cases this
  have hset:(l.setIfInBounds i true)[i]?=some true:=by simp [hl,hi]
  have hval:Bl ds (a'.put o.dst v)=Df (Bl ds a') i (if o.dst=none then undef else v):=by
   funext k
   by_cases e:k=i
   ·subst e
    rw [Ai]
    cases e:o.dst with
    | none =>
     rw [e] at hdi;unfold Bl;rw [hdi]
     simp
    | some d =>
     rw [e] at hdi;have hmem:d∈slotsOf ds:=List.mem_filterMap.2 ⟨some d,List.mem_of_getElem? hdi,rfl⟩;unfold Bl;rw [hdi]
     simpa using Fz (by rw [F.size]; exact hsz d hmem)
   ·rw [Ar _ _ e]
    cases e2:o.dst with
    | none=>rfl
    | some d =>
     rw [e2] at hdi;unfold Bl
     cases e3:ds[k]? with
     | none=>rfl
     | some x =>
      cases x with
      | none=>rfl
      | some d' =>
       have:d≠d':=fun x=>hne k i d' e e3 (by rw [hdi,x])
       exact Es this
  refine ⟨?_,(L.mono (fun b o _ ⟨j,h1,h2⟩=>⟨j,by rw [Array.getElem?_setIfInBounds_ne (fun e=>by rw [← e,hf] at h1; cases h1)]; exact h1,h2⟩)).trans (hW.mono (fun b o _ h=>⟨i,hset,h⟩)),fun k o' hk hko j hj=>?_,fun k hk hkd=>?_⟩
  ·cases e:o.dst with
   | none=>exact F
   | some d =>
    rw [e] at hdi;exact F.put (List.mem_filterMap.2 ⟨some d,List.mem_of_getElem? hdi,rfl⟩) v
  ·have h1:l[j]?=some true:=by
    by_cases e:k=i
    ·subst e
     rw [ho] at hko;obtain rfl:=Option.some.inj hko;exact D9 ha hj
    ·rw [Array.getElem?_setIfInBounds_ne (by omega)] at hk
     exact hcl k o' hk hko j hj
   by_cases e:j=i
   ·rw [e]; exact hset
   ·rw [Array.getElem?_setIfInBounds_ne (by omega)]; exact h1
  ·rw [hval]
   by_cases e:k=i
   ·subst e
    exact hv
   ·rw [Array.getElem?_setIfInBounds_ne (by omega)] at hk
    have hkl:k<ops.size:=by
     rcases Nat.lt_or_ge k ops.size with x | x
     ·exact x
     ·rw [Array.getElem?_eq_none (by omega)] at hk; cases hk
    have hko:ops[k]?=some ops[k]:=Array.getElem?_eq_getElem hkl
    have hnw:A0 ops[k] i=false:=by
     cases hw:A0 ops[k] i
     ·rfl
     ·have:=hcl k _ hk hko i hw
      rw [hf] at this; cases this
    exact hstab k i _ _ _ W W' e hko ⟨hnw,hkd i hset⟩ hW (hφ k hk (fun j hj=>hkd j (by
     by_cases e:j=i
     ·rw [e]; exact hset
     ·rw [Array.getElem?_setIfInBounds_ne (by omega)]; exact hj)))
 ·rintro l a' W hall ⟨F,L,-,hφ⟩
  exact hend a' W F (L.mono (fun b o _ ⟨j,_,h2⟩=>⟨j,h2⟩)) (fun i hi hd=>hφ i (hall i hi) (fun j _=>hd j))
end
set_option maxHeartbeats 1000000
set_option maxRecDepth 4000
set_option linter.unusedSimpArgs false
open Go.Sort
theorem Mf (x m:Int) (hm:0<m):(x.tmod m<0→x.tmod m+m=x%m)∧(¬ x.tmod m<0→x.tmod m=x%m)∧-m<x.tmod m∧x.tmod m<m:=by
 have h1:=Int.emod_nonneg x (show m≠0 by omega);have h2:=Int.emod_lt_of_pos x hm
 rcases Int.le_total 0 x with h | h
 ·have e:=Int.tmod_eq_emod_of_nonneg (b:=m) h
  rw [e];exact ⟨fun _=>by omega,fun _=>rfl,by omega,by omega⟩
 ·have e:x.tmod m=-((-x)%m):=by
   have:=Int.neg_tmod (-x) m;rw [Int.neg_neg] at this;rw [this,Int.tmod_eq_emod_of_nonneg (by omega)]
  have k1:=Int.emod_nonneg (-x) (show m≠0 by omega);have k2:=Int.emod_lt_of_pos (-x) hm;have d1:=Int.emod_add_mul_ediv x m;have d2:=Int.emod_add_mul_ediv (-x) m;rw [e]
  have key:(-x)%m=0∧x%m=0∨(-x)%m=m-x%m:=by
   by_cases z:x%m=0
   ·left
    refine ⟨?_,z⟩;have:m ∣ x:=Int.dvd_of_emod_eq_zero z;exact Int.emod_eq_zero_of_dvd (Int.dvd_neg.2 this)
   ·right
    rw [Int.neg_emod]
    have hn:¬ m ∣ x:=fun hd=>z (Int.emod_eq_zero_of_dvd hd)
    rw [if_neg hn]
    omega
  rcases key with ⟨k,z⟩ | k
  ·exact ⟨fun h=>by omega,fun _=>by omega,by omega,by omega⟩
  ·by_cases z:(-x)%m=0
   ·exact ⟨fun h=>by omega,fun _=>by omega,by omega,by omega⟩
   ·exact ⟨fun h=>by omega,fun h=>by omega,by omega,by omega⟩
theorem Jce (x:Int) (w:World):Calls Tryz.prog 100 #[.i x,.i 16] w fun e w'=>e=.returned (.i (x%16))∧w'=w:=by
 obtain ⟨h1,h2,h3,h4⟩:=Mf x 16 (by omega);have HQ:=Ad (And.intro h1 h2);clear h1 h2
 by_cases hn:x.tmod 16<0
 ·go_enter Tryz.func100,Tryz.ntmps100
  go_wp2;go_ret;exact ⟨Az ((An HQ).1 hn),rfl⟩
 ·go_enter Tryz.func100,Tryz.ntmps100
  go_wp2;go_ret;exact ⟨Az ((An HQ).2 (by omega)),rfl⟩
theorem Y0 (x:Int) (w:World):Calls Tryz.prog 100 #[.i x,.i 64] w fun e w'=>e=.returned (.i (x%64))∧w'=w:=by
 obtain ⟨h1,h2,h3,h4⟩:=Mf x 64 (by omega);have HQ:=Ad (And.intro h1 h2);clear h1 h2
 by_cases hn:x.tmod 64<0
 ·go_enter Tryz.func100,Tryz.ntmps100
  go_wp2;go_ret;exact ⟨Az ((An HQ).1 hn),rfl⟩
 ·go_enter Tryz.func100,Tryz.ntmps100
  go_wp2;go_ret;exact ⟨Az ((An HQ).2 (by omega)),rfl⟩
theorem Jcf (w:World) (t:Int) (t0:0≤t) (t1:t≤20000):Calls Tryz.prog 102 #[.i t] w fun e w'=>e=.returned (.i (Dk t))∧w'=w:=by
 have hm:t.tmod 64=t%64:=Int.tmod_eq_emod_of_nonneg t0
 by_cases h:48<t%64
 ·have HE:Hid (Dk t=0):=if_pos h
  have h':¬ t%64≤48:=by omega
  go_enter Tryz.func102,Tryz.ntmps102
  go_wp2;go_ret;exact ⟨Az HE.out.symm,rfl⟩
 ·have HE:Hid (Dk t=t%64):=if_neg h
  have h':t%64≤48:=by omega
  go_enter Tryz.func102,Tryz.ntmps102
  go_wp2;go_ret;exact ⟨Az HE.out.symm,rfl⟩
def scr (n:Nat) (f:Nat→Int):Nat→Int:=fun i=>if i<n then f i else 0
theorem Wo (n:Nat) (f:Nat→Int):(rowVals (min n 48) f++(rowVals 48 (fun _=>0)).drop (min n 48))=rowVals 48 (scr n f):=by
 apply List.ext_getElem?
 intro i
 by_cases h:i<min n 48
 ·rw [List.getElem?_append_left (by rw [A2]; omega),Bj _ _ i h,Bj _ _ i (by omega)]
  unfold scr;rw [if_pos (by omega)]
 ·rw [List.getElem?_append_right (by rw [A2]; omega),A2,List.getElem?_drop]
  by_cases k:i<48
  ·rw [show min n 48+(i-min n 48)=i by omega,Bj _ _ i k,Bj _ _ i k]
   unfold scr;rw [if_neg (by omega)]
  ·rw [List.getElem?_eq_none (by rw [A2]; omega),List.getElem?_eq_none (by rw [A2]; omega)]
theorem U8:(rowVals 48 (fun _=>0)).toArray=#[.i 0,.i 0,.i 0,.i 0,.i 0,.i 0,.i 0,.i 0,.i 0,.i 0,.i 0,.i 0,.i 0,.i 0,.i 0,.i 0,.i 0,.i 0,.i 0,.i 0,.i 0,.i 0,.i 0,.i 0,.i 0,.i 0,.i 0,.i 0,.i 0,.i 0,.i 0,.i 0,.i 0,.i 0,.i 0,.i 0,.i 0,.i 0,.i 0,.i 0,.i 0,.i 0,.i 0,.i 0,.i 0,.i 0,.i 0,.i 0]:=by rfl
theorem P4:(rowVals 48 (fun _=>0)).toArray.size=48:=by rfl
theorem below_setRow {n:Nat} {w W:World} (h:Below n w W) {g:Nat} (cs:Array Value) (hg:n≤g):Below n w (W.setRow g cs) :=
 ⟨h.os,h.tape,h.output,by rw [setRow_size]; exact h.size,fun k hk=>by rw [setRow_other _ _ _ _ (by omega)]; exact h.block k hk⟩
theorem Ic (n:Nat) (f:Nat→Int):(rowVals n f).toArray.all (·.oneCell')=true:=by
 rw [Array.all_eq_true_iff_forall_mem];intro x hx;exact Fy n f x (by simpa using hx)
theorem Hg:(Tryz.prog.info? 148).map (·.size)=some 48:=by kernel_rfl
theorem Y1 (w:World) (F:Nat→Nat→Prop) (u:Value) (n:Nat) (f:Nat→Int) (H:Ints .i64 w F u n f) :
  Calls Tryz.prog 132 #[u] w fun e w'=>e=.returned (.agg (rowVals 48 (scr n f)).toArray)∧Below w.heap.size w w':=by
 obtain ⟨ua,ux,rfl,un,hr,-⟩:=H
 go_enter Tryz.func132,Tryz.ntmps132
 go_wp2;rw [← U8];have L0:Below w.heap.size w ((w.alloc (.cells (rowVals 48 (fun _=>0)).toArray 148)).alloc (.cells (rowVals 48 (fun _=>0)).toArray 148)):=((Below.refl _ _).alloc (Nat.le_refl _) _).alloc (by simp) _;have k0:((w.alloc (.cells (rowVals 48 (fun _=>0)).toArray 148)).alloc (.cells (rowVals 48 (fun _=>0)).toArray 148)).heap[w.heap.size]?=some (.cells (rowVals 48 (fun _=>0)).toArray 148 (0,0)):=Ax (Al w _ _) _
 have k1:((w.alloc (.cells (rowVals 48 (fun _=>0)).toArray 148)).alloc (.cells (rowVals 48 (fun _=>0)).toArray 148)).heap[w.heap.size+1]?=some (.cells (rowVals 48 (fun _=>0)).toArray 148 (0,0)):=by simpa using Al (w.alloc (.cells (rowVals 48 (fun _=>0)).toArray 148)) (rowVals 48 (fun _=>0)).toArray 148
 replace hr:=hr.keep (Ab L0 Aj) (fun _ _ _ x=>x);generalize ((w.alloc (.cells (rowVals 48 (fun _=>0)).toArray 148)).alloc (.cells (rowVals 48 (fun _=>0)).toArray 148))=W0 at *
 obtain ⟨W1,hcp,kk0,kk1,L1⟩:∃ W1,(Builtin.copy_ #[25,25] 3 #[.slice (some ⟨w.heap.size+1,0,none⟩) 48 48,.slice ua n ux]).run Tryz.prog W0=.ok (.i ((min n 48:Nat):Int)) W1∧W1.heap[w.heap.size]?=some (.cells (rowVals 48 (fun _=>0)).toArray 148 (0,0))∧W1.heap[w.heap.size+1]?=some (.cells (rowVals 48 (scr n f)).toArray 148 (0,0))∧Below w.heap.size w W1:=by
  by_cases hn:n=0
  ·subst hn
   refine ⟨W0,?_,k0,?_,L0⟩
   ·have:=run_copy_none (P:=Tryz.prog) W0 25 25 3 3 (some ⟨w.heap.size+1,0,none⟩) ua 48 48 0 ux Tryz.underlying25 (by kernel_rfl) (by rfl)
    exact this
   ·rw [k1]
    congr 3
  ·obtain ⟨rb,ro,rfl,-⟩:=hr 0 (by omega)
   have hr':=hr;have:=run_copy_row (P:=Tryz.prog) W0 25 25 3 3 (w.heap.size+1) 0 48 48 ⟨rb,ro,none⟩ n ux (rowVals 48 (fun _=>0)).toArray 148 (rowVals (min n 48) f) Tryz.underlying25 (by kernel_rfl) k1 (by rw [A2]) (by exact Cy (fun i hi=>hr i (by omega))) (by rw [A2,P4]; omega) (Fy _ _);rw [A2,List.take_zero,List.nil_append,Nat.zero_add,Wo] at this;refine ⟨_,this,?_,?_,?_⟩
   ·rw [setRow_other _ _ _ _ (by omega)]
    exact k0
   ·exact setRow_heap _ _ _ _ _ _ k1
   ·exact below_setRow L0 _ (by omega)
 simp only [hcp,Result.andThen];rw [Oper.upon_value];clear hcp hr k0 k1 L0;go_upto_region 3 with (fail);rename_i K1 h1;refine wp_region_lit ?_;refine wpList_load_row rfl _ _ rfl (w.heap.size+1) rfl _ _ _ _ kk1 Tryz.underlying148 rfl Hg ?_;refine wpList_store_row rfl _ _ _ rfl w.heap.size _ rfl rfl _ _ kk0 Hg rfl (Ic _ _) ?_;refine h1 _ _ ?_;go_wp2;refine bodyPost_ret (v:=.agg (rowVals 48 (scr n f)).toArray) (results_cell_row (by rfl) _ _ w.heap.size _ _ _ _ rfl (setRow_heap _ _ _ _ _ _ kk0) Tryz.underlying148 rfl Hg) rfl ?_;exact ⟨rfl,below_setRow L1 _ (Nat.le_refl _)⟩
theorem Ja7 (g:Nat→Int) (q:Nat) (hq:q<48) (w:World):(Instr.index 148 (.agg (rowVals 48 g).toArray) (.i q)).run Tryz.prog w=.ok (.i (g q)) w:=by
 obtain ⟨i0,hi,hz0,hz1,hz2⟩:=info_parts Is
 have hx:(rowVals 48 g).toArray[q]?=some (.i (g q)):=by rw [List.getElem?_toArray,Bj 48 g q hq]
 have hp:=run_part_plain (P:=Tryz.prog) w (e:=3) (by kernel_rfl) (off:=q) hx
 have h2:(q:Int)<((48:Nat):Int):=by omega
 simp [Instr.index,asIntOf,run_underlying Tryz.underlying148,Result.andThen,sizeOf,typeInfo,hi,hz1,hp,h2]
 intro h; omega
def Iw (q:Nat) (g:Nat→Int):Nat→Int:=fun i=>if i<q then g i%64 else g i
theorem Te (q:Nat) (hq:q<48) (g:Nat→Int):(rowVals 48 (Iw q g)).toArray.setIfInBounds q (.i (g q%64))=(rowVals 48 (Iw (q+1) g)).toArray:=by
 rw [List.setIfInBounds_toArray]
 congr 1
 apply List.ext_getElem?
 intro j
 by_cases hj:j<48
 ·rw [Bj 48 _ j hj]
  by_cases e:q=j
  ·subst e
   rw [List.getElem?_set_self (by rw [A2]; exact hj)];unfold Iw;rw [if_pos (by omega)]
  ·rw [List.getElem?_set_ne e,Bj 48 _ j hj]
   unfold Iw
   by_cases k:j<q
   ·rw [if_pos k,if_pos (by omega)]
   ·rw [if_neg k,if_neg (by omega)]
 ·rw [List.getElem?_eq_none (by rw [List.length_set,A2]; omega),List.getElem?_eq_none (by rw [A2]; omega)]
theorem Wp (g:Nat→Int):rowVals 48 (Iw 48 g)=rowVals 48 (fun i=>g i%64):=List.map_congr_left (fun i hi=>by rw [Iw,if_pos (List.mem_range.1 hi)])
theorem Tf (g:Nat→Int):rowVals 48 (Iw 0 g)=rowVals 48 g:=List.map_congr_left (fun i hi=>by rw [Iw,if_neg (by omega)])
theorem Jcg (w:World) (g:Nat→Int):Calls Tryz.prog 133 #[.agg (rowVals 48 g).toArray] w fun e w'=>e=.returned (.agg (rowVals 48 (fun i=>g i%64)).toArray)∧Below w.heap.size w w':=by
 go_enter Tryz.func133,Tryz.ntmps133
 go_upto_region 1 with (fail);rw [← U8];have L0:Below w.heap.size w ((w.alloc (.cells (rowVals 48 g).toArray 148)).alloc (.cells (rowVals 48 (fun _=>0)).toArray 148)):=((Below.refl _ _).alloc (Nat.le_refl _) _).alloc (by simp) _;have k0:((w.alloc (.cells (rowVals 48 g).toArray 148)).alloc (.cells (rowVals 48 (fun _=>0)).toArray 148)).heap[w.heap.size]?=some (.cells (rowVals 48 g).toArray 148 (0,0)):=Ax (Al w _ _) _
 have k1:((w.alloc (.cells (rowVals 48 g).toArray 148)).alloc (.cells (rowVals 48 (fun _=>0)).toArray 148)).heap[w.heap.size+1]?=some (.cells (rowVals 48 (fun _=>0)).toArray 148 (0,0)):=by simpa using Al (w.alloc (.cells (rowVals 48 g).toArray 148)) (rowVals 48 (fun _=>0)).toArray 148
 generalize ((w.alloc (.cells (rowVals 48 g).toArray 148)).alloc (.cells (rowVals 48 (fun _=>0)).toArray 148))=W0 at *;refine wp_region_lit ?_;refine wpList_load_row rfl _ _ rfl w.heap.size rfl _ _ _ _ k0 Tryz.underlying148 rfl Hg ?_;go_wp2
 go_loopw [6] (fun i wr=>∃ q:Nat,q≤48∧i=.i q∧wr.heap[w.heap.size]?=some (.cells (rowVals 48 (Iw q g)).toArray 148 (0,0))∧wr.heap[w.heap.size+1]?=some (.cells (rowVals 48 (fun _=>0)).toArray 148 (0,0))∧Below w.heap.size w wr) (fun i _=>48-(intOf i).toNat)
 case atStart=>exact ⟨0,by omega,rfl,by rw [Tf]; exact k0,k1,L0⟩
 case round =>
  obtain ⟨q,hq,rfl,h0,h1,L⟩:=hrel;clear k0 k1 L0
  by_cases hlt:q<48
  ·have hlt':(q:Int)<48:=by omega
   have hix:=Ja7 g q hlt
   have hc:wr.cell? ⟨w.heap.size,q,none⟩=some (.i (Iw q g q)):=by rw [Ag h0 q,List.getElem?_toArray,Bj 48 _ q hlt]
   have hf:=As h0 q;go_wp2_with fail;refine (Y0 _ _).mono ?_;rintro e w1 ⟨rfl,rfl⟩;go_wp2
   go_round
   case rel =>
    refine ⟨q+1,by omega,by go_num,?_,Bc h1 (by omega),L.setCell (by simp) _⟩;have:=Af (o:=q) h0 (.i (g q%64));rw [Te q hlt] at this;exact this
   case measure=>simp [intOf]; omega
  ·have hlt':¬ (q:Int)<48:=by omega
   have hq48:q=48:=by omega
   subst hq48;rw [Wp] at h0;clear hlt hlt' hq;go_upto_region 6 with (fail);rename_i K1 h2;refine wp_region_lit ?_;refine wpList_load_row rfl _ _ rfl w.heap.size rfl _ _ _ _ h0 Tryz.underlying148 rfl Hg ?_;refine wpList_store_row rfl _ _ _ rfl (w.heap.size+1) _ rfl rfl _ _ h1 Hg rfl (Ic _ _) ?_;refine h2 _ _ ?_;go_wp2;refine bodyPost_ret (v:=.agg (rowVals 48 (fun i=>g i%64)).toArray) (results_cell_row (by rfl) _ _ (w.heap.size+1) _ _ _ _ rfl (setRow_heap _ _ _ _ _ _ h1) Tryz.underlying148 rfl Hg) rfl ?_;exact ⟨rfl,below_setRow L _ (by omega)⟩
theorem Kj {P:Program} {ops:Array Oper} {W:World} {Q:Act→Prop} {rest:List Oper} {o:Oper} {a:Act} (hw:Region.wanted o (yielded ops a.tmps)=true) (ty:TypeId) (x:Operand) (ho:o.op=.load ty x)
  (g:Nat) (hx:a.eval x=(pt g 0)) (t:TypeId) (cs:Array Value) (d:TypeDesc) (hg:W.heap[g]?=some (.cells cs t (0,0)))
  (hu:P.underlying ty=some d) (hd:(match d with | .struct _ | .array _ _=>true | _=>false)=true) (hi:(P.info? ty).map (·.size)=some cs.size)
  (h:wpQuiet P ops (fun w'=>∃ p:Regrown,w'=grow (redrawn W p.d) p.os) Q rest (a.put o.dst (.agg cs))):wpQuiet P ops (fun w'=>∃ p:Regrown,w'=grow (redrawn W p.d) p.os) Q (o :: rest) a :=
 Go.BigFrame.wpQuiet_want hw (fun K hK=>⟨.agg cs,fun w' ⟨p,e⟩=>by
  subst e;have hb:=((below_regrown W p.d p.os).block _ (Ac hg)).trans hg;unfold Oper.quietAt execOp;simp only [ho,hx,Instr.loadAt,Instr.sureAddr,Sem.run_bind,Sem.run_pure,Result.andThen_ok,run_loadVar_row _ g t ty cs (0,0) d hb hu hd hi]
  exact ⟨rfl,rfl⟩,hK _ h⟩)
theorem Oq (f g:Nat→Int) (w:World) (d:Nat):∀ is:List Nat,(∀ i,i∈is→i<48)→(Op.eqItems (d+1) 3 1 (rowVals 48 f).toArray (rowVals 48 g).toArray is).run Tryz.prog w=.ok (is.all (fun i=>f i==g i)) w
 | [],_=>by simp [Op.eqItems]
 | i :: is,h=>by
  have hi:=h i (by simp);have p1:=run_part_plain (P:=Tryz.prog) w (e:=3) (by kernel_rfl) (off:=i) (xs:=(rowVals 48 f).toArray) (v:=.i (f i)) (by rw [List.getElem?_toArray,Bj 48 f i hi]);have p2:=run_part_plain (P:=Tryz.prog) w (e:=3) (by kernel_rfl) (off:=i) (xs:=(rowVals 48 g).toArray) (v:=.i (g i)) (by rw [List.getElem?_toArray,Bj 48 g i hi]);have ih:=Oq f g w d is (fun j hj=>h j (by simp [hj]));simp only [Op.eqItems,Sem.run_bind,Nat.mul_one,p1,p2,Result.andThen_ok,run_equalIn_int w d 3 .i64 .i64 _ _ Tryz.underlying3];cases hb:f i==g i
  ·simp [hb]
  ·simp [hb,ih]
theorem Jdd (f g:Nat→Int) (w:World):(binOp .eql 148 (.agg (rowVals 48 f).toArray) (.agg (rowVals 48 g).toArray)).run Tryz.prog w=.ok (.bool ((List.range 48).all (fun i=>f i==g i))) w:=by
 obtain ⟨i0,hi,hz0,hz1,hz2⟩:=info_parts Is
 have hc:Tryz.prog.cellsOf 3=1:=by kernel_rfl
 rw [run_eql_struct,show (10000:Nat)=9999+1 from rfl,run_equalIn_array w 9999 _ _ Tryz.underlying148 hi,hc,show (9999:Nat)=9998+1 from rfl,Oq f g w 9998 _ (fun i hi=>List.mem_range.1 hi)]
 rfl
theorem Jch (n:Nat) (f:Nat→Int) (hn:n≤48):(List.range 48).all (fun i=>scr n f i==scr n f i%64)=allIn n f 0 63:=by
 cases h:allIn n f 0 63
 ·rw [Bool.eq_false_iff]
  intro e
  have:=Kf (n:=n) (f:=f) (lo:=0) (hi:=63) (fun j hj=>by
   have:=List.all_eq_true.1 e j (List.mem_range.2 (by omega));have e2:scr n f j=f j:=if_pos hj;rw [e2] at this;have:=eq_of_beq this
   omega)
  rw [h] at this;cases this
 ·rw [List.all_eq_true]
  intro i hi;have k:=Lz h
  by_cases hlt:i<n
  ·have e2:scr n f i=f i:=if_pos hlt
   have:=k i hlt;rw [e2];exact beq_iff_eq.2 (by omega)
  ·have e2:scr n f i=0:=if_neg hlt
   rw [e2]
   rfl
theorem Ot (w:World) (F:Nat→Nat→Prop) (u:Value) (n:Nat) (f:Nat→Int) (many:Int) (H:Ints .i64 w F u n f) (h1:many≤48) :
  Calls Tryz.prog 101 #[u,.i many] w fun e w'=>e=.returned (.bool (decide ((n:Int)=many) && allIn n f 0 63))∧Below w.heap.size w w':=by
 obtain ⟨ua,ux,rfl,un,hr,hF⟩:=H
 have H:Ints .i64 w F (.slice ua n ux) n f:=⟨_,_,rfl,un,hr,hF⟩
 clear hr hF
 go_enter Tryz.func101,Tryz.ntmps101
 go_wp2_with fail;refine (Y1 _ F _ n f H).mono ?_;rintro e w1 ⟨rfl,L1⟩;have hlen:(rowVals 48 (scr n f)).length=48:=A2 _ _
 have hsc:(storeCells ⟨w1.heap.size,0,none⟩ (rowVals 48 (scr n f)) 0).run Tryz.prog (w1.alloc (.cells #[.i 0,.i 0,.i 0,.i 0,.i 0,.i 0,.i 0,.i 0,.i 0,.i 0,.i 0,.i 0,.i 0,.i 0,.i 0,.i 0,.i 0,.i 0,.i 0,.i 0,.i 0,.i 0,.i 0,.i 0,.i 0,.i 0,.i 0,.i 0,.i 0,.i 0,.i 0,.i 0,.i 0,.i 0,.i 0,.i 0,.i 0,.i 0,.i 0,.i 0,.i 0,.i 0,.i 0,.i 0,.i 0,.i 0,.i 0,.i 0] 148))=.ok () (w1.alloc (.cells (rowVals 48 (scr n f)).toArray 148)):=run_storeCells_new (P:=Tryz.prog) w1 148 #[.i 0,.i 0,.i 0,.i 0,.i 0,.i 0,.i 0,.i 0,.i 0,.i 0,.i 0,.i 0,.i 0,.i 0,.i 0,.i 0,.i 0,.i 0,.i 0,.i 0,.i 0,.i 0,.i 0,.i 0,.i 0,.i 0,.i 0,.i 0,.i 0,.i 0,.i 0,.i 0,.i 0,.i 0,.i 0,.i 0,.i 0,.i 0,.i 0,.i 0,.i 0,.i 0,.i 0,.i 0,.i 0,.i 0,.i 0,.i 0] (rowVals 48 (scr n f)).toArray Hg rfl (Ic _ _);go_upto_region 2 with (fail)
 clear hlen hsc;have k0:=Al w1 (rowVals 48 (scr n f)).toArray 148;have L2:Below w.heap.size w (w1.alloc (.cells (rowVals 48 (scr n f)).toArray 148)):=L1.alloc (L1.size) _;generalize w1.alloc (.cells (rowVals 48 (scr n f)).toArray 148)=W2 at *
 by_cases hn:(n:Int)=many
 ·have hd:((n:Int)==many)=true:=by simpa using hn
  have HE:Hid ((decide ((n:Int)=many) && allIn n f 0 63)=allIn n f 0 63):=by show _=_; rw [decide_eq_true hn,Bool.true_and]
  have hS:=Jch n f (by omega);have hE:=Jdd (scr n f) (fun i=>scr n f i%64);rw [hS] at hE;clear hS;refine wp_region_quiet_below (by kernel_rfl) (by kernel_rfl) ?_
  iterate 5 (quiet_step (fail))
  iterate 2 (refine Kj (by kernel_rfl) _ _ rfl w1.heap.size rfl _ _ _ k0 Tryz.underlying148 rfl Hg ?_)
  quiet_step ((go_at_call 133; exact Calls.regrown_of (Jcg _ _)))
  iterate 3 (quiet_step (fail))
  refine wpQuiet_nil ?_;intro _ hw';obtain ⟨⟨dq,osq⟩,hw''⟩:=hw';subst hw'';have LQ:=below_regrown W2 dq osq;generalize Go.Sort.grow (redrawn W2 dq) osq=w4 at *;go_wp2;go_ret;exact ⟨Ap HE.out.symm,L2.trans (LQ.mono L2.size)⟩
 ·have hd:((n:Int)==many)=false:=by simpa using hn
  have HE:Hid ((decide ((n:Int)=many) && allIn n f 0 63)=false):=by show _=_; rw [decide_eq_false hn,Bool.false_and]
  refine wp_region_quiet_below (by kernel_rfl) (by kernel_rfl) ?_
  iterate 11 (quiet_step (fail))
  refine wpQuiet_nil ?_;intro _ hw';obtain ⟨⟨dq,osq⟩,hw''⟩:=hw';subst hw'';have LQ:=below_regrown W2 dq osq;generalize Go.Sort.grow (redrawn W2 dq) osq=w4 at *;go_wp2;go_ret;exact ⟨Ap HE.out.symm,L2.trans (LQ.mono L2.size)⟩
set_option maxHeartbeats 1000000
theorem Hz (w:World) (a s:Int) (a0:0≤a) (a1:a<65536) (s0:0<s) (s1:s<65536):Calls Tryz.prog 221 #[.int .u16 a,.int .u16 s] w fun e w'=>e=.returned (.i (a%s))∧w'=w:=by
 have ht:a.tmod s=a%s:=Int.tmod_eq_emod_of_nonneg a0
 have hz:(s==0)=false:=by simp; omega
 have hz':s≠0:=by omega
 have m0:0≤a%s:=Int.emod_nonneg _ hz';have m1:a%s<65536:=Int.lt_of_lt_of_le (Int.emod_lt_of_pos _ s0) (by omega)
 have hw:IntKind.u16.wrap (a%s)=a%s:=by rw [IntKind.wrap_u16]; omega
 go_enter Tryz.func221,Tryz.ntmps221
 go_wp2;go_ret;exact ⟨rfl,rfl⟩
def Ia (n p:Int):Value:=if n=1 then .iface 198 (.agg #[.i p]) else if n=2 then .iface 202 (.agg #[.i p]) else if n=3 then .iface 203 (.agg #[.i p]) else if n=4 then .iface 204 (.agg #[.i p]) else if n=5 then .iface 199 (.agg #[.i p]) else if n=6 then .iface 200 (.agg #[.i p]) else .iface 205 (.agg #[.i p])
theorem Jao (p:Int):Ia 1 p=.iface 198 (.agg #[.i p]):=rfl
theorem Jap (p:Int):Ia 2 p=.iface 202 (.agg #[.i p]):=rfl
theorem Jaq (p:Int):Ia 3 p=.iface 203 (.agg #[.i p]):=rfl
theorem Jar (p:Int):Ia 4 p=.iface 204 (.agg #[.i p]):=rfl
theorem Jas (p:Int):Ia 5 p=.iface 199 (.agg #[.i p]):=rfl
theorem Jat (p:Int):Ia 6 p=.iface 200 (.agg #[.i p]):=rfl
theorem Jau (p:Int):Ia 7 p=.iface 205 (.agg #[.i p]):=rfl
theorem Yu (a:Int) (h0:0≤a) (h1:a<65536):(a<8192∧rgN a=1∧rgP a=a%512)∨(8192≤a∧a<16384∧rgN a=2∧rgP a=a%8)∨(16384≤a∧a<16388∧rgN a=3∧rgP a=a%4)∨(a=16406∧rgN a=4∧rgP a=0)∨(16388≤a∧a<32768∧a≠16406∧rgN a=7∧rgP a=0)∨(32768≤a∧a<49152∧rgN a=5∧rgP a=a%256)∨(49152≤a∧rgN a=6∧rgP a=a%256):=by
 unfold rgN rgP
 rcases (by omega:a<8192∨(8192≤a∧a<16384)∨(16384≤a∧a<16388)∨a=16406∨(16388≤a∧a<32768∧a≠16406)∨(32768≤a∧a<49152)∨49152≤a) with h | h | h | h | h | h | h
 ·exact Or.inl ⟨h,if_pos h,if_pos h⟩
 all_goals
  repeat (first | rw [if_neg (show ¬ a<8192 by omega)] | rw [if_neg (show ¬ a<16384 by omega)] | rw [if_pos (show a<16384 by omega)] | rw [if_neg (show ¬ a<16388 by omega)] | rw [if_pos (show a<16388 by omega)] | rw [if_pos (show a=16406 by omega)] | rw [if_neg (show ¬ a=16406 by omega)] | rw [if_pos (show a<32768 by omega)] | rw [if_neg (show ¬ a<32768 by omega)] | rw [if_pos (show a<49152 by omega)] | rw [if_neg (show ¬ a<49152 by omega)])
  simp
  try omega
theorem Lq (w:World) (a:Int) (a0:0≤a) (a1:a<65536):Calls Tryz.prog 180 #[.int .u16 a] w fun e w'=>e=.returned (Ia (rgN a) (rgP a))∧w'=w:=by
 rcases Yu a a0 a1 with h | h | h | h | h | h | h
 ·obtain ⟨h1,hn,hp⟩:=h
  have HR:=Ad (show Ia (rgN a) (rgP a)=Ia 1 _ by rw [hn,hp]);clear hn hp
  go_enter Tryz.func180,Tryz.ntmps180
  go_wp2_with fail;refine (Hz _ _ _ a0 a1 (by omega) (by omega)).mono ?_;rintro e w1 ⟨rfl,rfl⟩;go_wp2;go_ret
  first | exact ⟨by rw [HR.out]; rfl,rfl⟩ | exact ⟨rfl,rfl⟩
 ·obtain ⟨h1,h2,hn,hp⟩:=h
  have HR:=Ad (show Ia (rgN a) (rgP a)=Ia 2 _ by rw [hn,hp]);clear hn hp
  have q8192:¬ a<8192:=by omega
  go_enter Tryz.func180,Tryz.ntmps180
  go_wp2_with fail;refine (Hz _ _ _ a0 a1 (by omega) (by omega)).mono ?_;rintro e w1 ⟨rfl,rfl⟩;go_wp2;go_ret
  first | exact ⟨by rw [HR.out]; rfl,rfl⟩ | exact ⟨rfl,rfl⟩
 ·obtain ⟨h1,h2,hn,hp⟩:=h
  have HR:=Ad (show Ia (rgN a) (rgP a)=Ia 3 _ by rw [hn,hp]);clear hn hp
  have q8192:¬ a<8192:=by omega
  have q16384:¬ a<16384:=by omega
  go_enter Tryz.func180,Tryz.ntmps180
  go_wp2_with fail;refine (Hz _ _ _ a0 a1 (by omega) (by omega)).mono ?_;rintro e w1 ⟨rfl,rfl⟩;go_wp2;go_ret
  first | exact ⟨by rw [HR.out]; rfl,rfl⟩ | exact ⟨rfl,rfl⟩
 ·obtain ⟨h1,hn,hp⟩:=h
  have HR:=Ad (show Ia (rgN a) (rgP a)=Ia 4 _ by rw [hn,hp]);clear hn hp
  have q8192:¬ a<8192:=by omega
  have q16384:¬ a<16384:=by omega
  have q16388:¬ a<16388:=by omega
  have e5:(a==16406)=true:=by simp; omega
  go_enter Tryz.func180,Tryz.ntmps180
  go_wp2;go_ret
  first | exact ⟨by rw [HR.out]; rfl,rfl⟩ | exact ⟨rfl,rfl⟩
 ·obtain ⟨h1,h2,h3,hn,hp⟩:=h
  have HR:=Ad (show Ia (rgN a) (rgP a)=Ia 7 _ by rw [hn,hp]);clear hn hp
  have q8192:¬ a<8192:=by omega
  have q16384:¬ a<16384:=by omega
  have q16388:¬ a<16388:=by omega
  have e5:(a==16406)=false:=by simp; omega
  go_enter Tryz.func180,Tryz.ntmps180
  go_wp2;go_ret
  first | exact ⟨by rw [HR.out]; rfl,rfl⟩ | exact ⟨rfl,rfl⟩
 ·obtain ⟨h1,h2,hn,hp⟩:=h
  have HR:=Ad (show Ia (rgN a) (rgP a)=Ia 5 _ by rw [hn,hp]);clear hn hp
  have q8192:¬ a<8192:=by omega
  have q16384:¬ a<16384:=by omega
  have q16388:¬ a<16388:=by omega
  have e5:(a==16406)=false:=by simp; omega
  have q32768:¬ a<32768:=by omega
  go_enter Tryz.func180,Tryz.ntmps180
  go_wp2_with fail;refine (Hz _ _ _ a0 a1 (by omega) (by omega)).mono ?_;rintro e w1 ⟨rfl,rfl⟩;go_wp2;go_ret
  first | exact ⟨by rw [HR.out]; rfl,rfl⟩ | exact ⟨rfl,rfl⟩
 ·obtain ⟨h1,hn,hp⟩:=h
  have HR:=Ad (show Ia (rgN a) (rgP a)=Ia 6 _ by rw [hn,hp]);clear hn hp
  have q8192:¬ a<8192:=by omega
  have q16384:¬ a<16384:=by omega
  have q16388:¬ a<16388:=by omega
  have e5:(a==16406)=false:=by simp; omega
  have q32768:¬ a<32768:=by omega
  have q49152:¬ a<49152:=by omega
  go_enter Tryz.func180,Tryz.ntmps180
  go_wp2_with fail;refine (Hz _ _ _ a0 a1 (by omega) (by omega)).mono ?_;rintro e w1 ⟨rfl,rfl⟩;go_wp2;go_ret
  first | exact ⟨by rw [HR.out]; rfl,rfl⟩ | exact ⟨rfl,rfl⟩
theorem Jbz (p:Int) (w:World):(Instr.typeAssert (.iface 198 (.agg #[.i p])) 177 198 true).run Tryz.prog w=.ok (.tuple #[.agg #[.i p],.bool true]) w:=by kernel_rfl
theorem Jb0 (p:Int) (w:World):(Instr.typeAssert (.iface 202 (.agg #[.i p])) 177 198 true).run Tryz.prog w=.ok (.tuple #[.agg #[.i 0],.bool false]) w:=by kernel_rfl
theorem Jdl (p:Int) (w:World):(Instr.typeAssert (.iface 202 (.agg #[.i p])) 177 202 true).run Tryz.prog w=.ok (.tuple #[.agg #[.i p],.bool true]) w:=by kernel_rfl
theorem Jc1 (p:Int) (w:World):(Instr.typeAssert (.iface 202 (.agg #[.i p])) 177 199 true).run Tryz.prog w=.ok (.tuple #[.agg #[.i 0],.bool false]) w:=by kernel_rfl
theorem Jc2 (p:Int) (w:World):(Instr.typeAssert (.iface 202 (.agg #[.i p])) 177 200 true).run Tryz.prog w=.ok (.tuple #[.agg #[.i 0],.bool false]) w:=by kernel_rfl
theorem Jb1 (p:Int) (w:World):(Instr.typeAssert (.iface 203 (.agg #[.i p])) 177 198 true).run Tryz.prog w=.ok (.tuple #[.agg #[.i 0],.bool false]) w:=by kernel_rfl
theorem Jdm (p:Int) (w:World):(Instr.typeAssert (.iface 203 (.agg #[.i p])) 177 202 true).run Tryz.prog w=.ok (.tuple #[.agg #[.i 0],.bool false]) w:=by kernel_rfl
theorem Jdn (p:Int) (w:World):(Instr.typeAssert (.iface 203 (.agg #[.i p])) 177 203 true).run Tryz.prog w=.ok (.tuple #[.agg #[.i p],.bool true]) w:=by kernel_rfl
theorem Jc3 (p:Int) (w:World):(Instr.typeAssert (.iface 203 (.agg #[.i p])) 177 199 true).run Tryz.prog w=.ok (.tuple #[.agg #[.i 0],.bool false]) w:=by kernel_rfl
theorem Jc4 (p:Int) (w:World):(Instr.typeAssert (.iface 203 (.agg #[.i p])) 177 200 true).run Tryz.prog w=.ok (.tuple #[.agg #[.i 0],.bool false]) w:=by kernel_rfl
theorem Jb2 (p:Int) (w:World):(Instr.typeAssert (.iface 204 (.agg #[.i p])) 177 198 true).run Tryz.prog w=.ok (.tuple #[.agg #[.i 0],.bool false]) w:=by kernel_rfl
theorem Jdo (p:Int) (w:World):(Instr.typeAssert (.iface 204 (.agg #[.i p])) 177 202 true).run Tryz.prog w=.ok (.tuple #[.agg #[.i 0],.bool false]) w:=by kernel_rfl
theorem Jdp (p:Int) (w:World):(Instr.typeAssert (.iface 204 (.agg #[.i p])) 177 203 true).run Tryz.prog w=.ok (.tuple #[.agg #[.i 0],.bool false]) w:=by kernel_rfl
theorem Jdq (p:Int) (w:World):(Instr.typeAssert (.iface 204 (.agg #[.i p])) 177 204 true).run Tryz.prog w=.ok (.tuple #[.agg #[.i p],.bool true]) w:=by kernel_rfl
theorem Jc5 (p:Int) (w:World):(Instr.typeAssert (.iface 204 (.agg #[.i p])) 177 199 true).run Tryz.prog w=.ok (.tuple #[.agg #[.i 0],.bool false]) w:=by kernel_rfl
theorem Jc6 (p:Int) (w:World):(Instr.typeAssert (.iface 204 (.agg #[.i p])) 177 200 true).run Tryz.prog w=.ok (.tuple #[.agg #[.i 0],.bool false]) w:=by kernel_rfl
theorem Jb3 (p:Int) (w:World):(Instr.typeAssert (.iface 199 (.agg #[.i p])) 177 198 true).run Tryz.prog w=.ok (.tuple #[.agg #[.i 0],.bool false]) w:=by kernel_rfl
theorem Jdr (p:Int) (w:World):(Instr.typeAssert (.iface 199 (.agg #[.i p])) 177 202 true).run Tryz.prog w=.ok (.tuple #[.agg #[.i 0],.bool false]) w:=by kernel_rfl
theorem Jds (p:Int) (w:World):(Instr.typeAssert (.iface 199 (.agg #[.i p])) 177 203 true).run Tryz.prog w=.ok (.tuple #[.agg #[.i 0],.bool false]) w:=by kernel_rfl
theorem Jdt (p:Int) (w:World):(Instr.typeAssert (.iface 199 (.agg #[.i p])) 177 204 true).run Tryz.prog w=.ok (.tuple #[.agg #[.i 0],.bool false]) w:=by kernel_rfl
theorem Jb4 (p:Int) (w:World):(Instr.typeAssert (.iface 199 (.agg #[.i p])) 177 199 true).run Tryz.prog w=.ok (.tuple #[.agg #[.i p],.bool true]) w:=by kernel_rfl
theorem Jdu (p:Int) (w:World):(Instr.typeAssert (.iface 199 (.agg #[.i p])) 177 200 true).run Tryz.prog w=.ok (.tuple #[.agg #[.i 0],.bool false]) w:=by kernel_rfl
theorem Jb5 (p:Int) (w:World):(Instr.typeAssert (.iface 200 (.agg #[.i p])) 177 198 true).run Tryz.prog w=.ok (.tuple #[.agg #[.i 0],.bool false]) w:=by kernel_rfl
theorem Jdv (p:Int) (w:World):(Instr.typeAssert (.iface 200 (.agg #[.i p])) 177 202 true).run Tryz.prog w=.ok (.tuple #[.agg #[.i 0],.bool false]) w:=by kernel_rfl
theorem Jdw (p:Int) (w:World):(Instr.typeAssert (.iface 200 (.agg #[.i p])) 177 203 true).run Tryz.prog w=.ok (.tuple #[.agg #[.i 0],.bool false]) w:=by kernel_rfl
theorem Jdx (p:Int) (w:World):(Instr.typeAssert (.iface 200 (.agg #[.i p])) 177 204 true).run Tryz.prog w=.ok (.tuple #[.agg #[.i 0],.bool false]) w:=by kernel_rfl
theorem Jb6 (p:Int) (w:World):(Instr.typeAssert (.iface 200 (.agg #[.i p])) 177 199 true).run Tryz.prog w=.ok (.tuple #[.agg #[.i 0],.bool false]) w:=by kernel_rfl
theorem Jb7 (p:Int) (w:World):(Instr.typeAssert (.iface 200 (.agg #[.i p])) 177 200 true).run Tryz.prog w=.ok (.tuple #[.agg #[.i p],.bool true]) w:=by kernel_rfl
theorem Jb8 (p:Int) (w:World):(Instr.typeAssert (.iface 205 (.agg #[.i p])) 177 198 true).run Tryz.prog w=.ok (.tuple #[.agg #[.i 0],.bool false]) w:=by kernel_rfl
theorem Jdy (p:Int) (w:World):(Instr.typeAssert (.iface 205 (.agg #[.i p])) 177 202 true).run Tryz.prog w=.ok (.tuple #[.agg #[.i 0],.bool false]) w:=by kernel_rfl
theorem Jdz (p:Int) (w:World):(Instr.typeAssert (.iface 205 (.agg #[.i p])) 177 203 true).run Tryz.prog w=.ok (.tuple #[.agg #[.i 0],.bool false]) w:=by kernel_rfl
theorem Jd0 (p:Int) (w:World):(Instr.typeAssert (.iface 205 (.agg #[.i p])) 177 204 true).run Tryz.prog w=.ok (.tuple #[.agg #[.i 0],.bool false]) w:=by kernel_rfl
theorem Jb9 (p:Int) (w:World):(Instr.typeAssert (.iface 205 (.agg #[.i p])) 177 199 true).run Tryz.prog w=.ok (.tuple #[.agg #[.i 0],.bool false]) w:=by kernel_rfl
theorem Jca (p:Int) (w:World):(Instr.typeAssert (.iface 205 (.agg #[.i p])) 177 200 true).run Tryz.prog w=.ok (.tuple #[.agg #[.i 0],.bool false]) w:=by kernel_rfl
theorem partOf (w:World) (p:Int):Calls Tryz.prog 262 #[.i p] w fun e w'=>e=.returned (.i p)∧w'=w:=by
 go_enter Tryz.func262,Tryz.ntmps262
 go_wp2;go_ret;exact ⟨rfl,rfl⟩
theorem Jc7 (p : Int) (w : World) : (method 332 198 (.agg #[.i p]) "loop.example/g00231/impl.part").run Tryz.prog w = .ok (262, .i p) w := by kernel_rfl
theorem Jd1 (p : Int) (w : World) : (method 332 199 (.agg #[.i p]) "loop.example/g00231/impl.part").run Tryz.prog w = .ok (262, .i p) w := by kernel_rfl
theorem Jd2 (p : Int) (w : World) : (method 332 200 (.agg #[.i p]) "loop.example/g00231/impl.part").run Tryz.prog w = .ok (262, .i p) w := by kernel_rfl
theorem Oi (a:Int) (h0:0≤a) (h1:a<65536):rgN a=1∨rgN a=2∨rgN a=3∨rgN a=4∨rgN a=5∨rgN a=6∨rgN a=7:=by
 rcases Yu a h0 h1 with ⟨_,h,_⟩ | ⟨_,_,h,_⟩ | ⟨_,_,h,_⟩ | ⟨_,h,_⟩ | ⟨_,_,_,h,_⟩ | ⟨_,_,h,_⟩ | ⟨_,h,_⟩ <;> rw [h] <;> decide
theorem Nq (w:World) (p:Int):Calls Tryz.prog 183 #[Ia 1 p] w fun e w'=>e=.returned (.i 1)∧w'=w:=by
 rw [Jao];have q1:=Jbz p
 go_enter Tryz.func183,Tryz.ntmps183
 go_wp2;go_ret;exact ⟨rfl,rfl⟩
theorem Nr (w:World) (p:Int):Calls Tryz.prog 183 #[Ia 2 p] w fun e w'=>e=.returned (.i 2)∧w'=w:=by
 rw [Jap];have q1:=Jb0 p;have q2:=Jdl p
 go_enter Tryz.func183,Tryz.ntmps183
 go_wp2;go_ret;exact ⟨rfl,rfl⟩
theorem Ns (w:World) (p:Int):Calls Tryz.prog 183 #[Ia 3 p] w fun e w'=>e=.returned (.i 3)∧w'=w:=by
 rw [Jaq];have q1:=Jb1 p;have q2:=Jdm p;have q3:=Jdn p
 go_enter Tryz.func183,Tryz.ntmps183
 go_wp2;go_ret;exact ⟨rfl,rfl⟩
theorem Nt (w:World) (p:Int):Calls Tryz.prog 183 #[Ia 4 p] w fun e w'=>e=.returned (.i 4)∧w'=w:=by
 rw [Jar];have q1:=Jb2 p;have q2:=Jdo p;have q3:=Jdp p;have q4:=Jdq p
 go_enter Tryz.func183,Tryz.ntmps183
 go_wp2;go_ret;exact ⟨rfl,rfl⟩
theorem Nu (w:World) (p:Int):Calls Tryz.prog 183 #[Ia 5 p] w fun e w'=>e=.returned (.i 5)∧w'=w:=by
 rw [Jas];have q1:=Jb3 p;have q2:=Jdr p;have q3:=Jds p;have q4:=Jdt p;have q5:=Jb4 p
 go_enter Tryz.func183,Tryz.ntmps183
 go_wp2;go_ret;exact ⟨rfl,rfl⟩
theorem Nv (w:World) (p:Int):Calls Tryz.prog 183 #[Ia 6 p] w fun e w'=>e=.returned (.i 6)∧w'=w:=by
 rw [Jat];have q1:=Jb5 p;have q2:=Jdv p;have q3:=Jdw p;have q4:=Jdx p;have q5:=Jb6 p;have q6:=Jb7 p
 go_enter Tryz.func183,Tryz.ntmps183
 go_wp2;go_ret;exact ⟨rfl,rfl⟩
theorem Nw (w:World) (p:Int):Calls Tryz.prog 183 #[Ia 7 p] w fun e w'=>e=.returned (.i 7)∧w'=w:=by
 rw [Jau];have q1:=Jb8 p;have q2:=Jdy p;have q3:=Jdz p;have q4:=Jd0 p;have q5:=Jb9 p;have q6:=Jca p
 go_enter Tryz.func183,Tryz.ntmps183
 go_wp2;go_ret;exact ⟨rfl,rfl⟩
theorem Lr (w:World) (x:Int):Calls Tryz.prog 161 #[.i x] w fun e w'=>e=.returned (.tuple #[.i (rgN (x%65536)),.i (rgP (x%65536))])∧w'=w:=by
 have h0:0≤x%65536:=by omega
 have h1:x%65536<65536:=by omega
 have HC:=Oi _ h0 h1;have HA:=Ad (Lq w _ h0 h1);generalize rgP (x%65536)=p at *;generalize rgN (x%65536)=n at *;clear h0 h1
 rcases HC with rfl | rfl | rfl | rfl | rfl | rfl | rfl
 ·go_enter Tryz.func161,Tryz.ntmps161
  go_wp2_with fail;refine (An HA).mono ?_;rintro e w1 ⟨rfl,rfl⟩;go_wp2_with fail;refine (Nq _ p).mono ?_;rintro e w2 ⟨rfl,rfl⟩;rw [Jao];go_wp2;go_ret2;exact ⟨rfl,rfl⟩
 ·go_enter Tryz.func161,Tryz.ntmps161
  go_wp2_with fail;refine (An HA).mono ?_;rintro e w1 ⟨rfl,rfl⟩;go_wp2_with fail;refine (Nr _ p).mono ?_;rintro e w2 ⟨rfl,rfl⟩;rw [Jap];go_wp2;go_ret2;exact ⟨rfl,rfl⟩
 ·go_enter Tryz.func161,Tryz.ntmps161
  go_wp2_with fail;refine (An HA).mono ?_;rintro e w1 ⟨rfl,rfl⟩;go_wp2_with fail;refine (Ns _ p).mono ?_;rintro e w2 ⟨rfl,rfl⟩;rw [Jaq];go_wp2;go_ret2;exact ⟨rfl,rfl⟩
 ·go_enter Tryz.func161,Tryz.ntmps161
  go_wp2_with fail;refine (An HA).mono ?_;rintro e w1 ⟨rfl,rfl⟩;go_wp2_with fail;refine (Nt _ p).mono ?_;rintro e w2 ⟨rfl,rfl⟩;rw [Jar];go_wp2;go_ret2;exact ⟨rfl,rfl⟩
 ·go_enter Tryz.func161,Tryz.ntmps161
  go_wp2_with fail;refine (An HA).mono ?_;rintro e w1 ⟨rfl,rfl⟩;go_wp2_with fail;refine (Nu _ p).mono ?_;rintro e w2 ⟨rfl,rfl⟩;rw [Jas];go_wp2;go_ret2;exact ⟨rfl,rfl⟩
 ·go_enter Tryz.func161,Tryz.ntmps161
  go_wp2_with fail;refine (An HA).mono ?_;rintro e w1 ⟨rfl,rfl⟩;go_wp2_with fail;refine (Nv _ p).mono ?_;rintro e w2 ⟨rfl,rfl⟩;rw [Jat];go_wp2;go_ret2;exact ⟨rfl,rfl⟩
 ·go_enter Tryz.func161,Tryz.ntmps161
  go_wp2_with fail;refine (An HA).mono ?_;rintro e w1 ⟨rfl,rfl⟩;go_wp2_with fail;refine (Nw _ p).mono ?_;rintro e w2 ⟨rfl,rfl⟩;rw [Jau];go_wp2;go_ret2;exact ⟨rfl,rfl⟩
end Go.Proofs.YtgcmimcalmjaaaaGreatDoor
