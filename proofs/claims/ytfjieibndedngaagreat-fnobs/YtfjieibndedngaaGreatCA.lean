import Derived.Test.YtfjieibndedngaaGreatC8
import Derived.Test.YtfjieibndedngaaGreatGQ
namespace Go.Proofs.YtfjieibndedngaaGreat
set_option linter.unusedVariables false
open Go.ChangeShapes Go.WideShapes Go.ChangeAt Go.RowKit
theorem Jj (w:World):Calls Tryz.prog 54 #[] w fun e w'=>∃ q,e=.returned (.agg #[q,.i 0])∧Au w' w.heap.size q 512 (fun _=>0)∧Below w.heap.size w w':=by
 obtain ⟨ob,hmk,hrow⟩:∃ ob:Obj,(∀ W:World,(Instr.makeSlice 25 (.i 512) (.i 512)).run Tryz.prog W=.ok (.slice (some ⟨W.heap.size,0,none⟩) 512 512) (W.alloc ob))∧Hid (∀ W:World,(W.alloc ob).rowIs W.heap.size 3 512 (fun _=>.i 0)) :=
  ⟨_,run_make_row' (P:=Tryz.prog) 25 3 (.i 0) 8 Tryz.underlying25 info3 rfl .i64 .i64 512 (by omega) (by omega),fun W=>World.rowIs_made W _ _ _⟩
 have hr:=Ad (hrow.out (w.alloc (.cells #[.slice (some ⟨w.heap.size+1,0,none⟩) 512 512,.i 0] 34)));have L0:Below w.heap.size w ((w.alloc (.cells #[.slice (some ⟨w.heap.size+1,0,none⟩) 512 512,.i 0] 34)).alloc ob):=((Below.refl _ _).alloc (Nat.le_refl _) _).alloc (by simp) _
 go_enter Tryz.func54,Tryz.ntmps54
 go_wp2;have hr':=Ab hr;simp only [World.size_alloc] at hr'
 have O0:Au ((w.alloc (.cells #[.slice (some ⟨w.heap.size+1,0,none⟩) 512 512,.i 0] 34)).alloc ob) (w.heap.size+1) (.slice (some ⟨w.heap.size+1,0,none⟩) 512 512) 512 (fun _=>0):=by
  refine ⟨_,_,rfl,by omega,Lc hr',fun b o ⟨off,e,_,_⟩=>?_,fun b o ⟨off,e,_,_⟩=>?_⟩
  ·simp only [Option.some.injEq,Addr.mk.injEq] at e
   obtain ⟨rfl,-,-⟩:=e;exact ⟨hr'.lt,hr'.frozen _⟩
  ·simp only [Option.some.injEq,Addr.mk.injEq] at e
   obtain ⟨rfl,-,-⟩:=e
   omega
 refine bodyPost_ret (v:=.agg #[.slice (some ⟨w.heap.size+1,0,none⟩) 512 512,.i 0]) (by simp [results,Tryz.results54,go_sem]) rfl ?_;exact ⟨_,rfl,O0.mono (by omega),L0⟩
set_option linter.unusedSimpArgs false
open Go.Sort
abbrev Ir:=List (Nat × Array Value × TypeId)
structure Dv (w:World) (D:Nat→Prop) (W:World) (l:Ir):Prop where
 below:Below w.heap.size w W
 all:∀ p,p∈l→W.heap[p.1]?=some (.cells p.2.1 p.2.2 (0,0))∧w.heap.size≤p.1∧¬ D p.1
 nd:(l.map (·.1)).Nodup
 lt:∀ b,D b→b<W.heap.size
theorem Dv.nil (w:World):Dv w (fun _=>False) w []:=⟨Below.refl _ _,fun _ h=>(by cases h),List.nodup_nil,fun _ h=>h.elim⟩
section
variable {w W W':World} {D:Nat→Prop} {l:Ir} {i b:Nat} {cs:Array Value} {t:TypeId}
theorem Dv.ret (h:Dv w D W l) (i:Nat) (e:l[i]?=some (b,cs,t)):W.heap[b]?=some (.cells cs t (0,0)):=(h.all _ (List.mem_of_getElem? e)).1
theorem Dv.call (h:Dv w D W l) (L:Below W.heap.size W W'):Dv w D W' l :=
 ⟨h.below.trans (L.mono h.below.size),fun p hp=>⟨Ac (h.all p hp).1 L (Af (h.all p hp).1),(h.all p hp).2⟩,h.nd,fun b hb=>Nat.lt_of_lt_of_le (h.lt b hb) L.size⟩
theorem Dv.re (h:Dv w D W l) (L:Below W.heap.size W W'):Dv w (fun b=>W.heap.size≤b∧b<W'.heap.size) W' l :=
 ⟨(h.call L).below,fun p hp=>⟨((h.call L).all p hp).1,(h.all p hp).2.1,fun hd=>absurd (Af (h.all p hp).1) (by omega)⟩,h.nd,fun _ hb=>hb.2⟩
theorem Dv.alloc (h:Dv w D W l) (cs:Array Value) (t:TypeId) (n:Nat) (e:W.heap.size=n):Dv w D (W.alloc (.cells cs t)) (l++[(n,cs,t)]):=by
 subst e;have L:Below W.heap.size W (W.alloc (.cells cs t)):=(Below.refl _ _).alloc (Nat.le_refl _) _;refine ⟨(h.call L).below,fun p hp=>?_,?_,(h.call L).lt⟩
 ·rcases List.mem_append.1 hp with hp | hp
  ·exact (h.call L).all p hp
  ·obtain rfl:=List.mem_singleton.1 hp
   exact ⟨Ak W cs t,h.below.size,fun hd=>absurd (h.lt _ hd) (Nat.lt_irrefl _)⟩
 ·rw [List.map_append,List.nodup_append]
  refine ⟨h.nd,by simp,fun a ha c hc e=>?_⟩;obtain ⟨p,hp,rfl⟩:=List.mem_map.1 ha;have:=Af (h.all p hp).1
  simp at hc
  omega
theorem Dv.no (h:Dv w D W l) (i:Nat) (e:l[i]?=some (b,cs,t)):¬ D b:=(h.all _ (List.mem_of_getElem? e)).2.2
theorem Dv.far (h:Dv w D W l) (i j:Nat) {b':Nat} {cs':Array Value} {t':TypeId} (e:l[i]?=some (b,cs,t)) (e':l[j]?=some (b',cs',t')) (hij:i≠j):b≠b':=fun x=>by
 have hi:=(List.getElem?_eq_some_iff.1 e).1;have hj:=(List.getElem?_eq_some_iff.1 e').1;refine hij ((List.getElem_inj (xs:=l.map (·.1)) (h₀:=by simpa using hi) (h₁:=by simpa using hj) h.nd).1 ?_);simp only [List.getElem_map];rw [(List.getElem?_eq_some_iff.1 e).2,(List.getElem?_eq_some_iff.1 e').2];exact x
theorem Dv.upd (h:Dv w D W l) (i:Nat) (e:l[i]?=some (b,cs,t)) {cs':Array Value} (TT:Wrote (fun b' _=>b'=b) W W') (k:W'.heap[b]?=some (.cells cs' t (0,0))):Dv w D W' (l.set i (b,cs',t)):=by
 have hb:=h.all _ (List.mem_of_getElem? e);refine ⟨h.below.trans (TT.below h.below.size (fun b' o h1 h2=>by have:=hb.2.1; omega)),fun p hp=>?_,?_,fun b hd=>Nat.lt_of_lt_of_le (h.lt b hd) TT.size⟩
 ·obtain ⟨j,hj⟩:=List.mem_iff_getElem?.1 hp
  by_cases e':i=j
  ·subst e'
   have hlt:=(List.getElem?_eq_some_iff.1 e).1
   simp [List.getElem?_set,hlt] at hj
   subst hj;exact ⟨k,hb.2⟩
  ·rw [List.getElem?_set_ne e'] at hj
   have hp':=h.all p (List.mem_of_getElem? hj);refine ⟨Ag hp'.1 TT (fun o h1=>?_),hp'.2⟩;exact h.far j i (t:=p.2.2) (cs:=p.2.1) hj e (Ne.symm e') h1
 ·rw [List.map_set]
  have:(l.map (·.1)).set i b=l.map (·.1):=by
   refine List.ext_getElem? (fun j=>?_);rw [List.getElem?_set];split
   ·rename_i e'; subst e'
    have hi:=(List.getElem?_eq_some_iff.1 e).1
    simp [hi,e]
    have:=(List.getElem?_eq_some_iff.1 e).2;rw [this]
   ·rfl
  rw [this];exact h.nd
theorem Dv.row (h:Dv w D W l) (i:Nat) (e:l[i]?=some (b,cs,t)) (cs':Array Value):Dv w D (W.setRow b cs') (l.set i (b,cs',t)):=h.upd i e (Ce (h.ret i e) cs') (setRow_heap _ _ _ _ _ _ (h.ret i e))
theorem Bz (W:World) (b o:Nat) (v:Value):Wrote (fun b' _=>b'=b) W (W.setCell ⟨b,o,none⟩ v):=Wrote.setCell (R:=fun b' _=>b'=b) (Wrote.refl _ W) (fun _=>rfl) v
theorem Dv.cell (h:Dv w D W l) (i:Nat) (e:l[i]?=some (b,cs,t)) (o:Nat) (v:Value) {cs':Array Value} (hc:cs.setIfInBounds o v=cs'):Dv w D (W.setCell ⟨b,o,none⟩ v) (l.set i (b,cs',t)):=h.upd i e (Bz W b o v) (hc ▸ An (h.ret i e) v)
theorem Dv.get (h:Dv w D W l) (i:Nat) (e:l[i]?=some (b,cs,t)) (j:Nat) {v:Value} (hv:cs[j]?=some v):W.cell? ⟨b,j,none⟩=some v:=(Aj (h.ret i e) j).trans hv
theorem Dv.getG (h:Dv w D W l) (i:Nat) (e:l[i]?=some (b,cs,t)) (j:Nat) {v:Value} (hv:cs[j]?=some v) (d:Nat) (os:Array Obj):(grow (redrawn W d) os).cell? ⟨b,j,none⟩=some v:=(h.call (below_regrown W d os)).get i e j hv
theorem Dv.drew (h:Dv w D W l):Dv w D W.drew l:=⟨h.below.trans ((Wrote.drew (R:=fun _ _=>False) (Wrote.refl _ W)).below h.below.size (fun _ _ _ h=>h.elim)),h.all,h.nd,h.lt⟩
theorem Dv.take (h:Dv w D W l) (n:Nat):Dv w D W (l.take n):=⟨h.below,fun p hp=>h.all p (List.mem_of_mem_take hp),by rw [List.map_take]; exact h.nd.sublist (List.take_sublist _ _),h.lt⟩
theorem Dv.mem (h:Dv w D W l) (i:Nat) (e:l[i]?=some (b,cs,t)) (TT:Wrote (fun b' _=>b'=b) W W') {v:Value} {n:Nat} {g:Nat→Int} {bank:Int} (M:Bn W D v n g bank):Bn W' D v n g bank :=
 M.keep TT (fun b' o hd _ he=>(h.all _ (List.mem_of_getElem? e)).2.2 (by have he':b'=b:=he; exact he' ▸ hd))
end
def Vb (ops:Array Oper) (n:Nat):Bool:=decide (ops.size=n+1) && ((ops[n]?).map fun o=>(List.range n).all fun j=>A2 o j).getD false
section
variable {P:Program} {ops:Array Oper} {Q:Exit→Act→World→Prop}
theorem Jw {id:Nat} {a:Act} {w:World} (n:Nat) (ds:List (Option Nat)) (hm:P.follows .mixedOrders=true) (hb:Je ops=true) (hg:Mk ops=true) (hl:Vb ops n=true) (hd:Jm ops ds=true) (hsz:∀ d,d∈slotsOf ds→d<a.tmps.size)
  (R:Nat→Nat→Nat→Prop) (φ:Nat→(Nat→Value)→Nat→Nat→World→Prop)
  (hstab:∀ i j o V x lo hi W W',i≠j→i<n→j<n→ops[i]?=some o→A2 o j=false→w.heap.size≤lo→hi≤W.heap.size→Wrote (R j) W W'→φ i V lo hi W→φ i (Ev V j x) lo hi W')
  (hstep:∀ i o a' W K,i<n→ops[i]?=some o→Fr (slotsOf ds) a a'→Wrote (fun b o'=>∃ j oj,j≠i∧ops[j]?=some oj∧A2 oj i=false∧R j b o') w W→(∀ j,A2 o j=true→∃ lo hi,w.heap.size≤lo∧hi≤W.heap.size∧φ j (Bo ds a') lo hi W)→(∀ v W',Wrote (R i) W W'→φ i (Ev (Bo ds a') i (if o.dst=none then undef else v)) W.heap.size W'.heap.size W'→K (a'.put o.dst v) W')→o.wp P a' W K Q)
  (hlast:∀ o a' W K,ops[n]?=some o→Fr (slotsOf ds) a a'→Wrote (fun b o=>∃ j,R j b o) w W→(lo hi:Nat→Nat)→(∀ i,i<n→w.heap.size≤lo i∧lo i≤hi i∧hi i≤W.heap.size∧φ i (Bo ds a') (lo i) (hi i) W)→(∀ i j,i<n→j<n→i≠j→hi i≤lo j∨hi j≤lo i)→(∀ v W',Q .normal (a'.put o.dst v) W'→K (a'.put o.dst v) W')→o.wp P a' W K Q):(Code.region id ops true).wp P Q a w:=by
 unfold Vb at hl;simp only [Bool.and_eq_true,decide_eq_true_eq] at hl;obtain ⟨hn,hl⟩:=hl;unfold Jm at hd;simp only [Bool.and_eq_true,decide_eq_true_eq] at hd;obtain ⟨⟨hlen,hd1⟩,hd2⟩:=hd
 have hgo:∀ (i:Nat) (o:Oper),ops[i]?=some o→o.guard=none:=fun i o ho=>by
  have h1:=(Array.all_eq_true_iff_forall_mem.1 hg) o (Array.mem_of_getElem? ho)
  simpa using h1
 have hlt:∀ (i:Nat) (o:Oper),ops[i]?=some o→i<ops.size:=fun i o ho=>by
  rcases Nat.lt_or_ge i ops.size with h | h
  ·exact h
  ·rw [Array.getElem?_eq_none h] at ho; cases ho
 have hdst:∀ (i:Nat) (o:Oper),ops[i]?=some o→ds[i]?=some o.dst:=fun i o ho=>by
  have h1:=List.all_eq_true.1 hd1 i (List.mem_range.2 (by rw [hlen]; exact hlt i o ho));rw [ho] at h1;simp only [Option.map_some,Option.getD_some,beq_iff_eq] at h1;exact h1.symm
 have hne:∀ i j d,i≠j→ds[i]?=some (some d)→ds[j]?≠some (some d):=fun i j d h hi hj=>by
  have li:i<ds.length:=by rcases Nat.lt_or_ge i ds.length with x | x; exact x; (rw [List.getElem?_eq_none x] at hi; cases hi)
  have lj:j<ds.length:=by rcases Nat.lt_or_ge j ds.length with x | x; exact x; (rw [List.getElem?_eq_none x] at hj; cases hj)
  have h1:=List.all_eq_true.1 (List.all_eq_true.1 hd2 i (List.mem_range.2 li)) j (List.mem_range.2 lj);rw [hi,hj] at h1
  simp at h1
  exact h h1
 have hlw:((ops[n]?).map fun o=>(List.range n).all fun j=>A2 o j).getD false=true:=hl;refine Fe hm hb (fun _ l a' W=>((∀ i,i<ops.size→l[i]?=some true)∧Q .normal a' W)∨(l[n]?=some false∧Fr (slotsOf ds) a a'∧Wrote (fun b o=>∃ j,l[j]?=some true∧R j b o) w W∧(∀ (k:Nat) (o:Oper),l[k]?=some true→ops[k]?=some o→∀ j:Nat,A2 o j=true→l[j]?=some true)∧∃ lo hi:Nat→Nat,(∀ i:Nat,l[i]?=some true→w.heap.size≤lo i∧lo i≤hi i∧hi i≤W.heap.size∧φ i (Bo ds a') (lo i) (hi i) W)∧∀ i j:Nat,l[i]?=some true→l[j]?=some true→i≠j→hi i≤lo j∨hi j≤lo i)) ?_ ?_ ?_
 ·have hno:∀ i:Nat,(Array.replicate ops.size false)[i]?≠some true:=fun i h=>by
   rcases Nat.lt_or_ge i ops.size with x | x
   ·simp [x] at h
   ·rw [Array.getElem?_eq_none (by simpa using x)] at h; cases h
  exact Or.inr ⟨by simp [hn],⟨rfl,rfl,fun _ _=>rfl⟩,⟨rfl,rfl,rfl,Nat.le_refl _,fun _ _ _=>rfl,fun _ _ _ _=>rfl,fun _ _ _=>rfl⟩,fun k _ h=>absurd h (hno k),fun _=>0,fun _=>0,fun i h=>absurd h (hno i),fun i _ h=>absurd h (hno i)⟩
 ·rintro l a' W i o K hl hJ ho hf ha hK
  rcases hJ with ⟨hall,-⟩ | ⟨hnf,F,L,hcl,lo,hi',hφ,hdj⟩
  ·rw [hall i (hlt i o ho)] at hf; cases hf
  by_cases hin:i=n
  ·subst hin
   rw [ho] at hlw
   have hdone:∀ j,j<i→l[j]?=some true:=fun j hj=>Cs ha (List.all_eq_true.1 hlw j (List.mem_range.2 hj))
   refine E4 ho (hgo i o ho) (hlast o a' W K ho F (L.mono (fun b o _ ⟨j,_,h2⟩=>⟨j,h2⟩)) lo hi' (fun k hk=>hφ k (hdone k hk)) (fun k k' hk hk'=>hdj k k' (hdone k hk) (hdone k' hk')) (fun v W' hq=>hK _ _ (Or.inl ⟨fun k hk=>?_,hq⟩)))
   by_cases e:k=i
   ·rw [e,Array.getElem?_setIfInBounds,if_pos rfl,if_pos (by omega)]
   ·rw [Array.getElem?_setIfInBounds_ne (by omega)]; exact hdone k (by omega)
  have hin':i<n:=by have:=hlt i o ho; omega
  have hi:=hlt i o ho;have hdi:=hdst i o ho
  have hdone:∀ j,l[j]?=some true→∀ b o,R j b o→∃ j oj,j≠i∧ops[j]?=some oj∧A2 oj i=false∧R j b o:=fun j h1 b o h2=>by
   have hjl:j<ops.size:=by
    rcases Nat.lt_or_ge j ops.size with x | x
    ·exact x
    ·rw [Array.getElem?_eq_none (by omega)] at h1; cases h1
   have hjo:ops[j]?=some ops[j]:=Array.getElem?_eq_getElem hjl;refine ⟨j,ops[j],(fun e=>by rw [e,hf] at h1; cases h1),hjo,?_,h2⟩;cases hw:A2 ops[j] i
   ·rfl
   ·have:=hcl j _ h1 hjo i hw
    rw [hf] at this; cases this
  refine E4 ho (hgo i o ho) (hstep i o a' W K hin' ho F (L.mono (fun b o _ ⟨j,h1,h2⟩=>hdone j h1 b o h2)) (fun j hj=>⟨lo j,hi' j,(hφ j (Cs ha hj)).1,(hφ j (Cs ha hj)).2.2⟩) (fun v W' hW hv=>hK _ _ ?_))
  have hset:(l.setIfInBounds i true)[i]?=some true:=by simp [hl,hi]
  have hval:Bo ds (a'.put o.dst v)=Ev (Bo ds a') i (if o.dst=none then undef else v):=by
   funext k
   by_cases e:k=i
   ·subst e
    rw [A3]
    cases e:o.dst with
    | none =>
     rw [e] at hdi;unfold Bo;rw [hdi]
     simp
    | some d =>
     rw [e] at hdi;have hmem:d∈slotsOf ds:=List.mem_filterMap.2 ⟨some d,List.mem_of_getElem? hdi,rfl⟩;unfold Bo;rw [hdi]
     simpa using E5 (by rw [F.size]; exact hsz d hmem)
   ·rw [Aw _ _ e]
    cases e2:o.dst with
    | none=>rfl
    | some d =>
     rw [e2] at hdi;unfold Bo
     cases e3:ds[k]? with
     | none=>rfl
     | some x =>
      cases x with
      | none=>rfl
      | some d' =>
       have:d≠d':=fun x=>hne k i d' e e3 (by rw [hdi,x])
       exact Dz this
  have hne':∀ k,(l.setIfInBounds i true)[k]?=some true→k≠i→l[k]?=some true:=fun k hk e=>by rw [Array.getElem?_setIfInBounds_ne (by omega)] at hk; exact hk
  refine Or.inr ⟨by rw [Array.getElem?_setIfInBounds_ne hin]; exact hnf,?_,(L.mono (fun b o _ ⟨j,h1,h2⟩=>⟨j,by rw [Array.getElem?_setIfInBounds_ne (fun e=>by rw [← e,hf] at h1; cases h1)]; exact h1,h2⟩)).trans (hW.mono (fun b o _ h=>⟨i,hset,h⟩)),fun k o' hk hko j hj=>?_,fun k=>if k=i then W.heap.size else lo k,fun k=>if k=i then W'.heap.size else hi' k,fun k hk=>?_,fun k k' hk hk' hkk=>?_⟩
  ·cases e:o.dst with
   | none=>exact F
   | some d =>
    rw [e] at hdi;exact F.put (List.mem_filterMap.2 ⟨some d,List.mem_of_getElem? hdi,rfl⟩) v
  ·have h1:l[j]?=some true:=by
    by_cases e:k=i
    ·subst e
     rw [ho] at hko;obtain rfl:=Option.some.inj hko;exact Cs ha hj
    ·rw [Array.getElem?_setIfInBounds_ne (by omega)] at hk
     exact hcl k o' hk hko j hj
   by_cases e:j=i
   ·rw [e]; exact hset
   ·rw [Array.getElem?_setIfInBounds_ne (by omega)]; exact h1
  ·rw [hval]
   by_cases e:k=i
   ·subst e
    simp only [if_true];exact ⟨L.size,hW.size,Nat.le_refl _,hv⟩
   ·simp only [if_neg e]
    rw [Array.getElem?_setIfInBounds_ne (by omega)] at hk;obtain ⟨g1,g2,g3,g4⟩:=hφ k hk;refine ⟨g1,g2,Nat.le_trans g3 hW.size,?_⟩
    have hkl:k<ops.size:=by
     rcases Nat.lt_or_ge k ops.size with x | x
     ·exact x
     ·rw [Array.getElem?_eq_none (by omega)] at hk; cases hk
    have hko:ops[k]?=some ops[k]:=Array.getElem?_eq_getElem hkl
    have hnw:A2 ops[k] i=false:=by
     cases hw:A2 ops[k] i
     ·rfl
     ·have:=hcl k _ hk hko i hw
      rw [hf] at this; cases this
    have hkn:k≠n:=fun x=>by rw [x,hnf] at hk; cases hk
    exact hstab k i _ _ _ _ _ W W' e (by omega) hin' hko hnw g1 g3 hW g4
  ·by_cases e:k=i
   ·have e':k'≠i:=fun x=>hkk (e.trans x.symm)
    simp only [if_pos e,if_neg e'];exact Or.inr (hφ k' (hne' k' hk' e')).2.2.1
   ·by_cases e':k'=i
    ·simp only [if_neg e,if_pos e']
     exact Or.inl (hφ k (hne' k hk e)).2.2.1
    ·simp only [if_neg e,if_neg e']
     exact hdj k k' (hne' k hk e) (hne' k' hk' e') hkk
 ·rintro l a' W hall (⟨-,hq⟩ | ⟨hnf,-⟩)
  ·exact hq
  ·rw [hall n (by omega)] at hnf; cases hnf
end
set_option linter.unusedSimpArgs false
open Go.Sort
section
variable {P:Program} {ops:Array Oper} {C:World→Prop} {Q:Exit→Act→World→Prop}
def Ua (ops:Array Oper) (z:Nat) (l:Array Bool):Prop:=z<ops.size→l.getD z true=false
def Cj (P:Program) (ops:Array Oper) (z:Nat) (C:World→Prop) (Q:Exit→Act→World→Prop):Nat→Array Bool→Act→World→Prop
 | 0,l,a,w=>Region.ready .any ops l=[]∧Q .normal a w
 | f+1,l,a,w=>(Region.ready .any ops l=[]→Q .normal a w)∧∀ i∈Region.ready .any ops l,wpOp P ops Q i (fun a' w'=>(Ua ops z (l.setIfInBounds i true)→C w')∧Cj P ops z C Q f (l.setIfInBounds i true) a' w') a w
theorem Lj {z:Nat}:∀ (f:Nat) (l:Array Bool) (a:Act) (w:World),Cj P ops z C Q f l a w→wpAny P .any ops Q f l a w
 | 0,_,_,_,h=>h
 | f+1,l,a,w,h=>⟨h.1,fun i hi=>wpOp_mono (fun a' w' h'=>Lj f _ a' w' h'.2) (h.2 i hi)⟩
def Cg (P:Program) (ops:Array Oper) (C:World→Prop) (o:Oper) (v:Value) (a:Act):Prop:=Region.wanted o (yielded ops a.tmps)=true∧∀ w,C w→(execOp a.eval o).run P w=.ok (.value v) w
theorem Cg.of_same {o:Oper} {v:Value} {a a':Act} (hy:Cg P ops C o v a) (he:execOp a'.eval o=execOp a.eval o) (hw:Region.wanted o (yielded ops a'.tmps)=Region.wanted o (yielded ops a.tmps)):Cg P ops C o v a':=by
 unfold Cg at *;rw [he,hw];exact hy
theorem Cg.wpOp {i:Nat} {o:Oper} {v:Value} {a:Act} {w:World} (hi:ops[i]?=some o) (hw:C w) (hy:Cg P ops C o v a) {K:Act→World→Prop} (h:K (a.put o.dst v) w):wpOp P ops Q i K a w:=by
 unfold Go.wpOp;simp only [hi,hy.1,if_true,Oper.wp,hy.2 w hw,Oper.upon];exact .inl h
theorem Rw {j:Nat} {oi oj:Oper} {v:Value} (hj:ops[j]?=some oj) (hap:oi.apart ops oj=true)
  (hsi:∀ cs b,oi.op≠.select cs b) (hsj:∀ cs b,oj.op≠.select cs b)
  (hQ:∀ c a w,Q (.panic c) (a.put oi.dst v) w→Q (.panic c) a w) {K:Act→World→Prop} {a:Act} {w:World}
  (hy:Cg P ops C oi v a) (h:wpOp P ops Q j K (a.put oi.dst v) w) :
  wpOp P ops Q j (fun a' w'=>Cg P ops C oi v a'∧K (a'.put oi.dst v) w') a w:=by
 obtain ⟨h1,h2,h3⟩:=Oper.apart_spec hap
 have keep:∀ (a:Act),Cg P ops C oi v a→∀ u,Cg P ops C oi v (a.put oj.dst u):=fun a hy u =>
  hy.of_same (execOp_put oi hsi a oj.dst u h3) (wanted_put oi a oj.dst u h3)
 have keepD:∀ d,Cg P ops C oi v { a with defers:=d :: a.defers }:=fun d=>hy.of_same rfl rfl
 unfold wpOp at *;simp only [hj] at *;rw [wanted_put oj a oi.dst v h1] at h;split
 ·rename_i hw
  simp only [hw,if_true] at h
  rcases h with h | ⟨hasks,hlets⟩
  case inr=>exact .inr ⟨by unfold Oper.asks at *; rw [execOp_put oj hsj a oi.dst v h1] at hasks; exact hasks,hlets⟩
  refine .inl ?_;unfold Oper.wp at *;rw [execOp_put oj hsj a oi.dst v h1] at h;generalize (execOp a.eval oj).run P w=r at *
  cases r with
  | ok n w' =>
   cases n <;> simp only [Oper.upon] at h ⊢
   case value u=>exact ⟨keep a hy u,by rw [← Act.put_comm a v u h2]; exact h⟩
   case skip=>exact ⟨keep a hy _,by rw [← Act.put_comm a v undef h2]; exact h⟩
   case defer d =>
    refine ⟨keep _ (keepD d) _,?_⟩;rw [← Act.put_comm _ v undef h2,← Act.put_defers];exact h
   case enter f args =>
    refine Calls.mono h fun e w'' he=>?_
    cases e with
    | returned u=>exact ⟨keep a hy u,by rw [← Act.put_comm a v u h2]; exact he⟩
    | panicked c=>exact hQ _ _ _ he
    | outgrown=>exact he
   case row row args=>exact Rows.mono h fun u w'' he=>⟨keep a hy u,by rw [← Act.put_comm a v u h2]; exact he⟩
  | halt x w' =>
   cases x <;> simp only [Oper.upon] at h ⊢
   case panic u=>exact hQ _ _ _ h
 ·rename_i hw
  simp only [hw] at h;exact ⟨keep a hy _,by rw [← Act.put_comm a v undef h2]; exact h⟩
theorem Mt {z i:Nat} {l:Array Bool} (h:z≠i):Ua ops z (l.setIfInBounds i true) ↔ Ua ops z l:=by
 unfold Ua;rw [getD_set_ne true (Ne.symm h)]
theorem Ht {z i:Nat} {oi:Oper} {v:Value} {C0:World→Prop} (hi:ops[i]?=some oi) (hsel:∀ (j:Nat) (o:Oper) cs b,ops[j]?=some o→o.op≠.select cs b)
  (hQ:∀ c a w,Q (.panic c) (a.put oi.dst v) w→Q (.panic c) a w) (hzi:z≠i) (hsub:∀ (l:Array Bool) (w:World),l.size=ops.size→Closed ops l→l.getD i true=false→(Ua ops z l→C w)→C0 w) :
  ∀ (f:Nat) (l:Array Bool) (a:Act) (w:World),l.size=ops.size→Closed ops l→(Ua ops z l→C w) →
   (∀ j oj,ops[j]?=some oj→j≠i→l.getD j true=false→(∀ e∈oj.after,Region.binds .any e=true→e.on≠i)→oi.apart ops oj=true) →
   i∈Region.ready .any ops l→Cg P ops C0 oi v a →
   Cj P ops z C Q f (l.setIfInBounds i true) (a.put oi.dst v) w→Cj P ops z C Q (f+1) l a w:=by
 intro f
 induction f with
 | zero =>
  intro l a w hs hcl hw _ hr hy H;refine ⟨fun h=>(by rw [h] at hr; cases hr),fun j hj=>?_⟩
  by_cases hji:j=i
  ·subst hji; exact hy.wpOp hi (hsub l w hs hcl (mem_ready.1 hr).1 hw) ⟨fun h=>hw ((Mt hzi).1 h),H⟩
  ·have:=ready_mono hj hji
   rw [H.1] at this;cases this
 | succ f ih =>
  intro l a w hs hcl hw hfree hr hy H;refine ⟨fun h=>(by rw [h] at hr; cases hr),fun j hj=>?_⟩
  by_cases hji:j=i
  ·subst hji; exact hy.wpOp hi (hsub l w hs hcl (mem_ready.1 hr).1 hw) ⟨fun h=>hw ((Mt hzi).1 h),H⟩
  ·have h1:=H.2 j (ready_mono hj hji)
   obtain ⟨hjun,oj,hoj,hall⟩:=mem_ready.1 hj;have h0:=(mem_ready.1 hr).1
   have hnot:∀ e∈oj.after,Region.binds .any e=true→e.on≠i:=fun e he hb heq=>by
    have h1:=hall e he hb;rw [heq] at h1
    rcases Nat.lt_or_ge i l.size with h' | h'
    ·simp [h'] at h0 h1; rw [h0] at h1; cases h1
    ·simp [Array.getElem?_eq_none h'] at h1
   have h2:=Rw (C:=C0) hoj (hfree j oj hoj hji hjun hnot) (fun cs b=>hsel i oi cs b hi) (fun cs b=>hsel j oj cs b hoj) hQ hy h1
   have hfree':∀ k ok,ops[k]?=some ok→k≠i→(l.setIfInBounds j true).getD k true=false →
     (∀ e∈ok.after,Region.binds .any e=true→e.on≠i)→oi.apart ops ok=true:=fun k ok hk hki hun hno=>by
    refine hfree k ok hk hki ?_ hno
    by_cases hjk:j=k
    ·subst hjk; exact hjun
    ·rw [getD_set_ne true hjk] at hun; exact hun
   refine wpOp_mono (fun a' w' h3=>?_) h2;obtain ⟨hy',hC,hK⟩:=h3
   have hw':Ua ops z (l.setIfInBounds j true)→C w':=fun h=>hC (by rw [Array.setIfInBounds_comm _ _ (Ne.symm hji)]; exact (Mt hzi).2 h)
   refine ⟨hw',ih (l.setIfInBounds j true) a' w' (by simpa using hs) (hcl.set hj) hw' hfree' (ready_mono hr (Ne.symm hji)) hy' ?_⟩;rw [Array.setIfInBounds_comm _ _ hji];exact hK
def Lk (Q:Exit→Act→World→Prop):Exit→Act→World→Prop:=fun e a w=>match e with | .normal=>Q .normal a w | _=>False
def Qz (ops:Array Oper) (l:Array Bool):Bool:=(List.range ops.size).all fun k=>!l.getD k false || (match ops[k]? with | some o=>o.after.all fun e=>!Region.binds .any e || l[e.on]?==some true | none=>false)
theorem Ll {l:Array Bool} (h:Qz ops l=true):Closed ops l:=fun k o hk ho j hj=>by
 have h1:=List.all_eq_true.1 h k (List.mem_range.2 (Array.getElem?_eq_some_iff.1 ho).1);rw [ho,Array.getD_eq_getD_getElem?,hk] at h1;simp only [Option.getD_some,Bool.not_true,Bool.false_or] at h1;unfold A2 at hj;rw [Array.any_eq_true'] at hj;obtain ⟨e,he,hb⟩:=hj;have h2:=(Array.all_eq_true_iff_forall_mem.1 h1) e he;simp only [Bool.and_eq_true,beq_iff_eq] at hb;rw [hb.1] at h2
 simpa [hb.2] using h2
def Q0 (ops:Array Oper) (z i:Nat) (l:Array Bool):Bool:=Region.noSelect ops && Region.free .any ops l i && (Region.ready .any ops l).contains i && decide (l.size=ops.size) && Qz ops l && z != i
theorem Bh {z f:Nat} (i:Nat) {oi:Oper} {v:Value} {l:Array Bool} {a:Act} {w:World} (hi:ops[i]?=some oi) (hB:Q0 ops z i l=true) (hw:C w) (hy:Cg P ops (fun _=>True) oi v a)
  (h:Cj P ops z C (Lk Q) f (l.setIfInBounds i true) (a.put oi.dst v) w):Cj P ops z C (Lk Q) (f+1) l a w:=by
 unfold Q0 at hB;simp only [Bool.and_eq_true,decide_eq_true_eq,bne_iff_ne] at hB;obtain ⟨⟨⟨⟨⟨hs,hf⟩,hr⟩,hl⟩,hcl⟩,hz⟩:=hB;exact Ht hi (Region.noSelect_spec hs) (fun _ _ _ hq=>False.elim hq) hz (fun _ _ _ _ _ _=>trivial) f l a w hl (Ll hcl) (fun _=>hw) (Region.free_spec hi hf) (by simpa using hr) hy h
theorem Bp {z f:Nat} (i:Nat) {oi:Oper} {v:Value} {l:Array Bool} {a:Act} {w:World} (hi:ops[i]?=some oi) (hB:(Q0 ops z i l && (decide (ops.size≤z) || G8 ops 6 z i))=true) (hw:C w) (hy:Cg P ops C oi v a)
  (h:Cj P ops z C (Lk Q) f (l.setIfInBounds i true) (a.put oi.dst v) w):Cj P ops z C (Lk Q) (f+1) l a w:=by
 unfold Q0 at hB;simp only [Bool.and_eq_true,decide_eq_true_eq,bne_iff_ne,Bool.or_eq_true] at hB;obtain ⟨⟨⟨⟨⟨⟨hs,hf⟩,hr⟩,hl⟩,hcl⟩,hz⟩,hq⟩:=hB;refine Ht hi (Region.noSelect_spec hs) (fun _ _ _ hq=>False.elim hq) hz (fun l w hs' hcl' h0 hC=>hC fun hlt=>?_) f l a w hl (Ll hcl) (fun _=>hw) (Region.free_spec hi hf) (by simpa using hr) hy h
 rcases hq':l[z]? with _ | b
 ·rw [Array.getElem?_eq_none_iff] at hq'; omega
 ·cases b with
  | false=>rw [Array.getD_eq_getD_getElem?,hq']; rfl
  | true =>
   have h1:=Gc hcl' 6 z i hq' (hq.resolve_left (by omega));rw [Array.getD_eq_getD_getElem?,h1] at h0;cases h0
theorem A5 {z f:Nat} (i:Nat) {oi:Oper} {l:Array Bool} {a:Act} {w:World} (hi:ops[i]?=some oi) (hB:(Region.ready .any ops l==[i] && oi.guard.isNone)=true)
  (h:oi.wp P a w (fun a' w'=>(Ua ops z (l.setIfInBounds i true)→C w')∧Cj P ops z C Q f (l.setIfInBounds i true) a' w') Q):Cj P ops z C Q (f+1) l a w:=by
 simp only [Bool.and_eq_true,beq_iff_eq] at hB;refine ⟨fun h0=>(by rw [hB.1] at h0; cases h0),fun j hj=>?_⟩;rw [hB.1] at hj;obtain rfl:=List.mem_singleton.1 hj;exact E4 hi (by simpa using hB.2) h
theorem Cy {z:Nat} {l:Array Bool} {a:Act} {w:World} (hr:(Region.ready .any ops l).isEmpty=true) (h:Q .normal a w):Cj P ops z C Q 0 l a w:=⟨by simpa using hr,h⟩
theorem Dm {id:Nat} (z:Nat) (C:World→Prop) {a:Act} {w:World} {t:List Oper} (hm:P.follows .mixedOrders=true) (h:Cj P t.toArray z C (Lk Q) t.toArray.size (Array.replicate t.toArray.size false) a (redrawn w (w.drawn+1))):(Code.region id t.toArray true).wp P Q a w :=
 wp_mono (Q:=Lk Q) (wp_region_any hm (Lj _ _ _ _ h)) (fun e a w hq=>by cases e <;> first | exact hq | exact False.elim hq)
theorem C9 {o:Oper} {a:Act} (x:Operand) (ho:o.op=.move x) (hg:o.guard=none):Cg P ops C o (a.eval x) a:=⟨by simp [Region.wanted,hg],fun w _=>by unfold execOp; simp [ho]⟩
theorem Bq {o:Oper} {a:Act} (x:Operand) (k:Nat) (ho:o.op=.extract x k) (hg:o.guard=none) {vs:Array Value} {v:Value} (hx:a.eval x=.tuple vs) (hv:vs[k]?=some v):Cg P ops C o v a:=⟨by simp [Region.wanted,hg],fun w _=>by unfold execOp; simp [ho,hx,Instr.extract,hv,Result.andThen]⟩
theorem Br {o:Oper} {a:Act} (ty:TypeId) (x:Operand) (ho:o.op=.load ty x) (hgu:o.guard=none) (g:Nat) (hx:a.eval x=(pt g 0)) (t:TypeId) (cs:Array Value) (fr:Nat × Nat) (d:TypeDesc) (hg:∀ w,C w→w.heap[g]?=some (.cells cs t fr))
  (hu:P.underlying ty=some d) (hd:(match d with | .struct _ | .array _ _=>true | _=>false)=true) (hi:(P.info? ty).map (·.size)=some cs.size):Cg P ops C o (.agg cs) a:=⟨by simp [Region.wanted,hgu],fun w hw=>by
 unfold execOp
 simp only [ho,hx,Instr.loadAt,Instr.sureAddr,Sem.run_bind,Sem.run_pure,Result.andThen_ok,run_loadVar_row w g t ty cs fr d (hg w hw) hu hd hi]⟩
end
end Go.Proofs.YtfjieibndedngaaGreat
