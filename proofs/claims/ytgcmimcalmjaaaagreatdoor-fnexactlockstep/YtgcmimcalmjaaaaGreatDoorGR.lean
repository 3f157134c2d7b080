import Derived.Test.YtgcmimcalmjaaaaGreatDoorKId
import Derived.Test.YtgcmimcalmjaaaaGreatDoorE7
namespace Go.Proofs.YtgcmimcalmjaaaaGreatDoor
set_option linter.unusedVariables false
set_option linter.unusedSimpArgs false
open Go.ChangeShapes Go.WideShapes Go.ChangeAt Go.RowKit
theorem Zj {cs:Array Value} {o:Nat} {v:Value} (h:cs[o]?=some v):∀ (j:Nat) (x:Value),#[v][j]?=some x→cs[o+j]?=some x:=fun j x hx=>by
 rcases j with _ | j
 ·exact h.trans hx
 ·simp at hx
theorem Ve {cs:Array Value} {o:Nat} {v0 v1:Value} (h0:cs[o]?=some v0) (h1:cs[o+1]?=some v1):∀ (j:Nat) (x:Value),#[v0,v1][j]?=some x→cs[o+j]?=some x:=fun j x hx=>by
 rcases j with _ | _ | j
 ·exact h0.trans hx
 ·exact h1.trans hx
 ·simp at hx
theorem Gu {cs:Array Value} {o:Nat} {v0 v1 v2 v3 v4 v5 v6 v7:Value} (h0:cs[o]?=some v0) (h1:cs[o+1]?=some v1) (h2:cs[o+2]?=some v2) (h3:cs[o+3]?=some v3) (h4:cs[o+4]?=some v4) (h5:cs[o+5]?=some v5) (h6:cs[o+6]?=some v6) (h7:cs[o+7]?=some v7):∀ (j:Nat) (x:Value),#[v0,v1,v2,v3,v4,v5,v6,v7][j]?=some x→cs[o+j]?=some x:=fun j x hx=>by
 rcases j with _ | _ | _ | _ | _ | _ | _ | _ | j
 ·exact h0.trans hx
 ·exact h1.trans hx
 ·exact h2.trans hx
 ·exact h3.trans hx
 ·exact h4.trans hx
 ·exact h5.trans hx
 ·exact h6.trans hx
 ·exact h7.trans hx
 ·simp at hx
theorem Ce {w:World} {g:Nat} {old:Array Value} {t:TypeId} (hg:w.heap[g]?=some (.cells old t (0,0))) (cs:Array Value):Wrote (fun b _=>b=g) w (w.setRow g cs) :=
 ⟨rfl,rfl,rfl,by simp [World.setRow],fun k hk hn=>setRow_other _ _ _ _ (fun e=>hn 0 e),fun b o hb hn=>cell_setRow_other _ _ _ _ hn,fun b o hb=>by
  by_cases e:b=g
  ·subst e
   rw [As (setRow_heap _ _ _ _ _ _ hg),As hg]
  ·simp [World.frozen?,setRow_other _ _ _ _ e]⟩
open Go.Sort
abbrev Jbm:=List (Nat × Array Value × TypeId)
structure Fv (w:World) (D:Nat→Prop) (W:World) (l:Jbm):Prop where
 below:Below w.heap.size w W
 all:∀ p,p∈l→W.heap[p.1]?=some (.cells p.2.1 p.2.2 (0,0))∧w.heap.size≤p.1∧¬ D p.1
 nd:(l.map (·.1)).Nodup
 lt:∀ b,D b→b<W.heap.size
theorem Fv.nil (w:World):Fv w (fun _=>False) w []:=⟨Below.refl _ _,fun _ h=>(by cases h),List.nodup_nil,fun _ h=>h.elim⟩
section
variable {w W W':World} {D:Nat→Prop} {l:Jbm} {i b:Nat} {cs:Array Value} {t:TypeId}
theorem Fv.ret (h:Fv w D W l) (i:Nat) (e:l[i]?=some (b,cs,t)):W.heap[b]?=some (.cells cs t (0,0)):=(h.all _ (List.mem_of_getElem? e)).1
theorem Fv.call (h:Fv w D W l) (L:Below W.heap.size W W'):Fv w D W' l :=
 ⟨h.below.trans (L.mono h.below.size),fun p hp=>⟨Aa (h.all p hp).1 L (Ac (h.all p hp).1),(h.all p hp).2⟩,h.nd,fun b hb=>Nat.lt_of_lt_of_le (h.lt b hb) L.size⟩
theorem Fv.re (h:Fv w D W l) (L:Below W.heap.size W W'):Fv w (fun b=>W.heap.size≤b∧b<W'.heap.size) W' l :=
 ⟨(h.call L).below,fun p hp=>⟨((h.call L).all p hp).1,(h.all p hp).2.1,fun hd=>absurd (Ac (h.all p hp).1) (by omega)⟩,h.nd,fun _ hb=>hb.2⟩
theorem Fv.alloc (h:Fv w D W l) (cs:Array Value) (t:TypeId) (n:Nat) (e:W.heap.size=n):Fv w D (W.alloc (.cells cs t)) (l++[(n,cs,t)]):=by
 subst e;have L:Below W.heap.size W (W.alloc (.cells cs t)):=(Below.refl _ _).alloc (Nat.le_refl _) _;refine ⟨(h.call L).below,fun p hp=>?_,?_,(h.call L).lt⟩
 ·rcases List.mem_append.1 hp with hp | hp
  ·exact (h.call L).all p hp
  ·obtain rfl:=List.mem_singleton.1 hp
   exact ⟨Al W cs t,h.below.size,fun hd=>absurd (h.lt _ hd) (Nat.lt_irrefl _)⟩
 ·rw [List.map_append,List.nodup_append]
  refine ⟨h.nd,by simp,fun a ha c hc e=>?_⟩;obtain ⟨p,hp,rfl⟩:=List.mem_map.1 ha;have:=Ac (h.all p hp).1
  simp at hc
  omega
theorem Fv.no (h:Fv w D W l) (i:Nat) (e:l[i]?=some (b,cs,t)):¬ D b:=(h.all _ (List.mem_of_getElem? e)).2.2
theorem Fv.far (h:Fv w D W l) (i j:Nat) {b':Nat} {cs':Array Value} {t':TypeId} (e:l[i]?=some (b,cs,t)) (e':l[j]?=some (b',cs',t')) (hij:i≠j):b≠b':=fun x=>by
 have hi:=(List.getElem?_eq_some_iff.1 e).1;have hj:=(List.getElem?_eq_some_iff.1 e').1;refine hij ((List.getElem_inj (xs:=l.map (·.1)) (h₀:=by simpa using hi) (h₁:=by simpa using hj) h.nd).1 ?_);simp only [List.getElem_map];rw [(List.getElem?_eq_some_iff.1 e).2,(List.getElem?_eq_some_iff.1 e').2];exact x
theorem Fv.upd (h:Fv w D W l) (i:Nat) (e:l[i]?=some (b,cs,t)) {cs':Array Value} (TT:Wrote (fun b' _=>b'=b) W W') (k:W'.heap[b]?=some (.cells cs' t (0,0))):Fv w D W' (l.set i (b,cs',t)):=by
 have hb:=h.all _ (List.mem_of_getElem? e);refine ⟨h.below.trans (TT.below h.below.size (fun b' o h1 h2=>by have:=hb.2.1; omega)),fun p hp=>?_,?_,fun b hd=>Nat.lt_of_lt_of_le (h.lt b hd) TT.size⟩
 ·obtain ⟨j,hj⟩:=List.mem_iff_getElem?.1 hp
  by_cases e':i=j
  ·subst e'
   have hlt:=(List.getElem?_eq_some_iff.1 e).1
   simp [List.getElem?_set,hlt] at hj
   subst hj;exact ⟨k,hb.2⟩
  ·rw [List.getElem?_set_ne e'] at hj
   have hp':=h.all p (List.mem_of_getElem? hj);refine ⟨Ah hp'.1 TT (fun o h1=>?_),hp'.2⟩;exact h.far j i (t:=p.2.2) (cs:=p.2.1) hj e (Ne.symm e') h1
 ·rw [List.map_set]
  have:(l.map (·.1)).set i b=l.map (·.1):=by
   refine List.ext_getElem? (fun j=>?_);rw [List.getElem?_set];split
   ·rename_i e'; subst e'
    have hi:=(List.getElem?_eq_some_iff.1 e).1
    simp [hi,e]
    have:=(List.getElem?_eq_some_iff.1 e).2;rw [this]
   ·rfl
  rw [this];exact h.nd
theorem Fv.row (h:Fv w D W l) (i:Nat) (e:l[i]?=some (b,cs,t)) (cs':Array Value):Fv w D (W.setRow b cs') (l.set i (b,cs',t)):=h.upd i e (Ce (h.ret i e) cs') (setRow_heap _ _ _ _ _ _ (h.ret i e))
theorem Mt (W:World) (b o:Nat) (v:Value):Wrote (fun b' _=>b'=b) W (W.setCell ⟨b,o,none⟩ v):=Wrote.setCell (R:=fun b' _=>b'=b) (Wrote.refl _ W) (fun _=>rfl) v
theorem Fv.cell (h:Fv w D W l) (i:Nat) (e:l[i]?=some (b,cs,t)) (o:Nat) (v:Value) {cs':Array Value} (hc:cs.setIfInBounds o v=cs'):Fv w D (W.setCell ⟨b,o,none⟩ v) (l.set i (b,cs',t)):=h.upd i e (Mt W b o v) (hc ▸ Af (h.ret i e) v)
theorem Fv.get (h:Fv w D W l) (i:Nat) (e:l[i]?=some (b,cs,t)) (j:Nat) {v:Value} (hv:cs[j]?=some v):W.cell? ⟨b,j,none⟩=some v:=(Ag (h.ret i e) j).trans hv
theorem Fv.getG (h:Fv w D W l) (i:Nat) (e:l[i]?=some (b,cs,t)) (j:Nat) {v:Value} (hv:cs[j]?=some v) (d:Nat) (os:Array Obj):(grow (redrawn W d) os).cell? ⟨b,j,none⟩=some v:=(h.call (below_regrown W d os)).get i e j hv
theorem Fv.drew (h:Fv w D W l):Fv w D W.drew l:=⟨h.below.trans ((Wrote.drew (R:=fun _ _=>False) (Wrote.refl _ W)).below h.below.size (fun _ _ _ h=>h.elim)),h.all,h.nd,h.lt⟩
theorem Fv.take (h:Fv w D W l) (n:Nat):Fv w D W (l.take n):=⟨h.below,fun p hp=>h.all p (List.mem_of_mem_take hp),by rw [List.map_take]; exact h.nd.sublist (List.take_sublist _ _),h.lt⟩
theorem Fv.mem (h:Fv w D W l) (i:Nat) (e:l[i]?=some (b,cs,t)) (TT:Wrote (fun b' _=>b'=b) W W') {v:Value} {n:Nat} {g:Nat→Int} {bank:Int} (M:Bw W D v n g bank):Bw W' D v n g bank :=
 M.keep TT (fun b' o hd _ he=>(h.all _ (List.mem_of_getElem? e)).2.2 (by have he':b'=b:=he; exact he' ▸ hd))
end
section
variable {P:Program} {ops:Array Oper} {Q:Exit→Act→World→Prop}
def Jbu (ops:Array Oper) (D:List (Nat × Nat)) (i j:Nat):Bool:=D.all fun p=>p.1 != j || p.2==i || Bb ops 6 p.2 i
theorem Jbn {D:List (Nat × Nat)} {i j k:Nat} (h:Jbu ops D k i=true) (hm:(i,j)∈D):j=k∨Bb ops 6 j k=true:=by
 have h1:=List.all_eq_true.1 h (i,j) hm;simp only [bne_self_eq_false,Bool.false_or,Bool.or_eq_true,beq_iff_eq] at h1;exact h1
theorem Bz {id:Nat} {a:Act} {w:World} (ds:List (Option Nat)) (hm:P.follows .mixedOrders=true) (hb:Lm ops=true) (hg:Pu ops=true) (hd:Lw ops ds=true) (hsz:∀ d,d∈slotsOf ds→d<a.tmps.size) (D:List (Nat × Nat))
  (R:Nat→Nat→Nat→Prop) (φ:Nat→(Nat→Value)→World→Prop)
  (hstab:∀ i j o V x W W',i≠j→ops[i]?=some o→A0 o j=false∧(i,j) ∉ D→Wrote (R j) W W'→φ i V W→φ i (Df V j x) W')
  (hstep:∀ i o a' W K,ops[i]?=some o→Fr (slotsOf ds) a a'→Wrote (fun b o'=>∃ j oj,j≠i∧ops[j]?=some oj∧Bb ops 6 j i=false∧R j b o') w W→(∀ j,A0 o j=true→Jbu ops D i j=true→φ j (Bl ds a') W)→(∀ v W',Wrote (R i) W W'→φ i (Df (Bl ds a') i (if o.dst=none then undef else v)) W'→K (a'.put o.dst v) W')→o.wp P a' W K Q)
  (hend:∀ a' W,Fr (slotsOf ds) a a'→Wrote (fun b o=>∃ j,R j b o) w W→(∀ i,i<ops.size→(∀ j,(i,j) ∉ D)→φ i (Bl ds a') W)→Q .normal a' W):(Code.region id ops true).wp P Q a w:=by
 unfold Lw at hd;simp only [Bool.and_eq_true,decide_eq_true_eq] at hd;obtain ⟨⟨hlen,hd1⟩,hd2⟩:=hd
 have hgo:∀ (i:Nat) (o:Oper),ops[i]?=some o→o.guard=none:=fun i o ho=>by
  have h1:=(Array.all_eq_true_iff_forall_mem.1 hg) o (Array.mem_of_getElem? ho)
  simpa using h1
 have hlt:∀ (i:Nat) (o:Oper),ops[i]?=some o→i<ops.size:=fun i o ho=>by
  rcases Nat.lt_or_ge i ops.size with h | h
  ·exact h
  ·rw [Array.getElem?_eq_none h] at ho; cases ho
 have hdst:∀ (i:Nat) (o:Oper),ops[i]?=some o→ds[i]?=some o.dst:=fun i o ho=>by
  have h1:=List.all_eq_true.1 hd1 i (List.mem_range.2 (by rw [hlen]; exact hlt i o ho));rw [ho] at h1;simp only [Option.map_some,Option.getD_some,beq_iff_eq] at h1;exact h1.symm
 have hne:∀ i j d,i≠j→ds[i]?=some (some d)→ds[j]?≠some (some d):=fun i j d h hi hj=>by
  have li:i<ds.length:=by rcases Nat.lt_or_ge i ds.length with x | x; exact x; (rw [List.getElem?_eq_none x] at hi; cases hi)
  have lj:j<ds.length:=by rcases Nat.lt_or_ge j ds.length with x | x; exact x; (rw [List.getElem?_eq_none x] at hj; cases hj)
  have h1:=List.all_eq_true.1 (List.all_eq_true.1 hd2 i (List.mem_range.2 li)) j (List.mem_range.2 lj);rw [hi,hj] at h1
  simp at h1
  exact h h1
 refine Gf hm hb (fun _ l a' W=>Fr (slotsOf ds) a a'∧Wrote (fun b o=>∃ j,l[j]?=some true∧R j b o) w W∧(∀ (k:Nat) (o:Oper),l[k]?=some true→ops[k]?=some o→∀ j:Nat,A0 o j=true→l[j]?=some true)∧∀ i:Nat,l[i]?=some true→(∀ j:Nat,l[j]?=some true→(i,j) ∉ D)→φ i (Bl ds a') W) ?_ ?_ ?_
 ·have hno:∀ i:Nat,(Array.replicate ops.size false)[i]?≠some true:=fun i h=>by
   rcases Nat.lt_or_ge i ops.size with x | x
   ·simp [x] at h
   ·rw [Array.getElem?_eq_none (by simpa using x)] at h; cases h
  exact ⟨⟨rfl,rfl,fun _ _=>rfl⟩,⟨rfl,rfl,rfl,Nat.le_refl _,fun _ _ _=>rfl,fun _ _ _ _=>rfl,fun _ _ _=>rfl⟩,fun k _ h=>absurd h (hno k),fun i h=>absurd h (hno i)⟩
 ·rintro l a' W i o K hl ⟨F,L,hcl,hφ⟩ ho hf ha hK
  have hi:=hlt i o ho;have hdi:=hdst i o ho
  have hdone:∀ j,l[j]?=some true→∀ b o,R j b o→∃ j oj,j≠i∧ops[j]?=some oj∧Bb ops 6 j i=false∧R j b o:=fun j h1 b o h2=>by
   have hjl:j<ops.size:=by
    rcases Nat.lt_or_ge j ops.size with x | x
    ·exact x
    ·rw [Array.getElem?_eq_none (by omega)] at h1; cases h1
   have hjo:ops[j]?=some ops[j]:=Array.getElem?_eq_getElem hjl;refine ⟨j,ops[j],(fun e=>by rw [e,hf] at h1; cases h1),hjo,?_,h2⟩;cases hw:Bb ops 6 j i
   ·rfl
   ·have:=Gc hcl 6 j i h1 hw
    rw [hf] at this; cases this
  refine Ky ho (hgo i o ho) (hstep i o a' W K ho F (L.mono (fun b o _ ⟨j,h1,h2⟩=>hdone j h1 b o h2)) (fun j hj hv=>hφ j (D9 ha hj) (fun j' hj' hm=>?_)) (fun v W' hW hv=>hK _ _ ?_))
  ·rcases Jbn hv hm with e | e
   ·rw [e,hf] at hj'; cases hj'
   ·have:=Gc hcl 6 j' i hj' e
    rw [hf] at this; cases this
  have hset:(l.setIfInBounds i true)[i]?=some true:=by simp [hl,hi]
  have hval:Bl ds (a'.put o.dst v)=Df (Bl ds a') i (if o.dst=none then undef else v):=by
   funext k
   by_cases e:k=i
   ·subst e
    rw [Ai]
    cases e:o.dst with
    | none =>
     rw [e] at hdi;unfold Bl;rw [hdi]
     simp
    | some d =>
     rw [e] at hdi;have hmem:d∈slotsOf ds:=List.mem_filterMap.2 ⟨some d,List.mem_of_getElem? hdi,rfl⟩;unfold Bl;rw [hdi]
     simpa using Fz (by rw [F.size]; exact hsz d hmem)
   ·rw [Ar _ _ e]
    cases e2:o.dst with
    | none=>rfl
    | some d =>
     rw [e2] at hdi;unfold Bl
     cases e3:ds[k]? with
     | none=>rfl
     | some x =>
      cases x with
      | none=>rfl
      | some d' =>
       have:d≠d':=fun x=>hne k i d' e e3 (by rw [hdi,x])
       exact Es this
  refine ⟨?_,(L.mono (fun b o _ ⟨j,h1,h2⟩=>⟨j,by rw [Array.getElem?_setIfInBounds_ne (fun e=>by rw [← e,hf] at h1; cases h1)]; exact h1,h2⟩)).trans (hW.mono (fun b o _ h=>⟨i,hset,h⟩)),fun k o' hk hko j hj=>?_,fun k hk hkd=>?_⟩
  ·cases e:o.dst with
   | none=>exact F
   | some d =>
    rw [e] at hdi;exact F.put (List.mem_filterMap.2 ⟨some d,List.mem_of_getElem? hdi,rfl⟩) v
  ·have h1:l[j]?=some true:=by
    by_cases e:k=i
    ·subst e
     rw [ho] at hko;obtain rfl:=Option.some.inj hko;exact D9 ha hj
    ·rw [Array.getElem?_setIfInBounds_ne (by omega)] at hk
     exact hcl k o' hk hko j hj
   by_cases e:j=i
   ·rw [e]; exact hset
   ·rw [Array.getElem?_setIfInBounds_ne (by omega)]; exact h1
  ·rw [hval]
   by_cases e:k=i
   ·subst e
    exact hv
   ·rw [Array.getElem?_setIfInBounds_ne (by omega)] at hk
    have hkl:k<ops.size:=by
     rcases Nat.lt_or_ge k ops.size with x | x
     ·exact x
     ·rw [Array.getElem?_eq_none (by omega)] at hk; cases hk
    have hko:ops[k]?=some ops[k]:=Array.getElem?_eq_getElem hkl
    have hnw:A0 ops[k] i=false:=by
     cases hw:A0 ops[k] i
     ·rfl
     ·have:=hcl k _ hk hko i hw
      rw [hf] at this; cases this
    exact hstab k i _ _ _ W W' e hko ⟨hnw,hkd i hset⟩ hW (hφ k hk (fun j hj=>hkd j (by
     by_cases e:j=i
     ·rw [e]; exact hset
     ·rw [Array.getElem?_setIfInBounds_ne (by omega)]; exact hj)))
 ·rintro l a' W hall ⟨F,L,-,hφ⟩
  exact hend a' W F (L.mono (fun b o _ ⟨j,_,h2⟩=>⟨j,h2⟩)) (fun i hi hd=>hφ i (hall i hi) (fun j _=>hd j))
end
set_option linter.unusedSimpArgs false
theorem Vf (x:Int):1≤opLn x∧opLn x≤3:=by
 have key:∀ i:Nat,i<30→1≤Gz.getD i 1∧Gz.getD i 1≤3:=by decide
 unfold opLn
 by_cases h:0≤x∧x≤29
 ·rw [if_pos h]
  exact key x.toNat (by omega)
 ·rw [if_neg h]
  omega
structure A4 where
 A:Int
 X:Int
 S:Int
 Pc:Int
 Z:Bool
 N:Bool
 C:Bool
 I:Bool
def A4.v (c:A4):Value:=.agg (cR c.A c.X c.S c.Pc c.Z c.N c.C c.I)
def setAc (c:A4) (x:Int):A4:={ c with A:=x%256,Z:=x%256==0,N:=decide (127<x%256) }
def Vg (c:A4) (x:Int):A4:={ c with X:=x%256,Z:=x%256==0,N:=decide (127<x%256) }
def addC (c:A4) (v:Int):A4:={ setAc c ((c.A%256+v%256+Av c.C)%256) with C:=decide (255<c.A%256+v%256+Av c.C) }
def Jd6 (c:A4) (v:Int):A4:={ setAc c ((c.A%256-v%256-1+Av c.C)%256) with C:=decide (0≤c.A%256-v%256-1+Av c.C) }
def Jd7 (c:A4) (v:Int):A4:={ c with Z:=(c.A%256-v%256)%256==0,N:=decide (127<(c.A%256-v%256)%256),C:=decide (v%256≤c.A%256) }
def Gv (op:Int):Bool:=decide (op=1∨op=2∨op=14∨op=4∨op=29∨op=5∨op=6∨op=7∨op=8∨op=9∨op=10∨op=11∨op=12∨op=13)
def aluC (c:A4) (op arg v:Int):A4 :=
 if op=1 then setAc c arg else if op=2∨op=14 then setAc c v else if op=4 then addC c arg else if op=29 then addC c v else if op=5 then Jd6 c arg
 else if op=6 then setAc c (bits .and .i64 (c.A%256) (arg%256)) else if op=7 then setAc c (bits .or .i64 (c.A%256) (arg%256)) else if op=8 then setAc c (bits .xor .i64 (c.A%256) (arg%256))
 else if op=9 then Jd7 c arg else if op=10 then Vg c c.A else if op=11 then setAc c c.X else if op=12 then Vg c (c.X%256+1) else if op=13 then Vg c (c.X%256-1) else c
def De (g:Nat→Int) (S:Int):Int:=g (256+(S+1)%256).toNat%256
def Ks (g:Nat→Int) (c:A4):A4:={ c with S:=((c.S+1)%256+1)%256,Pc:=De g c.S%256+256*(De g ((c.S+1)%256)%256) }
def nextC (c:A4) (op:Int):A4:={ c with Pc:=(c.Pc+opLn op)%65536 }
def Dy (g:Nat→Int) (c:A4) (op arg v:Int):A4 :=
 if Gv op=true then aluC (nextC c op) op arg v else if op=16 then (if c.Z=true then nextC c 16 else { nextC c 16 with Pc:=arg%65536 }) else if op=17 then (if c.Z=true then { nextC c 17 with Pc:=arg%65536 } else nextC c 17) else if op=18 then (if c.C=true then { nextC c 18 with Pc:=arg%65536 } else nextC c 18) else if op=19 then { nextC c 19 with Pc:=arg%65536 }
 else if op=20 then { nextC c 20 with S:=dec8 (dec8 c.S),Pc:=arg%65536 } else if op=21 then Ks g (nextC c 21) else if op=22 then { nextC c 22 with S:=dec8 c.S } else if op=23 then setAc { nextC c 23 with S:=(c.S+1)%256 } (De g c.S)
 else if op=24 then Ks g { nextC c 24 with S:=(c.S+1)%256,Z:=hasB (De g c.S) 2,N:=hasB (De g c.S) 128,C:=hasB (De g c.S) 1,I:=hasB (De g c.S) 4 } else if op=25 then { nextC c 25 with I:=true } else if op=26 then { nextC c 26 with I:=false } else if op=27 then { nextC c 27 with C:=true } else if op=28 then { nextC c 28 with C:=false } else nextC c op
def Ew (g:Nat→Int) (c:A4) (op:Int):Nat→Int:=if op=20 then B7 (B7 g c.S ((nextC c 20).Pc/256)) (dec8 c.S) (nextC c 20).Pc else if op=22 then B7 g c.S c.A else g
theorem Zk {op:Int} (h:Gv op=true):¬ op=20∧¬ op=22:=by
 unfold Gv at h;have:=of_decide_eq_true h
 omega
def Cg (g:Nat→Int) (c:A4) (op arg v:Int):A4 :=
 if Gv op=true then aluC c op arg v else if op=16 then (if c.Z=true then c else { c with Pc:=arg%65536 }) else if op=17 then (if c.Z=true then { c with Pc:=arg%65536 } else c) else if op=18 then (if c.C=true then { c with Pc:=arg%65536 } else c) else if op=19 then { c with Pc:=arg%65536 }
 else if op=20 then { c with S:=dec8 (dec8 c.S),Pc:=arg%65536 } else if op=21 then Ks g c else if op=22 then { c with S:=dec8 c.S } else if op=23 then setAc { c with S:=(c.S+1)%256 } (De g c.S)
 else if op=24 then Ks g { c with S:=(c.S+1)%256,Z:=hasB (De g c.S) 2,N:=hasB (De g c.S) 128,C:=hasB (De g c.S) 1,I:=hasB (De g c.S) 4 } else if op=25 then { c with I:=true } else if op=26 then { c with I:=false } else if op=27 then { c with C:=true } else if op=28 then { c with C:=false } else c
def Ch (g:Nat→Int) (c:A4) (op:Int):Nat→Int:=if op=20 then B7 (B7 g c.S (c.Pc/256)) (dec8 c.S) c.Pc else if op=22 then B7 g c.S c.A else g
theorem Ts (g:Nat→Int) (c:A4) (op arg v:Int):Dy g c op arg v=Cg g (nextC c op) op arg v:=by
 unfold Dy Cg
 by_cases h:Gv op=true
 ·rw [if_pos h,if_pos h]
 rw [if_neg h,if_neg h]
 by_cases h16:op=16
 ·subst h16; rfl
 by_cases h17:op=17
 ·subst h17; rfl
 by_cases h18:op=18
 ·subst h18; rfl
 by_cases h19:op=19
 ·subst h19; rfl
 by_cases h20:op=20
 ·subst h20; rfl
 by_cases h21:op=21
 ·subst h21; rfl
 by_cases h22:op=22
 ·subst h22; rfl
 by_cases h23:op=23
 ·subst h23; rfl
 by_cases h24:op=24
 ·subst h24; rfl
 by_cases h25:op=25
 ·subst h25; rfl
 by_cases h26:op=26
 ·subst h26; rfl
 by_cases h27:op=27
 ·subst h27; rfl
 by_cases h28:op=28
 ·subst h28; rfl
 simp only [h16,h17,h18,h19,h20,h21,h22,h23,h24,h25,h26,h27,h28,if_false]
theorem Tt (g:Nat→Int) (c:A4) (op:Int):Ew g c op=Ch g (nextC c op) op:=by
 unfold Ew Ch
 by_cases h20:op=20
 ·subst h20; rfl
 by_cases h22:op=22
 ·subst h22; rfl
 simp only [h20,h22,if_false]
set_option maxHeartbeats 8000000
set_option maxRecDepth 20000
theorem Bq:(Tryz.prog.info? 42).map (·.size)=some 2:=by kernel_rfl
theorem Aw:(Tryz.prog.info? 43).map (·.size)=some 8:=by kernel_rfl
def A4.a (c:A4):Array Value:=(cR c.A c.X c.S c.Pc c.Z c.N c.C c.I)
theorem A4.one (c:A4):c.a.all (·.oneCell')=true:=by unfold A4.a; first | kernel_rfl | simp [Value.oneCell']
theorem Ii (c:A4) (x:Int) (w:World):Calls Tryz.prog 129 #[.agg c.a,.i x] w fun e w'=>e=.returned (.agg (setAc c x).a)∧Below w.heap.size w w':=Yl w c.A c.X c.S c.Pc c.Z c.N c.C c.I x
theorem Zl (c:A4) (x:Int) (w:World):Calls Tryz.prog 150 #[.agg c.a,.i x] w fun e w'=>e=.returned (.agg (Vg c x).a)∧Below w.heap.size w w':=Ym w c.A c.X c.S c.Pc c.Z c.N c.C c.I x
--@need spec.l7Add
theorem Oz (c:A4) (v:Int) (w:World):Calls Tryz.prog 147 #[.agg c.a,.i v] w fun e w'=>e=.returned (.agg (addC c v).a)∧Below w.heap.size w w':=by
 obtain ⟨x,hx⟩:∃ x,Hid (x=(c.A%256+v%256+Av c.C)%256):=⟨_,rfl⟩
 obtain ⟨y,hy⟩:∃ y,Hid (y=decide (255<c.A%256+v%256+Av c.C)):=⟨_,rfl⟩
 have HA:=Ad (fun W=>Yc c.A v c.C W);rw [← hx.out,← hy.out] at HA
 have HR:(setAc c x).a.setIfInBounds 6 (.bool y)=(addC c v).a:=by rw [hx.out,hy.out]; rfl
 clear hx hy;have B:=((Fv.nil w).alloc c.a 43 w.heap.size rfl).alloc cZ 43 (w.heap.size+1) (by simp)
 go_enter Tryz.func147,Tryz.ntmps147
 go_upto_region 1 with (fail);generalize (w.alloc (.cells c.a 43)).alloc (.cells cZ 43)=W0 at *;have c0:=B.get 0 rfl 0 (v:=.i c.A) rfl;have c6:=B.get 0 rfl 6 (v:=.bool c.C) rfl;go_wp2_with fail;clear c0 c6;refine (An HA _).mono ?_;rintro e W1 ⟨rfl,rfl⟩;go_upto_region 2 with (fail);rename_i K1 hK1;refine wp_region_lit ?_;refine wpList_load_row rfl _ _ rfl (w.heap.size) rfl _ _ _ _ (B.ret 0 rfl) Tryz.underlying43 rfl Aw ?_;go_wp2_with fail;rename_i K2 hK2;refine (Ii c x _).mono ?_;rintro e W2 ⟨rfl,L⟩;replace B:=B.call L;refine hK2 _ _ ?_;refine wpList_store_row rfl _ _ _ rfl (w.heap.size) (setAc c x).a rfl rfl _ _ (B.ret 0 rfl) Aw rfl (A4.one _) ?_;replace B:=B.row 0 rfl (setAc c x).a;generalize W2.setRow (w.heap.size) (setAc c x).a=W3 at *;refine hK1 _ _ ?_;have fc:=As (B.ret 0 rfl);have c6:=B.get 0 rfl 6 (v:=.bool c.C) rfl
 go_upto_region 4 with (fail);clear fc c6;replace B:=B.cell 0 rfl 6 (.bool y) HR;generalize W3.setCell ⟨w.heap.size,6,none⟩ (.bool y)=W4 at *;rename_i K3 hK3;refine wp_region_lit ?_;refine wpList_load_row rfl _ _ rfl (w.heap.size) rfl _ _ _ _ (B.ret 0 rfl) Tryz.underlying43 rfl Aw ?_;refine wpList_store_row rfl _ _ _ rfl (w.heap.size+1) (addC c v).a rfl rfl _ _ (B.ret 1 rfl) Aw rfl (A4.one _) ?_;replace B:=B.row 1 rfl (addC c v).a;generalize W4.setRow (w.heap.size+1) (addC c v).a=W5 at *;refine hK3 _ _ ?_;go_wp2;refine bodyPost_ret (v:=.agg (addC c v).a) (results_cell_row (by rfl) _ _ (w.heap.size+1) _ _ _ _ rfl (B.ret 1 rfl) Tryz.underlying43 rfl Aw) rfl ?_;exact ⟨rfl,B.below⟩
theorem Fb {P:Program} {fn:Func} {p q:Tmp} {ty:TypeId} (h:fn.results=#[.cell p ty,.tmp q]) (tmps:Array Value) (w:World) (g:Nat) (t:TypeId) (cs:Array Value) (fr:Nat × Nat) (dd:TypeDesc)
  (hp:tmps.getD p undef=(pt g 0)) (hg:w.heap[g]?=some (.cells cs t fr)) (hu:P.underlying ty=some dd) (hd:(match dd with | .struct _ | .array _ _=>true | _=>false)=true) (hi:(P.info? ty).map (·.size)=some cs.size) :
  (results fn tmps).run P w=.ok (.tuple #[.agg cs,tmps.getD q undef]) w:=by
 have hp':tmps[p]?.getD undef=(pt g 0):=by simpa using hp
 simp [results,h,hp',asAddr,run_loadVar_row w g t ty cs fr dd hg hu hd hi]
theorem Cx {op:Int} (h:Gv op=false) (k:Int) (hk:Gv k=true):(op==k)=false:=beq_eq_false_iff_ne.2 (fun e=>by rw [e,hk] at h; cases h)
theorem Xk (c:A4) (op arg v:Int) (w:World):Calls Tryz.prog 126 #[.agg c.a,.agg #[.i op,.i arg],.i v] w fun e w'=>e=.returned (.tuple #[.agg (aluC c op arg v).a,.bool (Gv op)])∧Below w.heap.size w w':=by
 have B:=(((Fv.nil w).alloc c.a 43 w.heap.size rfl).alloc #[.i op,.i arg] 109 (w.heap.size+1) (by simp)).alloc cZ 43 (w.heap.size+1+1) (by simp)
 go_enter Tryz.func126,Tryz.ntmps126
 go_upto_region 1 with (fail);generalize ((w.alloc (.cells c.a 43)).alloc (.cells #[.i op,.i arg] 109)).alloc (.cells cZ 43)=W0 at *;have c0:=B.get 0 rfl 0 (v:=.i c.A) rfl;have c1:=B.get 0 rfl 1 (v:=.i c.X) rfl;have c6:=B.get 0 rfl 6 (v:=.bool c.C) rfl;have f_c:=As (B.ret 0 rfl);have c_i:=Ag (B.ret 1 rfl)
 by_cases hs:op=1∨op=2∨op=14∨op=4∨op=29∨op=10∨op=11
 ·rcases hs with rfl | rfl | rfl | rfl | rfl | rfl | rfl
  focus (go_upto_region 3 with (fail); have HS:=Ii c arg)
  rotate_left
  focus (go_upto_region 6 with (fail); have HS:=Ii c v)
  rotate_left
  focus (go_upto_region 6 with (fail); have HS:=Ii c v)
  rotate_left
  focus (go_upto_region 8 with (fail); have HS:=Oz c arg)
  rotate_left
  focus (go_upto_region 10 with (fail); have HS:=Oz c v)
  rotate_left
  focus (go_upto_region 27 with (fail); have HS:=Zl c c.A)
  rotate_left
  focus (go_upto_region 29 with (fail); have HS:=Ii c c.X)
  rotate_left
  all_goals
   rename_i K1 hK1;refine wp_region_lit ?_;refine wpList_load_row rfl _ _ rfl (w.heap.size) rfl _ _ _ _ (B.ret 0 rfl) Tryz.underlying43 rfl Aw ?_;go_wp2_with fail;rename_i K2 hK2;refine (HS _).mono ?_;rintro e W2 ⟨rfl,L⟩;replace B:=B.call L;refine hK2 _ _ ?_;refine wpList_store_row rfl _ _ _ rfl (w.heap.size+1+1) _ rfl rfl _ _ (B.ret 2 rfl) Aw rfl (A4.one _) ?_;refine wpList_plain rfl (fun K9 hK9=>?_);go_simp;refine hK9 _ _ ?_;refine hK1 _ _ ?_;go_wp2;refine bodyPost_ret (v:=.tuple #[.agg _,.bool _]) (Fb Tryz.results126 _ _ (w.heap.size+1+1) _ _ _ _ rfl ((B.row 2 rfl _).ret 2 rfl) Tryz.underlying43 rfl Aw) rfl ?_;exact ⟨rfl,(B.row 2 rfl _).below⟩
 by_cases hs2:op=6∨op=7∨op=8
 ·have g0:=B.getG 0 rfl 0 (v:=.i c.A) rfl
  have g1:=B.getG 1 rfl 1 (v:=.i arg) rfl
  rcases hs2 with rfl | rfl | rfl
  focus (go_upto_region 17 with (fail))
  rotate_left
  focus (go_upto_region 19 with (fail))
  rotate_left
  focus (go_upto_region 21 with (fail))
  rotate_left
  all_goals
   rename_i K1 hK1;refine Fq (n:=9) (by kernel_rfl) (by kernel_rfl) ?_;simp only [List.take_succ_cons,List.take_zero,List.drop_succ_cons,List.drop_zero];refine Bp _ _ rfl rfl w.heap.size 0 (by go_simp) _ _ c.a _ _ (B.ret 0 rfl) (fun j v h=>by rw [Nat.zero_add]; exact h) Tryz.underlying43 rfl Aw ?_;simp only [Act.put,List.setIfInBounds_toArray,List.set_cons_succ,List.set_cons_zero]
   iterate 7 (go_big_quiet_step ((go_at_call 116; exact Calls.regrown_of ((Bs _ _).mono fun e w' ⟨h1,h2⟩=>⟨h1,h2 ▸ Below.refl _ _⟩))))
   go_big_quiet_step ((go_at_call 129; exact Calls.regrown_of (Ii c _ _)))
   refine wpQuiet_nil ?_;intro w' hw';obtain ⟨⟨d,os⟩,rfl⟩:=hw';replace B:=B.call (below_regrown W0 d os);refine wp_store_row _ _ _ rfl (w.heap.size+1+1) _ rfl rfl _ _ (B.ret 2 rfl) Aw rfl (A4.one _) ?_;simp only [Kl];go_simp;refine hK1 _ _ ?_;go_wp2;refine bodyPost_ret (v:=.tuple #[.agg _,.bool _]) (Fb Tryz.results126 _ _ (w.heap.size+1+1) _ _ _ _ rfl ((B.row 2 rfl _).ret 2 rfl) Tryz.underlying43 rfl Aw) rfl ?_;exact ⟨rfl,(B.row 2 rfl _).below⟩
 by_cases hs3:op=12∨op=13
 ·have g0:=B.getG 0 rfl 1 (v:=.i c.X) rfl
  have h1:IntKind.i64.wrap (c.X%256+1)=c.X%256+1:=by rw [IntKind.wrap_i64]; omega
  have h2:IntKind.i64.wrap (c.X%256-1)=c.X%256-1:=by rw [IntKind.wrap_i64]; omega
  rcases hs3 with rfl | rfl
  focus (go_upto_region 31 with (fail))
  rotate_left
  focus (go_upto_region 33 with (fail))
  rotate_left
  all_goals
   rename_i K1 hK1;refine Fq (n:=6) (by kernel_rfl) (by kernel_rfl) ?_;simp only [List.take_succ_cons,List.take_zero,List.drop_succ_cons,List.drop_zero];refine Bp _ _ rfl rfl w.heap.size 0 (by go_simp) _ _ c.a _ _ (B.ret 0 rfl) (fun j v h=>by rw [Nat.zero_add]; exact h) Tryz.underlying43 rfl Aw ?_;simp only [Act.put,List.setIfInBounds_toArray,List.set_cons_succ,List.set_cons_zero]
   iterate 4 (go_big_quiet_step ((go_at_call 116; exact Calls.regrown_of ((Bs _ _).mono fun e w' ⟨h1,h2⟩=>⟨h1,h2 ▸ Below.refl _ _⟩))))
   go_big_quiet_step ((go_at_call 150; exact Calls.regrown_of (Zl c _ _)))
   refine wpQuiet_nil ?_;intro w' hw';obtain ⟨⟨d,os⟩,rfl⟩:=hw';replace B:=B.call (below_regrown W0 d os);refine wp_store_row _ _ _ rfl (w.heap.size+1+1) _ rfl rfl _ _ (B.ret 2 rfl) Aw rfl (A4.one _) ?_;simp only [Kl];go_simp;refine hK1 _ _ ?_;go_wp2;refine bodyPost_ret (v:=.tuple #[.agg _,.bool _]) (Fb Tryz.results126 _ _ (w.heap.size+1+1) _ _ _ _ rfl ((B.row 2 rfl _).ret 2 rfl) Tryz.underlying43 rfl Aw) rfl ?_;exact ⟨rfl,(B.row 2 rfl _).below⟩
 by_cases h5:op=5
 ·subst h5
  obtain ⟨x,hx⟩:∃ x,Hid (x=(c.A%256-arg%256-1+Av c.C)%256):=⟨_,rfl⟩
  obtain ⟨y,hy⟩:∃ y,Hid (y=decide (0≤c.A%256-arg%256-1+Av c.C)):=⟨_,rfl⟩
  have HA:=Ad (fun W=>Yd c.A arg c.C W);rw [← hx.out,← hy.out] at HA
  have HR:(setAc c x).a.setIfInBounds 6 (.bool y)=(aluC c 5 arg v).a:=by rw [hx.out,hy.out]; rfl
  clear hx hy;go_upto_region 12 with (fail);go_wp2_with fail;clear c0 c1 c6 f_c c_i;refine (An HA _).mono ?_;rintro e W1 ⟨rfl,rfl⟩;go_upto_region 13 with (fail);rename_i K1 hK1;refine wp_region_lit ?_;refine wpList_load_row rfl _ _ rfl (w.heap.size) rfl _ _ _ _ (B.ret 0 rfl) Tryz.underlying43 rfl Aw ?_;go_wp2_with fail;rename_i K2 hK2;refine (Ii c x _).mono ?_;rintro e W2 ⟨rfl,L⟩;replace B:=B.call L;refine hK2 _ _ ?_;refine wpList_store_row rfl _ _ _ rfl (w.heap.size) (setAc c x).a rfl rfl _ _ (B.ret 0 rfl) Aw rfl (A4.one _) ?_;replace B:=B.row 0 rfl (setAc c x).a;generalize W2.setRow (w.heap.size) (setAc c x).a=W3 at *;refine hK1 _ _ ?_;have fc:=As (B.ret 0 rfl);have c6:=B.get 0 rfl 6 (v:=.bool c.C) rfl;go_upto_region 15 with (fail);clear fc c6;replace B:=B.cell 0 rfl 6 (.bool y) HR;generalize W3.setCell ⟨w.heap.size,6,none⟩ (.bool y)=W4 at *
  rename_i K1 hK1;refine wp_region_lit ?_;refine wpList_load_row rfl _ _ rfl (w.heap.size) rfl _ _ _ _ (B.ret 0 rfl) Tryz.underlying43 rfl Aw ?_;refine wpList_store_row rfl _ _ _ rfl (w.heap.size+1+1) _ rfl rfl _ _ (B.ret 2 rfl) Aw rfl (A4.one _) ?_;refine wpList_plain rfl (fun K9 hK9=>?_);go_simp;refine hK9 _ _ ?_;refine hK1 _ _ ?_;go_wp2;refine bodyPost_ret (v:=.tuple #[.agg _,.bool _]) (Fb Tryz.results126 _ _ (w.heap.size+1+1) _ _ _ _ rfl ((B.row 2 rfl _).ret 2 rfl) Tryz.underlying43 rfl Aw) rfl ?_;exact ⟨rfl,(B.row 2 rfl _).below⟩
 by_cases h9:op=9
 ·subst h9
  obtain ⟨z,hz⟩:∃ x,Hid (x=((c.A%256-arg%256)%256==0)):=⟨_,rfl⟩
  obtain ⟨n,hn⟩:∃ x,Hid (x=decide (127<(c.A%256-arg%256)%256)):=⟨_,rfl⟩
  have HG:=Ad (fun W=>J7 (c.A%256-arg%256) W);rw [← hz.out,← hn.out] at HG
  have hw1:IntKind.i64.wrap (c.A%256-arg%256)=c.A%256-arg%256:=by rw [IntKind.wrap_i64]; omega
  have HR:((c.a.setIfInBounds 4 (.bool z)).setIfInBounds 5 (.bool n)).setIfInBounds 6 (.bool (decide (arg%256≤c.A%256)))=(aluC c 9 arg v).a:=by rw [hz.out,hn.out]; rfl
  clear hz hn;go_upto_region 23 with (fail);rename_i K1 hK1;have a1:=B.get 1 rfl 1 (v:=.i arg) rfl;have c4:=B.get 0 rfl 4 (v:=.bool c.Z) rfl;have c5:=B.get 0 rfl 5 (v:=.bool c.N) rfl;have B1:=B.cell 0 rfl 4 (.bool z) rfl;have B2:=B1.cell 0 rfl 5 (.bool n) rfl;have b0:(W0.setCell ⟨w.heap.size,4,none⟩ (.bool z)).drew.cell? ⟨w.heap.size,0,none⟩=some (.i c.A):=B1.get 0 rfl 0 rfl;have b1:(W0.setCell ⟨w.heap.size,4,none⟩ (.bool z)).drew.cell? ⟨w.heap.size+1,1,none⟩=some (.i arg):=B1.get 1 rfl 1 rfl;have b2:((W0.setCell ⟨w.heap.size,4,none⟩ (.bool z)).setCell ⟨w.heap.size,5,none⟩ (.bool n)).drew.cell? ⟨w.heap.size,0,none⟩=some (.i c.A):=B2.get 0 rfl 0 rfl;have b3:((W0.setCell ⟨w.heap.size,4,none⟩ (.bool z)).setCell ⟨w.heap.size,5,none⟩ (.bool n)).drew.cell? ⟨w.heap.size+1,1,none⟩=some (.i arg):=B2.get 1 rfl 1 rfl
  go_region_held3 (fun w'=>w'.cell? ⟨w.heap.size,0,none⟩=some (.i c.A)∧w'.cell? ⟨w.heap.size+1,1,none⟩=some (.i arg)) (first | (with_reducible assumption) | (refine ⟨?_,?_⟩ <;> with_reducible assumption) | go_keep) (first | (go_at_call 116; refine (Bs _ _).mono ?_; rintro e W5 ⟨rfl,rfl⟩) | (go_at_call 149; refine (An HG _).mono ?_; rintro e W5 ⟨rfl,rfl⟩))
  replace B:=B2.drew;clear B1 B2 a1 c4 c5 b0 b1 b2 b3 c0 c1 c6 f_c c_i;refine hK1 _ _ ?_;clear hK1;generalize ((W0.setCell ⟨w.heap.size,4,none⟩ (.bool z)).setCell ⟨w.heap.size,5,none⟩ (.bool n)).drew=W6 at *;go_upto_region 24 with (fail);rename_i K1 hK1;have g0:=B.getG 0 rfl 0 (v:=.i c.A) rfl;have g1:=B.getG 1 rfl 1 (v:=.i arg) rfl;refine A6 (n:=8) (by kernel_rfl) (by kernel_rfl) rfl ?_;simp only [List.take_succ_cons,List.take_zero]
  iterate 8 (go_big_quiet_step ((go_at_call 116; exact Calls.regrown_of ((Bs _ _).mono fun e w' ⟨h1,h2⟩=>⟨h1,h2 ▸ Below.refl _ _⟩))))
  refine wpQuiet_nil ?_;intro w' hw';obtain ⟨⟨d,os⟩,rfl⟩:=hw';replace B:=B.call (below_regrown W6 d os);have fc:=As (B.ret 0 rfl);have c6:=B.get 0 rfl 6 (v:=.bool c.C) rfl;go_simp;replace B:=B.cell 0 rfl 6 _ HR;refine hK1 _ _ ?_;clear fc c6 g0 g1 hK1;go_upto_region 25 with (fail);rename_i K1 hK1;refine wp_region_lit ?_;refine wpList_load_row rfl _ _ rfl (w.heap.size) rfl _ _ _ _ (B.ret 0 rfl) Tryz.underlying43 rfl Aw ?_;refine wpList_store_row rfl _ _ _ rfl (w.heap.size+1+1) _ rfl rfl _ _ (B.ret 2 rfl) Aw rfl (A4.one _) ?_;refine wpList_plain rfl (fun K9 hK9=>?_);go_simp;refine hK9 _ _ ?_;refine hK1 _ _ ?_;go_wp2;refine bodyPost_ret (v:=.tuple #[.agg _,.bool _]) (Fb Tryz.results126 _ _ (w.heap.size+1+1) _ _ _ _ rfl ((B.row 2 rfl _).ret 2 rfl) Tryz.underlying43 rfl Aw) rfl ?_;exact ⟨rfl,(B.row 2 rfl _).below⟩
 have ho:Gv op=false:=decide_eq_false (by omega)
 have hc:aluC c op arg v=c:=by
  unfold aluC
  repeat rw [if_neg (by omega)]
 have e1:=Cx ho 1 rfl;have e2:=Cx ho 2 rfl;have e14:=Cx ho 14 rfl;have e4:=Cx ho 4 rfl;have e29:=Cx ho 29 rfl;have e5:=Cx ho 5 rfl;have e6:=Cx ho 6 rfl;have e7:=Cx ho 7 rfl;have e8:=Cx ho 8 rfl;have e9:=Cx ho 9 rfl;have e10:=Cx ho 10 rfl;have e11:=Cx ho 11 rfl;have e12:=Cx ho 12 rfl;have e13:=Cx ho 13 rfl;clear hs hs2 hs3 h5 h9;go_upto_region 34 with (fail);rename_i K1 hK1;refine wp_region_lit ?_;refine wpList_load_row rfl _ _ rfl (w.heap.size) rfl _ _ _ _ (B.ret 0 rfl) Tryz.underlying43 rfl Aw ?_;refine wpList_store_row rfl _ _ _ rfl (w.heap.size+1+1) _ rfl rfl _ _ (B.ret 2 rfl) Aw rfl (A4.one _) ?_;refine wpList_plain rfl (fun K9 hK9=>?_);go_simp;refine hK9 _ _ ?_;refine hK1 _ _ ?_;go_wp2
 refine bodyPost_ret (v:=.tuple #[.agg _,.bool _]) (Fb Tryz.results126 _ _ (w.heap.size+1+1) _ _ _ _ rfl ((B.row 2 rfl _).ret 2 rfl) Tryz.underlying43 rfl Aw) rfl ?_;exact ⟨by rw [hc,ho],(B.row 2 rfl _).below⟩
def pulC (c:A4):A4:={ c with S:=(c.S+1)%256 }
theorem Qf (c:A4) {G:Nat→Nat→Prop} {u:Value} {g:Nat→Int} (bank:Int) {w:World} (K:Ints .i64 w G u 512 g):Calls Tryz.prog 128 #[.agg #[u,.i bank],.agg c.a] w fun e w'=>e=.returned (.tuple #[.agg (pulC c).a,.i (De g c.S)])∧Below w.heap.size w w':=Pt w G u g bank K c.A c.X c.S c.Pc c.Z c.N c.C c.I
theorem Mu (c:A4) {G:Nat→Nat→Prop} {u:Value} {g:Nat→Int} (bank:Int) {w:World} (K:Ints .i64 w G u 512 g):Calls Tryz.prog 127 #[.agg #[u,.i bank],.agg c.a] w fun e w'=>e=.returned (.agg (Ks g c).a)∧Below w.heap.size w w':=by
 have B:=(((Fv.nil w).alloc #[u,.i bank] 42 w.heap.size rfl).alloc c.a 43 (w.heap.size+1) (by simp)).alloc cZ 43 (w.heap.size+1+1) (by simp)
 go_enter Tryz.func127,Tryz.ntmps127
 go_upto_region 1 with (fail);generalize ((w.alloc (.cells #[u,.i bank] 42)).alloc (.cells c.a 43)).alloc (.cells cZ 43)=W0 at *;rename_i K1 hK1;refine wp_region_lit ?_;refine wpList_load_row rfl _ _ rfl (w.heap.size) rfl _ _ _ _ (B.ret 0 rfl) Tryz.underlying42 rfl Bq ?_;refine wpList_load_row rfl _ _ rfl (w.heap.size+1) rfl _ _ _ _ (B.ret 1 rfl) Tryz.underlying43 rfl Aw ?_;refine wpList_plain rfl (fun K9 hK9=>?_);go_simp;refine (Qf c bank (K.keep (Ab B.below Aj) (fun _ _ _ x=>x))).mono ?_;rintro e W1 ⟨rfl,L⟩;replace B:=B.call L;clear L;refine hK9 _ _ ?_;clear hK9
 iterate 3 (refine wpList_plain rfl (fun K9 hK9=>?_); go_simp; refine hK9 _ _ ?_; clear hK9)
 refine wpList_store_row rfl _ _ _ rfl (w.heap.size+1) (pulC c).a rfl rfl _ _ (B.ret 1 rfl) Aw rfl (A4.one _) ?_;replace B:=B.row 1 rfl (pulC c).a;generalize W1.setRow (w.heap.size+1) (pulC c).a=W2 at *
 (refine wpList_plain rfl (fun K9 hK9=>?_); go_simp; refine hK9 _ _ ?_; clear hK9)
 refine hK1 _ _ ?_;clear hK1;go_upto_region 2 with (fail);rename_i K1 hK1;refine wp_region_lit ?_;refine wpList_load_row rfl _ _ rfl (w.heap.size) rfl _ _ _ _ (B.ret 0 rfl) Tryz.underlying42 rfl Bq ?_;refine wpList_load_row rfl _ _ rfl (w.heap.size+1) rfl _ _ _ _ (B.ret 1 rfl) Tryz.underlying43 rfl Aw ?_;refine wpList_plain rfl (fun K9 hK9=>?_);go_simp;refine (Qf (pulC c) bank (K.keep (Ab B.below Aj) (fun _ _ _ x=>x))).mono ?_;rintro e W3 ⟨rfl,L⟩;replace B:=B.call L;clear L;refine hK9 _ _ ?_;clear hK9
 iterate 3 (refine wpList_plain rfl (fun K9 hK9=>?_); go_simp; refine hK9 _ _ ?_; clear hK9)
 refine wpList_store_row rfl _ _ _ rfl (w.heap.size+1) (pulC (pulC c)).a rfl rfl _ _ (B.ret 1 rfl) Aw rfl (A4.one _) ?_;replace B:=B.row 1 rfl (pulC (pulC c)).a;generalize W3.setRow (w.heap.size+1) (pulC (pulC c)).a=W4 at *
 (refine wpList_plain rfl (fun K9 hK9=>?_); go_simp; refine hK9 _ _ ?_; clear hK9)
 refine hK1 _ _ ?_;clear hK1;go_upto_region 3 with (fail);rename_i K1 hK1;refine wp_region_lit ?_
 iterate 2 (refine wpList_plain rfl (fun K9 hK9=>?_); go_simp; refine hK9 _ _ ?_; clear hK9)
 refine wpList_plain rfl (fun K9 hK9=>?_);go_simp;refine (Lb _ _ _).mono ?_;rintro e W5 ⟨rfl,rfl⟩;refine hK9 _ _ ?_;clear hK9
 (refine wpList_plain rfl (fun K9 hK9=>?_); go_simp; refine hK9 _ _ ?_; clear hK9)
 have fc:=As (B.ret 1 rfl);have c3:=B.get 1 rfl 3 (v:=.i c.Pc) rfl
 (refine wpList_plain rfl (fun K9 hK9=>?_); go_simp; refine hK9 _ _ ?_; clear hK9)
 clear fc c3;have B:=B.cell 1 rfl 3 (.i (De g c.S%256+256*(De g (pulC c).S%256))) (cs':=(Ks g c).a) rfl;refine hK1 _ _ ?_;clear hK1;go_upto_region 4 with (fail);rename_i K1 hK1;refine wp_region_lit ?_;refine wpList_load_row rfl _ _ rfl (w.heap.size+1) rfl _ _ _ _ (B.ret 1 rfl) Tryz.underlying43 rfl Aw ?_;refine wpList_store_row rfl _ _ _ rfl (w.heap.size+1+1) _ rfl rfl _ _ (B.ret 2 rfl) Aw rfl (A4.one _) ?_;refine hK1 _ _ ?_;clear hK1;go_wp2;refine bodyPost_ret (v:=.agg _) (results_cell_row (by rfl) _ _ (w.heap.size+1+1) _ _ _ _ rfl ((B.row 2 rfl _).ret 2 rfl) Tryz.underlying43 rfl Aw) rfl ?_;exact ⟨rfl,(B.row 2 rfl _).below⟩
end Go.Proofs.YtgcmimcalmjaaaaGreatDoor
