import Derived.Test.YtijljlnooibbmaaGreatDoorAIa
import Derived.Test.YtijljlnooibbmaaGreatDoorCB
import Derived.Test.YtijljlnooibbmaaGreatDoorKD
namespace Go.Proofs.YtijljlnooibbmaaGreatDoor
set_option linter.unusedVariables false
open Go.ChangeShapes Go.WideShapes Go.ChangeAt Go.RowKit
section
variable {P:Program} {ops:Array Oper} {Q:Exit->Act->World->Prop}
def By (ops:Array Oper):Nat->Nat->Nat->Bool
 | 0,_,_=>false
 | n+1,j,i=>match ops[j]? with
  | none=>false
  | some o=>A0 o i || (List.range ops.size).any fun k=>A0 o k && By ops n k i
theorem Ht {ops:Array Oper} {i k n:Nat} {p:Prop} (h:(k==i || By ops n k i)=true:=by kernel_rfl) (o:Nat):¬ ∃ j oj,j≠i/\ops[j]?=some oj/\By ops n j i=false/\(j=k/\p):=by
  rintro ⟨j,oj,hj,hoj,hw,rfl,-⟩
  simp [hj,hw] at h
theorem Hu {ops:Array Oper} {i k l n:Nat} {p q:Prop} (h:((k==i || By ops n k i) && (l==i || By ops n l i))=true:=by kernel_rfl) (o:Nat):¬ ∃ j oj,j≠i/\ops[j]?=some oj/\By ops n j i=false/\((j=k/\p)\/(j=l/\q)):=by
  rintro ⟨j,oj,hj,hoj,hw,⟨rfl,-⟩ | ⟨rfl,-⟩⟩ <;> simp [hj,hw] at h
theorem Fg {l:Array Bool} (hcl:∀ (k:Nat) (o:Oper),l[k]?=some true->ops[k]?=some o->∀ j:Nat,A0 o j=true->l[j]?=some true):∀ (n j i:Nat),l[j]?=some true->By ops n j i=true->l[i]?=some true
 | 0,_,_,_,h=>by cases h
 | n+1,j,i,hj,h=>by
  unfold By at h
  cases ho:ops[j]? with
  | none=>rw [ho] at h; cases h
  | some o =>
   rw [ho] at h;simp only [Bool.or_eq_true,List.any_eq_true,Bool.and_eq_true] at h
   rcases h with h | ⟨k,-,h1,h2⟩
   .exact hcl j o hj ho i h
   .exact Fg hcl n k i (hcl j o hj ho k h1) h2
end
open Go.Proofs.Tryz
set_option linter.unusedSimpArgs false
open Go.Sort
theorem Jad (w:World) (z:Nat) (T P C B L:Int) (S Q:Bool) (hb:w.heap[z]?=some (.cells (aR T P C B L S Q) 35 (0,0))) (b:Bool) (h:decide (0<L)=b):Calls prog 179 #[(pt z 0)] w fun e w'=>e=.returned (.bool b)/\w'=w:=by
 have hc:=Af hb;have HH:=Ac h;clear h hb
 go_enter func179,ntmps179
 go_wp2;go_ret;exact ⟨Ap HH.out,rfl⟩
def Ux (L:Int):Int:=if 0<L then L-1 else L
def Uy (L:Int) (S Q:Bool):Bool:=if 0<L then Q || (decide (L-1=0) && S) else Q
theorem Y7 (x:Int):1<=opLn x/\opLn x<=3:=by
 have key:∀ i:Nat,i<30->1<=Dm.getD i 1/\Dm.getD i 1<=3:=by decide
 unfold opLn
 by_cases h:0<=x/\x<=29
 .rw [if_pos h]
  exact key x.toNat (by omega)
 .rw [if_neg h]
  omega
structure A7 where
 A:Int
 X:Int
 S:Int
 Pc:Int
 Z:Bool
 N:Bool
 C:Bool
 I:Bool
def A7.v (c:A7):Value:=.agg (cR c.A c.X c.S c.Pc c.Z c.N c.C c.I)
def setAc (c:A7) (x:Int):A7:={ c with A:=x%256,Z:=x%256==0,N:=decide (127<x%256) }
def Vp (c:A7) (x:Int):A7:={ c with X:=x%256,Z:=x%256==0,N:=decide (127<x%256) }
def addC (c:A7) (v:Int):A7:={ setAc c ((c.A%256+v%256+Av c.C)%256) with C:=decide (255<c.A%256+v%256+Av c.C) }
def Jg4 (c:A7) (v:Int):A7:={ setAc c ((c.A%256-v%256-1+Av c.C)%256) with C:=decide (0<=c.A%256-v%256-1+Av c.C) }
def Jg5 (c:A7) (v:Int):A7:={ c with Z:=(c.A%256-v%256)%256==0,N:=decide (127<(c.A%256-v%256)%256),C:=decide (v%256<=c.A%256) }
def Ib (op:Int):Bool:=decide (op=1\/op=2\/op=14\/op=4\/op=29\/op=5\/op=6\/op=7\/op=8\/op=9\/op=10\/op=11\/op=12\/op=13)
def aluC (c:A7) (op arg v:Int):A7 :=
 if op=1 then setAc c arg else if op=2\/op=14 then setAc c v else if op=4 then addC c arg else if op=29 then addC c v else if op=5 then Jg4 c arg
 else if op=6 then setAc c (bits .and .i64 (c.A%256) (arg%256)) else if op=7 then setAc c (bits .or .i64 (c.A%256) (arg%256)) else if op=8 then setAc c (bits .xor .i64 (c.A%256) (arg%256))
 else if op=9 then Jg5 c arg else if op=10 then Vp c c.A else if op=11 then setAc c c.X else if op=12 then Vp c (c.X%256+1) else if op=13 then Vp c (c.X%256-1) else c
def Dp (g:Nat->Int) (S:Int):Int:=g (256+(S+1)%256).toNat%256
def Lk (g:Nat->Int) (c:A7):A7:={ c with S:=((c.S+1)%256+1)%256,Pc:=Dp g c.S%256+256*(Dp g ((c.S+1)%256)%256) }
def nextC (c:A7) (op:Int):A7:={ c with Pc:=(c.Pc+opLn op)%65536 }
def Ee (g:Nat->Int) (c:A7) (op arg v:Int):A7 :=
 if Ib op=true then aluC (nextC c op) op arg v else if op=16 then (if c.Z=true then nextC c 16 else { nextC c 16 with Pc:=arg%65536 }) else if op=17 then (if c.Z=true then { nextC c 17 with Pc:=arg%65536 } else nextC c 17) else if op=18 then (if c.C=true then { nextC c 18 with Pc:=arg%65536 } else nextC c 18) else if op=19 then { nextC c 19 with Pc:=arg%65536 }
 else if op=20 then { nextC c 20 with S:=dec8 (dec8 c.S),Pc:=arg%65536 } else if op=21 then Lk g (nextC c 21) else if op=22 then { nextC c 22 with S:=dec8 c.S } else if op=23 then setAc { nextC c 23 with S:=(c.S+1)%256 } (Dp g c.S)
 else if op=24 then Lk g { nextC c 24 with S:=(c.S+1)%256,Z:=hasB (Dp g c.S) 2,N:=hasB (Dp g c.S) 128,C:=hasB (Dp g c.S) 1,I:=hasB (Dp g c.S) 4 } else if op=25 then { nextC c 25 with I:=true } else if op=26 then { nextC c 26 with I:=false } else if op=27 then { nextC c 27 with C:=true } else if op=28 then { nextC c 28 with C:=false } else nextC c op
def Ev (g:Nat->Int) (c:A7) (op:Int):Nat->Int:=if op=20 then B4 (B4 g c.S ((nextC c 20).Pc/256)) (dec8 c.S) (nextC c 20).Pc else if op=22 then B4 g c.S c.A else g
theorem Jc0 {op:Int} (h:Ib op=true):¬ op=20/\¬ op=22:=by
 unfold Ib at h;have:=of_decide_eq_true h
 omega
def Cm (g:Nat->Int) (c:A7) (op arg v:Int):A7 :=
 if Ib op=true then aluC c op arg v else if op=16 then (if c.Z=true then c else { c with Pc:=arg%65536 }) else if op=17 then (if c.Z=true then { c with Pc:=arg%65536 } else c) else if op=18 then (if c.C=true then { c with Pc:=arg%65536 } else c) else if op=19 then { c with Pc:=arg%65536 }
 else if op=20 then { c with S:=dec8 (dec8 c.S),Pc:=arg%65536 } else if op=21 then Lk g c else if op=22 then { c with S:=dec8 c.S } else if op=23 then setAc { c with S:=(c.S+1)%256 } (Dp g c.S)
 else if op=24 then Lk g { c with S:=(c.S+1)%256,Z:=hasB (Dp g c.S) 2,N:=hasB (Dp g c.S) 128,C:=hasB (Dp g c.S) 1,I:=hasB (Dp g c.S) 4 } else if op=25 then { c with I:=true } else if op=26 then { c with I:=false } else if op=27 then { c with C:=true } else if op=28 then { c with C:=false } else c
def Cn (g:Nat->Int) (c:A7) (op:Int):Nat->Int:=if op=20 then B4 (B4 g c.S (c.Pc/256)) (dec8 c.S) c.Pc else if op=22 then B4 g c.S c.A else g
theorem Xk (g:Nat->Int) (c:A7) (op arg v:Int):Ee g c op arg v=Cm g (nextC c op) op arg v:=by
 unfold Ee Cm
 by_cases h:Ib op=true
 .rw [if_pos h,if_pos h]
 rw [if_neg h,if_neg h]
 by_cases h16:op=16
 .subst h16; rfl
 by_cases h17:op=17
 .subst h17; rfl
 by_cases h18:op=18
 .subst h18; rfl
 by_cases h19:op=19
 .subst h19; rfl
 by_cases h20:op=20
 .subst h20; rfl
 by_cases h21:op=21
 .subst h21; rfl
 by_cases h22:op=22
 .subst h22; rfl
 by_cases h23:op=23
 .subst h23; rfl
 by_cases h24:op=24
 .subst h24; rfl
 by_cases h25:op=25
 .subst h25; rfl
 by_cases h26:op=26
 .subst h26; rfl
 by_cases h27:op=27
 .subst h27; rfl
 by_cases h28:op=28
 .subst h28; rfl
 simp only [h16,h17,h18,h19,h20,h21,h22,h23,h24,h25,h26,h27,h28,if_false]
theorem Xl (g:Nat->Int) (c:A7) (op:Int):Ev g c op=Cn g (nextC c op) op:=by
 unfold Ev Cn
 by_cases h20:op=20
 .subst h20; rfl
 by_cases h22:op=22
 .subst h22; rfl
 simp only [h20,h22,if_false]
theorem Jgz (x y:Int) (x0:0<=x) (x1:x<=63) (y0:0<=y) (y1:y<=63):0<=bits .xor .i64 x y/\bits .xor .i64 x y<=63:=by
 have key:∀ a b:Fin 64,0<=bits .xor .i64 ((a.val:Nat):Int) ((b.val:Nat):Int)/\bits .xor .i64 ((a.val:Nat):Int) ((b.val:Nat):Int)<=63:=by decide +kernel
 obtain ⟨a,rfl⟩:∃ a:Nat,x=a:=⟨x.toNat,by omega⟩
 obtain ⟨b,rfl⟩:∃ b:Nat,y=b:=⟨y.toNat,by omega⟩
 exact key ⟨a,by omega⟩ ⟨b,by omega⟩
section
variable {t c s ad pl:Int} {n:Nat} {f:Nat->Int} {m:Nat} {g:Nat->Int}
theorem Oc (h:J0 t c s ad pl n f m g):A1 t c s ad pl n f m g=true :=
 Qw (Bh ⟨h.t0,h.t1⟩) (Bh ⟨h.c0,h.c1⟩) (Bh ⟨h.s0,h.s1⟩) (Bh ⟨h.a0,h.a1⟩) (Bh ⟨h.p0,h.p1⟩) h.n16 h.dots h.tab h.dot
theorem Jek (h:J0 t c s ad pl n f m g) (a:Int):0<=I5 f s pl a/\I5 f s pl a<=63:=by
 have h1:=h.tab ((a%8+s+a/8)%16).toNat (by have:=h.n16; omega);exact Jgz _ _ h1.1 h1.2 h.p0 h.p1
theorem Uq (h:J0 t c s ad pl n f m g) (reg v:Int):J0 t (Kx true reg v c) (Ky true reg v s) (Kz true reg v ad) (La true reg v pl) n (My true reg v ad f) m g:=by
 have hc:0<=Kx true reg v c/\Kx true reg v c<=255:=by unfold Kx; split; omega; exact ⟨h.c0,h.c1⟩
 have hs:0<=Ky true reg v s/\Ky true reg v s<=255:=by unfold Ky; split; omega; exact ⟨h.s0,h.s1⟩
 have ha:0<=Kz true reg v ad/\Kz true reg v ad<=15:=by unfold Kz; split; omega; split; omega; exact ⟨h.a0,h.a1⟩
 have hp:0<=La true reg v pl/\La true reg v pl<=63:=by unfold La; split; omega; exact ⟨h.p0,h.p1⟩
 refine ⟨h.t0,h.t1,hc.1,hc.2,hs.1,hs.2,ha.1,ha.2,hp.1,hp.2,h.n16,h.dots,fun j hj=>?_,h.dot⟩;unfold My;split
 .show 0<=(if j=ad.toNat then v%256%64 else f j)/\(if j=ad.toNat then v%256%64 else f j)<=63
  split
  .omega
  .exact h.tab j hj
 .exact h.tab j hj
theorem Xc (h:J0 t c s ad pl n f m g):J0 (J5 t) c s ad pl n f (tkM t m) (Nh t f s pl m g):=by
 have hd:=h.dots;have t0:=h.t0;have t1:=h.t1;unfold Ea at hd
 by_cases e:t=20000
 .unfold J5 tkM Nh
  rw [if_pos e,if_pos e,if_pos e];exact h
 .have e1:J5 t=t+1:=if_neg e
  have e2:tkM t m=if t%64<48 then m+1 else if t%64=48 then 0 else m:=if_neg e
  have e3:Nh t f s pl m g=if t%64<48 then snoc g m (I5 f s pl (t%64)) else g:=if_neg e
  have hdots:((tkM t m:Nat):Int)=Ea (J5 t):=by
   rw [e1,e2];unfold Ea;split
   .rename_i a
    rw [if_neg (by omega)] at hd;rw [if_neg (by omega)]
    omega
   .split
    .rw [if_pos (by omega)]; rfl
    .rw [if_pos (by omega)] at hd
     by_cases b:t%64=63
     .rw [if_neg (by omega)]; omega
     .rw [if_pos (by omega)]; omega
  refine ⟨by omega,by omega,h.c0,h.c1,h.s0,h.s1,h.a0,h.a1,h.p0,h.p1,h.n16,hdots,h.tab,fun j hj=>?_⟩;rw [e2] at hj;rw [e3];split
  .rename_i a
   rw [if_pos a] at hj;unfold snoc;split
   .exact Jek h _
   .exact h.dot j (by omega)
  .rename_i a
   rw [if_neg a] at hj;split at hj
   .exact absurd hj (Nat.not_lt_zero _)
   .exact h.dot j hj
end
section
variable {P:Program} {ops:Array Oper} {C:World->Prop}
def Jer (ops:Array Oper) (n:Nat) (l:Array Bool):Prop:=l.size=ops.size/\(∀ k,k<n->l.getD k true=true)/\∀ k,n<=k->k<ops.size->l.getD k true=false
def Jcv (ops:Array Oper) (n:Nat):Prop:=∀ j,n<=j->j<ops.size->∀ k,k<n->By ops 6 j k=true
def Closed (ops:Array Oper) (l:Array Bool):Prop:=∀ (k:Nat) (o:Oper),l[k]?=some true->ops[k]?=some o->∀ j:Nat,A0 o j=true->l[j]?=some true
theorem Vf {l:Array Bool} {i k:Nat} (h:l[k]?=some true):(l.setIfInBounds i true)[k]?=some true:=by
 by_cases e:i=k
 .subst e; have:=(Array.getElem?_eq_some_iff.1 h).1; simp [this]
 .rw [Array.getElem?_setIfInBounds_ne e]; exact h
theorem Closed.set {l:Array Bool} (H:Closed ops l) {i:Nat} (hi:i∈Region.ready .any ops l):Closed ops (l.setIfInBounds i true):=by
 intro k o hk ho j hj
 by_cases e:i=k
 .subst e
  obtain ⟨-,o',ho',hall⟩:=mem_ready.1 hi;rw [ho'] at ho;cases ho;unfold A0 at hj;rw [Array.any_eq_true'] at hj;obtain ⟨e,he,hb⟩:=hj;simp only [Bool.and_eq_true,beq_iff_eq] at hb;have h1:=hall e he hb.1;rw [hb.2,Array.getD_eq_getD_getElem?] at h1;refine Vf ?_
  rcases hq:l[j]? with _ | b
  .rw [hq] at h1; simp at h1
  .rw [hq] at h1; simpa using h1
 .rw [Array.getElem?_setIfInBounds_ne e] at hk
  exact Vf (H k o hk ho j hj)
def Ol (P:Program) (ops:Array Oper) (C:World->Prop) (n:Nat) (Q:Act->Prop):Nat->Array Bool->Act->Prop
 | 0,l,a=>Jer ops n l/\Q a
 | f+1,l,a=>(∃ i,i∈Region.ready .any ops l)/\∀ i∈Region.ready .any ops l,qOp P ops C i (Ol P ops C n Q f (l.setIfInBounds i true)) a
theorem Sw {n:Nat} (hn:Jcv ops n) {Q:Act->Prop} {i:Nat} {oi:Oper} {v:Value} (hin:i<n) (hi:ops[i]?=some oi) (hsel:∀ (j:Nat) (o:Oper) cs b,ops[j]?=some o->o.op≠.select cs b) :
  ∀ (f:Nat) (l:Array Bool) (a:Act),Closed ops l ->
   (∀ j oj,ops[j]?=some oj->j≠i->l.getD j true=false->(∀ e∈oj.after,Region.binds .any e=true->e.on≠i)->oi.apart ops oj=true) ->
   i∈Region.ready .any ops l->YieldsIn P ops C oi v a ->
   Ol P ops C n Q f (l.setIfInBounds i true) (a.put oi.dst v)->Ol P ops C n Q (f+1) l a:=by
 intro f
 induction f with
 | zero =>
  intro l a hcl _ hr hy H;refine ⟨⟨i,hr⟩,fun j hj=>?_⟩
  by_cases hji:j=i
  .subst hji; exact hy.qOp hi H
  .exfalso
   obtain ⟨hjun,oj,hoj,hall⟩:=mem_ready.1 hj
   rcases Nat.lt_or_ge j n with h | h
   .have h1:=H.1.2.1 j h
    rw [getD_set_ne true (Ne.symm hji),hjun] at h1;cases h1
   .have hlt:j<ops.size:=(Array.getElem?_eq_some_iff.1 hoj).1
    have hsz:l.size=ops.size:=by simpa using H.1.1
    have h1:=Fg (hcl.set hj) 6 j i (by simp [hsz,hlt]) (hn j h hlt i hin);rw [Array.getElem?_setIfInBounds_ne hji] at h1;have h0:=(mem_ready.1 hr).1;rw [Array.getD_eq_getD_getElem?,h1] at h0;cases h0
 | succ f ih =>
  intro l a hcl hfree hr hy H;refine ⟨⟨i,hr⟩,fun j hj=>?_⟩
  by_cases hji:j=i
  .subst hji; exact hy.qOp hi H
  .have h1:=H.2 j (ready_mono hj hji)
   obtain ⟨hjun,oj,hoj,hall⟩:=mem_ready.1 hj
   have hnot:∀ e∈oj.after,Region.binds .any e=true->e.on≠i:=fun e he hb heq=>by
    have h1:=hall e he hb;have h0:=(mem_ready.1 hr).1;rw [heq] at h1
    rcases Nat.lt_or_ge i l.size with h' | h'
    .simp [h'] at h0 h1; rw [h0] at h1; cases h1
    .simp [Array.getElem?_eq_none h'] at h1
   have h2:=qOp_put hoj (hfree j oj hoj hji hjun hnot) (fun cs b=>hsel i oi cs b hi) (fun cs b=>hsel j oj cs b hoj) hy h1
   have hfree':∀ k ok,ops[k]?=some ok->k≠i->(l.setIfInBounds j true).getD k true=false ->
     (∀ e∈ok.after,Region.binds .any e=true->e.on≠i)->oi.apart ops ok=true:=fun k ok hk hki hun hno=>by
    refine hfree k ok hk hki ?_ hno
    by_cases hjk:j=k
    .subst hjk; exact hjun
    .rw [getD_set_ne true hjk] at hun; exact hun
   refine qOp_mono (fun a' h3=>ih (l.setIfInBounds j true) a' (hcl.set hj) hfree' (ready_mono hr (Ne.symm hji)) h3.1 ?_) h2;rw [Array.setIfInBounds_comm _ _ hji];exact h3.2
def Vg (ops:Array Oper):Nat->Nat->Array Bool->Bool
 | 0,_,_=>true
 | f+1,k,l=>(Region.ready .any ops l).contains k && Region.free .any ops l k && Vg ops f (k+1) (l.setIfInBounds k true)
theorem Om {n:Nat} (hn:Jcv ops n) (hz:n<=ops.size) {Q:Act->Prop} (hs:Region.noSelect ops=true):∀ (t:List Oper) (k:Nat) (l:Array Bool) (a:Act),k+t.length=n->l.size=ops.size->Closed ops l->Jer ops k l->(∀ j,j<t.length->t[j]?=ops[k+j]?) ->
  Vg ops t.length k l=true->wpQuiet P ops C Q t a->Ol P ops C n Q t.length l a
 | [],k,l,a,hk,hl,_,hu,_,hB,h=>by
  have e:k=n:=by simpa using hk
  exact ⟨e ▸ hu,h⟩
 | o :: t,k,l,a,hk,hl,hcl,hu,ht,hB,h=>by
  have h0:ops[k]?=some o:=by simpa using (ht 0 (by simp)).symm
  simp only [List.length_cons] at hk;simp only [List.length_cons,Vg,Bool.and_eq_true] at hB;obtain ⟨⟨hr,hf⟩,hB'⟩:=hB
  have hst:qOp P ops C k (wpQuiet P ops C Q t) a:=by unfold qOp; simp only [h0]; exact h
  obtain ⟨v,hy,hK⟩:=yieldsIn_of_qOp h0 hst
  refine Sw hn (by omega) h0 (Region.noSelect_spec hs) t.length l a hcl (Region.free_spec h0 hf) (by simpa using hr) hy
   (Om hn hz hs t (k+1) _ _ (by omega) (by simpa using hl) (hcl.set (by simpa using hr)) ⟨by simpa using hl,fun j hj=>?_,fun j hj hj2=>?_⟩ (fun j hj=>by have:=ht (j+1) (by simpa using hj); simpa [Nat.add_assoc,Nat.add_comm 1 j] using this) hB' hK)
  .by_cases e:k=j
   .subst e; simp [Array.getD_eq_getD_getElem?,hl,show k<ops.size by omega]
   .rw [getD_set_ne true e]; exact hu.2.1 j (by omega)
  .rw [getD_set_ne true (by omega)]; exact hu.2.2 j (by omega) hj2
theorem Oo {n m:Nat} {Q:Act->Prop} {Q':Exit->Act->World->Prop} (hQ:∀ l a w,C w->Jer ops n l->Q a->wpAny P .any ops Q' m l a w):∀ (f:Nat) (l:Array Bool) (a:Act) (w:World),C w ->
  Ol P ops C n Q f l a->wpAny P .any ops Q' (f+m) l a w
 | 0,l,a,w,hw,h=>by rw [Nat.zero_add]; exact hQ l a w hw h.1 h.2
 | f+1,l,a,w,hw,h=>by
  rw [show f+1+m=(f+m)+1 by omega];exact ⟨fun h0=>(by obtain ⟨i,hi⟩:=h.1; rw [h0] at hi; cases hi),fun i hi=>wpOp_of_qOp hw (fun a' w' hw'=>Oo hQ f _ a' w' hw') (h.2 i hi)⟩
abbrev Rgr (w:World):World->Prop:=fun w'=>∃ p:Regrown,w'=grow (redrawn w p.d) p.os
def Mo (P:Program) (Q:Exit->Act->World->Prop):List Oper->Act->World->Prop
 | [],a,w=>Q .normal a w
 | o :: r,a,w=>o.wp P a w (Mo P Q r) Q
def Y2 (ops:Array Oper) (n:Nat):Bool:=(List.range ops.size).all fun j=>decide (j<n) || ((List.range n).all (By ops 6 j) && match ops[j]? with | some o=>o.guard.isNone && o.after.all (fun e=>!Region.binds .any e || decide (e.on<j)) && (decide (j=n) || A0 o (j-1)) | none=>false)
theorem Mp {n j:Nat} {o:Oper} (hB:Y2 ops n=true) (hn:n<=j) (ho:ops[j]?=some o):(∀ k,k<n->By ops 6 j k=true)/\o.guard=none/\(∀ e∈o.after,Region.binds .any e=true->e.on<j)/\(j=n\/A0 o (j-1)=true):=by
 have h:=List.all_eq_true.1 hB j (List.mem_range.2 (Array.getElem?_eq_some_iff.1 ho).1);rw [ho,Bool.or_eq_true,decide_eq_true_eq] at h
 rcases h with h | h
 .omega
 .simp only [Bool.and_eq_true,List.all_eq_true,List.mem_range,Bool.or_eq_true,decide_eq_true_eq] at h
  obtain ⟨h1,⟨h2,h3⟩,h4⟩:=h;refine ⟨h1,by simpa using h2,fun e he hb=>?_,h4⟩;have:=(Array.all_eq_true_iff_forall_mem.1 h3) e he;rw [hb] at this
  simpa using this
theorem Oq {n:Nat} {Q:Exit->Act->World->Prop} (hB:Y2 ops n=true):∀ (r:List Oper) (k:Nat) (l:Array Bool) (a:Act) (w:World),n<=k->k+r.length=ops.size->(∀ j,j<r.length->r[j]?=ops[k+j]?)->Jer ops k l->Mo P Q r a w->wpAny P .any ops Q r.length l a w
 | [],k,l,a,w,_,hk,_,hu,h=>by
  refine ⟨List.eq_nil_iff_forall_not_mem.2 fun i hi=>?_,h⟩;obtain ⟨h0,oj,hoj,-⟩:=mem_ready.1 hi;have:=(Array.getElem?_eq_some_iff.1 hoj).1;simp only [List.length_nil] at hk;rw [hu.2.1 i (by omega)] at h0;cases h0
 | o :: r,k,l,a,w,hn,hk,ht,hu,h=>by
  simp only [List.length_cons] at hk
  have ho:ops[k]?=some o:=by simpa using (ht 0 (by simp)).symm
  obtain ⟨-,hg,hb,-⟩:=Mp hB hn ho
  have hr:∀ i,i∈Region.ready .any ops l->i=k:=fun i hi=>by
   obtain ⟨h0,oj,hoj,hall⟩:=mem_ready.1 hi;have hlt:=(Array.getElem?_eq_some_iff.1 hoj).1
   rcases Nat.lt_trichotomy i k with h1 | h1 | h1
   .rw [hu.2.1 i h1] at h0; cases h0
   .exact h1
   .exfalso
    obtain ⟨-,-,-,hw⟩:=Mp hB (show n<=i by omega) hoj
    rcases hw with hw | hw
    .omega
    .unfold A0 at hw
     rw [Array.any_eq_true'] at hw;obtain ⟨e,he,hbe⟩:=hw;simp only [Bool.and_eq_true,beq_iff_eq] at hbe;have h2:=hall e he hbe.1;have h3:=hu.2.2 (i-1) (by omega) (by omega);rw [hbe.2,Array.getD_eq_getD_getElem?] at h2;rw [Array.getD_eq_getD_getElem?] at h3
     rcases hq:l[i-1]? with _ | b
     .rw [Array.getElem?_eq_none_iff,hu.1] at hq; omega
     .rw [hq] at h2 h3; simp at h2 h3; rw [h2] at h3; cases h3
  have hi:k∈Region.ready .any ops l:=mem_ready.2 ⟨hu.2.2 k (Nat.le_refl _) (by omega),o,ho,fun e he hbe=>by
   have h1:=hb e he hbe;have h2:=hu.2.1 e.on h1;rw [Array.getD_eq_getD_getElem?] at h2 ⊢
   rcases hq:l[e.on]? with _ | b
   .rw [Array.getElem?_eq_none_iff,hu.1] at hq; omega
   .simpa [hq] using h2⟩
  refine ⟨fun h0=>(by rw [h0] at hi; cases hi),fun i hi'=>?_⟩;obtain rfl:=hr i hi';refine Ii ho hg (Oper.wp_mono (fun a' w' h'=>Oq hB r (i+1) _ a' w' (by omega) (by omega) (fun j hj=>by have:=ht (j+1) (by simpa using hj); simpa [Nat.add_assoc,Nat.add_comm 1 j] using this) ⟨by simpa using hu.1,fun j hj=>?_,fun j hj hj2=>?_⟩ h') h)
  .by_cases e:i=j
   .subst e; simp [Array.getD_eq_getD_getElem?,hu.1,show i<ops.size by omega]
   .rw [getD_set_ne true e]; exact hu.2.1 j (by omega)
  .rw [getD_set_ne true (by omega)]; exact hu.2.2 j (by omega) hj2
theorem Gk {id n:Nat} {Q:Exit->Act->World->Prop} {a:Act} {w:World} {t:List Oper} (hm:P.follows .mixedOrders=true) (hB:(Region.noSelect t.toArray && Vg t.toArray n 0 (Array.replicate t.toArray.size false) && Y2 t.toArray n && decide (n<=t.toArray.size))=true)
  (h:wpQuiet P t.toArray (Rgr w) (fun a'=>∀ w',Rgr w w'->Mo P Q (t.drop n) a' w') (t.take n) a):(Code.region id t.toArray true).wp P Q a w:=by
 simp only [Bool.and_eq_true,decide_eq_true_eq] at hB;obtain ⟨⟨⟨hs,hl⟩,ht⟩,hz⟩:=hB
 have hz':n<=t.length:=by simpa using hz
 have hd:(t.drop n).length=t.toArray.size-n:=by simp
 have htk:(t.take n).length=n:=by simp; omega
 refine wp_region_any hm ?_;rw [show wpAny P .any t.toArray Q t.toArray.size=wpAny P .any t.toArray Q (n+(t.drop n).length) by rw [hd,Nat.add_sub_cancel' hz]];refine Oo (C:=Rgr w) (n:=n) (Q:=fun a'=>∀ w',Rgr w w'->Mo P Q (t.drop n) a' w') (fun l a' w' hw hu hq=>Oq ht _ n l a' w' (Nat.le_refl _) (by rw [hd]; omega) (fun j hj=>by simp) hu (hq w' hw)) n _ a _ ⟨⟨w.drawn+1,#[]⟩,by rw [grow_empty]; rfl⟩ ?_
 have:=Om (C:=Rgr w) (n:=n) (fun j hj hlt k hk=>by obtain ⟨o,ho⟩:∃ o,t.toArray[j]?=some o:=⟨_,Array.getElem?_eq_some_iff.2 ⟨hlt,rfl⟩⟩; exact (Mp ht hj ho).1 k hk) hz hs (t.take n) 0 (Array.replicate t.toArray.size false) a (by omega) (by simp) (fun k o hk=>by rw [Array.getElem?_replicate] at hk; split at hk <;> simp at hk) ⟨by simp,fun k hk=>absurd hk (Nat.not_lt_zero _),fun k _ hk=>by rw [Array.getD_eq_getD_getElem?,Array.getElem?_replicate,if_pos hk]; rfl⟩ (fun j hj=>by rw [htk] at hj; simp [List.getElem?_take,hj]) (by rw [htk]; exact hl) h;rw [htk] at this;exact this
theorem Bc {id n:Nat} {Q:Exit->Act->World->Prop} {a:Act} {w:World} {t:List Oper} {o:Oper} (hm:P.follows .mixedOrders=true) (hB:(Region.noSelect t.toArray && Vg t.toArray n 0 (Array.replicate t.toArray.size false) && Y2 t.toArray n && decide (n<=t.toArray.size) && decide (n+1=t.toArray.size))=true) (ho:t[n]?=some o)
  (h:wpQuiet P t.toArray (Rgr w) (fun a'=>∀ w',Rgr w w'->o.wp P a' w' (fun a'' w''=>Q .normal a'' w'') Q) (t.take n) a):(Code.region id t.toArray true).wp P Q a w:=by
 rw [Bool.and_eq_true,decide_eq_true_eq] at hB
 have e:t.drop n=[o]:=by
  have:=hB.2
  simp at this
  rw [List.drop_eq_getElem_cons (by omega),List.drop_eq_nil_of_le (by omega),(List.getElem?_eq_some_iff.1 ho).2]
 refine Gk hm hB.1 ?_;rw [e];exact h
theorem Bl {w:World} {Q:Act->Prop} {a:Act} {o:Oper} {rest:List Oper} (ty:TypeId) (x:Operand) (ho:o.op=.load ty x) (hgu:o.guard=none)
  (g off:Nat) (hx:a.eval x=(pt g off)) (t:TypeId) (cs part:Array Value) (fr:Nat × Nat) (d:TypeDesc) (hg:w.heap[g]?=some (.cells cs t fr)) (hp:∀ j v,part[j]?=some v->cs[off+j]?=some v)
  (hu:P.underlying ty=some d) (hd:(match d with | .struct _ | .array _ _=>true | _=>false)=true) (hi:(P.info? ty).map (·.size)=some part.size)
  (h:wpQuiet P ops (fun w'=>∃ p:Regrown,w'=grow (redrawn w p.d) p.os) Q rest (a.put o.dst (.agg part))):wpQuiet P ops (fun w'=>∃ p:Regrown,w'=grow (redrawn w p.d) p.os) Q (o :: rest) a:=by
 unfold wpQuiet;rw [if_pos (by simp [Region.wanted,hgu])];refine ⟨.agg part,fun w' hw'=>?_,h⟩;obtain ⟨p,rfl⟩:=hw'
 have hg':(grow (redrawn w p.d) p.os).heap[g]?=some (.cells cs t fr):=by
  rw [(below_regrown w p.d p.os).block g (Array.getElem?_eq_some_iff.1 hg).1]; exact hg
 unfold Oper.quietAt execOp;simp only [ho,hx,Instr.loadAt,Instr.sureAddr,Sem.run_bind,Sem.run_pure,Result.andThen_ok,E5 _ g off t ty cs part fr d hg' hp hu hd hi];exact ⟨rfl,rfl⟩
end
open Go.Proofs.Tryz
open Go.ChangeShapes Go.WideShapes Go.ChangeAt
theorem Vk (W:World) {o:Oper} {a:Act} {K:Act->World->Prop} {Q:Exit->Act->World->Prop} (s x:Operand) (hop:o.op=Op.call { callee:=Callee.builtin Builtin.append,args:=#[s,x],argTypes:=#[27,27] })
  (lo g n c:Nat) (f:Nat->Int) (hs:a.eval s=.slice (some ⟨g,0,none⟩) n c) (R:Row W lo g n c f) (hn:n<1048576) (q:Nat) (y:Int) (hx:a.eval x=.slice (some ⟨q,0,none⟩) 1 1) (hq:W.cell? ⟨q,0,none⟩=some (.i y))
  (h:∀ g' c' W',Row W' lo g' (n+1) c' (snoc f n y)->Wrote (fun b _=>b=g/\n+1<=c) W W'->((g'=g/\n+1<=c)\/W.heap.size<=g')->K (a.put o.dst (.slice (some ⟨g',0,none⟩) (n+1) c')) W'):o.wp prog a W K Q:=by
 obtain ⟨i0,hi,hz0,hz1,hz2⟩:=info_parts Gp;have hp:=R.parts
 have hnews:∀ j u,[Value.i y][j]?=some u->W.cell? ((⟨q,0,none⟩:Addr).add j)=some u:=fun j u hh=>by
  cases j with
  | zero=>simp at hh; rw [<- hh]; exact hq
  | succ j=>simp at hh
 by_cases hr:n+1<=c
 .have hsp:(W.cell? ⟨g,n,none⟩).isSome=true/\W.frozen? ⟨g,n,none⟩=false:=by
   rcases R.own.2 with ⟨e,_⟩ | ⟨g',cap,cur,hv,hb,hg,h1,h2,h3,h4⟩
   .cases e
   .simp only [Value.slice.injEq,Option.some.injEq,Addr.mk.injEq,and_true,true_and] at hv
    obtain ⟨rfl,rfl⟩:=hv;refine ⟨?_,Au hg n⟩;rw [Af hg n,Array.getElem?_eq_getElem (by omega)]
    rfl
  have hrun:=run_append_room_cells (P:=prog) W 27 o.type 3 i0 underlying27 hi g 0 n c ⟨q,0,none⟩ 1 1 [.i y] (by rw [hz1]; rfl) hnews (fun u hu=>by simp at hu; rw [hu]; rfl) hr
   (fun j hj=>by have:j=0:=(by simpa using hj); subst this; rw [hz1]; simpa using hsp.1) (fun j hj=>by have:j=0:=(by simpa using hj); subst this; rw [hz1]; simpa using hsp.2)
  rw [hz1] at hrun;unfold Oper.wp
  simp [execOp,hop,resolve,invoke,builtin,hs,hx,hrun,Result.andThen,World.setCells]
  exact h g c _ (R.more hr hn y) (Wrote.setCell (R:=fun b _=>b=g/\n+1<=c) (Wrote.refl _ W) (fun _=>⟨rfl,hr⟩) _) (Or.inl ⟨rfl,hr⟩)
 .obtain ⟨v',w',hrun,r1,r2⟩:=run_append_arg_grows (P:=prog) W 27 o.type 3 i0 (.i 0) 1 8 underlying27 hi hz0 hz1 hz2 rfl (by decide) ⟨g,0,none⟩ n c (rowVals n f) (by rw [A6,Nat.mul_one]) (Dd R.sl.row) ⟨q,0,none⟩ 1 1 [.i y] rfl hnews (by omega) (by unfold maxLen; omega) (by omega)
  rw [Fw] at r1;obtain ⟨g',cap2,rfl,hg,hlt⟩:=r1.form (by omega);have L:Below W.heap.size W w':=(Below.refl _ _).grown r2 (Nat.le_refl _) (fun _ e=>by cases e);unfold Oper.wp
  simp [execOp,hop,resolve,invoke,builtin,hs,hx,hrun,Result.andThen]
  exact h g' cap2 w' ((Row.mk r1 (by omega)).mono (by omega)) (Aa L _) (Or.inr hg)
theorem Eu (W:World) {ops:Array Oper} {rest:List Oper} {o:Oper} {a:Act} {Q:Exit->Act->World->Prop} (hg:o.guard=none) (s x:Operand) (hop:o.op=Op.call { callee:=Callee.builtin Builtin.append,args:=#[s,x],argTypes:=#[27,27] })
  (lo g n c:Nat) (f:Nat->Int) (hs:a.eval s=.slice (some ⟨g,0,none⟩) n c) (R:Row W lo g n c f) (hn:n<1048576) (q:Nat) (y:Int) (hx:a.eval x=.slice (some ⟨q,0,none⟩) 1 1) (hq:W.cell? ⟨q,0,none⟩=some (.i y))
  (h:∀ g' c' W',Row W' lo g' (n+1) c' (snoc f n y)->Wrote (fun b _=>b=g/\n+1<=c) W W'->((g'=g/\n+1<=c)\/W.heap.size<=g')->wpList prog ops Q rest (a.put o.dst (.slice (some ⟨g',0,none⟩) (n+1) c')) W'):wpList prog ops Q (o :: rest) a W :=
 wpList_plain hg fun K hK=>Vk W s x hop lo g n c f hs R hn q y hx hq (fun g c W' r1 r2 r3=>hK _ _ (h g c W' r1 r2 r3))
theorem Row.room {W:World} {lo g n c:Nat} {f:Nat->Int} (h:Row W lo g n c f):(W.heap[g]?.map fun o=>match o with | .cells cs _ _=>cs.size | _=>0)=some c:=by
 rcases h.own.2 with ⟨e,_⟩ | ⟨g',cap,cur,hv,hb,hg,h1,h2,h3,h4⟩
 .cases e
 .simp only [Value.slice.injEq,Option.some.injEq,Addr.mk.injEq,and_true,true_and] at hv
  obtain ⟨rfl,rfl⟩:=hv;rw [hg]
  simp
  omega
structure A9 (W:World) (lo N:Nat) (D:Nat->Nat->Prop) (u0 u1 u2 u3 u4 ov:Value) (gb cp:Nat->Nat) (g6 c6 g7 c7:Nat) (d:Aq):Prop where
 h0:Cu W (D 0) u0 d.m d.ln d.f
 h1:Bs W (D 1) u1 d.np d.p
 h2:Bw W (D 2) (.agg #[u2,.i d.bank]) d.nr d.g d.bank
 h3:Co W (D 3) (.agg (pR d.t d.c d.s d.ad d.pl d.bl u3 u4)) d.t d.c d.s d.ad d.pl d.bl d.nt d.tb d.nd d.dt
 h4:SG W lo ov d.mf gb cp d.lf d.fr
 h4D:∀ b,(ov.ownBlock=some b\/∃ i,i<d.mf/\gb i=b)->D 4 b
 h6:Row W lo g6 d.ns c6 d.sm
 h6D:D 5 g6\/(d.ns=0/\c6=0)
 h7:Row W lo g7 d.nq c7 d.rd
 h7D:D 6 g7\/(d.nq=0/\c7=0)
 dis:Dis D
 bd:∀ i b,D i b->lo<=b/\b<N
 n6:g6<N
 n7:g7<N
 nN:N<=W.heap.size
 hps:Dw d.lf d.mf<=1099511627776
section
variable {R:Nat->Nat->Prop} {W W':World} {lo N:Nat} {D:Nat->Nat->Prop} {u0 u1 u2 u3 u4 ov:Value} {gb cp:Nat->Nat} {g6 c6 g7 c7:Nat} {d:Aq}
theorem A9.ow (H:A9 W lo N D u0 u1 u2 u3 u4 ov gb cp g6 c6 g7 c7 d):Dv W lo (.agg (kR d u0 u1 u2 u3 u4 ov (.slice (some ⟨g6,0,none⟩) d.ns c6) (.slice (some ⟨g7,0,none⟩) d.nq c7))) d :=
 ⟨D,u0,u1,u2,u3,u4,ov,gb,cp,g6,c6,g7,c7,rfl,H.h0,H.h1,H.h2,H.h3,H.h4,H.h4D,H.h6,H.h6D,H.h7,H.h7D,H.dis,fun i b h=>⟨(H.bd i b h).1,Nat.lt_of_lt_of_le (H.bd i b h).2 H.nN⟩,H.hps⟩
theorem A9.of {v:Value} (H:Dv W lo v d):∃ D u0 u1 u2 u3 u4 ov gb cp g6 c6 g7 c7,v=.agg (kR d u0 u1 u2 u3 u4 ov (.slice (some ⟨g6,0,none⟩) d.ns c6) (.slice (some ⟨g7,0,none⟩) d.nq c7))/\A9 W lo W.heap.size D u0 u1 u2 u3 u4 ov gb cp g6 c6 g7 c7 d:=by
 obtain ⟨D,u0,u1,u2,u3,u4,ov,gb,cp,g6,c6,g7,c7,e,h0,h1,h2,h3,h4,h4D,h6,h6D,h7,h7D,dis,bd,hps⟩:=H;exact ⟨D,u0,u1,u2,u3,u4,ov,gb,cp,g6,c6,g7,c7,e,h0,h1,h2,h3,h4,h4D,h6,h6D,h7,h7D,dis,bd,h6.parts.2.1,h7.parts.2.1,Nat.le_refl _,hps⟩
theorem A9.keep (H:A9 W lo N D u0 u1 u2 u3 u4 ov gb cp g6 c6 g7 c7 d) (hw:Wrote R W W') (hn:∀ b o,b<N->¬ R b o):A9 W' lo N D u0 u1 u2 u3 u4 ov gb cp g6 c6 g7 c7 d :=
 ⟨H.h0.keep hw (fun b o h _=>hn b o (H.bd _ b h).2),H.h1.keep hw (fun b o h _=>hn b o (H.bd _ b h).2),H.h2.keep hw (fun b o h _=>hn b o (H.bd _ b h).2),H.h3.keep hw (fun b o h _=>hn b o (H.bd _ b h).2),H.h4.keep hw (fun g o hg=>hn g o (H.bd _ g (H.h4D g (Or.inl hg))).2) (fun i o hi=>hn _ o (H.bd _ _ (H.h4D _ (Or.inr ⟨i,hi,rfl⟩))).2),H.h4D,H.h6.keep hw (fun o=>hn _ o H.n6),H.h6D,H.h7.keep hw (fun o=>hn _ o H.n7),H.h7D,H.dis,H.bd,H.n6,H.n7,Nat.le_trans H.nN hw.size,H.hps⟩
theorem A9.keepD (H:A9 W lo N D u0 u1 u2 u3 u4 ov gb cp g6 c6 g7 c7 d) (hw:Wrote R W W') (hd:∀ i b o,D i b->¬ R b o) (k6:∀ o,¬ R g6 o) (k7:∀ o,¬ R g7 o):A9 W' lo N D u0 u1 u2 u3 u4 ov gb cp g6 c6 g7 c7 d :=
 ⟨H.h0.keep hw (fun b o h _=>hd _ b o h),H.h1.keep hw (fun b o h _=>hd _ b o h),H.h2.keep hw (fun b o h _=>hd _ b o h),H.h3.keep hw (fun b o h _=>hd _ b o h),H.h4.keep hw (fun g o hg=>hd _ g o (H.h4D g (Or.inl hg))) (fun i o hi=>hd _ _ o (H.h4D _ (Or.inr ⟨i,hi,rfl⟩))),H.h4D,H.h6.keep hw k6,H.h6D,H.h7.keep hw k7,H.h7D,H.dis,H.bd,H.n6,H.n7,Nat.le_trans H.nN hw.size,H.hps⟩
theorem A9.below (H:A9 W lo N D u0 u1 u2 u3 u4 ov gb cp g6 c6 g7 c7 d) (L:Below W.heap.size W W'):A9 W' lo N D u0 u1 u2 u3 u4 ov gb cp g6 c6 g7 c7 d:=H.keep (Aa L Aj) (fun _ _ _ x=>x)
theorem A9.ppu (H:A9 W lo N D u0 u1 u2 u3 u4 ov gb cp g6 c6 g7 c7 d) {p q:Nat} {w3 w4:Value} {c s ad pl:Int} {t:Int} {bl:Bool} {nt nd:Nat} {tb dt:Nat->Int} (hP:Co W (fun b=>p<=b/\b<q) (.agg (pR t c s ad pl bl w3 w4)) t c s ad pl bl nt tb nd dt) (hp:N<=p) (hl:lo<=N) (hpq:p<=q) (hq:q<=W.heap.size) :
  A9 W lo q (fun i b=>(i=3/\p<=b/\b<q)\/(i≠3/\D i b)) u0 u1 u2 w3 w4 ov gb cp g6 c6 g7 c7 { d with t:=t,c:=c,s:=s,ad:=ad,pl:=pl,bl:=bl,nt:=nt,tb:=tb,nd:=nd,dt:=dt }:=by
 have nN:=H.nN;refine ⟨H.h0.mono (fun b _ h=>Or.inr ⟨by decide,h⟩),H.h1.mono (fun b _ h=>Or.inr ⟨by decide,h⟩),H.h2.mono (fun b _ h=>Or.inr ⟨by decide,h⟩),hP.mono (fun b _ h=>Or.inl ⟨rfl,h⟩),H.h4,fun b h=>Or.inr ⟨by decide,H.h4D b h⟩,H.h6,?_,H.h7,?_,?_,?_,by have:=H.n6; omega,by have:=H.n7; omega,hq,H.hps⟩
 .rcases H.h6D with h | h
  .exact Or.inl (Or.inr ⟨by decide,h⟩)
  .exact Or.inr h
 .rcases H.h7D with h | h
  .exact Or.inl (Or.inr ⟨by decide,h⟩)
  .exact Or.inr h
 .intro i j b h1 h2
  rcases h1 with ⟨rfl,_,_⟩ | ⟨n1,h1⟩ <;> rcases h2 with ⟨rfl,_,_⟩ | ⟨n2,h2⟩
  .rfl
  .have:=H.bd _ _ h2; omega
  .have:=H.bd _ _ h1; omega
  .exact H.dis _ _ _ h1 h2
 .intro i b h
  rcases h with ⟨rfl,_,_⟩ | ⟨_,h⟩
  .omega
  .have:=H.bd _ _ h; omega
theorem A9.push (H:A9 W lo N D u0 u1 u2 u3 u4 ov gb cp g6 c6 g7 c7 d) (hl:lo<=N) {g' c':Nat} {x:Int} (hw:Wrote (fun b _=>b=g7/\d.nq+1<=c7) W W') (R7:Row W' lo g' (d.nq+1) c' (snoc d.rd d.nq x)) (hat:(g'=g7/\d.nq+1<=c7)\/W.heap.size<=g') :
  A9 W' lo W'.heap.size (fun i b=>(i=6/\b=g')\/(i≠6/\D i b)) u0 u1 u2 u3 u4 ov gb cp g6 c6 g' c' { d with nq:=d.nq+1,rd:=snoc d.rd d.nq x }:=by
 have nN:=H.nN;have hz:=hw.size
 have far:∀ i b (o:Nat),i≠6->D i b->¬ (b=g7/\d.nq+1<=c7):=fun i b o hi hb ⟨e,hc⟩=>by
  rcases H.h7D with h | h
  .exact hi (H.dis i 6 b hb (e ▸ h))
  .omega
 have f6:∀ (o:Nat),¬ (g6=g7/\d.nq+1<=c7/\0<c6):=fun o ⟨e,hc,h0⟩=>by
  rcases H.h6D with h | h
  .exact far 5 g6 o (by decide) h ⟨e,hc⟩
  .omega
 have K6:Row W' lo g6 d.ns c6 d.sm:=by
  by_cases e:g6=g7/\d.nq+1<=c7
  .exfalso
   have hc6:c6=0:=by
    by_cases h:0<c6
    .exact absurd ⟨e.1,e.2,h⟩ (f6 0)
    .omega
   have p6:=H.h6.room;have p7:=H.h7.room;rw [e.1,p7] at p6;have:=Option.some.inj p6
   omega
  .exact H.h6.keep hw (fun o h=>e h)
 refine ⟨(H.h0.keep hw (fun b o h _=>far 0 b o (by decide) h)).mono (fun b _ h=>Or.inr ⟨by decide,h⟩),(H.h1.keep hw (fun b o h _=>far 1 b o (by decide) h)).mono (fun b _ h=>Or.inr ⟨by decide,h⟩),(H.h2.keep hw (fun b o h _=>far 2 b o (by decide) h)).mono (fun b _ h=>Or.inr ⟨by decide,h⟩),(H.h3.keep hw (fun b o h _=>far 3 b o (by decide) h)).mono (fun b _ h=>Or.inr ⟨by decide,h⟩),
  H.h4.keep hw (fun g o hg=>far 4 g o (by decide) (H.h4D g (Or.inl hg))) (fun i o hi=>far 4 _ o (by decide) (H.h4D _ (Or.inr ⟨i,hi,rfl⟩))),fun b h=>Or.inr ⟨by decide,H.h4D b h⟩,K6,?_,R7,Or.inl (Or.inl ⟨rfl,rfl⟩),?_,?_,by have:=H.n6; omega,R7.parts.2.1,Nat.le_refl _,H.hps⟩
 .rcases H.h6D with h | h
  .exact Or.inl (Or.inr ⟨by decide,h⟩)
  .exact Or.inr h
 .intro i j b h1 h2
  have key:∀ i,i≠6->D i g'->False:=fun i hi h=>by
   rcases hat with ⟨e,hc⟩ | h'
   .exact far i g' 0 hi h ⟨e,hc⟩
   .have:=H.bd _ _ h; omega
  rcases h1 with ⟨rfl,rfl⟩ | ⟨n1,h1⟩ <;> rcases h2 with ⟨rfl,e⟩ | ⟨n2,h2⟩
  .rfl
  .exact absurd h2 (fun h=>key j n2 h)
  .subst e; exact absurd h1 (fun h=>key i n1 h)
  .exact H.dis _ _ _ h1 h2
 .intro i b h
  rcases h with ⟨rfl,rfl⟩ | ⟨_,h⟩
  .exact ⟨R7.parts.1,R7.parts.2.1⟩
  .have:=H.bd _ _ h; omega
end
set_option maxRecDepth 20000
def dg (n:Nat):List UInt8:=if _h:n=0 then [] else dg (n/10)++[UInt8.ofNat (48+n%10)]
decreasing_by exact Nat.div_lt_self (Nat.pos_of_ne_zero _h) (by decide)
def chr (k:Nat):UInt8:=UInt8.ofNat (48+k%10)
theorem Jfg (k:Nat):UInt8.ofNat (48+(k:Int)%10).toNat=chr k:=by
 have e:(48+(k:Int)%10).toNat=48+k%10:=by omega
 rw [e]
 rfl
def T8 (n:Nat):List UInt8:=if n=0 then [48] else dg n
theorem Ys {n:Nat} (h:0<n):dg n=dg (n/10)++[chr n]:=by
 rw [dg,dif_neg (by omega)]
 rfl
theorem Ri:dg 0=[]:=by rw [dg,dif_pos rfl]
theorem Jfh (d n:Nat) (h:n<10 ^ d):(dg n).length<=d:=by
 induction d generalizing n with
 | zero =>
  have e:n=0:=by simp at h; exact h
  subst e;rw [Ri]
  simp
 | succ d ih =>
  by_cases e:n=0
  .subst e; rw [Ri]; simp
  .rw [Ys (by omega),List.length_append]
   have:=ih (n/10) (by rw [Nat.pow_succ] at h; omega)
   simp
   omega
theorem Jgp (W:World) (g:Nat) (x:Int) (h:W.cell? ⟨g,0,none⟩=some (.int .u8 x)) :
  (convert 22 9 (.slice (some ⟨g,0,none⟩) 1 1)).run prog W=.ok (.string ⟨#[UInt8.ofNat x.toNat]⟩) W:=by
 rw [run_convert_bytes_string W 22 9 5 _ _ _ underlying22 underlying5 underlying9]
 have hl:=run_loadCells_list (P:=prog) W ⟨g,0,none⟩ [.int .u8 x] (fun j v hj=>by
  match j,hj with
  | 0,hj=>cases hj; simpa [Addr.add] using h
  | k+1,hj=>simp at hj)
 rw [run_bytesToString W ⟨g,0,none⟩ 1 1 [x] hl]
 rfl
theorem Jbx (w:World) (n:Nat) (hn:n<=9223372036854775807):Calls prog 236 #[.i n] w fun e w'=>(∃ s:ByteArray,e=.returned (.string s)/\s.toList=T8 n)/\Below w.heap.size w w':=by
 by_cases h0:n=0
 .subst h0
  go_enter func236,ntmps236
  go_wp2;go_ret;exact ⟨⟨_,rfl,by simp [T8,ByteArray.toList_eq]⟩,Below.refl _ _⟩
 .have h0':((n:Int)==0)=false:=by simp; omega
  have hd:T8 n=dg n:=by unfold T8; rw [if_neg h0]
  rw [hd]
  go_enter func236,ntmps236
  go_wp2
  go_loopw [0,3] (fun x o wr=>∃ (k:Nat) (s:ByteArray),x=.i k/\o=.string s/\dg n=dg k++s.data.toList/\Hid (k<=9223372036854775807)/\Below w.heap.size w wr) (fun x _ _=>(intOf x).toNat)
  case atStart=>exact ⟨n,_,rfl,rfl,by simp,hn,Below.refl _ _⟩
  case round =>
   obtain ⟨k,s,rfl,rfl,hdg,hk,hbel⟩:=hrel;have HD:=Ac hdg;clear hdg
   by_cases hk0:0<k
   .have hk0':(0:Int)<(k:Int):=by omega
    have hkk:=hk.out;have hcv:=Jgp (wr.al #[.int .u8 (48+(k:Int)%10)] 5) wr.heap.size (48+(k:Int)%10) (by go_simp);rw [Jfg] at hcv
    have hd0:0<=(k:Int)%10:=by omega
    have hd9:(k:Int)%10<=9:=by omega
    have hss:s.size<=19:=by
     have h1:=congrArg List.length (Ae HD);have h2:=Jfh 19 n (by omega);rw [List.length_append] at h1;have h3:s.data.toList.length=s.size:=rfl
     omega
    have HD2:Hid (dg n=dg (k/10)++((⟨#[chr k]⟩:ByteArray)++s).data.toList):=by
     show _=_
     rw [Ae HD,Ys hk0,List.append_assoc]
     congr 1
    generalize chr k=ch at *;go_wp2;go_roundw
    case rel=>exact ⟨k/10,_,by go_num,rfl,Ae HD2,by show _<=_; omega,hbel.alloc hbel.size _⟩
    case measure=>simp [intOf]; omega
   .have hk0':¬ (0:Int)<(k:Int):=by omega
    have e:k=0:=by omega
    subst e;go_wp2;go_ret;exact ⟨⟨_,rfl,by rw [ByteArray.toList_eq,Ae HD,Ri]; rfl⟩,hbel⟩
def Gs (c:UInt8):Bool:=decide (48<=c.toNat) && decide (c.toNat<=57)
def J2 (l:List UInt8):Nat:=l.foldl (fun x c=>10*x+(c.toNat-48)) 0
theorem Zo (l:List UInt8) (c:UInt8):J2 (l++[c])=10*J2 l+(c.toNat-48):=by simp [J2]
def pv (l:List UInt8) (q:Nat):Nat:=J2 (l.take q)
theorem Yt (l:List UInt8) (q:Nat) (h:q<l.length):pv l (q+1)=10*pv l q+((l[q]'h).toNat-48):=by
 unfold pv;rw [List.take_succ_eq_append_getElem h,Zo]
theorem Je9 (l:List UInt8) (q:Nat) (h:∀ j (_:j<q) (hl:j<l.length),Gs (l[j]'hl)=true):pv l q<10 ^ q:=by
 induction q with
 | zero=>simp [pv,J2]
 | succ q ih =>
  have h1:=ih (fun j hj hl=>h j (by omega) hl)
  by_cases hq:q<l.length
  .rw [Yt l q hq,Nat.pow_succ]
   have h2:=h q (by omega) hq
   simp [Gs] at h2
   omega
  .have e:pv l (q+1)=pv l q:=by
    unfold pv;rw [List.take_of_length_le (by omega),List.take_of_length_le (by omega)]
   rw [e,Nat.pow_succ]
   omega
theorem Jby (l:List UInt8):pv l l.length=J2 l:=by unfold pv; rw [List.take_length]
theorem Jdy {l:List UInt8} (h:∀ j (hl:j<l.length),Gs (l[j]'hl)=true):l.all Gs=true:=by
 rw [List.all_eq_true];intro x hx;obtain ⟨j,hj,rfl⟩:=List.mem_iff_getElem.1 hx;exact h j hj
theorem Jdz {l:List UInt8} {j:Nat} (hl:j<l.length) (h:Gs (l[j]'hl)=false):l.all Gs=false:=by
 rw [List.all_eq_false];exact ⟨_,List.getElem_mem hl,by simp [h]⟩
def numOf (s:ByteArray):Int:=if s.size=0\/5<s.size then -1 else if s.data.toList.all Gs=false then -1 else if T8 (J2 s.data.toList)=s.data.toList then J2 s.data.toList else -1
theorem Jgq (w:World) (s:ByteArray) (hs:s.size<=1048576):Calls prog 214 #[.string s] w fun e w'=>e=.returned (.i (numOf s))/\Below w.heap.size w w':=by
 by_cases h0:s.size=0
 .have HN:Hid (numOf s=-1):=by show _=_; unfold numOf; rw [if_pos (Or.inl h0)]
  have e:s=ByteArray.empty:=by
   apply ByteArray.ext
   exact Array.eq_empty_of_size_eq_zero h0
  subst e
  go_enter func214,ntmps214
  go_wp2;go_ret;exact ⟨A5 HN.out.symm,Below.refl _ _⟩
 .have h0':(s.toList==[])=false:=by
   rw [ByteArray.toList_eq];simp only [beq_eq_false_iff_ne,ne_eq,Array.toList_eq_nil_iff];intro e
   apply h0
   show s.data.size=0
   rw [e]
   rfl
  by_cases h5:5<s.size
  .have HN:Hid (numOf s=-1):=by show _=_; unfold numOf; rw [if_pos (Or.inr h5)]
   have h5':(5:Int)<(s.size:Int):=by omega
   go_enter func214,ntmps214
   go_wp2;go_ret;exact ⟨A5 HN.out.symm,Below.refl _ _⟩
  .have h5':decide ((5:Int)<(s.size:Int))=false:=decide_eq_false (by omega)
   go_enter func214,ntmps214
   go_wp2
   go_loop [3,4] (fun x i=>∃ q:Nat,q<=s.size/\i=.i q/\x=.i (pv s.data.toList q)/\∀ j (_:j<q) (hl:j<s.data.toList.length),Gs (s.data.toList[j]'hl)=true) (fun _ i=>s.size-(intOf i).toNat)
   case atStart=>exact ⟨0,Nat.zero_le _,rfl,rfl,fun j hj=>absurd hj (Nat.not_lt_zero _)⟩
   case round =>
    obtain ⟨q,hq,rfl,rfl,hdg⟩:=hrel;have hpv:=Je9 s.data.toList q hdg;have hp5:pv s.data.toList q<100000:=Nat.lt_of_lt_of_le hpv (Nat.pow_le_pow_right (by omega) (show q<=5 by omega));have HD:=Ac hdg;clear hdg hpv
    by_cases hlt:q<s.size
    .have hlt':(q:Int)<(s.size:Int):=by omega
     have hll:q<s.data.toList.length:=by simpa using hlt
     have hps:=Ac (Yt s.data.toList q hll)
     have hce:(s.data.toList[q]'hll).toNat=(s[q]'hlt).toNat:=by simp; rfl
     cases hd:Gs (s.data.toList[q]'hll)
     .have HN:Hid (numOf s=-1):=by
       show _=_
       unfold numOf;rw [if_neg (by omega),if_pos (Jdz hll hd)]
      unfold Gs at hd;rw [hce] at hd
      by_cases h48:(((s[q]'hlt).toNat:Nat):Int)<48
      .clear hd hce
       go_wp2;go_ret;exact ⟨A5 HN.out.symm,Below.refl _ _⟩
      .have h57:(57:Int)<(((s[q]'hlt).toNat:Nat):Int):=by
        simp only [Bool.and_eq_false_iff,decide_eq_false_iff_not] at hd
        omega
       clear hd hce;go_wp2;go_ret;exact ⟨A5 HN.out.symm,Below.refl _ _⟩
     .have hdd:∀ j (_:j<q+1) (hl:j<s.data.toList.length),Gs (s.data.toList[j]'hl)=true:=fun j hj hl=>by
       by_cases e:j=q
       .subst e; exact hd
       .exact Ae HD j (by omega) hl
      have HDD:=Ac hdd;unfold Gs at hd;rw [hce] at hd;simp only [Bool.and_eq_true,decide_eq_true_eq] at hd
      have h48:¬ (((s[q]'hlt).toNat:Nat):Int)<48:=by omega
      have h57:¬ (57:Int)<(((s[q]'hlt).toNat:Nat):Int):=by omega
      have hps2:Hid (pv s.data.toList (q+1)=10*pv s.data.toList q+((s[q]'hlt).toNat-48)):=by show _=_; rw [Ae hps,hce]
      have hd1:=hd.1;clear hd hce hdd hps;go_wp2
      go_round
      case rel=>exact ⟨q+1,by omega,by go_num,congrArg (Value.int .i64) (by rw [hps2.out]; omega),Ae HDD⟩
      case measure=>simp [intOf]; omega
    .have hlt':¬ (q:Int)<(s.size:Int):=by omega
     have e:q=s.size:=by omega
     subst e;have hal:s.data.toList.all Gs=true:=Jdy (fun j hl=>Ae HD j (by simpa using hl) hl);have hpe:pv s.data.toList s.size=J2 s.data.toList:=Jby s.data.toList
     have hnum:numOf s=if T8 (J2 s.data.toList)=s.data.toList then (J2 s.data.toList:Int) else -1:=by
      unfold numOf;rw [if_neg (by omega),if_neg (by rw [hal]; decide)]
     have HNM:=Ac hnum;clear hnum hal;go_wp2_with fail;refine (Jbx _ _ (by omega)).mono ?_;rintro e w1 ⟨⟨t,rfl,ht0⟩,L1⟩
     have ht:t.toList=T8 (J2 s.data.toList):=by first | exact ht0 | (rw [hpe] at ht0; exact ht0)
     clear ht0
     by_cases hq:T8 (J2 s.data.toList)=s.data.toList
     .have hq':(!t.toList==s.toList)=false:=by rw [ht,ByteArray.toList_eq,hq]; simp
      have HE:Hid (((J2 s.data.toList:Nat):Int)=numOf s):=by show _=_; rw [Ae HNM,if_pos hq]
      clear ht hq hpe;go_wp2;go_ret;exact ⟨A5 HE.out,L1⟩
     .have hq':(!t.toList==s.toList)=true:=by
       rw [ht,ByteArray.toList_eq]
       simpa using hq
      have HE:Hid (numOf s=-1):=by show _=_; rw [Ae HNM,if_neg hq]
      clear ht hq hpe;go_wp2;go_ret;exact ⟨A5 HE.out.symm,L1⟩
theorem Jb7 {cs:Array Value} {o:Nat} {v:Value} (h:cs[o]?=some v):∀ (j:Nat) (x:Value),#[v][j]?=some x->cs[o+j]?=some x:=fun j x hx=>by
 rcases j with _ | j
 .exact h.trans hx
 .simp at hx
theorem Ug {cs:Array Value} {o:Nat} {v0 v1:Value} (h0:cs[o]?=some v0) (h1:cs[o+1]?=some v1):∀ (j:Nat) (x:Value),#[v0,v1][j]?=some x->cs[o+j]?=some x:=fun j x hx=>by
 rcases j with _ | _ | j
 .exact h0.trans hx
 .exact h1.trans hx
 .simp at hx
theorem Gt {cs:Array Value} {o:Nat} {v0 v1 v2 v3 v4 v5 v6 v7:Value} (h0:cs[o]?=some v0) (h1:cs[o+1]?=some v1) (h2:cs[o+2]?=some v2) (h3:cs[o+3]?=some v3) (h4:cs[o+4]?=some v4) (h5:cs[o+5]?=some v5) (h6:cs[o+6]?=some v6) (h7:cs[o+7]?=some v7):∀ (j:Nat) (x:Value),#[v0,v1,v2,v3,v4,v5,v6,v7][j]?=some x->cs[o+j]?=some x:=fun j x hx=>by
 rcases j with _ | _ | _ | _ | _ | _ | _ | _ | j
 .exact h0.trans hx
 .exact h1.trans hx
 .exact h2.trans hx
 .exact h3.trans hx
 .exact h4.trans hx
 .exact h5.trans hx
 .exact h6.trans hx
 .exact h7.trans hx
 .simp at hx
theorem Bn {w:World} {g:Nat} {old:Array Value} {t:TypeId} (hg:w.heap[g]?=some (.cells old t (0,0))) (cs:Array Value):Wrote (fun b _=>b=g) w (w.setRow g cs) :=
 ⟨rfl,rfl,rfl,by simp [World.setRow],fun k hk hn=>setRow_other _ _ _ _ (fun e=>hn 0 e),fun b o hb hn=>cell_setRow_other _ _ _ _ hn,fun b o hb=>by
  by_cases e:b=g
  .subst e
   rw [Au (setRow_heap _ _ _ _ _ _ hg),Au hg]
  .simp [World.frozen?,setRow_other _ _ _ _ e]⟩
theorem A2 {P:Program} {fn:Func} {p q:Tmp} {ty:TypeId} (h:fn.results=#[.cell p ty,.tmp q]) (tmps:Array Value) (w:World) (g:Nat) (t:TypeId) (cs:Array Value) (fr:Nat × Nat) (dd:TypeDesc)
  (hp:tmps.getD p undef=(pt g 0)) (hg:w.heap[g]?=some (.cells cs t fr)) (hu:P.underlying ty=some dd) (hd:(match dd with | .struct _ | .array _ _=>true | _=>false)=true) (hi:(P.info? ty).map (·.size)=some cs.size) :
  (results fn tmps).run P w=.ok (.tuple #[.agg cs,tmps.getD q undef]) w:=by
 have hp':tmps[p]?.getD undef=(pt g 0):=by simpa using hp
 simp [results,h,hp',asAddr,run_loadVar_row w g t ty cs fr dd hg hu hd hi]
def Dx (d:Aq) (a:Int):Int :=
 if rgN (a%65536)=2 then R5 true (rgP (a%65536)) d.bl d.ad d.tb else if rgN (a%65536)=3 then Y0 true d.L d.R (rgP (a%65536)) else if rgN (a%65536)=4 then I6 d.hd d.sh d.np d.p d.t else peekOf d.m d.f d.g d.bank (a%65536)
def Cl (d:Aq) (a:Int):Aq :=
 if rgN (a%65536)=2 then { d with ad:=Ps true (rgP (a%65536)) d.ad,bl:=Rz true (rgP (a%65536)) d.bl,nq:=d.nq+1,rd:=snoc d.rd d.nq (Dx d a) } else if rgN (a%65536)=3 then { d with R:=rqA true d.R (rgP (a%65536)),nq:=d.nq+1,rd:=snoc d.rd d.nq (Dx d a) } else if rgN (a%65536)=4 then { d with sh:=De d.hd d.sh d.np d.p d.t,nq:=d.nq+1,rd:=snoc d.rd d.nq (Dx d a) } else d
theorem Fy {d:Aq} (h:okLock d=true):Du d.np d.p=true/\B9 d.m d.ln d.f d.nr d.g d.bank=true/\A1 d.t d.c d.s d.ad d.pl d.nt d.tb d.nd d.dt=true/\Ck d.T d.P d.K d.B d.L=true/\Cr d.sh 0 255=true:=by
 unfold okLock at h;simp only [Bool.and_eq_true] at h;exact ⟨h.1,h.2.1,h.2.2.2.1,h.2.2.2.2.1,h.2.2.2.2.2.1⟩
open Go.Sort
abbrev Mq:=List (Nat × Array Value × TypeId)
structure E4 (w:World) (D:Nat->Prop) (W:World) (l:Mq):Prop where
 below:Below w.heap.size w W
 all:∀ p,p∈l->W.heap[p.1]?=some (.cells p.2.1 p.2.2 (0,0))/\w.heap.size<=p.1/\¬ D p.1
 nd:(l.map (·.1)).Nodup
 lt:∀ b,D b->b<W.heap.size
theorem E4.nil (w:World):E4 w (fun _=>False) w []:=⟨Below.refl _ _,fun _ h=>(by cases h),List.nodup_nil,fun _ h=>h.elim⟩
section
variable {w W W':World} {D:Nat->Prop} {l:Mq} {i b:Nat} {cs:Array Value} {t:TypeId}
theorem E4.ret (h:E4 w D W l) (i:Nat) (e:l[i]?=some (b,cs,t)):W.heap[b]?=some (.cells cs t (0,0)):=(h.all _ (List.mem_of_getElem? e)).1
theorem E4.call (h:E4 w D W l) (L:Below W.heap.size W W'):E4 w D W' l :=
 ⟨h.below.trans (L.mono h.below.size),fun p hp=>⟨Ab (h.all p hp).1 L (Ad (h.all p hp).1),(h.all p hp).2⟩,h.nd,fun b hb=>Nat.lt_of_lt_of_le (h.lt b hb) L.size⟩
theorem E4.re (h:E4 w D W l) (L:Below W.heap.size W W'):E4 w (fun b=>W.heap.size<=b/\b<W'.heap.size) W' l :=
 ⟨(h.call L).below,fun p hp=>⟨((h.call L).all p hp).1,(h.all p hp).2.1,fun hd=>absurd (Ad (h.all p hp).1) (by omega)⟩,h.nd,fun _ hb=>hb.2⟩
theorem E4.alloc (h:E4 w D W l) (cs:Array Value) (t:TypeId) (n:Nat) (e:W.heap.size=n):E4 w D (W.alloc (.cells cs t)) (l++[(n,cs,t)]):=by
 subst e;have L:Below W.heap.size W (W.al cs t):=(Below.refl _ _).alloc (Nat.le_refl _) _;refine ⟨(h.call L).below,fun p hp=>?_,?_,(h.call L).lt⟩
 .rcases List.mem_append.1 hp with hp | hp
  .exact (h.call L).all p hp
  .obtain rfl:=List.mem_singleton.1 hp
   exact ⟨Ak W cs t,h.below.size,fun hd=>absurd (h.lt _ hd) (Nat.lt_irrefl _)⟩
 .rw [List.map_append,List.nodup_append]
  refine ⟨h.nd,by simp,fun a ha c hc e=>?_⟩;obtain ⟨p,hp,rfl⟩:=List.mem_map.1 ha;have:=Ad (h.all p hp).1
  simp at hc
  omega
theorem E4.no (h:E4 w D W l) (i:Nat) (e:l[i]?=some (b,cs,t)):¬ D b:=(h.all _ (List.mem_of_getElem? e)).2.2
theorem E4.far (h:E4 w D W l) (i j:Nat) {b':Nat} {cs':Array Value} {t':TypeId} (e:l[i]?=some (b,cs,t)) (e':l[j]?=some (b',cs',t')) (hij:i≠j):b≠b':=fun x=>by
 have hi:=(List.getElem?_eq_some_iff.1 e).1;have hj:=(List.getElem?_eq_some_iff.1 e').1;refine hij ((List.getElem_inj (xs:=l.map (·.1)) (h₀:=by simpa using hi) (h₁:=by simpa using hj) h.nd).1 ?_);simp only [List.getElem_map];rw [(List.getElem?_eq_some_iff.1 e).2,(List.getElem?_eq_some_iff.1 e').2];exact x
theorem E4.upd (h:E4 w D W l) (i:Nat) (e:l[i]?=some (b,cs,t)) {cs':Array Value} (TT:Wrote (fun b' _=>b'=b) W W') (k:W'.heap[b]?=some (.cells cs' t (0,0))):E4 w D W' (l.set i (b,cs',t)):=by
 have hb:=h.all _ (List.mem_of_getElem? e);refine ⟨h.below.trans (TT.below h.below.size (fun b' o h1 h2=>by have:=hb.2.1; omega)),fun p hp=>?_,?_,fun b hd=>Nat.lt_of_lt_of_le (h.lt b hd) TT.size⟩
 .obtain ⟨j,hj⟩:=List.mem_iff_getElem?.1 hp
  by_cases e':i=j
  .subst e'
   have hlt:=(List.getElem?_eq_some_iff.1 e).1
   simp [List.getElem?_set,hlt] at hj
   subst hj;exact ⟨k,hb.2⟩
  .rw [List.getElem?_set_ne e'] at hj
   have hp':=h.all p (List.mem_of_getElem? hj);refine ⟨Al hp'.1 TT (fun o h1=>?_),hp'.2⟩;exact h.far j i (t:=p.2.2) (cs:=p.2.1) hj e (Ne.symm e') h1
 .rw [List.map_set]
  have:(l.map (·.1)).set i b=l.map (·.1):=by
   refine List.ext_getElem? (fun j=>?_);rw [List.getElem?_set];split
   .rename_i e'; subst e'
    have hi:=(List.getElem?_eq_some_iff.1 e).1
    simp [hi,e]
    have:=(List.getElem?_eq_some_iff.1 e).2;rw [this]
   .rfl
  rw [this];exact h.nd
theorem E4.row (h:E4 w D W l) (i:Nat) (e:l[i]?=some (b,cs,t)) (cs':Array Value):E4 w D (W.setRow b cs') (l.set i (b,cs',t)):=h.upd i e (Bn (h.ret i e) cs') (setRow_heap _ _ _ _ _ _ (h.ret i e))
theorem Ip (W:World) (b o:Nat) (v:Value):Wrote (fun b' _=>b'=b) W (W.setCell ⟨b,o,none⟩ v):=Wrote.setCell (R:=fun b' _=>b'=b) (Wrote.refl _ W) (fun _=>rfl) v
theorem E4.cell (h:E4 w D W l) (i:Nat) (e:l[i]?=some (b,cs,t)) (o:Nat) (v:Value) {cs':Array Value} (hc:cs.setIfInBounds o v=cs'):E4 w D (W.setCell ⟨b,o,none⟩ v) (l.set i (b,cs',t)):=h.upd i e (Ip W b o v) (hc ▸ Am (h.ret i e) v)
theorem E4.get (h:E4 w D W l) (i:Nat) (e:l[i]?=some (b,cs,t)) (j:Nat) {v:Value} (hv:cs[j]?=some v):W.cell? ⟨b,j,none⟩=some v:=(Af (h.ret i e) j).trans hv
theorem E4.getG (h:E4 w D W l) (i:Nat) (e:l[i]?=some (b,cs,t)) (j:Nat) {v:Value} (hv:cs[j]?=some v) (d:Nat) (os:Array Obj):(grow (redrawn W d) os).cell? ⟨b,j,none⟩=some v:=(h.call (below_regrown W d os)).get i e j hv
theorem E4.drew (h:E4 w D W l):E4 w D W.drew l:=⟨h.below.trans ((Wrote.drew (R:=fun _ _=>False) (Wrote.refl _ W)).below h.below.size (fun _ _ _ h=>h.elim)),h.all,h.nd,h.lt⟩
theorem E4.take (h:E4 w D W l) (n:Nat):E4 w D W (l.take n):=⟨h.below,fun p hp=>h.all p (List.mem_of_mem_take hp),by rw [List.map_take]; exact h.nd.sublist (List.take_sublist _ _),h.lt⟩
theorem E4.mem (h:E4 w D W l) (i:Nat) (e:l[i]?=some (b,cs,t)) (TT:Wrote (fun b' _=>b'=b) W W') {v:Value} {n:Nat} {g:Nat->Int} {bank:Int} (M:Bw W D v n g bank):Bw W' D v n g bank :=
 M.keep TT (fun b' o hd _ he=>(h.all _ (List.mem_of_getElem? e)).2.2 (by have he':b'=b:=he; exact he' ▸ hd))
end
section
variable {W:World} {lo N:Nat} {D:Nat->Nat->Prop} {u0 u1 u2 u3 u4 ov:Value} {gb cp:Nat->Nat} {g6 c6 g7 c7:Nat} {d:Aq}
theorem A9.mem (H:A9 W lo N D u0 u1 u2 u3 u4 ov gb cp g6 c6 g7 c7 d) {p q:Nat} {w2:Value} {bank:Int} {nr:Nat} {g:Nat->Int} (hM:Bw W (fun b=>p<=b/\b<q) (.agg #[w2,.i bank]) nr g bank) (hp:N<=p) (hl:lo<=N) (hpq:p<=q) (hq:q<=W.heap.size) :
  A9 W lo q (fun i b=>(i=2/\p<=b/\b<q)\/(i≠2/\D i b)) u0 u1 w2 u3 u4 ov gb cp g6 c6 g7 c7 { d with nr:=nr,g:=g,bank:=bank }:=by
 have nN:=H.nN;refine ⟨H.h0.mono (fun b _ h=>Or.inr ⟨by decide,h⟩),H.h1.mono (fun b _ h=>Or.inr ⟨by decide,h⟩),hM.mono (fun b _ h=>Or.inl ⟨rfl,h⟩),H.h3.mono (fun b _ h=>Or.inr ⟨by decide,h⟩),H.h4,fun b h=>Or.inr ⟨by decide,H.h4D b h⟩,H.h6,?_,H.h7,?_,?_,?_,by have:=H.n6; omega,by have:=H.n7; omega,hq,H.hps⟩
 .rcases H.h6D with h | h
  .exact Or.inl (Or.inr ⟨by decide,h⟩)
  .exact Or.inr h
 .rcases H.h7D with h | h
  .exact Or.inl (Or.inr ⟨by decide,h⟩)
  .exact Or.inr h
 .intro i j b h1 h2
  rcases h1 with ⟨rfl,_,_⟩ | ⟨n1,h1⟩ <;> rcases h2 with ⟨rfl,_,_⟩ | ⟨n2,h2⟩
  .rfl
  .have:=H.bd _ _ h2; omega
  .have:=H.bd _ _ h1; omega
  .exact H.dis _ _ _ h1 h2
 .intro i b h
  rcases h with ⟨rfl,_,_⟩ | ⟨_,h⟩
  .omega
  .have:=H.bd _ _ h; omega
end
def Br (d:Aq) (a y:Int):Aq :=
 if rgN (a%65536)=2 then { d with c:=Kx true (rgP (a%65536)) y d.c,s:=Ky true (rgP (a%65536)) y d.s,ad:=Kz true (rgP (a%65536)) y d.ad,pl:=La true (rgP (a%65536)) y d.pl,tb:=My true (rgP (a%65536)) y d.ad d.tb } else if rgN (a%65536)=3 then { d with P:=J6 true d.P (rgP (a%65536)) y,L:=J7 true d.L (rgP (a%65536)) y,Q:=Lb true d.Q (rgP (a%65536)) y,R:=Lc true d.R (rgP (a%65536)) y } else if rgN (a%65536)=4 then { d with hd:=Gx y,sh:=Ec d.hd d.sh d.np d.p d.t y } else { d with g:=Fs true d.g (a%65536) y,bank:=Fb true d.m d.bank (a%65536) y }
set_option maxHeartbeats 1000000
open Go.Proofs.Tryz
def A8 (W:World) (lo:Nat):Option Nat->Value->Nat->(Nat->Int)->Prop
 | none,v,n,_=>v=.slice none 0 0/\n=0
 | some q,v,n,f=>∃ y,v=.slice (some ⟨q,0,none⟩) n y/\Row W lo q n y f
theorem A8.keep {R:Nat->Nat->Prop} {W W':World} {lo:Nat} {o:Option Nat} {v:Value} {n:Nat} {f:Nat->Int} (h:A8 W lo o v n f) (hw:Wrote R W W') (hd:∀ q,o=some q->lo<=q->q<W.heap.size->∀ k,¬ R q k):A8 W' lo o v n f:=by
 cases o with
 | none=>exact h
 | some q =>
  obtain ⟨y,e,r⟩:=h;exact ⟨y,e,r.keep hw (hd q rfl r.parts.1 r.parts.2.1)⟩
theorem A8.below {W W':World} {lo:Nat} {o:Option Nat} {v:Value} {n:Nat} {f:Nat->Int} (h:A8 W lo o v n f) (L:Below W.heap.size W W'):A8 W' lo o v n f:=h.keep (Aa L Aj) (fun _ _ _ _ _ x=>x)
theorem A8.mono {W:World} {lo lo':Nat} {o:Option Nat} {v:Value} {n:Nat} {f:Nat->Int} (h:A8 W lo o v n f) (hl:lo'<=lo):A8 W lo' o v n f:=by
 cases o with
 | none=>exact h
 | some q =>
  obtain ⟨y,e,r⟩:=h;exact ⟨y,e,r.mono hl⟩
theorem A8.lt {W:World} {lo q:Nat} {v:Value} {n:Nat} {f:Nat->Int} (h:A8 W lo (some q) v n f):lo<=q/\q<W.heap.size:=by
 obtain ⟨y,e,r⟩:=h;exact ⟨r.parts.1,r.parts.2.1⟩
theorem A8.sl {W:World} {lo:Nat} {o:Option Nat} {v:Value} {n:Nat} {f:Nat->Int} (h:A8 W lo o v n f):∃ a x,v=.slice a n x/\Bu W (fun b=>o=some b) a n f:=by
 cases o with
 | none =>
  obtain ⟨rfl,rfl⟩:=h;exact ⟨_,_,rfl,Bu.nil _⟩
 | some q =>
  obtain ⟨y,rfl,r⟩:=h;exact ⟨_,_,rfl,r.onD rfl⟩
theorem A8.form {W:World} {lo:Nat} {o:Option Nat} {v:Value} {n:Nat} {f:Nat->Int} (h:A8 W lo o v n f):∃ a x,v=.slice a n x:=by
 obtain ⟨a,x,e,-⟩:=h.sl;exact ⟨a,x,e⟩
theorem A8.ints {W:World} {lo:Nat} {o:Option Nat} {v:Value} {n:Nat} {f:Nat->Int} (h:A8 W lo o v n f):Ints .i64 W (On (fun b=>o=some b)) v n f:=by
 obtain ⟨a,x,rfl,r⟩:=h.sl;exact r.ints x
def Sl (o o':Option Nat):Prop:=∀ q,o=some q->¬ o'=some q
theorem Jck {W:World} {lo:Nat} {o o':Option Nat} {v v':Value} {n m:Nat} {f g:Nat->Int} {t c s ad pl:Int} {bl:Bool} (h1:A8 W lo o v n f) (h2:A8 W lo o' v' m g) (h3:Sl o o') :
  Co W (fun b=>o=some b\/o'=some b) (.agg (pR t c s ad pl bl v v')) t c s ad pl bl n f m g:=by
 obtain ⟨a,x,rfl,r1⟩:=h1.sl;obtain ⟨b,y,rfl,r2⟩:=h2.sl;exact ⟨_,_,_,_,rfl,r1.mono (fun b _ h=>Or.inl h),r2.mono (fun b _ h=>Or.inr h),Ul r1 r2 (fun b h=>h3 b h)⟩
theorem Jg0 {W:World} {lo:Nat} {o o':Option Nat} {v v':Value} {n m:Nat} {f g:Nat->Int} (h1:A8 W lo o v n f) (h2:A8 W lo o' v' m g):∀ b,(o=some b\/o'=some b)->lo<=b:=fun b h=>by
 rcases h with rfl | rfl
 .exact h1.lt.1
 .exact h2.lt.1
theorem Hy (w:World) (G:Nat->Nat->Prop) (u:Value) (n:Nat) (g:Nat->Int) (K:Ints .i64 w G u n g) :
  Calls prog 46 #[u] w fun e w'=>∃ v o,e=.returned v/\A8 w' w.heap.size o v n g/\Below w.heap.size w w':=by
 obtain ⟨ua,ucap,rfl,un,hrow,hG⟩:=K
 have hq:∀ W:World,(binOp .eql 27 (.slice ua n ucap) (.slice none 0 0)).run prog W=.ok (.bool ua.isNone) W:=fun W=>Lib.run_eql_slice_nil W 27 3 ua n ucap 0 0 underlying27
 cases ua with
 | none =>
  have hq':∀ W:World,(binOp .eql 27 (.slice none n ucap) (.slice none 0 0)).run prog W=.ok (.bool true) W:=hq;clear hq
  have hn:n=0:=by
   rcases Nat.eq_zero_or_pos n with h | h
   .exact h
   .obtain ⟨b,off,e,-⟩:=hrow 0 h
    cases e
  subst hn;clear hrow
  go_enter func46,ntmps46
  go_wp2;go_ret;exact ⟨_,none,rfl,⟨rfl,rfl⟩,Below.refl _ _⟩
 | some ua =>
  have hq':∀ W:World,(binOp .eql 27 (.slice (some ua) n ucap) (.slice none 0 0)).run prog W=.ok (.bool false) W:=hq;clear hq
  have K:Ints .i64 w G (.slice (some ua) n ucap) n g:=⟨_,_,rfl,un,hrow,hG⟩
  clear hrow hG;have L0:Below w.heap.size w (w.alloc (.cells #[] 3)):=(Below.refl _ _).alloc (Nat.le_refl _) _;have k0:=Ak w #[] 3
  go_enter func46,ntmps46
  go_wp2_with (at_builtin; refine Fe _ rfl _ _ rfl w.heap.size rfl k0 w.heap.size (Nat.le_refl _) G (.slice (some ua) n ucap) n g rfl (K.keep (Aa L0 Aj) (fun _ _ _ x=>x)) ?_);rintro p x W2 R2 L2 hp;have L3:=L0.trans (L2.mono (by omega));have HR:=Ac R2;clear L0 L2 R2;go_wp2;go_ret;exact ⟨_,some p,rfl,⟨_,rfl,HR.out⟩,L3⟩
theorem Sm (w:World) (F G:Nat->Nat->Prop) (t c s ad pl:Int) (bl:Bool) (u u':Value) (n:Nat) (f:Nat->Int) (m:Nat) (g:Nat->Int) (H:Ints .i64 w F u n f) (K:Ints .i64 w G u' m g) :
  Calls prog 48 #[.agg (pR t c s ad pl bl u u')] w fun e w'=>∃ v v' o o',e=.returned (.agg (pR t c s ad pl bl v v'))/\A8 w' w.heap.size o v n f/\A8 w' w.heap.size o' v' m g/\Sl o o'/\Below w.heap.size w w':=by
 obtain ⟨ua,ux,rfl,un,hr,hF⟩:=H;obtain ⟨va,vx,rfl,vn,hr',hF'⟩:=K
 have H:Ints .i64 w F (.slice ua n ux) n f:=⟨_,_,rfl,un,hr,hF⟩
 have K:Ints .i64 w G (.slice va m vx) m g:=⟨_,_,rfl,vn,hr',hF'⟩
 clear hr hF hr' hF';have L0:Below w.heap.size w ((w.alloc (.cells (pR t c s ad pl bl (.slice ua n ux) (.slice va m vx)) 33)).alloc (.cells (pR 0 0 0 0 0 false (.slice none 0 0) (.slice none 0 0)) 33)):=((Below.refl _ _).alloc (Nat.le_refl _) _).alloc (by simp) _;have k0:((w.alloc (.cells (pR t c s ad pl bl (.slice ua n ux) (.slice va m vx)) 33)).alloc (.cells (pR 0 0 0 0 0 false (.slice none 0 0) (.slice none 0 0)) 33)).heap[w.heap.size]?=some (.cells (pR t c s ad pl bl (.slice ua n ux) (.slice va m vx)) 33 (0,0)):=Az (Ak w _ _) _
 have k1:((w.alloc (.cells (pR t c s ad pl bl (.slice ua n ux) (.slice va m vx)) 33)).alloc (.cells (pR 0 0 0 0 0 false (.slice none 0 0) (.slice none 0 0)) 33)).heap[w.heap.size+1]?=some (.cells (pR 0 0 0 0 0 false (.slice none 0 0) (.slice none 0 0)) 33 (0,0)):=by simpa using Ak (w.alloc (.cells (pR t c s ad pl bl (.slice ua n ux) (.slice va m vx)) 33)) (pR 0 0 0 0 0 false (.slice none 0 0) (.slice none 0 0)) 33
 go_enter func48,ntmps48
 go_wp2_with fail;generalize ((w.alloc (.cells (pR t c s ad pl bl (.slice ua n ux) (.slice va m vx)) 33)).alloc (.cells (pR 0 0 0 0 0 false (.slice none 0 0) (.slice none 0 0)) 33))=W0 at *;refine (Hy _ F _ n f (H.keep (Aa L0 Aj) (fun _ _ _ x=>x))).mono ?_;rintro e W1 ⟨v,o,rfl,R1,L1⟩;have z0:=Ad k1;have z1:=L1.size;have C1:=Ah L0 L1;replace k0:=Ab k0 L1 (Ad k0);replace k1:=Ab k1 L1 (Ad k1);have c0:=Af k0;have f0:=Au k0;obtain ⟨ra,rx,hv⟩:=R1.form;subst hv;clear L1;go_wp2_with fail;have WS:Wrote (fun b _=>b=w.heap.size) W1 (W1.setCell ⟨w.heap.size,6,none⟩ (.slice ra n rx)):=Wrote.setCell (R:=fun b _=>b=w.heap.size) (Wrote.refl _ W1) (fun _=>rfl) _;have j0:=Am (o:=6) k0 (.slice ra n rx);simp only [Sa,Sb,Sc] at j0
 have j1:=Ce (o:=6) (x:=.slice ra n rx) k1 (show w.heap.size+1≠w.heap.size by omega);have C2:=C1.setCell (p:=⟨w.heap.size,6,none⟩) (Nat.le_refl _) (.slice ra n rx);have S1:=R1.keep WS (fun q _ h1 _ _ h2=>by omega)
 have zz:(W1.setCell ⟨w.heap.size,6,none⟩ (.slice ra n rx)).heap.size=W1.heap.size:=by simp
 clear c0 f0 k0 k1 C1 R1 WS L0;generalize W1.setCell ⟨w.heap.size,6,none⟩ (.slice ra n rx)=W2 at *;refine (Hy _ G _ m g (K.keep (Aa C2 Aj) (fun _ _ _ x=>x))).mono ?_;rintro e W3 ⟨v',o',rfl,R3,L3⟩;have S3:=S1.below L3;have C3:=Ah C2 L3
 have HT:Hid (Sl o o'):=fun q e1 e2=>by
  subst e1 e2;have h1:=S1.lt;have h2:=R3.lt
  omega
 obtain ⟨ta,tx,hv⟩:=R3.form;subst hv;replace j0:=Ab j0 L3 (Ad j0);replace j1:=Ab j1 L3 (Ad j1);have c0:=Af j0;have c1:=Af j1;have f0:=Au j0;have f1:=Au j1
 have key:∀ W5,Wrote (fun b _=>b=w.heap.size\/b=w.heap.size+1) W3 W5->A8 W5 w.heap.size o (.slice ra n rx) n f/\A8 W5 w.heap.size o' (.slice ta m tx) m g/\Sl o o'/\Below w.heap.size w W5:=fun W5 WW =>
  ⟨(S3.keep WW (fun q _ h1 _ _ h2=>by omega)).mono (by omega),(R3.keep WW (fun q _ h1 _ _ h2=>by omega)).mono (by omega),HT.out,C3.trans (WW.below C3.size (fun b o hb h=>by omega))⟩
 have KEY:=Ac key;clear key S1 S3 R3 C2 C3 L3 j0 j1 H K;go_wp2;refine bodyPost_ret (v:=.agg (pR t c s ad pl bl (.slice ra n rx) (.slice ta m tx))) (by simp [results,results48,go_sem,c1]) rfl ?_;refine ⟨_,_,_,_,rfl,KEY.out _ ?_⟩
 iterate 9 (refine Wrote.setCell ?_ (fun _=>by omega) _)
 exact Wrote.refl _ _
section
variable {P:Program} {ops:Array Oper} {C:World->Prop} {Q:Exit->Act->World->Prop}
def Unz (ops:Array Oper) (z:Nat) (l:Array Bool):Prop:=z<ops.size->l.getD z true=false
def Do (P:Program) (ops:Array Oper) (z:Nat) (C:World->Prop) (Q:Exit->Act->World->Prop):Nat->Array Bool->Act->World->Prop
 | 0,l,a,w=>Region.ready .any ops l=[]/\Q .normal a w
 | f+1,l,a,w=>(Region.ready .any ops l=[]->Q .normal a w)/\∀ i∈Region.ready .any ops l,wpOp P ops Q i (fun a' w'=>(Unz ops z (l.setIfInBounds i true)->C w')/\Do P ops z C Q f (l.setIfInBounds i true) a' w') a w
theorem Q1 {z:Nat}:∀ (f:Nat) (l:Array Bool) (a:Act) (w:World),Do P ops z C Q f l a w->wpAny P .any ops Q f l a w
 | 0,_,_,_,h=>h
 | f+1,l,a,w,h=>⟨h.1,fun i hi=>wpOp_mono (fun a' w' h'=>Q1 f _ a' w' h'.2) (h.2 i hi)⟩
def Cs (P:Program) (ops:Array Oper) (C:World->Prop) (o:Oper) (v:Value) (a:Act):Prop:=Region.wanted o (yielded ops a.tmps)=true/\∀ w,C w->(execOp a.eval o).run P w=.ok (.value v) w
theorem Cs.of_same {o:Oper} {v:Value} {a a':Act} (hy:Cs P ops C o v a) (he:execOp a'.eval o=execOp a.eval o) (hw:Region.wanted o (yielded ops a'.tmps)=Region.wanted o (yielded ops a.tmps)):Cs P ops C o v a':=by
 unfold Cs at *;rw [he,hw];exact hy
theorem Cs.wpOp {i:Nat} {o:Oper} {v:Value} {a:Act} {w:World} (hi:ops[i]?=some o) (hw:C w) (hy:Cs P ops C o v a) {K:Act->World->Prop} (h:K (a.put o.dst v) w):wpOp P ops Q i K a w:=by
 unfold Go.wpOp;simp only [hi,hy.1,if_true,Oper.wp,hy.2 w hw,Oper.upon];exact .inl h
theorem Jaj {j:Nat} {oi oj:Oper} {v:Value} (hj:ops[j]?=some oj) (hap:oi.apart ops oj=true)
  (hsi:∀ cs b,oi.op≠.select cs b) (hsj:∀ cs b,oj.op≠.select cs b)
  (hQ:∀ c a w,Q (.panic c) (a.put oi.dst v) w->Q (.panic c) a w) {K:Act->World->Prop} {a:Act} {w:World}
  (hy:Cs P ops C oi v a) (h:wpOp P ops Q j K (a.put oi.dst v) w) :
  wpOp P ops Q j (fun a' w'=>Cs P ops C oi v a'/\K (a'.put oi.dst v) w') a w:=by
 obtain ⟨h1,h2,h3⟩:=Oper.apart_spec hap
 have keep:∀ (a:Act),Cs P ops C oi v a->∀ u,Cs P ops C oi v (a.put oj.dst u):=fun a hy u =>
  hy.of_same (execOp_put oi hsi a oj.dst u h3) (wanted_put oi a oj.dst u h3)
 have keepD:∀ d,Cs P ops C oi v { a with defers:=d :: a.defers }:=fun d=>hy.of_same rfl rfl
 unfold wpOp at *;simp only [hj] at *;rw [wanted_put oj a oi.dst v h1] at h;split
 .rename_i hw
  simp only [hw,if_true] at h
  rcases h with h | ⟨hasks,hlets⟩
  case inr=>exact .inr ⟨by unfold Oper.asks at *; rw [execOp_put oj hsj a oi.dst v h1] at hasks; exact hasks,hlets⟩
  refine .inl ?_;unfold Oper.wp at *;rw [execOp_put oj hsj a oi.dst v h1] at h;generalize (execOp a.eval oj).run P w=r at *
  cases r with
  | ok n w' =>
   cases n <;> simp only [Oper.upon] at h ⊢
   case value u=>exact ⟨keep a hy u,by rw [<- Act.put_comm a v u h2]; exact h⟩
   case skip=>exact ⟨keep a hy _,by rw [<- Act.put_comm a v undef h2]; exact h⟩
   case defer d =>
    refine ⟨keep _ (keepD d) _,?_⟩;rw [<- Act.put_comm _ v undef h2,<- Act.put_defers];exact h
   case enter f args =>
    refine Calls.mono h fun e w'' he=>?_
    cases e with
    | returned u=>exact ⟨keep a hy u,by rw [<- Act.put_comm a v u h2]; exact he⟩
    | panicked c=>exact hQ _ _ _ he
    | outgrown=>exact he
   case row row args=>exact Rows.mono h fun u w'' he=>⟨keep a hy u,by rw [<- Act.put_comm a v u h2]; exact he⟩
  | halt x w' =>
   cases x <;> simp only [Oper.upon] at h ⊢
   case panic u=>exact hQ _ _ _ h
 .rename_i hw
  simp only [hw] at h;exact ⟨keep a hy _,by rw [<- Act.put_comm a v undef h2]; exact h⟩
theorem Sx {z i:Nat} {l:Array Bool} (h:z≠i):Unz ops z (l.setIfInBounds i true) ↔ Unz ops z l:=by
 unfold Unz;rw [getD_set_ne true (Ne.symm h)]
theorem Lg {z i:Nat} {oi:Oper} {v:Value} {C0:World->Prop} (hi:ops[i]?=some oi) (hsel:∀ (j:Nat) (o:Oper) cs b,ops[j]?=some o->o.op≠.select cs b)
  (hQ:∀ c a w,Q (.panic c) (a.put oi.dst v) w->Q (.panic c) a w) (hzi:z≠i) (hsub:∀ (l:Array Bool) (w:World),l.size=ops.size->Closed ops l->l.getD i true=false->(Unz ops z l->C w)->C0 w) :
  ∀ (f:Nat) (l:Array Bool) (a:Act) (w:World),l.size=ops.size->Closed ops l->(Unz ops z l->C w) ->
   (∀ j oj,ops[j]?=some oj->j≠i->l.getD j true=false->(∀ e∈oj.after,Region.binds .any e=true->e.on≠i)->oi.apart ops oj=true) ->
   i∈Region.ready .any ops l->Cs P ops C0 oi v a ->
   Do P ops z C Q f (l.setIfInBounds i true) (a.put oi.dst v) w->Do P ops z C Q (f+1) l a w:=by
 intro f
 induction f with
 | zero =>
  intro l a w hs hcl hw _ hr hy H;refine ⟨fun h=>(by rw [h] at hr; cases hr),fun j hj=>?_⟩
  by_cases hji:j=i
  .subst hji; exact hy.wpOp hi (hsub l w hs hcl (mem_ready.1 hr).1 hw) ⟨fun h=>hw ((Sx hzi).1 h),H⟩
  .have:=ready_mono hj hji
   rw [H.1] at this;cases this
 | succ f ih =>
  intro l a w hs hcl hw hfree hr hy H;refine ⟨fun h=>(by rw [h] at hr; cases hr),fun j hj=>?_⟩
  by_cases hji:j=i
  .subst hji; exact hy.wpOp hi (hsub l w hs hcl (mem_ready.1 hr).1 hw) ⟨fun h=>hw ((Sx hzi).1 h),H⟩
  .have h1:=H.2 j (ready_mono hj hji)
   obtain ⟨hjun,oj,hoj,hall⟩:=mem_ready.1 hj;have h0:=(mem_ready.1 hr).1
   have hnot:∀ e∈oj.after,Region.binds .any e=true->e.on≠i:=fun e he hb heq=>by
    have h1:=hall e he hb;rw [heq] at h1
    rcases Nat.lt_or_ge i l.size with h' | h'
    .simp [h'] at h0 h1; rw [h0] at h1; cases h1
    .simp [Array.getElem?_eq_none h'] at h1
   have h2:=Jaj (C:=C0) hoj (hfree j oj hoj hji hjun hnot) (fun cs b=>hsel i oi cs b hi) (fun cs b=>hsel j oj cs b hoj) hQ hy h1
   have hfree':∀ k ok,ops[k]?=some ok->k≠i->(l.setIfInBounds j true).getD k true=false ->
     (∀ e∈ok.after,Region.binds .any e=true->e.on≠i)->oi.apart ops ok=true:=fun k ok hk hki hun hno=>by
    refine hfree k ok hk hki ?_ hno
    by_cases hjk:j=k
    .subst hjk; exact hjun
    .rw [getD_set_ne true hjk] at hun; exact hun
   refine wpOp_mono (fun a' w' h3=>?_) h2;obtain ⟨hy',hC,hK⟩:=h3
   have hw':Unz ops z (l.setIfInBounds j true)->C w':=fun h=>hC (by rw [Array.setIfInBounds_comm _ _ (Ne.symm hji)]; exact (Sx hzi).2 h)
   refine ⟨hw',ih (l.setIfInBounds j true) a' w' (by simpa using hs) (hcl.set hj) hw' hfree' (ready_mono hr (Ne.symm hji)) hy' ?_⟩;rw [Array.setIfInBounds_comm _ _ hji];exact hK
def Lh (Q:Exit->Act->World->Prop):Exit->Act->World->Prop:=fun e a w=>match e with | .normal=>Q .normal a w | _=>False
def Y3 (ops:Array Oper) (l:Array Bool):Bool:=(List.range ops.size).all fun k=>!l.getD k false || (match ops[k]? with | some o=>o.after.all fun e=>!Region.binds .any e || l[e.on]?==some true | none=>false)
theorem Q2 {l:Array Bool} (h:Y3 ops l=true):Closed ops l:=fun k o hk ho j hj=>by
 have h1:=List.all_eq_true.1 h k (List.mem_range.2 (Array.getElem?_eq_some_iff.1 ho).1);rw [ho,Array.getD_eq_getD_getElem?,hk] at h1;simp only [Option.getD_some,Bool.not_true,Bool.false_or] at h1;unfold A0 at hj;rw [Array.any_eq_true'] at hj;obtain ⟨e,he,hb⟩:=hj;have h2:=(Array.all_eq_true_iff_forall_mem.1 h1) e he;simp only [Bool.and_eq_true,beq_iff_eq] at hb;rw [hb.1] at h2
 simpa [hb.2] using h2
def Vh (ops:Array Oper) (z i:Nat) (l:Array Bool):Bool:=Region.noSelect ops && Region.free .any ops l i && (Region.ready .any ops l).contains i && decide (l.size=ops.size) && Y3 ops l && z != i
theorem Fh {z f:Nat} (i:Nat) {oi:Oper} {v:Value} {l:Array Bool} {a:Act} {w:World} (hi:ops[i]?=some oi) (hB:Vh ops z i l=true) (hw:C w) (hy:Cs P ops (fun _=>True) oi v a)
  (h:Do P ops z C (Lh Q) f (l.setIfInBounds i true) (a.put oi.dst v) w):Do P ops z C (Lh Q) (f+1) l a w:=by
 unfold Vh at hB;simp only [Bool.and_eq_true,decide_eq_true_eq,bne_iff_ne] at hB;obtain ⟨⟨⟨⟨⟨hs,hf⟩,hr⟩,hl⟩,hcl⟩,hz⟩:=hB;exact Lg hi (Region.noSelect_spec hs) (fun _ _ _ hq=>False.elim hq) hz (fun _ _ _ _ _ _=>trivial) f l a w hl (Q2 hcl) (fun _=>hw) (Region.free_spec hi hf) (by simpa using hr) hy h
theorem Dr {z f:Nat} (i:Nat) {oi:Oper} {v:Value} {l:Array Bool} {a:Act} {w:World} (hi:ops[i]?=some oi) (hB:(Vh ops z i l && (decide (ops.size<=z) || By ops 6 z i))=true) (hw:C w) (hy:Cs P ops C oi v a)
  (h:Do P ops z C (Lh Q) f (l.setIfInBounds i true) (a.put oi.dst v) w):Do P ops z C (Lh Q) (f+1) l a w:=by
 unfold Vh at hB;simp only [Bool.and_eq_true,decide_eq_true_eq,bne_iff_ne,Bool.or_eq_true] at hB;obtain ⟨⟨⟨⟨⟨⟨hs,hf⟩,hr⟩,hl⟩,hcl⟩,hz⟩,hq⟩:=hB;refine Lg hi (Region.noSelect_spec hs) (fun _ _ _ hq=>False.elim hq) hz (fun l w hs' hcl' h0 hC=>hC fun hlt=>?_) f l a w hl (Q2 hcl) (fun _=>hw) (Region.free_spec hi hf) (by simpa using hr) hy h
 rcases hq':l[z]? with _ | b
 .rw [Array.getElem?_eq_none_iff] at hq'; omega
 .cases b with
  | false=>rw [Array.getD_eq_getD_getElem?,hq']; rfl
  | true =>
   have h1:=Fg hcl' 6 z i hq' (hq.resolve_left (by omega));rw [Array.getD_eq_getD_getElem?,h1] at h0;cases h0
theorem En {z f:Nat} (i:Nat) {oi:Oper} {l:Array Bool} {a:Act} {w:World} (hi:ops[i]?=some oi) (hB:(Region.ready .any ops l==[i] && oi.guard.isNone)=true)
  (h:oi.wp P a w (fun a' w'=>(Unz ops z (l.setIfInBounds i true)->C w')/\Do P ops z C Q f (l.setIfInBounds i true) a' w') Q):Do P ops z C Q (f+1) l a w:=by
 simp only [Bool.and_eq_true,beq_iff_eq] at hB;refine ⟨fun h0=>(by rw [hB.1] at h0; cases h0),fun j hj=>?_⟩;rw [hB.1] at hj;obtain rfl:=List.mem_singleton.1 hj;exact Ii hi (by simpa using hB.2) h
theorem Io {z:Nat} {l:Array Bool} {a:Act} {w:World} (hr:(Region.ready .any ops l).isEmpty=true) (h:Q .normal a w):Do P ops z C Q 0 l a w:=⟨by simpa using hr,h⟩
theorem Gy {id:Nat} (z:Nat) (C:World->Prop) {a:Act} {w:World} {t:List Oper} (hm:P.follows .mixedOrders=true) (h:Do P t.toArray z C (Lh Q) t.toArray.size (Array.replicate t.toArray.size false) a (redrawn w (w.drawn+1))):(Code.region id t.toArray true).wp P Q a w :=
 wp_mono (Q:=Lh Q) (wp_region_any hm (Q1 _ _ _ _ h)) (fun e a w hq=>by cases e <;> first | exact hq | exact False.elim hq)
theorem Li {o:Oper} {a:Act} (x:Operand) (ho:o.op=.move x) (hg:o.guard=none):Cs P ops C o (a.eval x) a:=⟨by simp [Region.wanted,hg],fun w _=>by unfold execOp; simp [ho]⟩
theorem Iw {o:Oper} {a:Act} (x:Operand) (k:Nat) (ho:o.op=.extract x k) (hg:o.guard=none) {vs:Array Value} {v:Value} (hx:a.eval x=.tuple vs) (hv:vs[k]?=some v):Cs P ops C o v a:=⟨by simp [Region.wanted,hg],fun w _=>by unfold execOp; simp [ho,hx,Instr.extract,hv,Result.andThen]⟩
theorem Vi {o:Oper} {a:Act} (ty:TypeId) (x:Operand) (ho:o.op=.load ty x) (hgu:o.guard=none) (g:Nat) (hx:a.eval x=(pt g 0)) (t:TypeId) (cs:Array Value) (fr:Nat × Nat) (d:TypeDesc) (hg:∀ w,C w->w.heap[g]?=some (.cells cs t fr))
  (hu:P.underlying ty=some d) (hd:(match d with | .struct _ | .array _ _=>true | _=>false)=true) (hi:(P.info? ty).map (·.size)=some cs.size):Cs P ops C o (.agg cs) a:=⟨by simp [Region.wanted,hgu],fun w hw=>by
 unfold execOp
 simp only [ho,hx,Instr.loadAt,Instr.sureAddr,Sem.run_bind,Sem.run_pure,Result.andThen_ok,run_loadVar_row w g t ty cs fr d (hg w hw) hu hd hi]⟩
end
open Go.Proofs.Tryz
open Go.ChangeShapes Go.WideShapes Go.ChangeAt
def Nr (j:Nat):Int:=[-1,256,65535,65536,9223372036854775807,-9223372036854775808,511].getD j 0
theorem Zn (j:Nat):-9223372036854775808<=Nr j/\Nr j<=9223372036854775807:=by
 unfold Nr
 rcases j with _ | _ | _ | _ | _ | _ | _ | j <;> simp
theorem Mc (w:World) (B c:Nat) (a:Option Addr) (len cap:Nat) (H:Ep w B c a len cap) (hcw:c<w.heap.size) :
  Calls prog 82 #[(pt c 0)] w fun e w'=>∃ x:Int,e=.returned (.i x)/\-9223372036854775808<=x/\x<=9223372036854775807/\Ep w' B c a len cap/\Step c w w':=by
 go_enter func82,ntmps82
 go_wp2_with fail;refine (Jbv _ B c a len cap H 9).mono ?_;rintro e w1 ⟨x,rfl,H1,O1⟩
 have hs:c<w1.heap.size:=by rw [O1.size]; exact hcw
 cases x
 .go_wp2_with fail
  refine (Dk _ B c a len cap H1 256).mono ?_;rintro e w2 ⟨y,rfl,y0,y1,H2,O2⟩;go_wp2;go_ret;exact ⟨y,rfl,by omega,by omega,H2,O1.step.trans O2.step⟩
 .go_wp2_with fail
  refine (Ho _ B c a len cap (H1.alloc _ hs) w1.heap.size 7 (by omega) (by omega) (by omega) Nr ?_).mono ?_
  .intro j hj
   rw [World.cell?_alloc_new]
   rcases j with _ | _ | _ | _ | _ | _ | _ | j
   .rfl
   .rfl
   .rfl
   .rfl
   .rfl
   .rfl
   .rfl
   .omega
  .rintro e w2 ⟨j,rfl,hj,H2,O2⟩
   have hp:=Zn j;go_wp2;go_ret;exact ⟨Nr j,rfl,hp.1,hp.2,H2,(O1.step.alloc _).trans O2.step⟩
theorem Yr (w:World) (a:Option Addr) (len cap:Nat) :
  Calls prog 4 #[.slice a len cap] w fun e w'=>e=.returned (.bool (decide (1048576<(len:Int))))/\w'=w:=by
 go_enter func4,ntmps4
 go_wp2;go_ret;exact ⟨rfl,rfl⟩
def Ek (f:Nat->Nat) (n x:Nat):Nat->Nat:=fun i=>if i=n then x else f i
def Ix (f:Nat->Nat->Int) (n:Nat) (x:Nat->Int):Nat->Nat->Int:=fun i=>if i=n then x else f i
def Ds (d:Aq):Aq:={ d with
 t:=J5 d.t,bl:=N9 d.t d.bl,nd:=tkM d.t d.nd,dt:=Nh d.t d.tb d.s d.pl d.nd d.dt
 T:=d.T+1,K:=Qb d.P d.K,B:=Ni d.K d.B d.L,L:=Qc d.T d.L,R:=Ut d.T d.L d.Q d.R
 nmi:=d.nmi || Sk d.t d.c
 mf:=if d.t%64=48 then d.mf+1 else d.mf
 lf:=if d.t%64=48 then Ek d.lf d.mf d.nd else d.lf
 fr:=if d.t%64=48 then Ix d.fr d.mf d.dt else d.fr
 ns:=if Eb d.T=true then d.ns+1 else d.ns
 sm:=if Eb d.T=true then snoc d.sm d.ns (tvA d.T d.K d.B d.L) else d.sm }
def tickN:Nat->Aq->Aq
 | 0,d=>d
 | k+1,d=>tickN k (Ds d)
theorem Ke (k:Nat) (d:Aq):tickN (k+1) d=Ds (tickN k d):=by
 induction k generalizing d with
 | zero=>rfl
 | succ k ih=>show tickN (k+1) (Ds d)=_; rw [ih]; rfl
def withSt (d:Aq) (s:Int):Aq:={ d with st:=s }
theorem Jda (k:Nat) (d:Aq) (s:Int):tickN k (withSt d s)=withSt (tickN k d) s:=by
 induction k generalizing d with
 | zero=>rfl
 | succ k ih=>exact ih (Ds d)
structure Ie (d:Aq):Prop where
 ppu:J0 d.t d.c d.s d.ad d.pl d.nt d.tb d.nd d.dt
 apu:Hz d.T d.P d.K d.B d.L
 same:d.t=d.T
 lf:∀ i,i<d.mf->d.lf i=48
 mf:(d.mf:Int)=frN d.t
 ns:(d.ns:Int)=d.t/16
theorem Ie.mfs {d:Aq} (h:Ie d):d.mf<1048576:=by
 have h0:=h.ppu.t0;have h1:=h.ppu.t1;have:=h.mf;unfold frN at this
 omega
theorem Ie.nss {d:Aq} (h:Ie d):d.ns<1048576:=by
 have h0:=h.ppu.t0;have h1:=h.ppu.t1;have:=h.ns
 omega
theorem Ie.nd48 {d:Aq} (h:Ie d) (h48:d.t%64=48):d.nd=48:=by
 have h1:=h.ppu.dots;unfold Ea at h1;rw [if_neg (by omega)] at h1
 omega
theorem Yc {T P C B L:Int} (h:Hz T P C B L) (hT:T≠20000):Hz (T+1) P (Qb P C) (Ni C B L) (Qc T L):=by
 obtain ⟨t0,t1,p0,p1,c0,c1,b0,b1,l0,l1⟩:=h;unfold Qb Ni Qc
 refine ⟨?_,?_,p0,p1,?_,?_,?_,?_,?_,?_⟩ <;> (try split) <;> omega
theorem Ie.tick {d:Aq} (h:Ie d) (ht:d.t≠20000):Ie (Ds d):=by
 have h0:=h.ppu.t0;have h1:=h.ppu.t1;have hs:=h.same;have e1:J5 d.t=d.t+1:=if_neg ht;have hf:=h.mf;have hn:=h.ns;unfold frN at hf;refine ⟨Xc h.ppu,Yc h.apu (by omega),?_,?_,?_,?_⟩
 .show J5 d.t=d.T+1
  rw [e1,hs]
 .intro i hi
  show (if d.t%64=48 then Ek d.lf d.mf d.nd else d.lf) i=48
  replace hi:i<(if d.t%64=48 then d.mf+1 else d.mf):=hi
  by_cases h48:d.t%64=48
  .rw [if_pos h48] at hi ⊢
   unfold Ek
   by_cases e:i=d.mf
   .rw [if_pos e]; exact h.nd48 h48
   .rw [if_neg e]; exact h.lf i (by omega)
  .rw [if_neg h48] at hi ⊢
   exact h.lf i hi
 .show (((if d.t%64=48 then d.mf+1 else d.mf):Nat):Int)=frN (J5 d.t)
  rw [e1];unfold frN
  split <;> omega
 .show (((if Eb d.T=true then d.ns+1 else d.ns):Nat):Int)=J5 d.t/16
  rw [e1];unfold Eb;simp only [decide_eq_true_eq]
  split <;> omega
structure OkL (d:Aq):Prop where
 ok:okLock d=true
 t:Ie d
 img:Fp d.m d.ln d.f=true
 nr:d.nr=512
 bank:0<=d.bank/\d.bank<=(d.m:Int)-1
 row:∀ j,j<512->0<=d.g j/\d.g j<=255
 pads:Du d.np d.p=true
 cpu:(0<=d.A/\d.A<=255)/\(0<=d.X/\d.X<=255)/\(0<=d.S/\d.S<=255)/\0<=d.Pc/\d.Pc<=65535
 sh:0<=d.sh/\d.sh<=255
 st:0<=d.st/\d.st<=d.t
theorem It {d:Aq} (h:okLock d=true):OkL d:=by
 have h':=h;unfold okLock I9 at h';simp only [Bool.and_eq_true,beq_iff_eq,Dj] at h';obtain ⟨p,m,⟨⟨⟨cA,cX⟩,cS⟩,cP⟩,u,a,sh,e,st,fr,ns⟩:=h';obtain ⟨mi,mn,mb,mr⟩:=Hs m;have hf:=of_decide_eq_true fr;exact ⟨h,⟨Ff u,Jcr a,e,hf.1,hf.2,ns⟩,mi,mn,mb,mr,p,⟨cA,cX,cS,cP⟩,sh,st⟩
theorem Jge {d:Aq} (h:Ie d) (img:Fp d.m d.ln d.f=true) (nr:d.nr=512) (bank:0<=d.bank/\d.bank<=(d.m:Int)-1) (row:∀ j,j<512->0<=d.g j/\d.g j<=255) (pads:Du d.np d.p=true) (cpu:(0<=d.A/\d.A<=255)/\(0<=d.X/\d.X<=255)/\(0<=d.S/\d.S<=255)/\0<=d.Pc/\d.Pc<=65535) (sh:0<=d.sh/\d.sh<=255) (st:0<=d.st/\d.st<=d.t):OkL d:=by
 refine It ?_;unfold okLock I9;rw [pads,Me img nr (Bh bank) row,Bh cpu.1,Bh cpu.2.1,Bh cpu.2.2.1,Bh cpu.2.2.2,Oc h.ppu,Jcs h.apu,Bh sh,Bh st,beq_iff_eq.2 h.same,beq_iff_eq.2 h.ns];unfold Mr;rw [decide_eq_true (And.intro h.lf h.mf)]
 rfl
def Dy (d:Aq):A7:=⟨d.A,d.X,d.S,d.Pc,d.Z,d.N,d.C,d.I⟩
def putCpu (d:Aq) (g:Nat->Int) (c:A7):Aq:={ d with g:=g,A:=c.A,X:=c.X,S:=c.S,Pc:=c.Pc,Z:=c.Z,N:=c.N,C:=c.C,I:=c.I }
def entC (d:Aq) (vec:Int):A7:=⟨d.A,d.X,dec8 (dec8 (dec8 d.S)),E7 d.m d.ln d.f (enterG d.g d.S d.Pc d.Z d.N d.C d.I) d.bank vec,d.Z,d.N,d.C,true⟩
def Mt (d:Aq) (vec:Int):Aq:=putCpu d (enterG d.g d.S d.Pc d.Z d.N d.C d.I) (entC d vec)
def opO (d:Aq):Int:=peekV d.m d.ln d.f d.nr d.g d.bank d.Pc
def opA (d:Aq):Int:=Jf (peekV d.m d.ln d.f d.nr d.g d.bank) d.Pc
def Cq (d:Aq) (op arg:Int):Aq:=if Ch op=1 then Cl d (Gv op arg d.X) else if Ch op=2 then Br d (Gv op arg d.X) (N1 op d.A) else d
def Hh (d:Aq) (op arg:Int):Int:=if Ch op=1 then Dx d (Gv op arg d.X) else 0
def Jdb (d:Aq) (op arg x:Int):Aq:=putCpu d (Ev d.g (Dy d) op) (Ee d.g (Dy d) op arg x)
def opD (d:Aq) (op arg:Int):Aq:=Jdb (Cq d op arg) op arg (Hh d op arg)
def cycT (x:Int):Int:=if 0<=x/\x<=29 then Hc.getD x.toNat 2 else 2
def noNmi (d:Aq):Aq:={ d with nmi:=false }
def actD (d:Aq):Aq:=if d.nmi=true then Mt (noNmi d) 65530 else if (d.R && !d.I)=true then Mt d 65534 else opD d (opO d) (opA d)
def actN (d:Aq):Int:=if d.nmi=true then 7 else if (d.R && !d.I)=true then 7 else cycT (opO d)
def D7 (d:Aq):Bool:=decide ((actD d).t+actN d<=20000)
def stepD (d:Aq):Aq:=withSt (tickN (actN d).toNat (actD d)) ((tickN (actN d).toNat (actD d)).st+1)
theorem Je1 (x:Int):0<=cycT x/\cycT x<=6:=by
 unfold cycT;split
 .rename_i h
  have key:∀ k:Fin 30,0<=Hc.getD k.1 2/\Hc.getD k.1 2<=6:=by decide
  exact key ⟨x.toNat,by omega⟩
 .omega
theorem G8 (d:Aq):0<=actN d/\actN d<=7:=by
 unfold actN;have:=Je1 (opO d)
 repeat' split
 all_goals omega
theorem Ie.put {d:Aq} (h:Ie d) (g:Nat->Int) (c:A7):Ie (putCpu d g c):=⟨h.ppu,h.apu,h.same,h.lf,h.mf,h.ns⟩
theorem Ie.read {d:Aq} (h:Ie d) (a:Int):Ie (Cl d a):=by
 unfold Cl;split
 .have ha:0<=Ps true (rgP (a%65536)) d.ad/\Ps true (rgP (a%65536)) d.ad<=15:=by unfold Ps; split; omega; exact ⟨h.ppu.a0,h.ppu.a1⟩
  exact ⟨⟨h.ppu.t0,h.ppu.t1,h.ppu.c0,h.ppu.c1,h.ppu.s0,h.ppu.s1,ha.1,ha.2,h.ppu.p0,h.ppu.p1,h.ppu.n16,h.ppu.dots,h.ppu.tab,h.ppu.dot⟩,h.apu,h.same,h.lf,h.mf,h.ns⟩
 .split
  .exact ⟨h.ppu,h.apu,h.same,h.lf,h.mf,h.ns⟩
  .split
   .exact ⟨h.ppu,h.apu,h.same,h.lf,h.mf,h.ns⟩
   .exact h
theorem Vv {T P C B L:Int} (h:Hz T P C B L) (reg v:Int):Hz T (J6 true P reg v) C B (J7 true L reg v):=by
 obtain ⟨t0,t1,p0,p1,c0,c1,b0,b1,l0,l1⟩:=h;unfold J6 J7
 refine ⟨t0,t1,?_,?_,c0,c1,b0,b1,?_,?_⟩ <;> split <;> omega
theorem Ie.write {d:Aq} (h:Ie d) (a y:Int):Ie (Br d a y):=by
 unfold Br;split
 .exact ⟨Uq h.ppu _ _,h.apu,h.same,h.lf,h.mf,h.ns⟩
 .split
  .exact ⟨h.ppu,Vv h.apu _ _,h.same,h.lf,h.mf,h.ns⟩
  .split
   .exact ⟨h.ppu,h.apu,h.same,h.lf,h.mf,h.ns⟩
   .exact ⟨h.ppu,h.apu,h.same,h.lf,h.mf,h.ns⟩
theorem Ie.reach {d:Aq} (h:Ie d) (op arg:Int):Ie (Cq d op arg):=by
 unfold Cq;split
 .exact h.read _
 .split
  .exact h.write _ _
  .exact h
theorem Ie.act {d:Aq} (h:Ie d):Ie (actD d):=by
 unfold actD;split
 .exact Ie.put (d:=noNmi d) ⟨h.ppu,h.apu,h.same,h.lf,h.mf,h.ns⟩ _ _
 .split
  .exact h.put _ _
  .exact (h.reach _ _).put _ _
theorem Yd (d:Aq) (a:Int):(Cl d a).t=d.t/\(Cl d a).st=d.st/\(Cl d a).nr=d.nr/\(Cl d a).g=d.g/\(Cl d a).bank=d.bank/\Dy (Cl d a)=Dy d/\(Cl d a).nq<=d.nq+1:=by
 unfold Cl;split
 .exact ⟨rfl,rfl,rfl,rfl,rfl,rfl,Nat.le_refl _⟩
 .split
  .exact ⟨rfl,rfl,rfl,rfl,rfl,rfl,Nat.le_refl _⟩
  .split
   .exact ⟨rfl,rfl,rfl,rfl,rfl,rfl,Nat.le_refl _⟩
   .exact ⟨rfl,rfl,rfl,rfl,rfl,rfl,Nat.le_succ _⟩
theorem Vw {g:Nat->Int} (h:∀ j,j<512->0<=g j/\g j<=255) (ok:Bool) (a y:Int):∀ j,j<512->0<=Fs ok g a y j/\Fs ok g a y j<=255:=by
 intro j hj;have h1:=h j hj;unfold Fs;split
 .unfold Fq
  split <;> omega
 .exact h1
theorem Vx (d:Aq) (a y:Int) (hr:∀ j,j<512->0<=d.g j/\d.g j<=255):(Br d a y).t=d.t/\(Br d a y).st=d.st/\(Br d a y).nr=d.nr/\(∀ j,j<512->0<=(Br d a y).g j/\(Br d a y).g j<=255)/\Dy (Br d a y)=Dy d/\(Br d a y).nq=d.nq:=by
 unfold Br;split
 .exact ⟨rfl,rfl,rfl,hr,rfl,rfl⟩
 .split
  .exact ⟨rfl,rfl,rfl,hr,rfl,rfl⟩
  .split
   .exact ⟨rfl,rfl,rfl,hr,rfl,rfl⟩
   .exact ⟨rfl,rfl,rfl,Vw hr _ _ _,rfl,rfl⟩
theorem Jk (d:Aq) (op arg:Int) (hr:∀ j,j<512->0<=d.g j/\d.g j<=255):(Cq d op arg).t=d.t/\(Cq d op arg).st=d.st/\(Cq d op arg).nr=d.nr/\(∀ j,j<512->0<=(Cq d op arg).g j/\(Cq d op arg).g j<=255)/\Dy (Cq d op arg)=Dy d/\(Cq d op arg).nq<=d.nq+1:=by
 unfold Cq;split
 .obtain ⟨h1,h2,h3,h4,h5,h6,h7⟩:=Yd d (Gv op arg d.X)
  exact ⟨h1,h2,h3,by rw [h4]; exact hr,h6,h7⟩
 .split
  .obtain ⟨h1,h2,h3,h4,h5,h6⟩:=Vx d (Gv op arg d.X) (N1 op d.A) hr
   exact ⟨h1,h2,h3,h4,h5,by omega⟩
  .exact ⟨rfl,rfl,rfl,hr,rfl,Nat.le_succ _⟩
theorem Ge (d:Aq) (hr:∀ j,j<512->0<=d.g j/\d.g j<=255):(actD d).t=d.t/\(actD d).st=d.st/\(actD d).nq<=d.nq+1:=by
 unfold actD;split
 .exact ⟨rfl,rfl,Nat.le_succ _⟩
 .split
  .exact ⟨rfl,rfl,Nat.le_succ _⟩
  .obtain ⟨h1,h2,h3,h4,h5,h6⟩:=Jk d (opO d) (opA d) hr
   exact ⟨h1,h2,h6⟩
theorem Ls:∀ (k:Nat) (d:Aq),d.t+k<=20000->(tickN k d).t=d.t+k
 | 0,d,_=>by simp [tickN]
 | k+1,d,h=>by
  have e:(Ds d).t=d.t+1:=if_neg (by omega)
  show (tickN k (Ds d)).t=_
  rw [Ls k (Ds d) (by rw [e]; omega),e]
  omega
theorem Ie.ticks:∀ (k:Nat) {d:Aq},Ie d->d.t+k<=20000->Ie (tickN k d)
 | 0,d,h,_=>h
 | k+1,d,h,hk=>by
  have e:(Ds d).t=d.t+1:=if_neg (by omega);exact Ie.ticks k (h.tick (by omega)) (by rw [e]; omega)
end Go.Proofs.YtijljlnooibbmaaGreatDoor
