import Derived.Test.YtgcmimcalmjaaaaGreatDoorKD
import Derived.Test.YtgcmimcalmjaaaaGreatDoorI8d
import Derived.Test.YtgcmimcalmjaaaaGreatDoorAIa
namespace Go.Proofs.YtgcmimcalmjaaaaGreatDoor
set_option linter.unusedVariables false
set_option linter.unusedSimpArgs false
open Go.ChangeShapes Go.WideShapes Go.ChangeAt Go.RowKit
theorem A9 {P:Program} {fn:Func} {p q:Tmp} {ty:TypeId} (h:fn.results=#[.cell p ty,.tmp q]) (tmps:Array Value) (w:World) (g:Nat) (t:TypeId) (cs:Array Value) (fr:Nat × Nat) (dd:TypeDesc)
  (hp:tmps.getD p undef=(pt g 0)) (hg:w.heap[g]?=some (.cells cs t fr)) (hu:P.underlying ty=some dd) (hd:(match dd with | .struct _ | .array _ _=>true | _=>false)=true) (hi:(P.info? ty).map (·.size)=some cs.size) :
  (results fn tmps).run P w=.ok (.tuple #[.agg cs,tmps.getD q undef]) w:=by
 have hp':tmps[p]?.getD undef=(pt g 0):=by simpa using hp
 simp [results,h,hp',asAddr,run_loadVar_row w g t ty cs fr dd hg hu hd hi]
def Do (d:Aq) (a:Int):Int :=
 if rgN (a%65536)=2 then Oo true (rgP (a%65536)) d.bl d.ad d.tb else if rgN (a%65536)=3 then Tj true d.L d.R (rgP (a%65536)) else if rgN (a%65536)=4 then Ig d.hd d.sh d.np d.p d.t else Em d.m d.f d.g d.bank (a%65536)
def Cn (d:Aq) (a:Int):Aq :=
 if rgN (a%65536)=2 then { d with ad:=Mb true (rgP (a%65536)) d.ad,bl:=Om true (rgP (a%65536)) d.bl,nq:=d.nq+1,rd:=snoc d.rd d.nq (Do d a) } else if rgN (a%65536)=3 then { d with R:=Wr true d.R (rgP (a%65536)),nq:=d.nq+1,rd:=snoc d.rd d.nq (Do d a) } else if rgN (a%65536)=4 then { d with sh:=Ea d.hd d.sh d.np d.p d.t,nq:=d.nq+1,rd:=snoc d.rd d.nq (Do d a) } else d
theorem Eg {d:Aq} (h:Cd d=true):Dr d.np d.p=true∧B6 d.m d.ln d.f d.nr d.g d.bank=true∧A1 d.t d.c d.s d.ad d.pl d.nt d.tb d.nd d.dt=true∧Ci d.T d.P d.K d.B d.L=true∧Cs d.sh 0 255=true:=by
 unfold Cd at h;simp only [Bool.and_eq_true] at h;exact ⟨h.1,h.2.1,h.2.2.2.1,h.2.2.2.2.1,h.2.2.2.2.2.1⟩
open Go.Sort
theorem Wt (w:World) (z:Nat) (T P C B L:Int) (S Q:Bool) (hb:w.heap[z]?=some (.cells (aR T P C B L S Q) 45 (0,0))) (b:Bool) (h:decide (0<L)=b):Calls Tryz.prog 185 #[(pt z 0)] w fun e w'=>e=.returned (.bool b)∧w'=w:=by
 have hc:=Ag hb;have HH:=Ad h;clear h hb
 go_enter Tryz.func185,Tryz.ntmps185
 go_wp2;go_ret;exact ⟨Ap HH.out,rfl⟩
def Re (L:Int):Int:=if 0<L then L-1 else L
def Rf (L:Int) (S Q:Bool):Bool:=if 0<L then Q || (decide (L-1=0) && S) else Q
theorem Tk (T C L:Int) (B:Int) (S Q:Bool):Fu T L=(if T%32=0 then Re L else L)∧Gq T L S Q=(if T%32=0 then Rf L S Q else Q):=by
 unfold Fu Gq Re Rf
 by_cases h:T%32=0 <;> by_cases hL:0<L <;> simp [h,hL]
section
variable {W:World} {lo N:Nat} {D:Nat→Nat→Prop} {u0 u1 u2 u3 u4 ov:Value} {gb cp:Nat→Nat} {g6 c6 g7 c7:Nat} {d:Aq}
theorem A3.mem (H:A3 W lo N D u0 u1 u2 u3 u4 ov gb cp g6 c6 g7 c7 d) {p q:Nat} {w2:Value} {bank:Int} {nr:Nat} {g:Nat→Int} (hM:Bw W (fun b=>p≤b∧b<q) (.agg #[w2,.i bank]) nr g bank) (hp:N≤p) (hl:lo≤N) (hpq:p≤q) (hq:q≤W.heap.size) :
  A3 W lo q (fun i b=>(i=2∧p≤b∧b<q)∨(i≠2∧D i b)) u0 u1 w2 u3 u4 ov gb cp g6 c6 g7 c7 { d with nr:=nr,g:=g,bank:=bank }:=by
 have nN:=H.nN;refine ⟨H.h0.mono (fun b _ h=>Or.inr ⟨by decide,h⟩),H.h1.mono (fun b _ h=>Or.inr ⟨by decide,h⟩),hM.mono (fun b _ h=>Or.inl ⟨rfl,h⟩),H.h3.mono (fun b _ h=>Or.inr ⟨by decide,h⟩),H.h4,fun b h=>Or.inr ⟨by decide,H.h4D b h⟩,H.h6,?_,H.h7,?_,?_,?_,by have:=H.n6; omega,by have:=H.n7; omega,hq,H.hps⟩
 ·rcases H.h6D with h | h
  ·exact Or.inl (Or.inr ⟨by decide,h⟩)
  ·exact Or.inr h
 ·rcases H.h7D with h | h
  ·exact Or.inl (Or.inr ⟨by decide,h⟩)
  ·exact Or.inr h
 ·intro i j b h1 h2
  rcases h1 with ⟨rfl,_,_⟩ | ⟨n1,h1⟩ <;> rcases h2 with ⟨rfl,_,_⟩ | ⟨n2,h2⟩
  ·rfl
  ·have:=H.bd _ _ h2; omega
  ·have:=H.bd _ _ h1; omega
  ·exact H.dis _ _ _ h1 h2
 ·intro i b h
  rcases h with ⟨rfl,_,_⟩ | ⟨_,h⟩
  ·omega
  ·have:=H.bd _ _ h; omega
end
def Bu (d:Aq) (a y:Int):Aq :=
 if rgN (a%65536)=2 then { d with c:=Jg true (rgP (a%65536)) y d.c,s:=Jh true (rgP (a%65536)) y d.s,ad:=Ji true (rgP (a%65536)) y d.ad,pl:=Jj true (rgP (a%65536)) y d.pl,tb:=Kh true (rgP (a%65536)) y d.ad d.tb } else if rgN (a%65536)=3 then { d with P:=I8 true d.P (rgP (a%65536)) y,L:=I9 true d.L (rgP (a%65536)) y,Q:=Ju true d.Q (rgP (a%65536)) y,R:=Jv true d.R (rgP (a%65536)) y } else if rgN (a%65536)=4 then { d with hd:=Gr y,sh:=Eo d.hd d.sh d.np d.p d.t y } else { d with g:=E3 true d.g (a%65536) y,bank:=Gl true d.m d.bank (a%65536) y }
abbrev Jbm:=List (Nat × Array Value × TypeId)
structure Fv (w:World) (D:Nat→Prop) (W:World) (l:Jbm):Prop where
 below:Below w.heap.size w W
 all:∀ p,p∈l→W.heap[p.1]?=some (.cells p.2.1 p.2.2 (0,0))∧w.heap.size≤p.1∧¬ D p.1
 nd:(l.map (·.1)).Nodup
 lt:∀ b,D b→b<W.heap.size
theorem Fv.nil (w:World):Fv w (fun _=>False) w []:=⟨Below.refl _ _,fun _ h=>(by cases h),List.nodup_nil,fun _ h=>h.elim⟩
section
variable {w W W':World} {D:Nat→Prop} {l:Jbm} {i b:Nat} {cs:Array Value} {t:TypeId}
theorem Fv.ret (h:Fv w D W l) (i:Nat) (e:l[i]?=some (b,cs,t)):W.heap[b]?=some (.cells cs t (0,0)):=(h.all _ (List.mem_of_getElem? e)).1
theorem Fv.call (h:Fv w D W l) (L:Below W.heap.size W W'):Fv w D W' l :=
 ⟨h.below.trans (L.mono h.below.size),fun p hp=>⟨Aa (h.all p hp).1 L (Ac (h.all p hp).1),(h.all p hp).2⟩,h.nd,fun b hb=>Nat.lt_of_lt_of_le (h.lt b hb) L.size⟩
theorem Fv.re (h:Fv w D W l) (L:Below W.heap.size W W'):Fv w (fun b=>W.heap.size≤b∧b<W'.heap.size) W' l :=
 ⟨(h.call L).below,fun p hp=>⟨((h.call L).all p hp).1,(h.all p hp).2.1,fun hd=>absurd (Ac (h.all p hp).1) (by omega)⟩,h.nd,fun _ hb=>hb.2⟩
theorem Fv.alloc (h:Fv w D W l) (cs:Array Value) (t:TypeId) (n:Nat) (e:W.heap.size=n):Fv w D (W.alloc (.cells cs t)) (l++[(n,cs,t)]):=by
 subst e;have L:Below W.heap.size W (W.alloc (.cells cs t)):=(Below.refl _ _).alloc (Nat.le_refl _) _;refine ⟨(h.call L).below,fun p hp=>?_,?_,(h.call L).lt⟩
 ·rcases List.mem_append.1 hp with hp | hp
  ·exact (h.call L).all p hp
  ·obtain rfl:=List.mem_singleton.1 hp
   exact ⟨Al W cs t,h.below.size,fun hd=>absurd (h.lt _ hd) (Nat.lt_irrefl _)⟩
 ·rw [List.map_append,List.nodup_append]
  refine ⟨h.nd,by simp,fun a ha c hc e=>?_⟩;obtain ⟨p,hp,rfl⟩:=List.mem_map.1 ha;have:=Ac (h.all p hp).1
  simp at hc
  omega
theorem Fv.no (h:Fv w D W l) (i:Nat) (e:l[i]?=some (b,cs,t)):¬ D b:=(h.all _ (List.mem_of_getElem? e)).2.2
theorem Fv.far (h:Fv w D W l) (i j:Nat) {b':Nat} {cs':Array Value} {t':TypeId} (e:l[i]?=some (b,cs,t)) (e':l[j]?=some (b',cs',t')) (hij:i≠j):b≠b':=fun x=>by
 have hi:=(List.getElem?_eq_some_iff.1 e).1;have hj:=(List.getElem?_eq_some_iff.1 e').1;refine hij ((List.getElem_inj (xs:=l.map (·.1)) (h₀:=by simpa using hi) (h₁:=by simpa using hj) h.nd).1 ?_);simp only [List.getElem_map];rw [(List.getElem?_eq_some_iff.1 e).2,(List.getElem?_eq_some_iff.1 e').2];exact x
theorem Fv.upd (h:Fv w D W l) (i:Nat) (e:l[i]?=some (b,cs,t)) {cs':Array Value} (TT:Wrote (fun b' _=>b'=b) W W') (k:W'.heap[b]?=some (.cells cs' t (0,0))):Fv w D W' (l.set i (b,cs',t)):=by
 have hb:=h.all _ (List.mem_of_getElem? e);refine ⟨h.below.trans (TT.below h.below.size (fun b' o h1 h2=>by have:=hb.2.1; omega)),fun p hp=>?_,?_,fun b hd=>Nat.lt_of_lt_of_le (h.lt b hd) TT.size⟩
 ·obtain ⟨j,hj⟩:=List.mem_iff_getElem?.1 hp
  by_cases e':i=j
  ·subst e'
   have hlt:=(List.getElem?_eq_some_iff.1 e).1
   simp [List.getElem?_set,hlt] at hj
   subst hj;exact ⟨k,hb.2⟩
  ·rw [List.getElem?_set_ne e'] at hj
   have hp':=h.all p (List.mem_of_getElem? hj);refine ⟨Ah hp'.1 TT (fun o h1=>?_),hp'.2⟩;exact h.far j i (t:=p.2.2) (cs:=p.2.1) hj e (Ne.symm e') h1
 ·rw [List.map_set]
  have:(l.map (·.1)).set i b=l.map (·.1):=by
   refine List.ext_getElem? (fun j=>?_);rw [List.getElem?_set];split
   ·rename_i e'; subst e'
    have hi:=(List.getElem?_eq_some_iff.1 e).1
    simp [hi,e]
    have:=(List.getElem?_eq_some_iff.1 e).2;rw [this]
   ·rfl
  rw [this];exact h.nd
theorem Fv.row (h:Fv w D W l) (i:Nat) (e:l[i]?=some (b,cs,t)) (cs':Array Value):Fv w D (W.setRow b cs') (l.set i (b,cs',t)):=h.upd i e (Ce (h.ret i e) cs') (setRow_heap _ _ _ _ _ _ (h.ret i e))
theorem Mt (W:World) (b o:Nat) (v:Value):Wrote (fun b' _=>b'=b) W (W.setCell ⟨b,o,none⟩ v):=Wrote.setCell (R:=fun b' _=>b'=b) (Wrote.refl _ W) (fun _=>rfl) v
theorem Fv.cell (h:Fv w D W l) (i:Nat) (e:l[i]?=some (b,cs,t)) (o:Nat) (v:Value) {cs':Array Value} (hc:cs.setIfInBounds o v=cs'):Fv w D (W.setCell ⟨b,o,none⟩ v) (l.set i (b,cs',t)):=h.upd i e (Mt W b o v) (hc ▸ Af (h.ret i e) v)
theorem Fv.get (h:Fv w D W l) (i:Nat) (e:l[i]?=some (b,cs,t)) (j:Nat) {v:Value} (hv:cs[j]?=some v):W.cell? ⟨b,j,none⟩=some v:=(Ag (h.ret i e) j).trans hv
theorem Fv.getG (h:Fv w D W l) (i:Nat) (e:l[i]?=some (b,cs,t)) (j:Nat) {v:Value} (hv:cs[j]?=some v) (d:Nat) (os:Array Obj):(grow (redrawn W d) os).cell? ⟨b,j,none⟩=some v:=(h.call (below_regrown W d os)).get i e j hv
theorem Fv.drew (h:Fv w D W l):Fv w D W.drew l:=⟨h.below.trans ((Wrote.drew (R:=fun _ _=>False) (Wrote.refl _ W)).below h.below.size (fun _ _ _ h=>h.elim)),h.all,h.nd,h.lt⟩
theorem Fv.take (h:Fv w D W l) (n:Nat):Fv w D W (l.take n):=⟨h.below,fun p hp=>h.all p (List.mem_of_mem_take hp),by rw [List.map_take]; exact h.nd.sublist (List.take_sublist _ _),h.lt⟩
theorem Fv.mem (h:Fv w D W l) (i:Nat) (e:l[i]?=some (b,cs,t)) (TT:Wrote (fun b' _=>b'=b) W W') {v:Value} {n:Nat} {g:Nat→Int} {bank:Int} (M:Bw W D v n g bank):Bw W' D v n g bank :=
 M.keep TT (fun b' o hd _ he=>(h.all _ (List.mem_of_getElem? e)).2.2 (by have he':b'=b:=he; exact he' ▸ hd))
end
set_option maxHeartbeats 2000000
theorem Rh (w:World) (T P C B L:Int) (S Q:Bool) (reg:Int):Calls Tryz.prog 163 #[.agg (aR T P C B L S Q),.i reg] w
  fun e w'=>e=.returned (.tuple #[.agg (aR T P C B L S (Wr true Q reg)),.i (Tj true L Q reg)])∧Below w.heap.size w w':=by
 have k0:((w.alloc (.cells (aR T P C B L S Q) 45)).alloc (.cells (aR 0 0 0 0 0 false false) 45)).heap[w.heap.size]?=some (.cells (aR T P C B L S Q) 45 (0,0)):=Ax (Al w _ _) _
 have k1:((w.alloc (.cells (aR T P C B L S Q) 45)).alloc (.cells (aR 0 0 0 0 0 false false) 45)).heap[w.heap.size+1]?=some (.cells (aR 0 0 0 0 0 false false) 45 (0,0)):=by simpa using Al (w.alloc (.cells (aR T P C B L S Q) 45)) (aR 0 0 0 0 0 false false) 45
 have L0:Below w.heap.size w ((w.alloc (.cells (aR T P C B L S Q) 45)).alloc (.cells (aR 0 0 0 0 0 false false) 45)):=((Below.refl _ _).alloc (Nat.le_refl _) _).alloc (by simp) _
 by_cases hr:reg=2
 ·subst hr
  have HQ':Hid (Wr true Q 2=false):=if_pos ⟨rfl,rfl⟩
  obtain ⟨b,hb⟩:∃ b,Hid (decide (0<L)=b):=⟨_,rfl⟩
  have HV:Hid (Tj true L Q 2=128*Av Q+Av b):=by rw [← hb.out]; exact if_pos ⟨rfl,rfl⟩
  rw [HQ'.out,HV.out];clear HQ' HV;have HS:=Ad (fun W h=>Wt W w.heap.size T P C B L S Q h b hb.out)
  cases Q <;> cases b
  all_goals
   go_enter Tryz.func163,Tryz.ntmps163
   go_wp2_with fail;generalize ((w.alloc (.cells (aR T P C B L S _) 45)).alloc (.cells (aR 0 0 0 0 0 false false) 45))=W0 at *;have c0:=Ag k0;have c1:=Ag k1;have f0:=As k0;have f1:=As k1;go_wp2_with fail;refine (HS.out _ k0).mono ?_;rintro e W1 ⟨rfl,rfl⟩;go_wp2;refine bodyPost_ret (v:=.tuple #[.agg (aR T P C B L S false),_]) (by simp [results,Tryz.results163,go_sem,c1]; rfl) rfl ?_;refine ⟨by simp [Av],?_⟩;have hz0:=Ac k1
   have fin:∀ W5,Wrote (fun b _=>b=w.heap.size∨b=w.heap.size+1) W1 W5→Below w.heap.size w W5:=fun W5 h=>L0.trans (h.below L0.size (fun b o hb e=>by omega))
   refine fin _ ?_
   repeat (first | with_reducible exact Wrote.refl _ _ | with_reducible refine Wrote.drew ?_ | with_reducible refine Wrote.setCell ?_ (fun _=>by omega) _)
 ·have HQ':Hid (Wr true Q reg=Q):=if_neg (fun h=>hr h.2)
  have HV:Hid (Tj true L Q reg=0):=if_neg (fun h=>hr h.2);rw [HQ'.out,HV.out]
  have hr':(reg != 2)=true:=by simpa using hr
  clear hr
  go_enter Tryz.func163,Tryz.ntmps163
  go_wp2;refine bodyPost_ret (v:=.tuple #[.agg (aR T P C B L S Q),.i 0]) (by simp [results,Tryz.results163,go_sem]) rfl ?_;exact ⟨rfl,((Below.refl _ _).alloc (Nat.le_refl _) _).alloc (by simp) _⟩
set_option maxHeartbeats 1000000
theorem Du (w:World) (z:Nat) (xs:Nat→Value) (T P C B L:Int) (S Q:Bool) (hb:w.heap[z]?=some (.cells #[xs 0,xs 1,xs 2,xs 3,xs 4,xs 5,xs 6,xs 7,xs 8,xs 9,xs 10,xs 11,xs 12,xs 13,xs 14,xs 15,xs 16,xs 17,xs 18,xs 19,.i T,.i P,.i C,.i B,.i L,.bool S,.bool Q,xs 27,xs 28,xs 29,xs 30,xs 31,xs 32,xs 33] 49 (0,0))) (b:Bool) (h:decide (0<L)=b):Calls Tryz.prog 185 #[(pt z 20)] w fun e w'=>e=.returned (.bool b)∧w'=w:=by
 have hc:=Ag hb;have HH:=Ad h;clear h hb
 go_enter Tryz.func185,Tryz.ntmps185
 go_wp2;go_ret;exact ⟨Ap HH.out,rfl⟩
theorem Zy (w:World) (z:Nat) (xs:Nat→Value) (T P C B L:Int) (S Q:Bool) (hb:w.heap[z]?=some (.cells #[xs 0,xs 1,xs 2,xs 3,xs 4,xs 5,xs 6,xs 7,xs 8,xs 9,xs 10,xs 11,xs 12,xs 13,xs 14,xs 15,xs 16,xs 17,xs 18,xs 19,.i T,.i P,.i C,.i B,.i L,.bool S,.bool Q,xs 27,xs 28,xs 29,xs 30,xs 31,xs 32,xs 33] 49 (0,0))) (c0:0≤C) (c1:C≤255) (b0:0≤B) (b1:B≤1):Calls Tryz.prog 172 #[(pt z 20)] w fun e w'=>e=.returned (.tuple #[])∧w'.heap[z]?=some (.cells #[xs 0,xs 1,xs 2,xs 3,xs 4,xs 5,xs 6,xs 7,xs 8,xs 9,xs 10,xs 11,xs 12,xs 13,xs 14,xs 15,xs 16,xs 17,xs 18,xs 19,.i T,.i P,.i (Ft P C),.i (Fa C B L),.i L,.bool S,.bool Q,xs 27,xs 28,xs 29,xs 30,xs 31,xs 32,xs 33] 49 (0,0))∧Wrote (fun b _=>b=z) w w':=by
 have hc:=Ag hb;have hf:=As hb
 by_cases hC:C=0
 ·subst hC
  have hb1:=Bt hb 22 (.i P);simp only [List.setIfInBounds_toArray,List.set_cons_succ,List.set_cons_zero] at hb1;have W1:Wrote (fun b _=>b=z) w (w.setCell ⟨z,22,none⟩ (.i P)):=Wrote.setCell (R:=fun b _=>b=z) (Wrote.refl _ w) (fun _=>rfl) _;clear hb
  by_cases hL:0<L
  ·have HE:Hid (Ft P 0=P∧Fa 0 B L=1-B):=⟨if_pos rfl,if_pos ⟨rfl,hL⟩⟩
   rw [HE.out.1,HE.out.2];clear HE
   go_enter Tryz.func172,Tryz.ntmps172
   go_wp2_with fail;clear hc hf;generalize w.setCell ⟨z,22,none⟩ (.i P)=w1 at *;refine (Du _ z xs T P P B L S Q hb1 true (decide_eq_true hL)).mono ?_;rintro e w2 ⟨rfl,rfl⟩;have hb2:=Bt hb1 23 (.i (1-B));simp only [List.setIfInBounds_toArray,List.set_cons_succ,List.set_cons_zero] at hb2;have HX:=Ad (And.intro hb2 (Wrote.setCell (b:=z) (o:=23) W1 (fun _=>rfl) (.i (1-B))));have hc:=Ag hb1;have hf:=As hb1;clear hb1 hb2 W1;go_wp2
   ((try simp only [Exit.inBlock,Exit.then]); first | (refine bodyPost_ret (results_none rfl _ _ _) rfl ?_) | (refine bodyPost_end (results_none rfl _ _ _) rfl ?_))
   exact ⟨rfl,HX.out.1,HX.out.2⟩
  ·have HE:Hid (Ft P 0=P∧Fa 0 B L=B):=⟨if_pos rfl,if_neg (by simp [hL])⟩
   rw [HE.out.1,HE.out.2];clear HE
   go_enter Tryz.func172,Tryz.ntmps172
   go_wp2_with fail;clear hc hf;generalize w.setCell ⟨z,22,none⟩ (.i P)=w1 at *;refine (Du _ z xs T P P B L S Q hb1 false (decide_eq_false (by omega))).mono ?_;rintro e w2 ⟨rfl,rfl⟩;have HX:=Ad (And.intro hb1 W1);clear hb1 W1;go_wp2
   ((try simp only [Exit.inBlock,Exit.then]); first | (refine bodyPost_ret (results_none rfl _ _ _) rfl ?_) | (refine bodyPost_end (results_none rfl _ _ _) rfl ?_))
   exact ⟨rfl,HX.out.1,HX.out.2⟩
 ·have HE:Hid (Ft P C=C-1∧Fa C B L=B):=⟨if_neg hC,if_neg (by simp [hC])⟩
  rw [HE.out.1,HE.out.2]
  have hC1:0<C:=by omega
  have hb2:=Bt hb 22 (.i (C-1));simp only [List.setIfInBounds_toArray,List.set_cons_succ,List.set_cons_zero] at hb2;have HX:=Ad (And.intro hb2 (Wrote.setCell (R:=fun b _=>b=z) (b:=z) (o:=22) (Wrote.refl _ w) (fun _=>rfl) (.i (C-1))));clear hb2 hb HE
  go_enter Tryz.func172,Tryz.ntmps172
  go_wp2
  ((try simp only [Exit.inBlock,Exit.then]); first | (refine bodyPost_ret (results_none rfl _ _ _) rfl ?_) | (refine bodyPost_end (results_none rfl _ _ _) rfl ?_))
  exact ⟨rfl,HX.out.1,HX.out.2⟩
theorem Zz (w:World) (z:Nat) (xs:Nat→Value) (T P C B L:Int) (S Q:Bool) (hb:w.heap[z]?=some (.cells #[xs 0,xs 1,xs 2,xs 3,xs 4,xs 5,xs 6,xs 7,xs 8,xs 9,xs 10,xs 11,xs 12,xs 13,xs 14,xs 15,xs 16,xs 17,xs 18,xs 19,.i T,.i P,.i C,.i B,.i L,.bool S,.bool Q,xs 27,xs 28,xs 29,xs 30,xs 31,xs 32,xs 33] 49 (0,0))) (l1:L≤31):Calls Tryz.prog 173 #[(pt z 20)] w fun e w'=>e=.returned (.tuple #[])∧w'.heap[z]?=some (.cells #[xs 0,xs 1,xs 2,xs 3,xs 4,xs 5,xs 6,xs 7,xs 8,xs 9,xs 10,xs 11,xs 12,xs 13,xs 14,xs 15,xs 16,xs 17,xs 18,xs 19,.i T,.i P,.i C,.i B,.i (Re L),.bool S,.bool (Rf L S Q),xs 27,xs 28,xs 29,xs 30,xs 31,xs 32,xs 33] 49 (0,0))∧Wrote (fun b _=>b=z) w w':=by
 have hc:=Ag hb;have hf:=As hb
 by_cases hL:0<L
 ·have HE:Hid (Re L=L-1∧Rf L S Q=(Q || (decide (L-1=0) && S))):=⟨if_pos hL,if_pos hL⟩
  rw [HE.out.1,HE.out.2];have hb1:=Bt hb 24 (.i (L-1));simp only [List.setIfInBounds_toArray,List.set_cons_succ,List.set_cons_zero] at hb1;have W1:Wrote (fun b _=>b=z) w (w.setCell ⟨z,24,none⟩ (.i (L-1))):=Wrote.setCell (R:=fun b _=>b=z) (Wrote.refl _ w) (fun _=>rfl) _
  go_enter Tryz.func173,Tryz.ntmps173
  go_wp2_with fail;refine (Du _ z xs T P C B L S Q hb true (decide_eq_true hL)).mono ?_;rintro e w2 ⟨rfl,rfl⟩;clear hb HE;cases S
  ·have HX:=Ad (And.intro hb1 W1)
   clear hb1 W1;go_wp2
   ((try simp only [Exit.inBlock,Exit.then]); first | (refine bodyPost_ret (results_none rfl _ _ _) rfl ?_) | (refine bodyPost_end (results_none rfl _ _ _) rfl ?_))
   rw [Bool.and_false,Bool.or_false];exact ⟨rfl,HX.out.1,HX.out.2⟩
  ·go_wp2_with fail
   clear hc hf;generalize w2.setCell ⟨z,24,none⟩ (.i (L-1))=w1 at *
   by_cases h1:L-1=0
   ·refine (Du _ z xs T P C B (L-1) true Q hb1 false (decide_eq_false (by omega))).mono ?_
    rintro e w3 ⟨rfl,rfl⟩;have hb2:=Bt hb1 26 (.bool true);simp only [List.setIfInBounds_toArray,List.set_cons_succ,List.set_cons_zero] at hb2;have HX:=Ad (And.intro hb2 (Wrote.setCell (b:=z) (o:=26) W1 (fun _=>rfl) (.bool true)));have hc:=Ag hb1;have hf:=As hb1
    have HT:Hid ((Q || (decide (L-1=0) && true))=true):=by show _=_; rw [decide_eq_true h1]; simp
    clear hb1 hb2 W1 h1;go_wp2
    ((try simp only [Exit.inBlock,Exit.then]); first | (refine bodyPost_ret (results_none rfl _ _ _) rfl ?_) | (refine bodyPost_end (results_none rfl _ _ _) rfl ?_))
    rw [HT.out];exact ⟨rfl,HX.out.1,HX.out.2⟩
   ·refine (Du _ z xs T P C B (L-1) true Q hb1 true (decide_eq_true (by omega))).mono ?_
    rintro e w3 ⟨rfl,rfl⟩;have HX:=Ad (And.intro hb1 W1)
    have HT:Hid ((Q || (decide (L-1=0) && true))=Q):=by show _=_; rw [decide_eq_false h1]; simp
    clear hb1 W1 h1;go_wp2
    ((try simp only [Exit.inBlock,Exit.then]); first | (refine bodyPost_ret (results_none rfl _ _ _) rfl ?_) | (refine bodyPost_end (results_none rfl _ _ _) rfl ?_))
    rw [HT.out];exact ⟨rfl,HX.out.1,HX.out.2⟩
 ·have HE:Hid (Re L=L∧Rf L S Q=Q):=⟨if_neg hL,if_neg hL⟩
  rw [HE.out.1,HE.out.2]
  go_enter Tryz.func173,Tryz.ntmps173
  go_wp2_with fail;refine (Du _ z xs T P C B L S Q hb false (decide_eq_false (by omega))).mono ?_;rintro e w2 ⟨rfl,rfl⟩;have HX:=Ad hb;clear hb HE hc hf;go_wp2
  ((try simp only [Exit.inBlock,Exit.then]); first | (refine bodyPost_ret (results_none rfl _ _ _) rfl ?_) | (refine bodyPost_end (results_none rfl _ _ _) rfl ?_))
  exact ⟨rfl,HX.out,Wrote.refl _ _⟩
theorem Ut (w:World) (z:Nat) (xs:Nat→Value) (T P C B L:Int) (S Q:Bool) (hb:w.heap[z]?=some (.cells #[xs 0,xs 1,xs 2,xs 3,xs 4,xs 5,xs 6,xs 7,xs 8,xs 9,xs 10,xs 11,xs 12,xs 13,xs 14,xs 15,xs 16,xs 17,xs 18,xs 19,.i T,.i P,.i C,.i B,.i L,.bool S,.bool Q,xs 27,xs 28,xs 29,xs 30,xs 31,xs 32,xs 33] 49 (0,0))) (b0:0≤B) (b1:B≤1):Calls Tryz.prog 174 #[(pt z 20)] w fun e w'=>e=.returned (.i (if 0<L then 8*B else 0))∧w'=w:=by
 have hc:=Ag hb
 by_cases hL:0<L
 ·rw [if_pos hL]
  go_enter Tryz.func174,Tryz.ntmps174
  go_wp2_with fail;refine (Du _ z xs T P C B L S Q hb true (decide_eq_true hL)).mono ?_;rintro e w2 ⟨rfl,rfl⟩;clear hb;go_wp2;go_ret;exact ⟨rfl,rfl⟩
 ·rw [if_neg hL]
  go_enter Tryz.func174,Tryz.ntmps174
  go_wp2_with fail;refine (Du _ z xs T P C B L S Q hb false (decide_eq_false (by omega))).mono ?_;rintro e w2 ⟨rfl,rfl⟩;clear hb;go_wp2;go_ret;exact ⟨rfl,rfl⟩
theorem X8 (w:World) (z:Nat) (xs:Nat→Value) (T P C B L:Int) (S Q:Bool) (hb:w.heap[z]?=some (.cells #[xs 0,xs 1,xs 2,xs 3,xs 4,xs 5,xs 6,xs 7,xs 8,xs 9,xs 10,xs 11,xs 12,xs 13,xs 14,xs 15,xs 16,xs 17,xs 18,xs 19,.i T,.i P,.i C,.i B,.i L,.bool S,.bool Q,xs 27,xs 28,xs 29,xs 30,xs 31,xs 32,xs 33] 49 (0,0))) (h:If T P C B L) (hT:T≠20000):Calls Tryz.prog 144 #[(pt z 20)] w fun e w'=>e=.returned (.tuple #[.i (Kq T C B L),.bool (Dx T)])∧w'.heap[z]?=some (.cells #[xs 0,xs 1,xs 2,xs 3,xs 4,xs 5,xs 6,xs 7,xs 8,xs 9,xs 10,xs 11,xs 12,xs 13,xs 14,xs 15,xs 16,xs 17,xs 18,xs 19,.i (T+1),.i P,.i (Ft P C),.i (Fa C B L),.i (Fu T L),.bool S,.bool (Gq T L S Q),xs 27,xs 28,xs 29,xs 30,xs 31,xs 32,xs 33] 49 (0,0))∧Wrote (fun b _=>b=z) w w':=by
 have t0:=h.t0;have t1:=h.t1;have m32:T.tmod 32=T%32:=Int.tmod_eq_emod_of_nonneg t0;have m16:T.tmod 16=T%16:=Int.tmod_eq_emod_of_nonneg t0
 obtain ⟨b',hb'⟩:∃ b',Hid (b'=Fa C B L):=⟨_,rfl⟩
 have B0:0≤b':=by rw [hb'.out]; have:=h.b0; have:=h.b1; unfold Fa; split <;> omega
 have B1:b'≤1:=by rw [hb'.out]; have:=h.b0; have:=h.b1; unfold Fa; split <;> omega
 obtain ⟨l',hl'⟩:∃ l',Hid (l'=Fu T L):=⟨_,rfl⟩
 obtain ⟨q',hq'⟩:∃ q',Hid (q'=Gq T L S Q):=⟨_,rfl⟩
 have HV:Hid (Kq T C B L=if T%16=15 then (if 0<l' then 8*b' else 0) else 0):=by
  show _=_
  rw [hl'.out,hb'.out];unfold Kq
  by_cases h1:T%16=15 <;> by_cases h2:0<Fu T L <;> simp [h1,h2]
 obtain ⟨sv,hsv⟩:∃ sv,Hid (sv=if T%16=15 then (if 0<l' then 8*b' else 0) else 0):=⟨_,rfl⟩
 obtain ⟨dT,hdT⟩:∃ d,Hid (d=Dx T):=⟨_,rfl⟩
 rw [HV.out,← hb'.out,← hl'.out,← hq'.out,← hsv.out,← hdT.out];have TF:=Tk T C L B S Q;rw [← hl'.out,← hq'.out] at TF;obtain ⟨TL,TQ⟩:=TF;have l1:=h.l1
 obtain ⟨cc,hcc⟩:∃ cc,Hid (cc=Ft P C):=⟨_,rfl⟩
 have HT:=Ad (Zy w z xs T P C B L S Q hb h.c0 h.c1 h.b0 h.b1);rw [← hb'.out,← hcc.out] at HT;rw [← hcc.out];clear hb h hb' hl' hq' hcc HV
 go_enter Tryz.func144,Tryz.ntmps144
 go_wp2_with fail;refine HT.out.mono ?_;rintro e w1 ⟨rfl,hb1,W1⟩;clear HT
 have END:∀ w3:World,w3.heap[z]?=some (.cells #[xs 0,xs 1,xs 2,xs 3,xs 4,xs 5,xs 6,xs 7,xs 8,xs 9,xs 10,xs 11,xs 12,xs 13,xs 14,xs 15,xs 16,xs 17,xs 18,xs 19,.i T,.i P,.i cc,.i b',.i l',.bool S,.bool q',xs 27,xs 28,xs 29,xs 30,xs 31,xs 32,xs 33] 49 (0,0))→Wrote (fun b _=>b=z) w w3→(w3.setCell ⟨z,20,none⟩ (.i (T+1))).heap[z]?=some (.cells #[xs 0,xs 1,xs 2,xs 3,xs 4,xs 5,xs 6,xs 7,xs 8,xs 9,xs 10,xs 11,xs 12,xs 13,xs 14,xs 15,xs 16,xs 17,xs 18,xs 19,.i (T+1),.i P,.i cc,.i b',.i l',.bool S,.bool q',xs 27,xs 28,xs 29,xs 30,xs 31,xs 32,xs 33] 49 (0,0))∧Wrote (fun b _=>b=z) w (w3.setCell ⟨z,20,none⟩ (.i (T+1))):=fun w3 h3 W3=>⟨by
  have:=Bt h3 20 (.i (T+1))
  simpa only [List.setIfInBounds_toArray,List.set_cons_succ,List.set_cons_zero] using this,Wrote.setCell W3 (fun _=>rfl) _⟩
 have HEND:=Ad END;clear END;have c1:=Ag hb1
 by_cases h32:T%32=0
 ·rw [if_pos h32] at TL TQ
  go_wp2_with fail;clear c1;refine (Zz _ z xs T P cc b' L S Q hb1 l1).mono ?_;rintro e w2 ⟨rfl,hb2,W2⟩;rw [← TL,← TQ] at hb2;replace W2:=W1.trans W2;have c2:=Ag hb2;have f2:=As hb2
  by_cases h16:T%16=15
  ·exfalso; omega
  ·have HD:Hid (dT=false∧sv=0):=⟨hdT.out.trans (decide_eq_false h16),hsv.out.trans (if_neg h16)⟩
   have HX:=Ad (HEND.out w2 hb2 W2);clear hb1 hb2 W1 W2 HEND TL TQ hdT hsv;go_wp2;go_ret2;exact ⟨by first | (rw [HD.out.1,HD.out.2]; done) | (rw [HD.out.1,HD.out.2]; rfl) | (rw [HD.out.1]; rfl),HX.out.1,HX.out.2⟩
 ·rw [if_neg h32] at TL TQ
  rw [← TL,← TQ] at hb1
  by_cases h16:T%16=15
  ·have HD:Hid (dT=true∧sv=if 0<l' then 8*b' else 0):=⟨hdT.out.trans (decide_eq_true h16),hsv.out.trans (if_pos h16)⟩
   clear hdT hsv TL TQ;have HX:=Ad (HEND.out w1 hb1 W1);clear W1 HEND;go_wp2_with fail;have f1:=As hb1;refine (Ut _ z xs T P cc b' l' S q' hb1 B0 B1).mono ?_;rintro e w2 ⟨rfl,rfl⟩;clear hb1;rw [← HD.out.2];go_wp2;go_ret2;exact ⟨by first | (rw [HD.out.1,HD.out.2]; done) | (rw [HD.out.1,HD.out.2]; rfl) | (rw [HD.out.1]; rfl),HX.out.1,HX.out.2⟩
  ·have HD:Hid (dT=false∧sv=0):=⟨hdT.out.trans (decide_eq_false h16),hsv.out.trans (if_neg h16)⟩
   have HX:=Ad (HEND.out w1 hb1 W1);have f1:=As hb1;clear hb1 W1 HEND TL TQ hdT hsv;go_wp2;go_ret2;exact ⟨by first | (rw [HD.out.1,HD.out.2]; done) | (rw [HD.out.1,HD.out.2]; rfl) | (rw [HD.out.1]; rfl),HX.out.1,HX.out.2⟩
set_option maxHeartbeats 2000000
theorem Cw {n:Nat} {u w:World} (h:Below n u w):Below n u w.drew:=⟨h.os,h.tape,h.output,h.size,h.block⟩
theorem Jw (w:World):Calls Tryz.prog 189 #[] w fun e w'=>e=.returned (.agg #[.func (.func 224) #[] #[],.func (.func 225) #[] #[],.func (.func 226) #[] #[],.func (.func 227) #[] #[]])∧Below w.heap.size w w':=by
 have hmf:∀ (fn:Fn) (first cap:Array Value) (w:World),(Instr.makeFunc fn first cap).run Tryz.prog w=.ok (.func fn first cap) w:=fun _ _ _ _=>rfl
 have k0:=Al w #[.nilFunc,.nilFunc,.nilFunc,.nilFunc] 186;have L0:Below w.heap.size w (w.alloc (.cells #[.nilFunc,.nilFunc,.nilFunc,.nilFunc] 186)):=(Below.refl _ _).alloc (Nat.le_refl _) _
 go_enter Tryz.func189,Tryz.ntmps189
 go_upto_region 1 with (fail);generalize w.alloc (.cells #[.nilFunc,.nilFunc,.nilFunc,.nilFunc] 186)=W0 at *;have c0:=Ag k0;have f0:=As k0;have k4:=Bt (Bt (Bt (Bt k0 0 (.func (.func 224) #[] #[])) 1 (.func (.func 225) #[] #[])) 2 (.func (.func 226) #[] #[])) 3 (.func (.func 227) #[] #[]);simp only [List.setIfInBounds_toArray,List.set_cons_succ,List.set_cons_zero] at k4;have c4:=Ag k4;go_wp2;refine bodyPost_ret (v:=.agg #[.func (.func 224) #[] #[],.func (.func 225) #[] #[],.func (.func 226) #[] #[],.func (.func 227) #[] #[]]) (by simp [results,Tryz.results189,go_sem,c4]) rfl ?_;exact ⟨rfl,(((L0.setCell (Nat.le_refl _) _).setCell (Nat.le_refl _) _).setCell (Nat.le_refl _) _).setCell (Nat.le_refl _) _⟩
theorem Wu (w:World) (z:Nat) (T P C B L:Int) (S Q:Bool) (v:Int) (hb:w.heap[z]?=some (.cells (aR T P C B L S Q) 45 (0,0))) :
  Calls Tryz.prog 224 #[(pt z 0),.i (v%256)] w fun e w'=>e=.returned (.tuple #[])∧w'.heap[z]?=some (.cells (aR T (v%256) C B L S Q) 45 (0,0))∧Wrote (fun b _=>b=z) w w':=by
 obtain ⟨u,hu⟩:∃ u,Hid (u=v%256):=⟨_,rfl⟩
 have u0:0≤u:=by rw [hu.out]; omega
 have u1:u<256:=by rw [hu.out]; omega
 rw [← hu.out];have hc:=Ag hb;have hf:=As hb;have hb2:=Bt hb 1 (.i u);simp only [List.setIfInBounds_toArray,List.set_cons_succ,List.set_cons_zero] at hb2;have HX:=Ad (And.intro hb2 (Wrote.setCell (R:=fun b _=>b=z) (b:=z) (o:=1) (Wrote.refl _ w) (fun _=>rfl) (.i u)));clear hb2 hb
 go_enter Tryz.func224,Tryz.ntmps224
 go_wp2
 ((try simp only [Exit.inBlock,Exit.then]); first | (refine bodyPost_ret (results_none rfl _ _ _) rfl ?_) | (refine bodyPost_end (results_none rfl _ _ _) rfl ?_))
 exact ⟨rfl,HX.out.1,HX.out.2⟩
theorem Wv (w:World) (z:Nat) (T P C B L:Int) (S Q:Bool) (v:Int) (hb:w.heap[z]?=some (.cells (aR T P C B L S Q) 45 (0,0))) :
  Calls Tryz.prog 225 #[(pt z 0),.i (v%256)] w fun e w'=>e=.returned (.tuple #[])∧w'.heap[z]?=some (.cells (aR T P C B (v%32) S Q) 45 (0,0))∧Wrote (fun b _=>b=z) w w':=by
 obtain ⟨u,hu⟩:∃ u,Hid (u=v%256):=⟨_,rfl⟩
 have u0:0≤u:=by rw [hu.out]; omega
 have u1:u<256:=by rw [hu.out]; omega
 have HE:Hid (v%32=u%32):=by show _=_; rw [hu.out]; omega
 rw [← hu.out,HE.out];have tm:u.tmod 32=u%32:=Int.tmod_eq_emod_of_nonneg u0;have hc:=Ag hb;have hf:=As hb;have hb2:=Bt hb 4 (.i (u%32));simp only [List.setIfInBounds_toArray,List.set_cons_succ,List.set_cons_zero] at hb2;have HX:=Ad (And.intro hb2 (Wrote.setCell (R:=fun b _=>b=z) (b:=z) (o:=4) (Wrote.refl _ w) (fun _=>rfl) (.i (u%32))));clear hb2 hb
 go_enter Tryz.func225,Tryz.ntmps225
 go_wp2
 ((try simp only [Exit.inBlock,Exit.then]); first | (refine bodyPost_ret (results_none rfl _ _ _) rfl ?_) | (refine bodyPost_end (results_none rfl _ _ _) rfl ?_))
 exact ⟨rfl,HX.out.1,HX.out.2⟩
theorem Jbb (w:World) (z:Nat) (T P C B L:Int) (S Q:Bool) (v:Int) (hb:w.heap[z]?=some (.cells (aR T P C B L S Q) 45 (0,0))) :
  Calls Tryz.prog 226 #[(pt z 0),.i (v%256)] w fun e w'=>e=.returned (.tuple #[])∧w'.heap[z]?=some (.cells (aR T P C B L (v%2==1) (Q && (v%2==1))) 45 (0,0))∧Wrote (fun b _=>b=z) w w':=by
 obtain ⟨u,hu⟩:∃ u,Hid (u=v%256):=⟨_,rfl⟩
 have u0:0≤u:=by rw [hu.out]; omega
 have u1:u<256:=by rw [hu.out]; omega
 have tm:u.tmod 2=u%2:=Int.tmod_eq_emod_of_nonneg u0
 obtain ⟨o,ho⟩:∃ o,Hid (o=(v%2==1)):=⟨_,rfl⟩
 have ho2:(u%2 != 0)=o:=by
  rw [ho.out]
  have:u%2=v%2:=by rw [hu.out]; omega
  rw [this]
  rcases Int.emod_two_eq v with h | h <;> rw [h] <;> rfl
 rw [← hu.out,← ho.out];clear hu ho;have hc:=Ag hb;have hf:=As hb;have hb1:=Bt hb 5 (.bool o);simp only [List.setIfInBounds_toArray,List.set_cons_succ,List.set_cons_zero] at hb1;have hb2:=Bt hb1 6 (.bool (Q && o));simp only [List.setIfInBounds_toArray,List.set_cons_succ,List.set_cons_zero] at hb2;have hc1:=Ag hb1;have hf1:=As hb1;have HX:=Ad (And.intro hb2 (Wrote.setCell (b:=z) (o:=6) (Wrote.setCell (R:=fun b _=>b=z) (b:=z) (o:=5) (Wrote.refl _ w) (fun _=>rfl) (.bool o)) (fun _=>rfl) (.bool (Q && o))));clear hb2 hb1 hb;cases Q
 ·go_enter Tryz.func226,Tryz.ntmps226
  go_wp2
  ((try simp only [Exit.inBlock,Exit.then]); first | (refine bodyPost_ret (results_none rfl _ _ _) rfl ?_) | (refine bodyPost_end (results_none rfl _ _ _) rfl ?_))
  exact ⟨rfl,HX.out.1,HX.out.2⟩
 ·go_enter Tryz.func226,Tryz.ntmps226
  go_wp2
  ((try simp only [Exit.inBlock,Exit.then]); first | (refine bodyPost_ret (results_none rfl _ _ _) rfl ?_) | (refine bodyPost_end (results_none rfl _ _ _) rfl ?_))
  exact ⟨rfl,HX.out.1,HX.out.2⟩
theorem Jdf (w:World) (z:Nat) (T P C B L:Int) (S Q:Bool) (v:Int) (hb:w.heap[z]?=some (.cells (aR T P C B L S Q) 45 (0,0))) :
  Calls Tryz.prog 227 #[(pt z 0),.i (v%256)] w fun e w'=>e=.returned (.tuple #[])∧w'.heap[z]?=some (.cells (aR T P C B L S false) 45 (0,0))∧Wrote (fun b _=>b=z) w w':=by
 generalize v%256=u;have hc:=Ag hb;have hf:=As hb;have hb2:=Bt hb 6 (.bool false);simp only [List.setIfInBounds_toArray,List.set_cons_succ,List.set_cons_zero] at hb2;have HX:=Ad (And.intro hb2 (Wrote.setCell (R:=fun b _=>b=z) (b:=z) (o:=6) (Wrote.refl _ w) (fun _=>rfl) (.bool false)));clear hb2 hb
 go_enter Tryz.func227,Tryz.ntmps227
 go_wp2
 ((try simp only [Exit.inBlock,Exit.then]); first | (refine bodyPost_ret (results_none rfl _ _ _) rfl ?_) | (refine bodyPost_end (results_none rfl _ _ _) rfl ?_))
 exact ⟨rfl,HX.out.1,HX.out.2⟩
theorem P9 (w:World) (T P C B L:Int) (S Q:Bool) (reg v:Int):Calls Tryz.prog 166 #[.agg (aR T P C B L S Q),.i reg,.i v] w
  fun e w'=>e=.returned (.agg (aR T (I8 true P reg v) C B (I9 true L reg v) (Ju true S reg v) (Jv true Q reg v)))∧Below w.heap.size w w':=by
 have k0:((w.alloc (.cells (aR T P C B L S Q) 45)).alloc (.cells (aR 0 0 0 0 0 false false) 45)).heap[w.heap.size]?=some (.cells (aR T P C B L S Q) 45 (0,0)):=Ax (Al w (aR T P C B L S Q) 45) _
 have k1:((w.alloc (.cells (aR T P C B L S Q) 45)).alloc (.cells (aR 0 0 0 0 0 false false) 45)).heap[w.heap.size+1]?=some (.cells (aR 0 0 0 0 0 false false) 45 (0,0)):=by simpa using Al (w.alloc (.cells (aR T P C B L S Q) 45)) (aR 0 0 0 0 0 false false) 45
 have C0:Below w.heap.size w ((w.alloc (.cells (aR T P C B L S Q) 45)).alloc (.cells (aR 0 0 0 0 0 false false) 45)):=((Below.refl _ _).alloc (Nat.le_refl _) _).alloc (by simp) _
 by_cases hr:0≤reg∧reg<4
 ·obtain ⟨r0,r4⟩:=hr
  by_cases e0:reg=0
  ·subst e0
   have HE:Hid (I8 true P 0 v=v%256∧I9 true L 0 v=L∧Ju true S 0 v=S∧Jv true Q 0 v=Q):=by show _∧_; simp [I8,I9,Ju,Jv]
   rw [HE.out.1,HE.out.2.1,HE.out.2.2.1,HE.out.2.2.2];clear HE;have HS:=Ad (fun W k=>Wu W w.heap.size T P C B L S Q v k);have HY:=Ad (fun W=>Ck v W)
   obtain ⟨u,hu⟩:∃ u,Hid (u=v%256):=⟨_,rfl⟩
   simp only [← hu.out] at HS HY ⊢;clear hu
   go_enter Tryz.func166,Tryz.ntmps166
   go_wp2_with fail;generalize (w.alloc (.cells (aR T P C B L S Q) 45)).alloc (.cells (aR 0 0 0 0 0 false false) 45)=W0 at *;refine (Jw _).mono ?_;rintro e W1 ⟨rfl,L1⟩;replace k0:=Aa k0 L1 (Ac k0);replace k1:=Aa k1 L1 (Ac k1);have C1:=Ae C0 L1;clear C0 L1;go_upto_region 3 with (fail);have kR:=Al W1 #[.func (.func 224) #[] #[],.func (.func 225) #[] #[],.func (.func 226) #[] #[],.func (.func 227) #[] #[]] 186
   have hz:w.heap.size≠W1.heap.size:=fun e=>by have:=Ac k0; omega
   replace k0:=Ax k0 (.cells #[.func (.func 224) #[] #[],.func (.func 225) #[] #[],.func (.func 226) #[] #[],.func (.func 227) #[] #[]] 186);replace k1:=Ax k1 (.cells #[.func (.func 224) #[] #[],.func (.func 225) #[] #[],.func (.func 226) #[] #[],.func (.func 227) #[] #[]] 186);replace C1:=Ae C1 ((Below.refl W1.heap.size W1).alloc (Nat.le_refl _) (.cells #[.func (.func 224) #[] #[],.func (.func 225) #[] #[],.func (.func 226) #[] #[],.func (.func 227) #[] #[]] 186))
   obtain ⟨zr,hzr⟩:∃ z,Hid (z=W1.heap.size):=⟨_,rfl⟩
   generalize W1.alloc (.cells #[.func (.func 224) #[] #[],.func (.func 225) #[] #[],.func (.func 226) #[] #[],.func (.func 227) #[] #[]] 186)=W2 at *;rw [← hzr.out] at kR hz ⊢;clear hzr;have HC:=Ad (HS.out W2.drew k0);clear HS;have hS:∀ j,W2.cell? ⟨zr,j,none⟩=#[.func (.func 224) #[] #[],.func (.func 225) #[] #[],.func (.func 226) #[] #[],.func (.func 227) #[] #[]][j]?:=Ag kR;have hSd:∀ j,W2.drew.cell? ⟨zr,j,none⟩=#[.func (.func 224) #[] #[],.func (.func 225) #[] #[],.func (.func 226) #[] #[],.func (.func 227) #[] #[]][j]?:=Ag (show W2.drew.heap[zr]?=_ from kR);have HK:=Ad (And.intro kR (And.intro k1 C1));clear kR k1 C1 k0
   go_region_held3 (fun w'=>∀ j,w'.cell? ⟨zr,j,none⟩=#[.func (.func 224) #[] #[],.func (.func 225) #[] #[],.func (.func 226) #[] #[],.func (.func 227) #[] #[]][j]?) (first | (with_reducible assumption) | go_keep) ((first | (go_at_call 98; refine (HY.out _).mono ?_; rintro e w' ⟨rfl,rfl⟩) | (go_at_call 224; refine HC.out.mono ?_; rintro e W3 ⟨rfl,k3,L3⟩; have hS3:∀ j,W3.cell? ⟨zr,j,none⟩=#[.func (.func 224) #[] #[],.func (.func 225) #[] #[],.func (.func 226) #[] #[],.func (.func 227) #[] #[]][j]?:=Ag ((L3.block zr (Ac (show W2.drew.heap[zr]?=_ from HK.out.1)) (fun o e=>hz e.symm)).trans HK.out.1); skip)))
   all_goals
    have k4:W3.heap[w.heap.size+1]?=some (.cells (aR 0 0 0 0 0 false false) 45 (0,0)):=(L3.block _ (Ac (show W2.drew.heap[w.heap.size+1]?=_ from HK.out.2.1)) (fun o e=>by omega)).trans HK.out.2.1;have C3:Below w.heap.size w W3:=(Cw HK.out.2.2).trans (L3.below (Cw HK.out.2.2).size (fun b o hb e=>by omega));have c3:=Ag k3;have c4:=Ag k4;have f4:=As k4;clear hS hSd hS3 L3 HC HY HK k3 hz;go_wp2;refine bodyPost_ret (v:=.agg (aR T u C B L S Q)) (by simp [results,Tryz.results166,go_sem,fun (x0 x1 x2 x3 x4 x5 x6:Value)=>Ag (Cr k4 x0 x1 x2 x3 x4 x5 x6)]) rfl ?_;exact ⟨rfl,C3.trans ((Ti W3 _ _ _ _ _ _ _ _).mono (by omega))⟩
  by_cases e1:reg=1
  ·subst e1
   have HE:Hid (I8 true P 1 v=P∧I9 true L 1 v=v%32∧Ju true S 1 v=S∧Jv true Q 1 v=Q):=by show _∧_; simp [I8,I9,Ju,Jv]
   rw [HE.out.1,HE.out.2.1,HE.out.2.2.1,HE.out.2.2.2];clear HE;have HS:=Ad (fun W k=>Wv W w.heap.size T P C B L S Q v k);have HY:=Ad (fun W=>Ck v W)
   obtain ⟨u,hu⟩:∃ u,Hid (u=v%256):=⟨_,rfl⟩
   obtain ⟨l,hl⟩:∃ l,Hid (l=v%32):=⟨_,rfl⟩
   simp only [← hu.out,← hl.out] at HS HY ⊢;clear hu hl
   go_enter Tryz.func166,Tryz.ntmps166
   go_wp2_with fail;generalize (w.alloc (.cells (aR T P C B L S Q) 45)).alloc (.cells (aR 0 0 0 0 0 false false) 45)=W0 at *;refine (Jw _).mono ?_;rintro e W1 ⟨rfl,L1⟩;replace k0:=Aa k0 L1 (Ac k0);replace k1:=Aa k1 L1 (Ac k1);have C1:=Ae C0 L1;clear C0 L1;go_upto_region 3 with (fail);have kR:=Al W1 #[.func (.func 224) #[] #[],.func (.func 225) #[] #[],.func (.func 226) #[] #[],.func (.func 227) #[] #[]] 186
   have hz:w.heap.size≠W1.heap.size:=fun e=>by have:=Ac k0; omega
   replace k0:=Ax k0 (.cells #[.func (.func 224) #[] #[],.func (.func 225) #[] #[],.func (.func 226) #[] #[],.func (.func 227) #[] #[]] 186);replace k1:=Ax k1 (.cells #[.func (.func 224) #[] #[],.func (.func 225) #[] #[],.func (.func 226) #[] #[],.func (.func 227) #[] #[]] 186);replace C1:=Ae C1 ((Below.refl W1.heap.size W1).alloc (Nat.le_refl _) (.cells #[.func (.func 224) #[] #[],.func (.func 225) #[] #[],.func (.func 226) #[] #[],.func (.func 227) #[] #[]] 186))
   obtain ⟨zr,hzr⟩:∃ z,Hid (z=W1.heap.size):=⟨_,rfl⟩
   generalize W1.alloc (.cells #[.func (.func 224) #[] #[],.func (.func 225) #[] #[],.func (.func 226) #[] #[],.func (.func 227) #[] #[]] 186)=W2 at *;rw [← hzr.out] at kR hz ⊢;clear hzr;have HC:=Ad (HS.out W2.drew k0);clear HS;have hS:∀ j,W2.cell? ⟨zr,j,none⟩=#[.func (.func 224) #[] #[],.func (.func 225) #[] #[],.func (.func 226) #[] #[],.func (.func 227) #[] #[]][j]?:=Ag kR;have hSd:∀ j,W2.drew.cell? ⟨zr,j,none⟩=#[.func (.func 224) #[] #[],.func (.func 225) #[] #[],.func (.func 226) #[] #[],.func (.func 227) #[] #[]][j]?:=Ag (show W2.drew.heap[zr]?=_ from kR);have HK:=Ad (And.intro kR (And.intro k1 C1));clear kR k1 C1 k0
   go_region_held3 (fun w'=>∀ j,w'.cell? ⟨zr,j,none⟩=#[.func (.func 224) #[] #[],.func (.func 225) #[] #[],.func (.func 226) #[] #[],.func (.func 227) #[] #[]][j]?) (first | (with_reducible assumption) | go_keep) ((first | (go_at_call 98; refine (HY.out _).mono ?_; rintro e w' ⟨rfl,rfl⟩) | (go_at_call 225; refine HC.out.mono ?_; rintro e W3 ⟨rfl,k3,L3⟩; have hS3:∀ j,W3.cell? ⟨zr,j,none⟩=#[.func (.func 224) #[] #[],.func (.func 225) #[] #[],.func (.func 226) #[] #[],.func (.func 227) #[] #[]][j]?:=Ag ((L3.block zr (Ac (show W2.drew.heap[zr]?=_ from HK.out.1)) (fun o e=>hz e.symm)).trans HK.out.1); skip)))
   all_goals
    have k4:W3.heap[w.heap.size+1]?=some (.cells (aR 0 0 0 0 0 false false) 45 (0,0)):=(L3.block _ (Ac (show W2.drew.heap[w.heap.size+1]?=_ from HK.out.2.1)) (fun o e=>by omega)).trans HK.out.2.1;have C3:Below w.heap.size w W3:=(Cw HK.out.2.2).trans (L3.below (Cw HK.out.2.2).size (fun b o hb e=>by omega));have c3:=Ag k3;have c4:=Ag k4;have f4:=As k4;clear hS hSd hS3 L3 HC HY HK k3 hz;go_wp2;refine bodyPost_ret (v:=.agg (aR T P C B l S Q)) (by simp [results,Tryz.results166,go_sem,fun (x0 x1 x2 x3 x4 x5 x6:Value)=>Ag (Cr k4 x0 x1 x2 x3 x4 x5 x6)]) rfl ?_;exact ⟨rfl,C3.trans ((Ti W3 _ _ _ _ _ _ _ _).mono (by omega))⟩
  by_cases e2:reg=2
  ·subst e2
   have HE:Hid (I8 true P 2 v=P∧I9 true L 2 v=L∧Ju true S 2 v=(v%2==1)∧Jv true Q 2 v=(Q && (v%2==1))):=by show _∧_; simp [I8,I9,Ju,Jv]
   rw [HE.out.1,HE.out.2.1,HE.out.2.2.1,HE.out.2.2.2];clear HE;have HS:=Ad (fun W k=>Jbb W w.heap.size T P C B L S Q v k);have HY:=Ad (fun W=>Ck v W)
   obtain ⟨u,hu⟩:∃ u,Hid (u=v%256):=⟨_,rfl⟩
   obtain ⟨o,ho⟩:∃ o,Hid (o=(v%2==1)):=⟨_,rfl⟩
   obtain ⟨q,hq⟩:∃ q,Hid (q=(Q && o)):=⟨_,rfl⟩
   simp only [← hu.out,← ho.out,← hq.out] at HS HY ⊢;clear hu ho hq
   go_enter Tryz.func166,Tryz.ntmps166
   go_wp2_with fail;generalize (w.alloc (.cells (aR T P C B L S Q) 45)).alloc (.cells (aR 0 0 0 0 0 false false) 45)=W0 at *;refine (Jw _).mono ?_;rintro e W1 ⟨rfl,L1⟩;replace k0:=Aa k0 L1 (Ac k0);replace k1:=Aa k1 L1 (Ac k1);have C1:=Ae C0 L1;clear C0 L1;go_upto_region 3 with (fail);have kR:=Al W1 #[.func (.func 224) #[] #[],.func (.func 225) #[] #[],.func (.func 226) #[] #[],.func (.func 227) #[] #[]] 186
   have hz:w.heap.size≠W1.heap.size:=fun e=>by have:=Ac k0; omega
   replace k0:=Ax k0 (.cells #[.func (.func 224) #[] #[],.func (.func 225) #[] #[],.func (.func 226) #[] #[],.func (.func 227) #[] #[]] 186);replace k1:=Ax k1 (.cells #[.func (.func 224) #[] #[],.func (.func 225) #[] #[],.func (.func 226) #[] #[],.func (.func 227) #[] #[]] 186);replace C1:=Ae C1 ((Below.refl W1.heap.size W1).alloc (Nat.le_refl _) (.cells #[.func (.func 224) #[] #[],.func (.func 225) #[] #[],.func (.func 226) #[] #[],.func (.func 227) #[] #[]] 186))
   obtain ⟨zr,hzr⟩:∃ z,Hid (z=W1.heap.size):=⟨_,rfl⟩
   generalize W1.alloc (.cells #[.func (.func 224) #[] #[],.func (.func 225) #[] #[],.func (.func 226) #[] #[],.func (.func 227) #[] #[]] 186)=W2 at *;rw [← hzr.out] at kR hz ⊢;clear hzr;have HC:=Ad (HS.out W2.drew k0);clear HS;have hS:∀ j,W2.cell? ⟨zr,j,none⟩=#[.func (.func 224) #[] #[],.func (.func 225) #[] #[],.func (.func 226) #[] #[],.func (.func 227) #[] #[]][j]?:=Ag kR;have hSd:∀ j,W2.drew.cell? ⟨zr,j,none⟩=#[.func (.func 224) #[] #[],.func (.func 225) #[] #[],.func (.func 226) #[] #[],.func (.func 227) #[] #[]][j]?:=Ag (show W2.drew.heap[zr]?=_ from kR);have HK:=Ad (And.intro kR (And.intro k1 C1));clear kR k1 C1 k0
   go_region_held3 (fun w'=>∀ j,w'.cell? ⟨zr,j,none⟩=#[.func (.func 224) #[] #[],.func (.func 225) #[] #[],.func (.func 226) #[] #[],.func (.func 227) #[] #[]][j]?) (first | (with_reducible assumption) | go_keep) ((first | (go_at_call 98; refine (HY.out _).mono ?_; rintro e w' ⟨rfl,rfl⟩) | (go_at_call 226; refine HC.out.mono ?_; rintro e W3 ⟨rfl,k3,L3⟩; have hS3:∀ j,W3.cell? ⟨zr,j,none⟩=#[.func (.func 224) #[] #[],.func (.func 225) #[] #[],.func (.func 226) #[] #[],.func (.func 227) #[] #[]][j]?:=Ag ((L3.block zr (Ac (show W2.drew.heap[zr]?=_ from HK.out.1)) (fun o e=>hz e.symm)).trans HK.out.1); skip)))
   all_goals
    have k4:W3.heap[w.heap.size+1]?=some (.cells (aR 0 0 0 0 0 false false) 45 (0,0)):=(L3.block _ (Ac (show W2.drew.heap[w.heap.size+1]?=_ from HK.out.2.1)) (fun o e=>by omega)).trans HK.out.2.1;have C3:Below w.heap.size w W3:=(Cw HK.out.2.2).trans (L3.below (Cw HK.out.2.2).size (fun b o hb e=>by omega));have c3:=Ag k3;have c4:=Ag k4;have f4:=As k4;clear hS hSd hS3 L3 HC HY HK k3 hz;go_wp2;refine bodyPost_ret (v:=.agg (aR T P C B L o q)) (by simp [results,Tryz.results166,go_sem,fun (x0 x1 x2 x3 x4 x5 x6:Value)=>Ag (Cr k4 x0 x1 x2 x3 x4 x5 x6)]) rfl ?_;exact ⟨rfl,C3.trans ((Ti W3 _ _ _ _ _ _ _ _).mono (by omega))⟩
  by_cases e3:reg=3
  ·subst e3
   have HE:Hid (I8 true P 3 v=P∧I9 true L 3 v=L∧Ju true S 3 v=S∧Jv true Q 3 v=false):=by show _∧_; simp [I8,I9,Ju,Jv]
   rw [HE.out.1,HE.out.2.1,HE.out.2.2.1,HE.out.2.2.2];clear HE;have HS:=Ad (fun W k=>Jdf W w.heap.size T P C B L S Q v k);have HY:=Ad (fun W=>Ck v W)
   obtain ⟨u,hu⟩:∃ u,Hid (u=v%256):=⟨_,rfl⟩
   simp only [← hu.out] at HS HY ⊢;clear hu
   go_enter Tryz.func166,Tryz.ntmps166
   go_wp2_with fail;generalize (w.alloc (.cells (aR T P C B L S Q) 45)).alloc (.cells (aR 0 0 0 0 0 false false) 45)=W0 at *;refine (Jw _).mono ?_;rintro e W1 ⟨rfl,L1⟩;replace k0:=Aa k0 L1 (Ac k0);replace k1:=Aa k1 L1 (Ac k1);have C1:=Ae C0 L1;clear C0 L1;go_upto_region 3 with (fail);have kR:=Al W1 #[.func (.func 224) #[] #[],.func (.func 225) #[] #[],.func (.func 226) #[] #[],.func (.func 227) #[] #[]] 186
   have hz:w.heap.size≠W1.heap.size:=fun e=>by have:=Ac k0; omega
   replace k0:=Ax k0 (.cells #[.func (.func 224) #[] #[],.func (.func 225) #[] #[],.func (.func 226) #[] #[],.func (.func 227) #[] #[]] 186);replace k1:=Ax k1 (.cells #[.func (.func 224) #[] #[],.func (.func 225) #[] #[],.func (.func 226) #[] #[],.func (.func 227) #[] #[]] 186);replace C1:=Ae C1 ((Below.refl W1.heap.size W1).alloc (Nat.le_refl _) (.cells #[.func (.func 224) #[] #[],.func (.func 225) #[] #[],.func (.func 226) #[] #[],.func (.func 227) #[] #[]] 186))
   obtain ⟨zr,hzr⟩:∃ z,Hid (z=W1.heap.size):=⟨_,rfl⟩
   generalize W1.alloc (.cells #[.func (.func 224) #[] #[],.func (.func 225) #[] #[],.func (.func 226) #[] #[],.func (.func 227) #[] #[]] 186)=W2 at *;rw [← hzr.out] at kR hz ⊢;clear hzr;have HC:=Ad (HS.out W2.drew k0);clear HS;have hS:∀ j,W2.cell? ⟨zr,j,none⟩=#[.func (.func 224) #[] #[],.func (.func 225) #[] #[],.func (.func 226) #[] #[],.func (.func 227) #[] #[]][j]?:=Ag kR;have hSd:∀ j,W2.drew.cell? ⟨zr,j,none⟩=#[.func (.func 224) #[] #[],.func (.func 225) #[] #[],.func (.func 226) #[] #[],.func (.func 227) #[] #[]][j]?:=Ag (show W2.drew.heap[zr]?=_ from kR);have HK:=Ad (And.intro kR (And.intro k1 C1));clear kR k1 C1 k0
   go_region_held3 (fun w'=>∀ j,w'.cell? ⟨zr,j,none⟩=#[.func (.func 224) #[] #[],.func (.func 225) #[] #[],.func (.func 226) #[] #[],.func (.func 227) #[] #[]][j]?) (first | (with_reducible assumption) | go_keep) ((first | (go_at_call 98; refine (HY.out _).mono ?_; rintro e w' ⟨rfl,rfl⟩) | (go_at_call 227; refine HC.out.mono ?_; rintro e W3 ⟨rfl,k3,L3⟩; have hS3:∀ j,W3.cell? ⟨zr,j,none⟩=#[.func (.func 224) #[] #[],.func (.func 225) #[] #[],.func (.func 226) #[] #[],.func (.func 227) #[] #[]][j]?:=Ag ((L3.block zr (Ac (show W2.drew.heap[zr]?=_ from HK.out.1)) (fun o e=>hz e.symm)).trans HK.out.1); skip)))
   all_goals
    have k4:W3.heap[w.heap.size+1]?=some (.cells (aR 0 0 0 0 0 false false) 45 (0,0)):=(L3.block _ (Ac (show W2.drew.heap[w.heap.size+1]?=_ from HK.out.2.1)) (fun o e=>by omega)).trans HK.out.2.1;have C3:Below w.heap.size w W3:=(Cw HK.out.2.2).trans (L3.below (Cw HK.out.2.2).size (fun b o hb e=>by omega));have c3:=Ag k3;have c4:=Ag k4;have f4:=As k4;clear hS hSd hS3 L3 HC HY HK k3 hz;go_wp2;refine bodyPost_ret (v:=.agg (aR T P C B L S false)) (by simp [results,Tryz.results166,go_sem,fun (x0 x1 x2 x3 x4 x5 x6:Value)=>Ag (Cr k4 x0 x1 x2 x3 x4 x5 x6)]) rfl ?_;exact ⟨rfl,C3.trans ((Ti W3 _ _ _ _ _ _ _ _).mono (by omega))⟩
  exfalso
  omega
 ·have HE:Hid (I8 true P reg v=P∧I9 true L reg v=L∧Ju true S reg v=S∧Jv true Q reg v=Q):=by
   show _∧_
   have n0:¬ reg=0:=by omega
   have n1:¬ reg=1:=by omega
   have n2:¬ reg=2:=by omega
   have n3:¬ reg=3:=by omega
   simp [I8,I9,Ju,Jv,n0,n1,n2,n3]
  rw [HE.out.1,HE.out.2.1,HE.out.2.2.1,HE.out.2.2.2];clear HE
  by_cases r0:0≤reg
  all_goals
   go_enter Tryz.func166,Tryz.ntmps166
   go_wp2_with fail;generalize (w.alloc (.cells (aR T P C B L S Q) 45)).alloc (.cells (aR 0 0 0 0 0 false false) 45)=W0 at *;refine (Jw _).mono ?_;rintro e W1 ⟨rfl,L1⟩;replace k0:=Aa k0 L1 (Ac k0);replace k1:=Aa k1 L1 (Ac k1);have C1:=Ae C0 L1;clear C0 L1
   have r4:decide (0≤reg)=true→decide (reg<4)=false:=fun h=>decide_eq_false (fun h'=>hr ⟨of_decide_eq_true h,h'⟩)
   first | (have r4:¬ reg<4:=fun h=>hr ⟨(by omega),h⟩; clear hr; go_upto_region 4 with (fail); skip) | (clear hr; go_upto_region 4 with (fail))
   have kA:=Ax k0 (.cells #[.func (.func 224) #[] #[],.func (.func 225) #[] #[],.func (.func 226) #[] #[],.func (.func 227) #[] #[]] 186);have kB:=Ax k1 (.cells #[.func (.func 224) #[] #[],.func (.func 225) #[] #[],.func (.func 226) #[] #[],.func (.func 227) #[] #[]] 186);replace C1:=Ae C1 ((Below.refl W1.heap.size W1).alloc (Nat.le_refl _) (.cells #[.func (.func 224) #[] #[],.func (.func 225) #[] #[],.func (.func 226) #[] #[],.func (.func 227) #[] #[]] 186));generalize W1.alloc (.cells #[.func (.func 224) #[] #[],.func (.func 225) #[] #[],.func (.func 226) #[] #[],.func (.func 227) #[] #[]] 186)=W2 at *;have c3:=Ag kA;have c4:=Ag kB;have f4:=As kB;clear kA k0 k1;go_wp2
   refine bodyPost_ret (v:=.agg (aR T P C B L S Q)) (by simp [results,Tryz.results166,go_sem,fun (x0 x1 x2 x3 x4 x5 x6:Value)=>Ag (Cr kB x0 x1 x2 x3 x4 x5 x6)]) rfl ?_;exact ⟨rfl,C1.trans ((Ti W2 _ _ _ _ _ _ _ _).mono (by omega))⟩
end Go.Proofs.YtgcmimcalmjaaaaGreatDoor
