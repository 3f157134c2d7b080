import Derived.Test.YtgcmimcalmjaaaaGreatDoorKC
namespace Go.Proofs.YtgcmimcalmjaaaaGreatDoor
set_option maxHeartbeats 1000000
set_option linter.unusedVariables false
set_option linter.unusedSimpArgs false
open Go.ChangeShapes Go.WideShapes Go.ChangeAt Go.RowKit
theorem Jbi {W:World} {lo g n c:Nat} {e:TypeId} {vs:List Value} (h:W.ownsRow lo e 1 (.slice (some ⟨g,0,none⟩) n c) n vs) (q:Nat) (y:Value):(W.setCell ⟨g,q,none⟩ y).ownsRow lo e 1 (.slice (some ⟨g,0,none⟩) n c) n (vs.set q y):=by
 refine ⟨by rw [List.length_set]; exact h.1,?_⟩
 rcases h.2 with ⟨e,_⟩ | ⟨g',cap,cur,hv,hb,hg,h1,h2,h3,h4⟩
 ·cases e
 ·have hv':=hv
  simp only [Value.slice.injEq,Option.some.injEq,Addr.mk.injEq,and_true,true_and] at hv';obtain ⟨rfl,rfl⟩:=hv';refine Or.inr ⟨g,c,cur.setIfInBounds q y,rfl,hb,Af hg _,h1,h2,by simpa using h3,?_⟩;rw [Nat.mul_one] at h4 ⊢;rw [Array.toList_setIfInBounds,List.take_set,h4]
def Cz (m:Nat) (ov:Nat→Value):List Value:=(List.range m).map ov
theorem Fp (m:Nat) (ov:Nat→Value):(Cz m ov).length=m:=by unfold Cz; simp
theorem Hh {m i:Nat} (ov:Nat→Value) (hi:i<m):(Cz m ov)[i]?=some (ov i):=by unfold Cz; simp [hi]
theorem Xf {m i:Nat} {ov:Nat→Value} {u:Value} (h:(Cz m ov)[i]?=some u):i<m∧u=ov i:=by
 rcases Nat.lt_or_ge i m with hi | hi
 ·rw [Hh ov hi] at h; exact ⟨hi,(Option.some.inj h).symm⟩
 ·rw [List.getElem?_eq_none (by rw [Fp]; exact hi)] at h; cases h
theorem Hi {m:Nat} {f g:Nat→Value} (h:∀ i,i<m→f i=g i):Cz m f=Cz m g:=List.map_congr_left (fun i hi=>h i (List.mem_range.1 hi))
theorem To (m q:Nat) (f:Nat→Value) (y:Value):(Cz m f).set q y=Cz m (fun i=>if i=q then y else f i):=by
 apply List.ext_getElem?
 intro j
 by_cases hj:j<m
 ·rw [Hh _ hj]
  by_cases e:j=q
  ·subst e
   rw [if_pos rfl,List.getElem?_set_self (by rw [Fp]; exact hj)]
  ·rw [if_neg e,List.getElem?_set_ne (by omega),Hh _ hj]
 ·rw [List.getElem?_eq_none (by rw [List.length_set,Fp]; omega),List.getElem?_eq_none (by rw [Fp]; omega)]
theorem Ba.vals {w:World} {F:Nat→Nat→Prop} {a:Option Addr} {m cap:Nat} {ln:Nat→Nat} {f:Nat→Nat→Int} (H:Ba .i64 w F (.slice a m cap) m ln f):∃ ov:Nat→Value,(∀ i,i<m→Ints .i64 w F (ov i) (ln i) (f i))∧∀ i,i<m→∃ b off,a=some ⟨b,off,none⟩∧w.cell? ⟨b,off+i,none⟩=some (ov i):=by
 obtain ⟨a',cap',e,hm,hF,hc⟩:=H;simp only [Value.slice.injEq,true_and] at e;obtain ⟨rfl,rfl⟩:=e
 have key:∀ i,∃ u:Value,i<m→Ints .i64 w F u (ln i) (f i)∧∃ b off,a=some ⟨b,off,none⟩∧w.cell? ⟨b,off+i,none⟩=some u:=fun i=>by
  by_cases hi:i<m
  ·obtain ⟨b,off,u,h1,h2,h3⟩:=hc i hi
   exact ⟨u,fun _=>⟨h3,b,off,h1,h2⟩⟩
  ·exact ⟨undef,fun h=>absurd h hi⟩
 obtain ⟨ov,hov⟩:=Classical.axiomOfChoice key;exact ⟨ov,fun i hi=>(hov i hi).1,fun i hi=>(hov i hi).2⟩
theorem Zf (W:World) {o:Oper} {a:Act} {K:Act→World→Prop} {Q:Exit→Act→World→Prop} (s x:Operand) (hop:o.op=Op.call { callee:=Callee.builtin Builtin.append,args:=#[s,x],argTypes:=#[22,22] })
  (g0:Nat) (hs:a.eval s=.slice (some ⟨g0,0,none⟩) 0 0) (h0:W.heap[g0]?=some (.cells #[] 25 (0,0))) (lo:Nat) (hlo:lo≤g0) (ua:Option Addr) (m ux:Nat) (ov:Nat→Value) (hm:m≤1048576) (hx:a.eval x=.slice ua m ux) (hc:∀ i,i<m→∃ b off,ua=some ⟨b,off,none⟩∧W.cell? ⟨b,off+i,none⟩=some (ov i))
  (h:∀ g c W',W'.ownsRow lo 25 1 (.slice (some ⟨g,0,none⟩) m c) m (Cz m ov)→Below W.heap.size W W'→(g=g0∨W.heap.size≤g)→K (a.put o.dst (.slice (some ⟨g,0,none⟩) m c)) W'):o.wp Tryz.prog a W K Q:=by
 obtain ⟨i0,hi,hz0,hz1,hz2⟩:=info_parts Jl
 by_cases hn:m=0
 ·subst hn
  have hsrc:Src Tryz.prog i0.size 22 (.slice ua 0 ux) 0 [] W:=by
   cases ua with
   | none=>exact Src.ofNil W Tryz.underlying22 ux
   | some ad=>exact Src.ofSlice W Tryz.underlying22 ad 0 ux [] (by simp) (fun j v hh=>by simp at hh) (fun v hh=>by cases hh)
  have hrun:=run_append_nothing (P:=Tryz.prog) W 22 22 o.type 25 i0 Tryz.underlying22 hi (some ⟨g0,0,none⟩) 0 0 (Nat.le_refl _) _ hsrc;unfold Oper.wp
  simp [execOp,hop,resolve,invoke,builtin,hs,hx,hrun,Result.andThen]
  exact h g0 0 W ⟨rfl,Or.inr ⟨g0,0,#[],rfl,hlo,h0,Nat.le_refl _,by simp,rfl,rfl⟩⟩ (Below.refl _ _) (Or.inl rfl)
 ·obtain ⟨rb,ro,rfl,-⟩:=hc 0 (by omega)
  have hcs:∀ j u,(Cz m ov)[j]?=some u→W.cell? ((⟨rb,ro,none⟩:Addr).add j)=some u:=fun j u hu=>by
   obtain ⟨hj,rfl⟩:=Xf hu;obtain ⟨b,off,e,hcj⟩:=hc j hj;simp only [Option.some.injEq,Addr.mk.injEq,and_true] at e;obtain ⟨rfl,rfl⟩:=e;rw [J9];exact hcj
  obtain ⟨v',w',hrun,r1,r2⟩:=run_append_arg_grows (P:=Tryz.prog) W 22 o.type 25 i0 (.slice none 0 0) 1 24 Tryz.underlying22 hi hz0 hz1 hz2 rfl (by decide) ⟨g0,0,none⟩ 0 0 [] rfl (fun j u hh=>by simp at hh) ⟨rb,ro,none⟩ m ux (Cz m ov) (by rw [Fp,Nat.mul_one]) hcs (by omega) (by unfold maxLen; omega) (by omega)
  have hon:w'.ownsRow W.heap.size 25 1 v' m (Cz m ov):=by simpa using r1
  obtain ⟨g',cap2,rfl,hg,hlt⟩:=hon.form (by omega);have L:Below W.heap.size W w':=(Below.refl _ _).grown r2 (Nat.le_refl _) (fun _ e=>by cases e);unfold Oper.wp
  simp [execOp,hop,resolve,invoke,builtin,hs,hx,hrun,Result.andThen]
  exact h g' cap2 w' (Mk hon (by have:=Ac h0; omega)) L (Or.inr hg)
theorem Qc (W:World) {ops:Array Oper} {rest:List Oper} {o:Oper} {a:Act} {Q:Exit→Act→World→Prop} (hg:o.guard=none) (s x:Operand) (hop:o.op=Op.call { callee:=Callee.builtin Builtin.append,args:=#[s,x],argTypes:=#[22,22] })
  (g0:Nat) (hs:a.eval s=.slice (some ⟨g0,0,none⟩) 0 0) (h0:W.heap[g0]?=some (.cells #[] 25 (0,0))) (lo:Nat) (hlo:lo≤g0) (ua:Option Addr) (m ux:Nat) (ov:Nat→Value) (hm:m≤1048576) (hx:a.eval x=.slice ua m ux) (hc:∀ i,i<m→∃ b off,ua=some ⟨b,off,none⟩∧W.cell? ⟨b,off+i,none⟩=some (ov i))
  (h:∀ g c W',W'.ownsRow lo 25 1 (.slice (some ⟨g,0,none⟩) m c) m (Cz m ov)→Below W.heap.size W W'→(g=g0∨W.heap.size≤g)→wpList Tryz.prog ops Q rest (a.put o.dst (.slice (some ⟨g,0,none⟩) m c)) W'):wpList Tryz.prog ops Q (o :: rest) a W :=
 wpList_plain hg fun K hK=>Zf W s x hop g0 hs h0 lo hlo ua m ux ov hm hx hc (fun g c W' r1 r2 r3=>hK _ _ (h g c W' r1 r2 r3))
structure SA (W:World) (lo:Nat) (v:Value) (m q:Nat) (ob:Nat→Option Nat) (iv ov:Nat→Value) (ln:Nat→Nat) (f:Nat→Nat→Int):Prop where
 own:W.ownsRow lo 25 1 v m (Cz m (fun i=>if i<q then iv i else ov i))
 rows:∀ i,i<q→A5 W lo (ob i) (iv i) (ln i) (f i)
 inj:∀ i j,i<q→j<q→i≠j→Pz (ob i) (ob j)
 dj:∀ g,v.ownBlock=some g→∀ i,i<q→ob i≠some g
 small:m≤1048576
section
variable {W W':World} {lo m q:Nat} {v:Value} {ob:Nat→Option Nat} {iv ov:Nat→Value} {ln:Nat→Nat} {f:Nat→Nat→Int} {R:Nat→Nat→Prop}
theorem SA.keep (H:SA W lo v m q ob iv ov ln f) (hw:Wrote R W W') (h1:∀ g o,v.ownBlock=some g→¬ R g o) (h2:∀ i b o,i<q→ob i=some b→¬ R b o):SA W' lo v m q ob iv ov ln f :=
 ⟨Ml H.own (fun g hg=>hw.block g (Di H.own hg).2 (fun o=>h1 g o hg)),fun i hi=>(H.rows i hi).keep hw (fun b hb _ _ o=>h2 i b o hi hb),H.inj,H.dj,H.small⟩
theorem SA.below (H:SA W lo v m q ob iv ov ln f) (L:Below W.heap.size W W'):SA W' lo v m q ob iv ov ln f:=H.keep (Ab L Aj) (fun _ _ _ x=>x) (fun _ _ _ _ _ x=>x)
theorem SA.mono {lo':Nat} (H:SA W lo v m q ob iv ov ln f) (h:lo'≤lo):SA W lo' v m q ob iv ov ln f :=
 ⟨Mk H.own h,fun i hi=>(H.rows i hi).mono h,H.inj,H.dj,H.small⟩
theorem SA.form (H:SA W lo v m q ob iv ov ln f):∃ a c,v=.slice a m c:=by
 rcases H.own.2 with ⟨e,e0⟩ | ⟨g,c,cur,hv,-⟩
 ·have:m=0:=e0
  exact ⟨none,0,by rw [e,this]⟩
 ·exact ⟨_,_,hv⟩
theorem SA.cell {g c:Nat} (H:SA W lo (.slice (some ⟨g,0,none⟩) m c) m q ob iv ov ln f) {i:Nat} (hi:i<m):W.cell? ⟨g,i,none⟩=some (if i<q then iv i else ov i):=by
 have:=Gs H.own i _ (Hh _ hi)
 rwa [J9,Nat.zero_add] at this
theorem SA.next {g c:Nat} {o:Option Nat} {y:Value} (H:SA W lo (.slice (some ⟨g,0,none⟩) m c) m q ob iv ov ln f) (RN:A5 W lo o y (ln q) (f q)) (h1:o≠some g) (h2:∀ i,i<q→Pz (ob i) o) :
  SA (W.setCell ⟨g,q,none⟩ y) lo (.slice (some ⟨g,0,none⟩) m c) m (q+1) (fun i=>if i=q then o else ob i) (fun i=>if i=q then y else iv i) ov ln f:=by
 have hob:(Value.slice (some ⟨g,0,none⟩) m c).ownBlock=some g:=rfl;have hw:Wrote (fun b _=>b=g) W (W.setCell ⟨g,q,none⟩ y):=Wrote.setCell (R:=fun b _=>b=g) (Wrote.refl _ W) (fun _=>rfl) _;have e0:=Jbi H.own q y;rw [To] at e0;refine ⟨?_,fun i hi=>?_,fun i j hi hj hij=>?_,fun g' hg i hi=>?_,H.small⟩
 ·rw [Hi (g:=fun i=>if i=q then y else if i<q then iv i else ov i) (fun i hi=>?_)]
  ·exact e0
  ·show (if i<q+1 then (if i=q then y else iv i) else ov i)=_
   by_cases e:i=q
   ·rw [if_pos (by omega),if_pos e,if_pos e]
   ·rw [if_neg e]
    by_cases h:i<q
    ·rw [if_pos (by omega),if_neg e,if_pos h]
    ·rw [if_neg (by omega),if_neg e,if_neg h]
 ·by_cases e:i=q
  ·subst e
   simp only [if_true];exact RN.keep hw (fun b hb _ _ o hR=>h1 (hb.trans (congrArg some hR)))
  ·simp only [if_neg e]
   exact (H.rows i (by omega)).keep hw (fun b hb _ _ o hR=>H.dj g hob i (by omega) (hb.trans (congrArg some hR)))
 ·by_cases e:i=q
  ·rw [if_pos e,if_neg (by omega)]
   exact fun b hb hb'=>h2 j (by omega) b hb' hb
  ·by_cases e':j=q
   ·rw [if_neg e,if_pos e']
    exact h2 i (by omega)
   ·rw [if_neg e,if_neg e']
    exact H.inj i j (by omega) (by omega) hij
 ·obtain rfl:g=g':=by simpa [Value.ownBlock] using hg
  by_cases e:i=q
  ·rw [if_pos e]; exact h1
  ·rw [if_neg e]; exact H.dj g hob i (by omega)
def slA:Value→Option Addr
 | .slice a _ _=>a
 | _=>none
def slC:Value→Nat
 | .slice _ _ c=>c
 | _=>0
theorem SA.onD (H:SA W lo v m m ob iv ov ln f) {D:Nat→Prop} (hD:∀ b,(v.ownBlock=some b∨∃ i,i<m∧ob i=some b)→D b) (hs:psum ln m≤1099511627776):Co W D v m ln f:=by
 have hsl:∀ i,i<m→iv i=.slice (slA (iv i)) (ln i) (slC (iv i))∧Cm W (fun b=>ob i=some b) (slA (iv i)) (ln i) (f i):=fun i hi=>by
  obtain ⟨a,x,e,hS⟩:=(H.rows i hi).sl;rw [e];exact ⟨rfl,hS⟩
 rcases id H.own.2 with ⟨e,e0⟩ | ⟨g,c,cur,hv,hb,hg,k1,k2,k3,k4⟩
 ·have hq:m=0:=e0
  subst hq;subst e;refine ⟨fun _=>none,fun _=>0,⟨⟨none,0,rfl,by omega,fun i hi=>absurd hi (Nat.not_lt_zero _)⟩,fun i hi=>absurd hi (Nat.not_lt_zero _),fun i j hi=>absurd hi (Nat.not_lt_zero _),hs⟩,fun i hi=>absurd hi (Nat.not_lt_zero _),fun i hi=>absurd hi (Nat.not_lt_zero _),fun a cap e b o hF=>absurd hF (Bo _ _ _),fun i hi=>absurd hi (Nat.not_lt_zero _)⟩
 ·subst hv
  have hob:(Value.slice (some ⟨g,0,none⟩) m c).ownBlock=some g:=rfl;refine ⟨fun i=>slA (iv i),fun i=>slC (iv i),⟨⟨_,_,rfl,H.small,fun i hi=>⟨g,0,rfl,?_,fun j hj hF=>H.dj g hob j hj ((hsl j hj).2.on _ _ hF)⟩⟩,fun i hi=>(hsl i hi).2.free,fun i j hi hj hij b o h1 h2=>H.inj i j hi hj hij b ((hsl i hi).2.on _ _ h1) ((hsl j hj).2.on _ _ h2),hs⟩,fun i hi=>(hsl i hi).2.row,fun i hi b o hF=>hD b (Or.inr ⟨i,hi,(hsl i hi).2.on _ _ hF⟩),fun a cap e b o hF=>?_,fun i hi=>(hsl i hi).2.small⟩
  ·rw [Nat.zero_add,H.cell hi,if_pos hi]
   exact congrArg some (hsl i hi).1
  ·simp only [Value.slice.injEq,true_and] at e
   obtain ⟨rfl,-⟩:=e;obtain ⟨off,e,_,_⟩:=hF;simp only [Option.some.injEq,Addr.mk.injEq] at e;rw [← e.1];exact hD _ (Or.inl rfl)
end
theorem Jbj (w:World) (F:Nat→Nat→Prop) (u:Value) (m:Nat) (ln:Nat→Nat) (f:Nat→Nat→Int) (H:Ba .i64 w F u m ln f) :
  Calls Tryz.prog 135 #[u] w fun e w'=>∃ v ov,e=.returned v∧w'.ownsRow w.heap.size 25 1 v m (Cz m ov)∧(∀ i,i<m→Ints .i64 w F (ov i) (ln i) (f i))∧Below w.heap.size w w':=by
 obtain ⟨ua,ucap,rfl,um,-,-⟩:=id H;obtain ⟨ov,h1,h2⟩:=H.vals;clear H
 have hq:∀ W:World,(binOp .eql 22 (.slice ua m ucap) (.slice none 0 0)).run Tryz.prog W=.ok (.bool ua.isNone) W:=fun W=>Lib.run_eql_slice_nil W 22 25 ua m ucap 0 0 Tryz.underlying22
 cases ua with
 | none =>
  have hq':∀ W:World,(binOp .eql 22 (.slice none m ucap) (.slice none 0 0)).run Tryz.prog W=.ok (.bool true) W:=hq;clear hq
  have hn:m=0:=by
   rcases Nat.eq_zero_or_pos m with h | h
   ·exact h
   ·obtain ⟨b,off,e,-⟩:=h2 0 h
    cases e
  subst hn;have HI:=Ad h1;clear h1 h2
  go_enter Tryz.func135,Tryz.ntmps135
  go_wp2;go_ret;exact ⟨_,ov,rfl,⟨rfl,Or.inl ⟨rfl,rfl⟩⟩,HI.out,Below.refl _ _⟩
 | some ua =>
  have hq':∀ W:World,(binOp .eql 22 (.slice (some ua) m ucap) (.slice none 0 0)).run Tryz.prog W=.ok (.bool false) W:=hq;clear hq;have L0:Below w.heap.size w (w.alloc (.cells #[] 25)):=(Below.refl _ _).alloc (Nat.le_refl _) _;have k0:=Al w #[] 25;have HI:=Ad h1
  have HC:=Ad (show ∀ i,i<m→∃ b off,some ua=some ⟨b,off,none⟩∧(w.alloc (.cells #[] 25)).cell? ⟨b,off+i,none⟩=some (ov i) from fun i hi=>by
   obtain ⟨b,off,e,hc⟩:=h2 i hi
   exact ⟨b,off,e,(L0.cell (block_lt_of_cell hc)).trans hc⟩)
  clear h1 h2
  go_enter Tryz.func135,Tryz.ntmps135
  go_wp2_with (at_builtin; refine Qc _ rfl _ _ rfl w.heap.size rfl k0 w.heap.size (Nat.le_refl _) (some ua) m ucap ov um rfl HC.out ?_);rintro p x W2 R2 L2 hp;have L3:=L0.trans (L2.mono (by omega));have HR:=Ad R2;clear L0 L2 R2;go_wp2;go_ret;exact ⟨_,ov,rfl,HR.out,HI.out,L3⟩
theorem Oy (w:World) (F:Nat→Nat→Prop) (u:Value) (m:Nat) (ln:Nat→Nat) (f:Nat→Nat→Int) (H:Ba .i64 w F u m ln f) :
  Calls Tryz.prog 105 #[u] w fun e w'=>∃ v ob iv ov,e=.returned v∧SA w' w.heap.size v m m ob iv ov ln f∧Below w.heap.size w w':=by
 obtain ⟨ua,ucap,rfl,um,-,-⟩:=id H;have HC:=Ad (Jbj w F _ m ln f H);clear H
 go_enter Tryz.func105,Tryz.ntmps105
 go_wp2_with fail;refine HC.out.mono ?_;rintro e W1 ⟨v,ov,rfl,O1,HI,L1⟩
 have S1:SA W1 w.heap.size v m 0 (fun _=>none) ov ov ln f:=⟨by rw [Hi (g:=ov) (fun i hi=>if_neg (Nat.not_lt_zero _))]; exact O1,fun i hi=>absurd hi (Nat.not_lt_zero _),fun i j hi=>absurd hi (Nat.not_lt_zero _),fun g hg i hi=>absurd hi (Nat.not_lt_zero _),um⟩
 obtain ⟨va,vc,rfl⟩:=S1.form;have HV:=Ad HI;clear HI O1 HC;go_wp2
 go_loopw [10] (fun i wr=>∃ (q:Nat) (ob:Nat→Option Nat) (iv:Nat→Value),q≤m∧i=.i q∧SA wr w.heap.size (.slice va m vc) m q ob iv ov ln f∧Below w.heap.size w wr) (fun i _=>m-(intOf i).toNat)
 case atStart=>exact ⟨0,_,_,Nat.zero_le _,rfl,S1,L1⟩
 case round =>
  obtain ⟨q,ob,iv,hq,rfl,hS,hL⟩:=hrel;clear S1 L1
  by_cases hqm:q<m
  ·have hqm':(q:Int)<(m:Int):=by omega
   obtain ⟨g,cur,rfl,hlo,hg⟩:∃ g cur,va=some ⟨g,0,none⟩∧w.heap.size≤g∧wr.heap[g]?=some (.cells cur 25 (0,0)):=by
    rcases id hS.own.2 with ⟨e,e0⟩ | ⟨g,c,cur,hv,hb,hg,-⟩
    ·have h0:m=0:=e0
     omega
    ·simp only [Value.slice.injEq,true_and] at hv
     exact ⟨g,cur,hv.1,hb,hg⟩
   have hc:wr.cell? ⟨g,q,none⟩=some (ov q):=by
    have:=hS.cell hqm
    rwa [if_neg (Nat.lt_irrefl _)] at this
   have HI:=Ad (HV.out q hqm);obtain ⟨xa,xc,hov,xn,-,-⟩:=id HI.out;rw [hov] at hc HI
   have wq:IntKind.i64.wrap (q:Int)=q:=by rw [IntKind.wrap_i64]; omega
   have HS:=Ad hS;clear hS;go_wp2_with fail;refine (Gp _ F _ (ln q) (f q) (HI.out.keep (Ab hL Aj) (fun _ _ _ x=>x))).mono ?_;rintro e W2 ⟨y,o,rfl,RN,L2⟩;obtain ⟨ra,rx,rfl⟩:=RN.form;have hbl:=Ac hg;have hg2:=Aa hg L2 hbl;have f2:=As hg2 q;have c2:W2.cell? ⟨g,q,none⟩=some (.slice xa (ln q) xc):=(L2.cell hbl).trans hc;have S2:=Ad (HS.out.below L2);have LB:=Ad (Ae hL L2)
   have fr:∀ b,o=some b→wr.heap.size≤b:=fun b hb=>by subst hb; exact RN.lt.1
   have hin:∀ i b,i<q→ob i=some b→b<wr.heap.size:=fun i b hi hb=>by have:=HS.out.rows i hi; rw [hb] at this; exact this.lt.2
   have RN':=Ad (RN.mono hL.size);clear HS RN hL L2 hg hc HI hg2;go_wp2;go_roundw
   case rel=>exact ⟨q+1,_,_,by omega,by go_num,S2.out.next RN'.out (fun e=>by have:=fr g e; omega) (fun i hi b h1 h2=>by have:=fr b h2; have:=hin i b hi h1; omega),LB.out.setCell hlo _⟩
   case measure=>simp [intOf]; omega
  ·have hqm':¬ (q:Int)<(m:Int):=by omega
   obtain rfl:q=m:=by omega
   have HP:=Ad (And.intro hS hL);clear hS hL HV;go_wp2;go_ret;exact ⟨_,rfl,⟨ob,iv,ov,HP.out.1⟩,HP.out.2⟩
theorem Xg (w:World) (F:Nat→Nat→Prop) (u:Value) (m:Nat) (ln:Nat→Nat) (f:Nat→Nat→Int) (H:Ba .i64 w F u m ln f) :
  Calls Tryz.prog 72 #[.agg #[u]] w fun e w'=>∃ v ob iv ov,e=.returned (.agg #[v])∧SA w' w.heap.size v m m ob iv ov ln f∧Below w.heap.size w w':=by
 have L0:Below w.heap.size w ((w.alloc (.cells #[u] 41)).alloc (.cells #[.slice none 0 0] 41)):=((Below.refl _ _).alloc (Nat.le_refl _) _).alloc (by simp) _;have K0:=H.keep (Ab L0 Aj) (fun _ _ _ x=>x);obtain ⟨ua,ucap,rfl,un,-,-⟩:=H;have b1:((w.alloc (.cells #[.slice ua m ucap] 41)).alloc (.cells #[.slice none 0 0] 41)).heap[w.heap.size]?=some (.cells #[.slice ua m ucap] 41 (0,0)):=Ax (Al w _ _) _
 have r1:((w.alloc (.cells #[.slice ua m ucap] 41)).alloc (.cells #[.slice none 0 0] 41)).heap[w.heap.size+1]?=some (.cells #[.slice none 0 0] 41 (0,0)):=by simpa using Al (w.alloc (.cells #[.slice ua m ucap] 41)) #[.slice none 0 0] 41
 go_enter Tryz.func72,Tryz.ntmps72
 go_wp2_with fail;generalize ((w.alloc (.cells #[.slice ua m ucap] 41)).alloc (.cells #[.slice none 0 0] 41))=w1 at *;have cb:=Ag b1;have hr1:=Ac r1;go_wp2_with fail;refine (Oy _ F _ m ln f K0).mono ?_;rintro e w2 ⟨q,ob,iv,ov,rfl,O2,L2⟩;obtain ⟨qa,qc,rfl⟩:=O2.form;have cb2:=Ag (Aa b1 L2 (Ac b1));have cr2:=Ag (Aa r1 L2 (Ac r1));have fr2:=As (Aa r1 L2 (Ac r1));have HO2:=Ad O2;clear O2 K0 cb b1 r1;go_wp2;refine bodyPost_ret (v:=.agg #[.slice qa m qc]) (by simp [results,Tryz.results72,go_sem,cr2]) rfl ?_;have TT:=Wrote.setCell (R:=fun b _=>b=w.heap.size+1) (Wrote.refl _ w2) (o:=0) (b:=w.heap.size+1) (fun _=>rfl) (.slice qa m qc)
 have O3:=HO2.out.keep TT (fun g o hg (h:g=_)=>by have h1:=Di HO2.out.own hg; have h2:w1.heap.size≤g:=h1.1; omega) (fun i b o hi hb (h:b=_)=>by have h1:=HO2.out.rows i hi; rw [hb] at h1; have h2:w1.heap.size≤b:=h1.lt.1; omega);exact ⟨_,ob,iv,ov,rfl,O3.mono (show w.heap.size≤w1.heap.size by omega),(L0.trans (L2.mono L0.size)).setCell (by simp) _⟩
end Go.Proofs.YtgcmimcalmjaaaaGreatDoor
