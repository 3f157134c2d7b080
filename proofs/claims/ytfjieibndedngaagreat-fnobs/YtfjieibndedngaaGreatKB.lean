import Derived.Test.YtfjieibndedngaaGreatA8
namespace Go.Proofs.YtfjieibndedngaaGreat
set_option linter.unusedVariables false
set_option linter.unusedSimpArgs false
open Go.ChangeShapes Go.WideShapes Go.ChangeAt Go.RowKit
theorem Tk {W:World} {lo g n c:Nat} {e:TypeId} {vs:List Value} (h:W.ownsRow lo e 1 (.slice (some ⟨g,0,none⟩) n c) n vs) (hc:n+1≤c) (y:Value):(W.setCell ⟨g,n,none⟩ y).ownsRow lo e 1 (.slice (some ⟨g,0,none⟩) (n+1) c) (n+1) (vs++[y]):=by
 have hl:vs.length=n:=by have:=h.1; omega
 refine ⟨by simp; omega,?_⟩
 rcases h.2 with ⟨e,_⟩ | ⟨g',cap,cur,hv,hb,hg,h1,h2,h3,h4⟩
 ·cases e
 ·have hv':=hv
  simp only [Value.slice.injEq,Option.some.injEq,Addr.mk.injEq,and_true,true_and] at hv';obtain ⟨rfl,rfl⟩:=hv';refine Or.inr ⟨g,c,cur.setIfInBounds n y,rfl,hb,An hg _,hc,h2,by simpa using h3,?_⟩;rw [Nat.mul_one] at h3 h4 ⊢;rw [← h4]
  apply List.ext_getElem?
  intro k;rw [List.getElem?_take,List.getElem?_append,List.getElem?_take,List.length_take,Array.length_toList,Array.getElem?_toList,Array.getElem?_setIfInBounds]
  by_cases hk:k<n
  ·rw [if_pos (by omega),if_neg (by omega),if_pos (by omega),if_pos hk,Array.getElem?_toList]
  ·by_cases e:k=n
   ·subst e
    rw [if_pos (by omega),if_pos rfl,if_pos (by omega),if_neg (by omega)];rw [show k-min k cur.size=0 by omega]
    rfl
   ·rw [if_neg (by omega),if_neg (by omega),List.getElem?_eq_none (by simp; omega)]
theorem Gm {W:World} {lo g n c:Nat} {e:TypeId} {vs:List Value} (h:W.ownsRow lo e 1 (.slice (some ⟨g,0,none⟩) n c) n vs):∀ j u,vs[j]?=some u→W.cell? ((⟨g,0,none⟩:Addr).add j)=some u:=fun j u hu=>by
 have hl:vs.length=n:=by have:=h.1; omega
 rcases h.2 with ⟨e,_⟩ | ⟨g',cap,cur,hv,hb,hg,h1,h2,h3,h4⟩
 ·cases e
 ·simp only [Value.slice.injEq,Option.some.injEq,Addr.mk.injEq,and_true,true_and] at hv
  obtain ⟨rfl,rfl⟩:=hv;rw [F5,Nat.zero_add,Aj hg];rw [Nat.mul_one] at h4;rw [← h4,List.getElem?_take] at hu
  by_cases hj:j<n
  ·rw [if_pos hj,Array.getElem?_toList] at hu
   exact hu
  ·rw [if_neg hj] at hu
   cases hu
theorem P8 {W:World} {lo lo' n:Nat} {e:TypeId} {v:Value} {vs:List Value} (h:W.ownsRow lo' e 1 v n vs) (hl:lo≤lo'):W.ownsRow lo e 1 v n vs:=by
 refine ⟨h.1,?_⟩
 rcases h.2 with x | ⟨g',cap,cur,hv,hb,r⟩
 ·exact Or.inl x
 ·exact Or.inr ⟨g',cap,cur,hv,by omega,r⟩
theorem G7 {W W':World} {lo n:Nat} {e:TypeId} {v:Value} {vs:List Value} (h:W.ownsRow lo e 1 v n vs) (hb:∀ g,v.ownBlock=some g→W'.heap[g]?=W.heap[g]?):W'.ownsRow lo e 1 v n vs:=by
 refine ⟨h.1,?_⟩
 rcases h.2 with x | ⟨g',cap,cur,hv,hb',hg,r⟩
 ·exact Or.inl x
 ·exact Or.inr ⟨g',cap,cur,hv,hb',(hb g' (by rw [hv]; rfl)).trans hg,r⟩
theorem Dh {W:World} {lo n:Nat} {e:TypeId} {v:Value} {vs:List Value} (h:W.ownsRow lo e 1 v n vs) {g:Nat} (hg:v.ownBlock=some g):lo≤g∧g<W.heap.size:=by
 rcases h.2 with ⟨x,_⟩ | ⟨g',cap,cur,hv,hb',hg',r⟩
 ·rw [x] at hg; cases hg
 ·rw [hv] at hg
  obtain rfl:g'=g:=by simpa [Value.ownBlock] using hg
  exact ⟨hb',Af hg'⟩
theorem Og (W:World) {o:Oper} {a:Act} {K:Act→World→Prop} {Q:Exit→Act→World→Prop} (s x:Operand) (hop:o.op=Op.call { callee:=Callee.builtin Builtin.append,args:=#[s,x],argTypes:=#[24,24] })
  (lo:Nat) (ov:Value) (n:Nat) (vs:List Value) (hs:a.eval s=ov) (own:W.ownsRow lo 25 1 ov n vs) (hn:n<1048576) (hlo:lo≤W.heap.size) (q:Nat) (y:Value) (hy:y.oneCell'=true) (hx:a.eval x=.slice (some ⟨q,0,none⟩) 1 1) (hq:W.cell? ⟨q,0,none⟩=some y)
  (h:∀ g' c' W',W'.ownsRow lo 25 1 (.slice (some ⟨g',0,none⟩) (n+1) c') (n+1) (vs++[y])→Wrote (fun b _=>ov.ownBlock=some b) W W'→(ov.ownBlock=some g'∨W.heap.size≤g')→K (a.put o.dst (.slice (some ⟨g',0,none⟩) (n+1) c')) W'):o.wp Tryz.prog a W K Q:=by
 obtain ⟨i0,hi,hz0,hz1,hz2⟩:=info_parts Ni
 have hl:vs.length=n:=by have:=own.1; omega
 have hnews:∀ j u,[y][j]?=some u→W.cell? ((⟨q,0,none⟩:Addr).add j)=some u:=fun j u hh=>by
  cases j with
  | zero=>simp at hh; rw [← hh]; exact hq
  | succ j=>simp at hh
 have h1:∀ u∈[y],u.oneCell'=true:=fun u hu=>by simp at hu; rw [hu]; exact hy
 rcases id own.2 with ⟨e,e0⟩ | ⟨g,c,cur,hv,hb,hg,k1,k2,k3,k4⟩
 ·obtain ⟨g',c',W',hrun,r1,r2,r3,r4⟩:=run_append_lies (P:=Tryz.prog) (w:=W) 24 o.type lo 25 i0 (.slice none 0 0) 1 24 Tryz.underlying24 hi hz0 hz1 hz2 rfl (by decide) ov n vs own ⟨q,0,none⟩ 1 1 [y] rfl hnews h1 (by omega) (by unfold maxLen; omega) (by omega) hlo W.heap.size rfl
  have hb:ov.ownBlock=none:=by rw [e]; rfl
  rw [hb] at r2 r3;have L:Below W.heap.size W W':=(Below.refl _ _).grown r2 (Nat.le_refl _) (fun _ e=>by cases e);unfold Oper.wp
  simp [execOp,hop,resolve,invoke,builtin,hs,hx,hrun,Result.andThen]
  exact h g' c' W' r1 (Aa L _) (Or.inr (by rcases r3 with r3 | r3; cases r3; omega))
 ·subst hv
  have hob:(Value.slice (some ⟨g,0,none⟩) n c).ownBlock=some g:=rfl;have hgl:=Af hg
  by_cases hr:n+1≤c
  ·have hsp:(W.cell? ⟨g,n,none⟩).isSome=true∧W.frozen? ⟨g,n,none⟩=false:=by
    refine ⟨?_,Ax hg n⟩;rw [Aj hg n,Array.getElem?_eq_getElem (by omega)]
    rfl
   have hrun:=run_append_room_cells (P:=Tryz.prog) W 24 o.type 25 i0 Tryz.underlying24 hi g 0 n c ⟨q,0,none⟩ 1 1 [y] (by rw [hz1]; rfl) hnews h1 hr
    (fun j hj=>by have:j=0:=(by simpa using hj); subst this; rw [hz1]; simpa using hsp.1) (fun j hj=>by have:j=0:=(by simpa using hj); subst this; rw [hz1]; simpa using hsp.2)
   rw [hz1] at hrun;unfold Oper.wp
   simp [execOp,hop,resolve,invoke,builtin,hs,hx,hrun,Result.andThen,World.setCells]
   exact h g c _ (Tk own hr y) (Wrote.setCell (R:=fun b _=>(Value.slice (some ⟨g,0,none⟩) n c).ownBlock=some b) (Wrote.refl _ W) (fun _=>hob) _) (Or.inl hob)
  ·obtain ⟨v',w',hrun,r1,r2⟩:=run_append_arg_grows (P:=Tryz.prog) W 24 o.type 25 i0 (.slice none 0 0) 1 24 Tryz.underlying24 hi hz0 hz1 hz2 rfl (by decide) ⟨g,0,none⟩ n c vs (by rw [hl,Nat.mul_one]) (Gm own) ⟨q,0,none⟩ 1 1 [y] rfl hnews (by omega) (by unfold maxLen; omega) (by omega)
   obtain ⟨g',cap2,rfl,hg',hlt⟩:=r1.form (by omega);have L:Below W.heap.size W w':=(Below.refl _ _).grown r2 (Nat.le_refl _) (fun _ e=>by cases e);unfold Oper.wp
   simp [execOp,hop,resolve,invoke,builtin,hs,hx,hrun,Result.andThen]
   exact h g' cap2 w' (P8 r1 hlo) (Aa L _) (Or.inr hg')
theorem Em (W:World) {ops:Array Oper} {rest:List Oper} {o:Oper} {a:Act} {Q:Exit→Act→World→Prop} (hg:o.guard=none) (s x:Operand) (hop:o.op=Op.call { callee:=Callee.builtin Builtin.append,args:=#[s,x],argTypes:=#[24,24] })
  (lo:Nat) (ov:Value) (n:Nat) (vs:List Value) (hs:a.eval s=ov) (own:W.ownsRow lo 25 1 ov n vs) (hn:n<1048576) (hlo:lo≤W.heap.size) (q:Nat) (y:Value) (hy:y.oneCell'=true) (hx:a.eval x=.slice (some ⟨q,0,none⟩) 1 1) (hq:W.cell? ⟨q,0,none⟩=some y)
  (h:∀ g' c' W',W'.ownsRow lo 25 1 (.slice (some ⟨g',0,none⟩) (n+1) c') (n+1) (vs++[y])→Wrote (fun b _=>ov.ownBlock=some b) W W'→(ov.ownBlock=some g'∨W.heap.size≤g')→wpList Tryz.prog ops Q rest (a.put o.dst (.slice (some ⟨g',0,none⟩) (n+1) c')) W'):wpList Tryz.prog ops Q (o :: rest) a W :=
 wpList_plain hg fun K hK=>Og W s x hop lo ov n vs hs own hn hlo q y hy hx hq (fun g c W' r1 r2 r3=>hK _ _ (h g c W' r1 r2 r3))
def Io (q:Nat) (gb:Nat→Nat) (ln cp:Nat→Nat):List Value:=(List.range q).map (fun i=>.slice (some ⟨gb i,0,none⟩) (ln i) (cp i))
theorem Rv (q g c:Nat) (gb ln cp:Nat→Nat):Io q gb ln cp++[.slice (some ⟨g,0,none⟩) (ln q) c]=Io (q+1) (fun i=>if i=q then g else gb i) ln (fun i=>if i=q then c else cp i):=by
 unfold Io;rw [List.range_succ,List.map_append]
 congr 1
 ·apply List.map_congr_left
  intro i hi;have:=List.mem_range.1 hi
  show _=Value.slice (some ⟨if i=q then g else gb i,0,none⟩) (ln i) (if i=q then c else cp i)
  rw [if_neg (by omega),if_neg (by omega)]
 ·simp
structure SG (W:World) (lo:Nat) (ov:Value) (q:Nat) (gb cp ln:Nat→Nat) (f:Nat→Nat→Int):Prop where
 own:W.ownsRow lo 25 1 ov q (Io q gb ln cp)
 rows:∀ i,i<q→Row W lo (gb i) (ln i) (cp i) (f i)
 inj:∀ i j,i<q→j<q→i≠j→gb i≠gb j
 dj:∀ g,ov.ownBlock=some g→∀ i,i<q→gb i≠g
 small:q≤1048576
section
variable {W W':World} {lo q:Nat} {ov:Value} {gb cp ln:Nat→Nat} {f:Nat→Nat→Int} {R:Nat→Nat→Prop}
theorem SG.nil (W:World) (lo:Nat) (gb cp ln:Nat→Nat) (f:Nat→Nat→Int):SG W lo (.slice none 0 0) 0 gb cp ln f :=
 ⟨⟨rfl,Or.inl ⟨rfl,rfl⟩⟩,fun i hi=>absurd hi (Nat.not_lt_zero _),fun i j hi=>absurd hi (Nat.not_lt_zero _),fun g h=>(by cases h),by omega⟩
theorem SG.start {W:World} {lo g:Nat} (h:W.heap[g]?=some (.cells #[] 25 (0,0))) (hl:lo≤g) (gb cp ln:Nat→Nat) (f:Nat→Nat→Int):SG W lo (.slice (some ⟨g,0,none⟩) 0 0) 0 gb cp ln f :=
 ⟨⟨rfl,Or.inr ⟨g,0,#[],rfl,hl,h,Nat.le_refl _,by simp,rfl,rfl⟩⟩,fun i hi=>absurd hi (Nat.not_lt_zero _),fun i j hi=>absurd hi (Nat.not_lt_zero _),fun g h i hi=>absurd hi (Nat.not_lt_zero _),by omega⟩
theorem SG.keep (H:SG W lo ov q gb cp ln f) (hw:Wrote R W W') (h1:∀ g o,ov.ownBlock=some g→¬ R g o) (h2:∀ i o,i<q→¬ R (gb i) o):SG W' lo ov q gb cp ln f :=
 ⟨G7 H.own (fun g hg=>hw.block g (Dh H.own hg).2 (fun o=>h1 g o hg)),fun i hi=>(H.rows i hi).keep hw (fun o=>h2 i o hi),H.inj,H.dj,H.small⟩
theorem SG.below (H:SG W lo ov q gb cp ln f) (L:Below W.heap.size W W'):SG W' lo ov q gb cp ln f:=H.keep (Aa L Ah) (fun _ _ _ x=>x) (fun _ _ _ x=>x)
theorem SG.push {g' c' gN cN:Nat} (H:SG W lo ov q gb cp ln f) (hw:Wrote (fun b _=>ov.ownBlock=some b) W W') (own':W'.ownsRow lo 25 1 (.slice (some ⟨g',0,none⟩) (q+1) c') (q+1) (Io q gb ln cp++[.slice (some ⟨gN,0,none⟩) (ln q) cN])) (hat:ov.ownBlock=some g'∨W.heap.size≤g')
  (RN:Row W lo gN (ln q) cN (f q)) (hN1:ov.ownBlock≠some gN) (hN2:∀ i,i<q→gb i≠gN) (hq:q<1048576):SG W' lo (.slice (some ⟨g',0,none⟩) (q+1) c') (q+1) (fun i=>if i=q then gN else gb i) (fun i=>if i=q then cN else cp i) ln f:=by
 rw [Rv] at own';refine ⟨own',fun i hi=>?_,fun i j hi hj hij=>?_,fun g hg i hi=>?_,by omega⟩
 ·by_cases e:i=q
  ·subst e
   simp only [if_true];exact RN.keep hw (fun o h=>hN1 h)
  ·simp only [if_neg e]
   exact (H.rows i (by omega)).keep hw (fun o h=>H.dj _ h i (by omega) rfl)
 ·by_cases e:i=q
  ·rw [if_pos e,if_neg (by omega)]
   exact fun x=>hN2 j (by omega) x.symm
  ·by_cases e':j=q
   ·rw [if_neg e,if_pos e']
    exact hN2 i (by omega)
   ·rw [if_neg e,if_neg e']
    exact H.inj i j (by omega) (by omega) hij
 ·obtain rfl:g'=g:=by simpa [Value.ownBlock] using hg
  by_cases e:i=q
  ·rw [if_pos e]
   rcases hat with h | h
   ·exact fun x=>hN1 (x ▸ h)
   ·have:=RN.parts.2.1
    omega
  ·rw [if_neg e]
   rcases hat with h | h
   ·exact H.dj _ h i (by omega)
   ·have:=(H.rows i (by omega)).parts.2.1
    omega
theorem SG.on (H:SG W lo ov q gb cp ln f) {D:Nat→Prop} (hD:∀ b,lo≤b→b<W.heap.size→D b) (hs:Cv ln q≤1099511627776):Ck W D ov q ln f:=by
 have key:∀ i,i<q→∀ b o,Cd (some ⟨gb i,0,none⟩) (ln i) b o→b=gb i:=fun i hi b o ⟨off,e,_,_⟩=>by
  simp only [Option.some.injEq,Addr.mk.injEq] at e;exact e.1.symm
 rcases id H.own.2 with ⟨e,e0⟩ | ⟨g,c,cur,hv,hb,hg,k1,k2,k3,k4⟩
 ·have hq:q=0:=by simpa using e0
  subst hq;subst e;refine ⟨fun _=>none,fun _=>0,⟨⟨none,0,rfl,by omega,fun i hi=>absurd hi (Nat.not_lt_zero _)⟩,fun i hi=>absurd hi (Nat.not_lt_zero _),fun i j hi=>absurd hi (Nat.not_lt_zero _),hs⟩,fun i hi=>absurd hi (Nat.not_lt_zero _),fun i hi=>absurd hi (Nat.not_lt_zero _),fun a cap e b o hF=>absurd hF (Ay _ _ _),fun i hi=>absurd hi (Nat.not_lt_zero _)⟩
 ·subst hv
  have hob:(Value.slice (some ⟨g,0,none⟩) q c).ownBlock=some g:=rfl
  have hcell:∀ i,i<q→W.cell? ⟨g,i,none⟩=some (.slice (some ⟨gb i,0,none⟩) (ln i) (cp i)):=fun i hi=>by
   have:=Gm H.own i (.slice (some ⟨gb i,0,none⟩) (ln i) (cp i)) (by unfold Io; simp [hi])
   rwa [F5,Nat.zero_add] at this
  refine ⟨fun i=>some ⟨gb i,0,none⟩,cp,⟨⟨_,_,rfl,H.small,fun i hi=>⟨g,0,rfl,by rw [Nat.zero_add]; exact hcell i hi,fun j hj hF=>H.dj g hob j hj (key j hj _ _ hF).symm⟩⟩,fun i hi=>(H.rows i hi).sl.free,fun i j hi hj hij b o h1 h2=>H.inj i j hi hj hij ((key i hi _ _ h1).symm.trans (key j hj _ _ h2)),hs⟩,fun i hi=>(H.rows i hi).sl.row,fun i hi b o hF=>?_,fun a cap e b o hF=>?_,fun i hi=>(H.rows i hi).small⟩
  ·rw [key i hi b o hF]
   exact hD _ (H.rows i hi).parts.1 (H.rows i hi).parts.2.1
  ·simp only [Value.slice.injEq,true_and] at e
   obtain ⟨rfl,-⟩:=e;obtain ⟨off,e,_,_⟩:=hF;simp only [Option.some.injEq,Addr.mk.injEq] at e;rw [← e.1];exact hD _ hb (Af hg)
end
set_option maxHeartbeats 4000000
set_option maxRecDepth 40000
theorem Jt {ln:Nat→Nat} {K:Nat}:∀ {m:Nat},(∀ i,i<m→ln i≤K)→Cv ln m≤m*K
 | 0,_=>by simp [Cv]
 | m+1,h=>by
  have h1:=Jt (m:=m) (fun i hi=>h i (by omega));have h2:=h m (by omega);simp only [Cv];rw [Nat.succ_mul]
  omega
theorem Ju {ln:Nat→Nat} {m:Nat} (hm:m≤1048576) (h:∀ i,i<m→ln i≤1048576):Cv ln m≤1099511627776:=by
 have h1:=Jt h;have h2:=Nat.mul_le_mul_right 1048576 hm
 omega
theorem Oh (w:World) (F:Nat→Nat→Prop) (u:Value) (m:Nat) (ln:Nat→Nat) (f:Nat→Nat→Int) (H:Bm .i64 w F u m ln f):Calls Tryz.prog 32 #[.agg #[u]] w fun e w'=>∃ v,e=.returned (.agg #[v])∧Ck w' (fun b=>w.heap.size≤b∧b<w'.heap.size) v m ln f∧Below w.heap.size w w':=by
 obtain ⟨a,cap,rfl,hn,-,hc⟩:=H;have hps:Cv ln m≤1099511627776:=Ju hn (fun i hi=>by obtain ⟨b,off,u,-,-,a',c',-,h,-⟩:=hc i hi; exact h);have L0:Below w.heap.size w (((w.alloc (.cells #[.slice a m cap] 32)).alloc (.cells #[.slice none 0 0] 32)).alloc (.cells #[.slice none 0 0] 32)):=(((Below.refl _ _).alloc (Nat.le_refl _) _).alloc (by simp) _).alloc (by simp; omega) _;have B0:(((w.alloc (.cells #[.slice a m cap] 32)).alloc (.cells #[.slice none 0 0] 32)).alloc (.cells #[.slice none 0 0] 32)).heap[w.heap.size]?=some (.cells #[.slice a m cap] 32 (0,0)):=A9 (A9 (Ak w _ _) _) _
 have B1:(((w.alloc (.cells #[.slice a m cap] 32)).alloc (.cells #[.slice none 0 0] 32)).alloc (.cells #[.slice none 0 0] 32)).heap[w.heap.size+1]?=some (.cells #[.slice none 0 0] 32 (0,0)):=A9 (by simpa using Ak (w.alloc (.cells #[.slice a m cap] 32)) #[.slice none 0 0] 32) _
 have B2:(((w.alloc (.cells #[.slice a m cap] 32)).alloc (.cells #[.slice none 0 0] 32)).alloc (.cells #[.slice none 0 0] 32)).heap[w.heap.size+1+1]?=some (.cells #[.slice none 0 0] 32 (0,0)):=by simpa using Ak ((w.alloc (.cells #[.slice a m cap] 32)).alloc (.cells #[.slice none 0 0] 32)) #[.slice none 0 0] 32
 have HL:=Ad hc;clear hc
 go_enter Tryz.func32,Tryz.ntmps32
 go_wp2;generalize ((w.alloc (.cells #[.slice a m cap] 32)).alloc (.cells #[.slice none 0 0] 32)).alloc (.cells #[.slice none 0 0] 32)=W0 at *
 go_loopw [4] (fun i wr=>∃ (q:Nat) (gb cp:Nat→Nat) (ov:Value),q≤m∧i=.i q∧SG wr (w.heap.size+3) ov q gb cp ln f∧wr.heap[w.heap.size]?=some (.cells #[.slice a m cap] 32 (0,0))∧wr.heap[w.heap.size+1]?=some (.cells #[.slice none 0 0] 32 (0,0))∧wr.heap[w.heap.size+1+1]?=some (.cells #[ov] 32 (0,0))∧Below w.heap.size w wr) (fun i _=>m-(intOf i).toNat)
 case atStart=>exact ⟨0,fun _=>0,fun _=>0,.slice none 0 0,Nat.zero_le _,rfl,SG.nil _ _ _ _ _ _,B0,B1,B2,L0⟩
 case round =>
  obtain ⟨q,gb,cp,ov,hq,rfl,hG,b0,b1,b2,hL⟩:=hrel;clear B0 B1 B2 L0;have hz:=Af b2
  by_cases hqm:q<m
  ·have hqm':(q:Int)<(m:Int):=by omega
   obtain ⟨b,off,u',rfl,hcell,hI⟩:=HL.out q hqm;have hbl:=block_lt_of_cell hcell;have hcell':wr.cell? ⟨b,off+q,none⟩=some u':=(hL.cell hbl).trans hcell;have hI':=hI.keep (Aa hL Ah) (fun _ _ _ x=>x)
   have wq:IntKind.i64.wrap (q:Int)=q:=by rw [IntKind.wrap_i64]; omega
   have hqi:(0:Int)≤(q:Int):=by omega
   have hob:∀ g,ov.ownBlock=some g→w.heap.size+3≤g∧g<wr.heap.size:=fun g hg=>Dh hG.own hg
   obtain ⟨S,hS⟩:∃ S,Hid (S=wr.heap.size):=⟨_,rfl⟩
   obtain ⟨ua,ux,rfl,un,ur,uF⟩:=id hI';have c0:=Aj b0;go_upto_region 5 with (fail);clear c0
   refine B7 [some 13,some 14,some 15,some 16,some 17,some 18,some 19,some 20,some 21,some 22,some 23,some 24,none] (by kernel_rfl) (by kernel_rfl) (by kernel_rfl) (by kernel_rfl) (by simp [slotsOf])
    (fun j b' _=>(j=10∧ov.ownBlock=some b')∨(j=12∧b'=w.heap.size+1+1))
    (fun i v W=>match i with
     | 0=>v=(pt (w.heap.size+1+1) 0)
     | 1=>v=ov
     | 2=>∃ gE,v=.slice (some ⟨gE,0,none⟩) 0 0∧W.heap[gE]?=some (.cells #[] 3 (0,0))∧S≤gE
     | 3=>v=(pt w.heap.size 0)
     | 4=>v=.slice (some ⟨b,off,none⟩) m cap
     | 5=>v=.i (q:Int)
     | 6=>v=.pointer (some ⟨b,off+q,none⟩)
     | 7=>v=.slice ua (ln q) ux
     | 8=>∃ gN cN,v=.slice (some ⟨gN,0,none⟩) (ln q) cN∧Row W (w.heap.size+3) gN (ln q) cN (f q)∧S≤gN
     | 9=>∃ gB gN cN,v=.slice (some ⟨gB,0,none⟩) 1 1∧W.heap[gB]?=some (.cells #[.slice (some ⟨gN,0,none⟩) (ln q) cN] 25 (0,0))∧Row W (w.heap.size+3) gN (ln q) cN (f q)∧S≤gN∧S≤gB
     | 10=>∃ g' c' gb' cp',v=.slice (some ⟨g',0,none⟩) (q+1) c'∧SG W (w.heap.size+3) v (q+1) gb' cp' ln f
     | 11=>v=(pt (w.heap.size+1+1) 0)
     | _=>∃ g' c' gb' cp',W.heap[w.heap.size+1+1]?=some (.cells #[.slice (some ⟨g',0,none⟩) (q+1) c'] 32 (0,0))∧SG W (w.heap.size+3) (.slice (some ⟨g',0,none⟩) (q+1) c') (q+1) gb' cp' ln f) ?_ ?_ ?_
   ·intro i j o v W W' hij ho hnw hW h
    have far:∀ (g k:Nat),S≤g→¬ ((j=10∧ov.ownBlock=some g)∨(j=12∧g=w.heap.size+1+1)):=fun g k hg hR=>by
     have:=hS.out
     rcases hR with ⟨-,h⟩ | ⟨-,h⟩
     ·have:=hob _ h; omega
     ·omega
    match i,ho,hnw,hij,h with
    | 0,_,_,_,h=>exact h
    | 1,_,_,_,h=>exact h
    | 2,_,_,_,⟨gE,h1,h2,h3⟩=>exact ⟨gE,h1,Ag h2 hW (fun o=>far gE o h3),h3⟩
    | 3,_,_,_,h=>exact h
    | 4,_,_,_,h=>exact h
    | 5,_,_,_,h=>exact h
    | 6,_,_,_,h=>exact h
    | 7,_,_,_,h=>exact h
    | 8,_,_,_,⟨gN,cN,h1,h2,h3⟩=>exact ⟨gN,cN,h1,h2.keep hW (fun o=>far gN o h3),h3⟩
    | 9,_,_,_,⟨gB,gN,cN,h1,h2,h3,h4,h5⟩=>exact ⟨gB,gN,cN,h1,Ag h2 hW (fun o=>far gB o h5),h3.keep hW (fun o=>far gN o h4),h4,h5⟩
    | 10,_,_,hij,⟨g',c',gb',cp',h1,h2⟩ =>
     refine ⟨g',c',gb',cp',h1,h2.keep hW (fun g o hg hR=>?_) (fun i o hi hR=>?_)⟩
     ·rcases hR with ⟨e,-⟩ | ⟨-,e⟩
      ·exact hij e.symm
      ·have:=Dh h2.own hg; omega
     ·rcases hR with ⟨e,-⟩ | ⟨-,e⟩
      ·exact hij e.symm
      ·have:=(h2.rows i hi).parts.1; omega
    | 11,_,_,_,h=>exact h
    | 12,ho,hnw,hij,⟨g',c',gb',cp',h1,h2⟩ =>
     cases ho
     by_cases e10:j=10
     ·subst e10
      cases hnw.symm.trans (show A2 _ 10=true by kernel_rfl)
     ·have no:∀ (b' k:Nat),¬ ((j=10∧ov.ownBlock=some b')∨(j=12∧b'=w.heap.size+1+1)):=fun b' k hR=>by rcases hR with ⟨e,-⟩ | ⟨e,-⟩ <;> omega
      exact ⟨g',c',gb',cp',Ag h1 hW (fun o=>no _ o),h2.keep hW (fun g o _=>no g o) (fun i o _=>no _ o)⟩
    | n+13,ho,_,_,_=>simp at ho
   ·intro i o a' W K ho F L hw hK
    have hS':=hS.out;have t1:=F.get (t:=1) (v:=(pt w.heap.size 0)) (by decide) rfl;have t3:=F.get (t:=3) (v:=(pt (w.heap.size+1+1) 0)) (by decide) rfl;have t4:=F.get (t:=4) (v:=.i (q:Int)) (by decide) rfl
    have low:∀ (g j:Nat),g<w.heap.size+1+1→¬ ((j=10∧ov.ownBlock=some g)∨(j=12∧g=w.heap.size+1+1)):=fun g j hg hR=>by
     rcases hR with ⟨-,h⟩ | ⟨-,h⟩
     ·have:=hob _ h; omega
     ·omega
    have LW:Below w.heap.size w W:=hL.trans (L.below hL.size (fun g k hg ⟨j,_,_,_,_,hR⟩=>low g j (by omega) hR));have r0:=Aj (Ag b0 L (fun k ⟨j,_,_,_,_,hR⟩=>low _ j (by omega) hR));have rc:W.cell? ⟨b,off+q,none⟩=some (.slice ua (ln q) ux):=(LW.cell hbl).trans hcell
    have WS:S≤W.heap.size:=by have:=L.size; omega
    match i with
    | 0 =>
     cases ho;go_simp;exact Hk hK rfl
    | 1 =>
     cases ho;have q0:tv a' 13=_:=Hr hw 0
     have r2:=Aj (Ag b2 L (fun k ⟨j,oj,hj,hoj,hwj,hR⟩=>by
      rcases hR with ⟨-,h⟩ | ⟨rfl,-⟩
      ·have:=hob _ h; omega
      ·simp only [List.getElem?_toArray,List.getElem?_cons_zero,List.getElem?_cons_succ,Option.some.injEq] at hoj
       subst hoj
       cases hwj.symm.trans (show A2 _ 1=true by kernel_rfl)))
     go_simp;exact Hk hK rfl
    | 2 =>
     cases ho;go_simp;exact hK _ _ ((Wrote.refl _ W).alloc _) ⟨_,rfl,Ak W #[] 3,WS⟩
    | 3 =>
     cases ho;go_simp;exact Hk hK rfl
    | 4 =>
     cases ho;have q0:tv a' 16=_:=Hr hw 3;go_simp;exact Hk hK rfl
    | 5 =>
     cases ho;go_simp;exact Hk hK rfl
    | 6 =>
     cases ho;have q0:tv a' 17=_:=Hr hw 4;have q1:tv a' 18=_:=Hr hw 5;go_simp;exact Hk hK rfl
    | 7 =>
     cases ho;have q0:tv a' 19=_:=Hr hw 6;go_simp;exact Hk hK rfl
    | 8 =>
     cases ho;obtain ⟨gE,q0,q1,q2⟩:∃ gE,a'.tmps[15]?.getD undef=.slice (some ⟨gE,0,none⟩) 0 0∧W.heap[gE]?=some (.cells #[] 3 (0,0))∧S≤gE:=Hr hw 2;have q3:tv a' 20=_:=Hr hw 7;refine Gk W (.tmp 15) (.tmp 20) rfl gE (by simpa [Act.eval] using q0) q1 (w.heap.size+3) (by omega) _ _ (ln q) (f q) (by simpa [Act.eval] using q3) (hI.keep (Aa LW Ah) (fun _ _ _ x=>x)) ?_;intro gN cN W' hR hB hat;exact hK _ _ (Aa hB _) ⟨gN,cN,rfl,hR,by rcases hat with h | h <;> omega⟩
    | 9 =>
     cases ho;obtain ⟨gN,cN,q0,q1,q2⟩:∃ gN cN,a'.tmps[21]?.getD undef=.slice (some ⟨gN,0,none⟩) (ln q) cN∧Row W (w.heap.size+3) gN (ln q) cN (f q)∧S≤gN:=Hr hw 8;go_simp;exact hK _ _ ((Wrote.refl _ W).alloc _) ⟨_,gN,cN,rfl,Ak W #[.slice (some ⟨gN,0,none⟩) (ln q) cN] 25,q1.below ((Below.refl _ _).alloc (Nat.le_refl _) _),q2,WS⟩
    | 10 =>
     cases ho;have q0:tv a' 14=_:=Hr hw 1;obtain ⟨gB,gN,cN,q1,q2,q3,q4,q5⟩:∃ gB gN cN,a'.tmps[22]?.getD undef=.slice (some ⟨gB,0,none⟩) 1 1∧W.heap[gB]?=some (.cells #[.slice (some ⟨gN,0,none⟩) (ln q) cN] 25 (0,0))∧Row W (w.heap.size+3) gN (ln q) cN (f q)∧S≤gN∧S≤gB:=Hr hw 9
     have hG':=hG.keep L (fun g k hg ⟨j,oj,hj,hoj,hwj,hR⟩=>by
      rcases hR with ⟨e,-⟩ | ⟨rfl,-⟩
      ·exact hj e
      ·simp only [List.getElem?_toArray,List.getElem?_cons_zero,List.getElem?_cons_succ,Option.some.injEq] at hoj
       subst hoj
       cases hwj.symm.trans (show A2 _ 10=true by kernel_rfl)) (fun i k hi ⟨j,oj,hj,hoj,hwj,hR⟩=>by
      rcases hR with ⟨e,-⟩ | ⟨rfl,-⟩
      ·exact hj e
      ·simp only [List.getElem?_toArray,List.getElem?_cons_zero,List.getElem?_cons_succ,Option.some.injEq] at hoj
       subst hoj
       cases hwj.symm.trans (show A2 _ 10=true by kernel_rfl))
     refine Og W (.tmp 14) (.tmp 22) rfl (w.heap.size+3) ov q _ (by simpa [Act.eval] using q0) hG'.own (by omega) (by omega) gB (.slice (some ⟨gN,0,none⟩) (ln q) cN) rfl (by simpa [Act.eval] using q1) (Aj q2 0) ?_;intro g' c' W' own' hB hat;exact hK _ _ (hB.mono (fun b' k _ h=>Or.inl ⟨rfl,h⟩)) ⟨g',c',_,_,rfl,hG'.push hB own' hat q3 (fun e=>by have:=hob _ e; omega) (fun i hi e=>by have:=(hG.rows i hi).parts.2.1; omega) (by omega)⟩
    | 11 =>
     cases ho;go_simp;exact Hk hK rfl
    | 12 =>
     cases ho;have q0:tv a' 24=_:=Hr hw 11;obtain ⟨g',c',gb',cp',q1,q2⟩:∃ g' c' gb' cp',a'.tmps[23]?.getD undef=.slice (some ⟨g',0,none⟩) (q+1) c'∧SG W (w.heap.size+3) (a'.tmps[23]?.getD undef) (q+1) gb' cp' ln f:=Hr hw 10;rw [q1] at q2
     have r2:=Ag b2 L (fun k ⟨j,oj,hj,hoj,hwj,hR⟩=>by
      rcases hR with ⟨-,h⟩ | ⟨e,-⟩
      ·have:=hob _ h; omega
      ·exact hj e)
     have c2:=Aj r2;have f2:=Ax r2;have HQ:=Ad q2;have HB:=Ad (An (o:=0) r2 (.slice (some ⟨g',0,none⟩) (q+1) c'));clear q2 r2;go_simp;refine hK undef _ (Wrote.setCell (Wrote.refl _ W) (fun _=>Or.inr ⟨rfl,rfl⟩) _) ⟨g',c',gb',cp',HB.out,HQ.out.keep (Wrote.setCell (R:=fun b' _=>b'=w.heap.size+1+1) (Wrote.refl _ W) (fun _=>rfl) _) (fun g o hg (e:g=_)=>by have:=Dh HQ.out.own hg; omega) (fun i o hi (e:_=_)=>by have:=(HQ.out.rows i hi).parts.1; omega)⟩
    | n+13=>simp at ho
   ·intro a' W F L hφ
    obtain ⟨g',c',gb',cp',p1,p2⟩:∃ g' c' gb' cp',W.heap[w.heap.size+1+1]?=some (.cells #[.slice (some ⟨g',0,none⟩) (q+1) c'] 32 (0,0))∧SG W (w.heap.size+3) (.slice (some ⟨g',0,none⟩) (q+1) c') (q+1) gb' cp' ln f:=Hd hφ 12
    have low:∀ (g k:Nat),g<w.heap.size+1+1→¬ (∃ j:Nat,(j=10∧ov.ownBlock=some g)∨(j=12∧g=w.heap.size+1+1)):=fun g k hg ⟨j,hR⟩=>by
     rcases hR with ⟨-,h⟩ | ⟨-,h⟩
     ·have:=hob _ h; omega
     ·omega
    have LW:Below w.heap.size w W:=hL.trans (L.below hL.size (fun g k hg=>low g k (by omega)));have r0:=Ag b0 L (fun k=>low _ k (by omega));have r1:=Ag b1 L (fun k=>low _ k (by omega));rw [F.same,show slotsOf [some 13,some 14,some 15,some 16,some 17,some 18,some 19,some 20,some 21,some 22,some 23,some 24,none]=[13,14,15,16,17,18,19,20,21,22,23,24] from rfl];simp only [List.foldl_cons,List.foldl_nil];generalize a'.tmps[13]?.getD undef=s13;generalize a'.tmps[14]?.getD undef=s14;generalize a'.tmps[15]?.getD undef=s15;generalize a'.tmps[16]?.getD undef=s16;generalize a'.tmps[17]?.getD undef=s17;generalize a'.tmps[18]?.getD undef=s18;generalize a'.tmps[19]?.getD undef=s19;generalize a'.tmps[20]?.getD undef=s20;generalize a'.tmps[21]?.getD undef=s21;generalize a'.tmps[22]?.getD undef=s22
    generalize a'.tmps[23]?.getD undef=s23;generalize a'.tmps[24]?.getD undef=s24;have HP:=Ad (And.intro p1 (And.intro p2 (And.intro r0 (And.intro r1 LW))));clear hφ L F p1 p2 r0 r1 LW hG b0 b1 b2 hL hcell hcell' hI hI' ur uF HL;rename_i KK hKK;refine hKK _ _ ?_;go_simp;go_wp2;go_roundw
    case rel=>exact ⟨q+1,gb',cp',_,by omega,by go_num,HP.out.2.1,HP.out.2.2.1,HP.out.2.2.2.1,HP.out.1,HP.out.2.2.2.2⟩
    case measure=>simp [intOf]; omega
  ·have hqm':¬ (q:Int)<(m:Int):=by omega
   obtain rfl:q=m:=by omega
   obtain ⟨oa,oc,hof⟩:∃ oa oc,ov=.slice oa q oc:=by
    rcases hG.own.2 with ⟨e,e0⟩ | ⟨g,c,cur,hv,-⟩
    ·have:q=0:=by simpa using e0
     exact ⟨none,0,by rw [e,this]⟩
    ·exact ⟨_,_,hv⟩
   subst hof;have c0:=Aj b0;have c1:=Aj b1;have c2:=Aj b2;have f1:=Ax b1;have HP:=Ad (And.intro hG hL);clear hG b0 b1 b2 hL HL;go_wp2;refine bodyPost_ret (v:=.agg #[.slice oa q oc]) (by simp [results,Tryz.results32,go_sem,c1]) rfl ?_;have WW:=Wrote.setCell (b:=w.heap.size+1) (o:=0) (R:=fun b _=>b=w.heap.size+1) (Wrote.refl _ wr) (fun _=>rfl) (.slice oa q oc);refine ⟨_,rfl,(HP.out.1.keep WW (fun g o hg (e:g=_)=>by have:=Dh HP.out.1.own hg; omega) (fun i o hi (e:_=_)=>by have:=(HP.out.1.rows i hi).parts.1; omega)).on (fun b h1 h2=>⟨by omega,h2⟩) hps,HP.out.2.trans (WW.below HP.out.2.size (fun b o hb (e:b=_)=>by omega))⟩
theorem Uu (w:World) (F:Nat→Nat→Prop) (u:Value) (m:Nat) (ln:Nat→Nat) (f:Nat→Nat→Int) (H:Bm .i64 w F u m ln f):Calls Tryz.prog 35 #[u] w fun e w'=>∃ ov gb cp,e=.returned ov∧SG w' w.heap.size ov m gb cp ln f∧Below w.heap.size w w':=by
 obtain ⟨a,cap,rfl,hn,-,hc⟩:=H;have L0:Below w.heap.size w (w.alloc (.cells #[] 25)):=(Below.refl _ _).alloc (Nat.le_refl _) _;have B0:=Ak w #[] 25;have HL:=Ad hc;clear hc
 go_enter Tryz.func35,Tryz.ntmps35
 go_wp2;generalize w.alloc (.cells #[] 25)=W0 at *
 go_loopw [3,4] (fun ov i wr=>∃ (q:Nat) (gb cp:Nat→Nat),q≤m∧i=.i q∧SG wr w.heap.size ov q gb cp ln f∧Below w.heap.size w wr) (fun _ i _=>m-(intOf i).toNat)
 case atStart=>exact ⟨0,fun _=>0,fun _=>0,Nat.zero_le _,rfl,SG.start B0 (Nat.le_refl _) _ _ _ _,L0⟩
 case round =>
  obtain ⟨q,gb,cp,hq,rfl,hG,hL⟩:=hrel;clear B0 L0
  by_cases hqm:q<m
  ·have hqm':(q:Int)<(m:Int):=by omega
   obtain ⟨b,off,u',rfl,hcell,hI⟩:=HL.out q hqm;have hbl:=block_lt_of_cell hcell;obtain ⟨ua,ux,rfl,un,ur,uF⟩:=id hI;have LA:Below w.heap.size w (wr.alloc (.cells #[] 3)):=hL.alloc hL.size _;have ca:(wr.alloc (.cells #[] 3)).cell? ⟨b,off+q,none⟩=some (.slice ua (ln q) ux):=(LA.cell hbl).trans hcell;have hE:=Ak wr #[] 3;have GA:=Ad (hG.below ((Below.refl _ wr).alloc (Nat.le_refl _) (.cells #[] 3)))
   have hob:∀ g,u3.ownBlock=some g→w.heap.size≤g∧g<wr.heap.size:=fun g hg=>Dh hG.own hg
   have hgb:∀ i,i<q→gb i<wr.heap.size:=fun i hi=>(hG.rows i hi).parts.2.1
   have hLs:=hL.size
   have wq:IntKind.i64.wrap (q:Int)=q:=by rw [IntKind.wrap_i64]; omega
   have hsz:(wr.alloc (.cells #[] 3)).heap.size=wr.heap.size+1:=by simp
   have HSZ:=Ad hsz;clear hG hcell hsz;go_wp2_with (at_builtin; refine E6 _ rfl _ _ rfl wr.heap.size rfl hE w.heap.size hLs F (.slice ua (ln q) ux) (ln q) (f q) rfl (hI.keep (Aa LA Ah) (fun _ _ _ x=>x)) ?_);intro gN cN W2 RN L2 hat
   have hgN:wr.heap.size≤gN:=by have:=HSZ.out; rcases hat with h | h <;> omega
   replace L2:Below (wr.alloc (.cells #[] 3)).heap.size (wr.alloc (.cells #[] 3)) W2:=by rw [HSZ.out]; exact L2
   have G2:=GA.out.below L2;have LB:=Ai LA L2;clear GA LA L2 hat HSZ ca hE;have LX:Below W2.heap.size W2 (W2.alloc (.cells #[.slice (some ⟨gN,0,none⟩) (ln q) cN] 25)):=(Below.refl _ _).alloc (Nat.le_refl _) _;have hB:=Aj (Ak W2 #[.slice (some ⟨gN,0,none⟩) (ln q) cN] 25) 0;have G3:=Ad (G2.below LX);have R3:=Ad (RN.below LX);have LC:=Ad (Ai LB LX);clear G2 RN LB LX;go_wp2_with (at_builtin; refine Em _ rfl _ _ rfl w.heap.size u3 q _ rfl G3.out.own (by omega) LC.out.size W2.heap.size (.slice (some ⟨gN,0,none⟩) (ln q) cN) rfl rfl hB ?_);intro g' c' W4 own' hW hat';have GN:=Ad (G3.out.push hW own' (by simpa using hat') R3.out (fun e=>by have:=hob _ e; omega) (fun i hi e=>by have:=hgb i hi; omega) (by omega));have LD:=LC.out.trans (hW.below LC.out.size (fun b o hb (e:u3.ownBlock=some b)=>by have:=hob _ e; omega))
   clear G3 R3 LC own' hW hat' hB;go_wp2;go_roundw
   case rel=>exact ⟨q+1,_,_,by omega,by go_num,GN.out,LD⟩
   case measure=>simp [intOf]; omega
  ·have hqm':¬ (q:Int)<(m:Int):=by omega
   obtain rfl:q=m:=by omega
   have HP:=Ad (And.intro hG hL);clear hG hL HL;go_wp2;go_ret
   first | exact ⟨_,gb,cp,rfl,HP.out.1,HP.out.2⟩ | exact ⟨_,rfl,⟨gb,cp,HP.out.1⟩,HP.out.2⟩
end Go.Proofs.YtfjieibndedngaaGreat
