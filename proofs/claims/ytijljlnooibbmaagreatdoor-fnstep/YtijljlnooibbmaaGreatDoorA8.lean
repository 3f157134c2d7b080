import Derived.Test.YtijljlnooibbmaaGreatDoorC8
import Derived.Test.YtijljlnooibbmaaGreatDoorS8
import Derived.ArgAppend
import Derived.Deep.Upon
import Derived.Lib.QuietBelow
namespace Go.Proofs.YtijljlnooibbmaaGreatDoor
open Go.Proofs.Tryz
set_option linter.unusedVariables false
open Go.ChangeShapes Go.WideShapes Go.ChangeAt Go.RowKit
structure Row (W:World) (lo g n c:Nat) (f:Nat->Int):Prop where
 own:W.ownsRow lo 3 1 (.slice (some ⟨g,0,none⟩) n c) n (rowVals n f)
 small:n<=1048576
theorem Row.parts {W:World} {lo g n c:Nat} {f:Nat->Int} (h:Row W lo g n c f):lo<=g/\g<W.heap.size/\n<=c/\∃ cur,W.heap[g]?=some (.cells cur 3 (0,0)):=by
 rcases h.own.2 with ⟨e,_⟩ | ⟨g',cap,cur,hv,hb,hg,hc,_⟩
 .cases e
 .simp only [Value.slice.injEq,Option.some.injEq,Addr.mk.injEq,and_true,true_and] at hv
  obtain ⟨rfl,rfl⟩:=hv;exact ⟨hb,Ad hg,hc,cur,hg⟩
theorem Row.sl {W:World} {lo g n c:Nat} {f:Nat->Int} (h:Row W lo g n c f):Bu W (fun b=>b=g) (some ⟨g,0,none⟩) n f :=
 ⟨h.small,fun i hi=>⟨g,0,rfl,by rw [Nat.zero_add,h.own.cellAt i (by omega),Bj n f i hi]⟩,fun b o ⟨off,e,_⟩=>by
  simp only [Option.some.injEq,Addr.mk.injEq,and_true] at e;obtain ⟨rfl,rfl⟩:=e
  exact ⟨h.parts.2.1,h.own.frozenAt o⟩,fun b o ⟨off,e,_⟩=>by
  simp only [Option.some.injEq,Addr.mk.injEq,and_true] at e
  exact e.1.symm⟩
theorem Row.block {W W':World} {lo g n c:Nat} {f:Nat->Int} (h:Row W lo g n c f) (e:W'.heap[g]?=W.heap[g]?):Row W' lo g n c f:=by
 refine ⟨⟨h.own.1,?_⟩,h.small⟩
 rcases h.own.2 with x | ⟨g',cap,cur,hv,hb,hg,r⟩
 .exact Or.inl x
 .have hv':=hv
  simp only [Value.slice.injEq,Option.some.injEq,Addr.mk.injEq,and_true,true_and] at hv';obtain ⟨rfl,rfl⟩:=hv';exact Or.inr ⟨g,c,cur,rfl,hb,e.trans hg,r⟩
theorem Row.keep {R:Nat->Nat->Prop} {W W':World} {lo g n c:Nat} {f:Nat->Int} (h:Row W lo g n c f) (hw:Wrote R W W') (hd:∀ o,¬ R g o):Row W' lo g n c f:=h.block (hw.block g h.parts.2.1 hd)
theorem Row.below {W W':World} {lo g n c:Nat} {f:Nat->Int} (h:Row W lo g n c f) (L:Below W.heap.size W W'):Row W' lo g n c f:=h.block (L.block g h.parts.2.1)
theorem Row.grown {W W':World} {lo g n c:Nat} {f:Nat->Int} {row:Option Nat} (h:Row W lo g n c f) (hg:W.grownBy W' row) (hne:some g≠row):Row W' lo g n c f:=h.block (hg.block g h.parts.2.1 hne)
theorem Row.mono {W:World} {lo lo' g n c:Nat} {f:Nat->Int} (h:Row W lo g n c f) (hl:lo'<=lo):Row W lo' g n c f:=by
 refine ⟨⟨h.own.1,?_⟩,h.small⟩
 rcases h.own.2 with x | ⟨g',cap,cur,hv,hb,r⟩
 .exact Or.inl x
 .exact Or.inr ⟨g',cap,cur,hv,by omega,r⟩
theorem Row.own' {W:World} {lo g n c:Nat} {f:Nat->Int} (h:Row W lo g n c f):Ao W lo (.slice (some ⟨g,0,none⟩) n c) n f:=Rc h.own h.parts.1 h.parts.2.1 h.small
theorem Row.empty {W:World} {lo g:Nat} (f:Nat->Int) (h:W.heap[g]?=some (.cells #[] 3 (0,0))) (hl:lo<=g):Row W lo g 0 0 f :=
 ⟨⟨by simp [rowVals],Or.inr ⟨g,0,#[],rfl,hl,h,Nat.le_refl _,by unfold maxLen; omega,rfl,rfl⟩⟩,by omega⟩
theorem Row.put {W:World} {lo g n c:Nat} {f:Nat->Int} (h:Row W lo g n c f) (k:Nat) (hk:k<n) (x:Int):Row (W.setCell ⟨g,k,none⟩ (.i x)) lo g n c (fun i=>if i=k then x else f i):=by
 refine ⟨⟨by rw [A6,Nat.mul_one],?_⟩,h.small⟩
 rcases h.own.2 with ⟨e,_⟩ | ⟨g',cap,cur,hv,hb,hg,h1,h2,h3,h4⟩
 .cases e
 .have hv':=hv
  simp only [Value.slice.injEq,Option.some.injEq,Addr.mk.injEq,and_true,true_and] at hv';obtain ⟨rfl,rfl⟩:=hv';refine Or.inr ⟨g,c,cur.setIfInBounds k (.i x),rfl,hb,Am hg _,h1,h2,by simpa using h3,?_⟩;rw [Nat.mul_one] at h4 ⊢;rw [Array.toList_setIfInBounds,List.take_set,h4]
  apply List.ext_getElem?
  intro j
  by_cases hj:j<n
  .rw [Bj n _ j hj]
   by_cases e:j=k
   .subst e
    rw [if_pos rfl,List.getElem?_set_self (by rw [A6]; exact hj)]
   .rw [if_neg e,List.getElem?_set_ne (by omega),Bj n f j hj]
  .rw [List.getElem?_eq_none (by rw [List.length_set,A6]; omega),List.getElem?_eq_none (by rw [A6]; omega)]
theorem Row.congr {W:World} {lo g n c:Nat} {f f':Nat->Int} (h:Row W lo g n c f) (e:∀ i,i<n->f i=f' i):Row W lo g n c f':=by
 have:rowVals n f=rowVals n f':=List.map_congr_left (fun i hi=>by rw [e i (List.mem_range.1 hi)]);exact ⟨this ▸ h.own,h.small⟩
theorem Row.fresh {W:World} {lo g n:Nat} {f:Nat->Int} (h:W.rowIs g 3 n (fun i=>.i (f i))) (hn:n<=1048576) (hl:lo<=g):Row W lo g n n f:=by
 obtain ⟨cs,h1,h2,h3⟩:=h;refine ⟨⟨by rw [A6,Nat.mul_one],Or.inr ⟨g,n,cs,rfl,hl,h1,Nat.le_refl _,by unfold maxLen; omega,by rw [h2,Nat.mul_one],?_⟩⟩,hn⟩;rw [Nat.mul_one,List.take_of_length_le (by rw [Array.length_toList]; omega)]
 apply List.ext_getElem?
 intro j
 by_cases hj:j<n
 .rw [Bj n f j hj,Array.getElem?_toList]; exact h3 j hj
 .rw [List.getElem?_eq_none (by rw [Array.length_toList]; omega),List.getElem?_eq_none (by rw [A6]; omega)]
theorem Bu.nil {W:World} {D:Nat->Prop} (f:Nat->Int):Bu W D none 0 f:=⟨by omega,fun i hi=>absurd hi (Nat.not_lt_zero _),fun b o hF=>absurd hF (A4 _ _ _),fun b o hF=>absurd hF (A4 _ _ _)⟩
def snoc (f:Nat->Int) (n:Nat) (x:Int):Nat->Int:=fun i=>if i=n then x else f i
theorem Fw (n:Nat) (f:Nat->Int) (x:Int):rowVals n f++[.i x]=rowVals (n+1) (snoc f n x):=by
 unfold rowVals;rw [List.range_succ,List.map_append]
 congr 1
 .apply List.map_congr_left
  intro i hi;have:=List.mem_range.1 hi;unfold snoc;rw [if_neg (by omega)]
 .simp [snoc]
theorem Jq (W:World) {o:Oper} {a:Act} {K:Act->World->Prop} {Q:Exit->Act->World->Prop} (s x:Operand) (hop:o.op=Op.call { callee:=Callee.builtin Builtin.append,args:=#[s,x],argTypes:=#[27,27] })
  (g0:Nat) (hs:a.eval s=.slice (some ⟨g0,0,none⟩) 0 0) (h0:W.heap[g0]?=some (.cells #[] 3 (0,0))) (lo:Nat) (hlo:lo<=g0) (F:Nat->Nat->Prop) (u:Value) (n:Nat) (f:Nat->Int) (hx:a.eval x=u) (H:Ints .i64 W F u n f)
  (h:∀ g c W',Row W' lo g n c f->Below W.heap.size W W'->(g=g0\/W.heap.size<=g)->K (a.put o.dst (.slice (some ⟨g,0,none⟩) n c)) W'):o.wp prog a W K Q:=by
 obtain ⟨i0,hi,hz0,hz1,hz2⟩:=info_parts Gp;obtain ⟨ua,ux,rfl,un,hr,-⟩:=H
 by_cases hn:n=0
 .subst hn
  have hsrc:Src prog i0.size 27 (.slice ua 0 ux) 0 [] W:=by
   cases ua with
   | none=>exact Src.ofNil W underlying27 ux
   | some ad=>exact Src.ofSlice W underlying27 ad 0 ux [] (by simp) (fun j v hh=>by simp at hh) (fun v hh=>by cases hh)
  have hrun:=run_append_nothing (P:=prog) W 27 27 o.type 3 i0 underlying27 hi (some ⟨g0,0,none⟩) 0 0 (Nat.le_refl _) _ hsrc;unfold Oper.wp
  simp [execOp,hop,resolve,invoke,builtin,hs,hx,hrun,Result.andThen]
  exact h g0 0 W (Row.empty f h0 hlo) (Below.refl _ _) (Or.inl rfl)
 .obtain ⟨rb,ro,rfl,-⟩:=hr 0 (by omega)
  obtain ⟨v',w',hrun,r1,r2⟩:=run_append_arg_grows (P:=prog) W 27 o.type 3 i0 (.i 0) 1 8 underlying27 hi hz0 hz1 hz2 rfl (by decide) ⟨g0,0,none⟩ 0 0 [] rfl (fun j u hh=>by simp at hh) ⟨rb,ro,none⟩ n ux (rowVals n f) (by rw [A6,Nat.mul_one]) (Dd hr) (by omega) (by unfold maxLen; omega) (by omega)
  have hon:w'.ownsRow W.heap.size 3 1 v' n (rowVals n f):=by simpa using r1
  obtain ⟨g',cap2,rfl,hg,hlt⟩:=hon.form (by omega);have L:Below W.heap.size W w':=(Below.refl _ _).grown r2 (Nat.le_refl _) (fun _ e=>by cases e);unfold Oper.wp
  simp [execOp,hop,resolve,invoke,builtin,hs,hx,hrun,Result.andThen]
  exact h g' cap2 w' ((Row.mk hon un).mono (by have:=Ad h0; omega)) L (Or.inr hg)
theorem Row.more {W:World} {lo g n c:Nat} {f:Nat->Int} (h:Row W lo g n c f) (hc:n+1<=c) (hn:n<1048576) (y:Int):Row (W.setCell ⟨g,n,none⟩ (.i y)) lo g (n+1) c (snoc f n y):=by
 refine ⟨⟨by rw [A6,Nat.mul_one],?_⟩,by omega⟩
 rcases h.own.2 with ⟨e,_⟩ | ⟨g',cap,cur,hv,hb,hg,h1,h2,h3,h4⟩
 .cases e
 .have hv':=hv
  simp only [Value.slice.injEq,Option.some.injEq,Addr.mk.injEq,and_true,true_and] at hv';obtain ⟨rfl,rfl⟩:=hv';refine Or.inr ⟨g,c,cur.setIfInBounds n (.i y),rfl,hb,Am hg _,hc,h2,by simpa using h3,?_⟩;rw [Nat.mul_one] at h3 h4 ⊢;rw [<- Fw,<- h4]
  apply List.ext_getElem?
  intro k;rw [List.getElem?_take,List.getElem?_append,List.getElem?_take,List.length_take,Array.length_toList,Array.getElem?_toList,Array.getElem?_setIfInBounds]
  by_cases hk:k<n
  .rw [if_pos (by omega),if_neg (by omega),if_pos (by omega),if_pos hk,Array.getElem?_toList]
  .by_cases e:k=n
   .subst e
    rw [if_pos (by omega),if_pos rfl,if_pos (by omega),if_neg (by omega)];rw [show k-min k cur.size=0 by omega]
    rfl
   .rw [if_neg (by omega),if_neg (by omega),List.getElem?_eq_none (by simp; omega)]
theorem Yx (W:World) {o:Oper} {a:Act} {K:Act->World->Prop} {Q:Exit->Act->World->Prop} (s x:Operand) (hop:o.op=Op.call { callee:=Callee.builtin Builtin.append,args:=#[s,x],argTypes:=#[27,27] })
  (lo g n c:Nat) (f:Nat->Int) (hs:a.eval s=.slice (some ⟨g,0,none⟩) n c) (R:Row W lo g n c f) (hn:n<1048576) (q:Nat) (y:Int) (hx:a.eval x=.slice (some ⟨q,0,none⟩) 1 1) (hq:W.cell? ⟨q,0,none⟩=some (.i y))
  (h:∀ g' c' W',Row W' lo g' (n+1) c' (snoc f n y)->Wrote (fun b _=>b=g) W W'->(g'=g\/W.heap.size<=g')->K (a.put o.dst (.slice (some ⟨g',0,none⟩) (n+1) c')) W'):o.wp prog a W K Q:=by
 obtain ⟨i0,hi,hz0,hz1,hz2⟩:=info_parts Gp;have hp:=R.parts
 have hnews:∀ j u,[Value.i y][j]?=some u->W.cell? ((⟨q,0,none⟩:Addr).add j)=some u:=fun j u hh=>by
  cases j with
  | zero=>simp at hh; rw [<- hh]; exact hq
  | succ j=>simp at hh
 by_cases hr:n+1<=c
 .have hsp:(W.cell? ⟨g,n,none⟩).isSome=true/\W.frozen? ⟨g,n,none⟩=false:=by
   rcases R.own.2 with ⟨e,_⟩ | ⟨g',cap,cur,hv,hb,hg,h1,h2,h3,h4⟩
   .cases e
   .simp only [Value.slice.injEq,Option.some.injEq,Addr.mk.injEq,and_true,true_and] at hv
    obtain ⟨rfl,rfl⟩:=hv;refine ⟨?_,Au hg n⟩;rw [Af hg n,Array.getElem?_eq_getElem (by omega)]
    rfl
  have hrun:=run_append_room_cells (P:=prog) W 27 o.type 3 i0 underlying27 hi g 0 n c ⟨q,0,none⟩ 1 1 [.i y] (by rw [hz1]; rfl) hnews (fun u hu=>by simp at hu; rw [hu]; rfl) hr
   (fun j hj=>by have:j=0:=(by simpa using hj); subst this; rw [hz1]; simpa using hsp.1) (fun j hj=>by have:j=0:=(by simpa using hj); subst this; rw [hz1]; simpa using hsp.2)
  rw [hz1] at hrun;unfold Oper.wp
  simp [execOp,hop,resolve,invoke,builtin,hs,hx,hrun,Result.andThen,World.setCells]
  exact h g c _ (R.more hr hn y) (Wrote.setCell (R:=fun b _=>b=g) (Wrote.refl _ W) (fun _=>rfl) _) (Or.inl rfl)
 .obtain ⟨v',w',hrun,r1,r2⟩:=run_append_arg_grows (P:=prog) W 27 o.type 3 i0 (.i 0) 1 8 underlying27 hi hz0 hz1 hz2 rfl (by decide) ⟨g,0,none⟩ n c (rowVals n f) (by rw [A6,Nat.mul_one]) (Dd R.sl.row) ⟨q,0,none⟩ 1 1 [.i y] rfl hnews (by omega) (by unfold maxLen; omega) (by omega)
  rw [Fw] at r1;obtain ⟨g',cap2,rfl,hg,hlt⟩:=r1.form (by omega);have L:Below W.heap.size W w':=(Below.refl _ _).grown r2 (Nat.le_refl _) (fun _ e=>by cases e);unfold Oper.wp
  simp [execOp,hop,resolve,invoke,builtin,hs,hx,hrun,Result.andThen]
  exact h g' cap2 w' ((Row.mk r1 (by omega)).mono (by omega)) (Aa L _) (Or.inr hg)
theorem Fe (W:World) {ops:Array Oper} {rest:List Oper} {o:Oper} {a:Act} {Q:Exit->Act->World->Prop} (hg:o.guard=none) (s x:Operand) (hop:o.op=Op.call { callee:=Callee.builtin Builtin.append,args:=#[s,x],argTypes:=#[27,27] })
  (g0:Nat) (hs:a.eval s=.slice (some ⟨g0,0,none⟩) 0 0) (h0:W.heap[g0]?=some (.cells #[] 3 (0,0))) (lo:Nat) (hlo:lo<=g0) (F:Nat->Nat->Prop) (u:Value) (n:Nat) (f:Nat->Int) (hx:a.eval x=u) (H:Ints .i64 W F u n f)
  (h:∀ g c W',Row W' lo g n c f->Below W.heap.size W W'->(g=g0\/W.heap.size<=g)->wpList prog ops Q rest (a.put o.dst (.slice (some ⟨g,0,none⟩) n c)) W'):wpList prog ops Q (o :: rest) a W :=
 wpList_plain hg fun K hK=>Jq W s x hop g0 hs h0 lo hlo F u n f hx H (fun g c W' r1 r2 r3=>hK _ _ (h g c W' r1 r2 r3))
theorem Um (W:World) {ops:Array Oper} {rest:List Oper} {o:Oper} {a:Act} {Q:Exit->Act->World->Prop} (hg:o.guard=none) (s x:Operand) (hop:o.op=Op.call { callee:=Callee.builtin Builtin.append,args:=#[s,x],argTypes:=#[27,27] })
  (lo g n c:Nat) (f:Nat->Int) (hs:a.eval s=.slice (some ⟨g,0,none⟩) n c) (R:Row W lo g n c f) (hn:n<1048576) (q:Nat) (y:Int) (hx:a.eval x=.slice (some ⟨q,0,none⟩) 1 1) (hq:W.cell? ⟨q,0,none⟩=some (.i y))
  (h:∀ g' c' W',Row W' lo g' (n+1) c' (snoc f n y)->Wrote (fun b _=>b=g) W W'->(g'=g\/W.heap.size<=g')->wpList prog ops Q rest (a.put o.dst (.slice (some ⟨g',0,none⟩) (n+1) c')) W'):wpList prog ops Q (o :: rest) a W :=
 wpList_plain hg fun K hK=>Yx W s x hop lo g n c f hs R hn q y hx hq (fun g c W' r1 r2 r3=>hK _ _ (h g c W' r1 r2 r3))
set_option maxHeartbeats 1000000
theorem Rx (w:World) (F G:Nat->Nat->Prop) (t c s ad pl:Int) (bl:Bool) (u u':Value) (n:Nat) (f:Nat->Int) (m:Nat) (g:Nat->Int) (H:Ints .i64 w F u n f) (K:Ints .i64 w G u' m g) :
  Calls prog 57 #[.agg (pR t c s ad pl bl u u')] w fun e w'=>∃ p x q y,e=.returned (.agg (pR t c s ad pl bl (.slice (some ⟨p,0,none⟩) n x) (.slice (some ⟨q,0,none⟩) m y)))/\Row w' w.heap.size p n x f/\Row w' w.heap.size q m y g/\p≠q/\Below w.heap.size w w':=by
 obtain ⟨ua,ux,rfl,un,hr,hF⟩:=H;obtain ⟨va,vx,rfl,vn,hr',hF'⟩:=K
 have H:Ints .i64 w F (.slice ua n ux) n f:=⟨_,_,rfl,un,hr,hF⟩
 have K:Ints .i64 w G (.slice va m vx) m g:=⟨_,_,rfl,vn,hr',hF'⟩
 clear hr hF hr' hF';have L1:Below w.heap.size w (((w.alloc (.cells (pR t c s ad pl bl (.slice ua n ux) (.slice va m vx)) 33)).alloc (.cells (pR 0 0 0 0 0 false (.slice none 0 0) (.slice none 0 0)) 33)).alloc (.cells #[] 3)):=(((Below.refl _ _).alloc (Nat.le_refl _) _).alloc (by simp) _).alloc (by simp; omega) _;have k0:(((w.alloc (.cells (pR t c s ad pl bl (.slice ua n ux) (.slice va m vx)) 33)).alloc (.cells (pR 0 0 0 0 0 false (.slice none 0 0) (.slice none 0 0)) 33)).alloc (.cells #[] 3)).heap[w.heap.size]?=some (.cells (pR t c s ad pl bl (.slice ua n ux) (.slice va m vx)) 33 (0,0)):=Az (Az (Ak w _ _) _) _
 have k1:(((w.alloc (.cells (pR t c s ad pl bl (.slice ua n ux) (.slice va m vx)) 33)).alloc (.cells (pR 0 0 0 0 0 false (.slice none 0 0) (.slice none 0 0)) 33)).alloc (.cells #[] 3)).heap[w.heap.size+1]?=some (.cells (pR 0 0 0 0 0 false (.slice none 0 0) (.slice none 0 0)) 33 (0,0)):=by simpa using Az (Ak (w.alloc (.cells (pR t c s ad pl bl (.slice ua n ux) (.slice va m vx)) 33)) _ _) (.cells #[] 3)
 have k2:(((w.alloc (.cells (pR t c s ad pl bl (.slice ua n ux) (.slice va m vx)) 33)).alloc (.cells (pR 0 0 0 0 0 false (.slice none 0 0) (.slice none 0 0)) 33)).alloc (.cells #[] 3)).heap[w.heap.size+1+1]?=some (.cells #[] 3 (0,0)):=by simpa using Ak ((w.alloc (.cells (pR t c s ad pl bl (.slice ua n ux) (.slice va m vx)) 33)).alloc (.cells (pR 0 0 0 0 0 false (.slice none 0 0) (.slice none 0 0)) 33)) #[] 3
 have HZ:Hid ((((w.alloc (.cells (pR t c s ad pl bl (.slice ua n ux) (.slice va m vx)) 33)).alloc (.cells (pR 0 0 0 0 0 false (.slice none 0 0) (.slice none 0 0)) 33)).alloc (.cells #[] 3)).heap.size=w.heap.size+1+1+1):=by show _=_; simp
 go_enter func57,ntmps57
 go_wp2_with (at_builtin; refine Fe _ rfl _ _ rfl (w.heap.size+1+1) rfl k2 (w.heap.size+1+1) (Nat.le_refl _) F (.slice ua n ux) n f rfl (H.keep (Aa L1 Aj) (fun _ _ _ x=>x)) ?_);generalize (((w.alloc (.cells (pR t c s ad pl bl (.slice ua n ux) (.slice va m vx)) 33)).alloc (.cells (pR 0 0 0 0 0 false (.slice none 0 0) (.slice none 0 0)) 33)).alloc (.cells #[] 3))=W1 at *;rintro p x W2 R2 L2 hp;have z1:W1.heap.size=w.heap.size+1+1+1:=Ae HZ;have j0:=Ab k0 L2 (by omega);have j1:=Ab k1 L2 (by omega);have hps:=R2.parts;have L3:=L1.trans (L2.mono (by omega));have c0:=Af j0;have f0:=Au j0
 have hzz:w.heap.size+1+1+1<=W2.heap.size:=by have:=L2.size; omega
 have m0:((W2.sc w.heap.size 6 (.sl p 0 n x)).alloc (.cells #[] 3)).heap[w.heap.size]?=some (.cells (pR t c s ad pl bl (.sl p 0 n x) (.slice va m vx)) 33 (0,0)):=Az (Am j0 _) _;have m1:((W2.sc w.heap.size 6 (.sl p 0 n x)).alloc (.cells #[] 3)).heap[w.heap.size+1]?=some (.cells (pR 0 0 0 0 0 false (.slice none 0 0) (.slice none 0 0)) 33 (0,0)):=Az (Ce j1 (by omega)) _
 have m2:((W2.sc w.heap.size 6 (.sl p 0 n x)).alloc (.cells #[] 3)).heap[W2.heap.size]?=some (.cells #[] 3 (0,0)):=by simpa using Ak (W2.sc w.heap.size 6 (.sl p 0 n x)) #[] 3
 have LV:Below w.heap.size w ((W2.sc w.heap.size 6 (.sl p 0 n x)).alloc (.cells #[] 3)):=(L3.setCell (Nat.le_refl _) _).alloc (by simp; have:=L3.size; omega) _;have WV:Wrote (fun b _=>b=w.heap.size) W2 ((W2.sc w.heap.size 6 (.sl p 0 n x)).alloc (.cells #[] 3)):=(Wrote.setCell (R:=fun b _=>b=w.heap.size) (Wrote.refl _ W2) (fun _=>rfl) _).alloc _;have RV:=R2.keep WV (fun _ h=>by omega)
 have zV:((W2.sc w.heap.size 6 (.sl p 0 n x)).alloc (.cells #[] 3)).heap.size=W2.heap.size+1:=by simp
 have HX:=Ac (And.intro m0 (And.intro m1 (And.intro m2 (And.intro LV (And.intro RV zV)))));have cm:=Af m0;clear k0 k1 k2 L1 L2 L3 j0 j1 R2 z1 m0 m1 LV WV RV;go_wp2_with (at_builtin; refine Fe _ rfl _ _ rfl W2.heap.size rfl m2 W2.heap.size (Nat.le_refl _) G (.slice va m vx) m g rfl (K.keep (Aa HX.out.2.2.2.1 Aj) (fun _ _ _ x=>x)) ?_);clear m2 c0 f0 cm;generalize ((W2.sc w.heap.size 6 (.sl p 0 n x)).alloc (.cells #[] 3))=W3 at *;rintro q y W4 R4 L4 hq;obtain ⟨m0,m1,-,LV,RV,zV⟩:=HX.out
 replace L4:Below W3.heap.size W3 W4:=by rw [zV]; exact L4
 have hqs:=R4.parts;have RP:=RV.below L4;have j0:=Ab m0 L4 (Ad m0);have j1:=Ab m1 L4 (Ad m1);have L5:=Ah LV L4;have c0:=Af j0;have f0:=Au j0;have c1:=Af j1;have f1:=Au j1;have HY:=Ac (And.intro RP (And.intro R4 L5));clear HX HZ m0 m1 LV RV L4 R4 RP j0 j1 L5 zV;go_wp2;refine bodyPost_ret (v:=.agg (pR t c s ad pl bl (.sl p 0 n x) (.sl q 0 m y))) (by simp [results,results57,go_sem,c1]) rfl ?_;have hw:=hqs.2.1
 have key:∀ W5,Wrote (fun b _=>b=w.heap.size\/b=w.heap.size+1) W4 W5->Row W5 w.heap.size p n x f/\Row W5 w.heap.size q m y g/\p≠q/\Below w.heap.size w W5:=fun W5 WW =>
  ⟨(HY.out.1.keep WW (fun _ h=>by omega)).mono (by omega),(HY.out.2.1.keep WW (fun _ h=>by omega)).mono (by omega),by omega,HY.out.2.2.trans (WW.below HY.out.2.2.size (fun b o hb h=>by omega))⟩
 refine ⟨_,_,_,_,rfl,key _ ?_⟩
 iterate 9 (refine Wrote.setCell ?_ (fun _=>by omega) _)
 exact Wrote.refl _ _
def I5 (f:Nat->Int) (s pl a:Int):Int:=bits .xor .i64 (f ((a%8+s+a/8)%16).toNat) pl
theorem Jgy (w:World) (F:Nat->Nat->Prop) (t c s ad pl:Int) (bl:Bool) (u u':Value) (f:Nat->Int) (a:Int) (H:Ints .i64 w F u 16 f) (s0:0<=s) (s1:s<=255) (a0:0<=a) (a1:a<48) :
  Calls prog 142 #[.agg (pR t c s ad pl bl u u'),.i a] w fun e w'=>e=.returned (.i (I5 f s pl a))/\Below w.heap.size w w':=by
 obtain ⟨ua,ux,rfl,un,hr,-⟩:=H;have L0:Below w.heap.size w (w.alloc (.cells (pR t c s ad pl bl (.slice ua 16 ux) u') 33)):=(Below.refl _ _).alloc (Nat.le_refl _) _
 obtain ⟨k,hk,hk16⟩:∃ k:Nat,(a%8+s+a/8)%16=(k:Int)/\k<16:=⟨((a%8+s+a/8)%16).toNat,by omega,by omega⟩
 have HE:Hid (I5 f s pl a=bits .xor .i64 (f k) pl):=by show _=_; unfold I5; rw [hk,Int.toNat_natCast]
 have m8:a.tmod 8=a%8:=Int.tmod_eq_emod_of_nonneg a0;have d8:a.tdiv 8=a/8:=Int.tdiv_eq_ediv_of_nonneg a0
 have m16:(a%8+s+a/8).tmod 16=(k:Int):=by rw [Int.tmod_eq_emod_of_nonneg (by omega)]; exact hk
 obtain ⟨b,off,rfl,hc⟩:=(hr.keep (Aa L0 Aj) (fun _ _ _ x=>x)) k hk16
 go_enter func142,ntmps142
 go_upto_region 1 with (fail)
 have w1:IntKind.i64.wrap (a%8+s)=a%8+s:=by rw [IntKind.wrap_i64]; omega
 have w2:IntKind.i64.wrap (a%8+s+a/8)=a%8+s+a/8:=by rw [IntKind.wrap_i64]; omega
 have w3:IntKind.i64.wrap (a%8)=a%8:=by rw [IntKind.wrap_i64]; omega
 have w4:IntKind.i64.wrap (a/8)=a/8:=by rw [IntKind.wrap_i64]; omega
 have w5:IntKind.i64.wrap (k:Int)=k:=by rw [IntKind.wrap_i64]; omega
 go_quiet (fail)
 go_wp2;go_ret;exact ⟨A5 HE.out.symm,below_drewN L0 _⟩
def Yy (ok:Bool) (f:Nat->Int) (s pl a:Int):Int:=if ok=true/\0<=a/\a<=47 then I5 f s pl a else 0
set_option maxHeartbeats 2000000
theorem Xb (w:World):Calls prog 106 #[] w fun e w'=>∃ p,e=.returned (.agg (pR 0 0 0 0 0 false (.slice (some ⟨p,0,none⟩) 16 16) (.slice none 0 0)))/\Row w' w.heap.size p 16 16 (fun _=>0)/\Below w.heap.size w w':=by
 obtain ⟨ob,hmk,hrow⟩:∃ ob:Obj,(∀ W:World,(Instr.makeSlice 27 (.i 16) (.i 16)).run prog W=.ok (.sl W.heap.size 0 16 16) (W.alloc ob))/\Hid (∀ W:World,(W.alloc ob).rowIs W.heap.size 3 16 (fun _=>.i 0)) :=
  ⟨_,run_make_row' (P:=prog) 27 3 (.i 0) 8 underlying27 Gp rfl .i64 .i64 16 (by omega) (by omega),fun W=>World.rowIs_made W _ _ _⟩
 have hr:=Ac (hrow.out (w.alloc (.cells (pR 0 0 0 0 0 false (.sl (w.heap.size+1) 0 16 16) (.slice none 0 0)) 33)));have L0:Below w.heap.size w ((w.alloc (.cells (pR 0 0 0 0 0 false (.sl (w.heap.size+1) 0 16 16) (.slice none 0 0)) 33)).alloc ob):=((Below.refl _ _).alloc (Nat.le_refl _) _).alloc (by simp) _
 go_enter func106,ntmps106
 go_wp2;have hr':=Ae hr;simp only [World.size_alloc] at hr';refine bodyPost_ret (v:=.agg (pR 0 0 0 0 0 false (.sl (w.heap.size+1) 0 16 16) (.slice none 0 0))) (by simp [results,results106,go_sem]) rfl ?_;exact ⟨_,rfl,Row.fresh hr' (by omega) (by omega),L0⟩
def Kx (ok:Bool) (reg v c:Int):Int:=if ok=true/\reg=0 then v%256 else c
def Ky (ok:Bool) (reg v s:Int):Int:=if ok=true/\reg=1 then v%256 else s
def Kz (ok:Bool) (reg v ad:Int):Int:=if ok=true/\reg=3 then v%256%16 else if ok=true/\reg=4 then (ad+1)%16 else ad
def La (ok:Bool) (reg v pl:Int):Int:=if ok=true/\reg=5 then v%256%64 else pl
def My (ok:Bool) (reg v ad:Int) (f:Nat->Int):Nat->Int:=if ok=true/\reg=4 then (fun i=>if i=ad.toNat then v%256%64 else f i) else f
theorem Ry (w:World) (F G:Nat->Nat->Prop) (t c s ad pl:Int) (bl:Bool) (u u':Value) (n:Nat) (f:Nat->Int) (m:Nat) (g:Nat->Int) (reg v:Int) (H:Ints .i64 w F u n f) (K:Ints .i64 w G u' m g) :
  Calls prog 134 #[.agg (pR t c s ad pl bl u u'),.i reg,.i v] w fun e w'=>∃ p x q y,e=.returned (.agg (pR t (Kx (A1 t c s ad pl n f m g) reg v c) (Ky (A1 t c s ad pl n f m g) reg v s) (Kz (A1 t c s ad pl n f m g) reg v ad) (La (A1 t c s ad pl n f m g) reg v pl) bl (.slice (some ⟨p,0,none⟩) n x) (.slice (some ⟨q,0,none⟩) m y)))/\Row w' w.heap.size p n x (My (A1 t c s ad pl n f m g) reg v ad f)/\Row w' w.heap.size q m y g/\p≠q/\Below w.heap.size w w':=by
 obtain ⟨ua,ux,rfl,un,hr,hF⟩:=H;obtain ⟨va,vx,rfl,vn,hr',hF'⟩:=K
 have H:Ints .i64 w F (.slice ua n ux) n f:=⟨_,_,rfl,un,hr,hF⟩
 have K:Ints .i64 w G (.slice va m vx) m g:=⟨_,_,rfl,vn,hr',hF'⟩
 clear hr hF hr' hF';have L0:Below w.heap.size w ((w.alloc (.cells (pR t c s ad pl bl (.slice ua n ux) (.slice va m vx)) 33)).alloc (.cells (pR 0 0 0 0 0 false (.slice none 0 0) (.slice none 0 0)) 33)):=((Below.refl _ _).alloc (Nat.le_refl _) _).alloc (by simp) _;have k0:((w.alloc (.cells (pR t c s ad pl bl (.slice ua n ux) (.slice va m vx)) 33)).alloc (.cells (pR 0 0 0 0 0 false (.slice none 0 0) (.slice none 0 0)) 33)).heap[w.heap.size]?=some (.cells (pR t c s ad pl bl (.slice ua n ux) (.slice va m vx)) 33 (0,0)):=Az (Ak w _ _) _
 have k1:((w.alloc (.cells (pR t c s ad pl bl (.slice ua n ux) (.slice va m vx)) 33)).alloc (.cells (pR 0 0 0 0 0 false (.slice none 0 0) (.slice none 0 0)) 33)).heap[w.heap.size+1]?=some (.cells (pR 0 0 0 0 0 false (.slice none 0 0) (.slice none 0 0)) 33 (0,0)):=by simpa using Ak (w.alloc (.cells (pR t c s ad pl bl (.slice ua n ux) (.slice va m vx)) 33)) (pR 0 0 0 0 0 false (.slice none 0 0) (.slice none 0 0)) 33
 go_enter func134,ntmps134
 go_wp2_with fail;generalize ((w.alloc (.cells (pR t c s ad pl bl (.slice ua n ux) (.slice va m vx)) 33)).alloc (.cells (pR 0 0 0 0 0 false (.slice none 0 0) (.slice none 0 0)) 33))=W0 at *;refine (Rx _ F G t c s ad pl bl _ _ n f m g (H.keep (Aa L0 Aj) (fun _ _ _ x=>x)) (K.keep (Aa L0 Aj) (fun _ _ _ x=>x))).mono ?_;rintro e W1 ⟨p,x,q,y,rfl,R1,R2,hpq,L1⟩;have hp:=R1.parts;have hq:=R2.parts;have sz:=L1.size;have hz0:=Ad k1;have C1:=Ah L0 L1;have x0:=Az (Ab k0 L1 (Ad k0)) (.cells (pR t c s ad pl bl (.sl p 0 n x) (.sl q 0 m y)) 33);have x1:=Az (Ab k1 L1 (Ad k1)) (.cells (pR t c s ad pl bl (.sl p 0 n x) (.sl q 0 m y)) 33);have x2:=Ak W1 (pR t c s ad pl bl (.sl p 0 n x) (.sl q 0 m y)) 33
 have LA:Below W1.heap.size W1 (W1.alloc (.cells (pR t c s ad pl bl (.sl p 0 n x) (.sl q 0 m y)) 33)):=(Below.refl _ _).alloc (Nat.le_refl _) _;have C2:=Ah C1 LA;have S1:=(R1.below LA).mono (lo':=w.heap.size) L0.size;have S2:=(R2.below LA).mono (lo':=w.heap.size) L0.size;have c0:=Af x0;go_wp2_with fail;clear c0 k0 k1 L0 L1 C1 R1 R2 LA
 obtain ⟨z,hz⟩:∃ z,Hid (z=W1.heap.size):=⟨_,rfl⟩
 generalize W1.alloc (.cells (pR t c s ad pl bl (.sl p 0 n x) (.sl q 0 m y)) 33)=W2 at *;rw [<- hz.out] at x2 ⊢
 have hzp:p<z/\q<z/\w.heap.size+1<p/\w.heap.size+1<q:=by rw [hz.out]; exact ⟨hp.2.1,hq.2.1,by omega,by omega⟩
 clear hz hp hq sz hz0;refine (Mk _ F G t c s ad pl bl _ _ n f m g (H.keep (Aa C2 Aj) (fun _ _ _ x=>x)) (K.keep (Aa C2 Aj) (fun _ _ _ x=>x))).mono ?_;rintro e W3 ⟨rfl,L⟩;replace x0:=Ab x0 L (Ad x0);replace x1:=Ab x1 L (Ad x1);replace x2:=Ab x2 L (Ad x2);replace S1:=S1.below L;replace S2:=S2.below L;have C3:=Ah C2 L;clear L C2;have c0:=Af x0;have c1:=Af x1;have c2:=Af x2;have f1:=Au x1;have f2:=Au x2
 have key:∀ W5,Wrote (fun b _=>b=w.heap.size+1\/b=z) W3 W5->Row W5 w.heap.size p n x f/\Row W5 w.heap.size q m y g/\p≠q/\Below w.heap.size w W5:=fun W5 WW =>
  ⟨S1.keep WW (fun _ h=>by omega),S2.keep WW (fun _ h=>by omega),hpq,C3.trans (WW.below C3.size (fun b o hb h=>by omega))⟩
 have KEY:=Ac key;have HP:Hid (A1 t c s ad pl n f m g=true->J0 t c s ad pl n f m g):=Ff;clear key x0 x1 x2;cases hok:A1 t c s ad pl n f m g
 .have HE:Hid (Kx false reg v c=c/\Ky false reg v s=s/\Kz false reg v ad=ad/\La false reg v pl=pl/\My false reg v ad f=f):=⟨if_neg (by simp),if_neg (by simp),(if_neg (by simp)).trans (if_neg (by simp)),if_neg (by simp),if_neg (by simp)⟩
  have HO:=Ac hok;clear hok;go_wp2;refine bodyPost_ret (v:=.agg (pR t (c) (s) (ad) (pl) bl (.sl p 0 n x) (.sl q 0 m y))) (by simp [results,results134,go_sem,c1]) rfl ?_;rw [HO.out,HE.out.1,HE.out.2.1,HE.out.2.2.1,HE.out.2.2.2.1,HE.out.2.2.2.2];refine ⟨p,x,q,y,rfl,KEY.out _ ?_⟩
  iterate 8 (refine Wrote.setCell ?_ (fun _=>by omega) _)
  exact Wrote.refl _ _
 .have HO:=Ac hok
  have IP:=HP.out hok;clear hok HP;have a0:=IP.a0;have a1:=IP.a1;have N16:=Ac IP.n16;clear IP;go_wp2_with fail;refine (Bo _ _).mono ?_;rintro e W' ⟨rfl,rfl⟩
  obtain ⟨vb,hvb⟩:∃ vb,Hid (vb=v%256):=⟨_,rfl⟩
  have vb0:0<=vb:=by rw [hvb.out]; omega
  have vb1:vb<256:=by rw [hvb.out]; omega
  rw [<- hvb.out]
  by_cases e0:reg=0
  .subst e0
   have HE:Hid (Kx true 0 v c=vb/\Ky true 0 v s=s/\Kz true 0 v ad=ad/\La true 0 v pl=pl/\My true 0 v ad f=f):=by rw [hvb.out]; exact ⟨rfl,rfl,rfl,rfl,rfl⟩
   go_wp2;refine bodyPost_ret (v:=.agg (pR t (vb) (s) (ad) (pl) bl (.sl p 0 n x) (.sl q 0 m y))) (by simp [results,results134,go_sem,c1]) rfl ?_;rw [HO.out,HE.out.1,HE.out.2.1,HE.out.2.2.1,HE.out.2.2.2.1,HE.out.2.2.2.2];refine ⟨p,x,q,y,rfl,KEY.out _ ?_⟩
   iterate 9 (refine Wrote.setCell ?_ (fun _=>by omega) _)
   exact Wrote.refl _ _
  by_cases e1:reg=1
  .subst e1
   have HE:Hid (Kx true 1 v c=c/\Ky true 1 v s=vb/\Kz true 1 v ad=ad/\La true 1 v pl=pl/\My true 1 v ad f=f):=by rw [hvb.out]; exact ⟨rfl,rfl,rfl,rfl,rfl⟩
   go_wp2;refine bodyPost_ret (v:=.agg (pR t (c) (vb) (ad) (pl) bl (.sl p 0 n x) (.sl q 0 m y))) (by simp [results,results134,go_sem,c1]) rfl ?_;rw [HO.out,HE.out.1,HE.out.2.1,HE.out.2.2.1,HE.out.2.2.2.1,HE.out.2.2.2.2];refine ⟨p,x,q,y,rfl,KEY.out _ ?_⟩
   iterate 9 (refine Wrote.setCell ?_ (fun _=>by omega) _)
   exact Wrote.refl _ _
  by_cases e3:reg=3
  .subst e3
   have HE:Hid (Kx true 3 v c=c/\Ky true 3 v s=s/\Kz true 3 v ad=vb%16/\La true 3 v pl=pl/\My true 3 v ad f=f):=by rw [hvb.out]; exact ⟨rfl,rfl,rfl,rfl,rfl⟩
   have t16:vb.tmod 16=vb%16:=Int.tmod_eq_emod_of_nonneg vb0;go_wp2;refine bodyPost_ret (v:=.agg (pR t (c) (s) (vb%16) (pl) bl (.sl p 0 n x) (.sl q 0 m y))) (by simp [results,results134,go_sem,c1]) rfl ?_;rw [HO.out,HE.out.1,HE.out.2.1,HE.out.2.2.1,HE.out.2.2.2.1,HE.out.2.2.2.2];refine ⟨p,x,q,y,rfl,KEY.out _ ?_⟩
   iterate 9 (refine Wrote.setCell ?_ (fun _=>by omega) _)
   exact Wrote.refl _ _
  by_cases e5:reg=5
  .subst e5
   have HE:Hid (Kx true 5 v c=c/\Ky true 5 v s=s/\Kz true 5 v ad=ad/\La true 5 v pl=vb%64/\My true 5 v ad f=f):=by rw [hvb.out]; exact ⟨rfl,rfl,rfl,rfl,rfl⟩
   have t64:vb.tmod 64=vb%64:=Int.tmod_eq_emod_of_nonneg vb0;go_wp2;refine bodyPost_ret (v:=.agg (pR t (c) (s) (ad) (vb%64) bl (.sl p 0 n x) (.sl q 0 m y))) (by simp [results,results134,go_sem,c1]) rfl ?_;rw [HO.out,HE.out.1,HE.out.2.1,HE.out.2.2.1,HE.out.2.2.2.1,HE.out.2.2.2.2];refine ⟨p,x,q,y,rfl,KEY.out _ ?_⟩
   iterate 9 (refine Wrote.setCell ?_ (fun _=>by omega) _)
   exact Wrote.refl _ _
  by_cases e4:reg=4
  .subst e4
   obtain ⟨k,rfl⟩:∃ k:Nat,ad=k:=⟨ad.toNat,by omega⟩
   have hk:k<n:=by have:=N16.out; omega
   have hki:(k:Int)<(n:Int):=by omega
   have HE:Hid (Kx true 4 v c=c/\Ky true 4 v s=s/\Kz true 4 v k=((k:Int)+1)%16/\La true 4 v pl=pl/\My true 4 v k f=fun i=>if i=k then vb%64 else f i):=by rw [hvb.out]; exact ⟨rfl,rfl,rfl,rfl,rfl⟩
   have t64:vb.tmod 64=vb%64:=Int.tmod_eq_emod_of_nonneg vb0;have t16:((k:Int)+1).tmod 16=((k:Int)+1)%16:=Int.tmod_eq_emod_of_nonneg (by omega);obtain ⟨bb,oo,ee,hcell⟩:=S1.sl.row k hk;simp only [Option.some.injEq,Addr.mk.injEq,and_true] at ee;obtain ⟨rfl,rfl⟩:=ee;rw [Nat.zero_add] at hcell;have hfro:W'.frozen? ⟨p,k,none⟩=false:=S1.own.frozenAt k
   have key:∀ W5,Wrote (fun b _=>b=w.heap.size+1\/b=z) (W'.sc p k (.i (vb%64))) W5->Row W5 w.heap.size p n x (fun i=>if i=k then vb%64 else f i)/\Row W5 w.heap.size q m y g/\p≠q/\Below w.heap.size w W5:=fun W5 WW =>
    have Cp:=C3.setCell (p:=⟨p,k,none⟩) (by show w.heap.size<=p; omega) (.i (vb%64))
    ⟨(S1.put k hk (vb%64)).keep WW (fun _ h=>by omega),(S2.keep (Wrote.setCell (R:=fun b _=>b=p) (Wrote.refl _ W') (fun _=>rfl) _) (fun _ h=>hpq h.symm)).keep WW (fun _ h=>by omega),hpq,Cp.trans (WW.below Cp.size (fun b o hb h=>by omega))⟩
   have KEY4:=Ac key;clear key
   have hzp1:¬ z=p:=by omega
   have hzp2:¬ w.heap.size+1=p:=by omega
   go_wp2;refine bodyPost_ret (v:=.agg (pR t (c) (s) (((k:Int)+1)%16) (pl) bl (.sl p 0 n x) (.sl q 0 m y))) (by simp [results,results134,go_sem,c1]) rfl ?_;rw [HO.out,HE.out.1,HE.out.2.1,HE.out.2.2.1,HE.out.2.2.2.1,HE.out.2.2.2.2];refine ⟨p,x,q,y,rfl,KEY4.out _ ?_⟩
   iterate 9 (refine Wrote.setCell ?_ (fun _=>by omega) _)
   exact Wrote.refl _ _
  .have HE:Hid (Kx true reg v c=c/\Ky true reg v s=s/\Kz true reg v ad=ad/\La true reg v pl=pl/\My true reg v ad f=f):=⟨if_neg (by simp [e0]),if_neg (by simp [e1]),(if_neg (by simp [e3])).trans (if_neg (by simp [e4])),if_neg (by simp [e5]),if_neg (by simp [e4])⟩
   have e0':(reg==0)=false:=by simpa using e0
   have e1':(reg==1)=false:=by simpa using e1
   have e3':(reg==3)=false:=by simpa using e3
   have e4':(reg==4)=false:=by simpa using e4
   have e5':(reg==5)=false:=by simpa using e5
   clear e0 e1 e3 e4 e5;go_wp2;refine bodyPost_ret (v:=.agg (pR t (c) (s) (ad) (pl) bl (.sl p 0 n x) (.sl q 0 m y))) (by simp [results,results134,go_sem,c1]) rfl ?_;rw [HO.out,HE.out.1,HE.out.2.1,HE.out.2.2.1,HE.out.2.2.2.1,HE.out.2.2.2.2];refine ⟨p,x,q,y,rfl,KEY.out _ ?_⟩
   iterate 8 (refine Wrote.setCell ?_ (fun _=>by omega) _)
   exact Wrote.refl _ _
set_option maxHeartbeats 8000000
set_option linter.unusedSimpArgs false
theorem N8 (W:World) (d:Nat) (v0 v1 v2 v3 v4 v5 v6 v7:Value):Wrote (fun b _=>b=d) W ((((((((W.setCell ⟨d,0,none⟩ v0).setCell ⟨d,1,none⟩ v1).setCell ⟨d,2,none⟩ v2).setCell ⟨d,3,none⟩ v3).setCell ⟨d,4,none⟩ v4).setCell ⟨d,5,none⟩ v5).setCell ⟨d,6,none⟩ v6).setCell ⟨d,7,none⟩ v7) :=
 Wrote.setCell (Wrote.setCell (Wrote.setCell (Wrote.setCell (Wrote.setCell (Wrote.setCell (Wrote.setCell (Wrote.setCell (Wrote.refl (fun b _=>b=d) W) (fun _=>rfl) _) (fun _=>rfl) _) (fun _=>rfl) _) (fun _=>rfl) _) (fun _=>rfl) _) (fun _=>rfl) _) (fun _=>rfl) _) (fun _=>rfl) _
theorem Uo {W:World} {d:Nat} {T:TypeId} {u0 u1 u2 u3 u4 u5 u6 u7:Value} (h:W.heap[d]?=some (.cells #[u0,u1,u2,u3,u4,u5,u6,u7] T (0,0))) (v0 v1 v2 v3 v4 v5 v6 v7:Value):((((((((W.setCell ⟨d,0,none⟩ v0).setCell ⟨d,1,none⟩ v1).setCell ⟨d,2,none⟩ v2).setCell ⟨d,3,none⟩ v3).setCell ⟨d,4,none⟩ v4).setCell ⟨d,5,none⟩ v5).setCell ⟨d,6,none⟩ v6).setCell ⟨d,7,none⟩ v7).heap[d]?=some (.cells #[v0,v1,v2,v3,v4,v5,v6,v7] T (0,0)):=by
 have h0:=Am (o:=0) h v0;simp only [Sa,Sc,Sb] at h0;have h1:=Am (o:=1) h0 v1;simp only [Sa,Sc,Sb] at h1;have h2:=Am (o:=2) h1 v2;simp only [Sa,Sc,Sb] at h2;have h3:=Am (o:=3) h2 v3;simp only [Sa,Sc,Sb] at h3;have h4:=Am (o:=4) h3 v4;simp only [Sa,Sc,Sb] at h4;have h5:=Am (o:=5) h4 v5;simp only [Sa,Sc,Sb] at h5;have h6:=Am (o:=6) h5 v6;simp only [Sa,Sc,Sb] at h6;have h7:=Am (o:=7) h6 v7;simp only [Sa,Sc,Sb] at h7;exact h7
def Ps (ok:Bool) (reg ad:Int):Int:=if ok=true/\reg=4 then (ad+1)%16 else ad
def Rz (ok:Bool) (reg:Int) (bl:Bool):Bool:=if ok=true/\reg=2 then false else bl
def R5 (ok:Bool) (reg:Int) (bl:Bool) (ad:Int) (f:Nat->Int):Int:=if ok=true/\reg=2 then 128*Av bl else if ok=true/\reg=4 then f ad.toNat else 0
theorem Up (w:World) (F G:Nat->Nat->Prop) (t c s ad pl:Int) (bl:Bool) (u u':Value) (n:Nat) (f:Nat->Int) (m:Nat) (g:Nat->Int) (reg:Int) (H:Ints .i64 w F u n f) (K:Ints .i64 w G u' m g) :
  Calls prog 130 #[.agg (pR t c s ad pl bl u u'),.i reg] w fun e w'=>∃ p x q y,e=.returned (.tuple #[.agg (pR t c s (Ps (A1 t c s ad pl n f m g) reg ad) pl (Rz (A1 t c s ad pl n f m g) reg bl) (.slice (some ⟨p,0,none⟩) n x) (.slice (some ⟨q,0,none⟩) m y)),.i (R5 (A1 t c s ad pl n f m g) reg bl ad f)])/\Row w' w.heap.size p n x f/\Row w' w.heap.size q m y g/\p≠q/\Below w.heap.size w w':=by
 obtain ⟨ua,ux,rfl,un,hr,hF⟩:=H;obtain ⟨va,vx,rfl,vn,hr',hF'⟩:=K
 have H:Ints .i64 w F (.slice ua n ux) n f:=⟨_,_,rfl,un,hr,hF⟩
 have K:Ints .i64 w G (.slice va m vx) m g:=⟨_,_,rfl,vn,hr',hF'⟩
 clear hr hF hr' hF';have L0:Below w.heap.size w ((w.alloc (.cells (pR t c s ad pl bl (.slice ua n ux) (.slice va m vx)) 33)).alloc (.cells (pR 0 0 0 0 0 false (.slice none 0 0) (.slice none 0 0)) 33)):=((Below.refl _ _).alloc (Nat.le_refl _) _).alloc (by simp) _;have k0:((w.alloc (.cells (pR t c s ad pl bl (.slice ua n ux) (.slice va m vx)) 33)).alloc (.cells (pR 0 0 0 0 0 false (.slice none 0 0) (.slice none 0 0)) 33)).heap[w.heap.size]?=some (.cells (pR t c s ad pl bl (.slice ua n ux) (.slice va m vx)) 33 (0,0)):=Az (Ak w _ _) _
 have k1:((w.alloc (.cells (pR t c s ad pl bl (.slice ua n ux) (.slice va m vx)) 33)).alloc (.cells (pR 0 0 0 0 0 false (.slice none 0 0) (.slice none 0 0)) 33)).heap[w.heap.size+1]?=some (.cells (pR 0 0 0 0 0 false (.slice none 0 0) (.slice none 0 0)) 33 (0,0)):=by simpa using Ak (w.alloc (.cells (pR t c s ad pl bl (.slice ua n ux) (.slice va m vx)) 33)) (pR 0 0 0 0 0 false (.slice none 0 0) (.slice none 0 0)) 33
 go_enter func130,ntmps130
 go_wp2_with fail;generalize ((w.alloc (.cells (pR t c s ad pl bl (.slice ua n ux) (.slice va m vx)) 33)).alloc (.cells (pR 0 0 0 0 0 false (.slice none 0 0) (.slice none 0 0)) 33))=W0 at *;refine (Rx _ F G t c s ad pl bl _ _ n f m g (H.keep (Aa L0 Aj) (fun _ _ _ x=>x)) (K.keep (Aa L0 Aj) (fun _ _ _ x=>x))).mono ?_;rintro e W1 ⟨p,x,q,y,rfl,R1,R2,hpq,L1⟩;have hp:=R1.parts;have hq:=R2.parts;have sz:=L1.size;have hz0:=Ad k1;have C1:=Ah L0 L1;have x0:=Az (Ab k0 L1 (Ad k0)) (.cells (pR t c s ad pl bl (.slice (some ⟨p,0,none⟩) n x) (.slice (some ⟨q,0,none⟩) m y)) 33);have x1:=Az (Ab k1 L1 (Ad k1)) (.cells (pR t c s ad pl bl (.slice (some ⟨p,0,none⟩) n x) (.slice (some ⟨q,0,none⟩) m y)) 33)
 have x2:=Ak W1 (pR t c s ad pl bl (.slice (some ⟨p,0,none⟩) n x) (.slice (some ⟨q,0,none⟩) m y)) 33;have LA:Below W1.heap.size W1 (W1.alloc (.cells (pR t c s ad pl bl (.slice (some ⟨p,0,none⟩) n x) (.slice (some ⟨q,0,none⟩) m y)) 33)):=(Below.refl _ _).alloc (Nat.le_refl _) _;have C2:=Ah C1 LA;have S1:=(R1.below LA).mono (lo':=w.heap.size) L0.size;have S2:=(R2.below LA).mono (lo':=w.heap.size) L0.size;have c0:=Af x0;go_wp2_with fail;clear c0 k0 k1 L0 L1 C1 R1 R2 LA
 obtain ⟨z,hz⟩:∃ z,Hid (z=W1.heap.size):=⟨_,rfl⟩
 generalize W1.alloc (.cells (pR t c s ad pl bl (.slice (some ⟨p,0,none⟩) n x) (.slice (some ⟨q,0,none⟩) m y)) 33)=W2 at *;rw [<- hz.out] at x2 ⊢
 have hzp:p<z/\q<z/\w.heap.size+1<p/\w.heap.size+1<q:=by rw [hz.out]; exact ⟨hp.2.1,hq.2.1,by omega,by omega⟩
 clear hz hp hq sz hz0;refine (Mk _ F G t c s ad pl bl _ _ n f m g (H.keep (Aa C2 Aj) (fun _ _ _ x=>x)) (K.keep (Aa C2 Aj) (fun _ _ _ x=>x))).mono ?_;rintro e W3 ⟨rfl,L⟩;replace x0:=Ab x0 L (Ad x0);replace x1:=Ab x1 L (Ad x1);replace x2:=Ab x2 L (Ad x2);replace S1:=S1.below L;replace S2:=S2.below L;have C3:=Ah C2 L;clear L C2;have c0:=Af x0;have c1:=Af x1;have c2:=Af x2;have f1:=Au x1;have f2:=Au x2
 have key:∀ W5,Wrote (fun b _=>b=w.heap.size+1\/b=z) W3 W5->Row W5 w.heap.size p n x f/\Row W5 w.heap.size q m y g/\p≠q/\Below w.heap.size w W5:=fun W5 WW =>
  ⟨S1.keep WW (fun _ h=>by omega),S2.keep WW (fun _ h=>by omega),hpq,C3.trans (WW.below C3.size (fun b o hb h=>by omega))⟩
 have KEY:=Ac key;have HX:=Ac (And.intro x0 (And.intro x1 x2));have HP:Hid (A1 t c s ad pl n f m g=true->J0 t c s ad pl n f m g):=Ff;clear key x0 x1 x2;cases hok:A1 t c s ad pl n f m g
 .have HE:Hid (Ps false reg ad=ad/\Rz false reg bl=bl/\R5 false reg bl ad f=0):=⟨if_neg (by simp),if_neg (by simp),(if_neg (by simp)).trans (if_neg (by simp))⟩
  have HO:=Ac hok;clear hok;go_wp2;refine bodyPost_ret (v:=.tuple #[.agg (pR t c s (ad) pl bl (.slice (some ⟨p,0,none⟩) n x) (.slice (some ⟨q,0,none⟩) m y)),.i (0)]) (by simp [results,results130,go_sem,c1]) rfl ?_;rw [HO.out,HE.out.1,HE.out.2.1,HE.out.2.2];refine ⟨p,x,q,y,rfl,KEY.out _ ?_⟩
  iterate 8 (refine Wrote.setCell ?_ (fun _=>by omega) _)
  exact Wrote.refl _ _
 .have HO:=Ac hok
  have IP:=HP.out hok;clear hok HP;have a0:=IP.a0;have a1:=IP.a1;have N16:=Ac IP.n16;clear IP
  by_cases e2:reg=2
  .subst e2
   have HE:Hid (Ps true 2 ad=ad/\Rz true 2 bl=false/\R5 true 2 bl ad f=128*Av bl):=⟨rfl,rfl,rfl⟩
   have hb:0<=Av bl/\Av bl<=1:=by cases bl <;> decide
   have wb:IntKind.i64.wrap (128*Av bl)=128*Av bl:=by rw [IntKind.wrap_i64]; omega
   go_upto_region 7 with (fail)
   go_region_with (go_at_call 166; refine (Tr _ _).mono ?_; rintro e W' ⟨rfl,rfl⟩)
   all_goals
    go_wp2;refine bodyPost_ret (v:=.tuple #[.agg (pR t c s (ad) pl false (.slice (some ⟨p,0,none⟩) n x) (.slice (some ⟨q,0,none⟩) m y)),.i (128*Av bl)]) (by simp [results,results130,go_sem,c1]) rfl ?_;rw [HO.out,HE.out.1,HE.out.2.1,HE.out.2.2];refine ⟨p,x,q,y,rfl,KEY.out _ ?_⟩
    repeat (first | with_reducible exact Wrote.refl _ _ | with_reducible refine Wrote.drew ?_ | with_reducible refine Wrote.setCell ?_ (fun _=>by omega) _)
  .by_cases e4:reg=4
   .subst e4
    obtain ⟨k,rfl⟩:∃ k:Nat,ad=k:=⟨ad.toNat,by omega⟩
    have hk:k<n:=by have:=N16.out; omega
    have hki:(k:Int)<(n:Int):=by omega
    have HE:Hid (Ps true 4 (k:Int)=((k:Int)+1)%16/\Rz true 4 bl=bl/\R5 true 4 bl (k:Int) f=f k):=⟨rfl,rfl,rfl⟩
    have t16:((k:Int)+1).tmod 16=((k:Int)+1)%16:=Int.tmod_eq_emod_of_nonneg (by omega);obtain ⟨hb,ho,hu,-,hr,-⟩:=H.keep (Aa C3 Aj) (fun _ _ _ x=>x);simp only [Value.slice.injEq,true_and] at hu;obtain ⟨rfl,rfl⟩:=hu;obtain ⟨b,off,rfl,hcell⟩:=hr k hk;clear hr
    have wk:IntKind.i64.wrap (k:Int)=k:=by rw [IntKind.wrap_i64]; omega
    have wk1:IntKind.i64.wrap ((k:Int)+1)=(k:Int)+1:=by rw [IntKind.wrap_i64]; omega
    have LB:=C3.size
    have hbw:b<w.heap.size:=by obtain ⟨a',c',e',-,hr',-⟩:=id H; simp only [Value.slice.injEq,true_and] at e'; obtain ⟨rfl,rfl⟩:=e'; exact hr'.lt (Cc hk)
    have hbz:b≠z:=by omega
    have hbr:b≠w.heap.size+1:=by omega
    go_upto_region 10 with (fail);rename_i K1 g1 K2 g2;clear c0 c1 c2 f1 f2;have y0:(W3.setCell ⟨z,3,none⟩ (.i (((k:Int)+1)%16))).heap[w.heap.size]?=some (.cells (pR t c s (k:Int) pl bl (.slice (some ⟨b,off,none⟩) n ux) (.slice va m vx)) 33 (0,0)):=Ce HX.out.1 (by omega);have y1:(W3.setCell ⟨z,3,none⟩ (.i (((k:Int)+1)%16))).heap[w.heap.size+1]?=some (.cells (pR 0 0 0 0 0 false (.slice none 0 0) (.slice none 0 0)) 33 (0,0)):=Ce HX.out.2.1 (by omega);have y2:(W3.setCell ⟨z,3,none⟩ (.i (((k:Int)+1)%16))).heap[z]?=some (.cells (pR t c s (((k:Int)+1)%16) pl bl (.slice (some ⟨p,0,none⟩) n x) (.slice (some ⟨q,0,none⟩) m y)) 33 (0,0)):=Am HX.out.2.2 _
    have y3:(W3.setCell ⟨z,3,none⟩ (.i (((k:Int)+1)%16))).cell? ⟨b,off+k,none⟩=some (.i (f k)):=(World.cell?_setCell_other _ _ _ _ (fun e=>hbz (congrArg Addr.block e).symm)).trans hcell
    have KE4:Hid (∀ W5,Wrote (fun b _=>b=w.heap.size+1\/b=z) (W3.setCell ⟨z,3,none⟩ (.i (((k:Int)+1)%16))) W5->Row W5 w.heap.size p n x f/\Row W5 w.heap.size q m y g/\p≠q/\Below w.heap.size w W5):=fun W5 WW=>KEY.out W5 ((Wrote.setCell (R:=fun b _=>b=w.heap.size+1\/b=z) (Wrote.refl _ W3) (fun _=>Or.inr rfl) _).trans WW)
    clear hcell;generalize (W3.setCell ⟨z,3,none⟩ (.i (((k:Int)+1)%16)))=W4 at *
    refine Bp [some 29,some 30,some 31,some 32,some 33,some 34,some 35,none,some 5] (by kernel_rfl) (by kernel_rfl) (by kernel_rfl) (by kernel_rfl) (by simp [slotsOf])
     (fun j b _=>j=7/\b=w.heap.size+1)
     (fun i v W=>match i with
      | 0=>v=.agg (pR t c s (((k:Int)+1)%16) pl bl (.slice (some ⟨p,0,none⟩) n x) (.slice (some ⟨q,0,none⟩) m y))
      | 1=>v=(pt w.heap.size 6)
      | 2=>v=.slice (some ⟨b,off,none⟩) n ux
      | 3=>v=(pt w.heap.size 3)
      | 4=>v=.i (k:Int)
      | 5=>v=.pointer (some ⟨b,off+k,none⟩)
      | 6=>v=.i (f k)
      | 7=>W.heap[w.heap.size+1]?=some (.cells (pR t c s (((k:Int)+1)%16) pl bl (.slice (some ⟨p,0,none⟩) n x) (.slice (some ⟨q,0,none⟩) m y)) 33 (0,0))
      | _=>v=.i (f k)) ?_ ?_ ?_
    .intro i j o v W W' hij _ _ hW h
     match i,hij,h with
     | 7,hij,h=>exact Al h hW (fun o e=>hij e.1.symm)
     | 0,_,h=>exact h
     | 1,_,h=>exact h
     | 2,_,h=>exact h
     | 3,_,h=>exact h
     | 4,_,h=>exact h
     | 5,_,h=>exact h
     | 6,_,h=>exact h
     | _+8,_,h=>exact h
    .intro i o a' W K ho F L hw hK
     have r0:=Af (Al y0 L (fun o ⟨j,_,_,_,_,_,e⟩=>by omega));have r2:=Af (Al y2 L (fun o ⟨j,_,_,_,_,_,e⟩=>by omega));have r3:W.cell? ⟨b,off+k,none⟩=some (.i (f k)):=(L.cell b (off+k) (block_lt_of_cell y3) (fun ⟨j,_,_,_,_,_,e⟩=>hbr e)).trans y3;have t2:=F.get (t:=2) (v:=(pt w.heap.size 0)) (by decide) rfl;have t4:=F.get (t:=4) (v:=(pt (w.heap.size+1) 0)) (by decide) rfl;have t6:=F.get (t:=6) (v:=(pt z 0)) (by decide) rfl
     match i with
     | 0 =>
      cases ho;go_simp;exact Hk hK rfl
     | 1 =>
      cases ho;go_simp;exact Hk hK rfl
     | 2 =>
      cases ho;have q1:tv a' 30=_:=Hr hw 1;go_simp;exact Hk hK rfl
     | 3 =>
      cases ho;go_simp;exact Hk hK rfl
     | 4 =>
      cases ho;have q1:tv a' 32=_:=Hr hw 3;go_simp;exact Hk hK rfl
     | 5 =>
      cases ho;have q1:tv a' 31=_:=Hr hw 2;have q2:tv a' 33=_:=Hr hw 4;go_simp;exact Hk hK rfl
     | 6 =>
      cases ho;have q1:tv a' 34=_:=Hr hw 5;go_simp;exact Hk hK rfl
     | 7 =>
      cases ho;have q1:tv a' 29=_:=Hr hw 0;have r1:=Al y1 L (fun o ⟨j,_,h1,_,_,h2,e⟩=>h1 h2);have rc:=Af r1;have rf:=Au r1;go_simp;exact hK undef _ ((N8 _ _ _ _ _ _ _ _ _ _).mono (fun b o _ e=>⟨rfl,e⟩)) (Uo r1 _ _ _ _ _ _ _ _)
     | 8 =>
      cases ho;have q1:tv a' 35=_:=Hr hw 6;go_simp;exact Hk hK rfl
     | _+9=>simp at ho
    .intro a' W F L hφ
     have e5:a'.tmps[5]?.getD undef=.i (f k):=Hd hφ 8;have eb:=Af (show W.heap[w.heap.size+1]?=some (.cells (pR t c s (((k:Int)+1)%16) pl bl (.slice (some ⟨p,0,none⟩) n x) (.slice (some ⟨q,0,none⟩) m y)) 33 (0,0)) from Hd hφ 7);have LW:=KE4.out W (L.mono (fun b o _ ⟨j,_,e⟩=>Or.inl e));clear hφ L;refine g2 _ _ ?_;rw [F.same,show slotsOf [some 29,some 30,some 31,some 32,some 33,some 34,some 35,none,some 5]=[29,30,31,32,33,34,35,5] from rfl];simp only [List.foldl_cons,List.foldl_nil];rw [e5];generalize a'.tmps[29]?.getD undef=s29;generalize a'.tmps[30]?.getD undef=s30;generalize a'.tmps[31]?.getD undef=s31;generalize a'.tmps[32]?.getD undef=s32;generalize a'.tmps[33]?.getD undef=s33;generalize a'.tmps[34]?.getD undef=s34;generalize a'.tmps[35]?.getD undef=s35;go_simp;go_wp2
     refine bodyPost_ret (v:=.tuple #[.agg (pR t c s (((k:Int)+1)%16) pl bl (.slice (some ⟨p,0,none⟩) n x) (.slice (some ⟨q,0,none⟩) m y)),.i (f k)]) (by simp [results,results130,go_sem,eb]) rfl ?_;rw [HO.out,HE.out.1,HE.out.2.1,HE.out.2.2];exact ⟨p,x,q,y,rfl,LW⟩
   .have HE:Hid (Ps true reg ad=ad/\Rz true reg bl=bl/\R5 true reg bl ad f=0):=⟨if_neg (by simp [e4]),if_neg (by simp [e2]),(if_neg (by simp [e2])).trans (if_neg (by simp [e4]))⟩
    have e2':(reg==2)=false:=by simpa using e2
    have e4':(reg==4)=false:=by simpa using e4
    clear e2 e4;go_wp2
    all_goals
     refine bodyPost_ret (v:=.tuple #[.agg (pR t c s (ad) pl bl (.slice (some ⟨p,0,none⟩) n x) (.slice (some ⟨q,0,none⟩) m y)),.i (0)]) (by simp [results,results130,go_sem,c1]) rfl ?_;rw [HO.out,HE.out.1,HE.out.2.1,HE.out.2.2];refine ⟨p,x,q,y,rfl,KEY.out _ ?_⟩
     repeat (first | with_reducible exact Wrote.refl _ _ | with_reducible refine Wrote.drew ?_ | with_reducible refine Wrote.setCell ?_ (fun _=>by omega) _)
set_option maxHeartbeats 4000000
structure Bs (W:World) (D:Nat->Prop) (u:Value) (k:Nat) (h:Nat->Int):Prop where
 ex:∃ d z,u=.slice d k z/\Bu W D d k h
structure Jf4 (w W:World) (v u:Value) (t c s ad pl:Int) (bl:Bool) (n:Nat) (f:Nat->Int) (m:Nat) (g:Nat->Int) (k:Nat) (h:Nat->Int):Prop where
 ex:∃ D E:Nat->Prop,Co W D v t c s ad pl bl n f m g/\Bs W E u k h/\(∀ b,D b->¬ E b)/\(∀ b,D b\/E b->w.heap.size<=b)/\Below w.heap.size w W
def Sj (W:World) (lo p:Nat) (dd:Value) (m:Nat) (g:Nat->Int):Prop:=(dd=.slice none 0 0/\m=0)\/∃ q y,dd=.slice (some ⟨q,0,none⟩) m y/\Row W lo q m y g/\p≠q
structure Jei (w W:World) (v u:Value) (t c s ad pl:Int) (bl:Bool) (n:Nat) (f:Nat->Int) (m:Nat) (g:Nat->Int) (k:Nat) (h:Nat->Int):Prop where
 tk:Jf4 w W v u t c s ad pl bl n f m g k h
 rows:∃ p x dd,v=.agg (pR t c s ad pl bl (.slice (some ⟨p,0,none⟩) n x) dd)/\Row W w.heap.size p n x f/\Sj W w.heap.size p dd m g
structure Jr (w W:World) (v u:Value) (t c s ad pl:Int) (bl:Bool) (n:Nat) (f:Nat->Int) (m:Nat) (g:Nat->Int) (k:Nat) (h:Nat->Int):Prop where
 r:Jei w W v u t c s ad pl bl n f m g k h
 told:0<k->∃ q y,u=.slice (some ⟨q,0,none⟩) k y/\Row W w.heap.size q k y h
def J5 (t:Int):Int:=if t=20000 then t else t+1
def N9 (t:Int) (bl:Bool):Bool:=if t=20000 then bl else if t%64=48 then true else if t%64=63 then false else bl
def tkM (t:Int) (m:Nat):Nat:=if t=20000 then m else if t%64<48 then m+1 else if t%64=48 then 0 else m
def Nh (t:Int) (f:Nat->Int) (s pl:Int) (m:Nat) (g:Nat->Int):Nat->Int:=if t=20000 then g else if t%64<48 then snoc g m (I5 f s pl (t%64)) else g
def Ml (t:Int) (m:Nat):Nat:=if t=20000 then 0 else if t%64=48 then m else 0
def Sk (t c:Int):Bool:=if t=20000 then false else if t%64=48 then decide (127<c) else false
theorem Bu.zero {W:World} {D:Nat->Prop} (a:Option Addr) (f:Nat->Int):Bu W D a 0 f:=⟨by omega,fun i hi=>absurd hi (Nat.not_lt_zero _),fun b o hF=>absurd hF (A4 _ _ _),fun b o hF=>absurd hF (A4 _ _ _)⟩
theorem Row.onD {W:World} {lo g n c:Nat} {f:Nat->Int} {D:Nat->Prop} (h:Row W lo g n c f) (hd:D g):Bu W D (some ⟨g,0,none⟩) n f:=h.sl.mono (fun b _ e=>e ▸ hd)
theorem Il {W:World} {lo p q n x m y h2:Nat} {f g:Nat->Int} {t c s ad pl:Int} {bl:Bool} (S1:Row W lo p n x f) (S2:Row W lo q m y g) (hpq:p≠q) (h2l:lo<=h2) (hp:h2<p) (hq:h2<q) (g0:Nat->Int) :
  Co W (fun b=>b=p\/b=q) (.agg (pR t c s ad pl bl (.slice (some ⟨p,0,none⟩) n x) (.slice (some ⟨q,0,none⟩) m y))) t c s ad pl bl n f m g/\Bs W (fun b=>b=h2) (.slice (some ⟨h2,0,none⟩) 0 0) 0 g0/\(∀ b,(b=p\/b=q)->¬ b=h2)/\(∀ b,(b=p\/b=q)\/b=h2->lo<=b) :=
 ⟨⟨_,_,_,_,rfl,S1.onD (Or.inl rfl),S2.onD (Or.inr rfl),Ik hpq⟩,⟨_,_,rfl,Bu.zero _ _⟩,fun b h e=>by omega,fun b h=>by omega⟩
theorem Jej (w:World) (F G:Nat->Nat->Prop) (t c s ad pl:Int) (bl:Bool) (u u':Value) (n:Nat) (f:Nat->Int) (m:Nat) (g:Nat->Int) (H:Ints .i64 w F u n f) (K:Ints .i64 w G u' m g) (ok:A1 t c s ad pl n f m g=true) :
  Calls prog 95 #[.agg (pR t c s ad pl bl u u')] w fun e w'=>∃ v z,e=.returned (.tuple #[v,z,.bool (Sk t c)])/\Jr w w' v z (J5 t) c s ad pl (N9 t bl) n f (tkM t m) (Nh t f s pl m g) (Ml t m) g:=by
 obtain ⟨ua,ux,rfl,un,hr,hF⟩:=H;obtain ⟨va,vx,rfl,vn,hr',hF'⟩:=K
 have H:Ints .i64 w F (.slice ua n ux) n f:=⟨_,_,rfl,un,hr,hF⟩
 have K:Ints .i64 w G (.slice va m vx) m g:=⟨_,_,rfl,vn,hr',hF'⟩
 clear hr hF hr' hF';have IP:=Ff ok;have t0:=IP.t0;have t1:=IP.t1;have HIP:=Ac IP;clear IP ok;have L0:Below w.heap.size w (((w.alloc (.cells (pR t c s ad pl bl (.slice ua n ux) (.slice va m vx)) 33)).alloc (.cells (pR 0 0 0 0 0 false (.slice none 0 0) (.slice none 0 0)) 33)).alloc (.cells #[] 3)):=(((Below.refl _ _).alloc (Nat.le_refl _) _).alloc (by simp) _).alloc (by simp; omega) _;have k0:(((w.alloc (.cells (pR t c s ad pl bl (.slice ua n ux) (.slice va m vx)) 33)).alloc (.cells (pR 0 0 0 0 0 false (.slice none 0 0) (.slice none 0 0)) 33)).alloc (.cells #[] 3)).heap[w.heap.size]?=some (.cells (pR t c s ad pl bl (.slice ua n ux) (.slice va m vx)) 33 (0,0)):=Az (Az (Ak w _ _) _) _
 have k1:(((w.alloc (.cells (pR t c s ad pl bl (.slice ua n ux) (.slice va m vx)) 33)).alloc (.cells (pR 0 0 0 0 0 false (.slice none 0 0) (.slice none 0 0)) 33)).alloc (.cells #[] 3)).heap[w.heap.size+1]?=some (.cells (pR 0 0 0 0 0 false (.slice none 0 0) (.slice none 0 0)) 33 (0,0)):=by simpa using Az (Ak (w.alloc (.cells (pR t c s ad pl bl (.slice ua n ux) (.slice va m vx)) 33)) (pR 0 0 0 0 0 false (.slice none 0 0) (.slice none 0 0)) 33) (.cells #[] 3)
 have k2:(((w.alloc (.cells (pR t c s ad pl bl (.slice ua n ux) (.slice va m vx)) 33)).alloc (.cells (pR 0 0 0 0 0 false (.slice none 0 0) (.slice none 0 0)) 33)).alloc (.cells #[] 3)).heap[w.heap.size+1+1]?=some (.cells #[] 3 (0,0)):=by simpa using Ak ((w.alloc (.cells (pR t c s ad pl bl (.slice ua n ux) (.slice va m vx)) 33)).alloc (.cells (pR 0 0 0 0 0 false (.slice none 0 0) (.slice none 0 0)) 33)) #[] 3
 go_enter func95,ntmps95
 go_wp2_with fail;generalize (((w.alloc (.cells (pR t c s ad pl bl (.slice ua n ux) (.slice va m vx)) 33)).alloc (.cells (pR 0 0 0 0 0 false (.slice none 0 0) (.slice none 0 0)) 33)).alloc (.cells #[] 3))=W0 at *;refine (Rx _ F G t c s ad pl bl _ _ n f m g (H.keep (Aa L0 Aj) (fun _ _ _ x=>x)) (K.keep (Aa L0 Aj) (fun _ _ _ x=>x))).mono ?_;rintro e W1 ⟨p,x,q,y,rfl,R1,R2,hpq,L1⟩;have hp:=R1.parts;have hq:=R2.parts;have sz:=L1.size;have hz0:=Ad k2;have C1:=Ah L0 L1;have x0:=Az (Ab k0 L1 (Ad k0)) (.cells (pR t c s ad pl bl (.slice (some ⟨p,0,none⟩) n x) (.slice (some ⟨q,0,none⟩) m y)) 33);have x1:=Az (Ab k1 L1 (Ad k1)) (.cells (pR t c s ad pl bl (.slice (some ⟨p,0,none⟩) n x) (.slice (some ⟨q,0,none⟩) m y)) 33)
 have x3:=Az (Ab k2 L1 (Ad k2)) (.cells (pR t c s ad pl bl (.slice (some ⟨p,0,none⟩) n x) (.slice (some ⟨q,0,none⟩) m y)) 33);have x2:=Ak W1 (pR t c s ad pl bl (.slice (some ⟨p,0,none⟩) n x) (.slice (some ⟨q,0,none⟩) m y)) 33;have LA:Below W1.heap.size W1 (W1.alloc (.cells (pR t c s ad pl bl (.slice (some ⟨p,0,none⟩) n x) (.slice (some ⟨q,0,none⟩) m y)) 33)):=(Below.refl _ _).alloc (Nat.le_refl _) _;have C2:=Ah C1 LA;have S1:=(R1.below LA).mono (lo':=w.heap.size) L0.size;have S2:=(R2.below LA).mono (lo':=w.heap.size) L0.size
 have zs:(W1.alloc (.cells (pR t c s ad pl bl (.slice (some ⟨p,0,none⟩) n x) (.slice (some ⟨q,0,none⟩) m y)) 33)).heap.size=W1.heap.size+1:=by simp
 clear k0 k1 k2 L0 L1 C1 R1 R2 LA;go_upto_region 3 with (fail)
 obtain ⟨z,hz⟩:∃ z,Hid (z=W1.heap.size):=⟨_,rfl⟩
 have hzp:p<z/\q<z/\w.heap.size+1+1<p/\w.heap.size+1+1<q:=by rw [hz.out]; exact ⟨hp.2.1,hq.2.1,by omega,by omega⟩
 generalize W1.alloc (.cells (pR t c s ad pl bl (.slice (some ⟨p,0,none⟩) n x) (.slice (some ⟨q,0,none⟩) m y)) 33)=W2 at *;rw [<- hz.out] at x2 zs ⊢;clear hp hq sz hz0 hz;have c0:=Af x0;have c1:=Af x1;have c2:=Af x2;have f1:=Au x1;have f2:=Au x2
 by_cases ht:t=20000
 .have HE:Hid (J5 t=t/\N9 t bl=bl/\tkM t m=m/\Nh t f s pl m g=g/\Ml t m=0/\Sk t c=false):=⟨if_pos ht,if_pos ht,if_pos ht,if_pos ht,if_pos ht,if_pos ht⟩
  have ht':(t==20000)=true:=by simpa using ht
  clear ht t0 t1
  have key:∀ W5,Wrote (fun b _=>b=w.heap.size+1\/b=z) W2 W5->Row W5 w.heap.size p n x f/\Row W5 w.heap.size q m y g/\Below w.heap.size w W5:=fun W5 WX =>
   ⟨S1.keep WX (fun _ h=>by omega),S2.keep WX (fun _ h=>by omega),C2.trans (WX.below C2.size (fun b o hb h=>by omega))⟩
  have KEY:=Ac key;clear key S1 S2 x0 x1 x2 x3;go_wp2;refine bodyPost_ret (v:=.tuple #[.agg (pR t c s ad pl bl (.slice (some ⟨p,0,none⟩) n x) (.slice (some ⟨q,0,none⟩) m y)),.slice (some ⟨w.heap.size+1+1,0,none⟩) 0 0,.bool false]) (by simp [results,results95,go_sem,c1]) rfl ?_
  have fin:∀ W5,Wrote (fun b _=>b=w.heap.size+1\/b=z) W2 W5->∃ v z',Ending.returned (.tuple #[.agg (pR t c s ad pl bl (.slice (some ⟨p,0,none⟩) n x) (.slice (some ⟨q,0,none⟩) m y)),.slice (some ⟨w.heap.size+1+1,0,none⟩) 0 0,.bool false])=.returned (.tuple #[v,z',.bool (Sk t c)])/\Jr w W5 v z' (J5 t) c s ad pl (N9 t bl) n f (tkM t m) (Nh t f s pl m g) (Ml t m) g:=fun W5 WX=>by
   obtain ⟨h1,h2,h3⟩:=KEY.out W5 WX;obtain ⟨e1,e2,e3,e4,e5,e6⟩:=HE.out;rw [e1,e2,e3,e4,e5,e6];obtain ⟨r1,r2,r3,r4⟩:=Il (t:=t) (c:=c) (s:=s) (ad:=ad) (pl:=pl) (bl:=bl) h1 h2 hpq (show w.heap.size<=w.heap.size+1+1 by omega) (by omega) (by omega) g;exact ⟨_,_,rfl,⟨⟨_,_,r1,r2,r3,r4,h3⟩,_,_,_,rfl,h1,Or.inr ⟨_,_,rfl,h2,by omega⟩⟩,fun h=>absurd h (by omega)⟩
  refine fin _ ?_
  repeat (first | with_reducible exact Wrote.refl _ _ | with_reducible refine Wrote.drew ?_ | with_reducible refine Wrote.setCell ?_ (fun _=>by omega) _)
 .have ht':(t==20000)=false:=by simpa using ht
  have m64:t.tmod 64=t%64:=Int.tmod_eq_emod_of_nonneg t0;have HT:=Ac ht;clear ht;go_upto_region 7 with (fail);have WS:Wrote (fun b _=>b=z) W2 (W2.setCell ⟨z,0,none⟩ (.i (t+1))):=Wrote.setCell (Wrote.refl (fun b _=>b=z) W2) (fun _=>rfl) _;have y0:=Ce (o:=0) (x:=.i (t+1)) x0 (show w.heap.size≠z by omega);have y1:=Ce (o:=0) (x:=.i (t+1)) x1 (show w.heap.size+1≠z by omega);have y3:=Ce (o:=0) (x:=.i (t+1)) x3 (show w.heap.size+1+1≠z by omega);have y2:(W2.setCell ⟨z,0,none⟩ (.i (t+1))).heap[z]?=some (.cells (pR (t+1) c s ad pl bl (.slice (some ⟨p,0,none⟩) n x) (.slice (some ⟨q,0,none⟩) m y)) 33 (0,0)):=Am x2 _;have U1:=S1.keep WS (fun _ h=>by omega);have U2:=S2.keep WS (fun _ h=>by omega);have C3:=C2.trans (WS.below C2.size (fun b o hb h=>by omega))
  have z3:(W2.setCell ⟨z,0,none⟩ (.i (t+1))).heap.size=z+1:=by simpa using zs
  clear c0 c1 c2 f1 f2 x0 x1 x2 x3 S1 S2 C2 WS zs;generalize W2.setCell ⟨z,0,none⟩ (.i (t+1))=W3 at *;have d0:=Af y0;have d1:=Af y1;have d2:=Af y2;have g1:=Au y1;have g2:=Au y2
  have KEY:Hid (∀ W5,Wrote (fun b _=>b=w.heap.size+1\/b=z) W3 W5->Row W5 w.heap.size p n x f/\Row W5 w.heap.size q m y g/\Below w.heap.size w W5):=fun W5 WX =>
   ⟨U1.keep WX (fun _ h=>by omega),U2.keep WX (fun _ h=>by omega),C3.trans (WX.below C3.size (fun b o hb h=>by omega))⟩
  by_cases hA:t%64<48
  .have HE:Hid (J5 t=t+1/\N9 t bl=bl/\tkM t m=m+1/\Nh t f s pl m g=snoc g m (I5 f s pl (t%64))/\Ml t m=0/\Sk t c=false):=⟨if_neg HT.out,(if_neg HT.out).trans ((if_neg (by omega)).trans (if_neg (by omega))),(if_neg HT.out).trans (if_pos hA),(if_neg HT.out).trans (if_pos hA),(if_neg HT.out).trans (if_neg (by omega)),(if_neg HT.out).trans (if_neg (by omega))⟩
   have hm48:m<48:=by
    have h1:=HIP.out.dots;unfold Ea at h1;rw [if_neg (by omega)] at h1
    omega
   have h16:=HIP.out.n16;have s0:=HIP.out.s0;have s1:=HIP.out.s1
   have hb:0<=t%64:=by omega
   have HDOT:Hid (∀ W:World,Below w.heap.size w W->CB 142 #[.agg (pR t c s ad pl bl (.slice ua n ux) (.slice va m vx)),.i (t%64)] W (.i (I5 f s pl (t%64)))):=fun W L=>by
    subst h16;exact Jgy W F t c s ad pl bl _ _ f (t%64) (H.keep (Aa L Aj) (fun _ _ _ x=>x)) s0 s1 hb hA
   clear h16 s0 s1 m64;generalize hdv:I5 f s pl (t%64)=dv at *;clear hdv
   have b1:decide (t%64<48)=true:=by simpa using hA
   have hzlt:z<W3.heap.size:=by omega
   clear d1 g1;go_upto_region 8 with (fail)
   refine Bp [some 26,some 27,some 28,some 29,some 30,some 31,some 32,some 33,none] (by kernel_rfl) (by kernel_rfl) (by kernel_rfl) (by kernel_rfl) (by simp [slotsOf])
    (fun j b _=>(j=6/\b=q)\/(j=8/\b=z))
    (fun i v W=>match i with
     | 0=>v=(pt z 7)
     | 1=>v=.slice (some ⟨q,0,none⟩) m y
     | 2=>v=.agg (pR t c s ad pl bl (.slice ua n ux) (.slice va m vx))
     | 3=>v=.i (t%64)
     | 4=>v=.i dv
     | 5=>∃ a,v=.slice (some ⟨a,0,none⟩) 1 1/\z<a/\W.cell? ⟨a,0,none⟩=some (.i dv)
     | 6=>∃ g' c',v=.slice (some ⟨g',0,none⟩) (m+1) c'/\Row W w.heap.size g' (m+1) c' (snoc g m dv)/\(g'=q\/z<g')
     | 7=>v=(pt z 7)
     | _=>∃ g' c',W.heap[z]?=some (.cells (pR (t+1) c s ad pl bl (.slice (some ⟨p,0,none⟩) n x) (.slice (some ⟨g',0,none⟩) (m+1) c')) 33 (0,0))/\Row W w.heap.size g' (m+1) c' (snoc g m dv)/\(g'=q\/z<g')) ?_ ?_ ?_
   .intro i j o v W W' hij ho hnw hW h
    match i,hij,ho,h with
    | 0,_,_,h=>exact h
    | 1,_,_,h=>exact h
    | 2,_,_,h=>exact h
    | 3,_,_,h=>exact h
    | 4,_,_,h=>exact h
    | 5,_,_,⟨a,h1,h2,h3⟩=>exact ⟨a,h1,h2,(hW.cell a 0 (block_lt_of_cell h3) (fun e=>by omega)).trans h3⟩
    | 6,hij,_,⟨g',c',h1,h2,h3⟩=>exact ⟨g',c',h1,h2.keep hW (fun o e=>by omega),h3⟩
    | 7,_,_,h=>exact h
    | 8,hij,ho,⟨g',c',h1,h2,h3⟩ =>
     have h6:j≠6:=fun e=>by
      obtain rfl:=Option.some.inj ho;rw [e] at hnw;cases hnw.symm.trans (show A0 _ 6=true by kernel_rfl)
     exact ⟨g',c',Al h1 hW (fun o e=>by omega),h2.keep hW (fun o e=>by omega),h3⟩
    | _+9,_,ho,_=>simp at ho
   .intro i o a' W K ho F L hw hK
    have BW:Below w.heap.size w W:=C3.trans (L.below C3.size (fun b o hb ⟨j,_,_,_,_,e⟩=>by omega));have r0:=Af (Al y0 L (fun o ⟨j,_,_,_,_,e⟩=>by omega));have t1':=F.get (t:=1) (v:=(pt w.heap.size 0)) (by decide) rfl;have t6:=F.get (t:=6) (v:=(pt z 0)) (by decide) rfl;have t7:=F.get (t:=7) (v:=.i (t%64)) (by decide) rfl
    match i with
    | 0 =>
     cases ho;go_simp;exact Hk hK rfl
    | 1 =>
     cases ho;have q1:tv a' 26=_:=Hr hw 0
     have r2:=Af (Al y2 L (fun o ⟨j,oj,_,hj,hnw,e⟩=>by
      rcases e with ⟨_,e⟩ | ⟨rfl,_⟩
      .omega
      .obtain rfl:=Option.some.inj hj
       cases hnw.symm.trans (show A0 _ 1=true by kernel_rfl)))
     go_simp;exact Hk hK rfl
    | 2 =>
     cases ho;go_simp;exact Hk hK rfl
    | 3 =>
     cases ho;go_simp;exact Hk hK rfl
    | 4 =>
     cases ho;have q1:tv a' 28=_:=Hr hw 2;have q2:tv a' 29=_:=Hr hw 3;go_simp;refine (HDOT.out W BW).mono ?_;rintro e W' ⟨rfl,LB⟩;exact hK _ _ (Aa LB _) rfl
    | 5 =>
     cases ho;have q1:tv a' 30=_:=Hr hw 4;have hsz:=L.size;go_simp;exact hK _ _ ((Wrote.refl _ W).alloc _) ⟨_,rfl,by omega,Af (Ak W #[.i dv] 3) 0⟩
    | 6 =>
     cases ho;have q1:tv a' 27=_:=Hr hw 1;obtain ⟨aa,q2,q3,q4⟩:∃ a,a'.tmps[31]?.getD undef=.slice (some ⟨a,0,none⟩) 1 1/\z<a/\W.cell? ⟨a,0,none⟩=some (.i dv):=Hr hw 5;have hsz:=L.size;have UW:=U2.keep L (fun o ⟨j,_,hne,_,_,e⟩=>by rcases e with ⟨rfl,_⟩ | ⟨_,e⟩; exact hne rfl; omega);refine Yx W (.tmp 27) (.tmp 31) rfl w.heap.size q m y g (by simpa [Act.eval] using q1) UW (by omega) aa dv (by simpa [Act.eval] using q2) q4 ?_;intro g' c' W' h1 h2 h3;exact hK _ _ (h2.mono (fun b o _ e=>Or.inl ⟨rfl,e⟩)) ⟨g',c',rfl,h1,by omega⟩
    | 7 =>
     cases ho;go_simp;exact Hk hK rfl
    | 8 =>
     cases ho;have q1:tv a' 33=_:=Hr hw 7;obtain ⟨g',c',q2,q3,q4⟩:∃ g' c',a'.tmps[32]?.getD undef=.slice (some ⟨g',0,none⟩) (m+1) c'/\Row W w.heap.size g' (m+1) c' (snoc g m dv)/\(g'=q\/z<g'):=Hr hw 6;have r2b:=Al y2 L (fun o ⟨j,_,hne,_,_,e⟩=>by rcases e with ⟨_,e⟩ | ⟨rfl,_⟩; omega; exact hne rfl);have r2:=Af r2b;have r2f:=Au r2b;go_simp;have WZ:Wrote (fun b _=>b=z) W (W.setCell ⟨z,7,none⟩ (.slice (some ⟨g',0,none⟩) (m+1) c')):=Wrote.setCell (Wrote.refl (fun b _=>b=z) W) (fun _=>rfl) _;exact hK undef _ (WZ.mono (fun b o _ e=>Or.inr ⟨rfl,e⟩)) ⟨g',c',Am r2b _,q3.keep WZ (fun o e=>by omega),q4⟩
    | _+9=>simp at ho
   .intro a' W F L hφ
    obtain ⟨g',c',b8,R8,h8⟩:∃ g' c',W.heap[z]?=some (.cells (pR (t+1) c s ad pl bl (.slice (some ⟨p,0,none⟩) n x) (.slice (some ⟨g',0,none⟩) (m+1) c')) 33 (0,0))/\Row W w.heap.size g' (m+1) c' (snoc g m dv)/\(g'=q\/z<g'):=Hd hφ 8;have BW:Below w.heap.size w W:=C3.trans (L.below C3.size (fun b o hb ⟨j,e⟩=>by omega));have V1:=U1.keep L (fun o ⟨j,e⟩=>by omega);have y1':=Al y1 L (fun o ⟨j,e⟩=>by omega);have c1:=Af y1';have f1:=Au y1';have c2:=Af b8;clear hφ L;rw [F.same,show slotsOf [some 26,some 27,some 28,some 29,some 30,some 31,some 32,some 33,none]=[26,27,28,29,30,31,32,33] from rfl];simp only [List.foldl_cons,List.foldl_nil];generalize a'.tmps[26]?.getD undef=s26;generalize a'.tmps[27]?.getD undef=s27;generalize a'.tmps[28]?.getD undef=s28;generalize a'.tmps[29]?.getD undef=s29
    generalize a'.tmps[30]?.getD undef=s30;generalize a'.tmps[31]?.getD undef=s31;generalize a'.tmps[32]?.getD undef=s32;generalize a'.tmps[33]?.getD undef=s33
    have KE:Hid (∀ W5,Wrote (fun b _=>b=w.heap.size+1\/b=z) W W5->Row W5 w.heap.size p n x f/\Row W5 w.heap.size g' (m+1) c' (snoc g m dv)/\Below w.heap.size w W5):=fun W5 WX =>
     ⟨V1.keep WX (fun _ h=>by omega),R8.keep WX (fun _ h=>by omega),BW.trans (WX.below BW.size (fun b o hb h=>by omega))⟩
    clear U1 U2 y0 y1 y2 y3 V1 R8 b8 y1' KEY F d0 d2 g2;rename_i KK hKK;refine hKK _ _ ?_;go_simp;go_wp2;refine bodyPost_ret (v:=.tuple #[.agg (pR (t+1) c s ad pl bl (.slice (some ⟨p,0,none⟩) n x) (.slice (some ⟨g',0,none⟩) (m+1) c')),.slice (some ⟨w.heap.size+1+1,0,none⟩) 0 0,.bool false]) (by simp [results,results95,go_sem,c1]) rfl ?_
    have fin:∀ W5,Wrote (fun b _=>b=w.heap.size+1\/b=z) W W5->∃ v z',Ending.returned (.tuple #[.agg (pR (t+1) c s ad pl bl (.slice (some ⟨p,0,none⟩) n x) (.slice (some ⟨g',0,none⟩) (m+1) c')),.slice (some ⟨w.heap.size+1+1,0,none⟩) 0 0,.bool false])=.returned (.tuple #[v,z',.bool (Sk t c)])/\Jr w W5 v z' (J5 t) c s ad pl (N9 t bl) n f (tkM t m) (Nh t f s pl m g) (Ml t m) g:=fun W5 WX=>by
     obtain ⟨h1,h2,h3⟩:=KE.out W5 WX;obtain ⟨e1,e2,e3,e4,e5,e6⟩:=HE.out;rw [e1,e2,e3,e4,e5,e6];obtain ⟨r1,r2,r3,r4⟩:=Il (t:=t+1) (c:=c) (s:=s) (ad:=ad) (pl:=pl) (bl:=bl) h1 h2 (by omega) (show w.heap.size<=w.heap.size+1+1 by omega) (by omega) (by omega) g;exact ⟨_,_,rfl,⟨⟨_,_,r1,r2,r3,r4,h3⟩,_,_,_,rfl,h1,Or.inr ⟨_,_,rfl,h2,by omega⟩⟩,fun h=>absurd h (by omega)⟩
    refine fin _ ?_
    repeat (first | with_reducible exact Wrote.refl _ _ | with_reducible refine Wrote.drew ?_ | with_reducible refine Wrote.setCell ?_ (fun _=>by omega) _)
  by_cases hB:t%64=48
  .have HE:Hid (J5 t=t+1/\N9 t bl=true/\tkM t m=0/\Nh t f s pl m g=g/\Ml t m=m/\Sk t c=decide (127<c)):=⟨if_neg HT.out,(if_neg HT.out).trans (if_pos hB),(if_neg HT.out).trans ((if_neg hA).trans (if_pos hB)),(if_neg HT.out).trans (if_neg hA),(if_neg HT.out).trans (if_pos hB),(if_neg HT.out).trans (if_pos hB)⟩
   clear m64;rw [hB];clear hA hB KEY;go_upto_region 12 with (fail);clear d0 d1 d2 g1 g2
   have WS:Wrote (fun b _=>b=z) W3 ((W3.setCell ⟨z,5,none⟩ (.bool true)).setCell ⟨z,7,none⟩ (.slice none 0 0)):=(Wrote.setCell (Wrote.setCell (Wrote.refl (fun b _=>b=z) W3) (fun _=>rfl) _) (fun _=>rfl) _)
   have x0:=Al y0 WS (fun o h=>by omega);have x1:=Al y1 WS (fun o h=>by omega);have x3:=Al y3 WS (fun o h=>by omega);have x2:((W3.setCell ⟨z,5,none⟩ (.bool true)).setCell ⟨z,7,none⟩ (.slice none 0 0)).heap[z]?=some (.cells (pR (t+1) c s ad pl true (.slice (some ⟨p,0,none⟩) n x) (.slice none 0 0)) 33 (0,0)):=Am (Am y2 _) _;have S1:=U1.keep WS (fun _ h=>by omega);have C4:=C3.trans (WS.below C3.size (fun b o hb h=>by omega));have z4:=WS.size
   have HZ:Hid (z<((W3.setCell ⟨z,5,none⟩ (.bool true)).setCell ⟨z,7,none⟩ (.slice none 0 0)).heap.size):=by show _<_; omega
   clear y0 y1 y2 y3 U1 U2 C3 WS z3;generalize ((W3.setCell ⟨z,5,none⟩ (.bool true)).setCell ⟨z,7,none⟩ (.slice none 0 0))=W4 at *
   refine Bp [some 39,some 40,some 41,some 42,some 43,some 44,some 45,some 46,none,some 3,some 4] (by kernel_rfl) (by kernel_rfl) (by kernel_rfl) (by kernel_rfl) (by simp [slotsOf])
    (fun j b _=>j=8/\b=w.heap.size+1)
    (fun i v W=>match i with
     | 0=>v=.agg (pR (t+1) c s ad pl true (.slice (some ⟨p,0,none⟩) n x) (.slice none 0 0))
     | 1=>v=.slice (some ⟨w.heap.size+1+1,0,none⟩) 0 0
     | 2=>v=(pt w.heap.size 7)
     | 3=>v=.slice va m vx
     | 4=>∃ g' c',v=.slice (some ⟨g',0,none⟩) m c'/\Row W w.heap.size g' m c' g/\(g'=w.heap.size+1+1\/z<g')
     | 5=>v=(pt w.heap.size 1)
     | 6=>v=.i c
     | 7=>v=.bool (decide (127<c))
     | 8=>W.heap[w.heap.size+1]?=some (.cells (pR (t+1) c s ad pl true (.slice (some ⟨p,0,none⟩) n x) (.slice none 0 0)) 33 (0,0))
     | 9=>∃ g' c',v=.slice (some ⟨g',0,none⟩) m c'/\Row W w.heap.size g' m c' g/\(g'=w.heap.size+1+1\/z<g')
     | _=>v=.bool (decide (127<c))) ?_ ?_ ?_
   .intro i j o v W W' hij ho hnw hW h
    match i,hij,ho,h with
    | 0,_,_,h=>exact h
    | 1,_,_,h=>exact h
    | 2,_,_,h=>exact h
    | 3,_,_,h=>exact h
    | 4,_,_,⟨g',c',h1,h2,h3⟩=>exact ⟨g',c',h1,h2.keep hW (fun o e=>by omega),h3⟩
    | 5,_,_,h=>exact h
    | 6,_,_,h=>exact h
    | 7,_,_,h=>exact h
    | 8,hij,_,h=>exact Al h hW (fun o e=>hij e.1.symm)
    | 9,_,_,⟨g',c',h1,h2,h3⟩=>exact ⟨g',c',h1,h2.keep hW (fun o e=>by omega),h3⟩
    | _+10,_,_,h=>exact h
   .intro i o a' W K' ho F' L hw hK
    have BW:Below w.heap.size w W:=C4.trans (L.below C4.size (fun b o hb ⟨j,_,_,_,_,e⟩=>by omega));have r0:=Af (Al x0 L (fun o ⟨j,_,_,_,_,e⟩=>by omega));have r2:=Af (Al x2 L (fun o ⟨j,_,_,_,_,e⟩=>by omega));have t1':=F'.get (t:=1) (v:=(pt w.heap.size 0)) (by decide) rfl;have t2':=F'.get (t:=2) (v:=(pt (w.heap.size+1) 0)) (by decide) rfl;have t5':=F'.get (t:=5) (v:=.slice (some ⟨w.heap.size+1+1,0,none⟩) 0 0) (by decide) rfl;have t6:=F'.get (t:=6) (v:=(pt z 0)) (by decide) rfl
    match i with
    | 0 =>
     cases ho;go_simp;exact Hk hK rfl
    | 1 =>
     cases ho;go_simp;exact Hk hK rfl
    | 2 =>
     cases ho;go_simp;exact Hk hK rfl
    | 3 =>
     cases ho;have q1:tv a' 41=_:=Hr hw 2;go_simp;exact Hk hK rfl
    | 4 =>
     cases ho;have q1:tv a' 40=_:=Hr hw 1;have q2:tv a' 42=_:=Hr hw 3;have r3:=Al x3 L (fun o ⟨j,_,_,_,_,e⟩=>by omega);have hsz:=L.size;have hz4:=HZ.out;refine Jq W (.tmp 40) (.tmp 42) rfl (w.heap.size+1+1) (by simpa [Act.eval] using q1) r3 w.heap.size (by omega) G (.slice va m vx) m g (by simpa [Act.eval] using q2) (K.keep (Aa BW Aj) (fun _ _ _ x=>x)) ?_;intro g' c' W' h1 h2 h3;exact hK _ _ (Aa h2 _) ⟨g',c',rfl,h1,by omega⟩
    | 5 =>
     cases ho;go_simp;exact Hk hK rfl
    | 6 =>
     cases ho;have q1:tv a' 44=_:=Hr hw 5;go_simp;exact Hk hK rfl
    | 7 =>
     cases ho;have q1:tv a' 45=_:=Hr hw 6;go_simp;exact Hk hK rfl
    | 8 =>
     cases ho;have q1:tv a' 39=_:=Hr hw 0;have r1:=Al x1 L (fun o ⟨j,_,h1,_,_,h2,e⟩=>h1 h2);have rc:=Af r1;have rf:=Au r1;go_simp;exact hK undef _ ((N8 _ _ _ _ _ _ _ _ _ _).mono (fun b o _ e=>⟨rfl,e⟩)) (Uo r1 _ _ _ _ _ _ _ _)
    | 9 =>
     cases ho;obtain ⟨g',c',q2,q3,q4⟩:∃ g' c',a'.tmps[43]?.getD undef=.slice (some ⟨g',0,none⟩) m c'/\Row W w.heap.size g' m c' g/\(g'=w.heap.size+1+1\/z<g'):=Hr hw 4;go_simp;exact Hk hK ⟨g',c',rfl,q3,q4⟩
    | 10 =>
     cases ho;have q1:tv a' 46=_:=Hr hw 7;go_simp;exact Hk hK rfl
    | _+11=>simp at ho
   .intro a' W F' L hφ
    obtain ⟨g',c',e3,R9,h9⟩:∃ g' c',a'.tmps[3]?.getD undef=.slice (some ⟨g',0,none⟩) m c'/\Row W w.heap.size g' m c' g/\(g'=w.heap.size+1+1\/z<g'):=Hd hφ 9;have e4:a'.tmps[4]?.getD undef=.bool (decide (127<c)):=Hd hφ 10;have b8:W.heap[w.heap.size+1]?=some (.cells (pR (t+1) c s ad pl true (.slice (some ⟨p,0,none⟩) n x) (.slice none 0 0)) 33 (0,0)):=Hd hφ 8;have c1:=Af b8;have BW:Below w.heap.size w W:=C4.trans (L.below C4.size (fun b o hb ⟨j,e⟩=>by omega));have V1:=S1.keep L (fun o ⟨j,e⟩=>by omega);clear hφ L;rw [F'.same,show slotsOf [some 39,some 40,some 41,some 42,some 43,some 44,some 45,some 46,none,some 3,some 4]=[39,40,41,42,43,44,45,46,3,4] from rfl];simp only [List.foldl_cons,List.foldl_nil];rw [e3,e4];generalize a'.tmps[39]?.getD undef=s39;generalize a'.tmps[40]?.getD undef=s40
    generalize a'.tmps[41]?.getD undef=s41;generalize a'.tmps[42]?.getD undef=s42;generalize a'.tmps[43]?.getD undef=s43;generalize a'.tmps[44]?.getD undef=s44;generalize a'.tmps[45]?.getD undef=s45;generalize a'.tmps[46]?.getD undef=s46
    have fin:∃ v z',Ending.returned (.tuple #[.agg (pR (t+1) c s ad pl true (.slice (some ⟨p,0,none⟩) n x) (.slice none 0 0)),.slice (some ⟨g',0,none⟩) m c',.bool (decide (127<c))])=.returned (.tuple #[v,z',.bool (Sk t c)])/\Jr w W v z' (J5 t) c s ad pl (N9 t bl) n f (tkM t m) (Nh t f s pl m g) (Ml t m) g:=by
     obtain ⟨i1,i2,i3,i4,i5,i6⟩:=HE.out;rw [i1,i2,i3,i4,i5,i6];have pw:=V1.parts;exact ⟨_,_,rfl,⟨⟨fun b=>b=p,fun b=>b=g',⟨_,_,_,_,rfl,V1.onD rfl,Bu.nil _,fun b o _ h=>absurd h (A4 _ _ _)⟩,⟨_,_,rfl,R9.onD rfl⟩,fun b h1 h2=>by omega,fun b h=>by have:=R9.parts; omega,BW⟩,_,_,_,rfl,V1,Or.inl ⟨rfl,rfl⟩⟩,fun _=>⟨_,_,rfl,R9⟩⟩
    have FIN:=Ac fin;clear fin R9 V1 BW b8 F' S1 x0 x1 x2 x3 C4;rename_i K1 k1 K2 k2;refine k2 _ _ ?_;go_simp;go_wp2;refine bodyPost_ret (v:=.tuple #[.agg (pR (t+1) c s ad pl true (.slice (some ⟨p,0,none⟩) n x) (.slice none 0 0)),.slice (some ⟨g',0,none⟩) m c',.bool (decide (127<c))]) (by simp [results,results95,go_sem,c1]) rfl ?_;exact FIN.out
  by_cases hC:t%64=63
  .have HE:Hid (J5 t=t+1/\N9 t bl=false/\tkM t m=m/\Nh t f s pl m g=g/\Ml t m=0/\Sk t c=false):=⟨if_neg HT.out,(if_neg HT.out).trans ((if_neg hB).trans (if_pos hC)),(if_neg HT.out).trans ((if_neg hA).trans (if_neg hB)),(if_neg HT.out).trans (if_neg hA),(if_neg HT.out).trans (if_neg hB),(if_neg HT.out).trans (if_neg hB)⟩
   clear U1 U2 y0 y1 y2 y3 m64;rw [hC];clear hA hB hC;go_wp2;refine bodyPost_ret (v:=.tuple #[.agg (pR (t+1) c s ad pl false (.slice (some ⟨p,0,none⟩) n x) (.slice (some ⟨q,0,none⟩) m y)),.slice (some ⟨w.heap.size+1+1,0,none⟩) 0 0,.bool false]) (by simp [results,results95,go_sem,d1]) rfl ?_
   have fin:∀ W5,Wrote (fun b _=>b=w.heap.size+1\/b=z) W3 W5->∃ v z',Ending.returned (.tuple #[.agg (pR (t+1) c s ad pl false (.slice (some ⟨p,0,none⟩) n x) (.slice (some ⟨q,0,none⟩) m y)),.slice (some ⟨w.heap.size+1+1,0,none⟩) 0 0,.bool false])=.returned (.tuple #[v,z',.bool (Sk t c)])/\Jr w W5 v z' (J5 t) c s ad pl (N9 t bl) n f (tkM t m) (Nh t f s pl m g) (Ml t m) g:=fun W5 WX=>by
    obtain ⟨h1,h2,h3⟩:=KEY.out W5 WX;obtain ⟨e1,e2,e3,e4,e5,e6⟩:=HE.out;rw [e1,e2,e3,e4,e5,e6];obtain ⟨r1,r2,r3,r4⟩:=Il (t:=t+1) (c:=c) (s:=s) (ad:=ad) (pl:=pl) (bl:=false) h1 h2 hpq (show w.heap.size<=w.heap.size+1+1 by omega) (by omega) (by omega) g;exact ⟨_,_,rfl,⟨⟨_,_,r1,r2,r3,r4,h3⟩,_,_,_,rfl,h1,Or.inr ⟨_,_,rfl,h2,by omega⟩⟩,fun h=>absurd h (by omega)⟩
   refine fin _ ?_
   repeat (first | with_reducible exact Wrote.refl _ _ | with_reducible refine Wrote.drew ?_ | with_reducible refine Wrote.setCell ?_ (fun _=>by omega) _)
  .have HE:Hid (J5 t=t+1/\N9 t bl=bl/\tkM t m=m/\Nh t f s pl m g=g/\Ml t m=0/\Sk t c=false):=⟨if_neg HT.out,(if_neg HT.out).trans ((if_neg hB).trans (if_neg hC)),(if_neg HT.out).trans ((if_neg hA).trans (if_neg hB)),(if_neg HT.out).trans (if_neg hA),(if_neg HT.out).trans (if_neg hB),(if_neg HT.out).trans (if_neg hB)⟩
   have b1:decide (t%64<48)=false:=by simpa using hA
   have b2:(t%64==48)=false:=by simpa using hB
   have b3:(t%64==63)=false:=by simpa using hC
   clear U1 U2 y0 y1 y2 y3 m64 hB hC;go_wp2;refine bodyPost_ret (v:=.tuple #[.agg (pR (t+1) c s ad pl bl (.slice (some ⟨p,0,none⟩) n x) (.slice (some ⟨q,0,none⟩) m y)),.slice (some ⟨w.heap.size+1+1,0,none⟩) 0 0,.bool false]) (by simp [results,results95,go_sem,d1]) rfl ?_
   have fin:∀ W5,Wrote (fun b _=>b=w.heap.size+1\/b=z) W3 W5->∃ v z',Ending.returned (.tuple #[.agg (pR (t+1) c s ad pl bl (.slice (some ⟨p,0,none⟩) n x) (.slice (some ⟨q,0,none⟩) m y)),.slice (some ⟨w.heap.size+1+1,0,none⟩) 0 0,.bool false])=.returned (.tuple #[v,z',.bool (Sk t c)])/\Jr w W5 v z' (J5 t) c s ad pl (N9 t bl) n f (tkM t m) (Nh t f s pl m g) (Ml t m) g:=fun W5 WX=>by
    obtain ⟨h1,h2,h3⟩:=KEY.out W5 WX;obtain ⟨e1,e2,e3,e4,e5,e6⟩:=HE.out;rw [e1,e2,e3,e4,e5,e6];obtain ⟨r1,r2,r3,r4⟩:=Il (t:=t+1) (c:=c) (s:=s) (ad:=ad) (pl:=pl) (bl:=bl) h1 h2 hpq (show w.heap.size<=w.heap.size+1+1 by omega) (by omega) (by omega) g;exact ⟨_,_,rfl,⟨⟨_,_,r1,r2,r3,r4,h3⟩,_,_,_,rfl,h1,Or.inr ⟨_,_,rfl,h2,by omega⟩⟩,fun h=>absurd h (by omega)⟩
   refine fin _ ?_
   repeat (first | with_reducible exact Wrote.refl _ _ | with_reducible refine Wrote.drew ?_ | with_reducible refine Wrote.setCell ?_ (fun _=>by omega) _)
theorem Sj.keep {R:Nat->Nat->Prop} {W W':World} {lo lo' p:Nat} {dd:Value} {m:Nat} {g:Nat->Int} (h:Sj W lo p dd m g) (hw:Wrote R W W') (hd:∀ b o,lo<=b->¬ R b o) (hl:lo'<=lo):Sj W' lo' p dd m g:=by
 rcases h with h | ⟨q,y,e,r,hne⟩
 .exact Or.inl h
 .exact Or.inr ⟨q,y,e,(r.keep hw (fun o=>hd q o r.parts.1)).mono hl,hne⟩
open Go.Proofs.Tryz
theorem Oa {W:World} {lo p x q y n m:Nat} {f g:Nat->Int} {t c s ad pl:Int} {bl:Bool} (R1:Row W lo p n x f) (R2:Row W lo q m y g) (h:p≠q) :
  Co W (fun b=>lo<=b) (.agg (pR t c s ad pl bl (.slice (some ⟨p,0,none⟩) n x) (.slice (some ⟨q,0,none⟩) m y))) t c s ad pl bl n f m g :=
 ⟨_,_,_,_,rfl,R1.onD R1.parts.1,R2.onD R2.parts.1,Ik h⟩
theorem Ob (w:World) (D:Nat->Prop) (v:Value) (t c s ad pl:Int) (bl:Bool) (n:Nat) (f:Nat->Int) (m:Nat) (g:Nat->Int) (H:Co w D v t c s ad pl bl n f m g) (reg x:Int):Calls prog 134 #[v,.i reg,.i x] w fun e w'=>∃ v',e=.returned v'/\Co w' (fun b=>w.heap.size<=b) v' t (Kx (A1 t c s ad pl n f m g) reg x c) (Ky (A1 t c s ad pl n f m g) reg x s) (Kz (A1 t c s ad pl n f m g) reg x ad) (La (A1 t c s ad pl n f m g) reg x pl) bl n (My (A1 t c s ad pl n f m g) reg x ad f) m g/\Below w.heap.size w w':=by
 obtain ⟨u,u',rfl,h1,h2⟩:=H.ints;refine (Ry w _ _ t c s ad pl bl u u' n f m g reg x h1 h2).mono ?_;rintro e w' ⟨p,x,q,y,rfl,R1,R2,hpq,L⟩;exact ⟨_,rfl,Oa R1 R2 hpq,L⟩
theorem P9 (w:World) (D:Nat->Prop) (v:Value) (t c s ad pl:Int) (bl:Bool) (n:Nat) (f:Nat->Int) (m:Nat) (g:Nat->Int) (H:Co w D v t c s ad pl bl n f m g) (reg:Int):Calls prog 130 #[v,.i reg] w fun e w'=>∃ v',e=.returned (.tuple #[v',.i (R5 (A1 t c s ad pl n f m g) reg bl ad f)])/\Co w' (fun b=>w.heap.size<=b) v' t c s (Ps (A1 t c s ad pl n f m g) reg ad) pl (Rz (A1 t c s ad pl n f m g) reg bl) n f m g/\Below w.heap.size w w':=by
 obtain ⟨u,u',rfl,h1,h2⟩:=H.ints;refine (Up w _ _ t c s ad pl bl u u' n f m g reg h1 h2).mono ?_;rintro e w' ⟨p,x,q,y,rfl,R1,R2,hpq,L⟩;exact ⟨_,rfl,Oa R1 R2 hpq,L⟩
theorem Bs.small {W:World} {D:Nat->Prop} {u:Value} {k:Nat} {h:Nat->Int} (H:Bs W D u k h):k<=1048576:=by
 obtain ⟨d,z,e,hs⟩:=H;exact hs.small
theorem Bs.keep {R:Nat->Nat->Prop} {W W':World} {D:Nat->Prop} {u:Value} {k:Nat} {h:Nat->Int} (H:Bs W D u k h) (hw:Wrote R W W') (hd:∀ b o,D b->b<W.heap.size->¬ R b o):Bs W' D u k h:=by
 obtain ⟨d,z,e,hs⟩:=H;exact ⟨d,z,e,hs.keep hw (fun b o _=>hd b o)⟩
theorem Bs.below {W W':World} {D:Nat->Prop} {u:Value} {k:Nat} {h:Nat->Int} (H:Bs W D u k h) (L:Below W.heap.size W W'):Bs W' D u k h:=H.keep (Aa L Aj) (fun _ _ _ _ x=>x)
theorem Bs.mono {W:World} {D E:Nat->Prop} {u:Value} {k:Nat} {h:Nat->Int} (H:Bs W D u k h) (hd:∀ b,b<W.heap.size->D b->E b):Bs W E u k h:=by
 obtain ⟨d,z,e,hs⟩:=H;exact ⟨d,z,e,hs.mono hd⟩
theorem Bs.two {W:World} {D:Nat->Prop} {u:Value} {k:Nat} {h:Nat->Int} (H:Bs W D u k h):∃ d z,u=.slice d k z:=by
 obtain ⟨d,z,e,hs⟩:=H;exact ⟨d,z,e⟩
structure Cu (W:World) (D:Nat->Prop) (u:Value) (m:Nat) (ln:Nat->Nat) (f:Nat->Nat->Int):Prop where
 ex:∃ ra rc,Sep W u m ra ln rc/\(∀ i,i<m->Cg .i64 W (ra i) (ln i) (f i))/\(∀ i,i<m->∀ b o,Cz (ra i) (ln i) b o->D b)/\(∀ a cap,u=.slice a m cap->∀ b o,Cz a m b o->D b)/\(∀ i,i<m->ln i<=1048576)
section
variable {R:Nat->Nat->Prop} {W W':World} {D E:Nat->Prop} {u:Value} {m:Nat} {ln:Nat->Nat} {f:Nat->Nat->Int}
theorem Cu.keep (H:Cu W D u m ln f) (hw:Wrote R W W') (hd:∀ b o,D b->b<W.heap.size->¬ R b o):Cu W' D u m ln f:=by
 obtain ⟨ra,rc,⟨⟨a,cap,hv,hm,ho⟩,hf,hdj,hs⟩,hr,hi,hou,hl⟩:=H;refine ⟨ra,rc,⟨⟨a,cap,hv,hm,fun i hi'=>?_⟩,fun i hi'=>(hf i hi').keep hw,hdj,hs⟩,fun i hi'=>(hr i hi').keep hw (fun b o hF=>hd b o (hi i hi' b o hF) ((hr i hi').lt hF)),hi,hou,hl⟩;obtain ⟨b,off,ha,hc,hn⟩:=ho i hi';refine ⟨b,off,ha,?_,hn⟩;rw [hw.cell b (off+i) (block_lt_of_cell hc) (hd b _ (hou a cap hv b _ (ha ▸ Cc hi')) (block_lt_of_cell hc))];exact hc
theorem Cu.below (H:Cu W D u m ln f) (L:Below W.heap.size W W'):Cu W' D u m ln f:=H.keep (Aa L Aj) (fun _ _ _ _ x=>x)
theorem Cu.mono (H:Cu W D u m ln f) (hd:∀ b,b<W.heap.size->D b->E b):Cu W E u m ln f:=by
 obtain ⟨ra,rc,hS,hr,hi,hou,hl⟩:=H;refine ⟨ra,rc,hS,hr,fun i hi' b o hF=>hd b ((hr i hi').lt hF) (hi i hi' b o hF),fun a cap hv b o hF=>hd b ?_ (hou a cap hv b o hF),hl⟩;obtain ⟨a',cap',hv',-,ho⟩:=hS.outer;rw [hv] at hv';simp only [Value.slice.injEq,true_and] at hv';obtain ⟨rfl,rfl⟩:=hv';obtain ⟨off,e,h1,h2⟩:=hF;obtain ⟨b',off',e',hc,-⟩:=ho (o-off) (by omega);rw [e] at e';simp only [Option.some.injEq,Addr.mk.injEq,and_true] at e';rw [e'.1];exact block_lt_of_cell hc
theorem Cu.form (H:Cu W D u m ln f):∃ a c,u=.slice a m c:=by
 obtain ⟨ra,rc,⟨⟨a,cap,hv,-⟩,-⟩,-⟩:=H;exact ⟨a,cap,hv⟩
theorem Cu.small (H:Cu W D u m ln f):Dw ln m<=1099511627776:=by
 obtain ⟨ra,rc,hS,-⟩:=H;exact hS.small
theorem Cu.many (H:Cu W D u m ln f):m<=1048576:=by
 obtain ⟨ra,rc,⟨⟨a,cap,hv,hm,-⟩,-⟩,-⟩:=H;exact hm
theorem Cu.ints (H:Cu W D u m ln f):Bg .i64 W (On D) u m ln f:=by
 obtain ⟨ra,rc,⟨⟨a,cap,hv,hm,ho⟩,hf,hdj,hs⟩,hr,hi,hou,hl⟩:=H;refine ⟨a,cap,hv,hm,hou a cap hv,fun i hi'=>?_⟩;obtain ⟨b,off,ha,hc,-⟩:=ho i hi';exact ⟨b,off,_,ha,hc,_,_,rfl,hl i hi',hr i hi',hi i hi'⟩
end
theorem Iv.on {W:World} {b0 m:Nat} {ln:Nat->Nat} {f:Nat->Nat->Int} {D:Nat->Prop} (h:Iv W b0 m ln f) (hm:m+Dw ln m<=1048576) (hd:∀ b,b0<=b->b<b0+1+m->D b):Cu W D (.slice (some ⟨b0,0,none⟩) m m) m ln f:=by
 refine ⟨_,_,h.sep hm,fun i hi=>h.rowOf i hi,fun i hi b o hF=>?_,fun a cap hv b o hF=>?_,fun i hi=>by have:=Rb ln hi; omega⟩
 .obtain ⟨off,e,_⟩:=hF
  simp only [Option.some.injEq,Addr.mk.injEq,and_true] at e;exact hd b (by omega) (by omega)
 .simp only [Value.slice.injEq,true_and] at hv
  obtain ⟨rfl,-⟩:=hv;obtain ⟨off,e,_⟩:=hF;simp only [Option.some.injEq,Addr.mk.injEq,and_true] at e;exact hd b (by omega) (by omega)
theorem Vb {W:World} {lo g n c:Nat} {e:TypeId} {vs:List Value} (h:W.ownsRow lo e 1 (.slice (some ⟨g,0,none⟩) n c) n vs) (hc:n+1<=c) (y:Value):(W.setCell ⟨g,n,none⟩ y).ownsRow lo e 1 (.slice (some ⟨g,0,none⟩) (n+1) c) (n+1) (vs++[y]):=by
 have hl:vs.length=n:=by have:=h.1; omega
 refine ⟨by simp; omega,?_⟩
 rcases h.2 with ⟨e,_⟩ | ⟨g',cap,cur,hv,hb,hg,h1,h2,h3,h4⟩
 .cases e
 .have hv':=hv
  simp only [Value.slice.injEq,Option.some.injEq,Addr.mk.injEq,and_true,true_and] at hv';obtain ⟨rfl,rfl⟩:=hv';refine Or.inr ⟨g,c,cur.setIfInBounds n y,rfl,hb,Am hg _,hc,h2,by simpa using h3,?_⟩;rw [Nat.mul_one] at h3 h4 ⊢;rw [<- h4]
  apply List.ext_getElem?
  intro k;rw [List.getElem?_take,List.getElem?_append,List.getElem?_take,List.length_take,Array.length_toList,Array.getElem?_toList,Array.getElem?_setIfInBounds]
  by_cases hk:k<n
  .rw [if_pos (by omega),if_neg (by omega),if_pos (by omega),if_pos hk,Array.getElem?_toList]
  .by_cases e:k=n
   .subst e
    rw [if_pos (by omega),if_pos rfl,if_pos (by omega),if_neg (by omega)];rw [show k-min k cur.size=0 by omega]
    rfl
   .rw [if_neg (by omega),if_neg (by omega),List.getElem?_eq_none (by simp; omega)]
theorem Ia {W:World} {lo g n c:Nat} {e:TypeId} {vs:List Value} (h:W.ownsRow lo e 1 (.slice (some ⟨g,0,none⟩) n c) n vs):∀ j u,vs[j]?=some u->W.cell? ((⟨g,0,none⟩:Addr).add j)=some u:=fun j u hu=>by
 have hl:vs.length=n:=by have:=h.1; omega
 rcases h.2 with ⟨e,_⟩ | ⟨g',cap,cur,hv,hb,hg,h1,h2,h3,h4⟩
 .cases e
 .simp only [Value.slice.injEq,Option.some.injEq,Addr.mk.injEq,and_true,true_and] at hv
  obtain ⟨rfl,rfl⟩:=hv;rw [Ig,Nat.zero_add,Af hg];rw [Nat.mul_one] at h4;rw [<- h4,List.getElem?_take] at hu
  by_cases hj:j<n
  .rw [if_pos hj,Array.getElem?_toList] at hu
   exact hu
  .rw [if_neg hj] at hu
   cases hu
theorem Og {W:World} {lo lo' n:Nat} {e:TypeId} {v:Value} {vs:List Value} (h:W.ownsRow lo' e 1 v n vs) (hl:lo<=lo'):W.ownsRow lo e 1 v n vs:=by
 refine ⟨h.1,?_⟩
 rcases h.2 with x | ⟨g',cap,cur,hv,hb,r⟩
 .exact Or.inl x
 .exact Or.inr ⟨g',cap,cur,hv,by omega,r⟩
theorem Oh {W W':World} {lo n:Nat} {e:TypeId} {v:Value} {vs:List Value} (h:W.ownsRow lo e 1 v n vs) (hb:∀ g,v.ownBlock=some g->W'.heap[g]?=W.heap[g]?):W'.ownsRow lo e 1 v n vs:=by
 refine ⟨h.1,?_⟩
 rcases h.2 with x | ⟨g',cap,cur,hv,hb',hg,r⟩
 .exact Or.inl x
 .exact Or.inr ⟨g',cap,cur,hv,hb',(hb g' (by rw [hv]; rfl)).trans hg,r⟩
theorem Df {W:World} {lo n:Nat} {e:TypeId} {v:Value} {vs:List Value} (h:W.ownsRow lo e 1 v n vs) {g:Nat} (hg:v.ownBlock=some g):lo<=g/\g<W.heap.size:=by
 rcases h.2 with ⟨x,_⟩ | ⟨g',cap,cur,hv,hb',hg',r⟩
 .rw [x] at hg; cases hg
 .rw [hv] at hg
  obtain rfl:g'=g:=by simpa [Value.ownBlock] using hg
  exact ⟨hb',Ad hg'⟩
theorem Vd (W:World) {o:Oper} {a:Act} {K:Act->World->Prop} {Q:Exit->Act->World->Prop} (s x:Operand) (hop:o.op=Op.call { callee:=Callee.builtin Builtin.append,args:=#[s,x],argTypes:=#[24,24] })
  (lo:Nat) (ov:Value) (n:Nat) (vs:List Value) (hs:a.eval s=ov) (own:W.ownsRow lo 27 1 ov n vs) (hn:n<1048576) (hlo:lo<=W.heap.size) (q:Nat) (y:Value) (hy:y.oneCell'=true) (hx:a.eval x=.slice (some ⟨q,0,none⟩) 1 1) (hq:W.cell? ⟨q,0,none⟩=some y)
  (h:∀ g' c' W',W'.ownsRow lo 27 1 (.slice (some ⟨g',0,none⟩) (n+1) c') (n+1) (vs++[y])->Wrote (fun b _=>ov.ownBlock=some b) W W'->(ov.ownBlock=some g'\/W.heap.size<=g')->K (a.put o.dst (.slice (some ⟨g',0,none⟩) (n+1) c')) W'):o.wp prog a W K Q:=by
 obtain ⟨i0,hi,hz0,hz1,hz2⟩:=info_parts Kk
 have hl:vs.length=n:=by have:=own.1; omega
 have hnews:∀ j u,[y][j]?=some u->W.cell? ((⟨q,0,none⟩:Addr).add j)=some u:=fun j u hh=>by
  cases j with
  | zero=>simp at hh; rw [<- hh]; exact hq
  | succ j=>simp at hh
 have h1:∀ u∈[y],u.oneCell'=true:=fun u hu=>by simp at hu; rw [hu]; exact hy
 rcases id own.2 with ⟨e,e0⟩ | ⟨g,c,cur,hv,hb,hg,k1,k2,k3,k4⟩
 .obtain ⟨g',c',W',hrun,r1,r2,r3,r4⟩:=run_append_lies (P:=prog) (w:=W) 24 o.type lo 27 i0 (.slice none 0 0) 1 24 underlying24 hi hz0 hz1 hz2 rfl (by decide) ov n vs own ⟨q,0,none⟩ 1 1 [y] rfl hnews h1 (by omega) (by unfold maxLen; omega) (by omega) hlo W.heap.size rfl
  have hb:ov.ownBlock=none:=by rw [e]; rfl
  rw [hb] at r2 r3;have L:Below W.heap.size W W':=(Below.refl _ _).grown r2 (Nat.le_refl _) (fun _ e=>by cases e);unfold Oper.wp
  simp [execOp,hop,resolve,invoke,builtin,hs,hx,hrun,Result.andThen]
  exact h g' c' W' r1 (Aa L _) (Or.inr (by rcases r3 with r3 | r3; cases r3; omega))
 .subst hv
  have hob:(Value.sl g 0 n c).ownBlock=some g:=rfl;have hgl:=Ad hg
  by_cases hr:n+1<=c
  .have hsp:(W.cell? ⟨g,n,none⟩).isSome=true/\W.frozen? ⟨g,n,none⟩=false:=by
    refine ⟨?_,Au hg n⟩;rw [Af hg n,Array.getElem?_eq_getElem (by omega)]
    rfl
   have hrun:=run_append_room_cells (P:=prog) W 24 o.type 27 i0 underlying24 hi g 0 n c ⟨q,0,none⟩ 1 1 [y] (by rw [hz1]; rfl) hnews h1 hr
    (fun j hj=>by have:j=0:=(by simpa using hj); subst this; rw [hz1]; simpa using hsp.1) (fun j hj=>by have:j=0:=(by simpa using hj); subst this; rw [hz1]; simpa using hsp.2)
   rw [hz1] at hrun;unfold Oper.wp
   simp [execOp,hop,resolve,invoke,builtin,hs,hx,hrun,Result.andThen,World.setCells]
   exact h g c _ (Vb own hr y) (Wrote.setCell (R:=fun b _=>(Value.sl g 0 n c).ownBlock=some b) (Wrote.refl _ W) (fun _=>hob) _) (Or.inl hob)
  .obtain ⟨v',w',hrun,r1,r2⟩:=run_append_arg_grows (P:=prog) W 24 o.type 27 i0 (.slice none 0 0) 1 24 underlying24 hi hz0 hz1 hz2 rfl (by decide) ⟨g,0,none⟩ n c vs (by rw [hl,Nat.mul_one]) (Ia own) ⟨q,0,none⟩ 1 1 [y] rfl hnews (by omega) (by unfold maxLen; omega) (by omega)
   obtain ⟨g',cap2,rfl,hg',hlt⟩:=r1.form (by omega);have L:Below W.heap.size W w':=(Below.refl _ _).grown r2 (Nat.le_refl _) (fun _ e=>by cases e);unfold Oper.wp
   simp [execOp,hop,resolve,invoke,builtin,hs,hx,hrun,Result.andThen]
   exact h g' cap2 w' (Og r1 hlo) (Aa L _) (Or.inr hg')
theorem Fx (W:World) {ops:Array Oper} {rest:List Oper} {o:Oper} {a:Act} {Q:Exit->Act->World->Prop} (hg:o.guard=none) (s x:Operand) (hop:o.op=Op.call { callee:=Callee.builtin Builtin.append,args:=#[s,x],argTypes:=#[24,24] })
  (lo:Nat) (ov:Value) (n:Nat) (vs:List Value) (hs:a.eval s=ov) (own:W.ownsRow lo 27 1 ov n vs) (hn:n<1048576) (hlo:lo<=W.heap.size) (q:Nat) (y:Value) (hy:y.oneCell'=true) (hx:a.eval x=.slice (some ⟨q,0,none⟩) 1 1) (hq:W.cell? ⟨q,0,none⟩=some y)
  (h:∀ g' c' W',W'.ownsRow lo 27 1 (.slice (some ⟨g',0,none⟩) (n+1) c') (n+1) (vs++[y])->Wrote (fun b _=>ov.ownBlock=some b) W W'->(ov.ownBlock=some g'\/W.heap.size<=g')->wpList prog ops Q rest (a.put o.dst (.slice (some ⟨g',0,none⟩) (n+1) c')) W'):wpList prog ops Q (o :: rest) a W :=
 wpList_plain hg fun K hK=>Vd W s x hop lo ov n vs hs own hn hlo q y hy hx hq (fun g c W' r1 r2 r3=>hK _ _ (h g c W' r1 r2 r3))
def Nc (q:Nat) (gb:Nat->Nat) (ln cp:Nat->Nat):List Value:=(List.range q).map (fun i=>.slice (some ⟨gb i,0,none⟩) (ln i) (cp i))
theorem Jai (q g c:Nat) (gb ln cp:Nat->Nat):Nc q gb ln cp++[.slice (some ⟨g,0,none⟩) (ln q) c]=Nc (q+1) (fun i=>if i=q then g else gb i) ln (fun i=>if i=q then c else cp i):=by
 unfold Nc;rw [List.range_succ,List.map_append]
 congr 1
 .apply List.map_congr_left
  intro i hi;have:=List.mem_range.1 hi
  show _=Value.sl (if i=q then g else gb i) 0 (ln i) (if i=q then c else cp i)
  rw [if_neg (by omega),if_neg (by omega)]
 .simp
structure SG (W:World) (lo:Nat) (ov:Value) (q:Nat) (gb cp ln:Nat->Nat) (f:Nat->Nat->Int):Prop where
 own:W.ownsRow lo 27 1 ov q (Nc q gb ln cp)
 rows:∀ i,i<q->Row W lo (gb i) (ln i) (cp i) (f i)
 inj:∀ i j,i<q->j<q->i≠j->gb i≠gb j
 dj:∀ g,ov.ownBlock=some g->∀ i,i<q->gb i≠g
 small:q<=1048576
section
variable {W W':World} {lo q:Nat} {ov:Value} {gb cp ln:Nat->Nat} {f:Nat->Nat->Int} {R:Nat->Nat->Prop}
theorem SG.nil (W:World) (lo:Nat) (gb cp ln:Nat->Nat) (f:Nat->Nat->Int):SG W lo (.slice none 0 0) 0 gb cp ln f :=
 ⟨⟨rfl,Or.inl ⟨rfl,rfl⟩⟩,fun i hi=>absurd hi (Nat.not_lt_zero _),fun i j hi=>absurd hi (Nat.not_lt_zero _),fun g h=>(by cases h),by omega⟩
theorem SG.start {W:World} {lo g:Nat} (h:W.heap[g]?=some (.cells #[] 27 (0,0))) (hl:lo<=g) (gb cp ln:Nat->Nat) (f:Nat->Nat->Int):SG W lo (.slice (some ⟨g,0,none⟩) 0 0) 0 gb cp ln f :=
 ⟨⟨rfl,Or.inr ⟨g,0,#[],rfl,hl,h,Nat.le_refl _,by simp,rfl,rfl⟩⟩,fun i hi=>absurd hi (Nat.not_lt_zero _),fun i j hi=>absurd hi (Nat.not_lt_zero _),fun g h i hi=>absurd hi (Nat.not_lt_zero _),by omega⟩
theorem SG.keep (H:SG W lo ov q gb cp ln f) (hw:Wrote R W W') (h1:∀ g o,ov.ownBlock=some g->¬ R g o) (h2:∀ i o,i<q->¬ R (gb i) o):SG W' lo ov q gb cp ln f :=
 ⟨Oh H.own (fun g hg=>hw.block g (Df H.own hg).2 (fun o=>h1 g o hg)),fun i hi=>(H.rows i hi).keep hw (fun o=>h2 i o hi),H.inj,H.dj,H.small⟩
theorem SG.below (H:SG W lo ov q gb cp ln f) (L:Below W.heap.size W W'):SG W' lo ov q gb cp ln f:=H.keep (Aa L Aj) (fun _ _ _ x=>x) (fun _ _ _ x=>x)
theorem SG.push {g' c' gN cN:Nat} (H:SG W lo ov q gb cp ln f) (hw:Wrote (fun b _=>ov.ownBlock=some b) W W') (own':W'.ownsRow lo 27 1 (.slice (some ⟨g',0,none⟩) (q+1) c') (q+1) (Nc q gb ln cp++[.slice (some ⟨gN,0,none⟩) (ln q) cN])) (hat:ov.ownBlock=some g'\/W.heap.size<=g')
  (RN:Row W lo gN (ln q) cN (f q)) (hN1:ov.ownBlock≠some gN) (hN2:∀ i,i<q->gb i≠gN) (hq:q<1048576):SG W' lo (.slice (some ⟨g',0,none⟩) (q+1) c') (q+1) (fun i=>if i=q then gN else gb i) (fun i=>if i=q then cN else cp i) ln f:=by
 rw [Jai] at own';refine ⟨own',fun i hi=>?_,fun i j hi hj hij=>?_,fun g hg i hi=>?_,by omega⟩
 .by_cases e:i=q
  .subst e
   simp only [if_true];exact RN.keep hw (fun o h=>hN1 h)
  .simp only [if_neg e]
   exact (H.rows i (by omega)).keep hw (fun o h=>H.dj _ h i (by omega) rfl)
 .by_cases e:i=q
  .rw [if_pos e,if_neg (by omega)]
   exact fun x=>hN2 j (by omega) x.symm
  .by_cases e':j=q
   .rw [if_neg e,if_pos e']
    exact hN2 i (by omega)
   .rw [if_neg e,if_neg e']
    exact H.inj i j (by omega) (by omega) hij
 .obtain rfl:g'=g:=by simpa [Value.ownBlock] using hg
  by_cases e:i=q
  .rw [if_pos e]
   rcases hat with h | h
   .exact fun x=>hN1 (x ▸ h)
   .have:=RN.parts.2.1
    omega
  .rw [if_neg e]
   rcases hat with h | h
   .exact H.dj _ h i (by omega)
   .have:=(H.rows i (by omega)).parts.2.1
    omega
theorem SG.on (H:SG W lo ov q gb cp ln f) {D:Nat->Prop} (hD:∀ b,lo<=b->b<W.heap.size->D b) (hs:Dw ln q<=1099511627776):Cu W D ov q ln f:=by
 have key:∀ i,i<q->∀ b o,Cz (some ⟨gb i,0,none⟩) (ln i) b o->b=gb i:=fun i hi b o ⟨off,e,_,_⟩=>by
  simp only [Option.some.injEq,Addr.mk.injEq] at e;exact e.1.symm
 rcases id H.own.2 with ⟨e,e0⟩ | ⟨g,c,cur,hv,hb,hg,k1,k2,k3,k4⟩
 .have hq:q=0:=by simpa using e0
  subst hq;subst e;refine ⟨fun _=>none,fun _=>0,⟨⟨none,0,rfl,by omega,fun i hi=>absurd hi (Nat.not_lt_zero _)⟩,fun i hi=>absurd hi (Nat.not_lt_zero _),fun i j hi=>absurd hi (Nat.not_lt_zero _),hs⟩,fun i hi=>absurd hi (Nat.not_lt_zero _),fun i hi=>absurd hi (Nat.not_lt_zero _),fun a cap e b o hF=>absurd hF (A4 _ _ _),fun i hi=>absurd hi (Nat.not_lt_zero _)⟩
 .subst hv
  have hob:(Value.sl g 0 q c).ownBlock=some g:=rfl
  have hcell:∀ i,i<q->W.cell? ⟨g,i,none⟩=some (.sl (gb i) 0 (ln i) (cp i)):=fun i hi=>by
   have:=Ia H.own i (.sl (gb i) 0 (ln i) (cp i)) (by unfold Nc; simp [hi])
   rwa [Ig,Nat.zero_add] at this
  refine ⟨fun i=>some ⟨gb i,0,none⟩,cp,⟨⟨_,_,rfl,H.small,fun i hi=>⟨g,0,rfl,by rw [Nat.zero_add]; exact hcell i hi,fun j hj hF=>H.dj g hob j hj (key j hj _ _ hF).symm⟩⟩,fun i hi=>(H.rows i hi).sl.free,fun i j hi hj hij b o h1 h2=>H.inj i j hi hj hij ((key i hi _ _ h1).symm.trans (key j hj _ _ h2)),hs⟩,fun i hi=>(H.rows i hi).sl.row,fun i hi b o hF=>?_,fun a cap e b o hF=>?_,fun i hi=>(H.rows i hi).small⟩
  .rw [key i hi b o hF]
   exact hD _ (H.rows i hi).parts.1 (H.rows i hi).parts.2.1
  .simp only [Value.slice.injEq,true_and] at e
   obtain ⟨rfl,-⟩:=e;obtain ⟨off,e,_,_⟩:=hF;simp only [Option.some.injEq,Addr.mk.injEq] at e;rw [<- e.1];exact hD _ hb (Ad hg)
end
end Go.Proofs.YtijljlnooibbmaaGreatDoor
