import Derived.Test.YtgcmimcalmjaaaaGreatDoorIJ
import Derived.Deep.Upon
namespace Go.Proofs.YtgcmimcalmjaaaaGreatDoor
set_option linter.unusedVariables false
open Go.ChangeShapes Go.WideShapes Go.ChangeAt Go.RowKit
structure Row (W:World) (lo g n c:Nat) (f:Nat→Int):Prop where
 own:W.ownsRow lo 3 1 (.slice (some ⟨g,0,none⟩) n c) n (rowVals n f)
 small:n≤1048576
theorem Row.parts {W:World} {lo g n c:Nat} {f:Nat→Int} (h:Row W lo g n c f):lo≤g∧g<W.heap.size∧n≤c∧∃ cur,W.heap[g]?=some (.cells cur 3 (0,0)):=by
 rcases h.own.2 with ⟨e,_⟩ | ⟨g',cap,cur,hv,hb,hg,hc,_⟩
 ·cases e
 ·simp only [Value.slice.injEq,Option.some.injEq,Addr.mk.injEq,and_true,true_and] at hv
  obtain ⟨rfl,rfl⟩:=hv;exact ⟨hb,Ac hg,hc,cur,hg⟩
theorem Row.sl {W:World} {lo g n c:Nat} {f:Nat→Int} (h:Row W lo g n c f):Cm W (fun b=>b=g) (some ⟨g,0,none⟩) n f :=
 ⟨h.small,fun i hi=>⟨g,0,rfl,by rw [Nat.zero_add,h.own.cellAt i (by omega),Bj n f i hi]⟩,fun b o ⟨off,e,_⟩=>by
  simp only [Option.some.injEq,Addr.mk.injEq,and_true] at e;obtain ⟨rfl,rfl⟩:=e
  exact ⟨h.parts.2.1,h.own.frozenAt o⟩,fun b o ⟨off,e,_⟩=>by
  simp only [Option.some.injEq,Addr.mk.injEq,and_true] at e
  exact e.1.symm⟩
theorem Row.block {W W':World} {lo g n c:Nat} {f:Nat→Int} (h:Row W lo g n c f) (e:W'.heap[g]?=W.heap[g]?):Row W' lo g n c f:=by
 refine ⟨⟨h.own.1,?_⟩,h.small⟩
 rcases h.own.2 with x | ⟨g',cap,cur,hv,hb,hg,r⟩
 ·exact Or.inl x
 ·have hv':=hv
  simp only [Value.slice.injEq,Option.some.injEq,Addr.mk.injEq,and_true,true_and] at hv';obtain ⟨rfl,rfl⟩:=hv';exact Or.inr ⟨g,c,cur,rfl,hb,e.trans hg,r⟩
theorem Row.keep {R:Nat→Nat→Prop} {W W':World} {lo g n c:Nat} {f:Nat→Int} (h:Row W lo g n c f) (hw:Wrote R W W') (hd:∀ o,¬ R g o):Row W' lo g n c f:=h.block (hw.block g h.parts.2.1 hd)
theorem Row.below {W W':World} {lo g n c:Nat} {f:Nat→Int} (h:Row W lo g n c f) (L:Below W.heap.size W W'):Row W' lo g n c f:=h.block (L.block g h.parts.2.1)
theorem Row.grown {W W':World} {lo g n c:Nat} {f:Nat→Int} {row:Option Nat} (h:Row W lo g n c f) (hg:W.grownBy W' row) (hne:some g≠row):Row W' lo g n c f:=h.block (hg.block g h.parts.2.1 hne)
theorem Row.mono {W:World} {lo lo' g n c:Nat} {f:Nat→Int} (h:Row W lo g n c f) (hl:lo'≤lo):Row W lo' g n c f:=by
 refine ⟨⟨h.own.1,?_⟩,h.small⟩
 rcases h.own.2 with x | ⟨g',cap,cur,hv,hb,r⟩
 ·exact Or.inl x
 ·exact Or.inr ⟨g',cap,cur,hv,by omega,r⟩
theorem Row.own' {W:World} {lo g n c:Nat} {f:Nat→Int} (h:Row W lo g n c f):Am W lo (.slice (some ⟨g,0,none⟩) n c) n f:=Ph h.own h.parts.1 h.parts.2.1 h.small
theorem Row.empty {W:World} {lo g:Nat} (f:Nat→Int) (h:W.heap[g]?=some (.cells #[] 3 (0,0))) (hl:lo≤g):Row W lo g 0 0 f :=
 ⟨⟨by simp [rowVals],Or.inr ⟨g,0,#[],rfl,hl,h,Nat.le_refl _,by unfold maxLen; omega,rfl,rfl⟩⟩,by omega⟩
theorem Row.put {W:World} {lo g n c:Nat} {f:Nat→Int} (h:Row W lo g n c f) (k:Nat) (hk:k<n) (x:Int):Row (W.setCell ⟨g,k,none⟩ (.i x)) lo g n c (fun i=>if i=k then x else f i):=by
 refine ⟨⟨by rw [A2,Nat.mul_one],?_⟩,h.small⟩
 rcases h.own.2 with ⟨e,_⟩ | ⟨g',cap,cur,hv,hb,hg,h1,h2,h3,h4⟩
 ·cases e
 ·have hv':=hv
  simp only [Value.slice.injEq,Option.some.injEq,Addr.mk.injEq,and_true,true_and] at hv';obtain ⟨rfl,rfl⟩:=hv';refine Or.inr ⟨g,c,cur.setIfInBounds k (.i x),rfl,hb,Af hg _,h1,h2,by simpa using h3,?_⟩;rw [Nat.mul_one] at h4 ⊢;rw [Array.toList_setIfInBounds,List.take_set,h4]
  apply List.ext_getElem?
  intro j
  by_cases hj:j<n
  ·rw [Bj n _ j hj]
   by_cases e:j=k
   ·subst e
    rw [if_pos rfl,List.getElem?_set_self (by rw [A2]; exact hj)]
   ·rw [if_neg e,List.getElem?_set_ne (by omega),Bj n f j hj]
  ·rw [List.getElem?_eq_none (by rw [List.length_set,A2]; omega),List.getElem?_eq_none (by rw [A2]; omega)]
theorem Row.congr {W:World} {lo g n c:Nat} {f f':Nat→Int} (h:Row W lo g n c f) (e:∀ i,i<n→f i=f' i):Row W lo g n c f':=by
 have:rowVals n f=rowVals n f':=List.map_congr_left (fun i hi=>by rw [e i (List.mem_range.1 hi)]);exact ⟨this ▸ h.own,h.small⟩
theorem Row.fresh {W:World} {lo g n:Nat} {f:Nat→Int} (h:W.rowIs g 3 n (fun i=>.i (f i))) (hn:n≤1048576) (hl:lo≤g):Row W lo g n n f:=by
 obtain ⟨cs,h1,h2,h3⟩:=h;refine ⟨⟨by rw [A2,Nat.mul_one],Or.inr ⟨g,n,cs,rfl,hl,h1,Nat.le_refl _,by unfold maxLen; omega,by rw [h2,Nat.mul_one],?_⟩⟩,hn⟩;rw [Nat.mul_one,List.take_of_length_le (by rw [Array.length_toList]; omega)]
 apply List.ext_getElem?
 intro j
 by_cases hj:j<n
 ·rw [Bj n f j hj,Array.getElem?_toList]; exact h3 j hj
 ·rw [List.getElem?_eq_none (by rw [Array.length_toList]; omega),List.getElem?_eq_none (by rw [A2]; omega)]
theorem Cm.nil {W:World} {D:Nat→Prop} (f:Nat→Int):Cm W D none 0 f:=⟨by omega,fun i hi=>absurd hi (Nat.not_lt_zero _),fun b o hF=>absurd hF (Bo _ _ _),fun b o hF=>absurd hF (Bo _ _ _)⟩
def snoc (f:Nat→Int) (n:Nat) (x:Int):Nat→Int:=fun i=>if i=n then x else f i
theorem E6 (n:Nat) (f:Nat→Int) (x:Int):rowVals n f++[.i x]=rowVals (n+1) (snoc f n x):=by
 unfold rowVals;rw [List.range_succ,List.map_append]
 congr 1
 ·apply List.map_congr_left
  intro i hi;have:=List.mem_range.1 hi;unfold snoc;rw [if_neg (by omega)]
 ·simp [snoc]
theorem Jt (W:World) {o:Oper} {a:Act} {K:Act→World→Prop} {Q:Exit→Act→World→Prop} (s x:Operand) (hop:o.op=Op.call { callee:=Callee.builtin Builtin.append,args:=#[s,x],argTypes:=#[25,25] })
  (g0:Nat) (hs:a.eval s=.slice (some ⟨g0,0,none⟩) 0 0) (h0:W.heap[g0]?=some (.cells #[] 3 (0,0))) (lo:Nat) (hlo:lo≤g0) (F:Nat→Nat→Prop) (u:Value) (n:Nat) (f:Nat→Int) (hx:a.eval x=u) (H:Ints .i64 W F u n f)
  (h:∀ g c W',Row W' lo g n c f→Below W.heap.size W W'→(g=g0∨W.heap.size≤g)→K (a.put o.dst (.slice (some ⟨g,0,none⟩) n c)) W'):o.wp Tryz.prog a W K Q:=by
 obtain ⟨i0,hi,hz0,hz1,hz2⟩:=info_parts Is;obtain ⟨ua,ux,rfl,un,hr,-⟩:=H
 by_cases hn:n=0
 ·subst hn
  have hsrc:Src Tryz.prog i0.size 25 (.slice ua 0 ux) 0 [] W:=by
   cases ua with
   | none=>exact Src.ofNil W Tryz.underlying25 ux
   | some ad=>exact Src.ofSlice W Tryz.underlying25 ad 0 ux [] (by simp) (fun j v hh=>by simp at hh) (fun v hh=>by cases hh)
  have hrun:=run_append_nothing (P:=Tryz.prog) W 25 25 o.type 3 i0 Tryz.underlying25 hi (some ⟨g0,0,none⟩) 0 0 (Nat.le_refl _) _ hsrc;unfold Oper.wp
  simp [execOp,hop,resolve,invoke,builtin,hs,hx,hrun,Result.andThen]
  exact h g0 0 W (Row.empty f h0 hlo) (Below.refl _ _) (Or.inl rfl)
 ·obtain ⟨rb,ro,rfl,-⟩:=hr 0 (by omega)
  obtain ⟨v',w',hrun,r1,r2⟩:=run_append_arg_grows (P:=Tryz.prog) W 25 o.type 3 i0 (.i 0) 1 8 Tryz.underlying25 hi hz0 hz1 hz2 rfl (by decide) ⟨g0,0,none⟩ 0 0 [] rfl (fun j u hh=>by simp at hh) ⟨rb,ro,none⟩ n ux (rowVals n f) (by rw [A2,Nat.mul_one]) (Cy hr) (by omega) (by unfold maxLen; omega) (by omega)
  have hon:w'.ownsRow W.heap.size 3 1 v' n (rowVals n f):=by simpa using r1
  obtain ⟨g',cap2,rfl,hg,hlt⟩:=hon.form (by omega);have L:Below W.heap.size W w':=(Below.refl _ _).grown r2 (Nat.le_refl _) (fun _ e=>by cases e);unfold Oper.wp
  simp [execOp,hop,resolve,invoke,builtin,hs,hx,hrun,Result.andThen]
  exact h g' cap2 w' ((Row.mk hon un).mono (by have:=Ac h0; omega)) L (Or.inr hg)
theorem Row.more {W:World} {lo g n c:Nat} {f:Nat→Int} (h:Row W lo g n c f) (hc:n+1≤c) (hn:n<1048576) (y:Int):Row (W.setCell ⟨g,n,none⟩ (.i y)) lo g (n+1) c (snoc f n y):=by
 refine ⟨⟨by rw [A2,Nat.mul_one],?_⟩,by omega⟩
 rcases h.own.2 with ⟨e,_⟩ | ⟨g',cap,cur,hv,hb,hg,h1,h2,h3,h4⟩
 ·cases e
 ·have hv':=hv
  simp only [Value.slice.injEq,Option.some.injEq,Addr.mk.injEq,and_true,true_and] at hv';obtain ⟨rfl,rfl⟩:=hv';refine Or.inr ⟨g,c,cur.setIfInBounds n (.i y),rfl,hb,Af hg _,hc,h2,by simpa using h3,?_⟩;rw [Nat.mul_one] at h3 h4 ⊢;rw [← E6,← h4]
  apply List.ext_getElem?
  intro k;rw [List.getElem?_take,List.getElem?_append,List.getElem?_take,List.length_take,Array.length_toList,Array.getElem?_toList,Array.getElem?_setIfInBounds]
  by_cases hk:k<n
  ·rw [if_pos (by omega),if_neg (by omega),if_pos (by omega),if_pos hk,Array.getElem?_toList]
  ·by_cases e:k=n
   ·subst e
    rw [if_pos (by omega),if_pos rfl,if_pos (by omega),if_neg (by omega)];rw [show k-min k cur.size=0 by omega]
    rfl
   ·rw [if_neg (by omega),if_neg (by omega),List.getElem?_eq_none (by simp; omega)]
theorem Jaw (W:World) {o:Oper} {a:Act} {K:Act→World→Prop} {Q:Exit→Act→World→Prop} (s x:Operand) (hop:o.op=Op.call { callee:=Callee.builtin Builtin.append,args:=#[s,x],argTypes:=#[25,25] })
  (lo g n c:Nat) (f:Nat→Int) (hs:a.eval s=.slice (some ⟨g,0,none⟩) n c) (R:Row W lo g n c f) (hn:n<1048576) (q:Nat) (y:Int) (hx:a.eval x=.slice (some ⟨q,0,none⟩) 1 1) (hq:W.cell? ⟨q,0,none⟩=some (.i y))
  (h:∀ g' c' W',Row W' lo g' (n+1) c' (snoc f n y)→Wrote (fun b _=>b=g) W W'→(g'=g∨W.heap.size≤g')→K (a.put o.dst (.slice (some ⟨g',0,none⟩) (n+1) c')) W'):o.wp Tryz.prog a W K Q:=by
 obtain ⟨i0,hi,hz0,hz1,hz2⟩:=info_parts Is;have hp:=R.parts
 have hnews:∀ j u,[Value.i y][j]?=some u→W.cell? ((⟨q,0,none⟩:Addr).add j)=some u:=fun j u hh=>by
  cases j with
  | zero=>simp at hh; rw [← hh]; exact hq
  | succ j=>simp at hh
 by_cases hr:n+1≤c
 ·have hsp:(W.cell? ⟨g,n,none⟩).isSome=true∧W.frozen? ⟨g,n,none⟩=false:=by
   rcases R.own.2 with ⟨e,_⟩ | ⟨g',cap,cur,hv,hb,hg,h1,h2,h3,h4⟩
   ·cases e
   ·simp only [Value.slice.injEq,Option.some.injEq,Addr.mk.injEq,and_true,true_and] at hv
    obtain ⟨rfl,rfl⟩:=hv;refine ⟨?_,As hg n⟩;rw [Ag hg n,Array.getElem?_eq_getElem (by omega)]
    rfl
  have hrun:=run_append_room_cells (P:=Tryz.prog) W 25 o.type 3 i0 Tryz.underlying25 hi g 0 n c ⟨q,0,none⟩ 1 1 [.i y] (by rw [hz1]; rfl) hnews (fun u hu=>by simp at hu; rw [hu]; rfl) hr
   (fun j hj=>by have:j=0:=(by simpa using hj); subst this; rw [hz1]; simpa using hsp.1) (fun j hj=>by have:j=0:=(by simpa using hj); subst this; rw [hz1]; simpa using hsp.2)
  rw [hz1] at hrun;unfold Oper.wp
  simp [execOp,hop,resolve,invoke,builtin,hs,hx,hrun,Result.andThen,World.setCells]
  exact h g c _ (R.more hr hn y) (Wrote.setCell (R:=fun b _=>b=g) (Wrote.refl _ W) (fun _=>rfl) _) (Or.inl rfl)
 ·obtain ⟨v',w',hrun,r1,r2⟩:=run_append_arg_grows (P:=Tryz.prog) W 25 o.type 3 i0 (.i 0) 1 8 Tryz.underlying25 hi hz0 hz1 hz2 rfl (by decide) ⟨g,0,none⟩ n c (rowVals n f) (by rw [A2,Nat.mul_one]) (Cy R.sl.row) ⟨q,0,none⟩ 1 1 [.i y] rfl hnews (by omega) (by unfold maxLen; omega) (by omega)
  rw [E6] at r1;obtain ⟨g',cap2,rfl,hg,hlt⟩:=r1.form (by omega);have L:Below W.heap.size W w':=(Below.refl _ _).grown r2 (Nat.le_refl _) (fun _ e=>by cases e);unfold Oper.wp
  simp [execOp,hop,resolve,invoke,builtin,hs,hx,hrun,Result.andThen]
  exact h g' cap2 w' ((Row.mk r1 (by omega)).mono (by omega)) (Ab L _) (Or.inr hg)
theorem Eu (W:World) {ops:Array Oper} {rest:List Oper} {o:Oper} {a:Act} {Q:Exit→Act→World→Prop} (hg:o.guard=none) (s x:Operand) (hop:o.op=Op.call { callee:=Callee.builtin Builtin.append,args:=#[s,x],argTypes:=#[25,25] })
  (g0:Nat) (hs:a.eval s=.slice (some ⟨g0,0,none⟩) 0 0) (h0:W.heap[g0]?=some (.cells #[] 3 (0,0))) (lo:Nat) (hlo:lo≤g0) (F:Nat→Nat→Prop) (u:Value) (n:Nat) (f:Nat→Int) (hx:a.eval x=u) (H:Ints .i64 W F u n f)
  (h:∀ g c W',Row W' lo g n c f→Below W.heap.size W W'→(g=g0∨W.heap.size≤g)→wpList Tryz.prog ops Q rest (a.put o.dst (.slice (some ⟨g,0,none⟩) n c)) W'):wpList Tryz.prog ops Q (o :: rest) a W :=
 wpList_plain hg fun K hK=>Jt W s x hop g0 hs h0 lo hlo F u n f hx H (fun g c W' r1 r2 r3=>hK _ _ (h g c W' r1 r2 r3))
set_option maxHeartbeats 2000000
def Dk (t:Int):Int:=if 48<t%64 then 0 else t%64
def allIn (n:Nat) (f:Nat→Int) (lo hi:Int):Bool:=decide (∀ i,i<n→Cs (f i) lo hi=true)
def A1 (t c s ad pl:Int) (n:Nat) (f:Nat→Int) (m:Nat) (g:Nat→Int):Bool:=Cs t 0 20000 && (Cs c 0 255 && (Cs s 0 255 && (Cs ad 0 15 && (Cs pl 0 63 && (decide (n=16) && (decide ((m:Int)=Dk t) && (allIn n f 0 63 && allIn m g 0 63)))))))
section
variable {t c s ad pl:Int} {n:Nat} {f:Nat→Int} {m:Nat} {g:Nat→Int}
theorem Q3 {n:Nat} {f:Nat→Int} {lo hi:Int} {j:Nat} (hj:j<n) (h:¬ (lo≤f j∧f j≤hi)):allIn n f lo hi=false:=decide_eq_false (fun x=>h ((Dn _ _ _).1 (x j hj)))
theorem Kf {n:Nat} {f:Nat→Int} {lo hi:Int} (h:∀ j,j<n→lo≤f j∧f j≤hi):allIn n f lo hi=true:=decide_eq_true (fun i hi=>Bn (h i hi))
theorem Lz {n:Nat} {f:Nat→Int} {lo hi:Int} (h:allIn n f lo hi=true):∀ j,j<n→lo≤f j∧f j≤hi:=fun j hj=>(Dn _ _ _).1 ((of_decide_eq_true h) j hj)
theorem Jax (h:Cs t 0 20000=false):A1 t c s ad pl n f m g=false:=by unfold A1; rw [h]; rfl
theorem Jay (h:Cs c 0 255=false):A1 t c s ad pl n f m g=false:=by unfold A1; rw [h]; simp
theorem Jaz (h:Cs s 0 255=false):A1 t c s ad pl n f m g=false:=by unfold A1; rw [h]; simp
theorem Yx (h:Cs ad 0 15=false):A1 t c s ad pl n f m g=false:=by unfold A1; rw [h]; simp
theorem Yy (h:Cs pl 0 63=false):A1 t c s ad pl n f m g=false:=by unfold A1; rw [h]; simp
theorem Ja0 (h:¬ n=16):A1 t c s ad pl n f m g=false:=by unfold A1; rw [decide_eq_false h]; simp
theorem Ja1 (h:¬ (m:Int)=Dk t):A1 t c s ad pl n f m g=false:=by unfold A1; rw [decide_eq_false h]; simp
theorem Ja2 {j:Nat} (hj:j<n) (h:¬ (0≤f j∧f j≤63)):A1 t c s ad pl n f m g=false:=by unfold A1; rw [Q3 hj h]; simp
theorem Ja3 {j:Nat} (hj:j<m) (h:¬ (0≤g j∧g j≤63)):A1 t c s ad pl n f m g=false:=by unfold A1; rw [Q3 hj h]; simp
theorem Ol (h1:Cs t 0 20000=true) (h2:Cs c 0 255=true) (h3:Cs s 0 255=true) (h4:Cs ad 0 15=true) (h5:Cs pl 0 63=true) (h6:n=16) (h7:(m:Int)=Dk t) (h8:∀ j,j<n→0≤f j∧f j≤63) (h9:∀ j,j<m→0≤g j∧g j≤63):A1 t c s ad pl n f m g=true:=by
 unfold A1; rw [h1,h2,h3,h4,h5,decide_eq_true h6,decide_eq_true h7,Kf h8,Kf h9]; rfl
structure Iv (t c s ad pl:Int) (n:Nat) (f:Nat→Int) (m:Nat) (g:Nat→Int):Prop where
 t0:0≤t
 t1:t≤20000
 c0:0≤c
 c1:c≤255
 s0:0≤s
 s1:s≤255
 a0:0≤ad
 a1:ad≤15
 p0:0≤pl
 p1:pl≤63
 n16:n=16
 dots:(m:Int)=Dk t
 tab:∀ j,j<n→0≤f j∧f j≤63
 dot:∀ j,j<m→0≤g j∧g j≤63
theorem Ev (h:A1 t c s ad pl n f m g=true):Iv t c s ad pl n f m g:=by
 unfold A1 at h;simp only [Bool.and_eq_true] at h;obtain ⟨h1,h2,h3,h4,h5,h6,h7,h8,h9⟩:=h;rw [Dn] at h1 h2 h3 h4 h5;exact ⟨h1.1,h1.2,h2.1,h2.2,h3.1,h3.2,h4.1,h4.2,h5.1,h5.2,of_decide_eq_true h6,of_decide_eq_true h7,Lz h8,Lz h9⟩
end
theorem Jcc (w:World) (t:Int) (t0:0≤t) (t1:t≤20000):Calls Tryz.prog 84 #[.i t] w fun e w'=>e=.returned (.i (Dk t))∧w'=w:=by
 have hm:t.tmod 64=t%64:=Int.tmod_eq_emod_of_nonneg t0
 by_cases h:48<t%64
 ·have HE:Hid (Dk t=0):=if_pos h
  go_enter Tryz.func84,Tryz.ntmps84
  go_wp2;go_ret;exact ⟨Az HE.out.symm,rfl⟩
 ·have HE:Hid (Dk t=t%64):=if_neg h
  go_enter Tryz.func84,Tryz.ntmps84
  go_wp2;go_ret;exact ⟨Az HE.out.symm,rfl⟩
theorem Kg (w:World) (F G:Nat→Nat→Prop) (t c s ad pl:Int) (bl:Bool) (u u':Value) (n:Nat) (f:Nat→Int) (m:Nat) (g:Nat→Int) (H:Ints .i64 w F u n f) (K:Ints .i64 w G u' m g) :
  Calls Tryz.prog 52 #[.agg (pR t c s ad pl bl u u')] w fun e w'=>e=.returned (.bool (A1 t c s ad pl n f m g))∧Below w.heap.size w w':=by
 obtain ⟨ua,ux,rfl,un,hr,-⟩:=H;obtain ⟨va,vx,rfl,vn,hr',-⟩:=K;have L0:Below w.heap.size w (w.alloc (.cells (pR t c s ad pl bl (.slice ua n ux) (.slice va m vx)) 44)):=(Below.refl _ _).alloc (Nat.le_refl _) _;have k0:=Ag (Al w (pR t c s ad pl bl (.slice ua n ux) (.slice va m vx)) 44);have HR:=Ad (hr.keep (Ab L0 Aj) (fun _ _ _ x=>x));have HR':=Ad (hr'.keep (Ab L0 Aj) (fun _ _ _ x=>x));clear hr hr'
 obtain ⟨b0,h0⟩:∃ b,b=Cs t 0 20000:=⟨_,rfl⟩
 have C0:∀ W:World,Calls Tryz.prog 55 #[.i t,.i 0,.i 20000] W fun e w'=>e=.returned (.bool b0)∧w'=W:=fun W=>h0 ▸ Gj _ _ _ W
 obtain ⟨b1,h1⟩:∃ b,b=Cs c 0 255:=⟨_,rfl⟩
 have C1:∀ W:World,Calls Tryz.prog 54 #[.i c] W fun e w'=>e=.returned (.bool b1)∧w'=W:=fun W=>h1 ▸ Ha W _
 obtain ⟨b2,h2⟩:∃ b,b=Cs s 0 255:=⟨_,rfl⟩
 have C2:∀ W:World,Calls Tryz.prog 54 #[.i s] W fun e w'=>e=.returned (.bool b2)∧w'=W:=fun W=>h2 ▸ Ha W _
 obtain ⟨b3,h3⟩:∃ b,b=Cs ad 0 15:=⟨_,rfl⟩
 have C3:∀ W:World,Calls Tryz.prog 55 #[.i ad,.i 0,.i 15] W fun e w'=>e=.returned (.bool b3)∧w'=W:=fun W=>h3 ▸ Gj _ _ _ W
 obtain ⟨b4,h4⟩:∃ b,b=Cs pl 0 63:=⟨_,rfl⟩
 have C4:∀ W:World,Calls Tryz.prog 55 #[.i pl,.i 0,.i 63] W fun e w'=>e=.returned (.bool b4)∧w'=W:=fun W=>h4 ▸ Gj _ _ _ W
 have hd5:((n:Int) != 16)=!decide (n=16):=by by_cases h:n=16 <;> simp [h] <;> omega
 obtain ⟨b5,h5⟩:∃ b,b=decide (n=16):=⟨_,rfl⟩
 obtain ⟨b6,h6⟩:∃ b,b=decide ((m:Int)=Dk t):=⟨_,rfl⟩
 have hd6:((m:Int) != Dk t)=!b6:=by rw [h6]; by_cases h:(m:Int)=Dk t <;> simp [h]
 rw [← h5] at hd5;generalize hdt:Dk t=dn at *;have HH:=Ad (And.intro h0 (And.intro h1 (And.intro h2 (And.intro h3 (And.intro h4 (And.intro h5 h6))))))
 have C6:b0=true→∀ W:World,Calls Tryz.prog 84 #[.i t] W fun e w'=>e=.returned (.i dn)∧w'=W:=fun h W=>by rw [← hdt]; rw [h0] at h; have hz:=(Dn _ _ _).1 h; exact Jcc W t hz.1 hz.2
 have HDT:=Ad hdt;clear h0 h1 h2 h3 h4 h5 h6 hdt;cases b0
 ·have HE:Hid (A1 t c s ad pl n f m g=false):=Jax HH.out.1.symm
  go_enter Tryz.func52,Tryz.ntmps52
  go_upto_region 1 with (fail);generalize w.alloc (.cells (pR t c s ad pl bl (.slice ua n ux) (.slice va m vx)) 44)=W at *
  go_quiet (first | (go_at_call 55; first | with_reducible exact Calls.quiet_of_same (C0 _) | with_reducible exact Calls.quiet_of_same (C3 _) | with_reducible exact Calls.quiet_of_same (C4 _)) | (go_at_call 54; first | with_reducible exact Calls.quiet_of_same (C1 _) | with_reducible exact Calls.quiet_of_same (C2 _)) | (go_at_call 84; exact Calls.quiet_of_same (C6 rfl _)))
  go_wp2;go_ret;exact ⟨Ap HE.out.symm,below_drewN L0 _⟩
 cases b1
 ·have HE:Hid (A1 t c s ad pl n f m g=false):=Jay HH.out.2.1.symm
  go_enter Tryz.func52,Tryz.ntmps52
  go_upto_region 1 with (fail);generalize w.alloc (.cells (pR t c s ad pl bl (.slice ua n ux) (.slice va m vx)) 44)=W at *
  go_quiet (first | (go_at_call 55; first | with_reducible exact Calls.quiet_of_same (C0 _) | with_reducible exact Calls.quiet_of_same (C3 _) | with_reducible exact Calls.quiet_of_same (C4 _)) | (go_at_call 54; first | with_reducible exact Calls.quiet_of_same (C1 _) | with_reducible exact Calls.quiet_of_same (C2 _)) | (go_at_call 84; exact Calls.quiet_of_same (C6 rfl _)))
  go_wp2;go_ret;exact ⟨Ap HE.out.symm,below_drewN L0 _⟩
 cases b2
 ·have HE:Hid (A1 t c s ad pl n f m g=false):=Jaz HH.out.2.2.1.symm
  go_enter Tryz.func52,Tryz.ntmps52
  go_upto_region 1 with (fail);generalize w.alloc (.cells (pR t c s ad pl bl (.slice ua n ux) (.slice va m vx)) 44)=W at *
  go_quiet (first | (go_at_call 55; first | with_reducible exact Calls.quiet_of_same (C0 _) | with_reducible exact Calls.quiet_of_same (C3 _) | with_reducible exact Calls.quiet_of_same (C4 _)) | (go_at_call 54; first | with_reducible exact Calls.quiet_of_same (C1 _) | with_reducible exact Calls.quiet_of_same (C2 _)) | (go_at_call 84; exact Calls.quiet_of_same (C6 rfl _)))
  go_wp2;go_ret;exact ⟨Ap HE.out.symm,below_drewN L0 _⟩
 cases b3
 ·have HE:Hid (A1 t c s ad pl n f m g=false):=Yx HH.out.2.2.2.1.symm
  go_enter Tryz.func52,Tryz.ntmps52
  go_upto_region 1 with (fail);generalize w.alloc (.cells (pR t c s ad pl bl (.slice ua n ux) (.slice va m vx)) 44)=W at *
  go_quiet (first | (go_at_call 55; first | with_reducible exact Calls.quiet_of_same (C0 _) | with_reducible exact Calls.quiet_of_same (C3 _) | with_reducible exact Calls.quiet_of_same (C4 _)) | (go_at_call 54; first | with_reducible exact Calls.quiet_of_same (C1 _) | with_reducible exact Calls.quiet_of_same (C2 _)) | (go_at_call 84; exact Calls.quiet_of_same (C6 rfl _)))
  go_wp2;go_ret;exact ⟨Ap HE.out.symm,below_drewN L0 _⟩
 cases b4
 ·have HE:Hid (A1 t c s ad pl n f m g=false):=Yy HH.out.2.2.2.2.1.symm
  go_enter Tryz.func52,Tryz.ntmps52
  go_upto_region 1 with (fail);generalize w.alloc (.cells (pR t c s ad pl bl (.slice ua n ux) (.slice va m vx)) 44)=W at *
  go_quiet (first | (go_at_call 55; first | with_reducible exact Calls.quiet_of_same (C0 _) | with_reducible exact Calls.quiet_of_same (C3 _) | with_reducible exact Calls.quiet_of_same (C4 _)) | (go_at_call 54; first | with_reducible exact Calls.quiet_of_same (C1 _) | with_reducible exact Calls.quiet_of_same (C2 _)) | (go_at_call 84; exact Calls.quiet_of_same (C6 rfl _)))
  go_wp2;go_ret;exact ⟨Ap HE.out.symm,below_drewN L0 _⟩
 cases b5
 ·have HE:Hid (A1 t c s ad pl n f m g=false):=Ja0 (of_decide_eq_false HH.out.2.2.2.2.2.1.symm)
  go_enter Tryz.func52,Tryz.ntmps52
  go_upto_region 1 with (fail);generalize w.alloc (.cells (pR t c s ad pl bl (.slice ua n ux) (.slice va m vx)) 44)=W at *
  go_quiet (first | (go_at_call 55; first | with_reducible exact Calls.quiet_of_same (C0 _) | with_reducible exact Calls.quiet_of_same (C3 _) | with_reducible exact Calls.quiet_of_same (C4 _)) | (go_at_call 54; first | with_reducible exact Calls.quiet_of_same (C1 _) | with_reducible exact Calls.quiet_of_same (C2 _)) | (go_at_call 84; exact Calls.quiet_of_same (C6 rfl _)))
  go_wp2;go_ret;exact ⟨Ap HE.out.symm,below_drewN L0 _⟩
 cases b6
 ·have HE:Hid (A1 t c s ad pl n f m g=false):=Ja1 (of_decide_eq_false (HDT.out ▸ HH.out.2.2.2.2.2.2.symm))
  go_enter Tryz.func52,Tryz.ntmps52
  go_upto_region 1 with (fail);generalize w.alloc (.cells (pR t c s ad pl bl (.slice ua n ux) (.slice va m vx)) 44)=W at *
  go_quiet (first | (go_at_call 55; first | with_reducible exact Calls.quiet_of_same (C0 _) | with_reducible exact Calls.quiet_of_same (C3 _) | with_reducible exact Calls.quiet_of_same (C4 _)) | (go_at_call 54; first | with_reducible exact Calls.quiet_of_same (C1 _) | with_reducible exact Calls.quiet_of_same (C2 _)) | (go_at_call 84; exact Calls.quiet_of_same (C6 rfl _)))
  go_wp2;go_ret;exact ⟨Ap HE.out.symm,below_drewN L0 _⟩
 go_enter Tryz.func52,Tryz.ntmps52
 go_upto_region 1 with (fail);generalize w.alloc (.cells (pR t c s ad pl bl (.slice ua n ux) (.slice va m vx)) 44)=W at *
 go_quiet (first | (go_at_call 55; first | with_reducible exact Calls.quiet_of_same (C0 _) | with_reducible exact Calls.quiet_of_same (C3 _) | with_reducible exact Calls.quiet_of_same (C4 _)) | (go_at_call 54; first | with_reducible exact Calls.quiet_of_same (C1 _) | with_reducible exact Calls.quiet_of_same (C2 _)) | (go_at_call 84; exact Calls.quiet_of_same (C6 rfl _)))
 have LD:=below_drewN L0;have hn16:n=16:=of_decide_eq_true HH.out.2.2.2.2.2.1.symm;subst hn16;clear C0 C1 C2 C3 C4 C6 hd5 hd6;go_wp2
 go_loop [3] (fun j=>∃ r:Nat,r≤16∧j=.i r∧∀ i,i<r→0≤f i∧f i≤63) (fun i=>16-(intOf i).toNat)
 case atStart=>exact ⟨0,Nat.zero_le _,rfl,fun i hi=>absurd hi (Nat.not_lt_zero _)⟩
 case round =>
  obtain ⟨r,hr,rfl,hby⟩:=hrel;have HY:=Ad hby;clear hby
  by_cases hrt:r<16
  ·obtain ⟨b',off',rfl,hcell'⟩:=HR.out r (by omega)
   have hrt':(r:Int)<16:=by omega
   by_cases hin:0≤f r∧f r≤63
   ·have hin':=Bn hin
    have HX:=Ad hin;clear hin;go_wp2_with fail;refine (Gj _ _ _ _).mono ?_;rintro e w1 ⟨rfl,rfl⟩;go_wp2
    go_round
    case rel =>
     refine ⟨r+1,by omega,by go_num,fun i hi=>?_⟩
     by_cases e:i=r
     ·rw [e]; exact An HX
     ·exact An HY i (by omega)
    case measure=>simp [intOf]; omega
   ·have hin':=Cu hin
    have HE:=Ad (Ja2 (t:=t) (c:=c) (s:=s) (ad:=ad) (pl:=pl) (m:=m) (g:=g) hrt hin);clear hin;go_wp2_with fail;refine (Gj _ _ _ _).mono ?_;rintro e w1 ⟨rfl,rfl⟩;go_wp2;go_ret;exact ⟨Ap HE.out.symm,LD _⟩
  ·have hrt':¬ (r:Int)<16:=by omega
   have HT:Hid (∀ j,j<16→0≤f j∧f j≤63):=fun j hj=>An HY j (by omega)
   clear HY hrt;go_wp2
   go_loop [4] (fun j=>∃ r:Nat,r≤m∧j=.i r∧∀ i,i<r→0≤g i∧g i≤63) (fun i=>m-(intOf i).toNat)
   case atStart=>exact ⟨0,Nat.zero_le _,rfl,fun i hi=>absurd hi (Nat.not_lt_zero _)⟩
   case round =>
    obtain ⟨q,hq,rfl,hby⟩:=hrel;have HY:=Ad hby;clear hby
    by_cases hqt:q<m
    ·obtain ⟨b',off',rfl,hcell'⟩:=HR'.out q (by omega)
     have hqt':(q:Int)<(m:Int):=by omega
     by_cases hin:0≤g q∧g q≤63
     ·have hin':=Bn hin
      have HX:=Ad hin;clear hin;go_wp2_with fail;refine (Gj _ _ _ _).mono ?_;rintro e w1 ⟨rfl,rfl⟩;go_wp2
      go_round
      case rel =>
       refine ⟨q+1,by omega,by go_num,fun i hi=>?_⟩
       by_cases e:i=q
       ·rw [e]; exact An HX
       ·exact An HY i (by omega)
      case measure=>simp [intOf]; omega
     ·have hin':=Cu hin
      have HE:=Ad (Ja3 (t:=t) (c:=c) (s:=s) (ad:=ad) (pl:=pl) (n:=16) (f:=f) hqt hin);clear hin;go_wp2_with fail;refine (Gj _ _ _ _).mono ?_;rintro e w1 ⟨rfl,rfl⟩;go_wp2;go_ret;exact ⟨Ap HE.out.symm,LD _⟩
    ·have hqt':¬ (q:Int)<(m:Int):=by omega
     have HE:=Ad (Ol (f:=f) (g:=g) HH.out.1.symm HH.out.2.1.symm HH.out.2.2.1.symm HH.out.2.2.2.1.symm HH.out.2.2.2.2.1.symm rfl (of_decide_eq_true (HDT.out ▸ HH.out.2.2.2.2.2.2.symm)) HT.out (fun j hj=>An HY j (by omega)));go_wp2;go_ret;exact ⟨Ap HE.out.symm,LD _⟩
end Go.Proofs.YtgcmimcalmjaaaaGreatDoor
