import Derived.Test.YtgcmimcalmjaaaaGreatDoorX8
import Derived.Laws.CopyRow
import Derived.Laws.IdiomCopy
import Derived.Laws.Tables
import Derived.ChangeKeysEq
import Derived.Deep.WholeRow
namespace Go.Proofs.YtgcmimcalmjaaaaGreatDoor
set_option maxHeartbeats 1000000
set_option maxRecDepth 4000
set_option linter.unusedVariables false
set_option linter.unusedSimpArgs false
open Go.ChangeShapes Go.WideShapes Go.ChangeAt Go.RowKit Go.Sort
theorem Mf (x m:Int) (hm:0<m):(x.tmod m<0→x.tmod m+m=x%m)∧(¬ x.tmod m<0→x.tmod m=x%m)∧-m<x.tmod m∧x.tmod m<m:=by
 have h1:=Int.emod_nonneg x (show m≠0 by omega);have h2:=Int.emod_lt_of_pos x hm
 rcases Int.le_total 0 x with h | h
 ·have e:=Int.tmod_eq_emod_of_nonneg (b:=m) h
  rw [e];exact ⟨fun _=>by omega,fun _=>rfl,by omega,by omega⟩
 ·have e:x.tmod m=-((-x)%m):=by
   have:=Int.neg_tmod (-x) m;rw [Int.neg_neg] at this;rw [this,Int.tmod_eq_emod_of_nonneg (by omega)]
  have k1:=Int.emod_nonneg (-x) (show m≠0 by omega);have k2:=Int.emod_lt_of_pos (-x) hm;have d1:=Int.emod_add_mul_ediv x m;have d2:=Int.emod_add_mul_ediv (-x) m;rw [e]
  have key:(-x)%m=0∧x%m=0∨(-x)%m=m-x%m:=by
   by_cases z:x%m=0
   ·left
    refine ⟨?_,z⟩;have:m ∣ x:=Int.dvd_of_emod_eq_zero z;exact Int.emod_eq_zero_of_dvd (Int.dvd_neg.2 this)
   ·right
    rw [Int.neg_emod]
    have hn:¬ m ∣ x:=fun hd=>z (Int.emod_eq_zero_of_dvd hd)
    rw [if_neg hn]
    omega
  rcases key with ⟨k,z⟩ | k
  ·exact ⟨fun h=>by omega,fun _=>by omega,by omega,by omega⟩
  ·by_cases z:(-x)%m=0
   ·exact ⟨fun h=>by omega,fun _=>by omega,by omega,by omega⟩
   ·exact ⟨fun h=>by omega,fun h=>by omega,by omega,by omega⟩
theorem Jce (x:Int) (w:World):Calls Tryz.prog 100 #[.i x,.i 16] w fun e w'=>e=.returned (.i (x%16))∧w'=w:=by
 obtain ⟨h1,h2,h3,h4⟩:=Mf x 16 (by omega);have HQ:=Ad (And.intro h1 h2);clear h1 h2
 by_cases hn:x.tmod 16<0
 ·go_enter Tryz.func100,Tryz.ntmps100
  go_wp2;go_ret;exact ⟨Az ((An HQ).1 hn),rfl⟩
 ·go_enter Tryz.func100,Tryz.ntmps100
  go_wp2;go_ret;exact ⟨Az ((An HQ).2 (by omega)),rfl⟩
theorem Y0 (x:Int) (w:World):Calls Tryz.prog 100 #[.i x,.i 64] w fun e w'=>e=.returned (.i (x%64))∧w'=w:=by
 obtain ⟨h1,h2,h3,h4⟩:=Mf x 64 (by omega);have HQ:=Ad (And.intro h1 h2);clear h1 h2
 by_cases hn:x.tmod 64<0
 ·go_enter Tryz.func100,Tryz.ntmps100
  go_wp2;go_ret;exact ⟨Az ((An HQ).1 hn),rfl⟩
 ·go_enter Tryz.func100,Tryz.ntmps100
  go_wp2;go_ret;exact ⟨Az ((An HQ).2 (by omega)),rfl⟩
theorem Jcf (w:World) (t:Int) (t0:0≤t) (t1:t≤20000):Calls Tryz.prog 102 #[.i t] w fun e w'=>e=.returned (.i (Dk t))∧w'=w:=by
 have hm:t.tmod 64=t%64:=Int.tmod_eq_emod_of_nonneg t0
 by_cases h:48<t%64
 ·have HE:Hid (Dk t=0):=if_pos h
  have h':¬ t%64≤48:=by omega
  go_enter Tryz.func102,Tryz.ntmps102
  go_wp2;go_ret;exact ⟨Az HE.out.symm,rfl⟩
 ·have HE:Hid (Dk t=t%64):=if_neg h
  have h':t%64≤48:=by omega
  go_enter Tryz.func102,Tryz.ntmps102
  go_wp2;go_ret;exact ⟨Az HE.out.symm,rfl⟩
def scr (n:Nat) (f:Nat→Int):Nat→Int:=fun i=>if i<n then f i else 0
theorem Wo (n:Nat) (f:Nat→Int):(rowVals (min n 48) f++(rowVals 48 (fun _=>0)).drop (min n 48))=rowVals 48 (scr n f):=by
 apply List.ext_getElem?
 intro i
 by_cases h:i<min n 48
 ·rw [List.getElem?_append_left (by rw [A2]; omega),Bj _ _ i h,Bj _ _ i (by omega)]
  unfold scr;rw [if_pos (by omega)]
 ·rw [List.getElem?_append_right (by rw [A2]; omega),A2,List.getElem?_drop]
  by_cases k:i<48
  ·rw [show min n 48+(i-min n 48)=i by omega,Bj _ _ i k,Bj _ _ i k]
   unfold scr;rw [if_neg (by omega)]
  ·rw [List.getElem?_eq_none (by rw [A2]; omega),List.getElem?_eq_none (by rw [A2]; omega)]
theorem U8:(rowVals 48 (fun _=>0)).toArray=#[.i 0,.i 0,.i 0,.i 0,.i 0,.i 0,.i 0,.i 0,.i 0,.i 0,.i 0,.i 0,.i 0,.i 0,.i 0,.i 0,.i 0,.i 0,.i 0,.i 0,.i 0,.i 0,.i 0,.i 0,.i 0,.i 0,.i 0,.i 0,.i 0,.i 0,.i 0,.i 0,.i 0,.i 0,.i 0,.i 0,.i 0,.i 0,.i 0,.i 0,.i 0,.i 0,.i 0,.i 0,.i 0,.i 0,.i 0,.i 0]:=by rfl
theorem P4:(rowVals 48 (fun _=>0)).toArray.size=48:=by rfl
theorem below_setRow {n:Nat} {w W:World} (h:Below n w W) {g:Nat} (cs:Array Value) (hg:n≤g):Below n w (W.setRow g cs) :=
 ⟨h.os,h.tape,h.output,by rw [setRow_size]; exact h.size,fun k hk=>by rw [setRow_other _ _ _ _ (by omega)]; exact h.block k hk⟩
theorem Ic (n:Nat) (f:Nat→Int):(rowVals n f).toArray.all (·.oneCell')=true:=by
 rw [Array.all_eq_true_iff_forall_mem];intro x hx;exact Fy n f x (by simpa using hx)
theorem Hg:(Tryz.prog.info? 148).map (·.size)=some 48:=by kernel_rfl
theorem Y1 (w:World) (F:Nat→Nat→Prop) (u:Value) (n:Nat) (f:Nat→Int) (H:Ints .i64 w F u n f) :
  Calls Tryz.prog 132 #[u] w fun e w'=>e=.returned (.agg (rowVals 48 (scr n f)).toArray)∧Below w.heap.size w w':=by
 obtain ⟨ua,ux,rfl,un,hr,-⟩:=H
 go_enter Tryz.func132,Tryz.ntmps132
 go_wp2;rw [← U8];have L0:Below w.heap.size w ((w.alloc (.cells (rowVals 48 (fun _=>0)).toArray 148)).alloc (.cells (rowVals 48 (fun _=>0)).toArray 148)):=((Below.refl _ _).alloc (Nat.le_refl _) _).alloc (by simp) _;have k0:((w.alloc (.cells (rowVals 48 (fun _=>0)).toArray 148)).alloc (.cells (rowVals 48 (fun _=>0)).toArray 148)).heap[w.heap.size]?=some (.cells (rowVals 48 (fun _=>0)).toArray 148 (0,0)):=Ax (Al w _ _) _
 have k1:((w.alloc (.cells (rowVals 48 (fun _=>0)).toArray 148)).alloc (.cells (rowVals 48 (fun _=>0)).toArray 148)).heap[w.heap.size+1]?=some (.cells (rowVals 48 (fun _=>0)).toArray 148 (0,0)):=by simpa using Al (w.alloc (.cells (rowVals 48 (fun _=>0)).toArray 148)) (rowVals 48 (fun _=>0)).toArray 148
 replace hr:=hr.keep (Ab L0 Aj) (fun _ _ _ x=>x);generalize ((w.alloc (.cells (rowVals 48 (fun _=>0)).toArray 148)).alloc (.cells (rowVals 48 (fun _=>0)).toArray 148))=W0 at *
 obtain ⟨W1,hcp,kk0,kk1,L1⟩:∃ W1,(Builtin.copy_ #[25,25] 3 #[.slice (some ⟨w.heap.size+1,0,none⟩) 48 48,.slice ua n ux]).run Tryz.prog W0=.ok (.i ((min n 48:Nat):Int)) W1∧W1.heap[w.heap.size]?=some (.cells (rowVals 48 (fun _=>0)).toArray 148 (0,0))∧W1.heap[w.heap.size+1]?=some (.cells (rowVals 48 (scr n f)).toArray 148 (0,0))∧Below w.heap.size w W1:=by
  by_cases hn:n=0
  ·subst hn
   refine ⟨W0,?_,k0,?_,L0⟩
   ·have:=run_copy_none (P:=Tryz.prog) W0 25 25 3 3 (some ⟨w.heap.size+1,0,none⟩) ua 48 48 0 ux Tryz.underlying25 (by kernel_rfl) (by rfl)
    exact this
   ·rw [k1]
    congr 3
  ·obtain ⟨rb,ro,rfl,-⟩:=hr 0 (by omega)
   have hr':=hr;have:=run_copy_row (P:=Tryz.prog) W0 25 25 3 3 (w.heap.size+1) 0 48 48 ⟨rb,ro,none⟩ n ux (rowVals 48 (fun _=>0)).toArray 148 (rowVals (min n 48) f) Tryz.underlying25 (by kernel_rfl) k1 (by rw [A2]) (by exact Cy (fun i hi=>hr i (by omega))) (by rw [A2,P4]; omega) (Fy _ _);rw [A2,List.take_zero,List.nil_append,Nat.zero_add,Wo] at this;refine ⟨_,this,?_,?_,?_⟩
   ·rw [setRow_other _ _ _ _ (by omega)]
    exact k0
   ·exact setRow_heap _ _ _ _ _ _ k1
   ·exact below_setRow L0 _ (by omega)
 simp only [hcp,Result.andThen];rw [Oper.upon_value];clear hcp hr k0 k1 L0;go_upto_region 3 with (fail);rename_i K1 h1;refine wp_region_lit ?_;refine wpList_load_row rfl _ _ rfl (w.heap.size+1) rfl _ _ _ _ kk1 Tryz.underlying148 rfl Hg ?_;refine wpList_store_row rfl _ _ _ rfl w.heap.size _ rfl rfl _ _ kk0 Hg rfl (Ic _ _) ?_;refine h1 _ _ ?_;go_wp2;refine bodyPost_ret (v:=.agg (rowVals 48 (scr n f)).toArray) (results_cell_row (by rfl) _ _ w.heap.size _ _ _ _ rfl (setRow_heap _ _ _ _ _ _ kk0) Tryz.underlying148 rfl Hg) rfl ?_;exact ⟨rfl,below_setRow L1 _ (Nat.le_refl _)⟩
theorem Ja7 (g:Nat→Int) (q:Nat) (hq:q<48) (w:World):(Instr.index 148 (.agg (rowVals 48 g).toArray) (.i q)).run Tryz.prog w=.ok (.i (g q)) w:=by
 obtain ⟨i0,hi,hz0,hz1,hz2⟩:=info_parts Is
 have hx:(rowVals 48 g).toArray[q]?=some (.i (g q)):=by rw [List.getElem?_toArray,Bj 48 g q hq]
 have hp:=run_part_plain (P:=Tryz.prog) w (e:=3) (by kernel_rfl) (off:=q) hx
 have h2:(q:Int)<((48:Nat):Int):=by omega
 simp [Instr.index,asIntOf,run_underlying Tryz.underlying148,Result.andThen,sizeOf,typeInfo,hi,hz1,hp,h2]
 intro h; omega
def Iw (q:Nat) (g:Nat→Int):Nat→Int:=fun i=>if i<q then g i%64 else g i
theorem Te (q:Nat) (hq:q<48) (g:Nat→Int):(rowVals 48 (Iw q g)).toArray.setIfInBounds q (.i (g q%64))=(rowVals 48 (Iw (q+1) g)).toArray:=by
 rw [List.setIfInBounds_toArray]
 congr 1
 apply List.ext_getElem?
 intro j
 by_cases hj:j<48
 ·rw [Bj 48 _ j hj]
  by_cases e:q=j
  ·subst e
   rw [List.getElem?_set_self (by rw [A2]; exact hj)];unfold Iw;rw [if_pos (by omega)]
  ·rw [List.getElem?_set_ne e,Bj 48 _ j hj]
   unfold Iw
   by_cases k:j<q
   ·rw [if_pos k,if_pos (by omega)]
   ·rw [if_neg k,if_neg (by omega)]
 ·rw [List.getElem?_eq_none (by rw [List.length_set,A2]; omega),List.getElem?_eq_none (by rw [A2]; omega)]
theorem Wp (g:Nat→Int):rowVals 48 (Iw 48 g)=rowVals 48 (fun i=>g i%64):=List.map_congr_left (fun i hi=>by rw [Iw,if_pos (List.mem_range.1 hi)])
theorem Tf (g:Nat→Int):rowVals 48 (Iw 0 g)=rowVals 48 g:=List.map_congr_left (fun i hi=>by rw [Iw,if_neg (by omega)])
theorem Jcg (w:World) (g:Nat→Int):Calls Tryz.prog 133 #[.agg (rowVals 48 g).toArray] w fun e w'=>e=.returned (.agg (rowVals 48 (fun i=>g i%64)).toArray)∧Below w.heap.size w w':=by
 go_enter Tryz.func133,Tryz.ntmps133
 go_upto_region 1 with (fail);rw [← U8];have L0:Below w.heap.size w ((w.alloc (.cells (rowVals 48 g).toArray 148)).alloc (.cells (rowVals 48 (fun _=>0)).toArray 148)):=((Below.refl _ _).alloc (Nat.le_refl _) _).alloc (by simp) _;have k0:((w.alloc (.cells (rowVals 48 g).toArray 148)).alloc (.cells (rowVals 48 (fun _=>0)).toArray 148)).heap[w.heap.size]?=some (.cells (rowVals 48 g).toArray 148 (0,0)):=Ax (Al w _ _) _
 have k1:((w.alloc (.cells (rowVals 48 g).toArray 148)).alloc (.cells (rowVals 48 (fun _=>0)).toArray 148)).heap[w.heap.size+1]?=some (.cells (rowVals 48 (fun _=>0)).toArray 148 (0,0)):=by simpa using Al (w.alloc (.cells (rowVals 48 g).toArray 148)) (rowVals 48 (fun _=>0)).toArray 148
 generalize ((w.alloc (.cells (rowVals 48 g).toArray 148)).alloc (.cells (rowVals 48 (fun _=>0)).toArray 148))=W0 at *;refine wp_region_lit ?_;refine wpList_load_row rfl _ _ rfl w.heap.size rfl _ _ _ _ k0 Tryz.underlying148 rfl Hg ?_;go_wp2
 go_loopw [6] (fun i wr=>∃ q:Nat,q≤48∧i=.i q∧wr.heap[w.heap.size]?=some (.cells (rowVals 48 (Iw q g)).toArray 148 (0,0))∧wr.heap[w.heap.size+1]?=some (.cells (rowVals 48 (fun _=>0)).toArray 148 (0,0))∧Below w.heap.size w wr) (fun i _=>48-(intOf i).toNat)
 case atStart=>exact ⟨0,by omega,rfl,by rw [Tf]; exact k0,k1,L0⟩
 case round =>
  obtain ⟨q,hq,rfl,h0,h1,L⟩:=hrel;clear k0 k1 L0
  by_cases hlt:q<48
  ·have hlt':(q:Int)<48:=by omega
   have hix:=Ja7 g q hlt
   have hc:wr.cell? ⟨w.heap.size,q,none⟩=some (.i (Iw q g q)):=by rw [Ag h0 q,List.getElem?_toArray,Bj 48 _ q hlt]
   have hf:=As h0 q;go_wp2_with fail;refine (Y0 _ _).mono ?_;rintro e w1 ⟨rfl,rfl⟩;go_wp2
   go_round
   case rel =>
    refine ⟨q+1,by omega,by go_num,?_,Bc h1 (by omega),L.setCell (by simp) _⟩;have:=Af (o:=q) h0 (.i (g q%64));rw [Te q hlt] at this;exact this
   case measure=>simp [intOf]; omega
  ·have hlt':¬ (q:Int)<48:=by omega
   have hq48:q=48:=by omega
   subst hq48;rw [Wp] at h0;clear hlt hlt' hq;go_upto_region 6 with (fail);rename_i K1 h2;refine wp_region_lit ?_;refine wpList_load_row rfl _ _ rfl w.heap.size rfl _ _ _ _ h0 Tryz.underlying148 rfl Hg ?_;refine wpList_store_row rfl _ _ _ rfl (w.heap.size+1) _ rfl rfl _ _ h1 Hg rfl (Ic _ _) ?_;refine h2 _ _ ?_;go_wp2;refine bodyPost_ret (v:=.agg (rowVals 48 (fun i=>g i%64)).toArray) (results_cell_row (by rfl) _ _ (w.heap.size+1) _ _ _ _ rfl (setRow_heap _ _ _ _ _ _ h1) Tryz.underlying148 rfl Hg) rfl ?_;exact ⟨rfl,below_setRow L _ (by omega)⟩
theorem Kj {P:Program} {ops:Array Oper} {W:World} {Q:Act→Prop} {rest:List Oper} {o:Oper} {a:Act} (hw:Region.wanted o (yielded ops a.tmps)=true) (ty:TypeId) (x:Operand) (ho:o.op=.load ty x)
  (g:Nat) (hx:a.eval x=(pt g 0)) (t:TypeId) (cs:Array Value) (d:TypeDesc) (hg:W.heap[g]?=some (.cells cs t (0,0)))
  (hu:P.underlying ty=some d) (hd:(match d with | .struct _ | .array _ _=>true | _=>false)=true) (hi:(P.info? ty).map (·.size)=some cs.size)
  (h:wpQuiet P ops (fun w'=>∃ p:Regrown,w'=grow (redrawn W p.d) p.os) Q rest (a.put o.dst (.agg cs))):wpQuiet P ops (fun w'=>∃ p:Regrown,w'=grow (redrawn W p.d) p.os) Q (o :: rest) a :=
 Go.BigFrame.wpQuiet_want hw (fun K hK=>⟨.agg cs,fun w' ⟨p,e⟩=>by
  subst e;have hb:=((below_regrown W p.d p.os).block _ (Ac hg)).trans hg;unfold Oper.quietAt execOp;simp only [ho,hx,Instr.loadAt,Instr.sureAddr,Sem.run_bind,Sem.run_pure,Result.andThen_ok,run_loadVar_row _ g t ty cs (0,0) d hb hu hd hi]
  exact ⟨rfl,rfl⟩,hK _ h⟩)
theorem Oq (f g:Nat→Int) (w:World) (d:Nat):∀ is:List Nat,(∀ i,i∈is→i<48)→(Op.eqItems (d+1) 3 1 (rowVals 48 f).toArray (rowVals 48 g).toArray is).run Tryz.prog w=.ok (is.all (fun i=>f i==g i)) w
 | [],_=>by simp [Op.eqItems]
 | i :: is,h=>by
  have hi:=h i (by simp);have p1:=run_part_plain (P:=Tryz.prog) w (e:=3) (by kernel_rfl) (off:=i) (xs:=(rowVals 48 f).toArray) (v:=.i (f i)) (by rw [List.getElem?_toArray,Bj 48 f i hi]);have p2:=run_part_plain (P:=Tryz.prog) w (e:=3) (by kernel_rfl) (off:=i) (xs:=(rowVals 48 g).toArray) (v:=.i (g i)) (by rw [List.getElem?_toArray,Bj 48 g i hi]);have ih:=Oq f g w d is (fun j hj=>h j (by simp [hj]));simp only [Op.eqItems,Sem.run_bind,Nat.mul_one,p1,p2,Result.andThen_ok,run_equalIn_int w d 3 .i64 .i64 _ _ Tryz.underlying3];cases hb:f i==g i
  ·simp [hb]
  ·simp [hb,ih]
theorem Jdd (f g:Nat→Int) (w:World):(binOp .eql 148 (.agg (rowVals 48 f).toArray) (.agg (rowVals 48 g).toArray)).run Tryz.prog w=.ok (.bool ((List.range 48).all (fun i=>f i==g i))) w:=by
 obtain ⟨i0,hi,hz0,hz1,hz2⟩:=info_parts Is
 have hc:Tryz.prog.cellsOf 3=1:=by kernel_rfl
 rw [run_eql_struct,show (10000:Nat)=9999+1 from rfl,run_equalIn_array w 9999 _ _ Tryz.underlying148 hi,hc,show (9999:Nat)=9998+1 from rfl,Oq f g w 9998 _ (fun i hi=>List.mem_range.1 hi)]
 rfl
theorem Jch (n:Nat) (f:Nat→Int) (hn:n≤48):(List.range 48).all (fun i=>scr n f i==scr n f i%64)=allIn n f 0 63:=by
 cases h:allIn n f 0 63
 ·rw [Bool.eq_false_iff]
  intro e
  have:=Kf (n:=n) (f:=f) (lo:=0) (hi:=63) (fun j hj=>by
   have:=List.all_eq_true.1 e j (List.mem_range.2 (by omega));have e2:scr n f j=f j:=if_pos hj;rw [e2] at this;have:=eq_of_beq this
   omega)
  rw [h] at this;cases this
 ·rw [List.all_eq_true]
  intro i hi;have k:=Lz h
  by_cases hlt:i<n
  ·have e2:scr n f i=f i:=if_pos hlt
   have:=k i hlt;rw [e2];exact beq_iff_eq.2 (by omega)
  ·have e2:scr n f i=0:=if_neg hlt
   rw [e2]
   rfl
theorem Ot (w:World) (F:Nat→Nat→Prop) (u:Value) (n:Nat) (f:Nat→Int) (many:Int) (H:Ints .i64 w F u n f) (h1:many≤48) :
  Calls Tryz.prog 101 #[u,.i many] w fun e w'=>e=.returned (.bool (decide ((n:Int)=many) && allIn n f 0 63))∧Below w.heap.size w w':=by
 obtain ⟨ua,ux,rfl,un,hr,hF⟩:=H
 have H:Ints .i64 w F (.slice ua n ux) n f:=⟨_,_,rfl,un,hr,hF⟩
 clear hr hF
 go_enter Tryz.func101,Tryz.ntmps101
 go_wp2_with fail;refine (Y1 _ F _ n f H).mono ?_;rintro e w1 ⟨rfl,L1⟩;have hlen:(rowVals 48 (scr n f)).length=48:=A2 _ _
 have hsc:(storeCells ⟨w1.heap.size,0,none⟩ (rowVals 48 (scr n f)) 0).run Tryz.prog (w1.alloc (.cells #[.i 0,.i 0,.i 0,.i 0,.i 0,.i 0,.i 0,.i 0,.i 0,.i 0,.i 0,.i 0,.i 0,.i 0,.i 0,.i 0,.i 0,.i 0,.i 0,.i 0,.i 0,.i 0,.i 0,.i 0,.i 0,.i 0,.i 0,.i 0,.i 0,.i 0,.i 0,.i 0,.i 0,.i 0,.i 0,.i 0,.i 0,.i 0,.i 0,.i 0,.i 0,.i 0,.i 0,.i 0,.i 0,.i 0,.i 0,.i 0] 148))=.ok () (w1.alloc (.cells (rowVals 48 (scr n f)).toArray 148)):=run_storeCells_new (P:=Tryz.prog) w1 148 #[.i 0,.i 0,.i 0,.i 0,.i 0,.i 0,.i 0,.i 0,.i 0,.i 0,.i 0,.i 0,.i 0,.i 0,.i 0,.i 0,.i 0,.i 0,.i 0,.i 0,.i 0,.i 0,.i 0,.i 0,.i 0,.i 0,.i 0,.i 0,.i 0,.i 0,.i 0,.i 0,.i 0,.i 0,.i 0,.i 0,.i 0,.i 0,.i 0,.i 0,.i 0,.i 0,.i 0,.i 0,.i 0,.i 0,.i 0,.i 0] (rowVals 48 (scr n f)).toArray Hg rfl (Ic _ _);go_upto_region 2 with (fail)
 clear hlen hsc;have k0:=Al w1 (rowVals 48 (scr n f)).toArray 148;have L2:Below w.heap.size w (w1.alloc (.cells (rowVals 48 (scr n f)).toArray 148)):=L1.alloc (L1.size) _;generalize w1.alloc (.cells (rowVals 48 (scr n f)).toArray 148)=W2 at *
 by_cases hn:(n:Int)=many
 ·have hd:((n:Int)==many)=true:=by simpa using hn
  have HE:Hid ((decide ((n:Int)=many) && allIn n f 0 63)=allIn n f 0 63):=by show _=_; rw [decide_eq_true hn,Bool.true_and]
  have hS:=Jch n f (by omega);have hE:=Jdd (scr n f) (fun i=>scr n f i%64);rw [hS] at hE;clear hS;refine wp_region_quiet_below (by kernel_rfl) (by kernel_rfl) ?_
  iterate 5 (quiet_step (fail))
  iterate 2 (refine Kj (by kernel_rfl) _ _ rfl w1.heap.size rfl _ _ _ k0 Tryz.underlying148 rfl Hg ?_)
  quiet_step ((go_at_call 133; exact Calls.regrown_of (Jcg _ _)))
  iterate 3 (quiet_step (fail))
  refine wpQuiet_nil ?_;intro _ hw';obtain ⟨⟨dq,osq⟩,hw''⟩:=hw';subst hw'';have LQ:=below_regrown W2 dq osq;generalize Go.Sort.grow (redrawn W2 dq) osq=w4 at *;go_wp2;go_ret;exact ⟨Ap HE.out.symm,L2.trans (LQ.mono L2.size)⟩
 ·have hd:((n:Int)==many)=false:=by simpa using hn
  have HE:Hid ((decide ((n:Int)=many) && allIn n f 0 63)=false):=by show _=_; rw [decide_eq_false hn,Bool.false_and]
  refine wp_region_quiet_below (by kernel_rfl) (by kernel_rfl) ?_
  iterate 11 (quiet_step (fail))
  refine wpQuiet_nil ?_;intro _ hw';obtain ⟨⟨dq,osq⟩,hw''⟩:=hw';subst hw'';have LQ:=below_regrown W2 dq osq;generalize Go.Sort.grow (redrawn W2 dq) osq=w4 at *;go_wp2;go_ret;exact ⟨Ap HE.out.symm,L2.trans (LQ.mono L2.size)⟩
set_option maxHeartbeats 4000000
theorem Y2 (x:Int):(x==x%16)=Cs x 0 15:=by
 by_cases h:0≤x∧x≤15
 ·rw [Bn h]; exact beq_iff_eq.2 (by omega)
 ·rw [Cu h]; exact beq_eq_false_iff_ne.2 (by omega)
theorem Y3 (x:Int):(x==x%64)=Cs x 0 63:=by
 by_cases h:0≤x∧x≤63
 ·rw [Bn h]; exact beq_iff_eq.2 (by omega)
 ·rw [Cu h]; exact beq_eq_false_iff_ne.2 (by omega)
theorem Jd3 {W:World} {b:Nat} {cs:Array Value} {T:TypeId} (h:W.heap[b]?=some (.cells cs T (0,0))) (d:Nat) (os:Array Obj) (j:Nat):(grow (redrawn W d) os).cell? ⟨b,j,none⟩=cs[j]?:=Ag (((below_regrown W d os).block _ (Ac h)).trans h) j
theorem Iq (w:World) (F G:Nat→Nat→Prop) (t c s ad pl:Int) (bl:Bool) (u u':Value) (n:Nat) (f:Nat→Int) (m:Nat) (g:Nat→Int) (H:Ints .i64 w F u n f) (K:Ints .i64 w G u' m g) :
  Calls Tryz.prog 67 #[.agg (pR t c s ad pl bl u u')] w fun e w'=>e=.returned (.bool (A1 t c s ad pl n f m g))∧Below w.heap.size w w':=by
 obtain ⟨ua,ux,rfl,un,hr,hF⟩:=H;obtain ⟨va,vx,rfl,vn,hr',hF'⟩:=K
 have H:Ints .i64 w F (.slice ua n ux) n f:=⟨_,_,rfl,un,hr,hF⟩
 have K:Ints .i64 w G (.slice va m vx) m g:=⟨_,_,rfl,vn,hr',hF'⟩
 clear hr hF hr' hF';have L0:Below w.heap.size w (w.alloc (.cells (pR t c s ad pl bl (.slice ua n ux) (.slice va m vx)) 44)):=(Below.refl _ _).alloc (Nat.le_refl _) _;have k0:=Jd3 (Al w (pR t c s ad pl bl (.slice ua n ux) (.slice va m vx)) 44);have H0:=H.keep (Ab L0 Aj) (fun _ _ _ x=>x);have K0:=K.keep (Ab L0 Aj) (fun _ _ _ x=>x)
 obtain ⟨b0,h0⟩:∃ b,b=decide (0≤t):=⟨_,rfl⟩
 obtain ⟨b1,h1⟩:∃ b,b=decide (t≤20000):=⟨_,rfl⟩
 obtain ⟨b2,h2⟩:∃ b,b=Cs c 0 255:=⟨_,rfl⟩
 have C2:∀ W:World,Calls Tryz.prog 69 #[.i c] W fun e w'=>e=.returned (.bool b2)∧Below W.heap.size W w':=fun W=>(isByte c W).mono (fun e w' ⟨he,hw⟩=>⟨by rw [he,h2],by rw [hw]; exact Below.refl _ _⟩)
 obtain ⟨b3,h3⟩:∃ b,b=Cs s 0 255:=⟨_,rfl⟩
 have C3:∀ W:World,Calls Tryz.prog 69 #[.i s] W fun e w'=>e=.returned (.bool b3)∧Below W.heap.size W w':=fun W=>(isByte s W).mono (fun e w' ⟨he,hw⟩=>⟨by rw [he,h3],by rw [hw]; exact Below.refl _ _⟩)
 obtain ⟨b4,h4⟩:∃ b,b=Cs ad 0 15:=⟨_,rfl⟩
 have C4:∀ W:World,Calls Tryz.prog 100 #[.i ad,.i 16] W fun e w'=>e=.returned (.i (ad%16))∧Below W.heap.size W w':=fun W=>(Jce ad W).mono (fun e w' ⟨he,hw⟩=>⟨he,by rw [hw]; exact Below.refl _ _⟩)
 have q4:(ad==ad%16)=b4:=by rw [h4,Y2]
 obtain ⟨b5,h5⟩:∃ b,b=Cs pl 0 63:=⟨_,rfl⟩
 have C5:∀ W:World,Calls Tryz.prog 100 #[.i pl,.i 64] W fun e w'=>e=.returned (.i (pl%64))∧Below W.heap.size W w':=fun W=>(Y0 pl W).mono (fun e w' ⟨he,hw⟩=>⟨he,by rw [hw]; exact Below.refl _ _⟩)
 have q5:(pl==pl%64)=b5:=by rw [h5,Y3]
 generalize ad%16=a16 at *;generalize pl%64=p64 at *
 obtain ⟨b6,h6⟩:∃ b,b=(decide ((n:Int)=16) && allIn n f 0 63):=⟨_,rfl⟩
 obtain ⟨W0,hW0⟩:∃ W0,W0=w.alloc (.cells (pR t c s ad pl bl (.slice ua n ux) (.slice va m vx)) 44):=⟨_,rfl⟩
 rw [← hW0] at L0 k0 H0 K0
 have C6:∀ d os,Calls Tryz.prog 101 #[.slice ua n ux,.i 16] (grow (redrawn W0 d) os) fun e w'=>e=.returned (.bool b6)∧Below (grow (redrawn W0 d) os).heap.size (grow (redrawn W0 d) os) w':=fun d os=>by
  rw [h6];exact Ot _ F _ n f 16 (H0.keep (Ab (below_regrown W0 d os) Aj) (fun _ _ _ x=>x)) (by omega)
 obtain ⟨dn,hdn⟩:∃ dn,dn=Dk t:=⟨_,rfl⟩
 obtain ⟨b7,h7⟩:∃ b,b=(decide ((m:Int)=dn) && allIn m g 0 63):=⟨_,rfl⟩
 have C7:∀ d os,Calls Tryz.prog 101 #[.slice va m vx,.i dn] (grow (redrawn W0 d) os) fun e w'=>e=.returned (.bool b7)∧Below (grow (redrawn W0 d) os).heap.size (grow (redrawn W0 d) os) w':=fun d os=>by
  rw [h7];exact Ot _ G _ m g dn (K0.keep (Ab (below_regrown W0 d os) Aj) (fun _ _ _ x=>x)) (by rw [hdn]; unfold Dk; split <;> omega)
 have C8:b0=true→b1=true→∀ W:World,Calls Tryz.prog 102 #[.i t] W fun e w'=>e=.returned (.i dn)∧Below W.heap.size W w':=fun e0 e1 W=>by
  rw [h0] at e0;rw [h1] at e1;exact (Jcf W t (of_decide_eq_true e0) (of_decide_eq_true e1)).mono (fun e w' ⟨he,hw⟩=>⟨by rw [he,hdn],by rw [hw]; exact Below.refl _ _⟩)
 have OK:A1 t c s ad pl n f m g=(b0 && (b1 && (b2 && (b3 && (b4 && (b5 && (b6 && b7))))))):=by
  unfold A1;rw [h0,h1,h2,h3,h4,h5,h6,h7,hdn]
  have e1:Cs t 0 20000=(decide (0≤t) && decide (t≤20000)):=by
   by_cases h:0≤t∧t≤20000
   ·rw [Bn h,decide_eq_true h.1,decide_eq_true h.2]; rfl
   ·rw [Cu h]
    by_cases h':0≤t
    ·rw [decide_eq_true h',decide_eq_false (fun x=>h ⟨h',x⟩)]; rfl
    ·rw [decide_eq_false h']; rfl
  have e2:decide ((n:Int)=16)=decide (n=16):=by
   by_cases h:n=16
   ·rw [decide_eq_true h,decide_eq_true (by omega)]
   ·rw [decide_eq_false h,decide_eq_false (by omega)]
  rw [e1,e2]
  cases decide (0≤t) <;> cases decide (t≤20000) <;> cases Cs c 0 255 <;> cases Cs s 0 255 <;> cases Cs ad 0 15 <;> cases Cs pl 0 63 <;> cases decide (n=16) <;> cases decide ((m:Int)=Dk t) <;> cases allIn n f 0 63 <;> cases allIn m g 0 63 <;> rfl
 have HOK:=Ad OK;have g0:decide (0≤t)=b0:=h0.symm;have g1:decide (t≤20000)=b1:=h1.symm;clear h0 h1 h2 h3 h4 h5 h6 h7 OK H K H0 K0 hdn;cases b0
 ·skip
  have HE:Hid (A1 t c s ad pl n f m g=false):=by rw [HOK.out]; rfl
  go_enter Tryz.func67,Tryz.ntmps67
  go_upto_region 1 with (fail);rw [← hW0];clear hW0;refine wp_region_quiet_below (by kernel_rfl) (by kernel_rfl) ?_
  repeat (go_big_quiet_step (first | (go_at_call 69; first | with_reducible exact Calls.regrown_of (C2 _) | with_reducible exact Calls.regrown_of (C3 _)) | (go_at_call 100; first | with_reducible exact Calls.regrown_of (C4 _) | with_reducible exact Calls.regrown_of (C5 _)) | (go_at_call 101; first | with_reducible exact Calls.regrown_of (C6 _ _) | with_reducible exact Calls.regrown_of (C7 _ _)) | (go_at_call 102; exact Calls.regrown_of (C8 rfl rfl _))))
  refine wpQuiet_nil ?_;intro _ hw';obtain ⟨⟨dq,osq⟩,hw''⟩:=hw';subst hw'';have LQ:=L0.trans ((below_regrown W0 dq osq).mono L0.size);generalize Go.Sort.grow (redrawn W0 dq) osq=w4 at *;go_wp2;go_ret;exact ⟨Ap HE.out.symm,LQ⟩
 cases b1
 ·skip
  have HE:Hid (A1 t c s ad pl n f m g=false):=by rw [HOK.out]; rfl
  go_enter Tryz.func67,Tryz.ntmps67
  go_upto_region 1 with (fail);rw [← hW0];clear hW0;refine wp_region_quiet_below (by kernel_rfl) (by kernel_rfl) ?_
  repeat (go_big_quiet_step (first | (go_at_call 69; first | with_reducible exact Calls.regrown_of (C2 _) | with_reducible exact Calls.regrown_of (C3 _)) | (go_at_call 100; first | with_reducible exact Calls.regrown_of (C4 _) | with_reducible exact Calls.regrown_of (C5 _)) | (go_at_call 101; first | with_reducible exact Calls.regrown_of (C6 _ _) | with_reducible exact Calls.regrown_of (C7 _ _)) | (go_at_call 102; exact Calls.regrown_of (C8 rfl rfl _))))
  refine wpQuiet_nil ?_;intro _ hw';obtain ⟨⟨dq,osq⟩,hw''⟩:=hw';subst hw'';have LQ:=L0.trans ((below_regrown W0 dq osq).mono L0.size);generalize Go.Sort.grow (redrawn W0 dq) osq=w4 at *;go_wp2;go_ret;exact ⟨Ap HE.out.symm,LQ⟩
 cases b2
 ·skip
  have HE:Hid (A1 t c s ad pl n f m g=false):=by rw [HOK.out]; rfl
  go_enter Tryz.func67,Tryz.ntmps67
  go_upto_region 1 with (fail);rw [← hW0];clear hW0;refine wp_region_quiet_below (by kernel_rfl) (by kernel_rfl) ?_
  repeat (go_big_quiet_step (first | (go_at_call 69; first | with_reducible exact Calls.regrown_of (C2 _) | with_reducible exact Calls.regrown_of (C3 _)) | (go_at_call 100; first | with_reducible exact Calls.regrown_of (C4 _) | with_reducible exact Calls.regrown_of (C5 _)) | (go_at_call 101; first | with_reducible exact Calls.regrown_of (C6 _ _) | with_reducible exact Calls.regrown_of (C7 _ _)) | (go_at_call 102; exact Calls.regrown_of (C8 rfl rfl _))))
  refine wpQuiet_nil ?_;intro _ hw';obtain ⟨⟨dq,osq⟩,hw''⟩:=hw';subst hw'';have LQ:=L0.trans ((below_regrown W0 dq osq).mono L0.size);generalize Go.Sort.grow (redrawn W0 dq) osq=w4 at *;go_wp2;go_ret;exact ⟨Ap HE.out.symm,LQ⟩
 cases b3
 ·skip
  have HE:Hid (A1 t c s ad pl n f m g=false):=by rw [HOK.out]; rfl
  go_enter Tryz.func67,Tryz.ntmps67
  go_upto_region 1 with (fail);rw [← hW0];clear hW0;refine wp_region_quiet_below (by kernel_rfl) (by kernel_rfl) ?_
  repeat (go_big_quiet_step (first | (go_at_call 69; first | with_reducible exact Calls.regrown_of (C2 _) | with_reducible exact Calls.regrown_of (C3 _)) | (go_at_call 100; first | with_reducible exact Calls.regrown_of (C4 _) | with_reducible exact Calls.regrown_of (C5 _)) | (go_at_call 101; first | with_reducible exact Calls.regrown_of (C6 _ _) | with_reducible exact Calls.regrown_of (C7 _ _)) | (go_at_call 102; exact Calls.regrown_of (C8 rfl rfl _))))
  refine wpQuiet_nil ?_;intro _ hw';obtain ⟨⟨dq,osq⟩,hw''⟩:=hw';subst hw'';have LQ:=L0.trans ((below_regrown W0 dq osq).mono L0.size);generalize Go.Sort.grow (redrawn W0 dq) osq=w4 at *;go_wp2;go_ret;exact ⟨Ap HE.out.symm,LQ⟩
 cases b4
 ·skip
  have HE:Hid (A1 t c s ad pl n f m g=false):=by rw [HOK.out]; rfl
  go_enter Tryz.func67,Tryz.ntmps67
  go_upto_region 1 with (fail);rw [← hW0];clear hW0;refine wp_region_quiet_below (by kernel_rfl) (by kernel_rfl) ?_
  repeat (go_big_quiet_step (first | (go_at_call 69; first | with_reducible exact Calls.regrown_of (C2 _) | with_reducible exact Calls.regrown_of (C3 _)) | (go_at_call 100; first | with_reducible exact Calls.regrown_of (C4 _) | with_reducible exact Calls.regrown_of (C5 _)) | (go_at_call 101; first | with_reducible exact Calls.regrown_of (C6 _ _) | with_reducible exact Calls.regrown_of (C7 _ _)) | (go_at_call 102; exact Calls.regrown_of (C8 rfl rfl _))))
  refine wpQuiet_nil ?_;intro _ hw';obtain ⟨⟨dq,osq⟩,hw''⟩:=hw';subst hw'';have LQ:=L0.trans ((below_regrown W0 dq osq).mono L0.size);generalize Go.Sort.grow (redrawn W0 dq) osq=w4 at *;go_wp2;go_ret;exact ⟨Ap HE.out.symm,LQ⟩
 cases b5
 ·skip
  have HE:Hid (A1 t c s ad pl n f m g=false):=by rw [HOK.out]; rfl
  go_enter Tryz.func67,Tryz.ntmps67
  go_upto_region 1 with (fail);rw [← hW0];clear hW0;refine wp_region_quiet_below (by kernel_rfl) (by kernel_rfl) ?_
  repeat (go_big_quiet_step (first | (go_at_call 69; first | with_reducible exact Calls.regrown_of (C2 _) | with_reducible exact Calls.regrown_of (C3 _)) | (go_at_call 100; first | with_reducible exact Calls.regrown_of (C4 _) | with_reducible exact Calls.regrown_of (C5 _)) | (go_at_call 101; first | with_reducible exact Calls.regrown_of (C6 _ _) | with_reducible exact Calls.regrown_of (C7 _ _)) | (go_at_call 102; exact Calls.regrown_of (C8 rfl rfl _))))
  refine wpQuiet_nil ?_;intro _ hw';obtain ⟨⟨dq,osq⟩,hw''⟩:=hw';subst hw'';have LQ:=L0.trans ((below_regrown W0 dq osq).mono L0.size);generalize Go.Sort.grow (redrawn W0 dq) osq=w4 at *;go_wp2;go_ret;exact ⟨Ap HE.out.symm,LQ⟩
 cases b6
 ·skip
  have HE:Hid (A1 t c s ad pl n f m g=false):=by rw [HOK.out]; rfl
  go_enter Tryz.func67,Tryz.ntmps67
  go_upto_region 1 with (fail);rw [← hW0];clear hW0;refine wp_region_quiet_below (by kernel_rfl) (by kernel_rfl) ?_
  repeat (go_big_quiet_step (first | (go_at_call 69; first | with_reducible exact Calls.regrown_of (C2 _) | with_reducible exact Calls.regrown_of (C3 _)) | (go_at_call 100; first | with_reducible exact Calls.regrown_of (C4 _) | with_reducible exact Calls.regrown_of (C5 _)) | (go_at_call 101; first | with_reducible exact Calls.regrown_of (C6 _ _) | with_reducible exact Calls.regrown_of (C7 _ _)) | (go_at_call 102; exact Calls.regrown_of (C8 rfl rfl _))))
  refine wpQuiet_nil ?_;intro _ hw';obtain ⟨⟨dq,osq⟩,hw''⟩:=hw';subst hw'';have LQ:=L0.trans ((below_regrown W0 dq osq).mono L0.size);generalize Go.Sort.grow (redrawn W0 dq) osq=w4 at *;go_wp2;go_ret;exact ⟨Ap HE.out.symm,LQ⟩
 cases b7
 ·skip
  have HE:Hid (A1 t c s ad pl n f m g=false):=by rw [HOK.out]; rfl
  go_enter Tryz.func67,Tryz.ntmps67
  go_upto_region 1 with (fail);rw [← hW0];clear hW0;refine wp_region_quiet_below (by kernel_rfl) (by kernel_rfl) ?_
  repeat (go_big_quiet_step (first | (go_at_call 69; first | with_reducible exact Calls.regrown_of (C2 _) | with_reducible exact Calls.regrown_of (C3 _)) | (go_at_call 100; first | with_reducible exact Calls.regrown_of (C4 _) | with_reducible exact Calls.regrown_of (C5 _)) | (go_at_call 101; first | with_reducible exact Calls.regrown_of (C6 _ _) | with_reducible exact Calls.regrown_of (C7 _ _)) | (go_at_call 102; exact Calls.regrown_of (C8 rfl rfl _))))
  refine wpQuiet_nil ?_;intro _ hw';obtain ⟨⟨dq,osq⟩,hw''⟩:=hw';subst hw'';have LQ:=L0.trans ((below_regrown W0 dq osq).mono L0.size);generalize Go.Sort.grow (redrawn W0 dq) osq=w4 at *;go_wp2;go_ret;exact ⟨Ap HE.out.symm,LQ⟩
 ·skip
  have HE:Hid (A1 t c s ad pl n f m g=true):=by rw [HOK.out]; rfl
  go_enter Tryz.func67,Tryz.ntmps67
  go_upto_region 1 with (fail);rw [← hW0];clear hW0;refine wp_region_quiet_below (by kernel_rfl) (by kernel_rfl) ?_
  repeat (go_big_quiet_step (first | (go_at_call 69; first | with_reducible exact Calls.regrown_of (C2 _) | with_reducible exact Calls.regrown_of (C3 _)) | (go_at_call 100; first | with_reducible exact Calls.regrown_of (C4 _) | with_reducible exact Calls.regrown_of (C5 _)) | (go_at_call 101; first | with_reducible exact Calls.regrown_of (C6 _ _) | with_reducible exact Calls.regrown_of (C7 _ _)) | (go_at_call 102; exact Calls.regrown_of (C8 rfl rfl _))))
  refine wpQuiet_nil ?_;intro _ hw';obtain ⟨⟨dq,osq⟩,hw''⟩:=hw';subst hw'';have LQ:=L0.trans ((below_regrown W0 dq osq).mono L0.size);generalize Go.Sort.grow (redrawn W0 dq) osq=w4 at *;go_wp2;go_ret;exact ⟨Ap HE.out.symm,LQ⟩
end Go.Proofs.YtgcmimcalmjaaaaGreatDoor
