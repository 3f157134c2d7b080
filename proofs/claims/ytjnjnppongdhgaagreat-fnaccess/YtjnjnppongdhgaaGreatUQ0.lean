import Derived.Test.YtjnjnppongdhgaaGreatC8
import Derived.Test.YtjnjnppongdhgaaGreatS8
import Derived.Laws.Tables
import Derived.Laws.CopyRow
import Derived.Laws.IdiomCopy
import Derived.Laws.StructEq
import Derived.ChangeKeysEq
import Derived.Lib.QuietBelow
import Derived.Deep.WholeRow
namespace Go.Proofs.YtjnjnppongdhgaaGreat
set_option linter.unusedVariables false
set_option linter.unusedSimpArgs false
open Go.ChangeShapes Go.WideShapes Go.ChangeAt Go.RowKit
def putAt (cs:Array Value) (o:Nat) (vs:Array Value):Array Value:=(cs.toList.take o++vs.toList++cs.toList.drop (o+vs.size)).toArray
theorem Sb {cs vs:Array Value} {o:Nat} (h:o+vs.size≤cs.size):(putAt cs o vs).size=cs.size:=by
 unfold putAt;simp only [List.size_toArray,List.length_append,List.length_take,List.length_drop,Array.length_toList]
 omega
section
variable {P:Program}
theorem Jd (w:World) (g o:Nat) (t ty:TypeId) (old cells:Array Value) (hg:w.heap[g]?=some (.cells old t (0,0))) (hi:(P.info? ty).map (·.size)=some cells.size)
  (ho:o+cells.size≤old.size) (h1:cells.all (·.oneCell')=true) :
  (storeVar ty ⟨g,o,none⟩ (.agg cells)).run P w=.ok () (w.setRow g (putAt old o cells)):=by
 have:=run_storeCells_at (P:=P) g o t cells.toList 0 old w hg (by simp; omega) (fun v hv=>(Array.all_eq_true_iff_forall_mem.1 h1) v (by simpa using hv));simp only [Nat.add_zero,Array.length_toList] at this;have this':(storeCells ⟨g,o,none⟩ cells.toList 0).run P w=.ok () (w.setRow g (putAt old o cells)):=this
 cases hq:P.info? ty with
 | none=>simp [hq] at hi
 | some i =>
  have hs:cells.size=i.size:=by simp [hq] at hi; omega
  simp [storeVar,sizeOf,typeInfo,hq,Value.cells,hs,this']
theorem Ft (w:World) (g o:Nat) (t ty:TypeId) (cs part:Array Value) (fr:Nat × Nat) (d:TypeDesc) (hg:w.heap[g]?=some (.cells cs t fr)) (hp:∀ j v,part[j]?=some v→cs[o+j]?=some v)
  (hu:P.underlying ty=some d) (hd:(match d with | .struct _ | .array _ _=>true | _=>false)=true) (hi:(P.info? ty).map (·.size)=some part.size) :
  (loadVar ty ⟨g,o,none⟩).run P w=.ok (.agg part) w:=by
 have hl:(loadCells ⟨g,o,none⟩ part.toList.length).run P w=.ok part.toList.toArray w :=
  run_loadCells_list (P:=P) w ⟨g,o,none⟩ part.toList (fun j v hv=>by
   have hadd:(⟨g,o,none⟩:Addr).add j=⟨g,o+j,none⟩:=by unfold Addr.add; split <;> simp_all
   rw [hadd,cell_of_row w g (o+j) cs t fr hg]
   exact hp j v (by simpa using hv))
 cases hq:P.info? ty with
 | none=>simp [hq] at hi
 | some i =>
  have hs:i.size=part.size:=by simpa [hq] using hi
  have hagg:(isAgg ty).run P w=.ok true w:=by
   unfold isAgg;rw [Sem.run_bind,run_underlying hu w]
   cases d <;> simp_all
  simp only [Array.length_toList,Array.toArray_toList] at hl
  simp [loadVar,Sem.run_bind,hagg,sizeOf,typeInfo,hq,hs,hl]
theorem Je {o:Oper} {a:Act} {w:World} {K:Act→World→Prop} {Q:Exit→Act→World→Prop} (ty:TypeId) (x:Operand) (ho:o.op=.load ty x)
  (g off:Nat) (hx:a.eval x=(pt g off)) (t:TypeId) (cs part:Array Value) (fr:Nat × Nat) (d:TypeDesc) (hg:w.heap[g]?=some (.cells cs t fr)) (hp:∀ j v,part[j]?=some v→cs[off+j]?=some v)
  (hu:P.underlying ty=some d) (hd:(match d with | .struct _ | .array _ _=>true | _=>false)=true) (hi:(P.info? ty).map (·.size)=some part.size)
  (h:K (a.put o.dst (.agg part)) w):o.wp P a w K Q:=by
 unfold Oper.wp execOp;simp only [ho,hx,Instr.loadAt,Instr.sureAddr,Sem.run_bind,Sem.run_pure,Result.andThen_ok,Ft w g off t ty cs part fr d hg hp hu hd hi];exact h
theorem A9 {ops:Array Oper} {rest:List Oper} {o:Oper} {a:Act} {w:World} {Q:Exit→Act→World→Prop} (hgd:o.guard=none) (ty:TypeId) (x:Operand) (ho:o.op=.load ty x)
  (g off:Nat) (hx:a.eval x=(pt g off)) (t:TypeId) (cs part:Array Value) (fr:Nat × Nat) (d:TypeDesc) (hg:w.heap[g]?=some (.cells cs t fr)) (hp:∀ j v,part[j]?=some v→cs[off+j]?=some v)
  (hu:P.underlying ty=some d) (hd:(match d with | .struct _ | .array _ _=>true | _=>false)=true) (hi:(P.info? ty).map (·.size)=some part.size)
  (h:wpList P ops Q rest (a.put o.dst (.agg part)) w):wpList P ops Q (o :: rest) a w :=
 wpList_plain hgd fun _ hK=>Je ty x ho g off hx t cs part fr d hg hp hu hd hi (hK _ _ h)
theorem Mr {o:Oper} {a:Act} {w:World} {K:Act→World→Prop} {Q:Exit→Act→World→Prop} (ty:TypeId) (x y:Operand) (ho:o.op=.store ty x y)
  (g off:Nat) (cells:Array Value) (hx:a.eval x=(pt g off)) (hy:a.eval y=.agg cells)
  (t:TypeId) (old:Array Value) (hg:w.heap[g]?=some (.cells old t (0,0))) (hi:(P.info? ty).map (·.size)=some cells.size)
  (hold:off+cells.size≤old.size) (h1:cells.all (·.oneCell')=true)
  (h:K (a.put o.dst undef) (w.setRow g (putAt old off cells))):o.wp P a w K Q:=by
 unfold Oper.wp execOp;simp only [ho,hx,hy,Instr.storeAt,Instr.sureAddr,Sem.run_bind,Sem.run_pure,Result.andThen_ok,Jd w g off t ty old cells hg hi hold h1];exact h
theorem Bg {ops:Array Oper} {rest:List Oper} {o:Oper} {a:Act} {w:World} {Q:Exit→Act→World→Prop} (hgd:o.guard=none) (ty:TypeId) (x y:Operand) (ho:o.op=.store ty x y)
  (g off:Nat) (cells:Array Value) (hx:a.eval x=(pt g off)) (hy:a.eval y=.agg cells)
  (t:TypeId) (old:Array Value) (hg:w.heap[g]?=some (.cells old t (0,0))) (hi:(P.info? ty).map (·.size)=some cells.size)
  (hold:off+cells.size≤old.size) (h1:cells.all (·.oneCell')=true)
  (h:wpList P ops Q rest (a.put o.dst undef) (w.setRow g (putAt old off cells))):wpList P ops Q (o :: rest) a w :=
 wpList_plain hgd fun _ hK=>Mr ty x y ho g off cells hx hy t old hg hi hold h1 (hK _ _ h)
end
theorem Kt (w:World):Calls Tryz.prog 114 #[] w fun e w'=>∃ q,e=.returned (.agg #[q,.i 0])∧Ay w' w.heap.size q 512 (fun _=>0)∧Below w.heap.size w w':=by
 obtain ⟨ob,hmk,hrow⟩:∃ ob:Obj,(∀ W:World,(Instr.makeSlice 27 (.i 512) (.i 512)).run Tryz.prog W=.ok (.slice (some ⟨W.heap.size,0,none⟩) 512 512) (W.alloc ob))∧Hid (∀ W:World,(W.alloc ob).rowIs W.heap.size 3 512 (fun _=>.i 0)) :=
  ⟨_,run_make_row' (P:=Tryz.prog) 27 3 (.i 0) 8 Tryz.underlying27 Gd rfl .i64 .i64 512 (by omega) (by omega),fun W=>World.rowIs_made W _ _ _⟩
 have hr:=Ac (hrow.out (w.alloc (.cells #[.slice (some ⟨w.heap.size+1,0,none⟩) 512 512,.i 0] 29)));have L0:Below w.heap.size w ((w.alloc (.cells #[.slice (some ⟨w.heap.size+1,0,none⟩) 512 512,.i 0] 29)).alloc ob):=((Below.refl _ _).alloc (Nat.le_refl _) _).alloc (by simp) _
 go_enter Tryz.func114,Tryz.ntmps114
 go_wp2;have hr':=Ad hr;simp only [World.size_alloc] at hr'
 have O0:Ay ((w.alloc (.cells #[.slice (some ⟨w.heap.size+1,0,none⟩) 512 512,.i 0] 29)).alloc ob) (w.heap.size+1) (.slice (some ⟨w.heap.size+1,0,none⟩) 512 512) 512 (fun _=>0):=by
  refine ⟨_,_,rfl,by omega,My hr',fun b o ⟨off,e,_,_⟩=>?_,fun b o ⟨off,e,_,_⟩=>?_⟩
  ·simp only [Option.some.injEq,Addr.mk.injEq] at e
   obtain ⟨rfl,-,-⟩:=e;exact ⟨hr'.lt,hr'.frozen _⟩
  ·simp only [Option.some.injEq,Addr.mk.injEq] at e
   obtain ⟨rfl,-,-⟩:=e
   omega
 refine bodyPost_ret (v:=.agg #[.slice (some ⟨w.heap.size+1,0,none⟩) 512 512,.i 0]) (by simp [results,Tryz.results114,go_sem]) rfl ?_;exact ⟨_,rfl,O0.mono (by omega),L0⟩
theorem isByte (x:Int) (w:World):Calls Tryz.prog 52 #[.i x] w fun e w'=>e=.returned (.bool (By x 0 255))∧w'=w:=by
 by_cases h:0≤x∧x≤255
 ·have e:=Ac (Bj h)
  go_enter Tryz.func52,Tryz.ntmps52
  go_wp2;go_ret;exact ⟨Am ((by first | rfl | (simp; done) | (simp; omega):_=true).trans (Ad e).symm),rfl⟩
 ·have e:=Ac (Cf h)
  go_enter Tryz.func52,Tryz.ntmps52
  go_wp2;go_ret;exact ⟨Am ((by simp; omega:_=false).trans (Ad e).symm),rfl⟩
def Mc (n:Nat) (f:Nat→Int):Bool:=decide (∀ j,j<n→By (f j) 0 255=true)
theorem Xt {n j:Nat} {f:Nat→Int} (hj:j<n) (h:By (f j) 0 255=false):Mc n f=false:=decide_eq_false (fun x=>by have:=x j hj; rw [h] at this; cases this)
theorem Vn {n:Nat} {f:Nat→Int} (h:∀ j,j<n→By (f j) 0 255=true):Mc n f=true:=decide_eq_true h
theorem Rj {f:Nat→Int}:Cz 256 f=Mc 256 f:=by
 unfold Cz Mc
 simp
theorem Ps (w:World) (F:Nat→Nat→Prop) (v:Value) (n:Nat) (f:Nat→Int) (H:Ints .i64 w F v n f) :
  Calls Tryz.prog 91 #[v] w fun e w'=>e=.returned (.bool (Mc n f))∧w'=w:=by
 obtain ⟨a,cap,rfl,hn,hrow,-⟩:=H
 go_enter Tryz.func91,Tryz.ntmps91
 go_wp2
 go_loop [7] (fun i=>∃ q:Nat,q≤n∧i=.i q∧∀ j,j<q→By (f j) 0 255=true) (fun i=>n-(intOf i).toNat)
 case atStart=>exact ⟨0,Nat.zero_le _,rfl,fun i hi=>absurd hi (Nat.not_lt_zero _)⟩
 case round =>
  obtain ⟨q,hq,rfl,hok⟩:=hrel;have HO:=Ac hok;clear hok
  by_cases hlt:q<n
  ·obtain ⟨b,off,rfl,hcell⟩:=hrow q hlt
   have hlt':(q:Int)<(n:Int):=by omega
   cases hin:By (f q) 0 255
   ·go_wp2_with fail
    refine (isByte _ _).mono ?_;rintro e w1 ⟨rfl,rfl⟩;rw [hin];go_wp2;go_ret;exact ⟨Am (Xt hlt hin).symm,rfl⟩
   ·go_wp2_with fail
    refine (isByte _ _).mono ?_;rintro e w1 ⟨rfl,rfl⟩;rw [hin];go_wp2
    go_round
    case rel =>
     refine ⟨q+1,by omega,by go_num,fun j hj=>?_⟩
     by_cases e:j=q
     ·rw [e]; exact hin
     ·exact Ad HO j (by omega)
    case measure=>simp [intOf]; omega
  ·have hlt':¬ (q:Int)<(n:Int):=by omega
   go_wp2;go_ret;exact ⟨Am (Vn (fun j hj=>Ad HO j (by omega))).symm,rfl⟩
def isRow (n:Nat) (f:Nat→Int) (many:Int):Bool:=decide ((n:Int)=many) && Mc n f
theorem Kl {n:Nat} {f:Nat→Int} {many:Int} (h:¬ (n:Int)=many):isRow n f many=false:=by unfold isRow; rw [decide_eq_false h]; rfl
theorem Hc {n:Nat} {f:Nat→Int} {many:Int} (h:(n:Int)=many):isRow n f many=Mc n f:=by unfold isRow; rw [decide_eq_true h]; rfl
theorem N3 {n:Nat} {f:Nat→Int}:Cz n f=isRow n f 256:=by
 by_cases h:n=256
 ·subst h
  rw [Hc (by rfl)];exact Rj
 ·rw [Kl (by omega),Kj h]
theorem isBytes (w:World) (F:Nat→Nat→Prop) (v:Value) (n:Nat) (f:Nat→Int) (many:Int) (H:Ints .i64 w F v n f) :
  Calls Tryz.prog 90 #[v,.i many] w fun e w'=>e=.returned (.bool (isRow n f many))∧w'=w:=by
 have H0:=H;obtain ⟨a,cap,rfl,hn,-,-⟩:=H
 by_cases h:(n:Int)=many
 ·have h':((n:Int)==many)=true:=by simpa using h
  have HE:=Ac (Hc (f:=f) h);clear h
  go_enter Tryz.func90,Tryz.ntmps90
  go_wp2_with fail;refine (Ps _ F _ n f H0).mono ?_;rintro e w1 ⟨rfl,rfl⟩;go_wp2;go_ret;exact ⟨Am HE.out.symm,rfl⟩
 ·have h':((n:Int)==many)=false:=by simpa using h
  have HE:=Ac (Kl (f:=f) h);clear h
  go_enter Tryz.func90,Tryz.ntmps90
  go_wp2;go_ret;exact ⟨Am HE.out.symm,rfl⟩
theorem Km {m:Nat} {ln:Nat→Nat} {f:Nat→Nat→Int} (h:¬ (1≤m∧m≤8)):E6 m ln f=false:=decide_eq_false (fun x=>h x.2)
theorem Tn {m:Nat} {ln:Nat→Nat} {f:Nat→Nat→Int} (h:∀ i,i<m→Cz (ln i) (f i)=true) (h1:1≤m) (h8:m≤8):E6 m ln f=true:=decide_eq_true ⟨h,h1,h8⟩
theorem Pt (w:World) (F:Nat→Nat→Prop) (v:Value) (m:Nat) (ln:Nat→Nat) (f:Nat→Nat→Int) (H:Ba .i64 w F v m ln f) :
  Calls Tryz.prog 89 #[.agg #[v]] w fun e w'=>e=.returned (.bool (E6 m ln f))∧Below w.heap.size w w':=by
 have L0:Below w.heap.size w (w.alloc (.cells #[v] 26)):=(Below.refl _ _).alloc (Nat.le_refl _) _;have H0:=H.keep (Ab L0 Ak) (fun _ _ _ x=>x);obtain ⟨a,cap,rfl,hm,-,hc⟩:=H0
 by_cases h1:1≤m
 ·by_cases h8:m≤8
  ·go_enter Tryz.func89,Tryz.ntmps89
   have h1':¬ (m:Int)<1:=by omega
   have h8':¬ (8:Int)<m:=by omega
   go_wp2
   go_loop [18] (fun i=>∃ q:Nat,q≤m∧i=.i q∧∀ i,i<q→Cz (ln i) (f i)=true) (fun i=>m-(intOf i).toNat)
   case atStart=>exact ⟨0,Nat.zero_le _,rfl,fun i hi=>absurd hi (Nat.not_lt_zero _)⟩
   case round =>
    obtain ⟨q,hq,rfl,hok⟩:=hrel;have HO:=Ac hok;clear hok
    by_cases hlt:q<m
    ·obtain ⟨b,off,u,rfl,hcell,a',cap',rfl,hn',hrow,-⟩:=hc q hlt
     have hlt':(q:Int)<(m:Int):=by omega
     have EA:=Ac (N3 (n:=ln q) (f:=f q));cases hin:isRow (ln q) (f q) 256
     ·go_wp2_with fail
      refine (isBytes _ (fun _ _=>True) _ (ln q) (f q) 256 ⟨_,_,rfl,hn',hrow,fun _ _ _=>trivial⟩).mono ?_;rintro e w1 ⟨rfl,rfl⟩;rw [hin];go_wp2;go_ret;exact ⟨Am (Kk hlt ((Ad EA).trans hin)).symm,L0⟩
     ·go_wp2_with fail
      refine (isBytes _ (fun _ _=>True) _ (ln q) (f q) 256 ⟨_,_,rfl,hn',hrow,fun _ _ _=>trivial⟩).mono ?_;rintro e w1 ⟨rfl,rfl⟩;rw [hin];go_wp2
      go_round
      case rel=>exact ⟨q+1,by omega,by go_num,Pq (Ad HO) ((Ad EA).trans hin)⟩
      case measure=>simp [intOf]; omega
    ·have hlt':¬ (q:Int)<(m:Int):=by omega
     have e:q=m:=by omega
     subst e;go_wp2;go_ret;exact ⟨Am (Tn (Ad HO) (by omega) (by omega)).symm,L0⟩
  ·have HI:=Ac (Km (ln:=ln) (f:=f) (m:=m) (by omega))
   have h1':¬ (m:Int)<1:=by omega
   have h8':(8:Int)<m:=by omega
   go_enter Tryz.func89,Tryz.ntmps89
   go_wp2;go_ret;exact ⟨Am (Ad HI).symm,L0⟩
 ·have HI:=Ac (Km (ln:=ln) (f:=f) (m:=m) (by omega))
  have h1':(m:Int)<1:=by omega
  go_enter Tryz.func89,Tryz.ntmps89
  go_wp2;go_ret;exact ⟨Am (Ad HI).symm,L0⟩
set_option maxHeartbeats 1000000
set_option maxRecDepth 4000
open Go.Sort
theorem Lc (x m:Int) (hm:0<m):(x.tmod m<0→x.tmod m+m=x%m)∧(¬ x.tmod m<0→x.tmod m=x%m)∧-m<x.tmod m∧x.tmod m<m:=by
 have h1:=Int.emod_nonneg x (show m≠0 by omega);have h2:=Int.emod_lt_of_pos x hm
 rcases Int.le_total 0 x with h | h
 ·have e:=Int.tmod_eq_emod_of_nonneg (b:=m) h
  rw [e];exact ⟨fun _=>by omega,fun _=>rfl,by omega,by omega⟩
 ·have e:x.tmod m=-((-x)%m):=by
   have:=Int.neg_tmod (-x) m;rw [Int.neg_neg] at this;rw [this,Int.tmod_eq_emod_of_nonneg (by omega)]
  have k1:=Int.emod_nonneg (-x) (show m≠0 by omega);have k2:=Int.emod_lt_of_pos (-x) hm;have d1:=Int.emod_add_mul_ediv x m;have d2:=Int.emod_add_mul_ediv (-x) m;rw [e]
  have key:(-x)%m=0∧x%m=0∨(-x)%m=m-x%m:=by
   by_cases z:x%m=0
   ·left
    refine ⟨?_,z⟩;have:m ∣ x:=Int.dvd_of_emod_eq_zero z;exact Int.emod_eq_zero_of_dvd (Int.dvd_neg.2 this)
   ·right
    rw [Int.neg_emod]
    have hn:¬ m ∣ x:=fun hd=>z (Int.emod_eq_zero_of_dvd hd)
    rw [if_neg hn]
    omega
  rcases key with ⟨k,z⟩ | k
  ·exact ⟨fun h=>by omega,fun _=>by omega,by omega,by omega⟩
  ·by_cases z:(-x)%m=0
   ·exact ⟨fun h=>by omega,fun _=>by omega,by omega,by omega⟩
   ·exact ⟨fun h=>by omega,fun h=>by omega,by omega,by omega⟩
theorem Zw (x:Int) (w:World):Calls Tryz.prog 94 #[.i x,.i 16] w fun e w'=>e=.returned (.i (x%16))∧w'=w:=by
 obtain ⟨h1,h2,h3,h4⟩:=Lc x 16 (by omega);have HQ:=Ac (And.intro h1 h2);clear h1 h2
 by_cases hn:x.tmod 16<0
 ·go_enter Tryz.func94,Tryz.ntmps94
  go_wp2;go_ret;exact ⟨A7 ((Ad HQ).1 hn),rfl⟩
 ·go_enter Tryz.func94,Tryz.ntmps94
  go_wp2;go_ret;exact ⟨A7 ((Ad HQ).2 (by omega)),rfl⟩
theorem Wl (x:Int) (w:World):Calls Tryz.prog 94 #[.i x,.i 64] w fun e w'=>e=.returned (.i (x%64))∧w'=w:=by
 obtain ⟨h1,h2,h3,h4⟩:=Lc x 64 (by omega);have HQ:=Ac (And.intro h1 h2);clear h1 h2
 by_cases hn:x.tmod 64<0
 ·go_enter Tryz.func94,Tryz.ntmps94
  go_wp2;go_ret;exact ⟨A7 ((Ad HQ).1 hn),rfl⟩
 ·go_enter Tryz.func94,Tryz.ntmps94
  go_wp2;go_ret;exact ⟨A7 ((Ad HQ).2 (by omega)),rfl⟩
theorem Zx (w:World) (t:Int) (t0:0≤t) (t1:t≤20000):Calls Tryz.prog 96 #[.i t] w fun e w'=>e=.returned (.i (Dg t))∧w'=w:=by
 have hm:t.tmod 64=t%64:=Int.tmod_eq_emod_of_nonneg t0
 by_cases h:48<t%64
 ·have HE:Hid (Dg t=0):=if_pos h
  have h':¬ t%64≤48:=by omega
  go_enter Tryz.func96,Tryz.ntmps96
  go_wp2;go_ret;exact ⟨A7 HE.out.symm,rfl⟩
 ·have HE:Hid (Dg t=t%64):=if_neg h
  have h':t%64≤48:=by omega
  go_enter Tryz.func96,Tryz.ntmps96
  go_wp2;go_ret;exact ⟨A7 HE.out.symm,rfl⟩
def scr (n:Nat) (f:Nat→Int):Nat→Int:=fun i=>if i<n then f i else 0
theorem Ug (n:Nat) (f:Nat→Int):(rowVals (min n 48) f++(rowVals 48 (fun _=>0)).drop (min n 48))=rowVals 48 (scr n f):=by
 apply List.ext_getElem?
 intro i
 by_cases h:i<min n 48
 ·rw [List.getElem?_append_left (by rw [A3]; omega),A8 _ _ i h,A8 _ _ i (by omega)]
  unfold scr;rw [if_pos (by omega)]
 ·rw [List.getElem?_append_right (by rw [A3]; omega),A3,List.getElem?_drop]
  by_cases k:i<48
  ·rw [show min n 48+(i-min n 48)=i by omega,A8 _ _ i k,A8 _ _ i k]
   unfold scr;rw [if_neg (by omega)]
  ·rw [List.getElem?_eq_none (by rw [A3]; omega),List.getElem?_eq_none (by rw [A3]; omega)]
theorem Sx:(rowVals 48 (fun _=>0)).toArray=#[.i 0,.i 0,.i 0,.i 0,.i 0,.i 0,.i 0,.i 0,.i 0,.i 0,.i 0,.i 0,.i 0,.i 0,.i 0,.i 0,.i 0,.i 0,.i 0,.i 0,.i 0,.i 0,.i 0,.i 0,.i 0,.i 0,.i 0,.i 0,.i 0,.i 0,.i 0,.i 0,.i 0,.i 0,.i 0,.i 0,.i 0,.i 0,.i 0,.i 0,.i 0,.i 0,.i 0,.i 0,.i 0,.i 0,.i 0,.i 0]:=by rfl
theorem Ol:(rowVals 48 (fun _=>0)).toArray.size=48:=by rfl
theorem below_setRow {n:Nat} {w W:World} (h:Below n w W) {g:Nat} (cs:Array Value) (hg:n≤g):Below n w (W.setRow g cs) :=
 ⟨h.os,h.tape,h.output,by rw [setRow_size]; exact h.size,fun k hk=>by rw [setRow_other _ _ _ _ (by omega)]; exact h.block k hk⟩
theorem Gr (n:Nat) (f:Nat→Int):(rowVals n f).toArray.all (·.oneCell')=true:=by
 rw [Array.all_eq_true_iff_forall_mem];intro x hx;exact E7 n f x (by simpa using hx)
theorem Ga:(Tryz.prog.info? 145).map (·.size)=some 48:=by kernel_rfl
theorem Wm (w:World) (F:Nat→Nat→Prop) (u:Value) (n:Nat) (f:Nat→Int) (H:Ints .i64 w F u n f) :
  Calls Tryz.prog 124 #[u] w fun e w'=>e=.returned (.agg (rowVals 48 (scr n f)).toArray)∧Below w.heap.size w w':=by
 obtain ⟨ua,ux,rfl,un,hr,-⟩:=H
 go_enter Tryz.func124,Tryz.ntmps124
 go_wp2;rw [← Sx];have L0:Below w.heap.size w ((w.alloc (.cells (rowVals 48 (fun _=>0)).toArray 145)).alloc (.cells (rowVals 48 (fun _=>0)).toArray 145)):=((Below.refl _ _).alloc (Nat.le_refl _) _).alloc (by simp) _;have k0:((w.alloc (.cells (rowVals 48 (fun _=>0)).toArray 145)).alloc (.cells (rowVals 48 (fun _=>0)).toArray 145)).heap[w.heap.size]?=some (.cells (rowVals 48 (fun _=>0)).toArray 145 (0,0)):=A4 (Al w _ _) _
 have k1:((w.alloc (.cells (rowVals 48 (fun _=>0)).toArray 145)).alloc (.cells (rowVals 48 (fun _=>0)).toArray 145)).heap[w.heap.size+1]?=some (.cells (rowVals 48 (fun _=>0)).toArray 145 (0,0)):=by simpa using Al (w.alloc (.cells (rowVals 48 (fun _=>0)).toArray 145)) (rowVals 48 (fun _=>0)).toArray 145
 replace hr:=hr.keep (Ab L0 Ak) (fun _ _ _ x=>x);generalize ((w.alloc (.cells (rowVals 48 (fun _=>0)).toArray 145)).alloc (.cells (rowVals 48 (fun _=>0)).toArray 145))=W0 at *
 obtain ⟨W1,hcp,kk0,kk1,L1⟩:∃ W1,(Builtin.copy_ #[27,27] 3 #[.slice (some ⟨w.heap.size+1,0,none⟩) 48 48,.slice ua n ux]).run Tryz.prog W0=.ok (.i ((min n 48:Nat):Int)) W1∧W1.heap[w.heap.size]?=some (.cells (rowVals 48 (fun _=>0)).toArray 145 (0,0))∧W1.heap[w.heap.size+1]?=some (.cells (rowVals 48 (scr n f)).toArray 145 (0,0))∧Below w.heap.size w W1:=by
  by_cases hn:n=0
  ·subst hn
   refine ⟨W0,?_,k0,?_,L0⟩
   ·have:=run_copy_none (P:=Tryz.prog) W0 27 27 3 3 (some ⟨w.heap.size+1,0,none⟩) ua 48 48 0 ux Tryz.underlying27 (by kernel_rfl) (by rfl)
    exact this
   ·rw [k1]
    congr 3
  ·obtain ⟨rb,ro,rfl,-⟩:=hr 0 (by omega)
   have hr':=hr;have:=run_copy_row (P:=Tryz.prog) W0 27 27 3 3 (w.heap.size+1) 0 48 48 ⟨rb,ro,none⟩ n ux (rowVals 48 (fun _=>0)).toArray 145 (rowVals (min n 48) f) Tryz.underlying27 (by kernel_rfl) k1 (by rw [A3]) (by exact Cw (fun i hi=>hr i (by omega))) (by rw [A3,Ol]; omega) (E7 _ _);rw [A3,List.take_zero,List.nil_append,Nat.zero_add,Ug] at this;refine ⟨_,this,?_,?_,?_⟩
   ·rw [setRow_other _ _ _ _ (by omega)]
    exact k0
   ·exact setRow_heap _ _ _ _ _ _ k1
   ·exact below_setRow L0 _ (by omega)
 simp only [hcp,Result.andThen];rw [Oper.upon_value];clear hcp hr k0 k1 L0;go_upto_region 3 with (fail);rename_i K1 h1;refine wp_region_lit ?_;refine wpList_load_row rfl _ _ rfl (w.heap.size+1) rfl _ _ _ _ kk1 Tryz.underlying145 rfl Ga ?_;refine wpList_store_row rfl _ _ _ rfl w.heap.size _ rfl rfl _ _ kk0 Ga rfl (Gr _ _) ?_;refine h1 _ _ ?_;go_wp2;refine bodyPost_ret (v:=.agg (rowVals 48 (scr n f)).toArray) (results_cell_row (by rfl) _ _ w.heap.size _ _ _ _ rfl (setRow_heap _ _ _ _ _ _ kk0) Tryz.underlying145 rfl Ga) rfl ?_;exact ⟨rfl,below_setRow L1 _ (Nat.le_refl _)⟩
theorem Yl (g:Nat→Int) (q:Nat) (hq:q<48) (w:World):(Instr.index 145 (.agg (rowVals 48 g).toArray) (.i q)).run Tryz.prog w=.ok (.i (g q)) w:=by
 obtain ⟨i0,hi,hz0,hz1,hz2⟩:=info_parts Gd
 have hx:(rowVals 48 g).toArray[q]?=some (.i (g q)):=by rw [List.getElem?_toArray,A8 48 g q hq]
 have hp:=run_part_plain (P:=Tryz.prog) w (e:=3) (by kernel_rfl) (off:=q) hx
 have h2:(q:Int)<((48:Nat):Int):=by omega
 simp [Instr.index,asIntOf,run_underlying Tryz.underlying145,Result.andThen,sizeOf,typeInfo,hi,hz1,hp,h2]
 intro h; omega
def If (q:Nat) (g:Nat→Int):Nat→Int:=fun i=>if i<q then g i%64 else g i
theorem Ru (q:Nat) (hq:q<48) (g:Nat→Int):(rowVals 48 (If q g)).toArray.setIfInBounds q (.i (g q%64))=(rowVals 48 (If (q+1) g)).toArray:=by
 rw [List.setIfInBounds_toArray]
 congr 1
 apply List.ext_getElem?
 intro j
 by_cases hj:j<48
 ·rw [A8 48 _ j hj]
  by_cases e:q=j
  ·subst e
   rw [List.getElem?_set_self (by rw [A3]; exact hj)];unfold If;rw [if_pos (by omega)]
  ·rw [List.getElem?_set_ne e,A8 48 _ j hj]
   unfold If
   by_cases k:j<q
   ·rw [if_pos k,if_pos (by omega)]
   ·rw [if_neg k,if_neg (by omega)]
 ·rw [List.getElem?_eq_none (by rw [List.length_set,A3]; omega),List.getElem?_eq_none (by rw [A3]; omega)]
theorem Uh (g:Nat→Int):rowVals 48 (If 48 g)=rowVals 48 (fun i=>g i%64):=List.map_congr_left (fun i hi=>by rw [If,if_pos (List.mem_range.1 hi)])
theorem Rv (g:Nat→Int):rowVals 48 (If 0 g)=rowVals 48 g:=List.map_congr_left (fun i hi=>by rw [If,if_neg (by omega)])
theorem Zy (w:World) (g:Nat→Int):Calls Tryz.prog 125 #[.agg (rowVals 48 g).toArray] w fun e w'=>e=.returned (.agg (rowVals 48 (fun i=>g i%64)).toArray)∧Below w.heap.size w w':=by
 go_enter Tryz.func125,Tryz.ntmps125
 go_upto_region 1 with (fail);rw [← Sx];have L0:Below w.heap.size w ((w.alloc (.cells (rowVals 48 g).toArray 145)).alloc (.cells (rowVals 48 (fun _=>0)).toArray 145)):=((Below.refl _ _).alloc (Nat.le_refl _) _).alloc (by simp) _;have k0:((w.alloc (.cells (rowVals 48 g).toArray 145)).alloc (.cells (rowVals 48 (fun _=>0)).toArray 145)).heap[w.heap.size]?=some (.cells (rowVals 48 g).toArray 145 (0,0)):=A4 (Al w _ _) _
 have k1:((w.alloc (.cells (rowVals 48 g).toArray 145)).alloc (.cells (rowVals 48 (fun _=>0)).toArray 145)).heap[w.heap.size+1]?=some (.cells (rowVals 48 (fun _=>0)).toArray 145 (0,0)):=by simpa using Al (w.alloc (.cells (rowVals 48 g).toArray 145)) (rowVals 48 (fun _=>0)).toArray 145
 generalize ((w.alloc (.cells (rowVals 48 g).toArray 145)).alloc (.cells (rowVals 48 (fun _=>0)).toArray 145))=W0 at *;refine wp_region_lit ?_;refine wpList_load_row rfl _ _ rfl w.heap.size rfl _ _ _ _ k0 Tryz.underlying145 rfl Ga ?_;go_wp2
 go_loopw [6] (fun i wr=>∃ q:Nat,q≤48∧i=.i q∧wr.heap[w.heap.size]?=some (.cells (rowVals 48 (If q g)).toArray 145 (0,0))∧wr.heap[w.heap.size+1]?=some (.cells (rowVals 48 (fun _=>0)).toArray 145 (0,0))∧Below w.heap.size w wr) (fun i _=>48-(intOf i).toNat)
 case atStart=>exact ⟨0,by omega,rfl,by rw [Rv]; exact k0,k1,L0⟩
 case round =>
  obtain ⟨q,hq,rfl,h0,h1,L⟩:=hrel;clear k0 k1 L0
  by_cases hlt:q<48
  ·have hlt':(q:Int)<48:=by omega
   have hix:=Yl g q hlt
   have hc:wr.cell? ⟨w.heap.size,q,none⟩=some (.i (If q g q)):=by rw [Aj h0 q,List.getElem?_toArray,A8 48 _ q hlt]
   have hf:=Ar h0 q;go_wp2_with fail;refine (Wl _ _).mono ?_;rintro e w1 ⟨rfl,rfl⟩;go_wp2
   go_round
   case rel =>
    refine ⟨q+1,by omega,by go_num,?_,B7 h1 (by omega),L.setCell (by simp) _⟩;have:=Ai (o:=q) h0 (.i (g q%64));rw [Ru q hlt] at this;exact this
   case measure=>simp [intOf]; omega
  ·have hlt':¬ (q:Int)<48:=by omega
   have hq48:q=48:=by omega
   subst hq48;rw [Uh] at h0;clear hlt hlt' hq;go_upto_region 6 with (fail);rename_i K1 h2;refine wp_region_lit ?_;refine wpList_load_row rfl _ _ rfl w.heap.size rfl _ _ _ _ h0 Tryz.underlying145 rfl Ga ?_;refine wpList_store_row rfl _ _ _ rfl (w.heap.size+1) _ rfl rfl _ _ h1 Ga rfl (Gr _ _) ?_;refine h2 _ _ ?_;go_wp2;refine bodyPost_ret (v:=.agg (rowVals 48 (fun i=>g i%64)).toArray) (results_cell_row (by rfl) _ _ (w.heap.size+1) _ _ _ _ rfl (setRow_heap _ _ _ _ _ _ h1) Tryz.underlying145 rfl Ga) rfl ?_;exact ⟨rfl,below_setRow L _ (by omega)⟩
theorem Jq {P:Program} {ops:Array Oper} {W:World} {Q:Act→Prop} {rest:List Oper} {o:Oper} {a:Act} (hw:Region.wanted o (yielded ops a.tmps)=true) (ty:TypeId) (x:Operand) (ho:o.op=.load ty x)
  (g:Nat) (hx:a.eval x=(pt g 0)) (t:TypeId) (cs:Array Value) (d:TypeDesc) (hg:W.heap[g]?=some (.cells cs t (0,0)))
  (hu:P.underlying ty=some d) (hd:(match d with | .struct _ | .array _ _=>true | _=>false)=true) (hi:(P.info? ty).map (·.size)=some cs.size)
  (h:wpQuiet P ops (fun w'=>∃ p:Regrown,w'=grow (redrawn W p.d) p.os) Q rest (a.put o.dst (.agg cs))):wpQuiet P ops (fun w'=>∃ p:Regrown,w'=grow (redrawn W p.d) p.os) Q (o :: rest) a :=
 Go.BigFrame.wpQuiet_want hw (fun K hK=>⟨.agg cs,fun w' ⟨p,e⟩=>by
  subst e;have hb:=((below_regrown W p.d p.os).block _ (Ae hg)).trans hg;unfold Oper.quietAt execOp;simp only [ho,hx,Instr.loadAt,Instr.sureAddr,Sem.run_bind,Sem.run_pure,Result.andThen_ok,run_loadVar_row _ g t ty cs (0,0) d hb hu hd hi]
  exact ⟨rfl,rfl⟩,hK _ h⟩)
theorem Nf (f g:Nat→Int) (w:World) (d:Nat):∀ is:List Nat,(∀ i,i∈is→i<48)→(Op.eqItems (d+1) 3 1 (rowVals 48 f).toArray (rowVals 48 g).toArray is).run Tryz.prog w=.ok (is.all (fun i=>f i==g i)) w
 | [],_=>by simp [Op.eqItems]
 | i :: is,h=>by
  have hi:=h i (by simp);have p1:=run_part_plain (P:=Tryz.prog) w (e:=3) (by kernel_rfl) (off:=i) (xs:=(rowVals 48 f).toArray) (v:=.i (f i)) (by rw [List.getElem?_toArray,A8 48 f i hi]);have p2:=run_part_plain (P:=Tryz.prog) w (e:=3) (by kernel_rfl) (off:=i) (xs:=(rowVals 48 g).toArray) (v:=.i (g i)) (by rw [List.getElem?_toArray,A8 48 g i hi]);have ih:=Nf f g w d is (fun j hj=>h j (by simp [hj]));simp only [Op.eqItems,Sem.run_bind,Nat.mul_one,p1,p2,Result.andThen_ok,run_equalIn_int w d 3 .i64 .i64 _ _ Tryz.underlying3];cases hb:f i==g i
  ·simp [hb]
  ·simp [hb,ih]
theorem Jam (f g:Nat→Int) (w:World):(binOp .eql 145 (.agg (rowVals 48 f).toArray) (.agg (rowVals 48 g).toArray)).run Tryz.prog w=.ok (.bool ((List.range 48).all (fun i=>f i==g i))) w:=by
 obtain ⟨i0,hi,hz0,hz1,hz2⟩:=info_parts Gd
 have hc:Tryz.prog.cellsOf 3=1:=by kernel_rfl
 rw [run_eql_struct,show (10000:Nat)=9999+1 from rfl,run_equalIn_array w 9999 _ _ Tryz.underlying145 hi,hc,show (9999:Nat)=9998+1 from rfl,Nf f g w 9998 _ (fun i hi=>List.mem_range.1 hi)]
 rfl
theorem Zz (n:Nat) (f:Nat→Int) (hn:n≤48):(List.range 48).all (fun i=>scr n f i==scr n f i%64)=allIn n f 0 63:=by
 cases h:allIn n f 0 63
 ·rw [Bool.eq_false_iff]
  intro e
  have:=Jo (n:=n) (f:=f) (lo:=0) (hi:=63) (fun j hj=>by
   have:=List.all_eq_true.1 e j (List.mem_range.2 (by omega));have e2:scr n f j=f j:=if_pos hj;rw [e2] at this;have:=eq_of_beq this
   omega)
  rw [h] at this;cases this
 ·rw [List.all_eq_true]
  intro i hi;have k:=K5 h
  by_cases hlt:i<n
  ·have e2:scr n f i=f i:=if_pos hlt
   have:=k i hlt;rw [e2];exact beq_iff_eq.2 (by omega)
  ·have e2:scr n f i=0:=if_neg hlt
   rw [e2]
   rfl
theorem Ng (w:World) (F:Nat→Nat→Prop) (u:Value) (n:Nat) (f:Nat→Int) (many:Int) (H:Ints .i64 w F u n f) (h1:many≤48) :
  Calls Tryz.prog 95 #[u,.i many] w fun e w'=>e=.returned (.bool (decide ((n:Int)=many) && allIn n f 0 63))∧Below w.heap.size w w':=by
 obtain ⟨ua,ux,rfl,un,hr,hF⟩:=H
 have H:Ints .i64 w F (.slice ua n ux) n f:=⟨_,_,rfl,un,hr,hF⟩
 clear hr hF
 go_enter Tryz.func95,Tryz.ntmps95
 go_wp2_with fail;refine (Wm _ F _ n f H).mono ?_;rintro e w1 ⟨rfl,L1⟩;have hlen:(rowVals 48 (scr n f)).length=48:=A3 _ _
 have hsc:(storeCells ⟨w1.heap.size,0,none⟩ (rowVals 48 (scr n f)) 0).run Tryz.prog (w1.alloc (.cells #[.i 0,.i 0,.i 0,.i 0,.i 0,.i 0,.i 0,.i 0,.i 0,.i 0,.i 0,.i 0,.i 0,.i 0,.i 0,.i 0,.i 0,.i 0,.i 0,.i 0,.i 0,.i 0,.i 0,.i 0,.i 0,.i 0,.i 0,.i 0,.i 0,.i 0,.i 0,.i 0,.i 0,.i 0,.i 0,.i 0,.i 0,.i 0,.i 0,.i 0,.i 0,.i 0,.i 0,.i 0,.i 0,.i 0,.i 0,.i 0] 145))=.ok () (w1.alloc (.cells (rowVals 48 (scr n f)).toArray 145)):=run_storeCells_new (P:=Tryz.prog) w1 145 #[.i 0,.i 0,.i 0,.i 0,.i 0,.i 0,.i 0,.i 0,.i 0,.i 0,.i 0,.i 0,.i 0,.i 0,.i 0,.i 0,.i 0,.i 0,.i 0,.i 0,.i 0,.i 0,.i 0,.i 0,.i 0,.i 0,.i 0,.i 0,.i 0,.i 0,.i 0,.i 0,.i 0,.i 0,.i 0,.i 0,.i 0,.i 0,.i 0,.i 0,.i 0,.i 0,.i 0,.i 0,.i 0,.i 0,.i 0,.i 0] (rowVals 48 (scr n f)).toArray Ga rfl (Gr _ _);go_upto_region 2 with (fail)
 clear hlen hsc;have k0:=Al w1 (rowVals 48 (scr n f)).toArray 145;have L2:Below w.heap.size w (w1.alloc (.cells (rowVals 48 (scr n f)).toArray 145)):=L1.alloc (L1.size) _;generalize w1.alloc (.cells (rowVals 48 (scr n f)).toArray 145)=W2 at *
 by_cases hn:(n:Int)=many
 ·have hd:((n:Int)==many)=true:=by simpa using hn
  have HE:Hid ((decide ((n:Int)=many) && allIn n f 0 63)=allIn n f 0 63):=by show _=_; rw [decide_eq_true hn,Bool.true_and]
  have hS:=Zz n f (by omega);have hE:=Jam (scr n f) (fun i=>scr n f i%64);rw [hS] at hE;clear hS;refine wp_region_quiet_below (by kernel_rfl) (by kernel_rfl) ?_
  iterate 5 (quiet_step (fail))
  iterate 2 (refine Jq (by kernel_rfl) _ _ rfl w1.heap.size rfl _ _ _ k0 Tryz.underlying145 rfl Ga ?_)
  quiet_step ((go_at_call 125; exact Calls.regrown_of (Zy _ _)))
  iterate 3 (quiet_step (fail))
  refine wpQuiet_nil ?_;intro _ hw';obtain ⟨⟨dq,osq⟩,hw''⟩:=hw';subst hw'';have LQ:=below_regrown W2 dq osq;generalize Go.Sort.grow (redrawn W2 dq) osq=w4 at *;go_wp2;go_ret;exact ⟨Am HE.out.symm,L2.trans (LQ.mono L2.size)⟩
 ·have hd:((n:Int)==many)=false:=by simpa using hn
  have HE:Hid ((decide ((n:Int)=many) && allIn n f 0 63)=false):=by show _=_; rw [decide_eq_false hn,Bool.false_and]
  refine wp_region_quiet_below (by kernel_rfl) (by kernel_rfl) ?_
  iterate 11 (quiet_step (fail))
  refine wpQuiet_nil ?_;intro _ hw';obtain ⟨⟨dq,osq⟩,hw''⟩:=hw';subst hw'';have LQ:=below_regrown W2 dq osq;generalize Go.Sort.grow (redrawn W2 dq) osq=w4 at *;go_wp2;go_ret;exact ⟨Am HE.out.symm,L2.trans (LQ.mono L2.size)⟩
end Go.Proofs.YtjnjnppongdhgaaGreat
