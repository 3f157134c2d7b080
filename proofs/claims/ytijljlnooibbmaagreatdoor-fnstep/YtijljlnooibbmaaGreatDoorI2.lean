import Derived.Test.YtijljlnooibbmaaGreatDoorC8
import Derived.Test.YtijljlnooibbmaaGreatDoorS8
import Derived.Laws.Tables
import Derived.Laws.CopyRow
import Derived.Laws.IdiomCopy
import Derived.Laws.StructEq
import Derived.ChangeKeysEq
import Derived.Lib.QuietBelow
import Derived.Deep.WholeRow
import Derived.Handy
namespace Go.Proofs.YtijljlnooibbmaaGreatDoor
open Go.Proofs.Tryz
open Go.ChangeShapes Go.WideShapes Go.ChangeAt Go.RowKit
theorem isByte (x:Int) (w:World):Calls prog 24 #[.i x] w fun e w'=>e=.returned (.bool (Cr x 0 255))/\w'=w:=by
 by_cases h:0<=x/\x<=255
 .have e:=Ac (Bh h)
  go_enter func24,ntmps24
  go_wp2;go_ret;exact ⟨Ap ((by first | rfl | (simp; done) | (simp; omega):_=true).trans (Ae e).symm),rfl⟩
 .have e:=Ac (C9 h)
  go_enter func24,ntmps24
  go_wp2;go_ret;exact ⟨Ap ((by simp; omega:_=false).trans (Ae e).symm),rfl⟩
def Pt (n:Nat) (f:Nat->Int):Bool:=decide (∀ j,j<n->Cr (f j) 0 255=true)
theorem Jdv {n j:Nat} {f:Nat->Int} (hj:j<n) (h:Cr (f j) 0 255=false):Pt n f=false:=decide_eq_false (fun x=>by have:=x j hj; rw [h] at this; cases this)
theorem Nn {n:Nat} {f:Nat->Int} (h:∀ j,j<n->Cr (f j) 0 255=true):Pt n f=true:=decide_eq_true h
theorem Wo {f:Nat->Int}:D9 256 f=Pt 256 f:=by
 unfold D9 Pt
 simp
theorem Tz (w:World) (F:Nat->Nat->Prop) (v:Value) (n:Nat) (f:Nat->Int) (H:Ints .i64 w F v n f) :
  Calls prog 61 #[v] w fun e w'=>e=.returned (.bool (Pt n f))/\w'=w:=by
 obtain ⟨a,cap,rfl,hn,hrow,-⟩:=H
 go_enter func61,ntmps61
 go_wp2
 go_loop [7] (fun i=>∃ q:Nat,q<=n/\i=.i q/\∀ j,j<q->Cr (f j) 0 255=true) (fun i=>n-(intOf i).toNat)
 case atStart=>exact ⟨0,Nat.zero_le _,rfl,fun i hi=>absurd hi (Nat.not_lt_zero _)⟩
 case round =>
  obtain ⟨q,hq,rfl,hok⟩:=hrel;have HO:=Ac hok;clear hok
  by_cases hlt:q<n
  .obtain ⟨b,off,rfl,hcell⟩:=hrow q hlt
   have hlt':(q:Int)<(n:Int):=by omega
   cases hin:Cr (f q) 0 255
   .go_wp2_with fail
    refine (isByte _ _).mono ?_;rintro e w1 ⟨rfl,rfl⟩;rw [hin];go_wp2;go_ret;exact ⟨Ap (Jdv hlt hin).symm,rfl⟩
   .go_wp2_with fail
    refine (isByte _ _).mono ?_;rintro e w1 ⟨rfl,rfl⟩;rw [hin];go_wp2
    go_round
    case rel =>
     refine ⟨q+1,by omega,by go_num,fun j hj=>?_⟩
     by_cases e:j=q
     .rw [e]; exact hin
     .exact Ae HO j (by omega)
    case measure=>simp [intOf]; omega
  .have hlt':¬ (q:Int)<(n:Int):=by omega
   go_wp2;go_ret;exact ⟨Ap (Nn (fun j hj=>Ae HO j (by omega))).symm,rfl⟩
def isRow (n:Nat) (f:Nat->Int) (many:Int):Bool:=decide ((n:Int)=many) && Pt n f
theorem No {n:Nat} {f:Nat->Int} {many:Int} (h:¬ (n:Int)=many):isRow n f many=false:=by unfold isRow; rw [decide_eq_false h]; rfl
theorem Gb {n:Nat} {f:Nat->Int} {many:Int} (h:(n:Int)=many):isRow n f many=Pt n f:=by unfold isRow; rw [decide_eq_true h]; rfl
theorem Rf {n:Nat} {f:Nat->Int}:D9 n f=isRow n f 256:=by
 by_cases h:n=256
 .subst h
  rw [Gb (by rfl)];exact Wo
 .rw [No (by omega),Nl h]
theorem isBytes (w:World) (F:Nat->Nat->Prop) (v:Value) (n:Nat) (f:Nat->Int) (many:Int) (H:Ints .i64 w F v n f) :
  Calls prog 60 #[v,.i many] w fun e w'=>e=.returned (.bool (isRow n f many))/\w'=w:=by
 have H0:=H;obtain ⟨a,cap,rfl,hn,-,-⟩:=H
 by_cases h:(n:Int)=many
 .have h':((n:Int)==many)=true:=by simpa using h
  have HE:=Ac (Gb (f:=f) h);clear h
  go_enter func60,ntmps60
  go_wp2_with fail;refine (Tz _ F _ n f H0).mono ?_;rintro e w1 ⟨rfl,rfl⟩;go_wp2;go_ret;exact ⟨Ap HE.out.symm,rfl⟩
 .have h':((n:Int)==many)=false:=by simpa using h
  have HE:=Ac (No (f:=f) h);clear h
  go_enter func60,ntmps60
  go_wp2;go_ret;exact ⟨Ap HE.out.symm,rfl⟩
theorem Np {m:Nat} {ln:Nat->Nat} {f:Nat->Nat->Int} (h:¬ (1<=m/\m<=8)):Fp m ln f=false:=decide_eq_false (fun x=>h x.2)
theorem Zj {m:Nat} {ln:Nat->Nat} {f:Nat->Nat->Int} (h:∀ i,i<m->D9 (ln i) (f i)=true) (h1:1<=m) (h8:m<=8):Fp m ln f=true:=decide_eq_true ⟨h,h1,h8⟩
theorem T7 (w:World) (F:Nat->Nat->Prop) (v:Value) (m:Nat) (ln:Nat->Nat) (f:Nat->Nat->Int) (H:Bg .i64 w F v m ln f) :
  Calls prog 59 #[.agg #[v]] w fun e w'=>e=.returned (.bool (Fp m ln f))/\Below w.heap.size w w':=by
 have L0:Below w.heap.size w (w.al #[v] 26):=(Below.refl _ _).alloc (Nat.le_refl _) _;have H0:=H.keep (Aa L0 Aj) (fun _ _ _ x=>x);obtain ⟨a,cap,rfl,hm,-,hc⟩:=H0
 by_cases h1:1<=m
 .by_cases h8:m<=8
  .go_enter func59,ntmps59
   have h1':¬ (m:Int)<1:=by omega
   have h8':¬ (8:Int)<m:=by omega
   go_wp2
   go_loop [18] (fun i=>∃ q:Nat,q<=m/\i=.i q/\∀ i,i<q->D9 (ln i) (f i)=true) (fun i=>m-(intOf i).toNat)
   case atStart=>exact ⟨0,Nat.zero_le _,rfl,fun i hi=>absurd hi (Nat.not_lt_zero _)⟩
   case round =>
    obtain ⟨q,hq,rfl,hok⟩:=hrel;have HO:=Ac hok;clear hok
    by_cases hlt:q<m
    .obtain ⟨b,off,u,rfl,hcell,a',cap',rfl,hn',hrow,-⟩:=hc q hlt
     have hlt':(q:Int)<(m:Int):=by omega
     have EA:=Ac (Rf (n:=ln q) (f:=f q));cases hin:isRow (ln q) (f q) 256
     .go_wp2_with fail
      refine (isBytes _ (fun _ _=>True) _ (ln q) (f q) 256 ⟨_,_,rfl,hn',hrow,fun _ _ _=>trivial⟩).mono ?_;rintro e w1 ⟨rfl,rfl⟩;rw [hin];go_wp2;go_ret;exact ⟨Ap (Nm hlt ((Ae EA).trans hin)).symm,L0⟩
     .go_wp2_with fail
      refine (isBytes _ (fun _ _=>True) _ (ln q) (f q) 256 ⟨_,_,rfl,hn',hrow,fun _ _ _=>trivial⟩).mono ?_;rintro e w1 ⟨rfl,rfl⟩;rw [hin];go_wp2
      go_round
      case rel=>exact ⟨q+1,by omega,by go_num,Tx (Ae HO) ((Ae EA).trans hin)⟩
      case measure=>simp [intOf]; omega
    .have hlt':¬ (q:Int)<(m:Int):=by omega
     have e:q=m:=by omega
     subst e;go_wp2;go_ret;exact ⟨Ap (Zj (Ae HO) (by omega) (by omega)).symm,L0⟩
  .have HI:=Ac (Np (ln:=ln) (f:=f) (m:=m) (by omega))
   have h1':¬ (m:Int)<1:=by omega
   have h8':(8:Int)<m:=by omega
   go_enter func59,ntmps59
   go_wp2;go_ret;exact ⟨Ap (Ae HI).symm,L0⟩
 .have HI:=Ac (Np (ln:=ln) (f:=f) (m:=m) (by omega))
  have h1':(m:Int)<1:=by omega
  go_enter func59,ntmps59
  go_wp2;go_ret;exact ⟨Ap (Ae HI).symm,L0⟩
set_option linter.unusedVariables false
set_option linter.unusedSimpArgs false
def putAt (cs:Array Value) (o:Nat) (vs:Array Value):Array Value:=(cs.toList.take o++vs.toList++cs.toList.drop (o+vs.size)).toArray
theorem Kd {cs vs:Array Value} {o:Nat} (h:o+vs.size<=cs.size):(putAt cs o vs).size=cs.size:=by
 unfold putAt;simp only [List.size_toArray,List.length_append,List.length_take,List.length_drop,Array.length_toList]
 omega
section
variable {P:Program}
theorem Lq (w:World) (g o:Nat) (t ty:TypeId) (old cells:Array Value) (hg:w.heap[g]?=some (.cells old t (0,0))) (hi:(P.info? ty).map (·.size)=some cells.size)
  (ho:o+cells.size<=old.size) (h1:cells.all (·.oneCell')=true) :
  (storeVar ty ⟨g,o,none⟩ (.agg cells)).run P w=.ok () (w.setRow g (putAt old o cells)):=by
 have:=run_storeCells_at (P:=P) g o t cells.toList 0 old w hg (by simp; omega) (fun v hv=>(Array.all_eq_true_iff_forall_mem.1 h1) v (by simpa using hv));simp only [Nat.add_zero,Array.length_toList] at this;have this':(storeCells ⟨g,o,none⟩ cells.toList 0).run P w=.ok () (w.setRow g (putAt old o cells)):=this
 cases hq:P.info? ty with
 | none=>simp [hq] at hi
 | some i =>
  have hs:cells.size=i.size:=by simp [hq] at hi; omega
  simp [storeVar,sizeOf,typeInfo,hq,Value.cells,hs,this']
theorem E5 (w:World) (g o:Nat) (t ty:TypeId) (cs part:Array Value) (fr:Nat × Nat) (d:TypeDesc) (hg:w.heap[g]?=some (.cells cs t fr)) (hp:∀ j v,part[j]?=some v->cs[o+j]?=some v)
  (hu:P.underlying ty=some d) (hd:(match d with | .struct _ | .array _ _=>true | _=>false)=true) (hi:(P.info? ty).map (·.size)=some part.size) :
  (loadVar ty ⟨g,o,none⟩).run P w=.ok (.agg part) w:=by
 have hl:(loadCells ⟨g,o,none⟩ part.toList.length).run P w=.ok part.toList.toArray w :=
  run_loadCells_list (P:=P) w ⟨g,o,none⟩ part.toList (fun j v hv=>by
   have hadd:(⟨g,o,none⟩:Addr).add j=⟨g,o+j,none⟩:=by unfold Addr.add; split <;> simp_all
   rw [hadd,cell_of_row w g (o+j) cs t fr hg]
   exact hp j v (by simpa using hv))
 cases hq:P.info? ty with
 | none=>simp [hq] at hi
 | some i =>
  have hs:i.size=part.size:=by simpa [hq] using hi
  have hagg:(isAgg ty).run P w=.ok true w:=by
   unfold isAgg;rw [Sem.run_bind,run_underlying hu w]
   cases d <;> simp_all
  simp only [Array.length_toList,Array.toArray_toList] at hl
  simp [loadVar,Sem.run_bind,hagg,sizeOf,typeInfo,hq,hs,hl]
theorem Lr {o:Oper} {a:Act} {w:World} {K:Act->World->Prop} {Q:Exit->Act->World->Prop} (ty:TypeId) (x:Operand) (ho:o.op=.load ty x)
  (g off:Nat) (hx:a.eval x=(pt g off)) (t:TypeId) (cs part:Array Value) (fr:Nat × Nat) (d:TypeDesc) (hg:w.heap[g]?=some (.cells cs t fr)) (hp:∀ j v,part[j]?=some v->cs[off+j]?=some v)
  (hu:P.underlying ty=some d) (hd:(match d with | .struct _ | .array _ _=>true | _=>false)=true) (hi:(P.info? ty).map (·.size)=some part.size)
  (h:K (a.put o.dst (.agg part)) w):o.wp P a w K Q:=by
 unfold Oper.wp execOp;simp only [ho,hx,Instr.loadAt,Instr.sureAddr,Sem.run_bind,Sem.run_pure,Result.andThen_ok,E5 w g off t ty cs part fr d hg hp hu hd hi];exact h
theorem Ba {ops:Array Oper} {rest:List Oper} {o:Oper} {a:Act} {w:World} {Q:Exit->Act->World->Prop} (hgd:o.guard=none) (ty:TypeId) (x:Operand) (ho:o.op=.load ty x)
  (g off:Nat) (hx:a.eval x=(pt g off)) (t:TypeId) (cs part:Array Value) (fr:Nat × Nat) (d:TypeDesc) (hg:w.heap[g]?=some (.cells cs t fr)) (hp:∀ j v,part[j]?=some v->cs[off+j]?=some v)
  (hu:P.underlying ty=some d) (hd:(match d with | .struct _ | .array _ _=>true | _=>false)=true) (hi:(P.info? ty).map (·.size)=some part.size)
  (h:wpList P ops Q rest (a.put o.dst (.agg part)) w):wpList P ops Q (o :: rest) a w :=
 wpList_plain hgd fun _ hK=>Lr ty x ho g off hx t cs part fr d hg hp hu hd hi (hK _ _ h)
theorem Bb {o:Oper} {a:Act} {w:World} {K:Act->World->Prop} {Q:Exit->Act->World->Prop} (ty:TypeId) (x y:Operand) (ho:o.op=.store ty x y)
  (g off:Nat) (cells:Array Value) (hx:a.eval x=(pt g off)) (hy:a.eval y=.agg cells)
  (t:TypeId) (old:Array Value) (hg:w.heap[g]?=some (.cells old t (0,0))) (hi:(P.info? ty).map (·.size)=some cells.size)
  (hold:off+cells.size<=old.size) (h1:cells.all (·.oneCell')=true)
  (h:K (a.put o.dst undef) (w.setRow g (putAt old off cells))):o.wp P a w K Q:=by
 unfold Oper.wp execOp;simp only [ho,hx,hy,Instr.storeAt,Instr.sureAddr,Sem.run_bind,Sem.run_pure,Result.andThen_ok,Lq w g off t ty old cells hg hi hold h1];exact h
theorem Be {ops:Array Oper} {rest:List Oper} {o:Oper} {a:Act} {w:World} {Q:Exit->Act->World->Prop} (hgd:o.guard=none) (ty:TypeId) (x y:Operand) (ho:o.op=.store ty x y)
  (g off:Nat) (cells:Array Value) (hx:a.eval x=(pt g off)) (hy:a.eval y=.agg cells)
  (t:TypeId) (old:Array Value) (hg:w.heap[g]?=some (.cells old t (0,0))) (hi:(P.info? ty).map (·.size)=some cells.size)
  (hold:off+cells.size<=old.size) (h1:cells.all (·.oneCell')=true)
  (h:wpList P ops Q rest (a.put o.dst undef) (w.setRow g (putAt old off cells))):wpList P ops Q (o :: rest) a w :=
 wpList_plain hgd fun _ hK=>Bb ty x y ho g off cells hx hy t old hg hi hold h1 (hK _ _ h)
end
open Go.Proofs.Tryz
theorem Nw (w:World):Calls prog 104 #[] w fun e w'=>∃ q,e=.returned (.agg #[q,.i 0])/\Ao w' w.heap.size q 512 (fun _=>0)/\Below w.heap.size w w':=by
 obtain ⟨ob,hmk,hrow⟩:∃ ob:Obj,(∀ W:World,(Instr.makeSlice 27 (.i 512) (.i 512)).run prog W=.ok (.sl W.heap.size 0 512 512) (W.alloc ob))/\Hid (∀ W:World,(W.alloc ob).rowIs W.heap.size 3 512 (fun _=>.i 0)) :=
  ⟨_,run_make_row' (P:=prog) 27 3 (.i 0) 8 underlying27 Gp rfl .i64 .i64 512 (by omega) (by omega),fun W=>World.rowIs_made W _ _ _⟩
 have hr:=Ac (hrow.out (w.al #[.sl (w.heap.size+1) 0 512 512,.i 0] 29));have L0:Below w.heap.size w ((w.al #[.sl (w.heap.size+1) 0 512 512,.i 0] 29).alloc ob):=((Below.refl _ _).alloc (Nat.le_refl _) _).alloc (by simp) _
 go_enter func104,ntmps104
 go_wp2;have hr':=Ae hr;simp only [World.size_alloc] at hr'
 have O0:Ao ((w.al #[.sl (w.heap.size+1) 0 512 512,.i 0] 29).alloc ob) (w.heap.size+1) (.sl (w.heap.size+1) 0 512 512) 512 (fun _=>0):=by
  refine ⟨_,_,rfl,by omega,Qp hr',fun b o ⟨off,e,_,_⟩=>?_,fun b o ⟨off,e,_,_⟩=>?_⟩
  .simp only [Option.some.injEq,Addr.mk.injEq] at e
   obtain ⟨rfl,-,-⟩:=e;exact ⟨hr'.lt,hr'.frozen _⟩
  .simp only [Option.some.injEq,Addr.mk.injEq] at e
   obtain ⟨rfl,-,-⟩:=e
   omega
 refine bodyPost_ret (v:=.agg #[.sl (w.heap.size+1) 0 512 512,.i 0]) (by simp [results,results104,go_sem]) rfl ?_;exact ⟨_,rfl,O0.mono (by omega),L0⟩
def Dg (V:Nat->Value) (i:Nat) (v:Value):Nat->Value:=fun k=>if k=i then v else V k
theorem Ai (V:Nat->Value) (i:Nat) (v:Value):Dg V i v i=v:=if_pos rfl
theorem Ar (V:Nat->Value) {i k:Nat} (v:Value) (h:k≠i):Dg V i v k=V k:=if_neg h
section
variable {P:Program} {ops:Array Oper} {Q:Exit->Act->World->Prop}
theorem Ji {id:Nat} {a:Act} {w:World} (ds:List (Option Nat)) (hm:P.follows .mixedOrders=true) (hb:Mx ops=true) (hg:N4 ops=true) (hd:Kw ops ds=true) (hsz:∀ d,d∈slotsOf ds->d<a.tmps.size)
  (R:Nat->Nat->Nat->Prop) (φ:Nat->(Nat->Value)->Nat->Nat->World->Prop)
  (hstab:∀ i j o V x lo hi W W',i≠j->ops[i]?=some o->A0 o j=false->w.heap.size<=lo->hi<=W.heap.size->Wrote (R j) W W'->φ i V lo hi W->φ i (Dg V j x) lo hi W')
  (hstep:∀ i o a' W K,ops[i]?=some o->Fr (slotsOf ds) a a'->Wrote (fun b o'=>∃ j oj,j≠i/\ops[j]?=some oj/\A0 oj i=false/\R j b o') w W->(∀ j,A0 o j=true->∃ lo hi,w.heap.size<=lo/\hi<=W.heap.size/\φ j (Bi ds a') lo hi W)->(∀ v W',Wrote (R i) W W'->φ i (Dg (Bi ds a') i (if o.dst=none then undef else v)) W.heap.size W'.heap.size W'->K (a'.put o.dst v) W')->o.wp P a' W K Q)
  (hend:∀ a' W,Fr (slotsOf ds) a a'->Wrote (fun b o=>∃ j,R j b o) w W->(lo hi:Nat->Nat)->(∀ i,i<ops.size->w.heap.size<=lo i/\lo i<=hi i/\hi i<=W.heap.size/\φ i (Bi ds a') (lo i) (hi i) W)->(∀ i j,i<ops.size->j<ops.size->i≠j->hi i<=lo j\/hi j<=lo i)->Q .normal a' W):(Code.region id ops true).wp P Q a w:=by
 unfold Kw at hd;simp only [Bool.and_eq_true,decide_eq_true_eq] at hd;obtain ⟨⟨hlen,hd1⟩,hd2⟩:=hd
 have hgo:∀ (i:Nat) (o:Oper),ops[i]?=some o->o.guard=none:=fun i o ho=>by
  have h1:=(Array.all_eq_true_iff_forall_mem.1 hg) o (Array.mem_of_getElem? ho)
  simpa using h1
 have hlt:∀ (i:Nat) (o:Oper),ops[i]?=some o->i<ops.size:=fun i o ho=>by
  rcases Nat.lt_or_ge i ops.size with h | h
  .exact h
  .rw [Array.getElem?_eq_none h] at ho; cases ho
 have hdst:∀ (i:Nat) (o:Oper),ops[i]?=some o->ds[i]?=some o.dst:=fun i o ho=>by
  have h1:=List.all_eq_true.1 hd1 i (List.mem_range.2 (by rw [hlen]; exact hlt i o ho));rw [ho] at h1;simp only [Option.map_some,Option.getD_some,beq_iff_eq] at h1;exact h1.symm
 have hne:∀ i j d,i≠j->ds[i]?=some (some d)->ds[j]?≠some (some d):=fun i j d h hi hj=>by
  have li:i<ds.length:=by rcases Nat.lt_or_ge i ds.length with x | x; exact x; (rw [List.getElem?_eq_none x] at hi; cases hi)
  have lj:j<ds.length:=by rcases Nat.lt_or_ge j ds.length with x | x; exact x; (rw [List.getElem?_eq_none x] at hj; cases hj)
  have h1:=List.all_eq_true.1 (List.all_eq_true.1 hd2 i (List.mem_range.2 li)) j (List.mem_range.2 lj);rw [hi,hj] at h1
  simp at h1
  exact h h1
 refine E6 hm hb (fun _ l a' W=>Fr (slotsOf ds) a a'/\Wrote (fun b o=>∃ j,l[j]?=some true/\R j b o) w W/\(∀ (k:Nat) (o:Oper),l[k]?=some true->ops[k]?=some o->∀ j:Nat,A0 o j=true->l[j]?=some true)/\∃ lo hi:Nat->Nat,(∀ i:Nat,l[i]?=some true->w.heap.size<=lo i/\lo i<=hi i/\hi i<=W.heap.size/\φ i (Bi ds a') (lo i) (hi i) W)/\∀ i j:Nat,l[i]?=some true->l[j]?=some true->i≠j->hi i<=lo j\/hi j<=lo i) ?_ ?_ ?_
 .have hno:∀ i:Nat,(Array.replicate ops.size false)[i]?≠some true:=fun i h=>by
   rcases Nat.lt_or_ge i ops.size with x | x
   .simp [x] at h
   .rw [Array.getElem?_eq_none (by simpa using x)] at h; cases h
  exact ⟨⟨rfl,rfl,fun _ _=>rfl⟩,⟨rfl,rfl,rfl,Nat.le_refl _,fun _ _ _=>rfl,fun _ _ _ _=>rfl,fun _ _ _=>rfl⟩,fun k _ h=>absurd h (hno k),fun _=>0,fun _=>0,fun i h=>absurd h (hno i),fun i _ h=>absurd h (hno i)⟩
 .rintro l a' W i o K hl ⟨F,L,hcl,lo,hi',hφ,hdj⟩ ho hf ha hK
  have hi:=hlt i o ho;have hdi:=hdst i o ho
  have hdone:∀ j,l[j]?=some true->∀ b o,R j b o->∃ j oj,j≠i/\ops[j]?=some oj/\A0 oj i=false/\R j b o:=fun j h1 b o h2=>by
   have hjl:j<ops.size:=by
    rcases Nat.lt_or_ge j ops.size with x | x
    .exact x
    .rw [Array.getElem?_eq_none (by omega)] at h1; cases h1
   have hjo:ops[j]?=some ops[j]:=Array.getElem?_eq_getElem hjl;refine ⟨j,ops[j],(fun e=>by rw [e,hf] at h1; cases h1),hjo,?_,h2⟩;cases hw:A0 ops[j] i
   .rfl
   .have:=hcl j _ h1 hjo i hw
    rw [hf] at this; cases this
  refine Ii ho (hgo i o ho) (hstep i o a' W K ho F (L.mono (fun b o _ ⟨j,h1,h2⟩=>hdone j h1 b o h2)) (fun j hj=>⟨lo j,hi' j,(hφ j (Cw ha hj)).1,(hφ j (Cw ha hj)).2.2⟩) (fun v W' hW hv=>hK _ _ ?_))
  have hset:(l.setIfInBounds i true)[i]?=some true:=by simp [hl,hi]
  have hval:Bi ds (a'.put o.dst v)=Dg (Bi ds a') i (if o.dst=none then undef else v):=by
   funext k
   by_cases e:k=i
   .subst e
    rw [Ai]
    cases e:o.dst with
    | none =>
     rw [e] at hdi;unfold Bi;rw [hdi]
     simp
    | some d =>
     rw [e] at hdi;have hmem:d∈slotsOf ds:=List.mem_filterMap.2 ⟨some d,List.mem_of_getElem? hdi,rfl⟩;unfold Bi;rw [hdi]
     simpa using Fa (by rw [F.size]; exact hsz d hmem)
   .rw [Ar _ _ e]
    cases e2:o.dst with
    | none=>rfl
    | some d =>
     rw [e2] at hdi;unfold Bi
     cases e3:ds[k]? with
     | none=>rfl
     | some x =>
      cases x with
      | none=>rfl
      | some d' =>
       have:d≠d':=fun x=>hne k i d' e e3 (by rw [hdi,x])
       exact Eq this
  have hne':∀ k,(l.setIfInBounds i true)[k]?=some true->k≠i->l[k]?=some true:=fun k hk e=>by rw [Array.getElem?_setIfInBounds_ne (by omega)] at hk; exact hk
  refine ⟨?_,(L.mono (fun b o _ ⟨j,h1,h2⟩=>⟨j,by rw [Array.getElem?_setIfInBounds_ne (fun e=>by rw [<- e,hf] at h1; cases h1)]; exact h1,h2⟩)).trans (hW.mono (fun b o _ h=>⟨i,hset,h⟩)),fun k o' hk hko j hj=>?_,fun k=>if k=i then W.heap.size else lo k,fun k=>if k=i then W'.heap.size else hi' k,fun k hk=>?_,fun k k' hk hk' hkk=>?_⟩
  .cases e:o.dst with
   | none=>exact F
   | some d =>
    rw [e] at hdi;exact F.put (List.mem_filterMap.2 ⟨some d,List.mem_of_getElem? hdi,rfl⟩) v
  .have h1:l[j]?=some true:=by
    by_cases e:k=i
    .subst e
     rw [ho] at hko;obtain rfl:=Option.some.inj hko;exact Cw ha hj
    .rw [Array.getElem?_setIfInBounds_ne (by omega)] at hk
     exact hcl k o' hk hko j hj
   by_cases e:j=i
   .rw [e]; exact hset
   .rw [Array.getElem?_setIfInBounds_ne (by omega)]; exact h1
  .rw [hval]
   by_cases e:k=i
   .subst e
    simp only [if_true];exact ⟨L.size,hW.size,Nat.le_refl _,hv⟩
   .simp only [if_neg e]
    rw [Array.getElem?_setIfInBounds_ne (by omega)] at hk;obtain ⟨g1,g2,g3,g4⟩:=hφ k hk;refine ⟨g1,g2,Nat.le_trans g3 hW.size,?_⟩
    have hkl:k<ops.size:=by
     rcases Nat.lt_or_ge k ops.size with x | x
     .exact x
     .rw [Array.getElem?_eq_none (by omega)] at hk; cases hk
    have hko:ops[k]?=some ops[k]:=Array.getElem?_eq_getElem hkl
    have hnw:A0 ops[k] i=false:=by
     cases hw:A0 ops[k] i
     .rfl
     .have:=hcl k _ hk hko i hw
      rw [hf] at this; cases this
    exact hstab k i _ _ _ _ _ W W' e hko hnw g1 g3 hW g4
  .by_cases e:k=i
   .have e':k'≠i:=fun x=>hkk (e.trans x.symm)
    simp only [if_pos e,if_neg e'];exact Or.inr (hφ k' (hne' k' hk' e')).2.2.1
   .by_cases e':k'=i
    .simp only [if_neg e,if_pos e']
     exact Or.inl (hφ k (hne' k hk e)).2.2.1
    .simp only [if_neg e,if_neg e']
     exact hdj k k' (hne' k hk e) (hne' k' hk' e') hkk
 .rintro l a' W hall ⟨F,L,-,lo,hi',hφ,hdj⟩
  exact hend a' W F (L.mono (fun b o _ ⟨j,_,h2⟩=>⟨j,h2⟩)) lo hi' (fun i hi=>hφ i (hall i hi)) (fun i j hi hj=>hdj i j (hall i hi) (hall j hj))
end
def Jfb (ops:Array Oper) (n:Nat):Bool:=decide (ops.size=n+1) && ((ops[n]?).map fun o=>(List.range n).all fun j=>A0 o j).getD false
section
variable {P:Program} {ops:Array Oper} {Q:Exit->Act->World->Prop}
theorem Oj {id:Nat} {a:Act} {w:World} (n:Nat) (ds:List (Option Nat)) (hm:P.follows .mixedOrders=true) (hb:Mx ops=true) (hg:N4 ops=true) (hl:Jfb ops n=true) (hd:Kw ops ds=true) (hsz:∀ d,d∈slotsOf ds->d<a.tmps.size)
  (R:Nat->Nat->Nat->Prop) (φ:Nat->(Nat->Value)->Nat->Nat->World->Prop)
  (hstab:∀ i j o V x lo hi W W',i≠j->i<n->j<n->ops[i]?=some o->A0 o j=false->w.heap.size<=lo->hi<=W.heap.size->Wrote (R j) W W'->φ i V lo hi W->φ i (Dg V j x) lo hi W')
  (hstep:∀ i o a' W K,i<n->ops[i]?=some o->Fr (slotsOf ds) a a'->Wrote (fun b o'=>∃ j oj,j≠i/\ops[j]?=some oj/\A0 oj i=false/\R j b o') w W->(∀ j,A0 o j=true->∃ lo hi,w.heap.size<=lo/\hi<=W.heap.size/\φ j (Bi ds a') lo hi W)->(∀ v W',Wrote (R i) W W'->φ i (Dg (Bi ds a') i (if o.dst=none then undef else v)) W.heap.size W'.heap.size W'->K (a'.put o.dst v) W')->o.wp P a' W K Q)
  (hlast:∀ o a' W K,ops[n]?=some o->Fr (slotsOf ds) a a'->Wrote (fun b o=>∃ j,R j b o) w W->(lo hi:Nat->Nat)->(∀ i,i<n->w.heap.size<=lo i/\lo i<=hi i/\hi i<=W.heap.size/\φ i (Bi ds a') (lo i) (hi i) W)->(∀ i j,i<n->j<n->i≠j->hi i<=lo j\/hi j<=lo i)->(∀ v W',Q .normal (a'.put o.dst v) W'->K (a'.put o.dst v) W')->o.wp P a' W K Q):(Code.region id ops true).wp P Q a w:=by
 unfold Jfb at hl;simp only [Bool.and_eq_true,decide_eq_true_eq] at hl;obtain ⟨hn,hl⟩:=hl;unfold Kw at hd;simp only [Bool.and_eq_true,decide_eq_true_eq] at hd;obtain ⟨⟨hlen,hd1⟩,hd2⟩:=hd
 have hgo:∀ (i:Nat) (o:Oper),ops[i]?=some o->o.guard=none:=fun i o ho=>by
  have h1:=(Array.all_eq_true_iff_forall_mem.1 hg) o (Array.mem_of_getElem? ho)
  simpa using h1
 have hlt:∀ (i:Nat) (o:Oper),ops[i]?=some o->i<ops.size:=fun i o ho=>by
  rcases Nat.lt_or_ge i ops.size with h | h
  .exact h
  .rw [Array.getElem?_eq_none h] at ho; cases ho
 have hdst:∀ (i:Nat) (o:Oper),ops[i]?=some o->ds[i]?=some o.dst:=fun i o ho=>by
  have h1:=List.all_eq_true.1 hd1 i (List.mem_range.2 (by rw [hlen]; exact hlt i o ho));rw [ho] at h1;simp only [Option.map_some,Option.getD_some,beq_iff_eq] at h1;exact h1.symm
 have hne:∀ i j d,i≠j->ds[i]?=some (some d)->ds[j]?≠some (some d):=fun i j d h hi hj=>by
  have li:i<ds.length:=by rcases Nat.lt_or_ge i ds.length with x | x; exact x; (rw [List.getElem?_eq_none x] at hi; cases hi)
  have lj:j<ds.length:=by rcases Nat.lt_or_ge j ds.length with x | x; exact x; (rw [List.getElem?_eq_none x] at hj; cases hj)
  have h1:=List.all_eq_true.1 (List.all_eq_true.1 hd2 i (List.mem_range.2 li)) j (List.mem_range.2 lj);rw [hi,hj] at h1
  simp at h1
  exact h h1
 have hlw:((ops[n]?).map fun o=>(List.range n).all fun j=>A0 o j).getD false=true:=hl;refine E6 hm hb (fun _ l a' W=>((∀ i,i<ops.size->l[i]?=some true)/\Q .normal a' W)\/(l[n]?=some false/\Fr (slotsOf ds) a a'/\Wrote (fun b o=>∃ j,l[j]?=some true/\R j b o) w W/\(∀ (k:Nat) (o:Oper),l[k]?=some true->ops[k]?=some o->∀ j:Nat,A0 o j=true->l[j]?=some true)/\∃ lo hi:Nat->Nat,(∀ i:Nat,l[i]?=some true->w.heap.size<=lo i/\lo i<=hi i/\hi i<=W.heap.size/\φ i (Bi ds a') (lo i) (hi i) W)/\∀ i j:Nat,l[i]?=some true->l[j]?=some true->i≠j->hi i<=lo j\/hi j<=lo i)) ?_ ?_ ?_
 .have hno:∀ i:Nat,(Array.replicate ops.size false)[i]?≠some true:=fun i h=>by
   rcases Nat.lt_or_ge i ops.size with x | x
   .simp [x] at h
   .rw [Array.getElem?_eq_none (by simpa using x)] at h; cases h
  exact Or.inr ⟨by simp [hn],⟨rfl,rfl,fun _ _=>rfl⟩,⟨rfl,rfl,rfl,Nat.le_refl _,fun _ _ _=>rfl,fun _ _ _ _=>rfl,fun _ _ _=>rfl⟩,fun k _ h=>absurd h (hno k),fun _=>0,fun _=>0,fun i h=>absurd h (hno i),fun i _ h=>absurd h (hno i)⟩
 .rintro l a' W i o K hl hJ ho hf ha hK
  rcases hJ with ⟨hall,-⟩ | ⟨hnf,F,L,hcl,lo,hi',hφ,hdj⟩
  .rw [hall i (hlt i o ho)] at hf; cases hf
  by_cases hin:i=n
  .subst hin
   rw [ho] at hlw
   have hdone:∀ j,j<i->l[j]?=some true:=fun j hj=>Cw ha (List.all_eq_true.1 hlw j (List.mem_range.2 hj))
   refine Ii ho (hgo i o ho) (hlast o a' W K ho F (L.mono (fun b o _ ⟨j,_,h2⟩=>⟨j,h2⟩)) lo hi' (fun k hk=>hφ k (hdone k hk)) (fun k k' hk hk'=>hdj k k' (hdone k hk) (hdone k' hk')) (fun v W' hq=>hK _ _ (Or.inl ⟨fun k hk=>?_,hq⟩)))
   by_cases e:k=i
   .rw [e,Array.getElem?_setIfInBounds,if_pos rfl,if_pos (by omega)]
   .rw [Array.getElem?_setIfInBounds_ne (by omega)]; exact hdone k (by omega)
  have hin':i<n:=by have:=hlt i o ho; omega
  have hi:=hlt i o ho;have hdi:=hdst i o ho
  have hdone:∀ j,l[j]?=some true->∀ b o,R j b o->∃ j oj,j≠i/\ops[j]?=some oj/\A0 oj i=false/\R j b o:=fun j h1 b o h2=>by
   have hjl:j<ops.size:=by
    rcases Nat.lt_or_ge j ops.size with x | x
    .exact x
    .rw [Array.getElem?_eq_none (by omega)] at h1; cases h1
   have hjo:ops[j]?=some ops[j]:=Array.getElem?_eq_getElem hjl;refine ⟨j,ops[j],(fun e=>by rw [e,hf] at h1; cases h1),hjo,?_,h2⟩;cases hw:A0 ops[j] i
   .rfl
   .have:=hcl j _ h1 hjo i hw
    rw [hf] at this; cases this
  refine Ii ho (hgo i o ho) (hstep i o a' W K hin' ho F (L.mono (fun b o _ ⟨j,h1,h2⟩=>hdone j h1 b o h2)) (fun j hj=>⟨lo j,hi' j,(hφ j (Cw ha hj)).1,(hφ j (Cw ha hj)).2.2⟩) (fun v W' hW hv=>hK _ _ ?_))
  have hset:(l.setIfInBounds i true)[i]?=some true:=by simp [hl,hi]
  have hval:Bi ds (a'.put o.dst v)=Dg (Bi ds a') i (if o.dst=none then undef else v):=by
   funext k
   by_cases e:k=i
   .subst e
    rw [Ai]
    cases e:o.dst with
    | none =>
     rw [e] at hdi;unfold Bi;rw [hdi]
     simp
    | some d =>
     rw [e] at hdi;have hmem:d∈slotsOf ds:=List.mem_filterMap.2 ⟨some d,List.mem_of_getElem? hdi,rfl⟩;unfold Bi;rw [hdi]
     simpa using Fa (by rw [F.size]; exact hsz d hmem)
   .rw [Ar _ _ e]
    cases e2:o.dst with
    | none=>rfl
    | some d =>
     rw [e2] at hdi;unfold Bi
     cases e3:ds[k]? with
     | none=>rfl
     | some x =>
      cases x with
      | none=>rfl
      | some d' =>
       have:d≠d':=fun x=>hne k i d' e e3 (by rw [hdi,x])
       exact Eq this
  have hne':∀ k,(l.setIfInBounds i true)[k]?=some true->k≠i->l[k]?=some true:=fun k hk e=>by rw [Array.getElem?_setIfInBounds_ne (by omega)] at hk; exact hk
  refine Or.inr ⟨by rw [Array.getElem?_setIfInBounds_ne hin]; exact hnf,?_,(L.mono (fun b o _ ⟨j,h1,h2⟩=>⟨j,by rw [Array.getElem?_setIfInBounds_ne (fun e=>by rw [<- e,hf] at h1; cases h1)]; exact h1,h2⟩)).trans (hW.mono (fun b o _ h=>⟨i,hset,h⟩)),fun k o' hk hko j hj=>?_,fun k=>if k=i then W.heap.size else lo k,fun k=>if k=i then W'.heap.size else hi' k,fun k hk=>?_,fun k k' hk hk' hkk=>?_⟩
  .cases e:o.dst with
   | none=>exact F
   | some d =>
    rw [e] at hdi;exact F.put (List.mem_filterMap.2 ⟨some d,List.mem_of_getElem? hdi,rfl⟩) v
  .have h1:l[j]?=some true:=by
    by_cases e:k=i
    .subst e
     rw [ho] at hko;obtain rfl:=Option.some.inj hko;exact Cw ha hj
    .rw [Array.getElem?_setIfInBounds_ne (by omega)] at hk
     exact hcl k o' hk hko j hj
   by_cases e:j=i
   .rw [e]; exact hset
   .rw [Array.getElem?_setIfInBounds_ne (by omega)]; exact h1
  .rw [hval]
   by_cases e:k=i
   .subst e
    simp only [if_true];exact ⟨L.size,hW.size,Nat.le_refl _,hv⟩
   .simp only [if_neg e]
    rw [Array.getElem?_setIfInBounds_ne (by omega)] at hk;obtain ⟨g1,g2,g3,g4⟩:=hφ k hk;refine ⟨g1,g2,Nat.le_trans g3 hW.size,?_⟩
    have hkl:k<ops.size:=by
     rcases Nat.lt_or_ge k ops.size with x | x
     .exact x
     .rw [Array.getElem?_eq_none (by omega)] at hk; cases hk
    have hko:ops[k]?=some ops[k]:=Array.getElem?_eq_getElem hkl
    have hnw:A0 ops[k] i=false:=by
     cases hw:A0 ops[k] i
     .rfl
     .have:=hcl k _ hk hko i hw
      rw [hf] at this; cases this
    have hkn:k≠n:=fun x=>by rw [x,hnf] at hk; cases hk
    exact hstab k i _ _ _ _ _ W W' e (by omega) hin' hko hnw g1 g3 hW g4
  .by_cases e:k=i
   .have e':k'≠i:=fun x=>hkk (e.trans x.symm)
    simp only [if_pos e,if_neg e'];exact Or.inr (hφ k' (hne' k' hk' e')).2.2.1
   .by_cases e':k'=i
    .simp only [if_neg e,if_pos e']
     exact Or.inl (hφ k (hne' k hk e)).2.2.1
    .simp only [if_neg e,if_neg e']
     exact hdj k k' (hne' k hk e) (hne' k' hk' e') hkk
 .rintro l a' W hall (⟨-,hq⟩ | ⟨hnf,-⟩)
  .exact hq
  .rw [hall n (by omega)] at hnf; cases hnf
end
set_option maxHeartbeats 1000000
set_option maxRecDepth 4000
open Go.Sort
theorem Od (x m:Int) (hm:0<m):(x.tmod m<0->x.tmod m+m=x%m)/\(¬ x.tmod m<0->x.tmod m=x%m)/\-m<x.tmod m/\x.tmod m<m:=by
 have h1:=Int.emod_nonneg x (show m≠0 by omega);have h2:=Int.emod_lt_of_pos x hm
 rcases Int.le_total 0 x with h | h
 .have e:=Int.tmod_eq_emod_of_nonneg (b:=m) h
  rw [e];exact ⟨fun _=>by omega,fun _=>rfl,by omega,by omega⟩
 .have e:x.tmod m=-((-x)%m):=by
   have:=Int.neg_tmod (-x) m;rw [Int.neg_neg] at this;rw [this,Int.tmod_eq_emod_of_nonneg (by omega)]
  have k1:=Int.emod_nonneg (-x) (show m≠0 by omega);have k2:=Int.emod_lt_of_pos (-x) hm;have d1:=Int.emod_add_mul_ediv x m;have d2:=Int.emod_add_mul_ediv (-x) m;rw [e]
  have key:(-x)%m=0/\x%m=0\/(-x)%m=m-x%m:=by
   by_cases z:x%m=0
   .left
    refine ⟨?_,z⟩;have:m ∣ x:=Int.dvd_of_emod_eq_zero z;exact Int.emod_eq_zero_of_dvd (Int.dvd_neg.2 this)
   .right
    rw [Int.neg_emod]
    have hn:¬ m ∣ x:=fun hd=>z (Int.emod_eq_zero_of_dvd hd)
    rw [if_neg hn]
    omega
  rcases key with ⟨k,z⟩ | k
  .exact ⟨fun h=>by omega,fun _=>by omega,by omega,by omega⟩
  .by_cases z:(-x)%m=0
   .exact ⟨fun h=>by omega,fun _=>by omega,by omega,by omega⟩
   .exact ⟨fun h=>by omega,fun h=>by omega,by omega,by omega⟩
theorem Jf5 (x:Int) (w:World):Calls prog 64 #[.i x,.i 16] w fun e w'=>e=.returned (.i (x%16))/\w'=w:=by
 obtain ⟨h1,h2,h3,h4⟩:=Od x 16 (by omega);have HQ:=Ac (And.intro h1 h2);clear h1 h2
 by_cases hn:x.tmod 16<0
 .go_enter func64,ntmps64
  go_wp2;go_ret;exact ⟨A5 ((Ae HQ).1 hn),rfl⟩
 .go_enter func64,ntmps64
  go_wp2;go_ret;exact ⟨A5 ((Ae HQ).2 (by omega)),rfl⟩
theorem Jcl (x:Int) (w:World):Calls prog 64 #[.i x,.i 64] w fun e w'=>e=.returned (.i (x%64))/\w'=w:=by
 obtain ⟨h1,h2,h3,h4⟩:=Od x 64 (by omega);have HQ:=Ac (And.intro h1 h2);clear h1 h2
 by_cases hn:x.tmod 64<0
 .go_enter func64,ntmps64
  go_wp2;go_ret;exact ⟨A5 ((Ae HQ).1 hn),rfl⟩
 .go_enter func64,ntmps64
  go_wp2;go_ret;exact ⟨A5 ((Ae HQ).2 (by omega)),rfl⟩
theorem Jf6 (w:World) (t:Int) (t0:0<=t) (t1:t<=20000):Calls prog 66 #[.i t] w fun e w'=>e=.returned (.i (Ea t))/\w'=w:=by
 have hm:t.tmod 64=t%64:=Int.tmod_eq_emod_of_nonneg t0
 by_cases h:48<t%64
 .have HE:Hid (Ea t=0):=if_pos h
  have h':¬ t%64<=48:=by omega
  go_enter func66,ntmps66
  go_wp2;go_ret;exact ⟨A5 HE.out.symm,rfl⟩
 .have HE:Hid (Ea t=t%64):=if_neg h
  have h':t%64<=48:=by omega
  go_enter func66,ntmps66
  go_wp2;go_ret;exact ⟨A5 HE.out.symm,rfl⟩
def scr (n:Nat) (f:Nat->Int):Nat->Int:=fun i=>if i<n then f i else 0
theorem Z9 (n:Nat) (f:Nat->Int):(rowVals (min n 48) f++(rowVals 48 (fun _=>0)).drop (min n 48))=rowVals 48 (scr n f):=by
 apply List.ext_getElem?
 intro i
 by_cases h:i<min n 48
 .rw [List.getElem?_append_left (by rw [A6]; omega),Bj _ _ i h,Bj _ _ i (by omega)]
  unfold scr;rw [if_pos (by omega)]
 .rw [List.getElem?_append_right (by rw [A6]; omega),A6,List.getElem?_drop]
  by_cases k:i<48
  .rw [show min n 48+(i-min n 48)=i by omega,Bj _ _ i k,Bj _ _ i k]
   unfold scr;rw [if_neg (by omega)]
  .rw [List.getElem?_eq_none (by rw [A6]; omega),List.getElem?_eq_none (by rw [A6]; omega)]
theorem Yz:(rowVals 48 (fun _=>0)).toArray=#[.i 0,.i 0,.i 0,.i 0,.i 0,.i 0,.i 0,.i 0,.i 0,.i 0,.i 0,.i 0,.i 0,.i 0,.i 0,.i 0,.i 0,.i 0,.i 0,.i 0,.i 0,.i 0,.i 0,.i 0,.i 0,.i 0,.i 0,.i 0,.i 0,.i 0,.i 0,.i 0,.i 0,.i 0,.i 0,.i 0,.i 0,.i 0,.i 0,.i 0,.i 0,.i 0,.i 0,.i 0,.i 0,.i 0,.i 0,.i 0]:=by rfl
theorem Sn:(rowVals 48 (fun _=>0)).toArray.size=48:=by rfl
theorem below_setRow {n:Nat} {w W:World} (h:Below n w W) {g:Nat} (cs:Array Value) (hg:n<=g):Below n w (W.setRow g cs) :=
 ⟨h.os,h.tape,h.output,by rw [setRow_size]; exact h.size,fun k hk=>by rw [setRow_other _ _ _ _ (by omega)]; exact h.block k hk⟩
theorem Jg (n:Nat) (f:Nat->Int):(rowVals n f).toArray.all (·.oneCell')=true:=by
 rw [Array.all_eq_true_iff_forall_mem];intro x hx;exact Gq n f x (by simpa using hx)
theorem Im:(prog.info? 116).map (·.size)=some 48:=by kernel_rfl
theorem Jcm (w:World) (F:Nat->Nat->Prop) (u:Value) (n:Nat) (f:Nat->Int) (H:Ints .i64 w F u n f) :
  Calls prog 97 #[u] w fun e w'=>e=.returned (.agg (rowVals 48 (scr n f)).toArray)/\Below w.heap.size w w':=by
 obtain ⟨ua,ux,rfl,un,hr,-⟩:=H
 go_enter func97,ntmps97
 go_wp2;rw [<- Yz];have L0:Below w.heap.size w ((w.alloc (.cells (rowVals 48 (fun _=>0)).toArray 116)).alloc (.cells (rowVals 48 (fun _=>0)).toArray 116)):=((Below.refl _ _).alloc (Nat.le_refl _) _).alloc (by simp) _;have k0:((w.alloc (.cells (rowVals 48 (fun _=>0)).toArray 116)).alloc (.cells (rowVals 48 (fun _=>0)).toArray 116)).heap[w.heap.size]?=some (.cells (rowVals 48 (fun _=>0)).toArray 116 (0,0)):=Az (Ak w _ _) _
 have k1:((w.alloc (.cells (rowVals 48 (fun _=>0)).toArray 116)).alloc (.cells (rowVals 48 (fun _=>0)).toArray 116)).heap[w.heap.size+1]?=some (.cells (rowVals 48 (fun _=>0)).toArray 116 (0,0)):=by simpa using Ak (w.alloc (.cells (rowVals 48 (fun _=>0)).toArray 116)) (rowVals 48 (fun _=>0)).toArray 116
 replace hr:=hr.keep (Aa L0 Aj) (fun _ _ _ x=>x);generalize ((w.alloc (.cells (rowVals 48 (fun _=>0)).toArray 116)).alloc (.cells (rowVals 48 (fun _=>0)).toArray 116))=W0 at *
 obtain ⟨W1,hcp,kk0,kk1,L1⟩:∃ W1,(Builtin.copy_ #[27,27] 3 #[.sl (w.heap.size+1) 0 48 48,.slice ua n ux]).run prog W0=.ok (.i ((min n 48:Nat):Int)) W1/\W1.heap[w.heap.size]?=some (.cells (rowVals 48 (fun _=>0)).toArray 116 (0,0))/\W1.heap[w.heap.size+1]?=some (.cells (rowVals 48 (scr n f)).toArray 116 (0,0))/\Below w.heap.size w W1:=by
  by_cases hn:n=0
  .subst hn
   refine ⟨W0,?_,k0,?_,L0⟩
   .have:=run_copy_none (P:=prog) W0 27 27 3 3 (some ⟨w.heap.size+1,0,none⟩) ua 48 48 0 ux underlying27 (by kernel_rfl) (by rfl)
    exact this
   .rw [k1]
    congr 3
  .obtain ⟨rb,ro,rfl,-⟩:=hr 0 (by omega)
   have hr':=hr;have:=run_copy_row (P:=prog) W0 27 27 3 3 (w.heap.size+1) 0 48 48 ⟨rb,ro,none⟩ n ux (rowVals 48 (fun _=>0)).toArray 116 (rowVals (min n 48) f) underlying27 (by kernel_rfl) k1 (by rw [A6]) (by exact Dd (fun i hi=>hr i (by omega))) (by rw [A6,Sn]; omega) (Gq _ _);rw [A6,List.take_zero,List.nil_append,Nat.zero_add,Z9] at this;refine ⟨_,this,?_,?_,?_⟩
   .rw [setRow_other _ _ _ _ (by omega)]
    exact k0
   .exact setRow_heap _ _ _ _ _ _ k1
   .exact below_setRow L0 _ (by omega)
 simp only [hcp,Result.andThen];rw [Oper.upon_value];clear hcp hr k0 k1 L0;go_upto_region 3 with (fail);rename_i K1 h1;refine wp_region_lit ?_;refine wpList_load_row rfl _ _ rfl (w.heap.size+1) rfl _ _ _ _ kk1 underlying116 rfl Im ?_;refine wpList_store_row rfl _ _ _ rfl w.heap.size _ rfl rfl _ _ kk0 Im rfl (Jg _ _) ?_;refine h1 _ _ ?_;go_wp2;refine bodyPost_ret (v:=.agg (rowVals 48 (scr n f)).toArray) (results_cell_row (by rfl) _ _ w.heap.size _ _ _ _ rfl (setRow_heap _ _ _ _ _ _ kk0) underlying116 rfl Im) rfl ?_;exact ⟨rfl,below_setRow L1 _ (Nat.le_refl _)⟩
theorem Jel (g:Nat->Int) (q:Nat) (hq:q<48) (w:World):(Instr.index 116 (.agg (rowVals 48 g).toArray) (.i q)).run prog w=.ok (.i (g q)) w:=by
 obtain ⟨i0,hi,hz0,hz1,hz2⟩:=info_parts Gp
 have hx:(rowVals 48 g).toArray[q]?=some (.i (g q)):=by rw [Sg,Bj 48 g q hq]
 have hp:=run_part_plain (P:=prog) w (e:=3) (by kernel_rfl) (off:=q) hx
 have h2:(q:Int)<((48:Nat):Int):=by omega
 simp [Instr.index,asIntOf,run_underlying underlying116,Result.andThen,sizeOf,typeInfo,hi,hz1,hp,h2]
 intro h; omega
def J1 (q:Nat) (g:Nat->Int):Nat->Int:=fun i=>if i<q then g i%64 else g i
theorem Xd (q:Nat) (hq:q<48) (g:Nat->Int):(rowVals 48 (J1 q g)).toArray.setIfInBounds q (.i (g q%64))=(rowVals 48 (J1 (q+1) g)).toArray:=by
 rw [Sa]
 congr 1
 apply List.ext_getElem?
 intro j
 by_cases hj:j<48
 .rw [Bj 48 _ j hj]
  by_cases e:q=j
  .subst e
   rw [List.getElem?_set_self (by rw [A6]; exact hj)];unfold J1;rw [if_pos (by omega)]
  .rw [List.getElem?_set_ne e,Bj 48 _ j hj]
   unfold J1
   by_cases k:j<q
   .rw [if_pos k,if_pos (by omega)]
   .rw [if_neg k,if_neg (by omega)]
 .rw [List.getElem?_eq_none (by rw [List.length_set,A6]; omega),List.getElem?_eq_none (by rw [A6]; omega)]
theorem Jaa (g:Nat->Int):rowVals 48 (J1 48 g)=rowVals 48 (fun i=>g i%64):=List.map_congr_left (fun i hi=>by rw [J1,if_pos (List.mem_range.1 hi)])
theorem Xe (g:Nat->Int):rowVals 48 (J1 0 g)=rowVals 48 g:=List.map_congr_left (fun i hi=>by rw [J1,if_neg (by omega)])
theorem Jf7 (w:World) (g:Nat->Int):Calls prog 98 #[.agg (rowVals 48 g).toArray] w fun e w'=>e=.returned (.agg (rowVals 48 (fun i=>g i%64)).toArray)/\Below w.heap.size w w':=by
 go_enter func98,ntmps98
 go_upto_region 1 with (fail);rw [<- Yz];have L0:Below w.heap.size w ((w.alloc (.cells (rowVals 48 g).toArray 116)).alloc (.cells (rowVals 48 (fun _=>0)).toArray 116)):=((Below.refl _ _).alloc (Nat.le_refl _) _).alloc (by simp) _;have k0:((w.alloc (.cells (rowVals 48 g).toArray 116)).alloc (.cells (rowVals 48 (fun _=>0)).toArray 116)).heap[w.heap.size]?=some (.cells (rowVals 48 g).toArray 116 (0,0)):=Az (Ak w _ _) _
 have k1:((w.alloc (.cells (rowVals 48 g).toArray 116)).alloc (.cells (rowVals 48 (fun _=>0)).toArray 116)).heap[w.heap.size+1]?=some (.cells (rowVals 48 (fun _=>0)).toArray 116 (0,0)):=by simpa using Ak (w.alloc (.cells (rowVals 48 g).toArray 116)) (rowVals 48 (fun _=>0)).toArray 116
 generalize ((w.alloc (.cells (rowVals 48 g).toArray 116)).alloc (.cells (rowVals 48 (fun _=>0)).toArray 116))=W0 at *;refine wp_region_lit ?_;refine wpList_load_row rfl _ _ rfl w.heap.size rfl _ _ _ _ k0 underlying116 rfl Im ?_;go_wp2
 go_loopw [6] (fun i wr=>∃ q:Nat,q<=48/\i=.i q/\wr.heap[w.heap.size]?=some (.cells (rowVals 48 (J1 q g)).toArray 116 (0,0))/\wr.heap[w.heap.size+1]?=some (.cells (rowVals 48 (fun _=>0)).toArray 116 (0,0))/\Below w.heap.size w wr) (fun i _=>48-(intOf i).toNat)
 case atStart=>exact ⟨0,by omega,rfl,by rw [Xe]; exact k0,k1,L0⟩
 case round =>
  obtain ⟨q,hq,rfl,h0,h1,L⟩:=hrel;clear k0 k1 L0
  by_cases hlt:q<48
  .have hlt':(q:Int)<48:=by omega
   have hix:=Jel g q hlt
   have hc:wr.cell? ⟨w.heap.size,q,none⟩=some (.i (J1 q g q)):=by rw [Af h0 q,Sg,Bj 48 _ q hlt]
   have hf:=Au h0 q;go_wp2_with fail;refine (Jcl _ _).mono ?_;rintro e w1 ⟨rfl,rfl⟩;go_wp2
   go_round
   case rel =>
    refine ⟨q+1,by omega,by go_num,?_,Ce h1 (by omega),L.setCell (by simp) _⟩;have:=Am (o:=q) h0 (.i (g q%64));rw [Xd q hlt] at this;exact this
   case measure=>simp [intOf]; omega
  .have hlt':¬ (q:Int)<48:=by omega
   have hq48:q=48:=by omega
   subst hq48;rw [Jaa] at h0;clear hlt hlt' hq;go_upto_region 6 with (fail);rename_i K1 h2;refine wp_region_lit ?_;refine wpList_load_row rfl _ _ rfl w.heap.size rfl _ _ _ _ h0 underlying116 rfl Im ?_;refine wpList_store_row rfl _ _ _ rfl (w.heap.size+1) _ rfl rfl _ _ h1 Im rfl (Jg _ _) ?_;refine h2 _ _ ?_;go_wp2;refine bodyPost_ret (v:=.agg (rowVals 48 (fun i=>g i%64)).toArray) (results_cell_row (by rfl) _ _ (w.heap.size+1) _ _ _ _ rfl (setRow_heap _ _ _ _ _ _ h1) underlying116 rfl Im) rfl ?_;exact ⟨rfl,below_setRow L _ (by omega)⟩
theorem Mm {P:Program} {ops:Array Oper} {W:World} {Q:Act->Prop} {rest:List Oper} {o:Oper} {a:Act} (hw:Region.wanted o (yielded ops a.tmps)=true) (ty:TypeId) (x:Operand) (ho:o.op=.load ty x)
  (g:Nat) (hx:a.eval x=(pt g 0)) (t:TypeId) (cs:Array Value) (d:TypeDesc) (hg:W.heap[g]?=some (.cells cs t (0,0)))
  (hu:P.underlying ty=some d) (hd:(match d with | .struct _ | .array _ _=>true | _=>false)=true) (hi:(P.info? ty).map (·.size)=some cs.size)
  (h:wpQuiet P ops (fun w'=>∃ p:Regrown,w'=grow (redrawn W p.d) p.os) Q rest (a.put o.dst (.agg cs))):wpQuiet P ops (fun w'=>∃ p:Regrown,w'=grow (redrawn W p.d) p.os) Q (o :: rest) a :=
 Go.BigFrame.wpQuiet_want hw (fun K hK=>⟨.agg cs,fun w' ⟨p,e⟩=>by
  subst e;have hb:=((below_regrown W p.d p.os).block _ (Ad hg)).trans hg;unfold Oper.quietAt execOp;simp only [ho,hx,Instr.loadAt,Instr.sureAddr,Sem.run_bind,Sem.run_pure,Result.andThen_ok,run_loadVar_row _ g t ty cs (0,0) d hb hu hd hi]
  exact ⟨rfl,rfl⟩,hK _ h⟩)
theorem Qx (f g:Nat->Int) (w:World) (d:Nat):∀ is:List Nat,(∀ i,i∈is->i<48)->(Op.eqItems (d+1) 3 1 (rowVals 48 f).toArray (rowVals 48 g).toArray is).run prog w=.ok (is.all (fun i=>f i==g i)) w
 | [],_=>by simp [Op.eqItems]
 | i :: is,h=>by
  have hi:=h i (by simp);have p1:=run_part_plain (P:=prog) w (e:=3) (by kernel_rfl) (off:=i) (xs:=(rowVals 48 f).toArray) (v:=.i (f i)) (by rw [List.getElem?_toArray,Bj 48 f i hi]);have p2:=run_part_plain (P:=prog) w (e:=3) (by kernel_rfl) (off:=i) (xs:=(rowVals 48 g).toArray) (v:=.i (g i)) (by rw [List.getElem?_toArray,Bj 48 g i hi]);have ih:=Qx f g w d is (fun j hj=>h j (by simp [hj]));simp only [Op.eqItems,Sem.run_bind,Nat.mul_one,p1,p2,Result.andThen_ok,run_equalIn_int w d 3 .i64 .i64 _ _ underlying3];cases hb:f i==g i
  .simp [hb]
  .simp [hb,ih]
theorem Jg1 (f g:Nat->Int) (w:World):(binOp .eql 116 (.agg (rowVals 48 f).toArray) (.agg (rowVals 48 g).toArray)).run prog w=.ok (.bool ((List.range 48).all (fun i=>f i==g i))) w:=by
 obtain ⟨i0,hi,hz0,hz1,hz2⟩:=info_parts Gp
 have hc:prog.cellsOf 3=1:=by kernel_rfl
 rw [run_eql_struct,show (10000:Nat)=9999+1 from rfl,run_equalIn_array w 9999 _ _ underlying116 hi,hc,show (9999:Nat)=9998+1 from rfl,Qx f g w 9998 _ (fun i hi=>List.mem_range.1 hi)]
 rfl
theorem Jf8 (n:Nat) (f:Nat->Int) (hn:n<=48):(List.range 48).all (fun i=>scr n f i==scr n f i%64)=allIn n f 0 63:=by
 cases h:allIn n f 0 63
 .rw [Bool.eq_false_iff]
  intro e
  have:=Mj (n:=n) (f:=f) (lo:=0) (hi:=63) (fun j hj=>by
   have:=List.all_eq_true.1 e j (List.mem_range.2 (by omega));have e2:scr n f j=f j:=if_pos hj;rw [e2] at this;have:=eq_of_beq this
   omega)
  rw [h] at this;cases this
 .rw [List.all_eq_true]
  intro i hi;have k:=N7 h
  by_cases hlt:i<n
  .have e2:scr n f i=f i:=if_pos hlt
   have:=k i hlt;rw [e2];exact beq_iff_eq.2 (by omega)
  .have e2:scr n f i=0:=if_neg hlt
   rw [e2]
   rfl
theorem Qy (w:World) (F:Nat->Nat->Prop) (u:Value) (n:Nat) (f:Nat->Int) (many:Int) (H:Ints .i64 w F u n f) (h1:many<=48) :
  Calls prog 65 #[u,.i many] w fun e w'=>e=.returned (.bool (decide ((n:Int)=many) && allIn n f 0 63))/\Below w.heap.size w w':=by
 obtain ⟨ua,ux,rfl,un,hr,hF⟩:=H
 have H:Ints .i64 w F (.slice ua n ux) n f:=⟨_,_,rfl,un,hr,hF⟩
 clear hr hF
 go_enter func65,ntmps65
 go_wp2_with fail;refine (Jcm _ F _ n f H).mono ?_;rintro e w1 ⟨rfl,L1⟩;have hlen:(rowVals 48 (scr n f)).length=48:=A6 _ _
 have hsc:(storeCells ⟨w1.heap.size,0,none⟩ (rowVals 48 (scr n f)) 0).run prog (w1.alloc (.cells #[.i 0,.i 0,.i 0,.i 0,.i 0,.i 0,.i 0,.i 0,.i 0,.i 0,.i 0,.i 0,.i 0,.i 0,.i 0,.i 0,.i 0,.i 0,.i 0,.i 0,.i 0,.i 0,.i 0,.i 0,.i 0,.i 0,.i 0,.i 0,.i 0,.i 0,.i 0,.i 0,.i 0,.i 0,.i 0,.i 0,.i 0,.i 0,.i 0,.i 0,.i 0,.i 0,.i 0,.i 0,.i 0,.i 0,.i 0,.i 0] 116))=.ok () (w1.alloc (.cells (rowVals 48 (scr n f)).toArray 116)):=run_storeCells_new (P:=prog) w1 116 #[.i 0,.i 0,.i 0,.i 0,.i 0,.i 0,.i 0,.i 0,.i 0,.i 0,.i 0,.i 0,.i 0,.i 0,.i 0,.i 0,.i 0,.i 0,.i 0,.i 0,.i 0,.i 0,.i 0,.i 0,.i 0,.i 0,.i 0,.i 0,.i 0,.i 0,.i 0,.i 0,.i 0,.i 0,.i 0,.i 0,.i 0,.i 0,.i 0,.i 0,.i 0,.i 0,.i 0,.i 0,.i 0,.i 0,.i 0,.i 0] (rowVals 48 (scr n f)).toArray Im rfl (Jg _ _);go_upto_region 2 with (fail);clear hlen hsc
 have k0:=Ak w1 (rowVals 48 (scr n f)).toArray 116;have L2:Below w.heap.size w (w1.alloc (.cells (rowVals 48 (scr n f)).toArray 116)):=L1.alloc (L1.size) _;generalize w1.alloc (.cells (rowVals 48 (scr n f)).toArray 116)=W2 at *
 by_cases hn:(n:Int)=many
 .have hd:((n:Int)==many)=true:=by simpa using hn
  have HE:Hid ((decide ((n:Int)=many) && allIn n f 0 63)=allIn n f 0 63):=by show _=_; rw [decide_eq_true hn,Bool.true_and]
  have hS:=Jf8 n f (by omega);have hE:=Jg1 (scr n f) (fun i=>scr n f i%64);rw [hS] at hE;clear hS;refine wp_region_quiet_below (by kernel_rfl) (by kernel_rfl) ?_
  iterate 5 (quiet_step (fail))
  iterate 2 (refine Mm (by kernel_rfl) _ _ rfl w1.heap.size rfl _ _ _ k0 underlying116 rfl Im ?_)
  quiet_step ((go_at_call 98; exact Calls.regrown_of (Jf7 _ _)))
  iterate 3 (quiet_step (fail))
  refine wpQuiet_nil ?_;intro _ hw';obtain ⟨⟨dq,osq⟩,hw''⟩:=hw';subst hw'';have LQ:=below_regrown W2 dq osq;generalize Go.Sort.grow (redrawn W2 dq) osq=w4 at *;go_wp2;go_ret;exact ⟨Ap HE.out.symm,L2.trans (LQ.mono L2.size)⟩
 .have hd:((n:Int)==many)=false:=by simpa using hn
  have HE:Hid ((decide ((n:Int)=many) && allIn n f 0 63)=false):=by show _=_; rw [decide_eq_false hn,Bool.false_and]
  refine wp_region_quiet_below (by kernel_rfl) (by kernel_rfl) ?_
  iterate 11 (quiet_step (fail))
  refine wpQuiet_nil ?_;intro _ hw';obtain ⟨⟨dq,osq⟩,hw''⟩:=hw';subst hw'';have LQ:=below_regrown W2 dq osq;generalize Go.Sort.grow (redrawn W2 dq) osq=w4 at *;go_wp2;go_ret;exact ⟨Ap HE.out.symm,L2.trans (LQ.mono L2.size)⟩
set_option maxHeartbeats 1000000
theorem Jd (w:World) (a s:Int) (a0:0<=a) (a1:a<65536) (s0:0<s) (s1:s<65536):Calls prog 103 #[.int .u16 a,.int .u16 s] w fun e w'=>e=.returned (.i (a%s))/\w'=w:=by
 have ht:a.tmod s=a%s:=Int.tmod_eq_emod_of_nonneg a0
 have hz:(s==0)=false:=by simp; omega
 have hz':s≠0:=by omega
 have m0:0<=a%s:=Int.emod_nonneg _ hz';have m1:a%s<65536:=Int.lt_of_lt_of_le (Int.emod_lt_of_pos _ s0) (by omega)
 have hw:IntKind.u16.wrap (a%s)=a%s:=by rw [IntKind.wrap_u16]; omega
 go_enter func103,ntmps103
 go_wp2;go_ret;exact ⟨rfl,rfl⟩
def Je (n p:Int):Value:=if n=1 then .iface 123 (.agg #[.i p]) else if n=2 then .iface 127 (.agg #[.i p]) else if n=3 then .iface 128 (.agg #[.i p]) else if n=4 then .iface 129 (.agg #[.i p]) else if n=5 then .iface 124 (.agg #[.i p]) else if n=6 then .iface 125 (.agg #[.i p]) else .iface 130 (.agg #[.i p])
theorem Jd4 (p:Int):Je 1 p=.iface 123 (.agg #[.i p]):=rfl
theorem Jd5 (p:Int):Je 2 p=.iface 127 (.agg #[.i p]):=rfl
theorem Jd6 (p:Int):Je 3 p=.iface 128 (.agg #[.i p]):=rfl
theorem Jd7 (p:Int):Je 4 p=.iface 129 (.agg #[.i p]):=rfl
theorem Jd8 (p:Int):Je 5 p=.iface 124 (.agg #[.i p]):=rfl
theorem Jd9 (p:Int):Je 6 p=.iface 125 (.agg #[.i p]):=rfl
theorem Jea (p:Int):Je 7 p=.iface 130 (.agg #[.i p]):=rfl
theorem Jcf (a:Int) (h0:0<=a) (h1:a<65536):(a<8192/\rgN a=1/\rgP a=a%512)\/(8192<=a/\a<16384/\rgN a=2/\rgP a=a%8)\/(16384<=a/\a<16388/\rgN a=3/\rgP a=a%4)\/(a=16406/\rgN a=4/\rgP a=0)\/(16388<=a/\a<32768/\a≠16406/\rgN a=7/\rgP a=0)\/(32768<=a/\a<49152/\rgN a=5/\rgP a=a%256)\/(49152<=a/\rgN a=6/\rgP a=a%256):=by
 unfold rgN rgP
 rcases (by omega:a<8192\/(8192<=a/\a<16384)\/(16384<=a/\a<16388)\/a=16406\/(16388<=a/\a<32768/\a≠16406)\/(32768<=a/\a<49152)\/49152<=a) with h | h | h | h | h | h | h
 .exact Or.inl ⟨h,if_pos h,if_pos h⟩
 all_goals
  repeat (first | rw [if_neg (show ¬ a<8192 by omega)] | rw [if_neg (show ¬ a<16384 by omega)] | rw [if_pos (show a<16384 by omega)] | rw [if_neg (show ¬ a<16388 by omega)] | rw [if_pos (show a<16388 by omega)] | rw [if_pos (show a=16406 by omega)] | rw [if_neg (show ¬ a=16406 by omega)] | rw [if_pos (show a<32768 by omega)] | rw [if_neg (show ¬ a<32768 by omega)] | rw [if_pos (show a<49152 by omega)] | rw [if_neg (show ¬ a<49152 by omega)])
  simp
  try omega
theorem Nx (w:World) (a:Int) (a0:0<=a) (a1:a<65536):Calls prog 75 #[.int .u16 a] w fun e w'=>e=.returned (Je (rgN a) (rgP a))/\w'=w:=by
 rcases Jcf a a0 a1 with h | h | h | h | h | h | h
 .obtain ⟨h1,hn,hp⟩:=h
  have HR:=Ac (show Je (rgN a) (rgP a)=Je 1 _ by rw [hn,hp]);clear hn hp
  go_enter func75,ntmps75
  go_wp2_with fail;refine (Jd _ _ _ a0 a1 (by omega) (by omega)).mono ?_;rintro e w1 ⟨rfl,rfl⟩;go_wp2;go_ret
  first | exact ⟨by rw [HR.out]; rfl,rfl⟩ | exact ⟨rfl,rfl⟩
 .obtain ⟨h1,h2,hn,hp⟩:=h
  have HR:=Ac (show Je (rgN a) (rgP a)=Je 2 _ by rw [hn,hp]);clear hn hp
  have q8192:¬ a<8192:=by omega
  go_enter func75,ntmps75
  go_wp2_with fail;refine (Jd _ _ _ a0 a1 (by omega) (by omega)).mono ?_;rintro e w1 ⟨rfl,rfl⟩;go_wp2;go_ret
  first | exact ⟨by rw [HR.out]; rfl,rfl⟩ | exact ⟨rfl,rfl⟩
 .obtain ⟨h1,h2,hn,hp⟩:=h
  have HR:=Ac (show Je (rgN a) (rgP a)=Je 3 _ by rw [hn,hp]);clear hn hp
  have q8192:¬ a<8192:=by omega
  have q16384:¬ a<16384:=by omega
  go_enter func75,ntmps75
  go_wp2_with fail;refine (Jd _ _ _ a0 a1 (by omega) (by omega)).mono ?_;rintro e w1 ⟨rfl,rfl⟩;go_wp2;go_ret
  first | exact ⟨by rw [HR.out]; rfl,rfl⟩ | exact ⟨rfl,rfl⟩
 .obtain ⟨h1,hn,hp⟩:=h
  have HR:=Ac (show Je (rgN a) (rgP a)=Je 4 _ by rw [hn,hp]);clear hn hp
  have q8192:¬ a<8192:=by omega
  have q16384:¬ a<16384:=by omega
  have q16388:¬ a<16388:=by omega
  have e5:(a==16406)=true:=by simp; omega
  go_enter func75,ntmps75
  go_wp2;go_ret
  first | exact ⟨by rw [HR.out]; rfl,rfl⟩ | exact ⟨rfl,rfl⟩
 .obtain ⟨h1,h2,h3,hn,hp⟩:=h
  have HR:=Ac (show Je (rgN a) (rgP a)=Je 7 _ by rw [hn,hp]);clear hn hp
  have q8192:¬ a<8192:=by omega
  have q16384:¬ a<16384:=by omega
  have q16388:¬ a<16388:=by omega
  have e5:(a==16406)=false:=by simp; omega
  go_enter func75,ntmps75
  go_wp2;go_ret
  first | exact ⟨by rw [HR.out]; rfl,rfl⟩ | exact ⟨rfl,rfl⟩
 .obtain ⟨h1,h2,hn,hp⟩:=h
  have HR:=Ac (show Je (rgN a) (rgP a)=Je 5 _ by rw [hn,hp]);clear hn hp
  have q8192:¬ a<8192:=by omega
  have q16384:¬ a<16384:=by omega
  have q16388:¬ a<16388:=by omega
  have e5:(a==16406)=false:=by simp; omega
  have q32768:¬ a<32768:=by omega
  go_enter func75,ntmps75
  go_wp2_with fail;refine (Jd _ _ _ a0 a1 (by omega) (by omega)).mono ?_;rintro e w1 ⟨rfl,rfl⟩;go_wp2;go_ret
  first | exact ⟨by rw [HR.out]; rfl,rfl⟩ | exact ⟨rfl,rfl⟩
 .obtain ⟨h1,hn,hp⟩:=h
  have HR:=Ac (show Je (rgN a) (rgP a)=Je 6 _ by rw [hn,hp]);clear hn hp
  have q8192:¬ a<8192:=by omega
  have q16384:¬ a<16384:=by omega
  have q16388:¬ a<16388:=by omega
  have e5:(a==16406)=false:=by simp; omega
  have q32768:¬ a<32768:=by omega
  have q49152:¬ a<49152:=by omega
  go_enter func75,ntmps75
  go_wp2_with fail;refine (Jd _ _ _ a0 a1 (by omega) (by omega)).mono ?_;rintro e w1 ⟨rfl,rfl⟩;go_wp2;go_ret
  first | exact ⟨by rw [HR.out]; rfl,rfl⟩ | exact ⟨rfl,rfl⟩
theorem Jfq (p:Int) (w:World):(Instr.typeAssert (.iface 123 (.agg #[.i p])) 93 123 true).run prog w=.ok (.tuple #[.agg #[.i p],.bool true]) w:=by kernel_rfl
theorem Jfr (p:Int) (w:World):(Instr.typeAssert (.iface 127 (.agg #[.i p])) 93 123 true).run prog w=.ok (.tuple #[.agg #[.i 0],.bool false]) w:=by kernel_rfl
theorem Jha (p:Int) (w:World):(Instr.typeAssert (.iface 127 (.agg #[.i p])) 93 127 true).run prog w=.ok (.tuple #[.agg #[.i p],.bool true]) w:=by kernel_rfl
theorem Jgr (p:Int) (w:World):(Instr.typeAssert (.iface 127 (.agg #[.i p])) 93 124 true).run prog w=.ok (.tuple #[.agg #[.i 0],.bool false]) w:=by kernel_rfl
theorem Jgs (p:Int) (w:World):(Instr.typeAssert (.iface 127 (.agg #[.i p])) 93 125 true).run prog w=.ok (.tuple #[.agg #[.i 0],.bool false]) w:=by kernel_rfl
theorem Jfs (p:Int) (w:World):(Instr.typeAssert (.iface 128 (.agg #[.i p])) 93 123 true).run prog w=.ok (.tuple #[.agg #[.i 0],.bool false]) w:=by kernel_rfl
theorem Jhb (p:Int) (w:World):(Instr.typeAssert (.iface 128 (.agg #[.i p])) 93 127 true).run prog w=.ok (.tuple #[.agg #[.i 0],.bool false]) w:=by kernel_rfl
theorem Jhc (p:Int) (w:World):(Instr.typeAssert (.iface 128 (.agg #[.i p])) 93 128 true).run prog w=.ok (.tuple #[.agg #[.i p],.bool true]) w:=by kernel_rfl
theorem Jgt (p:Int) (w:World):(Instr.typeAssert (.iface 128 (.agg #[.i p])) 93 124 true).run prog w=.ok (.tuple #[.agg #[.i 0],.bool false]) w:=by kernel_rfl
theorem Jgu (p:Int) (w:World):(Instr.typeAssert (.iface 128 (.agg #[.i p])) 93 125 true).run prog w=.ok (.tuple #[.agg #[.i 0],.bool false]) w:=by kernel_rfl
theorem Jft (p:Int) (w:World):(Instr.typeAssert (.iface 129 (.agg #[.i p])) 93 123 true).run prog w=.ok (.tuple #[.agg #[.i 0],.bool false]) w:=by kernel_rfl
theorem Jhd (p:Int) (w:World):(Instr.typeAssert (.iface 129 (.agg #[.i p])) 93 127 true).run prog w=.ok (.tuple #[.agg #[.i 0],.bool false]) w:=by kernel_rfl
theorem Jhe (p:Int) (w:World):(Instr.typeAssert (.iface 129 (.agg #[.i p])) 93 128 true).run prog w=.ok (.tuple #[.agg #[.i 0],.bool false]) w:=by kernel_rfl
theorem Jhf (p:Int) (w:World):(Instr.typeAssert (.iface 129 (.agg #[.i p])) 93 129 true).run prog w=.ok (.tuple #[.agg #[.i p],.bool true]) w:=by kernel_rfl
theorem Jgv (p:Int) (w:World):(Instr.typeAssert (.iface 129 (.agg #[.i p])) 93 124 true).run prog w=.ok (.tuple #[.agg #[.i 0],.bool false]) w:=by kernel_rfl
theorem Jgw (p:Int) (w:World):(Instr.typeAssert (.iface 129 (.agg #[.i p])) 93 125 true).run prog w=.ok (.tuple #[.agg #[.i 0],.bool false]) w:=by kernel_rfl
theorem Jfu (p:Int) (w:World):(Instr.typeAssert (.iface 124 (.agg #[.i p])) 93 123 true).run prog w=.ok (.tuple #[.agg #[.i 0],.bool false]) w:=by kernel_rfl
theorem Jhg (p:Int) (w:World):(Instr.typeAssert (.iface 124 (.agg #[.i p])) 93 127 true).run prog w=.ok (.tuple #[.agg #[.i 0],.bool false]) w:=by kernel_rfl
theorem Jhh (p:Int) (w:World):(Instr.typeAssert (.iface 124 (.agg #[.i p])) 93 128 true).run prog w=.ok (.tuple #[.agg #[.i 0],.bool false]) w:=by kernel_rfl
theorem Jhi (p:Int) (w:World):(Instr.typeAssert (.iface 124 (.agg #[.i p])) 93 129 true).run prog w=.ok (.tuple #[.agg #[.i 0],.bool false]) w:=by kernel_rfl
theorem Jfv (p:Int) (w:World):(Instr.typeAssert (.iface 124 (.agg #[.i p])) 93 124 true).run prog w=.ok (.tuple #[.agg #[.i p],.bool true]) w:=by kernel_rfl
theorem Jhj (p:Int) (w:World):(Instr.typeAssert (.iface 124 (.agg #[.i p])) 93 125 true).run prog w=.ok (.tuple #[.agg #[.i 0],.bool false]) w:=by kernel_rfl
theorem Jfw (p:Int) (w:World):(Instr.typeAssert (.iface 125 (.agg #[.i p])) 93 123 true).run prog w=.ok (.tuple #[.agg #[.i 0],.bool false]) w:=by kernel_rfl
theorem Jhk (p:Int) (w:World):(Instr.typeAssert (.iface 125 (.agg #[.i p])) 93 127 true).run prog w=.ok (.tuple #[.agg #[.i 0],.bool false]) w:=by kernel_rfl
theorem Jhl (p:Int) (w:World):(Instr.typeAssert (.iface 125 (.agg #[.i p])) 93 128 true).run prog w=.ok (.tuple #[.agg #[.i 0],.bool false]) w:=by kernel_rfl
theorem Jhm (p:Int) (w:World):(Instr.typeAssert (.iface 125 (.agg #[.i p])) 93 129 true).run prog w=.ok (.tuple #[.agg #[.i 0],.bool false]) w:=by kernel_rfl
theorem Jfx (p:Int) (w:World):(Instr.typeAssert (.iface 125 (.agg #[.i p])) 93 124 true).run prog w=.ok (.tuple #[.agg #[.i 0],.bool false]) w:=by kernel_rfl
theorem Jfy (p:Int) (w:World):(Instr.typeAssert (.iface 125 (.agg #[.i p])) 93 125 true).run prog w=.ok (.tuple #[.agg #[.i p],.bool true]) w:=by kernel_rfl
theorem Jfz (p:Int) (w:World):(Instr.typeAssert (.iface 130 (.agg #[.i p])) 93 123 true).run prog w=.ok (.tuple #[.agg #[.i 0],.bool false]) w:=by kernel_rfl
theorem Jhn (p:Int) (w:World):(Instr.typeAssert (.iface 130 (.agg #[.i p])) 93 127 true).run prog w=.ok (.tuple #[.agg #[.i 0],.bool false]) w:=by kernel_rfl
theorem Jho (p:Int) (w:World):(Instr.typeAssert (.iface 130 (.agg #[.i p])) 93 128 true).run prog w=.ok (.tuple #[.agg #[.i 0],.bool false]) w:=by kernel_rfl
theorem Jhp (p:Int) (w:World):(Instr.typeAssert (.iface 130 (.agg #[.i p])) 93 129 true).run prog w=.ok (.tuple #[.agg #[.i 0],.bool false]) w:=by kernel_rfl
theorem Jf0 (p:Int) (w:World):(Instr.typeAssert (.iface 130 (.agg #[.i p])) 93 124 true).run prog w=.ok (.tuple #[.agg #[.i 0],.bool false]) w:=by kernel_rfl
theorem Jf1 (p:Int) (w:World):(Instr.typeAssert (.iface 130 (.agg #[.i p])) 93 125 true).run prog w=.ok (.tuple #[.agg #[.i 0],.bool false]) w:=by kernel_rfl
theorem partOf (w:World) (p:Int):Calls prog 260 #[.i p] w fun e w'=>e=.returned (.i p)/\w'=w:=by
 go_enter func260,ntmps260
 go_wp2;go_ret;exact ⟨rfl,rfl⟩
theorem Jgx (p : Int) (w : World) : (method 332 123 (.agg #[.i p]) "loop.example/g00231/impl.part").run prog w = .ok (260, .i p) w := by kernel_rfl
theorem Jhq (p : Int) (w : World) : (method 332 124 (.agg #[.i p]) "loop.example/g00231/impl.part").run prog w = .ok (260, .i p) w := by kernel_rfl
theorem Jhr (p : Int) (w : World) : (method 332 125 (.agg #[.i p]) "loop.example/g00231/impl.part").run prog w = .ok (260, .i p) w := by kernel_rfl
theorem Qt (a:Int) (h0:0<=a) (h1:a<65536):rgN a=1\/rgN a=2\/rgN a=3\/rgN a=4\/rgN a=5\/rgN a=6\/rgN a=7:=by
 rcases Jcf a h0 h1 with ⟨_,h,_⟩ | ⟨_,_,h,_⟩ | ⟨_,_,h,_⟩ | ⟨_,h,_⟩ | ⟨_,_,_,h,_⟩ | ⟨_,_,h,_⟩ | ⟨_,h,_⟩ <;> rw [h] <;> decide
theorem Py (w:World) (p:Int):Calls prog 177 #[Je 1 p] w fun e w'=>e=.returned (.i 1)/\w'=w:=by
 rw [Jd4];have q1:=Jfq p
 go_enter func177,ntmps177
 go_wp2;go_ret;exact ⟨rfl,rfl⟩
theorem Pz (w:World) (p:Int):Calls prog 177 #[Je 2 p] w fun e w'=>e=.returned (.i 2)/\w'=w:=by
 rw [Jd5];have q1:=Jfr p;have q2:=Jha p
 go_enter func177,ntmps177
 go_wp2;go_ret;exact ⟨rfl,rfl⟩
theorem P0 (w:World) (p:Int):Calls prog 177 #[Je 3 p] w fun e w'=>e=.returned (.i 3)/\w'=w:=by
 rw [Jd6];have q1:=Jfs p;have q2:=Jhb p;have q3:=Jhc p
 go_enter func177,ntmps177
 go_wp2;go_ret;exact ⟨rfl,rfl⟩
theorem P4 (w:World) (p:Int):Calls prog 177 #[Je 4 p] w fun e w'=>e=.returned (.i 4)/\w'=w:=by
 rw [Jd7];have q1:=Jft p;have q2:=Jhd p;have q3:=Jhe p;have q4:=Jhf p
 go_enter func177,ntmps177
 go_wp2;go_ret;exact ⟨rfl,rfl⟩
theorem P6 (w:World) (p:Int):Calls prog 177 #[Je 5 p] w fun e w'=>e=.returned (.i 5)/\w'=w:=by
 rw [Jd8];have q1:=Jfu p;have q2:=Jhg p;have q3:=Jhh p;have q4:=Jhi p;have q5:=Jfv p
 go_enter func177,ntmps177
 go_wp2;go_ret;exact ⟨rfl,rfl⟩
theorem P7 (w:World) (p:Int):Calls prog 177 #[Je 6 p] w fun e w'=>e=.returned (.i 6)/\w'=w:=by
 rw [Jd9];have q1:=Jfw p;have q2:=Jhk p;have q3:=Jhl p;have q4:=Jhm p;have q5:=Jfx p;have q6:=Jfy p
 go_enter func177,ntmps177
 go_wp2;go_ret;exact ⟨rfl,rfl⟩
theorem P8 (w:World) (p:Int):Calls prog 177 #[Je 7 p] w fun e w'=>e=.returned (.i 7)/\w'=w:=by
 rw [Jea];have q1:=Jfz p;have q2:=Jhn p;have q3:=Jho p;have q4:=Jhp p;have q5:=Jf0 p;have q6:=Jf1 p
 go_enter func177,ntmps177
 go_wp2;go_ret;exact ⟨rfl,rfl⟩
theorem Ny (w:World) (x:Int):Calls prog 153 #[.i x] w fun e w'=>e=.returned (.tuple #[.i (rgN (x%65536)),.i (rgP (x%65536))])/\w'=w:=by
 have h0:0<=x%65536:=by omega
 have h1:x%65536<65536:=by omega
 have HC:=Qt _ h0 h1;have HA:=Ac (Nx w _ h0 h1);generalize rgP (x%65536)=p at *;generalize rgN (x%65536)=n at *;clear h0 h1
 rcases HC with rfl | rfl | rfl | rfl | rfl | rfl | rfl
 .go_enter func153,ntmps153
  go_wp2_with fail;refine (Ae HA).mono ?_;rintro e w1 ⟨rfl,rfl⟩;go_wp2_with fail;refine (Py _ p).mono ?_;rintro e w2 ⟨rfl,rfl⟩;rw [Jd4];go_wp2;go_ret2;exact ⟨rfl,rfl⟩
 .go_enter func153,ntmps153
  go_wp2_with fail;refine (Ae HA).mono ?_;rintro e w1 ⟨rfl,rfl⟩;go_wp2_with fail;refine (Pz _ p).mono ?_;rintro e w2 ⟨rfl,rfl⟩;rw [Jd5];go_wp2;go_ret2;exact ⟨rfl,rfl⟩
 .go_enter func153,ntmps153
  go_wp2_with fail;refine (Ae HA).mono ?_;rintro e w1 ⟨rfl,rfl⟩;go_wp2_with fail;refine (P0 _ p).mono ?_;rintro e w2 ⟨rfl,rfl⟩;rw [Jd6];go_wp2;go_ret2;exact ⟨rfl,rfl⟩
 .go_enter func153,ntmps153
  go_wp2_with fail;refine (Ae HA).mono ?_;rintro e w1 ⟨rfl,rfl⟩;go_wp2_with fail;refine (P4 _ p).mono ?_;rintro e w2 ⟨rfl,rfl⟩;rw [Jd7];go_wp2;go_ret2;exact ⟨rfl,rfl⟩
 .go_enter func153,ntmps153
  go_wp2_with fail;refine (Ae HA).mono ?_;rintro e w1 ⟨rfl,rfl⟩;go_wp2_with fail;refine (P6 _ p).mono ?_;rintro e w2 ⟨rfl,rfl⟩;rw [Jd8];go_wp2;go_ret2;exact ⟨rfl,rfl⟩
 .go_enter func153,ntmps153
  go_wp2_with fail;refine (Ae HA).mono ?_;rintro e w1 ⟨rfl,rfl⟩;go_wp2_with fail;refine (P7 _ p).mono ?_;rintro e w2 ⟨rfl,rfl⟩;rw [Jd9];go_wp2;go_ret2;exact ⟨rfl,rfl⟩
 .go_enter func153,ntmps153
  go_wp2_with fail;refine (Ae HA).mono ?_;rintro e w1 ⟨rfl,rfl⟩;go_wp2_with fail;refine (P8 _ p).mono ?_;rintro e w2 ⟨rfl,rfl⟩;rw [Jea];go_wp2;go_ret2;exact ⟨rfl,rfl⟩
end Go.Proofs.YtijljlnooibbmaaGreatDoor
