import Derived.Test.YtgcmimcalmjaaaaGreatDoorG0
import Derived.Laws.Tables
import Derived.Laws.CopyRow
namespace Go.Proofs.YtgcmimcalmjaaaaGreatDoor
open Go.ChangeShapes Go.WideShapes Go.ChangeAt Go.RowKit
def Vr:List ByteArray:=[⟨#[110,111,112]⟩,⟨#[108,100,105]⟩,⟨#[108,100,97]⟩,⟨#[115,116,97]⟩,⟨#[97,100,105]⟩,⟨#[115,98,105]⟩,⟨#[97,110,105]⟩,⟨#[111,114,105]⟩,⟨#[120,114,105]⟩,⟨#[99,112,105]⟩,⟨#[116,97,120]⟩,⟨#[116,120,97]⟩,⟨#[105,110,120]⟩,⟨#[100,101,120]⟩,⟨#[108,97,120]⟩,⟨#[115,97,120]⟩,⟨#[98,110,101]⟩,⟨#[98,101,113]⟩,⟨#[98,99,115]⟩,⟨#[106,109,112]⟩,⟨#[106,115,114]⟩,⟨#[114,116,115]⟩,⟨#[112,104,97]⟩,⟨#[112,108,97]⟩,⟨#[114,116,105]⟩,⟨#[115,101,105]⟩,⟨#[99,108,105]⟩,⟨#[115,101,99]⟩,⟨#[99,108,99]⟩,⟨#[97,100,97]⟩]
def Gz:List Int:=[1,2,3,3,2,2,2,2,2,2,1,1,1,1,3,3,3,3,3,3,3,1,1,1,1,1,1,1,1,3]
def G8:List Int:=[2,2,4,4,2,2,2,2,2,2,2,2,2,2,4,5,3,3,3,3,6,6,3,4,6,2,2,2,2,4]
theorem ints_at (L:List Int) (d:Int) (i:Nat) (h:i<L.length):(L.map (Value.int .i64))[i]'(by simpa using h)=.i (L.getD ((i:Int).toNat) d):=by
 rw [List.getElem_map,Int.toNat_natCast,List.getD_eq_getElem?_getD,List.getElem?_eq_getElem h]
 rfl
theorem Ob (w:World) (x:Int):Calls Tryz.prog 113 #[.i x] w fun e w'=>e=.returned (.i (if 0≤x∧x≤29 then Gz.getD x.toNat 1 else 1))∧Below w.heap.size w w':=by
 by_cases h:0≤x∧x≤29
 ·have hin:=Bn h
  obtain ⟨i,rfl⟩:∃ i:Nat,x=i:=⟨x.toNat,by omega⟩
  have hi:i<30:=by omega
  rw [if_pos h]
  go_enter Tryz.func113,Tryz.ntmps113
  go_wp2_with fail;refine (Gj _ _ _ _).mono ?_;rintro e w1 ⟨rfl,rfl⟩;rw [hin];go_wp2;go_ret;exact ⟨congrArg Ending.returned (ints_at Gz 1 i hi),(Below.refl _ _).alloc (Nat.le_refl _) _⟩
 ·have hin:=Cu h
  rw [if_neg h]
  go_enter Tryz.func113,Tryz.ntmps113
  go_wp2_with fail;refine (Gj _ _ _ _).mono ?_;rintro e w1 ⟨rfl,rfl⟩;rw [hin];go_wp2;go_ret;exact ⟨rfl,Below.refl _ _⟩
theorem Pj (w:World) (x:Int):Calls Tryz.prog 92 #[.i x] w fun e w'=>e=.returned (.i (if 0≤x∧x≤29 then G8.getD x.toNat 2 else 2))∧Below w.heap.size w w':=by
 by_cases h:0≤x∧x≤29
 ·have hin:=Bn h
  obtain ⟨i,rfl⟩:∃ i:Nat,x=i:=⟨x.toNat,by omega⟩
  have hi:i<30:=by omega
  rw [if_pos h]
  go_enter Tryz.func92,Tryz.ntmps92
  go_wp2_with fail;refine (Gj _ _ _ _).mono ?_;rintro e w1 ⟨rfl,rfl⟩;rw [hin];go_wp2;go_ret;exact ⟨congrArg Ending.returned (ints_at G8 2 i hi),(Below.refl _ _).alloc (Nat.le_refl _) _⟩
 ·have hin:=Cu h
  rw [if_neg h]
  go_enter Tryz.func92,Tryz.ntmps92
  go_wp2_with fail;refine (Gj _ _ _ _).mono ?_;rintro e w1 ⟨rfl,rfl⟩;rw [hin];go_wp2;go_ret;exact ⟨rfl,Below.refl _ _⟩
def B9 (x:Int):Int:=if x=2∨x=14∨x=29 then 1 else if x=3∨x=15 then 2 else 0
theorem Dw (w:World) (x:Int):Calls Tryz.prog 114 #[.i x] w fun e w'=>e=.returned (.i (B9 x))∧w'=w:=by
 go_enter Tryz.func114,Tryz.ntmps114
 go_wp2
 all_goals go_ret
 all_goals (refine ⟨congrArg (fun n=>Ending.returned (.i n)) ?_,rfl⟩; unfold B9; grind)
set_option linter.unusedVariables false
set_option linter.unusedSimpArgs false
def Ci (T P C B L:Int):Bool:=Cs T 0 20000 && Cs P 0 255 && Cs C 0 255 && Cs B 0 1 && Cs L 0 31
structure If (T P C B L:Int):Prop where
  t0:0≤T
  t1:T≤20000
  p0:0≤P
  p1:P≤255
  c0:0≤C
  c1:C≤255
  b0:0≤B
  b1:B≤1
  l0:0≤L
  l1:L≤31
theorem Kk (T P C B L:Int):Ci T P C B L=true ↔ If T P C B L:=by
  unfold Ci Cs;simp only [Bool.and_eq_true,decide_eq_true_eq]
  constructor
  · rintro ⟨⟨⟨⟨h1,h2⟩,h3⟩,h4⟩,h5⟩
    exact ⟨by omega,by omega,by omega,by omega,by omega,by omega,by omega,by omega,by omega,by omega⟩
  · intro h
    have:=h.t0; have:=h.t1; have:=h.p0; have:=h.p1; have:=h.c0; have:=h.c1; have:=h.b0; have:=h.b1; have:=h.l0; have:=h.l1
    omega
def Ft (P C:Int):Int:=if C=0 then P else C-1
def Fa (C B L:Int):Int:=if C=0∧0<L then 1-B else B
def Fu (T L:Int):Int:=if T%32=0∧0<L then L-1 else L
def Gq (T L:Int) (S Q:Bool):Bool:=if T%32=0∧0<L then Q || (decide (L-1=0) && S) else Q
def Dx (T:Int):Bool:=decide (T%16=15)
def Kq (T C B L:Int):Int:=if T%16=15∧0<Fu T L then 8*Fa C B L else 0
def Ou (T P C B L:Int) (S Q:Bool):Value :=
  if Ci T P C B L=true then
    if T=20000 then .tuple #[.agg (aR T P C B L S Q),.i 0,.bool false]
    else .tuple #[.agg (aR (T+1) P (Ft P C) (Fa C B L) (Fu T L) S (Gq T L S Q)),.i (Kq T C B L),.bool (Dx T)]
  else .tuple #[.agg (aR 0 0 0 0 0 false false),.i 0,.bool false]
theorem Jde (w:World) (T P C B L:Int) (S Q:Bool):Calls Tryz.prog 24 #[.agg (aR T P C B L S Q)] w
    fun e w'=>e=.returned (.agg (aR T P C B L S Q))∧Below w.heap.size w w':=by
  go_enter Tryz.func24,Tryz.ntmps24
  go_wp2;refine bodyPost_ret (v:=.agg (aR T P C B L S Q)) (by simp [results,Tryz.results24,go_sem]) rfl ?_;exact ⟨rfl,(((Below.refl _ _).alloc (Nat.le_refl _) _).alloc (by simp) _).alloc (by simp; omega) _⟩
theorem Tg (w:World) (T P C B L:Int) (S Q:Bool):Calls Tryz.prog 35 #[.agg (aR T P C B L S Q),.agg (aR T P C B L S Q)] w
    fun e w'=>e=.returned (.bool true)∧Below w.heap.size w w':=by
  go_enter Tryz.func35,Tryz.ntmps35
  go_wp2;go_ret;exact ⟨rfl,((Below.refl _ _).alloc (Nat.le_refl _) _).alloc (by simp) _⟩
theorem Dd (w:World) (T P C B L:Int) (S Q:Bool):Calls Tryz.prog 53 #[.agg (aR T P C B L S Q)] w
    fun e w'=>e=.returned (.bool (Ci T P C B L))∧Below w.heap.size w w':=by
  unfold Ci
  go_enter Tryz.func53,Tryz.ntmps53
  generalize hT:Cs T 0 20000=bT;generalize hP:Cs P 0 255=bP;generalize hC:Cs C 0 255=bC;generalize hB:Cs B 0 1=bB;generalize hL:Cs L 0 31=bL
  have L0:∀ o,Below w.heap.size w (w.alloc o):=fun o=>(Below.refl _ _).alloc (Nat.le_refl _) _
  cases bT <;> cases bP <;> cases bC <;> cases bB <;> cases bL <;>
    (go_wp2_with (first | (go_at_call 54; refine (Ha _ _).mono ?_; rintro e w' ⟨rfl,rfl⟩; first | rw [hP] | rw [hC]) | (go_at_call 55; refine (Gj _ _ _ _).mono ?_; rintro e w' ⟨rfl,rfl⟩; first | rw [hT] | rw [hB] | rw [hL]))
     go_ret
     exact ⟨rfl,L0 _⟩)
def Ff (P:Program):Nat→TypeId→DataW Unit→Nat→Option Value
 | 0,_,_,_=>Option.none
 | n+1,t,d,i =>
  match P.underlying t,d with
  | some (.int k),.lit (.int k' z)=>if k'=k∧i=0 then some (.int k z) else Option.none
  | some .bool,.lit (.bool b)=>if i=0 then some (.bool b) else Option.none
  | some .string,.lit (.string s)=>if i=0 then some (.string ⟨s.toArray⟩) else Option.none
  | some (.array m e),.agg ps=>if i/P.cellsOf e<m then (ps[i/P.cellsOf e]?).bind fun x=>if i%P.cellsOf e<P.cellsOf e then Ff P n e x (i%P.cellsOf e) else Option.none else Option.none
  | some (.struct fs),.agg ps=>(List.range fs.toList.length).findSome? fun j=>(fs.toList[j]?).bind fun f=>if f.offset≤i∧i<f.offset+P.cellsOf f.type then (ps[j]?).bind fun x=>Ff P n f.type x (i-f.offset) else Option.none
  | _,_=>Option.none
theorem U0 {α:Type} {cs:List α} {a c i:Nat} {v:α} (h:((cs.drop a).take c)[i]?=some v):cs[a+i]?=some v:=by
 rw [List.getElem?_take] at h;split at h
 ·rwa [List.getElem?_drop] at h
 ·cases h
theorem Pk {enc:TypeId × Value→Unit} {P:Program} {w:World} {base:Nat} {sp:Nat→Bool} {held:Bool} :
  ∀ (n fuel:Nat) (t:TypeId) (cs:List Value) (d:DataW Unit) (p:List MemPlace) (i:Nat) (v:Value),
   DataW.trod enc P w base sp held fuel t cs=some (d,p)→Ff P n t d i=some v→cs[i]?=some v:=by
 intro n
 induction n with
 | zero=>intro fuel t cs d p i v h hv; cases hv
 | succ n ih =>
  intro fuel t cs d p i v h hv
  cases fuel with
  | zero=>simp [DataW.trod] at h
  | succ fuel =>
   unfold Ff at hv;split at hv
   ·rename_i k k' z hu
    obtain ⟨z',hc,hd,_⟩:=DataW.trod_int hu h;split at hv
    ·rename_i hk
     obtain ⟨rfl,rfl⟩:=hk;cases hd
     simpa [hc] using hv
    ·cases hv
   ·rename_i b hu
    simp only [DataW.trod,hu] at h
    split at h <;> simp_all
   ·rename_i s hu
    simp only [DataW.trod,hu] at h
    split at h <;> simp_all
    obtain ⟨hl,rfl,rfl⟩:=h
    simpa using hv.2
   ·rename_i m e ps hu
    simp only [DataW.trod,hu] at h;split at h
    ·obtain ⟨xs,hm,hx⟩:=Option.map_eq_some_iff.1 h
     split at hv
     ·rename_i hq
      obtain ⟨x,hpx,hv⟩:=Option.bind_eq_some_iff.1 hv;split at hv
      ·obtain ⟨b,hb,hf⟩:=Lib.mapM_at hm (i/P.cellsOf e) (i/P.cellsOf e) (by simp [hq])
       have hxs:ps=xs.map (·.1):=by
        have:=congrArg Prod.fst hx
        simpa using this.symm
       have hbx:b.1=x:=by
        rw [hxs,List.getElem?_map,hb] at hpx
        simpa using hpx
       have:=U0 (ih fuel e _ x b.2 (i%P.cellsOf e) v (by rw [hf,← hbx]) hv)
       rwa [Nat.mul_comm,Nat.div_add_mod] at this
      ·cases hv
     ·cases hv
    ·cases h
   ·rename_i fs ps hu
    simp only [DataW.trod,hu] at h;split at h
    ·obtain ⟨xs,hm,hx⟩:=Option.map_eq_some_iff.1 h
     obtain ⟨j,_,hj⟩:=List.exists_of_findSome?_eq_some hv;obtain ⟨f,hfj,hj⟩:=Option.bind_eq_some_iff.1 hj;split at hj
     ·rename_i hin
      obtain ⟨x,hpx,hj⟩:=Option.bind_eq_some_iff.1 hj;obtain ⟨b,hb,hf⟩:=Lib.mapM_at hm j f hfj
      have hxs:ps=xs.map (·.1):=by
       have:=congrArg Prod.fst hx
       simpa using this.symm
      have hbx:b.1=x:=by
       rw [hxs,List.getElem?_map,hb] at hpx
       simpa using hpx
      have:=U0 (ih fuel f.type _ x b.2 (i-f.offset) v (by rw [hf,← hbx]) hj)
      rwa [Nat.add_sub_cancel' hin.1] at this
     ·cases hj
    ·cases h
   ·cases hv
theorem Jn {P:Program} {w:World} {name:String} {d:DataW Unit}:∀ {l:List (String × DataW Unit)} {ps:List MemPlace},DataW.LaidVars P w l ps→(name,d)∈l →
  ∃ g t cs fuel p,P.globalNamed name=some g∧(P.globals[g]?).map (·.type)=some t∧w.var? P name=some cs∧DataW.trod (fun _=>()) P w 0 (fun _=>true) false fuel t cs.toList=some (d,p)
 | [],_,_,h=>by cases h
 | (n,x) :: r,_,⟨g,t,cs,fuel,p,q,h1,h2,h3,h4,h5,_⟩,h=>by
  rcases List.mem_cons.1 h with h | h
  ·cases h
   exact ⟨g,t,cs,fuel,p,h1,h2,h3,h4⟩
  ·exact Jn h5 h
theorem Nm {P:Program} {W:World} {name:String} {d:DataW Unit} {l:List (String × DataW Unit)} {g:Nat} {t:TypeId}
  (hg:P.globalNamed name=some g) (hty:(P.globals[g]?).map (·.type)=some t) (hm:(name,d)∈l) (h:laidMet P l W) (n:Nat):∀ (i:Nat) (v:Value),Ff P n t d i=some v→W.cell? ⟨g,i,Option.none⟩=some v:=by
 intro i v hv;obtain ⟨ps,hl,_⟩:=h;obtain ⟨g',t',cs,fuel,p,hg',ht',hvar,hd⟩:=Jn hl hm;obtain rfl:=Option.some.inj (hg.symm.trans hg');obtain rfl:=Option.some.inj (hty.symm.trans ht');have:=World.var?_cell hg hvar i;rw [this]
 simpa using Pk n fuel _ _ d p i v hd hv
theorem Nn {H:Type} {enc:TypeId × Value→H} {P:Program} {w:World} {sp:Nat→Bool} {n:String} {ns:List String} {gs:List (DataW H)} {ps:List MemPlace} (h:DataW.TrodVars enc P w sp (n :: ns) gs ps) :
  ∃ d ds q,gs=d :: ds∧DataW.TrodVars enc P w sp ns ds q:=by
 cases gs with
 | nil=>exact h.elim
 | cons d ds =>
  obtain ⟨g,t,cs,fuel,p,q,h1,h2,h3,h4,hs,e⟩:=h;exact ⟨d,ds,q,rfl,hs⟩
theorem Pm {H:Type} {enc:TypeId × Value→H} {P:Program} {w:World} {sp:Nat→Bool} {gs:List (DataW H)} {ps:List MemPlace} (h:DataW.TrodVars enc P w sp [] gs ps):gs=[]:=by
 cases gs with
 | nil=>rfl
 | cons d ds=>exact h.elim
def Jbt:Nat→DataW Unit→List Value
 | _,.lit (.int k z)=>[.int k z]
 | _,.lit (.bool b)=>[.bool b]
 | _,.lit (.string s)=>[.string ⟨s.toArray⟩]
 | n+1,.agg ps=>ps.flatMap (Jbt n)
 | _,_=>[]
set_option linter.unusedVariables false
set_option linter.unusedSimpArgs false
open Go.ChangeShapes Go.WideShapes Go.ChangeAt Go.RowKit
def putAt (cs:Array Value) (o:Nat) (vs:Array Value):Array Value:=(cs.toList.take o++vs.toList++cs.toList.drop (o+vs.size)).toArray
theorem Mo {cs vs:Array Value} {o:Nat} (h:o+vs.size≤cs.size):(putAt cs o vs).size=cs.size:=by
 unfold putAt;simp only [List.size_toArray,List.length_append,List.length_take,List.length_drop,Array.length_toList]
 omega
section
variable {P:Program}
theorem J0 (w:World) (g o:Nat) (t ty:TypeId) (old cells:Array Value) (hg:w.heap[g]?=some (.cells old t (0,0))) (hi:(P.info? ty).map (·.size)=some cells.size)
  (ho:o+cells.size≤old.size) (h1:cells.all (·.oneCell')=true) :
  (storeVar ty ⟨g,o,none⟩ (.agg cells)).run P w=.ok () (w.setRow g (putAt old o cells)):=by
 have:=run_storeCells_at (P:=P) g o t cells.toList 0 old w hg (by simp; omega) (fun v hv=>(Array.all_eq_true_iff_forall_mem.1 h1) v (by simpa using hv));simp only [Nat.add_zero,Array.length_toList] at this;have this':(storeCells ⟨g,o,none⟩ cells.toList 0).run P w=.ok () (w.setRow g (putAt old o cells)):=this
 cases hq:P.info? ty with
 | none=>simp [hq] at hi
 | some i =>
  have hs:cells.size=i.size:=by simp [hq] at hi; omega
  simp [storeVar,sizeOf,typeInfo,hq,Value.cells,hs,this']
theorem Gt (w:World) (g o:Nat) (t ty:TypeId) (cs part:Array Value) (fr:Nat × Nat) (d:TypeDesc) (hg:w.heap[g]?=some (.cells cs t fr)) (hp:∀ j v,part[j]?=some v→cs[o+j]?=some v)
  (hu:P.underlying ty=some d) (hd:(match d with | .struct _ | .array _ _=>true | _=>false)=true) (hi:(P.info? ty).map (·.size)=some part.size) :
  (loadVar ty ⟨g,o,none⟩).run P w=.ok (.agg part) w:=by
 have hl:(loadCells ⟨g,o,none⟩ part.toList.length).run P w=.ok part.toList.toArray w :=
  run_loadCells_list (P:=P) w ⟨g,o,none⟩ part.toList (fun j v hv=>by
   have hadd:(⟨g,o,none⟩:Addr).add j=⟨g,o+j,none⟩:=by unfold Addr.add; split <;> simp_all
   rw [hadd,cell_of_row w g (o+j) cs t fr hg]
   exact hp j v (by simpa using hv))
 cases hq:P.info? ty with
 | none=>simp [hq] at hi
 | some i =>
  have hs:i.size=part.size:=by simpa [hq] using hi
  have hagg:(isAgg ty).run P w=.ok true w:=by
   unfold isAgg;rw [Sem.run_bind,run_underlying hu w]
   cases d <;> simp_all
  simp only [Array.length_toList,Array.toArray_toList] at hl
  simp [loadVar,Sem.run_bind,hagg,sizeOf,typeInfo,hq,hs,hl]
theorem Qd {o:Oper} {a:Act} {w:World} {K:Act→World→Prop} {Q:Exit→Act→World→Prop} (ty:TypeId) (x:Operand) (ho:o.op=.load ty x)
  (g off:Nat) (hx:a.eval x=(pt g off)) (t:TypeId) (cs part:Array Value) (fr:Nat × Nat) (d:TypeDesc) (hg:w.heap[g]?=some (.cells cs t fr)) (hp:∀ j v,part[j]?=some v→cs[off+j]?=some v)
  (hu:P.underlying ty=some d) (hd:(match d with | .struct _ | .array _ _=>true | _=>false)=true) (hi:(P.info? ty).map (·.size)=some part.size)
  (h:K (a.put o.dst (.agg part)) w):o.wp P a w K Q:=by
 unfold Oper.wp execOp;simp only [ho,hx,Instr.loadAt,Instr.sureAddr,Sem.run_bind,Sem.run_pure,Result.andThen_ok,Gt w g off t ty cs part fr d hg hp hu hd hi];exact h
theorem Bf {ops:Array Oper} {rest:List Oper} {o:Oper} {a:Act} {w:World} {Q:Exit→Act→World→Prop} (hgd:o.guard=none) (ty:TypeId) (x:Operand) (ho:o.op=.load ty x)
  (g off:Nat) (hx:a.eval x=(pt g off)) (t:TypeId) (cs part:Array Value) (fr:Nat × Nat) (d:TypeDesc) (hg:w.heap[g]?=some (.cells cs t fr)) (hp:∀ j v,part[j]?=some v→cs[off+j]?=some v)
  (hu:P.underlying ty=some d) (hd:(match d with | .struct _ | .array _ _=>true | _=>false)=true) (hi:(P.info? ty).map (·.size)=some part.size)
  (h:wpList P ops Q rest (a.put o.dst (.agg part)) w):wpList P ops Q (o :: rest) a w :=
 wpList_plain hgd fun _ hK=>Qd ty x ho g off hx t cs part fr d hg hp hu hd hi (hK _ _ h)
theorem Bg {o:Oper} {a:Act} {w:World} {K:Act→World→Prop} {Q:Exit→Act→World→Prop} (ty:TypeId) (x y:Operand) (ho:o.op=.store ty x y)
  (g off:Nat) (cells:Array Value) (hx:a.eval x=(pt g off)) (hy:a.eval y=.agg cells)
  (t:TypeId) (old:Array Value) (hg:w.heap[g]?=some (.cells old t (0,0))) (hi:(P.info? ty).map (·.size)=some cells.size)
  (hold:off+cells.size≤old.size) (h1:cells.all (·.oneCell')=true)
  (h:K (a.put o.dst undef) (w.setRow g (putAt old off cells))):o.wp P a w K Q:=by
 unfold Oper.wp execOp;simp only [ho,hx,hy,Instr.storeAt,Instr.sureAddr,Sem.run_bind,Sem.run_pure,Result.andThen_ok,J0 w g off t ty old cells hg hi hold h1];exact h
theorem Bv {ops:Array Oper} {rest:List Oper} {o:Oper} {a:Act} {w:World} {Q:Exit→Act→World→Prop} (hgd:o.guard=none) (ty:TypeId) (x y:Operand) (ho:o.op=.store ty x y)
  (g off:Nat) (cells:Array Value) (hx:a.eval x=(pt g off)) (hy:a.eval y=.agg cells)
  (t:TypeId) (old:Array Value) (hg:w.heap[g]?=some (.cells old t (0,0))) (hi:(P.info? ty).map (·.size)=some cells.size)
  (hold:off+cells.size≤old.size) (h1:cells.all (·.oneCell')=true)
  (h:wpList P ops Q rest (a.put o.dst undef) (w.setRow g (putAt old off cells))):wpList P ops Q (o :: rest) a w :=
 wpList_plain hgd fun _ hK=>Bg ty x y ho g off cells hx hy t old hg hi hold h1 (hK _ _ h)
end
end Go.Proofs.YtgcmimcalmjaaaaGreatDoor
