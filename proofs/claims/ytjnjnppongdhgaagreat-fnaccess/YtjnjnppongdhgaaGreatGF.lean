import Derived.Test.YtjnjnppongdhgaaGreatKU
namespace Go.Proofs.YtjnjnppongdhgaaGreat
set_option linter.unusedVariables false
set_option linter.unusedSimpArgs false
open Go.Sort Go.RowKit
section
variable {P:Program} {ops:Array Oper} {C:World→Prop} {Q:Exit→Act→World→Prop}
def Y5 (ops:Array Oper) (z:Nat) (l:Array Bool):Prop:=z<ops.size→l.getD z true=false
def Dn (P:Program) (ops:Array Oper) (z:Nat) (C:World→Prop) (Q:Exit→Act→World→Prop):Nat→Array Bool→Act→World→Prop
 | 0,l,a,w=>Region.ready .any ops l=[]∧Q .normal a w
 | f+1,l,a,w=>(Region.ready .any ops l=[]→Q .normal a w)∧∀ i∈Region.ready .any ops l,wpOp P ops Q i (fun a' w'=>(Y5 ops z (l.setIfInBounds i true)→C w')∧Dn P ops z C Q f (l.setIfInBounds i true) a' w') a w
theorem Nk {z:Nat}:∀ (f:Nat) (l:Array Bool) (a:Act) (w:World),Dn P ops z C Q f l a w→wpAny P .any ops Q f l a w
 | 0,_,_,_,h=>h
 | f+1,l,a,w,h=>⟨h.1,fun i hi=>wpOp_mono (fun a' w' h'=>Nk f _ a' w' h'.2) (h.2 i hi)⟩
def Cj (P:Program) (ops:Array Oper) (C:World→Prop) (o:Oper) (v:Value) (a:Act):Prop:=Region.wanted o (yielded ops a.tmps)=true∧∀ w,C w→(execOp a.eval o).run P w=.ok (.value v) w
theorem Cj.of_same {o:Oper} {v:Value} {a a':Act} (hy:Cj P ops C o v a) (he:execOp a'.eval o=execOp a.eval o) (hw:Region.wanted o (yielded ops a'.tmps)=Region.wanted o (yielded ops a.tmps)):Cj P ops C o v a':=by
 unfold Cj at *;rw [he,hw];exact hy
theorem Cj.wpOp {i:Nat} {o:Oper} {v:Value} {a:Act} {w:World} (hi:ops[i]?=some o) (hw:C w) (hy:Cj P ops C o v a) {K:Act→World→Prop} (h:K (a.put o.dst v) w):wpOp P ops Q i K a w:=by
 unfold Go.wpOp;simp only [hi,hy.1,if_true,Oper.wp,hy.2 w hw,Oper.upon];exact .inl h
theorem Ur {j:Nat} {oi oj:Oper} {v:Value} (hj:ops[j]?=some oj) (hap:oi.apart ops oj=true)
  (hsi:∀ cs b,oi.op≠.select cs b) (hsj:∀ cs b,oj.op≠.select cs b)
  (hQ:∀ c a w,Q (.panic c) (a.put oi.dst v) w→Q (.panic c) a w) {K:Act→World→Prop} {a:Act} {w:World}
  (hy:Cj P ops C oi v a) (h:wpOp P ops Q j K (a.put oi.dst v) w) :
  wpOp P ops Q j (fun a' w'=>Cj P ops C oi v a'∧K (a'.put oi.dst v) w') a w:=by
 obtain ⟨h1,h2,h3⟩:=Oper.apart_spec hap
 have keep:∀ (a:Act),Cj P ops C oi v a→∀ u,Cj P ops C oi v (a.put oj.dst u):=fun a hy u =>
  hy.of_same (execOp_put oi hsi a oj.dst u h3) (wanted_put oi a oj.dst u h3)
 have keepD:∀ d,Cj P ops C oi v { a with defers:=d :: a.defers }:=fun d=>hy.of_same rfl rfl
 unfold wpOp at *;simp only [hj] at *;rw [wanted_put oj a oi.dst v h1] at h;split
 ·rename_i hw
  simp only [hw,if_true] at h
  rcases h with h | ⟨hasks,hlets⟩
  case inr=>exact .inr ⟨by unfold Oper.asks at *; rw [execOp_put oj hsj a oi.dst v h1] at hasks; exact hasks,hlets⟩
  refine .inl ?_;unfold Oper.wp at *;rw [execOp_put oj hsj a oi.dst v h1] at h;generalize (execOp a.eval oj).run P w=r at *
  cases r with
  | ok n w' =>
   cases n <;> simp only [Oper.upon] at h ⊢
   case value u=>exact ⟨keep a hy u,by rw [← Act.put_comm a v u h2]; exact h⟩
   case skip=>exact ⟨keep a hy _,by rw [← Act.put_comm a v undef h2]; exact h⟩
   case defer d =>
    refine ⟨keep _ (keepD d) _,?_⟩;rw [← Act.put_comm _ v undef h2,← Act.put_defers];exact h
   case enter f args =>
    refine Calls.mono h fun e w'' he=>?_
    cases e with
    | returned u=>exact ⟨keep a hy u,by rw [← Act.put_comm a v u h2]; exact he⟩
    | panicked c=>exact hQ _ _ _ he
    | outgrown=>exact he
   case row row args=>exact Rows.mono h fun u w'' he=>⟨keep a hy u,by rw [← Act.put_comm a v u h2]; exact he⟩
  | halt x w' =>
   cases x <;> simp only [Oper.upon] at h ⊢
   case panic u=>exact hQ _ _ _ h
 ·rename_i hw
  simp only [hw] at h;exact ⟨keep a hy _,by rw [← Act.put_comm a v undef h2]; exact h⟩
theorem Ox {z i:Nat} {l:Array Bool} (h:z≠i):Y5 ops z (l.setIfInBounds i true) ↔ Y5 ops z l:=by
 unfold Y5;rw [getD_set_ne true (Ne.symm h)]
theorem Jb {z i:Nat} {oi:Oper} {v:Value} {C0:World→Prop} (hi:ops[i]?=some oi) (hsel:∀ (j:Nat) (o:Oper) cs b,ops[j]?=some o→o.op≠.select cs b)
  (hQ:∀ c a w,Q (.panic c) (a.put oi.dst v) w→Q (.panic c) a w) (hzi:z≠i) (hsub:∀ (l:Array Bool) (w:World),l.size=ops.size→Closed ops l→l.getD i true=false→(Y5 ops z l→C w)→C0 w) :
  ∀ (f:Nat) (l:Array Bool) (a:Act) (w:World),l.size=ops.size→Closed ops l→(Y5 ops z l→C w) →
   (∀ j oj,ops[j]?=some oj→j≠i→l.getD j true=false→(∀ e∈oj.after,Region.binds .any e=true→e.on≠i)→oi.apart ops oj=true) →
   i∈Region.ready .any ops l→Cj P ops C0 oi v a →
   Dn P ops z C Q f (l.setIfInBounds i true) (a.put oi.dst v) w→Dn P ops z C Q (f+1) l a w:=by
 intro f
 induction f with
 | zero =>
  intro l a w hs hcl hw _ hr hy H;refine ⟨fun h=>(by rw [h] at hr; cases hr),fun j hj=>?_⟩
  by_cases hji:j=i
  ·subst hji; exact hy.wpOp hi (hsub l w hs hcl (mem_ready.1 hr).1 hw) ⟨fun h=>hw ((Ox hzi).1 h),H⟩
  ·have:=ready_mono hj hji
   rw [H.1] at this;cases this
 | succ f ih =>
  intro l a w hs hcl hw hfree hr hy H;refine ⟨fun h=>(by rw [h] at hr; cases hr),fun j hj=>?_⟩
  by_cases hji:j=i
  ·subst hji; exact hy.wpOp hi (hsub l w hs hcl (mem_ready.1 hr).1 hw) ⟨fun h=>hw ((Ox hzi).1 h),H⟩
  ·have h1:=H.2 j (ready_mono hj hji)
   obtain ⟨hjun,oj,hoj,hall⟩:=mem_ready.1 hj;have h0:=(mem_ready.1 hr).1
   have hnot:∀ e∈oj.after,Region.binds .any e=true→e.on≠i:=fun e he hb heq=>by
    have h1:=hall e he hb;rw [heq] at h1
    rcases Nat.lt_or_ge i l.size with h' | h'
    ·simp [h'] at h0 h1; rw [h0] at h1; cases h1
    ·simp [Array.getElem?_eq_none h'] at h1
   have h2:=Ur (C:=C0) hoj (hfree j oj hoj hji hjun hnot) (fun cs b=>hsel i oi cs b hi) (fun cs b=>hsel j oj cs b hoj) hQ hy h1
   have hfree':∀ k ok,ops[k]?=some ok→k≠i→(l.setIfInBounds j true).getD k true=false →
     (∀ e∈ok.after,Region.binds .any e=true→e.on≠i)→oi.apart ops ok=true:=fun k ok hk hki hun hno=>by
    refine hfree k ok hk hki ?_ hno
    by_cases hjk:j=k
    ·subst hjk; exact hjun
    ·rw [getD_set_ne true hjk] at hun; exact hun
   refine wpOp_mono (fun a' w' h3=>?_) h2;obtain ⟨hy',hC,hK⟩:=h3
   have hw':Y5 ops z (l.setIfInBounds j true)→C w':=fun h=>hC (by rw [Array.setIfInBounds_comm _ _ (Ne.symm hji)]; exact (Ox hzi).2 h)
   refine ⟨hw',ih (l.setIfInBounds j true) a' w' (by simpa using hs) (hcl.set hj) hw' hfree' (ready_mono hr (Ne.symm hji)) hy' ?_⟩;rw [Array.setIfInBounds_comm _ _ hji];exact hK
def Nl (Q:Exit→Act→World→Prop):Exit→Act→World→Prop:=fun e a w=>match e with | .normal=>Q .normal a w | _=>False
def S7 (ops:Array Oper) (l:Array Bool):Bool:=(List.range ops.size).all fun k=>!l.getD k false || (match ops[k]? with | some o=>o.after.all fun e=>!Region.binds .any e || l[e.on]?==some true | none=>false)
theorem Nm {l:Array Bool} (h:S7 ops l=true):Closed ops l:=fun k o hk ho j hj=>by
 have h1:=List.all_eq_true.1 h k (List.mem_range.2 (Array.getElem?_eq_some_iff.1 ho).1);rw [ho,Array.getD_eq_getD_getElem?,hk] at h1;simp only [Option.getD_some,Bool.not_true,Bool.false_or] at h1;unfold A1 at hj;rw [Array.any_eq_true'] at hj;obtain ⟨e,he,hb⟩:=hj;have h2:=(Array.all_eq_true_iff_forall_mem.1 h1) e he;simp only [Bool.and_eq_true,beq_iff_eq] at hb;rw [hb.1] at h2
 simpa [hb.2] using h2
def S8 (ops:Array Oper) (z i:Nat) (l:Array Bool):Bool:=Region.noSelect ops && Region.free .any ops l i && (Region.ready .any ops l).contains i && decide (l.size=ops.size) && S7 ops l && z != i
theorem Db {z f:Nat} (i:Nat) {oi:Oper} {v:Value} {l:Array Bool} {a:Act} {w:World} (hi:ops[i]?=some oi) (hB:S8 ops z i l=true) (hw:C w) (hy:Cj P ops (fun _=>True) oi v a)
  (h:Dn P ops z C (Nl Q) f (l.setIfInBounds i true) (a.put oi.dst v) w):Dn P ops z C (Nl Q) (f+1) l a w:=by
 unfold S8 at hB;simp only [Bool.and_eq_true,decide_eq_true_eq,bne_iff_ne] at hB;obtain ⟨⟨⟨⟨⟨hs,hf⟩,hr⟩,hl⟩,hcl⟩,hz⟩:=hB;exact Jb hi (Region.noSelect_spec hs) (fun _ _ _ hq=>False.elim hq) hz (fun _ _ _ _ _ _=>trivial) f l a w hl (Nm hcl) (fun _=>hw) (Region.free_spec hi hf) (by simpa using hr) hy h
theorem Gu {z f:Nat} (i:Nat) {oi:Oper} {v:Value} {l:Array Bool} {a:Act} {w:World} (hi:ops[i]?=some oi) (hB:(S8 ops z i l && (decide (ops.size≤z) || Ip ops 6 z i))=true) (hw:C w) (hy:Cj P ops C oi v a)
  (h:Dn P ops z C (Nl Q) f (l.setIfInBounds i true) (a.put oi.dst v) w):Dn P ops z C (Nl Q) (f+1) l a w:=by
 unfold S8 at hB;simp only [Bool.and_eq_true,decide_eq_true_eq,bne_iff_ne,Bool.or_eq_true] at hB;obtain ⟨⟨⟨⟨⟨⟨hs,hf⟩,hr⟩,hl⟩,hcl⟩,hz⟩,hq⟩:=hB;refine Jb hi (Region.noSelect_spec hs) (fun _ _ _ hq=>False.elim hq) hz (fun l w hs' hcl' h0 hC=>hC fun hlt=>?_) f l a w hl (Nm hcl) (fun _=>hw) (Region.free_spec hi hf) (by simpa using hr) hy h
 rcases hq':l[z]? with _ | b
 ·rw [Array.getElem?_eq_none_iff] at hq'; omega
 ·cases b with
  | false=>rw [Array.getD_eq_getD_getElem?,hq']; rfl
  | true =>
   have h1:=Gt hcl' 6 z i hq' (hq.resolve_left (by omega));rw [Array.getD_eq_getD_getElem?,h1] at h0;cases h0
theorem Cm {z f:Nat} (i:Nat) {oi:Oper} {l:Array Bool} {a:Act} {w:World} (hi:ops[i]?=some oi) (hB:(Region.ready .any ops l==[i] && oi.guard.isNone)=true)
  (h:oi.wp P a w (fun a' w'=>(Y5 ops z (l.setIfInBounds i true)→C w')∧Dn P ops z C Q f (l.setIfInBounds i true) a' w') Q):Dn P ops z C Q (f+1) l a w:=by
 simp only [Bool.and_eq_true,beq_iff_eq] at hB;refine ⟨fun h0=>(by rw [hB.1] at h0; cases h0),fun j hj=>?_⟩;rw [hB.1] at hj;obtain rfl:=List.mem_singleton.1 hj;exact Hi hi (by simpa using hB.2) h
theorem Iq {z:Nat} {l:Array Bool} {a:Act} {w:World} (hr:(Region.ready .any ops l).isEmpty=true) (h:Q .normal a w):Dn P ops z C Q 0 l a w:=⟨by simpa using hr,h⟩
theorem Gv {id:Nat} (z:Nat) (C:World→Prop) {a:Act} {w:World} {t:List Oper} (hm:P.follows .mixedOrders=true) (h:Dn P t.toArray z C (Nl Q) t.toArray.size (Array.replicate t.toArray.size false) a (redrawn w (w.drawn+1))):(Code.region id t.toArray true).wp P Q a w :=
 wp_mono (Q:=Nl Q) (wp_region_any hm (Nk _ _ _ _ h)) (fun e a w hq=>by cases e <;> first | exact hq | exact False.elim hq)
theorem Ds {o:Oper} {a:Act} (x:Operand) (ho:o.op=.move x) (hg:o.guard=none):Cj P ops C o (a.eval x) a:=⟨by simp [Region.wanted,hg],fun w _=>by unfold execOp; simp [ho]⟩
theorem Gg {o:Oper} {a:Act} (x:Operand) (k:Nat) (ho:o.op=.extract x k) (hg:o.guard=none) {vs:Array Value} {v:Value} (hx:a.eval x=.tuple vs) (hv:vs[k]?=some v):Cj P ops C o v a:=⟨by simp [Region.wanted,hg],fun w _=>by unfold execOp; simp [ho,hx,Instr.extract,hv,Result.andThen]⟩
theorem Gw {o:Oper} {a:Act} (ty:TypeId) (x:Operand) (ho:o.op=.load ty x) (hgu:o.guard=none) (g:Nat) (hx:a.eval x=(pt g 0)) (t:TypeId) (cs:Array Value) (fr:Nat × Nat) (d:TypeDesc) (hg:∀ w,C w→w.heap[g]?=some (.cells cs t fr))
  (hu:P.underlying ty=some d) (hd:(match d with | .struct _ | .array _ _=>true | _=>false)=true) (hi:(P.info? ty).map (·.size)=some cs.size):Cj P ops C o (.agg cs) a:=⟨by simp [Region.wanted,hgu],fun w hw=>by
 unfold execOp
 simp only [ho,hx,Instr.loadAt,Instr.sureAddr,Sem.run_bind,Sem.run_pure,Result.andThen_ok,run_loadVar_row w g t ty cs fr d (hg w hw) hu hd hi]⟩
end
set_option maxHeartbeats 4000000
set_option maxRecDepth 40000
open Go.ChangeShapes Go.WideShapes Go.ChangeAt
theorem Mo (w:World) (D:Nat→Nat→Prop) (v:Value) (d:Ao) (a y:Int) (H:As w D v d):Calls Tryz.prog 13 #[v,.i a,.i y] w fun e w'=>∃ v',e=.returned v'∧Bt w' w.heap.size v' (if okLock d then A6 d a y else d)∧Below w.heap.size w w':=by
 obtain ⟨cs,rfl,hsz,hone⟩:=H.agg
 obtain ⟨rd,hrd⟩:∃ x,Hid (x=if okLock d then A6 d a y else d):=⟨_,rfl⟩
 rw [← hrd.out];have L0:Below w.heap.size w ((w.alloc (.cells cs 41)).alloc (.cells zR 41)):=((Below.refl _ _).alloc (Nat.le_refl _) _).alloc (by simp) _;have k0:((w.alloc (.cells cs 41)).alloc (.cells zR 41)).heap[w.heap.size]?=some (.cells cs 41 (0,0)):=A4 (Al w _ _) _
 have k1:((w.alloc (.cells cs 41)).alloc (.cells zR 41)).heap[w.heap.size+1]?=some (.cells zR 41 (0,0)):=by simpa using Al (w.alloc (.cells cs 41)) zR 41
 go_enter Tryz.func13,Tryz.ntmps13
 go_upto_region 1 with (fail);generalize (w.alloc (.cells cs 41)).alloc (.cells zR 41)=W0 at *;refine wp_region_lit ?_;refine wpList_load_row rfl _ _ rfl (w.heap.size) rfl _ _ _ _ k0 Tryz.underlying41 rfl (infoAt Af hsz) ?_;go_wp2_with fail;refine (Kf _ D _ d (H.below L0)).mono ?_;rintro e W1 ⟨vC,rfl,oC,L⟩;obtain ⟨cC,rfl,sC,oneC⟩:=oC.agg;have hb1:=Ae k1;have C1:=Ah L0 L;replace k0:=Aa k0 L (Ae k0);replace k1:=Aa k1 L (Ae k1);have l01:=L.size;clear L L0;have x6:=Al W1 cC 41;have LA:Below W1.heap.size W1 (W1.alloc (.cells cC 41)):=(Below.refl _ _).alloc (Nat.le_refl _) _;replace C1:=Ah C1 LA;replace k0:=Aa k0 LA (Ae k0);replace k1:=Aa k1 LA (Ae k1);replace oC:=oC.below LA;have lA:=LA.size;clear LA
 have hst:=run_storeCells_new (P:=Tryz.prog) W1 41 zR cC (infoAt Af sC) (by rw [sC]; rfl) oneC;go_upto_region 2 with (fail);clear hst
 obtain ⟨z,hz⟩:∃ z,Hid (z=W1.heap.size):=⟨_,rfl⟩
 rw [← hz.out] at x6 ⊢;clear hz;generalize W1.alloc (.cells cC 41)=W2 at *;refine wp_region_lit ?_;refine wpList_load_row rfl _ _ rfl (w.heap.size) rfl _ _ _ _ k0 Tryz.underlying41 rfl (infoAt Af hsz) ?_;go_wp2_with fail;refine (Dz _ D _ d (H.keep (Ab C1 Ak) (fun _ _ _ _ _ x=>x))).mono ?_;rintro e W3 ⟨rfl,L⟩;replace C1:=Ah C1 L;replace k0:=Aa k0 L (Ae k0);replace k1:=Aa k1 L (Ae k1);replace x6:=Aa x6 L (Ae x6);replace oC:=oC.below L;have l23:=L.size;clear L;cases hok:okLock d
 ·have E1:Hid (rd=d):=by show _=_; rw [hrd.out,hok]; rfl
  go_upto_region 3 with (fail);rename_i K2 hK2;refine wp_region_lit ?_;refine wpList_load_row rfl _ _ rfl (z) rfl _ _ _ _ x6 Tryz.underlying41 rfl (infoAt Af sC) ?_;refine wpList_store_row rfl _ _ _ rfl (w.heap.size+1) cC rfl rfl _ _ k1 (infoAt Af sC) (by rw [sC]; rfl) oneC ?_;have B3:=setRow_heap _ _ _ cC _ _ k1;have WW:=An k1 cC;have OO:=Ac (oC.low WW (fun b o (e:b=_)=>by omega));have LL:=Ac (C1.trans (WW.below C1.size (fun b o hb (e:b=_)=>by omega)));clear WW oC C1 k0 x6;generalize W3.setRow (w.heap.size+1) cC=W4 at *;refine hK2 _ _ ?_;go_wp2;refine bodyPost_ret (v:=.agg cC) (results_cell_row Tryz.results13 _ _ (w.heap.size+1) _ _ _ _ rfl B3 Tryz.underlying41 rfl (infoAt Af sC)) rfl ?_;rw [E1.out];exact ⟨_,rfl,OO.out.keepLo (by omega),LL.out⟩
 ·have E1:Hid (rd=A6 d a y):=by show _=_; rw [hrd.out,hok]; rfl
  go_upto_region 4 with (fail);rename_i K2 hK2;refine wp_region_lit ?_;refine wpList_load_row rfl _ _ rfl (z) rfl _ _ _ _ x6 Tryz.underlying41 rfl (infoAt Af sC) ?_;go_wp2_with fail;rename_i K3 hK3;refine (Ww _ W0.heap.size _ d a y oC (by omega) hok).mono ?_;rintro e W4 ⟨vR,rfl,oR,LB⟩;obtain ⟨cR,rfl,sR,oneR⟩:=oR.agg;replace C1:=C1.trans (LB.mono (by omega));replace k1:=Aa k1 LB (by omega);have l34:=LB.size;clear oC x6 k0 LB;refine hK3 _ _ ?_;clear hK3;refine wpList_store_row rfl _ _ _ rfl (w.heap.size+1) cR rfl rfl _ _ k1 (infoAt Af sR) (by rw [sR]; rfl) oneR ?_;have B3:=setRow_heap _ _ _ cR _ _ k1;have WW:=An k1 cR;have OO:=Ac (oR.low WW (fun b o (e:b=_)=>by omega));have LL:=Ac (C1.trans (WW.below C1.size (fun b o hb (e:b=_)=>by omega)));clear WW oR C1;generalize W4.setRow (w.heap.size+1) cR=W6 at *
  refine hK2 _ _ ?_;go_wp2;refine bodyPost_ret (v:=.agg cR) (results_cell_row Tryz.results13 _ _ (w.heap.size+1) _ _ _ _ rfl B3 Tryz.underlying41 rfl (infoAt Af sR)) rfl ?_;rw [E1.out];exact ⟨_,rfl,OO.out.keepLo (by omega),LL.out⟩
theorem Kv (w:World) (B c:Nat) (a:Option Addr) (len cap:Nat) (H:Dl w B c a len cap) :
  Calls Tryz.prog 16 #[(pt c 0)] w fun e w'=>∃ x:Int,e=.returned (.i x)∧Dl w' B c a len cap∧Step c w w':=by
 have hcw:=H.lt;have HZ:=Ac (Mw w [0,1,255,256,511,512,8191,8192,8194,8199,16383,16384,16387,16388,16406,20000,32767,32768,33000,49151,49152,49200,65530,65535,65536,-1] 3);have HA:=H.alloc (.cells ([0,1,255,256,511,512,8191,8192,8194,8199,16383,16384,16387,16388,16406,20000,32767,32768,33000,49151,49152,49200,65530,65535,65536,-1].map (Value.int .i64)).toArray 3) hcw;have SA:=(Step.refl c w).alloc (.cells ([0,1,255,256,511,512,8191,8192,8194,8199,16383,16384,16387,16388,16406,20000,32767,32768,33000,49151,49152,49200,65530,65535,65536,-1].map (Value.int .i64)).toArray 3)
 go_enter Tryz.func16,Tryz.ntmps16
 go_wp2_with fail;refine (Ep _ B c a len cap HA w.heap.size 26 (by omega) (by omega) (by omega) (ix [0,1,255,256,511,512,8191,8192,8194,8199,16383,16384,16387,16388,16406,20000,32767,32768,33000,49151,49152,49200,65530,65535,65536,-1]) (Ad HZ)).mono ?_;rintro e w2 ⟨j0,rfl,hj0,H2,O2⟩;generalize ix [0,1,255,256,511,512,8191,8192,8194,8199,16383,16384,16387,16388,16406,20000,32767,32768,33000,49151,49152,49200,65530,65535,65536,-1] j0=x at *;clear HZ;go_wp2;go_ret;exact ⟨x,rfl,H2,SA.trans O2.step⟩
end Go.Proofs.YtjnjnppongdhgaaGreat
