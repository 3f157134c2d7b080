import Derived.Test.YtfjieibndedngaaGreatE9
import Derived.Deep.CutBlock
namespace Go.Proofs.YtfjieibndedngaaGreat
set_option maxHeartbeats 16000000
set_option maxRecDepth 20000
set_option linter.unusedVariables false
set_option linter.unusedSimpArgs false
open Go.ChangeShapes Go.WideShapes Go.ChangeAt Go.RowKit Go.Sort
theorem Fo {P:Program} {fn:Func} {p q:Tmp} {ty ty':TypeId} (h:fn.results=#[.cell p ty,.cell q ty']) (tmps:Array Value) (w:World) (g g':Nat) (t t':TypeId) (cs cs':Array Value) (fr fr':Nat × Nat) (dd dd':TypeDesc)
  (hp:tmps.getD p undef=(pt g 0)) (hq:tmps.getD q undef=(pt g' 0)) (hg:w.heap[g]?=some (.cells cs t fr)) (hg':w.heap[g']?=some (.cells cs' t' fr')) (hu:P.underlying ty=some dd) (hu':P.underlying ty'=some dd') (hd:(match dd with | .struct _ | .array _ _=>true | _=>false)=true) (hd':(match dd' with | .struct _ | .array _ _=>true | _=>false)=true) (hi:(P.info? ty).map (·.size)=some cs.size) (hi':(P.info? ty').map (·.size)=some cs'.size) :
  (results fn tmps).run P w=.ok (.tuple #[.agg cs,.agg cs']) w:=by
 have hp':tmps[p]?.getD undef=(pt g 0):=by simpa using hp
 have hq':tmps[q]?.getD undef=(pt g' 0):=by simpa using hq
 simp [results,h,hp',hq',asAddr,run_loadVar_row w g t ty cs fr dd hg hu hd hi,run_loadVar_row w g' t' ty' cs' fr' dd' hg' hu' hd' hi']
theorem Bn.int1 {W:World} {D:Nat→Prop} {u:Value} {n:Nat} {g:Nat→Int} {bank:Int} (h:Bn W D (.agg #[u,.i bank]) n g bank):Ints .i64 W (On D) u n g:=by
 obtain ⟨y,e,H⟩:=h.ints;simp only [Value.agg.injEq,Array.mk.injEq,List.cons.injEq,and_true] at e;rw [e];exact H
structure J2 (w:World) (D:Nat→Prop) (W:World) (l:Ir) (q:Value) (g:Nat→Int) (bank:Int):Prop extends Dv w D W l where
 M:Bn W D (.agg #[q,.i bank]) 512 g bank
 lo:∀ b,D b→w.heap.size≤b
section
variable {w W W':World} {D:Nat→Prop} {l:Ir} {i b:Nat} {cs:Array Value} {t:TypeId} {q:Value} {g g':Nat→Int} {bank:Int}
theorem Dv.own (h:Dv w D W l) (L:Below W.heap.size W W') (O:Au W' W.heap.size q 512 g):∃ D',J2 w D' W' l q g bank:=⟨_,h.re L,(Bn.own O).mono (fun _ hb h=>⟨h,hb⟩),fun _ hb=>Nat.le_trans h.below.size hb.1⟩
theorem J2.call (h:J2 w D W l q g bank) (L:Below W.heap.size W W'):J2 w D W' l q g bank:=⟨h.toDv.call L,h.M.below L,h.lo⟩
theorem J2.alloc (h:J2 w D W l q g bank) (cs:Array Value) (t:TypeId) (n:Nat) (e:W.heap.size=n):J2 w D (W.alloc (.cells cs t)) (l++[(n,cs,t)]) q g bank:=⟨h.toDv.alloc cs t n e,h.M.below ((Below.refl _ _).alloc (Nat.le_refl _) _),h.lo⟩
theorem J2.row (h:J2 w D W l q g bank) (i:Nat) (e:l[i]?=some (b,cs,t)) (cs':Array Value):J2 w D (W.setRow b cs') (l.set i (b,cs',t)) q g bank:=⟨h.toDv.row i e cs',h.toDv.mem i e (Ce (h.ret i e) cs') h.M,h.lo⟩
theorem J2.cell (h:J2 w D W l q g bank) (i:Nat) (e:l[i]?=some (b,cs,t)) (o:Nat) (v:Value) {cs':Array Value} (hc:cs.setIfInBounds o v=cs'):J2 w D (W.setCell ⟨b,o,none⟩ v) (l.set i (b,cs',t)) q g bank:=⟨h.toDv.cell i e o v hc,h.toDv.mem i e (Bz W b o v) h.M,h.lo⟩
theorem J2.take (h:J2 w D W l q g bank) (n:Nat):J2 w D W (l.take n) q g bank:=⟨h.toDv.take n,h.M,h.lo⟩
theorem J2.one (h:J2 w D W l q g bank):(#[q,.i bank]:Array Value).all (·.oneCell')=true:=by
 obtain ⟨a,c,e⟩:=h.M.two;simp only [Value.agg.injEq,Array.mk.injEq,List.cons.injEq,and_true] at e;subst e
 first | kernel_rfl | simp [Value.oneCell']
theorem J2.ints (h:J2 w D W l q g bank):Ints .i64 W (On D) q 512 g:=h.M.int1
theorem J2.fin {R:Nat→Nat→Prop} (h:J2 w D W l q g bank) (TT:Wrote R W W') (hR:∀ b o,R b o→∃ (i:Nat) (cs:Array Value) (t:TypeId),l[i]?=some (b,cs,t)):Au W' w.heap.size q 512 g∧Below w.heap.size w W':=by
 refine ⟨?_,h.below.trans (TT.below h.below.size fun b o hb hr=>?_)⟩
 ·obtain ⟨a,cap,e,hn,hr,hF,hd⟩:=h.M.keep TT (fun b o hd _ hr=>by obtain ⟨i,cs,t,e⟩:=hR b o hr; exact h.no i e hd)
  simp only [Value.agg.injEq,Array.mk.injEq,List.cons.injEq,and_true] at e;exact ⟨a,cap,e,hn,hr,hF,fun b o hf=>h.lo b (hd b o hf)⟩
 ·obtain ⟨i,cs,t,e⟩:=hR b o hr
  have:=(h.all _ (List.mem_of_getElem? e)).2.1
  omega
end
def Kt (c:Bd):Bd:={ c with S:=dec8 c.S }
theorem Qb (c:Bd) (v:Int) {G:Nat→Nat→Prop} {u:Value} {g:Nat→Int} {bank:Int} {w:World} (K:Ints .i64 w G u 512 g):Calls Tryz.prog 86 #[.agg #[u,.i bank],.agg c.a,.i v] w fun e w'=>∃ q,e=.returned (.tuple #[.agg #[q,.i bank],.agg (Kt c).a])∧Au w' w.heap.size q 512 (Eg g c.S v)∧Below w.heap.size w w':=El w G u g bank K c.A c.X c.S c.Pc c.Z c.N c.C c.I v
def Wd (c:Bd) (v:Int):Bd:={ c with Z:=hasB v 2,N:=hasB v 128,C:=hasB v 1,I:=hasB v 4 }
theorem U0 (c:Bd) (v:Int) (w:World):Calls Tryz.prog 61 #[.agg c.a,.i v] w fun e w'=>e=.returned (.agg (Wd c v).a)∧Below w.heap.size w w':=Gq w c.A c.X c.S c.Pc c.Z c.N c.C c.I v
theorem Mx (w:World) (G:Nat→Nat→Prop) (u:Value) (g:Nat→Int) (bank:Int) (K:Ints .i64 w G u 512 g) (c:Bd) (hPc:0≤c.Pc∧c.Pc≤65535) (op arg v:Int):Calls Tryz.prog 77 #[.agg #[u,.i bank],c.v,.agg #[.i op,.i arg],.i v] w fun e w'=>∃ q,e=.returned (.tuple #[.agg #[q,.i bank],(Ex g c op arg v).v])∧Au w' w.heap.size q 512 (Ge g c op)∧Below w.heap.size w w':=by
 have hl1:=Uz op
 have hwr:IntKind.i64.wrap (c.Pc+opLn op)=c.Pc+opLn op:=by rw [IntKind.wrap_i64]; omega
 have HLn:∀ W,Calls Tryz.prog 84 #[.i op] W fun e w'=>e=.returned (.i (opLn op))∧Below W.heap.size W w':=fun W=>Ig W op
 obtain ⟨ok,hok⟩:∃ x,Hid (x=Gy op):=⟨_,rfl⟩
 have HAlu:=Ad (fun W=>Ry (nextC c op) op arg v W);rw [← hok.out] at HAlu
 show Calls Tryz.prog 77 #[.agg #[u,.i bank],.agg c.a,.agg #[.i op,.i arg],.i v] w fun e w'=>∃ q,e=.returned (.tuple #[.agg #[q,.i bank],.agg (Ex g c op arg v).a])∧Au w' w.heap.size q 512 (Ge g c op)∧Below w.heap.size w w'
 have E:=(((((Dv.nil w).alloc #[u,.i bank] 34 w.heap.size rfl).alloc c.a 36 (w.heap.size+1) (by simp)).alloc #[.i op,.i arg] 106 (w.heap.size+1+1) (by simp)).alloc mZ 34 (w.heap.size+1+1+1) (by simp)).alloc cZ 36 (w.heap.size+1+1+1+1) (by simp)
 go_enter Tryz.func77,Tryz.ntmps77
 go_upto_region 1 with (fail);generalize ((((w.alloc (.cells #[u,.i bank] 34)).alloc (.cells c.a 36)).alloc (.cells #[.i op,.i arg] 106)).alloc (.cells mZ 34)).alloc (.cells cZ 36)=W0 at *;rename_i K1 hK1;refine wp_region_lit ?_;refine wpList_load_row rfl _ _ rfl (w.heap.size) rfl _ _ _ _ (E.ret 0 rfl) Tryz.underlying34 rfl Bf ?_;refine wpList_plain rfl (fun K9 hK9=>?_);go_simp;refine (Jh W0 G _ 512 g bank (K.keep (Aa E.below Ah) (fun _ _ _ x=>x))).mono ?_;rintro e W1 ⟨q,rfl,O,L⟩;obtain ⟨D,E⟩:=E.own (bank:=bank) L O;clear O L;refine hK9 _ _ ?_;clear hK9
 (refine wpList_plain rfl (fun K9 hK9=>?_); go_simp; refine hK9 _ _ ?_; clear hK9)
 replace E:=E.alloc mZ 34 _ rfl;generalize W1.heap.size=bo at *;generalize W1.alloc (.cells mZ 34)=W2 at *;refine wpList_store_row rfl _ _ _ rfl (bo) #[q,.i bank] rfl rfl _ _ (E.ret 5 rfl) Bf rfl E.one ?_;replace E:=E.row 5 rfl #[q,.i bank];generalize W2.setRow bo #[q,.i bank]=W3 at *;refine hK1 _ _ ?_;clear hK1;go_upto_region 2 with (fail);rename_i K1 hK1;have g0:=E.getG 1 rfl 3 (v:=.i c.Pc) rfl;have g1:=E.getG 2 rfl 0 (v:=.i op) rfl;refine Cx (n:=8) (by kernel_rfl) (by kernel_rfl) rfl ?_;simp only [List.take_succ_cons,List.take_zero,Act.put,List.setIfInBounds_toArray,List.set_cons_succ,List.set_cons_zero]
 iterate 8 (go_big_quiet_step (first | (go_at_call 84; exact Calls.regrown_of (HLn _)) | (go_at_call 88; exact Calls.regrown_of ((B8 _ _).mono fun e w' ⟨h1,h2⟩=>⟨h1,h2 ▸ Below.refl _ _⟩))))
 refine wpQuiet_nil ?_;intro w' hw';obtain ⟨⟨d,os⟩,rfl⟩:=hw';replace E:=E.call (below_regrown W3 d os);have fc:=Ax (E.ret 1 rfl);have c3:=E.get 1 rfl 3 (v:=.i c.Pc) rfl;clear g0 g1;generalize grow (redrawn W3 d) os=W4 at *;go_simp;replace E:=E.cell 1 rfl 3 (.i ((c.Pc+opLn op)%65536)) (cs':=(nextC c op).a) rfl;generalize W4.setCell ⟨w.heap.size+1,3,none⟩ (.i ((c.Pc+opLn op)%65536))=W5 at *;clear fc c3 hwr HLn;refine hK1 _ _ ?_;clear hK1;go_upto_region 3 with (fail);rename_i K1 hK1;refine wp_region_lit ?_;refine wpList_load_row rfl _ _ rfl (w.heap.size+1) rfl _ _ _ _ (E.ret 1 rfl) Tryz.underlying36 rfl Aq ?_;have c_i:=Aj (E.ret 2 rfl)
 iterate 2 (refine wpList_plain rfl (fun K9 hK9=>?_); go_simp; refine hK9 _ _ ?_; clear hK9)
 refine wpList_plain rfl (fun K9 hK9=>?_);go_simp;refine (HAlu.out _).mono ?_;rintro e W6 ⟨rfl,L⟩;replace E:=E.call L;clear L c_i;refine hK9 _ _ ?_;clear hK9
 iterate 4 (refine wpList_plain rfl (fun K9 hK9=>?_); go_simp; refine hK9 _ _ ?_; clear hK9)
 replace E:=E.alloc cZ 36 _ rfl;generalize W6.heap.size=bn at *;generalize W6.alloc (.cells cZ 36)=W7 at *;refine wpList_store_row rfl _ _ _ rfl (bn) (aluC (nextC c op) op arg v).a rfl rfl _ _ (E.ret 6 rfl) Aq rfl (Bd.one _) ?_;replace E:=E.row 6 rfl (aluC (nextC c op) op arg v).a;generalize W7.setRow bn (aluC (nextC c op) op arg v).a=W8 at *
 (refine wpList_plain rfl (fun K9 hK9=>?_); go_simp; refine hK9 _ _ ?_; clear hK9)
 refine hK1 _ _ ?_;clear hK1;cases ok
 ·have ho:Gy op=false:=hok.out.symm
  clear hok HAlu;replace E:=E.take 6;have c_i:=Aj (E.ret 2 rfl)
  go_upto_block 0 with (fail)
  clear c_i
  go_cut [] (fun wc=>∃ D q,J2 w D wc [(w.heap.size,#[u,.i bank],34),(w.heap.size+1,(Ex g c op arg v).a,36),(w.heap.size+1+1,#[.i op,.i arg],106),(w.heap.size+1+1+1,mZ,34),(w.heap.size+1+1+1+1,cZ,36),(bo,#[q,.i bank],34)] q (Ge g c op) bank)
  case first =>
   have c_i:=Aj (E.ret 2 rfl);have f_c:=Ax (E.ret 1 rfl);have c0:=E.get 1 rfl 0 (v:=.i c.A) rfl;have c3:=E.get 1 rfl 3 (v:=.i (nextC c op).Pc) rfl;have c4:=E.get 1 rfl 4 (v:=.bool c.Z) rfl;have c6:=E.get 1 rfl 6 (v:=.bool c.C) rfl;have c7:=E.get 1 rfl 7 (v:=.bool c.I) rfl
   by_cases hj:op=16∧c.Z=false∨op=17∧c.Z=true∨op=18∧c.C=true∨op=19
   ·have E1:Ex g c op arg v={ nextC c op with Pc:=arg%65536 }∧Ge g c op=g:=by
     rcases hj with ⟨rfl,h⟩ | ⟨rfl,h⟩ | ⟨rfl,h⟩ | rfl <;> refine ⟨?_,rfl⟩ <;> first | rfl | (show (if _=true then _ else _)=_; rw [h]; rfl)
    rcases hj with ⟨rfl,h⟩ | ⟨rfl,h⟩ | ⟨rfl,h⟩ | rfl
    all_goals
     try rw [h] at c4
     try rw [h] at c6
     go_upto_region 12 with (fail);refine wp_region_lit ?_
     iterate 2 (refine wpList_plain rfl (fun K9 hK9=>?_); go_simp; refine hK9 _ _ ?_; clear hK9)
     refine wpList_plain rfl (fun K9 hK9=>?_);go_simp;refine (B8 arg _).mono ?_;rintro e W9 ⟨rfl,rfl⟩;refine hK9 _ _ ?_;clear hK9
     iterate 2 (refine wpList_plain rfl (fun K9 hK9=>?_); go_simp; refine hK9 _ _ ?_; clear hK9)
     go_wp2
     go_meet
     refine ⟨D,q,?_⟩;rw [E1.1,E1.2];exact E.cell 1 rfl 3 (.i (arg%65536)) rfl
   by_cases hs:op=16∧c.Z=true∨op=17∧c.Z=false∨op=18∧c.C=false
   ·have E1:Ex g c op arg v=nextC c op∧Ge g c op=g:=by
     rcases hs with ⟨rfl,h⟩ | ⟨rfl,h⟩ | ⟨rfl,h⟩ <;> refine ⟨?_,rfl⟩ <;> (show (if _=true then _ else _)=_; rw [h]; rfl)
    rcases hs with ⟨rfl,h⟩ | ⟨rfl,h⟩ | ⟨rfl,h⟩
    all_goals
     try rw [h] at c4
     try rw [h] at c6
     go_wp2
     go_meet
     refine ⟨D,q,?_⟩;rw [E1.1,E1.2];exact E
   by_cases h20:op=20
   ·subst h20
    go_upto_region 14 with (fail);rename_i K1 hK1;refine wp_region_lit ?_;refine wpList_load_row rfl _ _ rfl (bo) rfl _ _ _ _ (E.ret 5 rfl) Tryz.underlying34 rfl Bf ?_;refine wpList_load_row rfl _ _ rfl (w.heap.size+1) rfl _ _ _ _ (E.ret 1 rfl) Tryz.underlying36 rfl Aq ?_
    (refine wpList_plain rfl (fun K9 hK9=>?_); go_simp; refine hK9 _ _ ?_; clear hK9)
    iterate 2 (refine wpList_plain rfl (fun K9 hK9=>?_); go_simp; refine hK9 _ _ ?_; clear hK9)
    refine wpList_plain rfl (fun K9 hK9=>?_);go_simp;refine (Qb (nextC c 20) _ E.ints).mono ?_;rintro e W9 ⟨q1,rfl,O,L⟩;obtain ⟨D,E⟩:=E.toDv.own (bank:=bank) L O;clear O L;refine hK9 _ _ ?_;clear hK9
    iterate 3 (refine wpList_plain rfl (fun K9 hK9=>?_); go_simp; refine hK9 _ _ ?_; clear hK9)
    refine wpList_store_row rfl _ _ _ rfl (bo) #[q1,.i bank] rfl rfl _ _ (E.ret 5 rfl) Bf rfl E.one ?_;replace E:=E.row 5 rfl #[q1,.i bank];refine wpList_store_row rfl _ _ _ rfl (w.heap.size+1) (Kt (nextC c 20)).a rfl rfl _ _ (E.ret 1 rfl) Aq rfl (Bd.one _) ?_;replace E:=E.row 1 rfl (Kt (nextC c 20)).a;refine hK1 _ _ ?_;clear hK1;have c3:=E.get 1 rfl 3 (v:=.i (nextC c 20).Pc) rfl;go_upto_region 15 with (fail);rename_i K1 hK1;refine wp_region_lit ?_;refine wpList_load_row rfl _ _ rfl (bo) rfl _ _ _ _ (E.ret 5 rfl) Tryz.underlying34 rfl Bf ?_;refine wpList_load_row rfl _ _ rfl (w.heap.size+1) rfl _ _ _ _ (E.ret 1 rfl) Tryz.underlying36 rfl Aq ?_
    (refine wpList_plain rfl (fun K9 hK9=>?_); go_simp; refine hK9 _ _ ?_; clear hK9)
    (refine wpList_plain rfl (fun K9 hK9=>?_); go_simp; refine hK9 _ _ ?_; clear hK9)
    refine wpList_plain rfl (fun K9 hK9=>?_);go_simp;refine (Qb (Kt (nextC c 20)) _ E.ints).mono ?_;rintro e W10 ⟨q2,rfl,O,L⟩;obtain ⟨D,E⟩:=E.toDv.own (bank:=bank) L O;clear O L;refine hK9 _ _ ?_;clear hK9
    iterate 3 (refine wpList_plain rfl (fun K9 hK9=>?_); go_simp; refine hK9 _ _ ?_; clear hK9)
    refine wpList_store_row rfl _ _ _ rfl (bo) #[q2,.i bank] rfl rfl _ _ (E.ret 5 rfl) Bf rfl E.one ?_;replace E:=E.row 5 rfl #[q2,.i bank];refine wpList_store_row rfl _ _ _ rfl (w.heap.size+1) (Kt (Kt (nextC c 20))).a rfl rfl _ _ (E.ret 1 rfl) Aq rfl (Bd.one _) ?_;replace E:=E.row 1 rfl (Kt (Kt (nextC c 20))).a;refine hK1 _ _ ?_;clear hK1;have c3:=E.get 1 rfl 3 (v:=.i (nextC c 20).Pc) rfl;have c_i:=Aj (E.ret 2 rfl);have f_c:=Ax (E.ret 1 rfl);go_upto_region 16 with (fail);refine wp_region_lit ?_
    iterate 2 (refine wpList_plain rfl (fun K9 hK9=>?_); go_simp; refine hK9 _ _ ?_; clear hK9)
    refine wpList_plain rfl (fun K9 hK9=>?_);go_simp;refine (B8 arg _).mono ?_;rintro e W9 ⟨rfl,rfl⟩;refine hK9 _ _ ?_;clear hK9
    iterate 2 (refine wpList_plain rfl (fun K9 hK9=>?_); go_simp; refine hK9 _ _ ?_; clear hK9)
    go_wp2
    go_meet
    exact ⟨_,_,E.cell 1 rfl 3 (.i (arg%65536)) rfl⟩
   by_cases h21:op=21
   ·subst h21
    go_upto_region 18 with (fail);refine wp_region_lit ?_;refine wpList_load_row rfl _ _ rfl (w.heap.size) rfl _ _ _ _ (E.ret 0 rfl) Tryz.underlying34 rfl Bf ?_;refine wpList_load_row rfl _ _ rfl (w.heap.size+1) rfl _ _ _ _ (E.ret 1 rfl) Tryz.underlying36 rfl Aq ?_;refine wpList_plain rfl (fun K9 hK9=>?_);go_simp;refine (J1 (nextC c 21) bank (K.keep (Aa E.below Ah) (fun _ _ _ x=>x))).mono ?_;rintro e W9 ⟨rfl,L⟩;replace E:=E.call L;refine hK9 _ _ ?_;clear hK9;refine wpList_store_row rfl _ _ _ rfl (w.heap.size+1) (Lm g (nextC c 21)).a rfl rfl _ _ (E.ret 1 rfl) Aq rfl (Bd.one _) ?_;replace E:=E.row 1 rfl (Lm g (nextC c 21)).a;go_wp2
    go_meet
    exact ⟨_,_,E⟩
   by_cases h22:op=22
   ·subst h22
    go_upto_region 20 with (fail);refine wp_region_lit ?_;refine wpList_load_row rfl _ _ rfl (bo) rfl _ _ _ _ (E.ret 5 rfl) Tryz.underlying34 rfl Bf ?_;refine wpList_load_row rfl _ _ rfl (w.heap.size+1) rfl _ _ _ _ (E.ret 1 rfl) Tryz.underlying36 rfl Aq ?_
    (refine wpList_plain rfl (fun K9 hK9=>?_); go_simp; refine hK9 _ _ ?_; clear hK9)
    (refine wpList_plain rfl (fun K9 hK9=>?_); go_simp; refine hK9 _ _ ?_; clear hK9)
    refine wpList_plain rfl (fun K9 hK9=>?_);go_simp;refine (Qb (nextC c 22) _ E.ints).mono ?_;rintro e W9 ⟨q1,rfl,O,L⟩;obtain ⟨D,E⟩:=E.toDv.own (bank:=bank) L O;clear O L;refine hK9 _ _ ?_;clear hK9
    iterate 3 (refine wpList_plain rfl (fun K9 hK9=>?_); go_simp; refine hK9 _ _ ?_; clear hK9)
    refine wpList_store_row rfl _ _ _ rfl (bo) #[q1,.i bank] rfl rfl _ _ (E.ret 5 rfl) Bf rfl E.one ?_;replace E:=E.row 5 rfl #[q1,.i bank];refine wpList_store_row rfl _ _ _ rfl (w.heap.size+1) (Kt (nextC c 22)).a rfl rfl _ _ (E.ret 1 rfl) Aq rfl (Bd.one _) ?_;replace E:=E.row 1 rfl (Kt (nextC c 22)).a;go_wp2
    go_meet
    exact ⟨_,_,E⟩
   by_cases h23:op=23
   ·subst h23
    go_upto_region 22 with (fail);rename_i K1 hK1;refine wp_region_lit ?_;refine wpList_load_row rfl _ _ rfl (w.heap.size) rfl _ _ _ _ (E.ret 0 rfl) Tryz.underlying34 rfl Bf ?_;refine wpList_load_row rfl _ _ rfl (w.heap.size+1) rfl _ _ _ _ (E.ret 1 rfl) Tryz.underlying36 rfl Aq ?_;refine wpList_plain rfl (fun K9 hK9=>?_);go_simp;refine (Mw (nextC c 23) bank (K.keep (Aa E.below Ah) (fun _ _ _ x=>x))).mono ?_;rintro e W9 ⟨rfl,L⟩;replace E:=E.call L;refine hK9 _ _ ?_;clear hK9
    iterate 4 (refine wpList_plain rfl (fun K9 hK9=>?_); go_simp; refine hK9 _ _ ?_; clear hK9)
    replace E:=E.alloc cZ 36 _ rfl;generalize W9.heap.size=bu at *;generalize W9.alloc (.cells cZ 36)=W10 at *;refine wpList_store_row rfl _ _ _ rfl (bu) (pulC (nextC c 23)).a rfl rfl _ _ (E.ret 6 rfl) Aq rfl (Bd.one _) ?_;replace E:=E.row 6 rfl (pulC (nextC c 23)).a;generalize W10.setRow bu (pulC (nextC c 23)).a=W11 at *
    (refine wpList_plain rfl (fun K9 hK9=>?_); go_simp; refine hK9 _ _ ?_; clear hK9)
    refine hK1 _ _ ?_;clear hK1;go_upto_region 23 with (fail);refine wp_region_lit ?_;refine wpList_load_row rfl _ _ rfl (bu) rfl _ _ _ _ (E.ret 6 rfl) Tryz.underlying36 rfl Aq ?_
    (refine wpList_plain rfl (fun K9 hK9=>?_); go_simp; refine hK9 _ _ ?_; clear hK9)
    refine wpList_plain rfl (fun K9 hK9=>?_);go_simp;refine (Gf (pulC (nextC c 23)) _ _).mono ?_;rintro e W12 ⟨rfl,L⟩;replace E:=E.call L;refine hK9 _ _ ?_;clear hK9;refine wpList_store_row rfl _ _ _ rfl (w.heap.size+1) (setAc (pulC (nextC c 23)) (Dw g c.S)).a rfl rfl _ _ (E.ret 1 rfl) Aq rfl (Bd.one _) ?_;replace E:=E.row 1 rfl (setAc (pulC (nextC c 23)) (Dw g c.S)).a;go_wp2
    go_meet
    exact ⟨_,_,E.take 6⟩
   by_cases h24:op=24
   ·subst h24
    go_upto_region 25 with (fail);rename_i K1 hK1;refine wp_region_lit ?_;refine wpList_load_row rfl _ _ rfl (w.heap.size) rfl _ _ _ _ (E.ret 0 rfl) Tryz.underlying34 rfl Bf ?_;refine wpList_load_row rfl _ _ rfl (w.heap.size+1) rfl _ _ _ _ (E.ret 1 rfl) Tryz.underlying36 rfl Aq ?_;refine wpList_plain rfl (fun K9 hK9=>?_);go_simp;refine (Mw (nextC c 24) bank (K.keep (Aa E.below Ah) (fun _ _ _ x=>x))).mono ?_;rintro e W9 ⟨rfl,L⟩;replace E:=E.call L;refine hK9 _ _ ?_;clear hK9
    iterate 4 (refine wpList_plain rfl (fun K9 hK9=>?_); go_simp; refine hK9 _ _ ?_; clear hK9)
    replace E:=E.alloc cZ 36 _ rfl;generalize W9.heap.size=bu at *;generalize W9.alloc (.cells cZ 36)=W10 at *;refine wpList_store_row rfl _ _ _ rfl (bu) (pulC (nextC c 24)).a rfl rfl _ _ (E.ret 6 rfl) Aq rfl (Bd.one _) ?_;replace E:=E.row 6 rfl (pulC (nextC c 24)).a;generalize W10.setRow bu (pulC (nextC c 24)).a=W11 at *
    (refine wpList_plain rfl (fun K9 hK9=>?_); go_simp; refine hK9 _ _ ?_; clear hK9)
    refine hK1 _ _ ?_;clear hK1;go_upto_region 26 with (fail);refine Cx (n:=5) (by kernel_rfl) (by kernel_rfl) rfl ?_;simp only [List.take_succ_cons,List.take_zero,Act.put,List.setIfInBounds_toArray,List.set_cons_succ,List.set_cons_zero];refine En _ _ rfl rfl w.heap.size 0 rfl _ _ #[u,.i bank] _ _ (E.ret 0 rfl) (fun j v h=>by rw [Nat.zero_add]; exact h) Tryz.underlying34 rfl Bf ?_;refine En _ _ rfl rfl bu 0 rfl _ _ (pulC (nextC c 24)).a _ _ (E.ret 6 rfl) (fun j v h=>by rw [Nat.zero_add]; exact h) Tryz.underlying36 rfl Aq ?_;simp only [Act.put,List.setIfInBounds_toArray,List.set_cons_succ,List.set_cons_zero]
    go_big_quiet_step (fail)
    go_big_quiet_step ((go_at_call 61; exact Calls.regrown_of (U0 (pulC (nextC c 24)) _ _)))
    go_big_quiet_step ((go_at_call 98; exact Calls.regrown_of (J1 (Wd (pulC (nextC c 24)) (Dw g c.S)) bank (K.keep (Aa (E.call (below_regrown _ _ _)).below Ah) (fun _ _ _ x=>x)))))
    refine wpQuiet_nil ?_;intro w' hw';obtain ⟨⟨d,os⟩,rfl⟩:=hw';replace E:=E.call (below_regrown W11 d os);refine wp_store_row _ _ _ rfl (w.heap.size+1) _ rfl rfl _ _ (E.ret 1 rfl) Aq rfl (Bd.one _) ?_;go_wp2
    go_meet
    exact ⟨_,_,(E.row 1 rfl _).take 6⟩
   by_cases h25:op=25∨op=26
   ·rcases h25 with rfl | rfl
    all_goals
     go_upto_region 29 with (fail);refine wp_region_lit ?_
     iterate 5 (refine wpList_plain rfl (fun K9 hK9=>?_); go_simp; refine hK9 _ _ ?_; clear hK9)
     go_wp2
     go_meet
     exact ⟨_,_,E.cell 1 rfl 7 _ rfl⟩
   by_cases h27:op=27∨op=28
   ·rcases h27 with rfl | rfl
    all_goals
     go_upto_region 32 with (fail);refine wp_region_lit ?_
     iterate 5 (refine wpList_plain rfl (fun K9 hK9=>?_); go_simp; refine hK9 _ _ ?_; clear hK9)
     go_wp2
     go_meet
     exact ⟨_,_,E.cell 1 rfl 6 _ rfl⟩
   have n19:¬ op=19:=fun h=>hj (.inr (.inr (.inr h)))
   have n18:¬ op=18:=fun h=>by cases hz:c.C <;> simp [h,hz] at hj hs
   have n17:¬ op=17:=fun h=>by cases hz:c.Z <;> simp [h,hz] at hj hs
   have n16:¬ op=16:=fun h=>by cases hz:c.Z <;> simp [h,hz] at hj hs
   have n25:¬ op=25:=fun h=>h25 (.inl h)
   have n26:¬ op=26:=fun h=>h25 (.inr h)
   have n27:¬ op=27:=fun h=>h27 (.inl h)
   have n28:¬ op=28:=fun h=>h27 (.inr h)
   have E1:Ex g c op arg v=nextC c op:=by
    unfold Ex;rw [if_neg (by rw [ho]; decide)]
    repeat rw [if_neg (by assumption)]
   have E2:Ge g c op=g:=by
    unfold Ge;rw [if_neg h20,if_neg h22]
   have e16:=beq_eq_false_iff_ne.2 n16;have e17:=beq_eq_false_iff_ne.2 n17;have e18:=beq_eq_false_iff_ne.2 n18;have e19:=beq_eq_false_iff_ne.2 n19;have e20:=beq_eq_false_iff_ne.2 h20;have e21:=beq_eq_false_iff_ne.2 h21;have e22:=beq_eq_false_iff_ne.2 h22;have e23:=beq_eq_false_iff_ne.2 h23;have e24:=beq_eq_false_iff_ne.2 h24;have e25:=beq_eq_false_iff_ne.2 n25;have e26:=beq_eq_false_iff_ne.2 n26;have e27:=beq_eq_false_iff_ne.2 n27;have e28:=beq_eq_false_iff_ne.2 n28;clear hj hs h20 h21 h22 h23 h24 h25 h27 n16 n17 n18 n19 n25 n26 n27 n28;go_wp2
   go_meet
   refine ⟨D,q,?_⟩;rw [E1,E2];exact E
  case rest =>
   obtain ⟨D,q,E⟩:=hcut;go_upto_region 33 with (fail);rename_i K1 hK1
   refine B7 [some 155,some 156,none,none] (by kernel_rfl) (by kernel_rfl) (by kernel_rfl) (by kernel_rfl) (by first | (simp [slotsOf]; done) | (simp [slotsOf,Act.put]; done))
     (fun j b _=>(j=2∧b=w.heap.size+1+1+1)∨(j=3∧b=w.heap.size+1+1+1+1))
     (fun i y W=>match i with
      | 0=>y=.agg #[q,.i bank]
      | 1=>y=.agg (Ex g c op arg v).a
      | 2=>W.heap[w.heap.size+1+1+1]?=some (.cells #[q,.i bank] 34 (0,0))
      | _=>W.heap[w.heap.size+1+1+1+1]?=some (.cells (Ex g c op arg v).a 36 (0,0))) ?_ ?_ ?_
   ·intro i j o y W W' hij ho _ hW h
    match i,ho,h with
    | 0,_,h=>exact h
    | 1,_,h=>exact h
    | 2,_,h=>exact Ag h hW (fun o e=>by omega)
    | 3,_,h=>exact Ag h hW (fun o e=>by omega)
    | _+4,ho,_=>simp at ho
   ·intro i o a' W K ho F L hw hK
    have n1:=E.far 5 3 rfl rfl (by decide);have n2:=E.far 5 4 rfl rfl (by decide);have n3:=E.far 1 3 rfl rfl (by decide);have n4:=E.far 1 4 rfl rfl (by decide)
    rcases i with _ | _ | _ | _ | i <;> simp only [List.getElem?_toArray,List.getElem?_cons_zero,List.getElem?_cons_succ,List.getElem?_nil,Option.some.injEq,reduceCtorEq] at ho <;> subst ho
    ·exact wp_load_row _ _ rfl bo (by simpa [Act.eval] using F.get (t:=10) (v:=(pt bo 0)) (by decide) rfl) _ _ _ _ (Ag (E.ret 5 rfl) L (fun o ⟨j,oj,hj,hoj,hwj,e⟩=>by omega)) Tryz.underlying34 rfl Bf (Hk hK rfl)
    ·exact wp_load_row _ _ rfl (w.heap.size+1) (by simpa [Act.eval] using F.get (t:=5) (v:=(pt (w.heap.size+1) 0)) (by decide) rfl) _ _ _ _ (Ag (E.ret 1 rfl) L (fun o ⟨j,oj,hj,hoj,hwj,e⟩=>by omega)) Tryz.underlying36 rfl Aq (Hk hK rfl)
    ·have rB:=Ag (E.ret 3 rfl) L (fun o ⟨j,oj,hj,hoj,hwj,e⟩=>by omega)
     exact wp_store_row _ _ _ rfl (w.heap.size+1+1+1) #[q,.i bank] (by simpa [Act.eval] using F.get (t:=8) (v:=(pt (w.heap.size+1+1+1) 0)) (by decide) rfl) (by simpa [Act.eval] using (show a'.tmps[155]?.getD undef=.agg #[q,.i bank] from Hr hw 0)) _ _ rB Bf rfl E.one (hK undef _ ((Ce rB _).mono (fun b o _ h=>Or.inl ⟨rfl,h⟩)) (setRow_heap _ _ _ _ _ _ rB))
    ·have rB:=Ag (E.ret 4 rfl) L (fun o ⟨j,oj,hj,hoj,hwj,e⟩=>by omega)
     exact wp_store_row _ _ _ rfl (w.heap.size+1+1+1+1) (Ex g c op arg v).a (by simpa [Act.eval] using F.get (t:=9) (v:=(pt (w.heap.size+1+1+1+1) 0)) (by decide) rfl) (by simpa [Act.eval] using (show a'.tmps[156]?.getD undef=.agg (Ex g c op arg v).a from Hr hw 1)) _ _ rB Aq rfl (Bd.one _) (hK undef _ ((Ce rB _).mono (fun b o _ h=>Or.inr ⟨rfl,h⟩)) (setRow_heap _ _ _ _ _ _ rB))
   ·intro a' W F L hφ
    have r1:W.heap[w.heap.size+1+1+1]?=_:=Hd hφ 2;have r2:W.heap[w.heap.size+1+1+1+1]?=_:=Hd hφ 3;have p0:a'.tmps[155]?.getD undef=_:=Hd hφ 0;have p1:a'.tmps[156]?.getD undef=_:=Hd hφ 1
    have Z:=E.fin L (fun b o ⟨j,e⟩=>by
     rcases e with ⟨_,rfl⟩ | ⟨_,rfl⟩
     ·exact ⟨3,_,_,rfl⟩
     ·exact ⟨4,_,_,rfl⟩)
    rw [F.same,show slotsOf [some 155,some 156,none,none]=[155,156] from rfl];simp only [List.foldl_cons,List.foldl_nil];rw [p0,p1];clear hφ L F p0 p1 E;refine hK1 _ _ ?_;go_simp;go_wp2;refine bodyPost_ret (v:=.tuple #[.agg _,.agg _]) (Fo Tryz.results77 _ _ (w.heap.size+1+1+1) (w.heap.size+1+1+1+1) _ _ _ _ _ _ _ _ rfl rfl r1 r2 Tryz.underlying34 Tryz.underlying36 rfl rfl Bf Aq) rfl ?_;exact ⟨_,rfl,Z⟩
 ·have ha:Gy op=true:=hok.out.symm
  clear hok HAlu;obtain ⟨n1,n2⟩:=To ha
  have E1:Ex g c op arg v=aluC (nextC c op) op arg v:=by
   unfold Ex;rw [if_pos ha]
  have E2:Ge g c op=g:=by
   unfold Ge;rw [if_neg n1,if_neg n2]
  clear n1 n2 ha;go_upto_region 5 with (fail);rename_i K1 hK1
  refine B7 [some 35,some 36,none,none] (by kernel_rfl) (by kernel_rfl) (by kernel_rfl) (by kernel_rfl) (by first | (simp [slotsOf]; done) | (simp [slotsOf,Act.put]; done))
    (fun j b _=>(j=2∧b=w.heap.size+1+1+1)∨(j=3∧b=w.heap.size+1+1+1+1))
    (fun i y W=>match i with
     | 0=>y=.agg #[q,.i bank]
     | 1=>y=.agg (aluC (nextC c op) op arg v).a
     | 2=>W.heap[w.heap.size+1+1+1]?=some (.cells #[q,.i bank] 34 (0,0))
     | _=>W.heap[w.heap.size+1+1+1+1]?=some (.cells (aluC (nextC c op) op arg v).a 36 (0,0))) ?_ ?_ ?_
  ·intro i j o y W W' hij ho _ hW h
   match i,ho,h with
   | 0,_,h=>exact h
   | 1,_,h=>exact h
   | 2,_,h=>exact Ag h hW (fun o e=>by omega)
   | 3,_,h=>exact Ag h hW (fun o e=>by omega)
   | _+4,ho,_=>simp at ho
  ·intro i o a' W K ho F L hw hK
   have n1:=E.far 5 3 rfl rfl (by decide);have n2:=E.far 5 4 rfl rfl (by decide);have n3:=E.far 6 3 rfl rfl (by decide);have n4:=E.far 6 4 rfl rfl (by decide)
   rcases i with _ | _ | _ | _ | i <;> simp only [List.getElem?_toArray,List.getElem?_cons_zero,List.getElem?_cons_succ,List.getElem?_nil,Option.some.injEq,reduceCtorEq] at ho <;> subst ho
   ·exact wp_load_row _ _ rfl bo (by simpa [Act.eval] using F.get (t:=10) (v:=(pt bo 0)) (by decide) rfl) _ _ _ _ (Ag (E.ret 5 rfl) L (fun o ⟨j,oj,hj,hoj,hwj,e⟩=>by omega)) Tryz.underlying34 rfl Bf (Hk hK rfl)
   ·exact wp_load_row _ _ rfl (bn) (by simpa [Act.eval] using F.get (t:=11) (v:=(pt bn 0)) (by decide) rfl) _ _ _ _ (Ag (E.ret 6 rfl) L (fun o ⟨j,oj,hj,hoj,hwj,e⟩=>by omega)) Tryz.underlying36 rfl Aq (Hk hK rfl)
   ·have rB:=Ag (E.ret 3 rfl) L (fun o ⟨j,oj,hj,hoj,hwj,e⟩=>by omega)
    exact wp_store_row _ _ _ rfl (w.heap.size+1+1+1) #[q,.i bank] (by simpa [Act.eval] using F.get (t:=8) (v:=(pt (w.heap.size+1+1+1) 0)) (by decide) rfl) (by simpa [Act.eval] using (show a'.tmps[35]?.getD undef=.agg #[q,.i bank] from Hr hw 0)) _ _ rB Bf rfl E.one (hK undef _ ((Ce rB _).mono (fun b o _ h=>Or.inl ⟨rfl,h⟩)) (setRow_heap _ _ _ _ _ _ rB))
   ·have rB:=Ag (E.ret 4 rfl) L (fun o ⟨j,oj,hj,hoj,hwj,e⟩=>by omega)
    exact wp_store_row _ _ _ rfl (w.heap.size+1+1+1+1) (aluC (nextC c op) op arg v).a (by simpa [Act.eval] using F.get (t:=9) (v:=(pt (w.heap.size+1+1+1+1) 0)) (by decide) rfl) (by simpa [Act.eval] using (show a'.tmps[36]?.getD undef=.agg (aluC (nextC c op) op arg v).a from Hr hw 1)) _ _ rB Aq rfl (Bd.one _) (hK undef _ ((Ce rB _).mono (fun b o _ h=>Or.inr ⟨rfl,h⟩)) (setRow_heap _ _ _ _ _ _ rB))
  ·intro a' W F L hφ
   have r1:W.heap[w.heap.size+1+1+1]?=_:=Hd hφ 2;have r2:W.heap[w.heap.size+1+1+1+1]?=_:=Hd hφ 3;have p0:a'.tmps[35]?.getD undef=_:=Hd hφ 0;have p1:a'.tmps[36]?.getD undef=_:=Hd hφ 1
   have Z:=E.fin L (fun b o ⟨j,e⟩=>by
    rcases e with ⟨_,rfl⟩ | ⟨_,rfl⟩
    ·exact ⟨3,_,_,rfl⟩
    ·exact ⟨4,_,_,rfl⟩)
   rw [F.same,show slotsOf [some 35,some 36,none,none]=[35,36] from rfl];simp only [List.foldl_cons,List.foldl_nil];rw [p0,p1];clear hφ L F p0 p1 E;refine hK1 _ _ ?_;go_simp;go_wp2;refine bodyPost_ret (v:=.tuple #[.agg _,.agg _]) (Fo Tryz.results77 _ _ (w.heap.size+1+1+1) (w.heap.size+1+1+1+1) _ _ _ _ _ _ _ _ rfl rfl r1 r2 Tryz.underlying34 Tryz.underlying36 rfl rfl Bf Aq) rfl ?_;exact ⟨_,by rw [E1],E2 ▸ Z⟩
end Go.Proofs.YtfjieibndedngaaGreat
