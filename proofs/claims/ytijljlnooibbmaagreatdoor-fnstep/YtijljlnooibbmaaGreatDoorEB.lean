import Derived.Test.YtijljlnooibbmaaGreatDoorE9
import Derived.Test.YtijljlnooibbmaaGreatDoorSW
import Derived.Deep.CutBlock
namespace Go.Proofs.YtijljlnooibbmaaGreatDoor
set_option maxHeartbeats 16000000
set_option maxRecDepth 20000
open Go.Proofs.Tryz
set_option linter.unusedVariables false
set_option linter.unusedSimpArgs false
open Go.ChangeShapes Go.WideShapes Go.ChangeAt Go.RowKit Go.Sort
theorem Q5 {P:Program} {fn:Func} {p q:Tmp} {ty ty':TypeId} (h:fn.results=#[.cell p ty,.cell q ty']) (tmps:Array Value) (w:World) (g g':Nat) (t t':TypeId) (cs cs':Array Value) (fr fr':Nat × Nat) (dd dd':TypeDesc)
  (hp:tmps.getD p undef=(pt g 0)) (hq:tmps.getD q undef=(pt g' 0)) (hg:w.heap[g]?=some (.cells cs t fr)) (hg':w.heap[g']?=some (.cells cs' t' fr')) (hu:P.underlying ty=some dd) (hu':P.underlying ty'=some dd') (hd:(match dd with | .struct _ | .array _ _=>true | _=>false)=true) (hd':(match dd' with | .struct _ | .array _ _=>true | _=>false)=true) (hi:(P.info? ty).map (·.size)=some cs.size) (hi':(P.info? ty').map (·.size)=some cs'.size) :
  (results fn tmps).run P w=.ok (.tuple #[.agg cs,.agg cs']) w:=by
 have hp':tmps[p]?.getD undef=(pt g 0):=by simpa using hp
 have hq':tmps[q]?.getD undef=(pt g' 0):=by simpa using hq
 simp [results,h,hp',hq',asAddr,run_loadVar_row w g t ty cs fr dd hg hu hd hi,run_loadVar_row w g' t' ty' cs' fr' dd' hg' hu' hd' hi']
theorem Bw.int1 {W:World} {D:Nat->Prop} {u:Value} {n:Nat} {g:Nat->Int} {bank:Int} (h:Bw W D (.agg #[u,.i bank]) n g bank):Ints .i64 W (On D) u n g:=by
 obtain ⟨y,e,H⟩:=h.ints;simp only [Value.agg.injEq,Array.mk.injEq,List.cons.injEq,and_true] at e;rw [e];exact H
structure Ov (w:World) (D:Nat->Prop) (W:World) (l:Mq) (q:Value) (g:Nat->Int) (bank:Int):Prop extends E4 w D W l where
 M:Bw W D (.agg #[q,.i bank]) 512 g bank
 lo:∀ b,D b->w.heap.size<=b
section
variable {w W W':World} {D:Nat->Prop} {l:Mq} {i b:Nat} {cs:Array Value} {t:TypeId} {q:Value} {g g':Nat->Int} {bank:Int}
theorem E4.own (h:E4 w D W l) (L:Below W.heap.size W W') (O:Ao W' W.heap.size q 512 g):∃ D',Ov w D' W' l q g bank:=⟨_,h.re L,(Bw.own O).mono (fun _ hb h=>⟨h,hb⟩),fun _ hb=>Nat.le_trans h.below.size hb.1⟩
theorem Ov.call (h:Ov w D W l q g bank) (L:Below W.heap.size W W'):Ov w D W' l q g bank:=⟨h.toE4.call L,h.M.below L,h.lo⟩
theorem Ov.alloc (h:Ov w D W l q g bank) (cs:Array Value) (t:TypeId) (n:Nat) (e:W.heap.size=n):Ov w D (W.alloc (.cells cs t)) (l++[(n,cs,t)]) q g bank:=⟨h.toE4.alloc cs t n e,h.M.below ((Below.refl _ _).alloc (Nat.le_refl _) _),h.lo⟩
theorem Ov.row (h:Ov w D W l q g bank) (i:Nat) (e:l[i]?=some (b,cs,t)) (cs':Array Value):Ov w D (W.setRow b cs') (l.set i (b,cs',t)) q g bank:=⟨h.toE4.row i e cs',h.toE4.mem i e (Bn (h.ret i e) cs') h.M,h.lo⟩
theorem Ov.cell (h:Ov w D W l q g bank) (i:Nat) (e:l[i]?=some (b,cs,t)) (o:Nat) (v:Value) {cs':Array Value} (hc:cs.setIfInBounds o v=cs'):Ov w D (W.setCell ⟨b,o,none⟩ v) (l.set i (b,cs',t)) q g bank:=⟨h.toE4.cell i e o v hc,h.toE4.mem i e (Ip W b o v) h.M,h.lo⟩
theorem Ov.take (h:Ov w D W l q g bank) (n:Nat):Ov w D W (l.take n) q g bank:=⟨h.toE4.take n,h.M,h.lo⟩
theorem Ov.one (h:Ov w D W l q g bank):(#[q,.i bank]:Array Value).all (·.oneCell')=true:=by
 obtain ⟨a,c,e⟩:=h.M.two;simp only [Value.agg.injEq,Array.mk.injEq,List.cons.injEq,and_true] at e;subst e
 first | kernel_rfl | simp [Value.oneCell']
theorem Ov.ints (h:Ov w D W l q g bank):Ints .i64 W (On D) q 512 g:=h.M.int1
theorem Ov.fin {R:Nat->Nat->Prop} (h:Ov w D W l q g bank) (TT:Wrote R W W') (hR:∀ b o,R b o->∃ (i:Nat) (cs:Array Value) (t:TypeId),l[i]?=some (b,cs,t)):Ao W' w.heap.size q 512 g/\Below w.heap.size w W':=by
 refine ⟨?_,h.below.trans (TT.below h.below.size fun b o hb hr=>?_)⟩
 .obtain ⟨a,cap,e,hn,hr,hF,hd⟩:=h.M.keep TT (fun b o hd _ hr=>by obtain ⟨i,cs,t,e⟩:=hR b o hr; exact h.no i e hd)
  simp only [Value.agg.injEq,Array.mk.injEq,List.cons.injEq,and_true] at e;exact ⟨a,cap,e,hn,hr,hF,fun b o hf=>h.lo b (hd b o hf)⟩
 .obtain ⟨i,cs,t,e⟩:=hR b o hr
  have:=(h.all _ (List.mem_of_getElem? e)).2.1
  omega
end
def Qd (c:A7):A7:={ c with S:=dec8 c.S }
theorem Xm (c:A7) (v:Int) {G:Nat->Nat->Prop} {u:Value} {g:Nat->Int} {bank:Int} {w:World} (K:Ints .i64 w G u 512 g):Calls prog 122 #[.agg #[u,.i bank],.agg c.a,.i v] w fun e w'=>∃ q,e=.returned (.tuple #[.agg #[q,.i bank],.agg (Qd c).a])/\Ao w' w.heap.size q 512 (B4 g c.S v)/\Below w.heap.size w w':=Fv w G u g bank K c.A c.X c.S c.Pc c.Z c.N c.C c.I v
def Jg6 (c:A7) (v:Int):A7:={ c with Z:=hasB v 2,N:=hasB v 128,C:=hasB v 1,I:=hasB v 4 }
theorem Jez (c:A7) (v:Int) (w:World):Calls prog 112 #[.agg c.a,.i v] w fun e w'=>e=.returned (.agg (Jg6 c v).a)/\Below w.heap.size w w':=Jw w c.A c.X c.S c.Pc c.Z c.N c.C c.I v
theorem S9 (w:World) (G:Nat->Nat->Prop) (u:Value) (g:Nat->Int) (bank:Int) (K:Ints .i64 w G u 512 g) (c:A7) (hPc:0<=c.Pc/\c.Pc<=65535) (op arg v:Int):Calls prog 93 #[.agg #[u,.i bank],c.v,.agg #[.i op,.i arg],.i v] w fun e w'=>∃ q,e=.returned (.tuple #[.agg #[q,.i bank],(Ee g c op arg v).v])/\Ao w' w.heap.size q 512 (Ev g c op)/\Below w.heap.size w w':=by
 have hl1:=Y7 op
 have hwr:IntKind.i64.wrap (c.Pc+opLn op)=c.Pc+opLn op:=by rw [IntKind.wrap_i64]; omega
 have HLn:∀ W,CB 125 #[.i op] W (.i (opLn op)):=fun W=>Md W op
 obtain ⟨ok,hok⟩:∃ x,Hid (x=Ib op):=⟨_,rfl⟩
 have HAlu:=Ac (fun W=>Jap (nextC c op) op arg v W);rw [<- hok.out] at HAlu
 show Calls prog 93 #[.agg #[u,.i bank],.agg c.a,.agg #[.i op,.i arg],.i v] w fun e w'=>∃ q,e=.returned (.tuple #[.agg #[q,.i bank],.agg (Ee g c op arg v).a])/\Ao w' w.heap.size q 512 (Ev g c op)/\Below w.heap.size w w'
 have E:=(((((E4.nil w).alloc #[u,.i bank] 29 w.heap.size rfl).alloc c.a 31 (w.heap.size+1) (by simp)).alloc #[.i op,.i arg] 49 (w.heap.size+1+1) (by simp)).alloc mZ 29 (w.heap.size+1+1+1) (by simp)).alloc cZ 31 (w.heap.size+1+1+1+1) (by simp)
 go_enter func93,ntmps93
 go_upto_region 1 with (fail);generalize ((((w.alloc (.cells #[u,.i bank] 29)).alloc (.cells c.a 31)).alloc (.cells #[.i op,.i arg] 49)).alloc (.cells mZ 29)).alloc (.cells cZ 31)=W0 at *;rename_i K1 hK1;refine wp_region_lit ?_;refine wpList_load_row rfl _ _ rfl (w.heap.size) rfl _ _ _ _ (E.ret 0 rfl) underlying29 rfl Bt ?_;refine wpList_plain rfl (fun K9 hK9=>?_);go_simp;refine (Nv W0 G _ 512 g bank (K.keep (Aa E.below Aj) (fun _ _ _ x=>x))).mono ?_;rintro e W1 ⟨q,rfl,O,L⟩;obtain ⟨D,E⟩:=E.own (bank:=bank) L O;clear O L;refine hK9 _ _ ?_;clear hK9
 (refine wpList_plain rfl (fun K9 hK9=>?_); go_simp; refine hK9 _ _ ?_; clear hK9)
 replace E:=E.alloc mZ 29 _ rfl;generalize W1.heap.size=bo at *;generalize W1.alloc (.cells mZ 29)=W2 at *;refine wpList_store_row rfl _ _ _ rfl (bo) #[q,.i bank] rfl rfl _ _ (E.ret 5 rfl) Bt rfl E.one ?_;replace E:=E.row 5 rfl #[q,.i bank];generalize W2.setRow bo #[q,.i bank]=W3 at *;refine hK1 _ _ ?_;clear hK1;go_upto_region 2 with (fail);rename_i K1 hK1;have g0:=E.getG 1 rfl 3 (v:=.i c.Pc) rfl;have g1:=E.getG 2 rfl 0 (v:=.i op) rfl;refine Bc (n:=8) (by kernel_rfl) (by kernel_rfl) rfl ?_;simp only [List.take_succ_cons,List.take_zero,Act.put,Sa,Sb,Sc]
 iterate 8 (go_big_quiet_step (first | (go_at_call 125; exact Calls.regrown_of (HLn _)) | (go_at_call 127; exact Calls.regrown_of ((Cv _ _).mono fun e w' ⟨h1,h2⟩=>⟨h1,h2 ▸ Below.refl _ _⟩))))
 refine wpQuiet_nil ?_;intro w' hw';obtain ⟨⟨d,os⟩,rfl⟩:=hw';replace E:=E.call (below_regrown W3 d os);have fc:=Au (E.ret 1 rfl);have c3:=E.get 1 rfl 3 (v:=.i c.Pc) rfl;clear g0 g1;generalize grow (redrawn W3 d) os=W4 at *;go_simp;replace E:=E.cell 1 rfl 3 (.i ((c.Pc+opLn op)%65536)) (cs':=(nextC c op).a) rfl;generalize W4.sc (w.heap.size+1) 3 (.i ((c.Pc+opLn op)%65536))=W5 at *;clear fc c3 hwr HLn;refine hK1 _ _ ?_;clear hK1;go_upto_region 3 with (fail);rename_i K1 hK1;refine wp_region_lit ?_;refine wpList_load_row rfl _ _ rfl (w.heap.size+1) rfl _ _ _ _ (E.ret 1 rfl) underlying31 rfl Ax ?_;have c_i:=Af (E.ret 2 rfl)
 iterate 2 (refine wpList_plain rfl (fun K9 hK9=>?_); go_simp; refine hK9 _ _ ?_; clear hK9)
 refine wpList_plain rfl (fun K9 hK9=>?_);go_simp;refine (HAlu.out _).mono ?_;rintro e W6 ⟨rfl,L⟩;replace E:=E.call L;clear L c_i;refine hK9 _ _ ?_;clear hK9
 iterate 4 (refine wpList_plain rfl (fun K9 hK9=>?_); go_simp; refine hK9 _ _ ?_; clear hK9)
 replace E:=E.alloc cZ 31 _ rfl;generalize W6.heap.size=bn at *;generalize W6.alloc (.cells cZ 31)=W7 at *;refine wpList_store_row rfl _ _ _ rfl (bn) (aluC (nextC c op) op arg v).a rfl rfl _ _ (E.ret 6 rfl) Ax rfl (A7.one _) ?_;replace E:=E.row 6 rfl (aluC (nextC c op) op arg v).a;generalize W7.setRow bn (aluC (nextC c op) op arg v).a=W8 at *
 (refine wpList_plain rfl (fun K9 hK9=>?_); go_simp; refine hK9 _ _ ?_; clear hK9)
 refine hK1 _ _ ?_;clear hK1;cases ok
 .have ho:Ib op=false:=hok.out.symm
  clear hok HAlu;replace E:=E.take 6;have c_i:=Af (E.ret 2 rfl)
  go_upto_block 0 with (fail)
  clear c_i
  go_cut [] (fun wc=>∃ D q,Ov w D wc [(w.heap.size,#[u,.i bank],29),(w.heap.size+1,(Ee g c op arg v).a,31),(w.heap.size+1+1,#[.i op,.i arg],49),(w.heap.size+1+1+1,mZ,29),(w.heap.size+1+1+1+1,cZ,31),(bo,#[q,.i bank],29)] q (Ev g c op) bank)
  case first =>
   have c_i:=Af (E.ret 2 rfl);have f_c:=Au (E.ret 1 rfl);have c0:=E.get 1 rfl 0 (v:=.i c.A) rfl;have c3:=E.get 1 rfl 3 (v:=.i (nextC c op).Pc) rfl;have c4:=E.get 1 rfl 4 (v:=.bool c.Z) rfl;have c6:=E.get 1 rfl 6 (v:=.bool c.C) rfl;have c7:=E.get 1 rfl 7 (v:=.bool c.I) rfl
   by_cases hj:op=16/\c.Z=false\/op=17/\c.Z=true\/op=18/\c.C=true\/op=19
   .have E1:Ee g c op arg v={ nextC c op with Pc:=arg%65536 }/\Ev g c op=g:=by
     rcases hj with ⟨rfl,h⟩ | ⟨rfl,h⟩ | ⟨rfl,h⟩ | rfl <;> refine ⟨?_,rfl⟩ <;> first | rfl | (show (if _=true then _ else _)=_; rw [h]; rfl)
    rcases hj with ⟨rfl,h⟩ | ⟨rfl,h⟩ | ⟨rfl,h⟩ | rfl
    all_goals
     try rw [h] at c4
     try rw [h] at c6
     go_upto_region 12 with (fail);refine wp_region_lit ?_
     iterate 2 (refine wpList_plain rfl (fun K9 hK9=>?_); go_simp; refine hK9 _ _ ?_; clear hK9)
     refine wpList_plain rfl (fun K9 hK9=>?_);go_simp;refine (Cv arg _).mono ?_;rintro e W9 ⟨rfl,rfl⟩;refine hK9 _ _ ?_;clear hK9
     iterate 2 (refine wpList_plain rfl (fun K9 hK9=>?_); go_simp; refine hK9 _ _ ?_; clear hK9)
     go_wp2
     go_meet
     refine ⟨D,q,?_⟩;rw [E1.1,E1.2];exact E.cell 1 rfl 3 (.i (arg%65536)) rfl
   by_cases hs:op=16/\c.Z=true\/op=17/\c.Z=false\/op=18/\c.C=false
   .have E1:Ee g c op arg v=nextC c op/\Ev g c op=g:=by
     rcases hs with ⟨rfl,h⟩ | ⟨rfl,h⟩ | ⟨rfl,h⟩ <;> refine ⟨?_,rfl⟩ <;> (show (if _=true then _ else _)=_; rw [h]; rfl)
    rcases hs with ⟨rfl,h⟩ | ⟨rfl,h⟩ | ⟨rfl,h⟩
    all_goals
     try rw [h] at c4
     try rw [h] at c6
     go_wp2
     go_meet
     refine ⟨D,q,?_⟩;rw [E1.1,E1.2];exact E
   by_cases h20:op=20
   .subst h20
    go_upto_region 14 with (fail);rename_i K1 hK1;refine wp_region_lit ?_;refine wpList_load_row rfl _ _ rfl (bo) rfl _ _ _ _ (E.ret 5 rfl) underlying29 rfl Bt ?_;refine wpList_load_row rfl _ _ rfl (w.heap.size+1) rfl _ _ _ _ (E.ret 1 rfl) underlying31 rfl Ax ?_
    (refine wpList_plain rfl (fun K9 hK9=>?_); go_simp; refine hK9 _ _ ?_; clear hK9)
    iterate 2 (refine wpList_plain rfl (fun K9 hK9=>?_); go_simp; refine hK9 _ _ ?_; clear hK9)
    refine wpList_plain rfl (fun K9 hK9=>?_);go_simp;refine (Xm (nextC c 20) _ E.ints).mono ?_;rintro e W9 ⟨q1,rfl,O,L⟩;obtain ⟨D,E⟩:=E.toE4.own (bank:=bank) L O;clear O L;refine hK9 _ _ ?_;clear hK9
    iterate 3 (refine wpList_plain rfl (fun K9 hK9=>?_); go_simp; refine hK9 _ _ ?_; clear hK9)
    refine wpList_store_row rfl _ _ _ rfl (bo) #[q1,.i bank] rfl rfl _ _ (E.ret 5 rfl) Bt rfl E.one ?_;replace E:=E.row 5 rfl #[q1,.i bank];refine wpList_store_row rfl _ _ _ rfl (w.heap.size+1) (Qd (nextC c 20)).a rfl rfl _ _ (E.ret 1 rfl) Ax rfl (A7.one _) ?_;replace E:=E.row 1 rfl (Qd (nextC c 20)).a;refine hK1 _ _ ?_;clear hK1;have c3:=E.get 1 rfl 3 (v:=.i (nextC c 20).Pc) rfl;go_upto_region 15 with (fail);rename_i K1 hK1;refine wp_region_lit ?_;refine wpList_load_row rfl _ _ rfl (bo) rfl _ _ _ _ (E.ret 5 rfl) underlying29 rfl Bt ?_;refine wpList_load_row rfl _ _ rfl (w.heap.size+1) rfl _ _ _ _ (E.ret 1 rfl) underlying31 rfl Ax ?_
    (refine wpList_plain rfl (fun K9 hK9=>?_); go_simp; refine hK9 _ _ ?_; clear hK9)
    (refine wpList_plain rfl (fun K9 hK9=>?_); go_simp; refine hK9 _ _ ?_; clear hK9)
    refine wpList_plain rfl (fun K9 hK9=>?_);go_simp;refine (Xm (Qd (nextC c 20)) _ E.ints).mono ?_;rintro e W10 ⟨q2,rfl,O,L⟩;obtain ⟨D,E⟩:=E.toE4.own (bank:=bank) L O;clear O L;refine hK9 _ _ ?_;clear hK9
    iterate 3 (refine wpList_plain rfl (fun K9 hK9=>?_); go_simp; refine hK9 _ _ ?_; clear hK9)
    refine wpList_store_row rfl _ _ _ rfl (bo) #[q2,.i bank] rfl rfl _ _ (E.ret 5 rfl) Bt rfl E.one ?_;replace E:=E.row 5 rfl #[q2,.i bank];refine wpList_store_row rfl _ _ _ rfl (w.heap.size+1) (Qd (Qd (nextC c 20))).a rfl rfl _ _ (E.ret 1 rfl) Ax rfl (A7.one _) ?_;replace E:=E.row 1 rfl (Qd (Qd (nextC c 20))).a;refine hK1 _ _ ?_;clear hK1;have c3:=E.get 1 rfl 3 (v:=.i (nextC c 20).Pc) rfl;have c_i:=Af (E.ret 2 rfl);have f_c:=Au (E.ret 1 rfl);go_upto_region 16 with (fail);refine wp_region_lit ?_
    iterate 2 (refine wpList_plain rfl (fun K9 hK9=>?_); go_simp; refine hK9 _ _ ?_; clear hK9)
    refine wpList_plain rfl (fun K9 hK9=>?_);go_simp;refine (Cv arg _).mono ?_;rintro e W9 ⟨rfl,rfl⟩;refine hK9 _ _ ?_;clear hK9
    iterate 2 (refine wpList_plain rfl (fun K9 hK9=>?_); go_simp; refine hK9 _ _ ?_; clear hK9)
    go_wp2
    go_meet
    exact ⟨_,_,E.cell 1 rfl 3 (.i (arg%65536)) rfl⟩
   by_cases h21:op=21
   .subst h21
    go_upto_region 18 with (fail);refine wp_region_lit ?_;refine wpList_load_row rfl _ _ rfl (w.heap.size) rfl _ _ _ _ (E.ret 0 rfl) underlying29 rfl Bt ?_;refine wpList_load_row rfl _ _ rfl (w.heap.size+1) rfl _ _ _ _ (E.ret 1 rfl) underlying31 rfl Ax ?_;refine wpList_plain rfl (fun K9 hK9=>?_);go_simp;refine (Ou (nextC c 21) bank (K.keep (Aa E.below Aj) (fun _ _ _ x=>x))).mono ?_;rintro e W9 ⟨rfl,L⟩;replace E:=E.call L;refine hK9 _ _ ?_;clear hK9;refine wpList_store_row rfl _ _ _ rfl (w.heap.size+1) (Lk g (nextC c 21)).a rfl rfl _ _ (E.ret 1 rfl) Ax rfl (A7.one _) ?_;replace E:=E.row 1 rfl (Lk g (nextC c 21)).a;go_wp2
    go_meet
    exact ⟨_,_,E⟩
   by_cases h22:op=22
   .subst h22
    go_upto_region 20 with (fail);refine wp_region_lit ?_;refine wpList_load_row rfl _ _ rfl (bo) rfl _ _ _ _ (E.ret 5 rfl) underlying29 rfl Bt ?_;refine wpList_load_row rfl _ _ rfl (w.heap.size+1) rfl _ _ _ _ (E.ret 1 rfl) underlying31 rfl Ax ?_
    (refine wpList_plain rfl (fun K9 hK9=>?_); go_simp; refine hK9 _ _ ?_; clear hK9)
    (refine wpList_plain rfl (fun K9 hK9=>?_); go_simp; refine hK9 _ _ ?_; clear hK9)
    refine wpList_plain rfl (fun K9 hK9=>?_);go_simp;refine (Xm (nextC c 22) _ E.ints).mono ?_;rintro e W9 ⟨q1,rfl,O,L⟩;obtain ⟨D,E⟩:=E.toE4.own (bank:=bank) L O;clear O L;refine hK9 _ _ ?_;clear hK9
    iterate 3 (refine wpList_plain rfl (fun K9 hK9=>?_); go_simp; refine hK9 _ _ ?_; clear hK9)
    refine wpList_store_row rfl _ _ _ rfl (bo) #[q1,.i bank] rfl rfl _ _ (E.ret 5 rfl) Bt rfl E.one ?_;replace E:=E.row 5 rfl #[q1,.i bank];refine wpList_store_row rfl _ _ _ rfl (w.heap.size+1) (Qd (nextC c 22)).a rfl rfl _ _ (E.ret 1 rfl) Ax rfl (A7.one _) ?_;replace E:=E.row 1 rfl (Qd (nextC c 22)).a;go_wp2
    go_meet
    exact ⟨_,_,E⟩
   by_cases h23:op=23
   .subst h23
    go_upto_region 22 with (fail);rename_i K1 hK1;refine wp_region_lit ?_;refine wpList_load_row rfl _ _ rfl (w.heap.size) rfl _ _ _ _ (E.ret 0 rfl) underlying29 rfl Bt ?_;refine wpList_load_row rfl _ _ rfl (w.heap.size+1) rfl _ _ _ _ (E.ret 1 rfl) underlying31 rfl Ax ?_;refine wpList_plain rfl (fun K9 hK9=>?_);go_simp;refine (S8 (nextC c 23) bank (K.keep (Aa E.below Aj) (fun _ _ _ x=>x))).mono ?_;rintro e W9 ⟨rfl,L⟩;replace E:=E.call L;refine hK9 _ _ ?_;clear hK9
    iterate 4 (refine wpList_plain rfl (fun K9 hK9=>?_); go_simp; refine hK9 _ _ ?_; clear hK9)
    replace E:=E.alloc cZ 31 _ rfl;generalize W9.heap.size=bu at *;generalize W9.alloc (.cells cZ 31)=W10 at *;refine wpList_store_row rfl _ _ _ rfl (bu) (pulC (nextC c 23)).a rfl rfl _ _ (E.ret 6 rfl) Ax rfl (A7.one _) ?_;replace E:=E.row 6 rfl (pulC (nextC c 23)).a;generalize W10.setRow bu (pulC (nextC c 23)).a=W11 at *
    (refine wpList_plain rfl (fun K9 hK9=>?_); go_simp; refine hK9 _ _ ?_; clear hK9)
    refine hK1 _ _ ?_;clear hK1;go_upto_region 23 with (fail);refine wp_region_lit ?_;refine wpList_load_row rfl _ _ rfl (bu) rfl _ _ _ _ (E.ret 6 rfl) underlying31 rfl Ax ?_
    (refine wpList_plain rfl (fun K9 hK9=>?_); go_simp; refine hK9 _ _ ?_; clear hK9)
    refine wpList_plain rfl (fun K9 hK9=>?_);go_simp;refine (Jj (pulC (nextC c 23)) _ _).mono ?_;rintro e W12 ⟨rfl,L⟩;replace E:=E.call L;refine hK9 _ _ ?_;clear hK9;refine wpList_store_row rfl _ _ _ rfl (w.heap.size+1) (setAc (pulC (nextC c 23)) (Dp g c.S)).a rfl rfl _ _ (E.ret 1 rfl) Ax rfl (A7.one _) ?_;replace E:=E.row 1 rfl (setAc (pulC (nextC c 23)) (Dp g c.S)).a;go_wp2
    go_meet
    exact ⟨_,_,E.take 6⟩
   by_cases h24:op=24
   .subst h24
    go_upto_region 25 with (fail);rename_i K1 hK1;refine wp_region_lit ?_;refine wpList_load_row rfl _ _ rfl (w.heap.size) rfl _ _ _ _ (E.ret 0 rfl) underlying29 rfl Bt ?_;refine wpList_load_row rfl _ _ rfl (w.heap.size+1) rfl _ _ _ _ (E.ret 1 rfl) underlying31 rfl Ax ?_;refine wpList_plain rfl (fun K9 hK9=>?_);go_simp;refine (S8 (nextC c 24) bank (K.keep (Aa E.below Aj) (fun _ _ _ x=>x))).mono ?_;rintro e W9 ⟨rfl,L⟩;replace E:=E.call L;refine hK9 _ _ ?_;clear hK9
    iterate 4 (refine wpList_plain rfl (fun K9 hK9=>?_); go_simp; refine hK9 _ _ ?_; clear hK9)
    replace E:=E.alloc cZ 31 _ rfl;generalize W9.heap.size=bu at *;generalize W9.alloc (.cells cZ 31)=W10 at *;refine wpList_store_row rfl _ _ _ rfl (bu) (pulC (nextC c 24)).a rfl rfl _ _ (E.ret 6 rfl) Ax rfl (A7.one _) ?_;replace E:=E.row 6 rfl (pulC (nextC c 24)).a;generalize W10.setRow bu (pulC (nextC c 24)).a=W11 at *
    (refine wpList_plain rfl (fun K9 hK9=>?_); go_simp; refine hK9 _ _ ?_; clear hK9)
    refine hK1 _ _ ?_;clear hK1;go_upto_region 26 with (fail);refine Bc (n:=5) (by kernel_rfl) (by kernel_rfl) rfl ?_;simp only [List.take_succ_cons,List.take_zero,Act.put,Sa,Sb,Sc];refine Bl _ _ rfl rfl w.heap.size 0 rfl _ _ #[u,.i bank] _ _ (E.ret 0 rfl) (fun j v h=>by rw [Nat.zero_add]; exact h) underlying29 rfl Bt ?_;refine Bl _ _ rfl rfl bu 0 rfl _ _ (pulC (nextC c 24)).a _ _ (E.ret 6 rfl) (fun j v h=>by rw [Nat.zero_add]; exact h) underlying31 rfl Ax ?_;simp only [Act.put,Sa,Sb,Sc]
    go_big_quiet_step (fail)
    go_big_quiet_step ((go_at_call 112; exact Calls.regrown_of (Jez (pulC (nextC c 24)) _ _)))
    go_big_quiet_step ((go_at_call 139; exact Calls.regrown_of (Ou (Jg6 (pulC (nextC c 24)) (Dp g c.S)) bank (K.keep (Aa (E.call (below_regrown _ _ _)).below Aj) (fun _ _ _ x=>x)))))
    refine wpQuiet_nil ?_;intro w' hw';obtain ⟨⟨d,os⟩,rfl⟩:=hw';replace E:=E.call (below_regrown W11 d os);refine wp_store_row _ _ _ rfl (w.heap.size+1) _ rfl rfl _ _ (E.ret 1 rfl) Ax rfl (A7.one _) ?_;go_wp2
    go_meet
    exact ⟨_,_,(E.row 1 rfl _).take 6⟩
   by_cases h25:op=25\/op=26
   .rcases h25 with rfl | rfl
    all_goals
     go_upto_region 29 with (fail);refine wp_region_lit ?_
     iterate 5 (refine wpList_plain rfl (fun K9 hK9=>?_); go_simp; refine hK9 _ _ ?_; clear hK9)
     go_wp2
     go_meet
     exact ⟨_,_,E.cell 1 rfl 7 _ rfl⟩
   by_cases h27:op=27\/op=28
   .rcases h27 with rfl | rfl
    all_goals
     go_upto_region 32 with (fail);refine wp_region_lit ?_
     iterate 5 (refine wpList_plain rfl (fun K9 hK9=>?_); go_simp; refine hK9 _ _ ?_; clear hK9)
     go_wp2
     go_meet
     exact ⟨_,_,E.cell 1 rfl 6 _ rfl⟩
   have n19:¬ op=19:=fun h=>hj (.inr (.inr (.inr h)))
   have n18:¬ op=18:=fun h=>by cases hz:c.C <;> simp [h,hz] at hj hs
   have n17:¬ op=17:=fun h=>by cases hz:c.Z <;> simp [h,hz] at hj hs
   have n16:¬ op=16:=fun h=>by cases hz:c.Z <;> simp [h,hz] at hj hs
   have n25:¬ op=25:=fun h=>h25 (.inl h)
   have n26:¬ op=26:=fun h=>h25 (.inr h)
   have n27:¬ op=27:=fun h=>h27 (.inl h)
   have n28:¬ op=28:=fun h=>h27 (.inr h)
   have E1:Ee g c op arg v=nextC c op:=by
    unfold Ee;rw [if_neg (by rw [ho]; decide)]
    repeat rw [if_neg (by assumption)]
   have E2:Ev g c op=g:=by
    unfold Ev;rw [if_neg h20,if_neg h22]
   have e16:=beq_eq_false_iff_ne.2 n16;have e17:=beq_eq_false_iff_ne.2 n17;have e18:=beq_eq_false_iff_ne.2 n18;have e19:=beq_eq_false_iff_ne.2 n19;have e20:=beq_eq_false_iff_ne.2 h20;have e21:=beq_eq_false_iff_ne.2 h21;have e22:=beq_eq_false_iff_ne.2 h22;have e23:=beq_eq_false_iff_ne.2 h23;have e24:=beq_eq_false_iff_ne.2 h24;have e25:=beq_eq_false_iff_ne.2 n25;have e26:=beq_eq_false_iff_ne.2 n26;have e27:=beq_eq_false_iff_ne.2 n27;have e28:=beq_eq_false_iff_ne.2 n28;clear hj hs h20 h21 h22 h23 h24 h25 h27 n16 n17 n18 n19 n25 n26 n27 n28;go_wp2
   go_meet
   refine ⟨D,q,?_⟩;rw [E1,E2];exact E
  case rest =>
   obtain ⟨D,q,E⟩:=hcut;go_upto_region 33 with (fail);rename_i K1 hK1
   refine Bp [some 155,some 156,none,none] (by kernel_rfl) (by kernel_rfl) (by kernel_rfl) (by kernel_rfl) (by first | (simp [slotsOf]; done) | (simp [slotsOf,Act.put]; done))
     (fun j b _=>(j=2/\b=w.heap.size+1+1+1)\/(j=3/\b=w.heap.size+1+1+1+1))
     (fun i y W=>match i with
      | 0=>y=.agg #[q,.i bank]
      | 1=>y=.agg (Ee g c op arg v).a
      | 2=>W.heap[w.heap.size+1+1+1]?=some (.cells #[q,.i bank] 29 (0,0))
      | _=>W.heap[w.heap.size+1+1+1+1]?=some (.cells (Ee g c op arg v).a 31 (0,0))) ?_ ?_ ?_
   .intro i j o y W W' hij ho _ hW h
    match i,ho,h with
    | 0,_,h=>exact h
    | 1,_,h=>exact h
    | 2,_,h=>exact Al h hW (fun o e=>by omega)
    | 3,_,h=>exact Al h hW (fun o e=>by omega)
    | _+4,ho,_=>simp at ho
   .intro i o a' W K ho F L hw hK
    have n1:=E.far 5 3 rfl rfl (by decide);have n2:=E.far 5 4 rfl rfl (by decide);have n3:=E.far 1 3 rfl rfl (by decide);have n4:=E.far 1 4 rfl rfl (by decide)
    rcases i with _ | _ | _ | _ | i <;> simp only [Sg,Sh,Si,List.getElem?_nil,Option.some.injEq,reduceCtorEq] at ho <;> subst ho
    .exact wp_load_row _ _ rfl bo (by simpa [Act.eval] using F.get (t:=10) (v:=(pt bo 0)) (by decide) rfl) _ _ _ _ (Al (E.ret 5 rfl) L (fun o ⟨j,oj,hj,hoj,hwj,e⟩=>by omega)) underlying29 rfl Bt (Hk hK rfl)
    .exact wp_load_row _ _ rfl (w.heap.size+1) (by simpa [Act.eval] using F.get (t:=5) (v:=(pt (w.heap.size+1) 0)) (by decide) rfl) _ _ _ _ (Al (E.ret 1 rfl) L (fun o ⟨j,oj,hj,hoj,hwj,e⟩=>by omega)) underlying31 rfl Ax (Hk hK rfl)
    .have rB:=Al (E.ret 3 rfl) L (fun o ⟨j,oj,hj,hoj,hwj,e⟩=>by omega)
     exact wp_store_row _ _ _ rfl (w.heap.size+1+1+1) #[q,.i bank] (by simpa [Act.eval] using F.get (t:=8) (v:=(pt (w.heap.size+1+1+1) 0)) (by decide) rfl) (by simpa [Act.eval] using (show a'.tmps[155]?.getD undef=.agg #[q,.i bank] from Hr hw 0)) _ _ rB Bt rfl E.one (hK undef _ ((Bn rB _).mono (fun b o _ h=>Or.inl ⟨rfl,h⟩)) (setRow_heap _ _ _ _ _ _ rB))
    .have rB:=Al (E.ret 4 rfl) L (fun o ⟨j,oj,hj,hoj,hwj,e⟩=>by omega)
     exact wp_store_row _ _ _ rfl (w.heap.size+1+1+1+1) (Ee g c op arg v).a (by simpa [Act.eval] using F.get (t:=9) (v:=(pt (w.heap.size+1+1+1+1) 0)) (by decide) rfl) (by simpa [Act.eval] using (show a'.tmps[156]?.getD undef=.agg (Ee g c op arg v).a from Hr hw 1)) _ _ rB Ax rfl (A7.one _) (hK undef _ ((Bn rB _).mono (fun b o _ h=>Or.inr ⟨rfl,h⟩)) (setRow_heap _ _ _ _ _ _ rB))
   .intro a' W F L hφ
    have r1:W.heap[w.heap.size+1+1+1]?=_:=Hd hφ 2;have r2:W.heap[w.heap.size+1+1+1+1]?=_:=Hd hφ 3;have p0:a'.tmps[155]?.getD undef=_:=Hd hφ 0;have p1:a'.tmps[156]?.getD undef=_:=Hd hφ 1
    have Z:=E.fin L (fun b o ⟨j,e⟩=>by
     rcases e with ⟨_,rfl⟩ | ⟨_,rfl⟩
     .exact ⟨3,_,_,rfl⟩
     .exact ⟨4,_,_,rfl⟩)
    rw [F.same,show slotsOf [some 155,some 156,none,none]=[155,156] from rfl];simp only [List.foldl_cons,List.foldl_nil];rw [p0,p1];clear hφ L F p0 p1 E;refine hK1 _ _ ?_;go_simp;go_wp2;refine bodyPost_ret (v:=.tuple #[.agg _,.agg _]) (Q5 results93 _ _ (w.heap.size+1+1+1) (w.heap.size+1+1+1+1) _ _ _ _ _ _ _ _ rfl rfl r1 r2 underlying29 underlying31 rfl rfl Bt Ax) rfl ?_;exact ⟨_,rfl,Z⟩
 .have ha:Ib op=true:=hok.out.symm
  clear hok HAlu;obtain ⟨n1,n2⟩:=Jc0 ha
  have E1:Ee g c op arg v=aluC (nextC c op) op arg v:=by
   unfold Ee;rw [if_pos ha]
  have E2:Ev g c op=g:=by
   unfold Ev;rw [if_neg n1,if_neg n2]
  clear n1 n2 ha;go_upto_region 5 with (fail);rename_i K1 hK1
  refine Bp [some 35,some 36,none,none] (by kernel_rfl) (by kernel_rfl) (by kernel_rfl) (by kernel_rfl) (by first | (simp [slotsOf]; done) | (simp [slotsOf,Act.put]; done))
    (fun j b _=>(j=2/\b=w.heap.size+1+1+1)\/(j=3/\b=w.heap.size+1+1+1+1))
    (fun i y W=>match i with
     | 0=>y=.agg #[q,.i bank]
     | 1=>y=.agg (aluC (nextC c op) op arg v).a
     | 2=>W.heap[w.heap.size+1+1+1]?=some (.cells #[q,.i bank] 29 (0,0))
     | _=>W.heap[w.heap.size+1+1+1+1]?=some (.cells (aluC (nextC c op) op arg v).a 31 (0,0))) ?_ ?_ ?_
  .intro i j o y W W' hij ho _ hW h
   match i,ho,h with
   | 0,_,h=>exact h
   | 1,_,h=>exact h
   | 2,_,h=>exact Al h hW (fun o e=>by omega)
   | 3,_,h=>exact Al h hW (fun o e=>by omega)
   | _+4,ho,_=>simp at ho
  .intro i o a' W K ho F L hw hK
   have n1:=E.far 5 3 rfl rfl (by decide);have n2:=E.far 5 4 rfl rfl (by decide);have n3:=E.far 6 3 rfl rfl (by decide);have n4:=E.far 6 4 rfl rfl (by decide)
   rcases i with _ | _ | _ | _ | i <;> simp only [Sg,Sh,Si,List.getElem?_nil,Option.some.injEq,reduceCtorEq] at ho <;> subst ho
   .exact wp_load_row _ _ rfl bo (by simpa [Act.eval] using F.get (t:=10) (v:=(pt bo 0)) (by decide) rfl) _ _ _ _ (Al (E.ret 5 rfl) L (fun o ⟨j,oj,hj,hoj,hwj,e⟩=>by omega)) underlying29 rfl Bt (Hk hK rfl)
   .exact wp_load_row _ _ rfl (bn) (by simpa [Act.eval] using F.get (t:=11) (v:=(pt bn 0)) (by decide) rfl) _ _ _ _ (Al (E.ret 6 rfl) L (fun o ⟨j,oj,hj,hoj,hwj,e⟩=>by omega)) underlying31 rfl Ax (Hk hK rfl)
   .have rB:=Al (E.ret 3 rfl) L (fun o ⟨j,oj,hj,hoj,hwj,e⟩=>by omega)
    exact wp_store_row _ _ _ rfl (w.heap.size+1+1+1) #[q,.i bank] (by simpa [Act.eval] using F.get (t:=8) (v:=(pt (w.heap.size+1+1+1) 0)) (by decide) rfl) (by simpa [Act.eval] using (show a'.tmps[35]?.getD undef=.agg #[q,.i bank] from Hr hw 0)) _ _ rB Bt rfl E.one (hK undef _ ((Bn rB _).mono (fun b o _ h=>Or.inl ⟨rfl,h⟩)) (setRow_heap _ _ _ _ _ _ rB))
   .have rB:=Al (E.ret 4 rfl) L (fun o ⟨j,oj,hj,hoj,hwj,e⟩=>by omega)
    exact wp_store_row _ _ _ rfl (w.heap.size+1+1+1+1) (aluC (nextC c op) op arg v).a (by simpa [Act.eval] using F.get (t:=9) (v:=(pt (w.heap.size+1+1+1+1) 0)) (by decide) rfl) (by simpa [Act.eval] using (show a'.tmps[36]?.getD undef=.agg (aluC (nextC c op) op arg v).a from Hr hw 1)) _ _ rB Ax rfl (A7.one _) (hK undef _ ((Bn rB _).mono (fun b o _ h=>Or.inr ⟨rfl,h⟩)) (setRow_heap _ _ _ _ _ _ rB))
  .intro a' W F L hφ
   have r1:W.heap[w.heap.size+1+1+1]?=_:=Hd hφ 2;have r2:W.heap[w.heap.size+1+1+1+1]?=_:=Hd hφ 3;have p0:a'.tmps[35]?.getD undef=_:=Hd hφ 0;have p1:a'.tmps[36]?.getD undef=_:=Hd hφ 1
   have Z:=E.fin L (fun b o ⟨j,e⟩=>by
    rcases e with ⟨_,rfl⟩ | ⟨_,rfl⟩
    .exact ⟨3,_,_,rfl⟩
    .exact ⟨4,_,_,rfl⟩)
   rw [F.same,show slotsOf [some 35,some 36,none,none]=[35,36] from rfl];simp only [List.foldl_cons,List.foldl_nil];rw [p0,p1];clear hφ L F p0 p1 E;refine hK1 _ _ ?_;go_simp;go_wp2;refine bodyPost_ret (v:=.tuple #[.agg _,.agg _]) (Q5 results93 _ _ (w.heap.size+1+1+1) (w.heap.size+1+1+1+1) _ _ _ _ _ _ _ _ rfl rfl r1 r2 underlying29 underlying31 rfl rfl Bt Ax) rfl ?_;exact ⟨_,by rw [E1],E2 ▸ Z⟩
set_option maxHeartbeats 8000000
set_option maxRecDepth 40000
theorem Pk:(prog.info? 26).map (·.size)=some 1:=by kernel_rfl
theorem Pl:(prog.info? 49).map (·.size)=some 2:=by kernel_rfl
theorem Bx.start (w:World) {lo:Nat} (cs zs:Array Value) (h:lo<=w.heap.size):Bx w ((w.alloc (.cells cs 41)).alloc (.cells zs 41)) lo w.heap.size (w.heap.size+1) zs cs :=
 have L:Below w.heap.size w ((w.alloc (.cells cs 41)).alloc (.cells zs 41)):=((Below.refl _ _).alloc (Nat.le_refl _) _).alloc (by simp) _
 ⟨Az (Ak w cs 41) _,by simpa using Ak (w.alloc (.cells cs 41)) zs 41,L.mono h,Eg.below L,Nat.le_refl _,Nat.le_succ _,by omega,h⟩
theorem Fl.start {w:World} {lo:Nat} {D:Nat->Nat->Prop} {v:Value} {d:Aq} (H:Fl w lo D v d) (h:lo<=w.heap.size) {W:World} (L:Below w.heap.size w W) :
  ∃ (u0 u1 u2 u3 u4 ov:Value) (gb cp:Nat->Nat) (g6 c6 g7 c7:Nat),v=.agg (rowL u0 u1 u2 u3 u4 ov g6 c6 g7 c7 d)/\Lx w W lo w.heap.size w.heap.size (w.heap.size+1) D D u0 u1 u2 u3 u4 ov gb cp g6 c6 g7 c7 d:=by
 obtain ⟨u0,u1,u2,u3,u4,ov,gb,cp,g6,c6,g7,c7,rfl,HP⟩:=H;exact ⟨u0,u1,u2,u3,u4,ov,gb,cp,g6,c6,g7,c7,rfl,HP.below L,fun i k e=>by have:=HP.bd i k e; omega,fun i k e=>Or.inl ⟨_,e⟩,h⟩
theorem Jgj (w:World) (lo:Nat) (D:Nat->Nat->Prop) (v:Value) (d:Aq) (H:Fl w lo D v d) (hlo:lo<=w.heap.size) (hok:OkL d) (hnm:d.nmi=true):Calls prog 53 #[v] w fun e w'=>∃ v',e=.returned (.tuple #[v',.i (actN d)])/\Iy w w' lo D v' (actD d)/\Below lo w w'/\Eg w w':=by
 obtain ⟨u0,u1,u2,u3,u4,ov,gb,cp,g6,c6,g7,c7,rfl,LX⟩:=H.start hlo (Below.refl w.heap.size w);replace LX:=LX.below (((Below.refl w.heap.size w).alloc (Nat.le_refl _) (.cells (rowL u0 u1 u2 u3 u4 ov g6 c6 g7 c7 d) 41)).alloc (by simp) (.cells zR 41));have BX:=Bx.start w (rowL u0 u1 u2 u3 u4 ov g6 c6 g7 c7 d) zR hlo
 go_enter func53,ntmps53
 go_upto_region 1 with (fail);generalize (w.alloc (.cells (rowL u0 u1 u2 u3 u4 ov g6 c6 g7 c7 d) 41)).alloc (.cells zR 41)=W0 at *;generalize hrs:(zR:Array Value)=rs at BX
 have HRS:Hid (rs.size=34):=by show _=_; rw [<- hrs]; rfl
 clear hrs;have c0:=Af BX.box;have f0:=Au BX.box
 have f29:(rowL u0 u1 u2 u3 u4 ov g6 c6 g7 c7 d)[29]?=some (.bool true):=by rw [<- hnm]; rfl
 replace hnm:=Ac hnm;go_upto_region 3 with (fail);clear c0 f0 f29;have LX':=(LX.wrote BX (Or.inl rfl) (BX.cellW 29 (.bool false))).nmi false;replace BX:=BX.cell 29 (.bool false);replace LX:=LX';clear LX';generalize W0.setCell ⟨w.heap.size,29,none⟩ (.bool false)=W1 at *;replace BX:Bx w W1 lo w.heap.size (w.heap.size+1) rs (rowL u0 u1 u2 u3 u4 ov g6 c6 g7 c7 (noNmi d)):=BX;rename_i K3 hK3;refine wp_region_lit ?_
 iterate 1 (refine wpList_plain rfl (fun K9 hK9=>?_); go_simp; refine hK9 _ _ ?_; clear hK9)
 refine Ba rfl _ _ rfl w.heap.size 0 rfl _ _ #[u0] _ _ BX.box (Jb7 rfl) underlying26 rfl Pk ?_
 iterate 1 (refine wpList_plain rfl (fun K9 hK9=>?_); go_simp; refine hK9 _ _ ?_; clear hK9)
 refine Ba rfl _ _ rfl w.heap.size 2 rfl _ _ #[u2,.i (noNmi d).bank] _ _ BX.box (Ug rfl rfl) underlying29 rfl Bt ?_
 iterate 1 (refine wpList_plain rfl (fun K9 hK9=>?_); go_simp; refine hK9 _ _ ?_; clear hK9)
 refine Ba rfl _ _ rfl w.heap.size 4 rfl _ _ (cR ((noNmi d).A) ((noNmi d).X) ((noNmi d).S) ((noNmi d).Pc) ((noNmi d).Z) ((noNmi d).N) ((noNmi d).C) ((noNmi d).I)) _ _ BX.box (Gt rfl rfl rfl rfl rfl rfl rfl rfl) underlying31 rfl Ax ?_;refine A3 rfl _ _ (by kernel_rfl) (Jz W1 _ _ u0 u2 d.m d.ln d.f d.g d.bank LX.lp.h0.ints (hok.nr ▸ LX.lp.h2.int1) d.A d.X d.S d.Pc d.Z d.N d.C d.I 65530) ?_;rintro e W2 ⟨q,rfl,OI,L⟩;refine ⟨_,rfl,?_⟩;have hz1:=Ad BX.res;have hz4:=Ad BX.box;have hz2:=L.size;have hz0:=BX.low.size;replace BX:=BX.below L;obtain ⟨D',LX⟩:=(LX.below L).mem OI hok.nr LX.lp.nN hz4 hz1 (by omega) hz2;obtain ⟨qa,qc,rfl,-⟩:=OI.ex;clear OI L
 iterate 4 (refine wpList_plain rfl (fun K9 hK9=>?_); go_simp; refine hK9 _ _ ?_; clear hK9)
 refine Be rfl _ _ _ rfl w.heap.size 2 #[.slice qa 512 qc,.i (noNmi d).bank] rfl rfl _ _ BX.box Bt (by show (2+2:Nat)<=34; omega) (by first | rfl | simp [Value.oneCell']) ?_;have LX':=LX.wrote BX (Or.inl rfl) (As BX.box (putAt (rowL u0 u1 u2 u3 u4 ov g6 c6 g7 c7 (noNmi d)) 2 #[.slice qa 512 qc,.i (noNmi d).bank]));replace BX:=BX.set (putAt (rowL u0 u1 u2 u3 u4 ov g6 c6 g7 c7 (noNmi d)) 2 #[.slice qa 512 qc,.i (noNmi d).bank]);replace LX:=LX';clear LX';generalize W2.setRow w.heap.size (putAt (rowL u0 u1 u2 u3 u4 ov g6 c6 g7 c7 (noNmi d)) 2 #[.slice qa 512 qc,.i (noNmi d).bank])=W3 at *;replace BX:Bx w W3 lo w.heap.size (w.heap.size+1) rs (rowL u0 u1 (.slice qa 512 qc) u3 u4 ov g6 c6 g7 c7 { (noNmi d) with g:=(enterG d.g d.S d.Pc d.Z d.N d.C d.I) }):=BX
 iterate 1 (refine wpList_plain rfl (fun K9 hK9=>?_); go_simp; refine hK9 _ _ ?_; clear hK9)
 refine Be rfl _ _ _ rfl w.heap.size 4 (cR ((entC (noNmi d) 65530).A) ((entC (noNmi d) 65530).X) ((entC (noNmi d) 65530).S) ((entC (noNmi d) 65530).Pc) ((entC (noNmi d) 65530).Z) ((entC (noNmi d) 65530).N) ((entC (noNmi d) 65530).C) ((entC (noNmi d) 65530).I)) rfl rfl _ _ BX.box Ax (by show (4+8:Nat)<=34; omega) (by first | rfl | simp [Value.oneCell']) ?_;have LX':=LX.wrote BX (Or.inl rfl) (As BX.box (putAt (rowL u0 u1 (.slice qa 512 qc) u3 u4 ov g6 c6 g7 c7 { (noNmi d) with g:=(enterG d.g d.S d.Pc d.Z d.N d.C d.I) }) 4 (cR ((entC (noNmi d) 65530).A) ((entC (noNmi d) 65530).X) ((entC (noNmi d) 65530).S) ((entC (noNmi d) 65530).Pc) ((entC (noNmi d) 65530).Z) ((entC (noNmi d) 65530).N) ((entC (noNmi d) 65530).C) ((entC (noNmi d) 65530).I))))
 replace BX:=BX.set (putAt (rowL u0 u1 (.slice qa 512 qc) u3 u4 ov g6 c6 g7 c7 { (noNmi d) with g:=(enterG d.g d.S d.Pc d.Z d.N d.C d.I) }) 4 (cR ((entC (noNmi d) 65530).A) ((entC (noNmi d) 65530).X) ((entC (noNmi d) 65530).S) ((entC (noNmi d) 65530).Pc) ((entC (noNmi d) 65530).Z) ((entC (noNmi d) 65530).N) ((entC (noNmi d) 65530).C) ((entC (noNmi d) 65530).I)));replace LX:=LX';clear LX';generalize W3.setRow w.heap.size (putAt (rowL u0 u1 (.slice qa 512 qc) u3 u4 ov g6 c6 g7 c7 { (noNmi d) with g:=(enterG d.g d.S d.Pc d.Z d.N d.C d.I) }) 4 (cR ((entC (noNmi d) 65530).A) ((entC (noNmi d) 65530).X) ((entC (noNmi d) 65530).S) ((entC (noNmi d) 65530).Pc) ((entC (noNmi d) 65530).Z) ((entC (noNmi d) 65530).N) ((entC (noNmi d) 65530).C) ((entC (noNmi d) 65530).I)))=W4 at *;replace LX:=LX.cpu (entC (noNmi d) 65530)
 replace BX:Bx w W4 lo w.heap.size (w.heap.size+1) rs (rowL u0 u1 (.slice qa 512 qc) u3 u4 ov g6 c6 g7 c7 (putCpu (noNmi d) (enterG d.g d.S d.Pc d.Z d.N d.C d.I) (entC (noNmi d) 65530))):=BX;refine hK3 _ _ ?_;clear hK3;go_upto_region 4 with (fail);rename_i K3 hK3;refine wp_region_lit ?_;refine wpList_load_row rfl _ _ rfl w.heap.size rfl _ _ _ _ BX.box underlying41 rfl An ?_;refine wpList_store_row rfl _ _ _ rfl (w.heap.size+1) _ rfl rfl _ _ BX.res An HRS.out LX.one ?_
 iterate 1 (refine wpList_plain rfl (fun K9 hK9=>?_); go_simp; refine hK9 _ _ ?_; clear hK9)
 have LXF:=LX.wrote BX (Or.inr rfl) (As BX.res (rowL u0 u1 (.slice qa 512 qc) u3 u4 ov g6 c6 g7 c7 (putCpu (noNmi d) (enterG d.g d.S d.Pc d.Z d.N d.C d.I) (entC (noNmi d) 65530))));have BXF:=BX.out (rowL u0 u1 (.slice qa 512 qc) u3 u4 ov g6 c6 g7 c7 (putCpu (noNmi d) (enterG d.g d.S d.Pc d.Z d.N d.C d.I) (entC (noNmi d) 65530)));generalize W4.setRow (w.heap.size+1) (rowL u0 u1 (.slice qa 512 qc) u3 u4 ov g6 c6 g7 c7 (putCpu (noNmi d) (enterG d.g d.S d.Pc d.Z d.N d.C d.I) (entC (noNmi d) 65530)))=W5 at *;refine hK3 _ _ ?_;clear hK3;go_wp2;refine bodyPost_ret (v:=.tuple #[.agg (rowL u0 u1 (.slice qa 512 qc) u3 u4 ov g6 c6 g7 c7 (putCpu (noNmi d) (enterG d.g d.S d.Pc d.Z d.N d.C d.I) (entC (noNmi d) 65530))),.i 7]) (A2 results53 _ _ (w.heap.size+1) _ _ _ _ rfl BXF.res underlying41 rfl An) rfl ?_
 have hv:actD d=putCpu (noNmi d) (enterG d.g d.S d.Pc d.Z d.N d.C d.I) (entC (noNmi d) 65530)/\actN d=7:=by
  unfold actD actN;rw [if_pos hnm.out,if_pos hnm.out];exact ⟨rfl,rfl⟩
 rw [hv.1,hv.2];exact ⟨_,rfl,LXF.nx,BXF.low,BXF.kept⟩
theorem Jgk (w:World) (lo:Nat) (D:Nat->Nat->Prop) (v:Value) (d:Aq) (H:Fl w lo D v d) (hlo:lo<=w.heap.size) (hok:OkL d) (hnm:d.nmi=false) (hrr:d.R=true) (hii:d.I=false):Calls prog 53 #[v] w fun e w'=>∃ v',e=.returned (.tuple #[v',.i (actN d)])/\Iy w w' lo D v' (actD d)/\Below lo w w'/\Eg w w':=by
 obtain ⟨u0,u1,u2,u3,u4,ov,gb,cp,g6,c6,g7,c7,rfl,LX⟩:=H.start hlo (Below.refl w.heap.size w);replace LX:=LX.below (((Below.refl w.heap.size w).alloc (Nat.le_refl _) (.cells (rowL u0 u1 u2 u3 u4 ov g6 c6 g7 c7 d) 41)).alloc (by simp) (.cells zR 41));have BX:=Bx.start w (rowL u0 u1 u2 u3 u4 ov g6 c6 g7 c7 d) zR hlo
 go_enter func53,ntmps53
 go_upto_region 1 with (fail);generalize (w.alloc (.cells (rowL u0 u1 u2 u3 u4 ov g6 c6 g7 c7 d) 41)).alloc (.cells zR 41)=W0 at *;generalize hrs:(zR:Array Value)=rs at BX
 have HRS:Hid (rs.size=34):=by show _=_; rw [<- hrs]; rfl
 clear hrs;have c0:=Af BX.box;have f0:=Au BX.box
 have f29:(rowL u0 u1 u2 u3 u4 ov g6 c6 g7 c7 d)[29]?=some (.bool false):=by rw [<- hnm]; rfl
 have f26:(rowL u0 u1 u2 u3 u4 ov g6 c6 g7 c7 d)[26]?=some (.bool true):=by rw [<- hrr]; rfl
 have f11:(rowL u0 u1 u2 u3 u4 ov g6 c6 g7 c7 d)[11]?=some (.bool false):=by rw [<- hii]; rfl
 replace hnm:=Ac hnm;replace hrr:=Ac hrr;replace hii:=Ac hii;go_upto_region 6 with (fail);clear c0 f0 f29 f26 f11;rename_i K3 hK3;refine wp_region_lit ?_
 iterate 1 (refine wpList_plain rfl (fun K9 hK9=>?_); go_simp; refine hK9 _ _ ?_; clear hK9)
 refine Ba rfl _ _ rfl w.heap.size 0 rfl _ _ #[u0] _ _ BX.box (Jb7 rfl) underlying26 rfl Pk ?_
 iterate 1 (refine wpList_plain rfl (fun K9 hK9=>?_); go_simp; refine hK9 _ _ ?_; clear hK9)
 refine Ba rfl _ _ rfl w.heap.size 2 rfl _ _ #[u2,.i d.bank] _ _ BX.box (Ug rfl rfl) underlying29 rfl Bt ?_
 iterate 1 (refine wpList_plain rfl (fun K9 hK9=>?_); go_simp; refine hK9 _ _ ?_; clear hK9)
 refine Ba rfl _ _ rfl w.heap.size 4 rfl _ _ (cR d.A d.X d.S d.Pc d.Z d.N d.C d.I) _ _ BX.box (Gt rfl rfl rfl rfl rfl rfl rfl rfl) underlying31 rfl Ax ?_;refine A3 rfl _ _ (by kernel_rfl) (Jz W0 _ _ u0 u2 d.m d.ln d.f d.g d.bank LX.lp.h0.ints (hok.nr ▸ LX.lp.h2.int1) d.A d.X d.S d.Pc d.Z d.N d.C d.I 65534) ?_;rintro e W2 ⟨q,rfl,OI,L⟩;refine ⟨_,rfl,?_⟩;have hz1:=Ad BX.res;have hz4:=Ad BX.box;have hz2:=L.size;have hz0:=BX.low.size;replace BX:=BX.below L;obtain ⟨D',LX⟩:=(LX.below L).mem OI hok.nr LX.lp.nN hz4 hz1 (by omega) hz2;obtain ⟨qa,qc,rfl,-⟩:=OI.ex;clear OI L
 iterate 4 (refine wpList_plain rfl (fun K9 hK9=>?_); go_simp; refine hK9 _ _ ?_; clear hK9)
 refine Be rfl _ _ _ rfl w.heap.size 2 #[.slice qa 512 qc,.i d.bank] rfl rfl _ _ BX.box Bt (by show (2+2:Nat)<=34; omega) (by first | rfl | simp [Value.oneCell']) ?_;have LX':=LX.wrote BX (Or.inl rfl) (As BX.box (putAt (rowL u0 u1 u2 u3 u4 ov g6 c6 g7 c7 d) 2 #[.slice qa 512 qc,.i d.bank]));replace BX:=BX.set (putAt (rowL u0 u1 u2 u3 u4 ov g6 c6 g7 c7 d) 2 #[.slice qa 512 qc,.i d.bank]);replace LX:=LX';clear LX';generalize W2.setRow w.heap.size (putAt (rowL u0 u1 u2 u3 u4 ov g6 c6 g7 c7 d) 2 #[.slice qa 512 qc,.i d.bank])=W3 at *;replace BX:Bx w W3 lo w.heap.size (w.heap.size+1) rs (rowL u0 u1 (.slice qa 512 qc) u3 u4 ov g6 c6 g7 c7 { d with g:=(enterG d.g d.S d.Pc d.Z d.N d.C d.I) }):=BX
 iterate 1 (refine wpList_plain rfl (fun K9 hK9=>?_); go_simp; refine hK9 _ _ ?_; clear hK9)
 refine Be rfl _ _ _ rfl w.heap.size 4 (cR ((entC d 65534).A) ((entC d 65534).X) ((entC d 65534).S) ((entC d 65534).Pc) ((entC d 65534).Z) ((entC d 65534).N) ((entC d 65534).C) ((entC d 65534).I)) rfl rfl _ _ BX.box Ax (by show (4+8:Nat)<=34; omega) (by first | rfl | simp [Value.oneCell']) ?_;have LX':=LX.wrote BX (Or.inl rfl) (As BX.box (putAt (rowL u0 u1 (.slice qa 512 qc) u3 u4 ov g6 c6 g7 c7 { d with g:=(enterG d.g d.S d.Pc d.Z d.N d.C d.I) }) 4 (cR ((entC d 65534).A) ((entC d 65534).X) ((entC d 65534).S) ((entC d 65534).Pc) ((entC d 65534).Z) ((entC d 65534).N) ((entC d 65534).C) ((entC d 65534).I))))
 replace BX:=BX.set (putAt (rowL u0 u1 (.slice qa 512 qc) u3 u4 ov g6 c6 g7 c7 { d with g:=(enterG d.g d.S d.Pc d.Z d.N d.C d.I) }) 4 (cR ((entC d 65534).A) ((entC d 65534).X) ((entC d 65534).S) ((entC d 65534).Pc) ((entC d 65534).Z) ((entC d 65534).N) ((entC d 65534).C) ((entC d 65534).I)));replace LX:=LX';clear LX';generalize W3.setRow w.heap.size (putAt (rowL u0 u1 (.slice qa 512 qc) u3 u4 ov g6 c6 g7 c7 { d with g:=(enterG d.g d.S d.Pc d.Z d.N d.C d.I) }) 4 (cR ((entC d 65534).A) ((entC d 65534).X) ((entC d 65534).S) ((entC d 65534).Pc) ((entC d 65534).Z) ((entC d 65534).N) ((entC d 65534).C) ((entC d 65534).I)))=W4 at *;replace LX:=LX.cpu (entC d 65534);replace BX:Bx w W4 lo w.heap.size (w.heap.size+1) rs (rowL u0 u1 (.slice qa 512 qc) u3 u4 ov g6 c6 g7 c7 (putCpu d (enterG d.g d.S d.Pc d.Z d.N d.C d.I) (entC d 65534))):=BX;refine hK3 _ _ ?_;clear hK3
 go_upto_region 7 with (fail);rename_i K3 hK3;refine wp_region_lit ?_;refine wpList_load_row rfl _ _ rfl w.heap.size rfl _ _ _ _ BX.box underlying41 rfl An ?_;refine wpList_store_row rfl _ _ _ rfl (w.heap.size+1) _ rfl rfl _ _ BX.res An HRS.out LX.one ?_
 iterate 1 (refine wpList_plain rfl (fun K9 hK9=>?_); go_simp; refine hK9 _ _ ?_; clear hK9)
 have LXF:=LX.wrote BX (Or.inr rfl) (As BX.res (rowL u0 u1 (.slice qa 512 qc) u3 u4 ov g6 c6 g7 c7 (putCpu d (enterG d.g d.S d.Pc d.Z d.N d.C d.I) (entC d 65534))));have BXF:=BX.out (rowL u0 u1 (.slice qa 512 qc) u3 u4 ov g6 c6 g7 c7 (putCpu d (enterG d.g d.S d.Pc d.Z d.N d.C d.I) (entC d 65534)));generalize W4.setRow (w.heap.size+1) (rowL u0 u1 (.slice qa 512 qc) u3 u4 ov g6 c6 g7 c7 (putCpu d (enterG d.g d.S d.Pc d.Z d.N d.C d.I) (entC d 65534)))=W5 at *;refine hK3 _ _ ?_;clear hK3;go_wp2;refine bodyPost_ret (v:=.tuple #[.agg (rowL u0 u1 (.slice qa 512 qc) u3 u4 ov g6 c6 g7 c7 (putCpu d (enterG d.g d.S d.Pc d.Z d.N d.C d.I) (entC d 65534))),.i 7]) (A2 results53 _ _ (w.heap.size+1) _ _ _ _ rfl BXF.res underlying41 rfl An) rfl ?_
 have hv:actD d=putCpu d (enterG d.g d.S d.Pc d.Z d.N d.C d.I) (entC d 65534)/\actN d=7:=by
  unfold actD actN;rw [if_neg (by rw [hnm.out]; decide),if_pos (by rw [hrr.out,hii.out]; rfl),if_neg (by rw [hnm.out]; decide),if_pos (by rw [hrr.out,hii.out]; rfl)];exact ⟨rfl,rfl⟩
 rw [hv.1,hv.2];exact ⟨_,rfl,LXF.nx,BXF.low,BXF.kept⟩
set_option maxHeartbeats 8000000
set_option maxRecDepth 40000
theorem Bx.far {w W W':World} {lo b r:Nat} {rs cs:Array Value} (H:Bx w W lo b r rs cs) {z:Nat} (h0:w.heap.size<=z) (hz:z≠b) (hz2:z≠r) (hw:Wrote (fun x _=>x=z) W W'):Bx w W' lo b r rs cs :=
 have h2:=H.hl
 ⟨Al H.box hw (fun o (e:b=z)=>hz e.symm),Al H.res hw (fun o (e:r=z)=>hz2 e.symm),H.low.trans (hw.below (Nat.le_trans H.hl H.low.size) (fun x o hb (e:x=z)=>by omega)),H.kept.wrote hw (fun x o hb (e:x=z)=>by exfalso; omega),H.up,H.up2,H.ne,H.hl⟩
theorem Jdm (w:World) (lo:Nat) (D:Nat->Nat->Prop) (v:Value) (d:Aq) (H:Fl w lo D v d) (hlo:lo<=w.heap.size) (hok:OkL d) (hnq:d.nq<1048576) (hnm:d.nmi=false) (hnc:(d.R && !d.I)=false):Calls prog 53 #[v] w fun e w'=>∃ v',e=.returned (.tuple #[v',.i (actN d)])/\Iy w w' lo D v' (actD d)/\Below lo w w'/\Eg w w':=by
 obtain ⟨y0,y1,y2,y3,y4,ov,gb,cp,g6,c6,g7,c7,rfl,LX⟩:=H.start hlo (Below.refl w.heap.size w);replace LX:=LX.below (((Below.refl w.heap.size w).alloc (Nat.le_refl _) (.cells (rowL y0 y1 y2 y3 y4 ov g6 c6 g7 c7 d) 41)).alloc (by simp) (.cells zR 41));have BX:=Bx.start w (rowL y0 y1 y2 y3 y4 ov g6 c6 g7 c7 d) zR hlo
 go_enter func53,ntmps53
 go_upto_region 1 with (fail);generalize (w.alloc (.cells (rowL y0 y1 y2 y3 y4 ov g6 c6 g7 c7 d) 41)).alloc (.cells zR 41)=W0 at *;generalize hrs:(zR:Array Value)=rs at BX
 have HRS:Hid (rs.size=34):=by show _=_; rw [<- hrs]; rfl
 clear hrs;have c0:=Af BX.box;have f0:=Au BX.box
 obtain ⟨rr,hrr⟩:∃ x,Hid (x=d.R):=⟨_,rfl⟩
 obtain ⟨ii,hii⟩:∃ x,Hid (x=d.I):=⟨_,rfl⟩
 have hc:Hid ((rr && !ii)=false):=by show _=_; rw [hrr.out,hii.out]; exact hnc
 have f29:(rowL y0 y1 y2 y3 y4 ov g6 c6 g7 c7 d)[29]?=some (.bool false):=by rw [<- hnm]; rfl
 have f26:(rowL y0 y1 y2 y3 y4 ov g6 c6 g7 c7 d)[26]?=some (.bool rr):=by rw [hrr.out]; rfl
 have f11:(rowL y0 y1 y2 y3 y4 ov g6 c6 g7 c7 d)[11]?=some (.bool ii):=by rw [hii.out]; rfl
 replace hnm:=Ac hnm;replace hnc:=Ac hnc;go_upto_region 5 with (fail)
 go_cut [33] (fun s wc=>s=.bool false/\wc=W0)
 case first =>
  cases rr with
  | false =>
   go_wp2_with fail
   go_meet
   exact ⟨rfl,rfl⟩
  | true =>
   cases ii with
   | false=>exact absurd hc.out (by decide)
   | true =>
    go_wp2_with fail
    go_meet
    exact ⟨rfl,rfl⟩
 case rest =>
 obtain ⟨rfl,rfl⟩:=hcut;clear hrr hii hc rr ii f26 f11;go_upto_region 8 with (fail);clear c0 f0 f29
 obtain ⟨op,hop⟩:∃ x,Hid (x=peekV d.m d.ln d.f d.nr d.g d.bank d.Pc):=⟨_,rfl⟩
 obtain ⟨ar,har⟩:∃ x,Hid (x=Jf (peekV d.m d.ln d.f d.nr d.g d.bank) d.Pc):=⟨_,rfl⟩
 have HFE:=Ac (fun W F G v u h (k:Ints .i64 W G u d.nr d.g)=>Z8 W F G v u d.m d.ln d.f d.nr d.g d.bank d.Pc h k);rw [<- har.out,<- hop.out] at HFE
 obtain ⟨ac,hac⟩:∃ x,Hid (x=Ch op):=⟨_,rfl⟩
 obtain ⟨at',hat⟩:∃ x,Hid (x=Gv op ar d.X):=⟨_,rfl⟩
 obtain ⟨va,hva⟩:∃ x,Hid (x=N1 op d.A):=⟨_,rfl⟩
 obtain ⟨cy,hcy⟩:∃ x,Hid (x=cycT op):=⟨_,rfl⟩
 obtain ⟨d2,hd2⟩:∃ x,Hid (x=Cq d op ar):=⟨_,rfl⟩
 obtain ⟨xx,hxx⟩:∃ x,Hid (x=Hh d op ar):=⟨_,rfl⟩
 obtain ⟨gx,hgx⟩:∃ x,Hid (x=Ev d2.g (Dy d2) op):=⟨_,rfl⟩
 obtain ⟨cx,hcx⟩:∃ x,Hid (x=Ee d2.g (Dy d2) op ar xx):=⟨_,rfl⟩
 have HAC:=Ac (fun W=>Wv W op ar d.A d.X d.S d.Pc d.Z d.N d.C d.I);rw [<- hac.out,<- hat.out,<- hva.out] at HAC;have HRD:=Ac (fun W v h hl=>Jdj W lo D v d at' h hl hok.ok hnq);have HWR:=Ac (fun W v h hl=>Jbb W lo D v d at' va h hl hok.ok);have M2:=Jk d op ar hok.row;rw [<- hd2.out] at M2;have N5:d2.nr=512:=M2.2.2.1.trans hok.nr
 have P5:0<=(Dy d2).Pc/\(Dy d2).Pc<=65535:=by rw [M2.2.2.2.2.1]; exact hok.cpu.2.2.2
 have HEX:=Ac (fun W G u (k:Ints .i64 W G u d2.nr d2.g)=>S9 W G u d2.g d2.bank (N5 ▸ k) (Dy d2) P5 op ar xx);rw [<- hgx.out,<- hcx.out] at HEX;simp only [Dy,A7.v] at HEX
 have HCY:Hid (∀ W,CB 94 #[.i op] W (.i cy)):=fun W=>by rw [hcy.out]; exact Rh W op
 have HVC:Hid (d.nmi=false->(d.R && !d.I)=false->actD d=putCpu d2 gx cx/\actN d=cy):=by
  intro e1 e2;unfold actD actN;rw [if_neg (by rw [e1]; decide),if_neg (by rw [e2]; decide),if_neg (by rw [e1]; decide),if_neg (by rw [e2]; decide)];unfold opD Jdb opO opA;rw [<- hop.out,<- har.out,<- hd2.out,<- hxx.out,<- hgx.out,<- hcx.out,hcy.out];exact ⟨rfl,rfl⟩
 have HR1:Hid (ac=1->Cl d at'=d2/\Dx d at'=xx):=by
  intro e
  have e':Ch op=1:=by rw [<- hac.out]; exact e
  rw [hd2.out,hxx.out,hat.out];unfold Cq Hh;rw [if_pos e',if_pos e'];exact ⟨rfl,rfl⟩
 have HR2:Hid (ac=2->Br d at' va=d2/\(0:Int)=xx):=by
  intro e
  have e':Ch op=2:=by rw [<- hac.out]; exact e
  rw [hd2.out,hxx.out,hat.out,hva.out];unfold Cq Hh;rw [if_neg (by rw [e']; decide),if_pos e',if_neg (by rw [e']; decide)];exact ⟨rfl,rfl⟩
 have HR0:Hid (ac≠1->ac≠2->d=d2/\(0:Int)=xx):=by
  intro e1 e2
  have e1':¬ Ch op=1:=by rw [<- hac.out]; exact e1
  have e2':¬ Ch op=2:=by rw [<- hac.out]; exact e2
  rw [hd2.out,hxx.out];unfold Cq Hh;rw [if_neg e1',if_neg e2',if_neg e1'];exact ⟨rfl,rfl⟩
 clear hop har hat hva hcy hac M2 P5;replace N5:=Ac N5;rename_i K3 hK3;refine wp_region_lit ?_
 iterate 1 (refine wpList_plain rfl (fun K9 hK9=>?_); go_simp; refine hK9 _ _ ?_; clear hK9)
 refine Ba rfl _ _ rfl w.heap.size 0 rfl _ _ #[y0] _ _ BX.box (Jb7 rfl) underlying26 rfl Pk ?_
 iterate 1 (refine wpList_plain rfl (fun K9 hK9=>?_); go_simp; refine hK9 _ _ ?_; clear hK9)
 refine Ba rfl _ _ rfl w.heap.size 2 rfl _ _ #[y2,.i d.bank] _ _ BX.box (Ug rfl rfl) underlying29 rfl Bt ?_
 iterate 2 (refine wpList_plain rfl (fun K9 hK9=>?_); go_simp; refine hK9 _ _ ?_; clear hK9)
 have c0:=Af BX.box;have f7:(rowL y0 y1 y2 y3 y4 ov g6 c6 g7 c7 d)[7]?=some (.i d.Pc):=rfl
 iterate 1 (refine wpList_plain rfl (fun K9 hK9=>?_); go_simp; refine hK9 _ _ ?_; clear hK9)
 clear c0 f7;refine A3 rfl _ _ (by kernel_rfl) (HFE.out _ _ _ _ _ LX.lp.h0.ints LX.lp.h2.int1) ?_;rintro e W1 ⟨rfl,L⟩;refine ⟨_,rfl,?_⟩;replace BX:=BX.below L;replace LX:=LX.below L;clear L HFE
 iterate 2 (refine wpList_plain rfl (fun K9 hK9=>?_); go_simp; refine hK9 _ _ ?_; clear hK9)
 have LA:Below W1.heap.size W1 (W1.alloc (.cells #[.i op,.i ar] 49)):=(Below.refl _ _).alloc (Nat.le_refl _) _;have kp:=Ak W1 #[.i op,.i ar] 49
 obtain ⟨pp,hpp⟩:∃ x,Hid (x=W1.heap.size):=⟨_,rfl⟩
 have lpp:w.heap.size+1<pp:=by rw [hpp.out]; exact Ad BX.res
 rw [<- hpp.out] at kp ⊢;replace BX:=BX.below LA;replace LX:=LX.below LA;clear LA hpp;generalize W1.alloc (.cells #[.i op,.i ar] 49)=WA at *;refine hK3 _ _ ?_;clear hK3;go_upto_region 9 with (fail);rename_i K3 hK3;refine wp_region_lit ?_;refine wpList_load_row rfl _ _ rfl pp rfl _ _ _ _ kp underlying49 rfl Pl ?_
 iterate 1 (refine wpList_plain rfl (fun K9 hK9=>?_); go_simp; refine hK9 _ _ ?_; clear hK9)
 refine Ba rfl _ _ rfl w.heap.size 4 rfl _ _ (cR d.A d.X d.S d.Pc d.Z d.N d.C d.I) _ _ BX.box (Gt rfl rfl rfl rfl rfl rfl rfl rfl) underlying31 rfl Ax ?_;refine A3 rfl _ _ (by kernel_rfl) (HAC.out WA) ?_;rintro e W2 ⟨rfl,L⟩;refine ⟨_,rfl,?_⟩;replace BX:=BX.below L;replace LX:=LX.below L;replace kp:=Ab kp L (Ad kp);clear L HAC
 iterate 7 (refine wpList_plain rfl (fun K9 hK9=>?_); go_simp; refine hK9 _ _ ?_; clear hK9)
 refine hK3 _ _ ?_;clear hK3
 go_upto_block 0 with (fail)
 go_cut [8] (fun s WX=>s=.i xx/\∃ (N0:Nat) (D3:Nat->Nat->Prop) (y0 y1 y2 y3 y4 ov:Value) (gb cp:Nat->Nat) (g6 c6 g7 c7:Nat),Bx w WX lo w.heap.size (w.heap.size+1) rs (rowL y0 y1 y2 y3 y4 ov g6 c6 g7 c7 d2)/\Lx w WX lo N0 w.heap.size (w.heap.size+1) D D3 y0 y1 y2 y3 y4 ov gb cp g6 c6 g7 c7 d2/\WX.heap[pp]?=some (.cells #[.i op,.i ar] 49 (0,0)))
 case first =>
  by_cases r1:ac=1
  .obtain ⟨eD,eX⟩:=HR1.out r1
   have q1:(ac==1)=true:=by simp [r1]
   clear r1;clear HR1 HR2 HR0;go_upto_region 13 with (fail);rename_i K3 hK3;refine wp_region_lit ?_;have hz2:=BX.low.size;have hlw:=BX.hl;refine wpList_load_row rfl _ _ rfl w.heap.size rfl _ _ _ _ BX.box underlying41 rfl An ?_
   iterate 1 (refine wpList_plain rfl (fun K9 hK9=>?_); go_simp; refine hK9 _ _ ?_; clear hK9)
   refine A3 rfl _ _ (by kernel_rfl) (HRD.out _ _ LX.lp.x (by omega)) ?_;rintro e W3 ⟨v3,rfl,HN,LB,KB⟩;refine ⟨_,rfl,?_⟩;rw [eD] at HN;rw [eX];have hz3:=LB.size;obtain ⟨D3,y0,y1,y2,y3,y4,ov,gb,cp,g6,c6,g7,c7,rfl,LX3⟩:=HN.lx LX.ap LX.nr (Ad BX.box) (Ad BX.res) hz2 (by omega);replace BX:=BX.turn LB KB;replace kp:=KB.2 _ _ _ kp (by decide) (by decide);clear HN LB KB LX HRD HWR
   iterate 3 (refine wpList_plain rfl (fun K9 hK9=>?_); go_simp; refine hK9 _ _ ?_; clear hK9)
   refine wpList_store_row rfl _ _ _ rfl w.heap.size _ rfl rfl _ _ BX.box An rfl LX3.one ?_
   iterate 1 (refine wpList_plain rfl (fun K9 hK9=>?_); go_simp; refine hK9 _ _ ?_; clear hK9)
   have LX:=LX3.wrote BX (Or.inl rfl) (As BX.box (rowL y0 y1 y2 y3 y4 ov g6 c6 g7 c7 d2));replace kp:=Al kp (As BX.box (rowL y0 y1 y2 y3 y4 ov g6 c6 g7 c7 d2)) (fun o (e:pp=_)=>by omega);replace BX:=BX.set (rowL y0 y1 y2 y3 y4 ov g6 c6 g7 c7 d2);clear LX3;generalize W3.setRow w.heap.size (rowL y0 y1 y2 y3 y4 ov g6 c6 g7 c7 d2)=W4 at *;refine hK3 _ _ ?_;clear hK3;go_wp2_with fail
   go_meet
   exact ⟨rfl,_,_,_,_,_,_,_,_,_,_,_,_,_,_,BX,LX,kp⟩
  .by_cases r2:ac=2
   .obtain ⟨eD,eX⟩:=HR2.out r2
    have q1:(ac==1)=false:=by simp [r1]
    have q2:(ac==2)=true:=by simp [r2]
    clear r1 r2;clear HR1 HR2 HR0;go_upto_region 15 with (fail);rename_i K3 hK3;refine wp_region_lit ?_;have hz2:=BX.low.size;have hlw:=BX.hl;refine wpList_load_row rfl _ _ rfl w.heap.size rfl _ _ _ _ BX.box underlying41 rfl An ?_
    iterate 2 (refine wpList_plain rfl (fun K9 hK9=>?_); go_simp; refine hK9 _ _ ?_; clear hK9)
    refine A3 rfl _ _ (by kernel_rfl) (HWR.out _ _ LX.lp.x (by omega)) ?_;rintro e W3 ⟨v3,rfl,HN,LB'⟩;refine ⟨_,rfl,?_⟩;rw [eD] at HN;have KB:=Eg.below LB';have LB:=LB'.mono (show lo<=W2.heap.size by omega);clear LB';have hz3:=LB.size;obtain ⟨D3,y0,y1,y2,y3,y4,ov,gb,cp,g6,c6,g7,c7,rfl,LX3⟩:=HN.lx LX.ap LX.nr (Ad BX.box) (Ad BX.res) hz2 (by omega);replace BX:=BX.turn LB KB;replace kp:=KB.2 _ _ _ kp (by decide) (by decide);clear HN LB KB LX HRD HWR;refine wpList_store_row rfl _ _ _ rfl w.heap.size _ rfl rfl _ _ BX.box An rfl LX3.one ?_;have LX:=LX3.wrote BX (Or.inl rfl) (As BX.box (rowL y0 y1 y2 y3 y4 ov g6 c6 g7 c7 d2));replace kp:=Al kp (As BX.box (rowL y0 y1 y2 y3 y4 ov g6 c6 g7 c7 d2)) (fun o (e:pp=_)=>by omega);replace BX:=BX.set (rowL y0 y1 y2 y3 y4 ov g6 c6 g7 c7 d2);clear LX3
    generalize W3.setRow w.heap.size (rowL y0 y1 y2 y3 y4 ov g6 c6 g7 c7 d2)=W4 at *;refine hK3 _ _ ?_;clear hK3;subst eX;go_wp2_with fail
    go_meet
    exact ⟨rfl,_,_,_,_,_,_,_,_,_,_,_,_,_,_,BX,LX,kp⟩
   .obtain ⟨eD,eX⟩:=HR0.out r1 r2
    have q1:(ac==1)=false:=by simp [r1]
    have q2:(ac==2)=false:=by simp [r2]
    clear r1 r2 HR1 HR2 HR0 HRD HWR;subst eD;subst eX;go_wp2_with fail
    go_meet
    exact ⟨rfl,_,_,_,_,_,_,_,_,_,_,_,_,_,_,BX,LX,kp⟩
 case rest =>
 clear BX LX kp HR1 HR2 HR0 HRD HWR;obtain ⟨rfl,N0,D3,y0,y1,y2,y3,y4,ov,gb,cp,g6,c6,g7,c7,BX,LX,kp⟩:=hcut
 obtain ⟨W4,hW4⟩:∃ x,x=wc:=⟨_,rfl⟩
 subst hW4;go_upto_region 16 with (fail);rename_i K3 hK3;refine wp_region_lit ?_
 iterate 1 (refine wpList_plain rfl (fun K9 hK9=>?_); go_simp; refine hK9 _ _ ?_; clear hK9)
 refine Ba rfl _ _ rfl w.heap.size 2 rfl _ _ #[y2,.i d2.bank] _ _ BX.box (Ug rfl rfl) underlying29 rfl Bt ?_
 iterate 1 (refine wpList_plain rfl (fun K9 hK9=>?_); go_simp; refine hK9 _ _ ?_; clear hK9)
 refine Ba rfl _ _ rfl w.heap.size 4 rfl _ _ (cR d2.A d2.X d2.S d2.Pc d2.Z d2.N d2.C d2.I) _ _ BX.box (Gt rfl rfl rfl rfl rfl rfl rfl rfl) underlying31 rfl Ax ?_;refine wpList_load_row rfl _ _ rfl pp rfl _ _ _ _ kp underlying49 rfl Pl ?_
 iterate 1 (refine wpList_plain rfl (fun K9 hK9=>?_); go_simp; refine hK9 _ _ ?_; clear hK9)
 refine A3 rfl _ _ (by kernel_rfl) (HEX.out _ _ _ LX.lp.h2.int1) ?_;rintro e W5 ⟨q,rfl,OI,L⟩;refine ⟨_,rfl,?_⟩;replace kp:=Ab kp L (Ad kp);clear HEX;have hz1:=Ad BX.res;have hz4:=Ad BX.box;have hz2:=L.size;have hz0:=BX.low.size;replace BX:=BX.below L;obtain ⟨D',LX⟩:=(LX.below L).mem OI N5.out LX.lp.nN hz4 hz1 (by omega) hz2;obtain ⟨qa,qc,rfl,-⟩:=OI.ex;clear OI L
 iterate 4 (refine wpList_plain rfl (fun K9 hK9=>?_); go_simp; refine hK9 _ _ ?_; clear hK9)
 refine Be rfl _ _ _ rfl w.heap.size 2 #[.slice qa 512 qc,.i d2.bank] rfl rfl _ _ BX.box Bt (by show (2+2:Nat)<=34; omega) (by first | rfl | simp [Value.oneCell']) ?_;replace kp:=Al kp (As BX.box (putAt (rowL y0 y1 y2 y3 y4 ov g6 c6 g7 c7 d2) 2 #[.slice qa 512 qc,.i d2.bank])) (fun o (e:pp=_)=>by omega);have LX':=LX.wrote BX (Or.inl rfl) (As BX.box (putAt (rowL y0 y1 y2 y3 y4 ov g6 c6 g7 c7 d2) 2 #[.slice qa 512 qc,.i d2.bank]));replace BX:=BX.set (putAt (rowL y0 y1 y2 y3 y4 ov g6 c6 g7 c7 d2) 2 #[.slice qa 512 qc,.i d2.bank]);replace LX:=LX';clear LX';generalize W5.setRow w.heap.size (putAt (rowL y0 y1 y2 y3 y4 ov g6 c6 g7 c7 d2) 2 #[.slice qa 512 qc,.i d2.bank])=W6 at *;replace BX:Bx w W6 lo w.heap.size (w.heap.size+1) rs (rowL y0 y1 (.slice qa 512 qc) y3 y4 ov g6 c6 g7 c7 { d2 with g:=gx }):=BX
 iterate 1 (refine wpList_plain rfl (fun K9 hK9=>?_); go_simp; refine hK9 _ _ ?_; clear hK9)
 refine Be rfl _ _ _ rfl w.heap.size 4 (cR cx.A cx.X cx.S cx.Pc cx.Z cx.N cx.C cx.I) rfl rfl _ _ BX.box Ax (by show (4+8:Nat)<=34; omega) (by first | rfl | simp [Value.oneCell']) ?_;replace kp:=Al kp (As BX.box (putAt (rowL y0 y1 (.slice qa 512 qc) y3 y4 ov g6 c6 g7 c7 { d2 with g:=gx }) 4 (cR cx.A cx.X cx.S cx.Pc cx.Z cx.N cx.C cx.I))) (fun o (e:pp=_)=>by omega);have LX':=LX.wrote BX (Or.inl rfl) (As BX.box (putAt (rowL y0 y1 (.slice qa 512 qc) y3 y4 ov g6 c6 g7 c7 { d2 with g:=gx }) 4 (cR cx.A cx.X cx.S cx.Pc cx.Z cx.N cx.C cx.I)));replace BX:=BX.set (putAt (rowL y0 y1 (.slice qa 512 qc) y3 y4 ov g6 c6 g7 c7 { d2 with g:=gx }) 4 (cR cx.A cx.X cx.S cx.Pc cx.Z cx.N cx.C cx.I));replace LX:=LX';clear LX'
 generalize W6.setRow w.heap.size (putAt (rowL y0 y1 (.slice qa 512 qc) y3 y4 ov g6 c6 g7 c7 { d2 with g:=gx }) 4 (cR cx.A cx.X cx.S cx.Pc cx.Z cx.N cx.C cx.I))=W7 at *;replace LX:=LX.cpu cx;replace BX:Bx w W7 lo w.heap.size (w.heap.size+1) rs (rowL y0 y1 (.slice qa 512 qc) y3 y4 ov g6 c6 g7 c7 (putCpu d2 gx cx)):=BX;refine hK3 _ _ ?_;clear hK3;go_upto_region 17 with (fail);rename_i K2 hK2;have HBX:=Ac BX;have HLX:=Ac LX;have lqq:=Ad BX.res
 refine Bp [some 90,some 91,some 92,some 93,none,some 3] (by kernel_rfl) (by kernel_rfl) (by kernel_rfl) (by kernel_rfl) (by first | (simp [slotsOf]; done) | (simp [slotsOf,Act.put]; done))
  (fun j b _=>j=4/\b=w.heap.size+1)
  (fun i v W=>match i with
   | 0=>v=.agg (rowL y0 y1 (.slice qa 512 qc) y3 y4 ov g6 c6 g7 c7 (putCpu d2 gx cx))
   | 1=>v=(pt pp 0)
   | 2=>v=.i op
   | 3=>v=.i cy
   | 4=>W.heap[w.heap.size+1]?=some (.cells (rowL y0 y1 (.slice qa 512 qc) y3 y4 ov g6 c6 g7 c7 (putCpu d2 gx cx)) 41 (0,0))
   | _=>v=.i cy) ?_ ?_ ?_
 .intro i j o v W W' hij _ _ hW h
  match i,hij,h with
  | 0,_,h=>exact h
  | 1,_,h=>exact h
  | 2,_,h=>exact h
  | 3,_,h=>exact h
  | 4,hij,h=>exact Al h hW (fun o e=>hij e.1.symm)
  | _+5,_,h=>exact h
 .intro i o a' W K ho F L hw hK
  have t1:=F.get (t:=1) (v:=(pt w.heap.size 0)) (by decide) rfl;have t2:=F.get (t:=2) (v:=(pt (w.heap.size+1) 0)) (by decide) rfl;have t4:=F.get (t:=4) (v:=(pt pp 0)) (by decide) rfl;have rB:=Al HBX.out.box L (fun o ⟨j,_,_,_,_,_,e⟩=>by omega);have rP:=Al kp L (fun o ⟨j,_,_,_,_,_,e⟩=>by omega);have rp:=Af rP
  match i with
  | 0 =>
   cases ho;refine wp_load_row _ _ rfl w.heap.size (by simpa [Act.eval] using t1) _ _ _ _ rB underlying41 rfl An ?_;exact Hk hK rfl
  | 1 =>
   cases ho;go_simp;exact Hk hK rfl
  | 2 =>
   cases ho;have q1:tv a' 91=_:=Hr hw 1;go_simp;exact Hk hK rfl
  | 3 =>
   cases ho;have q2:tv a' 92=_:=Hr hw 2;go_simp;refine (HCY.out W).mono ?_;rintro e W' ⟨rfl,LX⟩;exact hK _ _ (Aa LX _) rfl
  | 4 =>
   cases ho;have q0:tv a' 90=_:=Hr hw 0;have rB1:=Al HBX.out.res L (fun o ⟨j,_,hj,_,_,e,_⟩=>hj e);refine wp_store_row _ _ _ rfl (w.heap.size+1) (rowL y0 y1 (.slice qa 512 qc) y3 y4 ov g6 c6 g7 c7 (putCpu d2 gx cx)) (by simpa [Act.eval] using t2) (by simpa [Act.eval] using q0) _ _ rB1 An HRS.out HLX.out.one ?_;exact hK undef _ ((As rB1 _).mono (fun b o _ h=>⟨rfl,h⟩)) (setRow_heap _ _ _ _ _ _ rB1)
  | 5 =>
   cases ho;have q3:tv a' 93=_:=Hr hw 3;go_simp;exact Hk hK rfl
  | _+6=>simp at ho
 .intro a' W F L hφ
  have p4:W.heap[w.heap.size+1]?=some (.cells (rowL y0 y1 (.slice qa 512 qc) y3 y4 ov g6 c6 g7 c7 (putCpu d2 gx cx)) 41 (0,0)):=Hd hφ 4;have p5:a'.tmps[3]?.getD undef=_:=Hd hφ 5;have L':Wrote (fun x _=>x=w.heap.size+1) W7 W:=L.mono (fun b o _ ⟨j,_,e⟩=>e);have LXF:=Ac (HLX.out.wrote HBX.out (Or.inr rfl) L');have LKF:=Ac (HBX.out.wrote (Or.inr rfl) L');rw [F.same,show slotsOf [some 90,some 91,some 92,some 93,none,some 3]=[90,91,92,93,3] from rfl];simp only [List.foldl_cons,List.foldl_nil];rw [p5];generalize a'.tmps[90]?.getD undef=s90;generalize a'.tmps[91]?.getD undef=s91;generalize a'.tmps[92]?.getD undef=s92;generalize a'.tmps[93]?.getD undef=s93;clear hφ L F p5 L' HLX HBX kp BX LX;refine hK2 _ _ ?_;go_simp;go_wp2
  refine bodyPost_ret (v:=.tuple #[.agg (rowL y0 y1 (.slice qa 512 qc) y3 y4 ov g6 c6 g7 c7 (putCpu d2 gx cx)),.i cy]) (A2 results53 _ _ (w.heap.size+1) _ _ _ _ rfl p4 underlying41 rfl An) rfl ?_;rw [(HVC.out hnm.out hnc.out).1,(HVC.out hnm.out hnc.out).2];exact ⟨_,rfl,LXF.out.nx,LKF.out.1,LKF.out.2⟩
end Go.Proofs.YtijljlnooibbmaaGreatDoor
