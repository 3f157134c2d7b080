import Derived.Test.YtijljlnooibbmaaGreatDoorGT
namespace Go.Proofs.YtijljlnooibbmaaGreatDoor
set_option maxHeartbeats 8000000
set_option maxRecDepth 20000
open Go.Proofs.Tryz
set_option linter.unusedVariables false
set_option linter.unusedSimpArgs false
open Go.ChangeShapes Go.WideShapes Go.ChangeAt Go.RowKit Go.Sort
theorem Bt:(prog.info? 29).map (·.size)=some 2:=by kernel_rfl
theorem Ax:(prog.info? 31).map (·.size)=some 8:=by kernel_rfl
def A7.a (c:A7):Array Value:=(cR c.A c.X c.S c.Pc c.Z c.N c.C c.I)
theorem A7.one (c:A7):c.a.all (·.oneCell')=true:=by unfold A7.a; first | kernel_rfl | simp [Value.oneCell']
theorem Jj (c:A7) (x:Int) (w:World):Calls prog 141 #[.agg c.a,.i x] w fun e w'=>e=.returned (.agg (setAc c x).a)/\Below w.heap.size w w':=Jb5 w c.A c.X c.S c.Pc c.Z c.N c.C c.I x
theorem Jc1 (c:A7) (x:Int) (w:World):Calls prog 171 #[.agg c.a,.i x] w fun e w'=>e=.returned (.agg (Vp c x).a)/\Below w.heap.size w w':=Jb6 w c.A c.X c.S c.Pc c.Z c.N c.C c.I x
--@need spec.l7Add
theorem Q4 (c:A7) (v:Int) (w:World):Calls prog 168 #[.agg c.a,.i v] w fun e w'=>e=.returned (.agg (addC c v).a)/\Below w.heap.size w w':=by
 obtain ⟨x,hx⟩:∃ x,Hid (x=(c.A%256+v%256+Av c.C)%256):=⟨_,rfl⟩
 obtain ⟨y,hy⟩:∃ y,Hid (y=decide (255<c.A%256+v%256+Av c.C)):=⟨_,rfl⟩
 have HA:=Ac (fun W=>Jbm c.A v c.C W);rw [<- hx.out,<- hy.out] at HA
 have HR:(setAc c x).a.setIfInBounds 6 (.bool y)=(addC c v).a:=by rw [hx.out,hy.out]; rfl
 clear hx hy;have B:=((E4.nil w).alloc c.a 31 w.heap.size rfl).alloc cZ 31 (w.heap.size+1) (by simp)
 go_enter func168,ntmps168
 go_upto_region 1 with (fail);generalize (w.alloc (.cells c.a 31)).alloc (.cells cZ 31)=W0 at *;have c0:=B.get 0 rfl 0 (v:=.i c.A) rfl;have c6:=B.get 0 rfl 6 (v:=.bool c.C) rfl;go_wp2_with fail;clear c0 c6;refine (Ae HA _).mono ?_;rintro e W1 ⟨rfl,rfl⟩;go_upto_region 2 with (fail);rename_i K1 hK1;refine wp_region_lit ?_;refine wpList_load_row rfl _ _ rfl (w.heap.size) rfl _ _ _ _ (B.ret 0 rfl) underlying31 rfl Ax ?_;go_wp2_with fail;rename_i K2 hK2;refine (Jj c x _).mono ?_;rintro e W2 ⟨rfl,L⟩;replace B:=B.call L;refine hK2 _ _ ?_;refine wpList_store_row rfl _ _ _ rfl (w.heap.size) (setAc c x).a rfl rfl _ _ (B.ret 0 rfl) Ax rfl (A7.one _) ?_;replace B:=B.row 0 rfl (setAc c x).a;generalize W2.setRow (w.heap.size) (setAc c x).a=W3 at *;refine hK1 _ _ ?_;have fc:=Au (B.ret 0 rfl);have c6:=B.get 0 rfl 6 (v:=.bool c.C) rfl
 go_upto_region 4 with (fail);clear fc c6;replace B:=B.cell 0 rfl 6 (.bool y) HR;generalize W3.sc w.heap.size 6 (.bool y)=W4 at *;rename_i K3 hK3;refine wp_region_lit ?_;refine wpList_load_row rfl _ _ rfl (w.heap.size) rfl _ _ _ _ (B.ret 0 rfl) underlying31 rfl Ax ?_;refine wpList_store_row rfl _ _ _ rfl (w.heap.size+1) (addC c v).a rfl rfl _ _ (B.ret 1 rfl) Ax rfl (A7.one _) ?_;replace B:=B.row 1 rfl (addC c v).a;generalize W4.setRow (w.heap.size+1) (addC c v).a=W5 at *;refine hK3 _ _ ?_;go_wp2;refine bodyPost_ret (v:=.agg (addC c v).a) (results_cell_row (by rfl) _ _ (w.heap.size+1) _ _ _ _ rfl (B.ret 1 rfl) underlying31 rfl Ax) rfl ?_;exact ⟨rfl,B.below⟩
theorem Gc {P:Program} {fn:Func} {p q:Tmp} {ty:TypeId} (h:fn.results=#[.cell p ty,.tmp q]) (tmps:Array Value) (w:World) (g:Nat) (t:TypeId) (cs:Array Value) (fr:Nat × Nat) (dd:TypeDesc)
  (hp:tmps.getD p undef=(pt g 0)) (hg:w.heap[g]?=some (.cells cs t fr)) (hu:P.underlying ty=some dd) (hd:(match dd with | .struct _ | .array _ _=>true | _=>false)=true) (hi:(P.info? ty).map (·.size)=some cs.size) :
  (results fn tmps).run P w=.ok (.tuple #[.agg cs,tmps.getD q undef]) w:=by
 have hp':tmps[p]?.getD undef=(pt g 0):=by simpa using hp
 simp [results,h,hp',asAddr,run_loadVar_row w g t ty cs fr dd hg hu hd hi]
theorem Dc {op:Int} (h:Ib op=false) (k:Int) (hk:Ib k=true):(op==k)=false:=beq_eq_false_iff_ne.2 (fun e=>by rw [e,hk] at h; cases h)
theorem Jap (c:A7) (op arg v:Int) (w:World):Calls prog 138 #[.agg c.a,.agg #[.i op,.i arg],.i v] w fun e w'=>e=.returned (.tuple #[.agg (aluC c op arg v).a,.bool (Ib op)])/\Below w.heap.size w w':=by
 have B:=(((E4.nil w).alloc c.a 31 w.heap.size rfl).alloc #[.i op,.i arg] 49 (w.heap.size+1) (by simp)).alloc cZ 31 (w.heap.size+1+1) (by simp)
 go_enter func138,ntmps138
 go_upto_region 1 with (fail);generalize ((w.alloc (.cells c.a 31)).alloc (.cells #[.i op,.i arg] 49)).alloc (.cells cZ 31)=W0 at *;have c0:=B.get 0 rfl 0 (v:=.i c.A) rfl;have c1:=B.get 0 rfl 1 (v:=.i c.X) rfl;have c6:=B.get 0 rfl 6 (v:=.bool c.C) rfl;have f_c:=Au (B.ret 0 rfl);have c_i:=Af (B.ret 1 rfl)
 by_cases hs:op=1\/op=2\/op=14\/op=4\/op=29\/op=10\/op=11
 .rcases hs with rfl | rfl | rfl | rfl | rfl | rfl | rfl
  focus (go_upto_region 3 with (fail); have HS:=Jj c arg)
  rotate_left
  focus (go_upto_region 6 with (fail); have HS:=Jj c v)
  rotate_left
  focus (go_upto_region 6 with (fail); have HS:=Jj c v)
  rotate_left
  focus (go_upto_region 8 with (fail); have HS:=Q4 c arg)
  rotate_left
  focus (go_upto_region 10 with (fail); have HS:=Q4 c v)
  rotate_left
  focus (go_upto_region 27 with (fail); have HS:=Jc1 c c.A)
  rotate_left
  focus (go_upto_region 29 with (fail); have HS:=Jj c c.X)
  rotate_left
  all_goals
   rename_i K1 hK1;refine wp_region_lit ?_;refine wpList_load_row rfl _ _ rfl (w.heap.size) rfl _ _ _ _ (B.ret 0 rfl) underlying31 rfl Ax ?_;go_wp2_with fail;rename_i K2 hK2;refine (HS _).mono ?_;rintro e W2 ⟨rfl,L⟩;replace B:=B.call L;refine hK2 _ _ ?_;refine wpList_store_row rfl _ _ _ rfl (w.heap.size+1+1) _ rfl rfl _ _ (B.ret 2 rfl) Ax rfl (A7.one _) ?_;refine wpList_plain rfl (fun K9 hK9=>?_);go_simp;refine hK9 _ _ ?_;refine hK1 _ _ ?_;go_wp2;refine bodyPost_ret (v:=.tuple #[.agg _,.bool _]) (Gc results138 _ _ (w.heap.size+1+1) _ _ _ _ rfl ((B.row 2 rfl _).ret 2 rfl) underlying31 rfl Ax) rfl ?_;exact ⟨rfl,(B.row 2 rfl _).below⟩
 by_cases hs2:op=6\/op=7\/op=8
 .have g0:=B.getG 0 rfl 0 (v:=.i c.A) rfl
  have g1:=B.getG 1 rfl 1 (v:=.i arg) rfl
  rcases hs2 with rfl | rfl | rfl
  focus (go_upto_region 17 with (fail))
  rotate_left
  focus (go_upto_region 19 with (fail))
  rotate_left
  focus (go_upto_region 21 with (fail))
  rotate_left
  all_goals
   rename_i K1 hK1;refine Gk (n:=9) (by kernel_rfl) (by kernel_rfl) ?_;simp only [List.take_succ_cons,List.take_zero,List.drop_succ_cons,List.drop_zero];refine Bl _ _ rfl rfl w.heap.size 0 (by go_simp) _ _ c.a _ _ (B.ret 0 rfl) (fun j v h=>by rw [Nat.zero_add]; exact h) underlying31 rfl Ax ?_;simp only [Act.put,Sa,Sb,Sc]
   iterate 7 (go_big_quiet_step ((go_at_call 128; exact Calls.regrown_of ((Bo _ _).mono fun e w' ⟨h1,h2⟩=>⟨h1,h2 ▸ Below.refl _ _⟩))))
   go_big_quiet_step ((go_at_call 141; exact Calls.regrown_of (Jj c _ _)))
   refine wpQuiet_nil ?_;intro w' hw';obtain ⟨⟨d,os⟩,rfl⟩:=hw';replace B:=B.call (below_regrown W0 d os);refine wp_store_row _ _ _ rfl (w.heap.size+1+1) _ rfl rfl _ _ (B.ret 2 rfl) Ax rfl (A7.one _) ?_;simp only [Mo];go_simp;refine hK1 _ _ ?_;go_wp2;refine bodyPost_ret (v:=.tuple #[.agg _,.bool _]) (Gc results138 _ _ (w.heap.size+1+1) _ _ _ _ rfl ((B.row 2 rfl _).ret 2 rfl) underlying31 rfl Ax) rfl ?_;exact ⟨rfl,(B.row 2 rfl _).below⟩
 by_cases hs3:op=12\/op=13
 .have g0:=B.getG 0 rfl 1 (v:=.i c.X) rfl
  have h1:IntKind.i64.wrap (c.X%256+1)=c.X%256+1:=by rw [IntKind.wrap_i64]; omega
  have h2:IntKind.i64.wrap (c.X%256-1)=c.X%256-1:=by rw [IntKind.wrap_i64]; omega
  rcases hs3 with rfl | rfl
  focus (go_upto_region 31 with (fail))
  rotate_left
  focus (go_upto_region 33 with (fail))
  rotate_left
  all_goals
   rename_i K1 hK1;refine Gk (n:=6) (by kernel_rfl) (by kernel_rfl) ?_;simp only [List.take_succ_cons,List.take_zero,List.drop_succ_cons,List.drop_zero];refine Bl _ _ rfl rfl w.heap.size 0 (by go_simp) _ _ c.a _ _ (B.ret 0 rfl) (fun j v h=>by rw [Nat.zero_add]; exact h) underlying31 rfl Ax ?_;simp only [Act.put,Sa,Sb,Sc]
   iterate 4 (go_big_quiet_step ((go_at_call 128; exact Calls.regrown_of ((Bo _ _).mono fun e w' ⟨h1,h2⟩=>⟨h1,h2 ▸ Below.refl _ _⟩))))
   go_big_quiet_step ((go_at_call 171; exact Calls.regrown_of (Jc1 c _ _)))
   refine wpQuiet_nil ?_;intro w' hw';obtain ⟨⟨d,os⟩,rfl⟩:=hw';replace B:=B.call (below_regrown W0 d os);refine wp_store_row _ _ _ rfl (w.heap.size+1+1) _ rfl rfl _ _ (B.ret 2 rfl) Ax rfl (A7.one _) ?_;simp only [Mo];go_simp;refine hK1 _ _ ?_;go_wp2;refine bodyPost_ret (v:=.tuple #[.agg _,.bool _]) (Gc results138 _ _ (w.heap.size+1+1) _ _ _ _ rfl ((B.row 2 rfl _).ret 2 rfl) underlying31 rfl Ax) rfl ?_;exact ⟨rfl,(B.row 2 rfl _).below⟩
 by_cases h5:op=5
 .subst h5
  obtain ⟨x,hx⟩:∃ x,Hid (x=(c.A%256-arg%256-1+Av c.C)%256):=⟨_,rfl⟩
  obtain ⟨y,hy⟩:∃ y,Hid (y=decide (0<=c.A%256-arg%256-1+Av c.C)):=⟨_,rfl⟩
  have HA:=Ac (fun W=>Jbn c.A arg c.C W);rw [<- hx.out,<- hy.out] at HA
  have HR:(setAc c x).a.setIfInBounds 6 (.bool y)=(aluC c 5 arg v).a:=by rw [hx.out,hy.out]; rfl
  clear hx hy;go_upto_region 12 with (fail);go_wp2_with fail;clear c0 c1 c6 f_c c_i;refine (Ae HA _).mono ?_;rintro e W1 ⟨rfl,rfl⟩;go_upto_region 13 with (fail);rename_i K1 hK1;refine wp_region_lit ?_;refine wpList_load_row rfl _ _ rfl (w.heap.size) rfl _ _ _ _ (B.ret 0 rfl) underlying31 rfl Ax ?_;go_wp2_with fail;rename_i K2 hK2;refine (Jj c x _).mono ?_;rintro e W2 ⟨rfl,L⟩;replace B:=B.call L;refine hK2 _ _ ?_;refine wpList_store_row rfl _ _ _ rfl (w.heap.size) (setAc c x).a rfl rfl _ _ (B.ret 0 rfl) Ax rfl (A7.one _) ?_;replace B:=B.row 0 rfl (setAc c x).a;generalize W2.setRow (w.heap.size) (setAc c x).a=W3 at *;refine hK1 _ _ ?_;have fc:=Au (B.ret 0 rfl);have c6:=B.get 0 rfl 6 (v:=.bool c.C) rfl;go_upto_region 15 with (fail);clear fc c6;replace B:=B.cell 0 rfl 6 (.bool y) HR;generalize W3.sc w.heap.size 6 (.bool y)=W4 at *;rename_i K1 hK1
  refine wp_region_lit ?_;refine wpList_load_row rfl _ _ rfl (w.heap.size) rfl _ _ _ _ (B.ret 0 rfl) underlying31 rfl Ax ?_;refine wpList_store_row rfl _ _ _ rfl (w.heap.size+1+1) _ rfl rfl _ _ (B.ret 2 rfl) Ax rfl (A7.one _) ?_;refine wpList_plain rfl (fun K9 hK9=>?_);go_simp;refine hK9 _ _ ?_;refine hK1 _ _ ?_;go_wp2;refine bodyPost_ret (v:=.tuple #[.agg _,.bool _]) (Gc results138 _ _ (w.heap.size+1+1) _ _ _ _ rfl ((B.row 2 rfl _).ret 2 rfl) underlying31 rfl Ax) rfl ?_;exact ⟨rfl,(B.row 2 rfl _).below⟩
 by_cases h9:op=9
 .subst h9
  obtain ⟨z,hz⟩:∃ x,Hid (x=((c.A%256-arg%256)%256==0)):=⟨_,rfl⟩
  obtain ⟨n,hn⟩:∃ x,Hid (x=decide (127<(c.A%256-arg%256)%256)):=⟨_,rfl⟩
  have HG:=Ac (fun W=>Ma (c.A%256-arg%256) W);rw [<- hz.out,<- hn.out] at HG
  have hw1:IntKind.i64.wrap (c.A%256-arg%256)=c.A%256-arg%256:=by rw [IntKind.wrap_i64]; omega
  have HR:((c.a.setIfInBounds 4 (.bool z)).setIfInBounds 5 (.bool n)).setIfInBounds 6 (.bool (decide (arg%256<=c.A%256)))=(aluC c 9 arg v).a:=by rw [hz.out,hn.out]; rfl
  clear hz hn;go_upto_region 23 with (fail);rename_i K1 hK1;have a1:=B.get 1 rfl 1 (v:=.i arg) rfl;have c4:=B.get 0 rfl 4 (v:=.bool c.Z) rfl;have c5:=B.get 0 rfl 5 (v:=.bool c.N) rfl;have B1:=B.cell 0 rfl 4 (.bool z) rfl;have B2:=B1.cell 0 rfl 5 (.bool n) rfl;have b0:(W0.sc w.heap.size 4 (.bool z)).drew.cell? ⟨w.heap.size,0,none⟩=some (.i c.A):=B1.get 0 rfl 0 rfl;have b1:(W0.sc w.heap.size 4 (.bool z)).drew.cell? ⟨w.heap.size+1,1,none⟩=some (.i arg):=B1.get 1 rfl 1 rfl;have b2:((W0.sc w.heap.size 4 (.bool z)).sc w.heap.size 5 (.bool n)).drew.cell? ⟨w.heap.size,0,none⟩=some (.i c.A):=B2.get 0 rfl 0 rfl;have b3:((W0.sc w.heap.size 4 (.bool z)).sc w.heap.size 5 (.bool n)).drew.cell? ⟨w.heap.size+1,1,none⟩=some (.i arg):=B2.get 1 rfl 1 rfl
  go_region_held3 (fun w'=>w'.cell? ⟨w.heap.size,0,none⟩=some (.i c.A)/\w'.cell? ⟨w.heap.size+1,1,none⟩=some (.i arg)) (first | (with_reducible assumption) | (refine ⟨?_,?_⟩ <;> with_reducible assumption) | go_keep) (first | (go_at_call 128; refine (Bo _ _).mono ?_; rintro e W5 ⟨rfl,rfl⟩) | (go_at_call 170; refine (Ae HG _).mono ?_; rintro e W5 ⟨rfl,rfl⟩))
  replace B:=B2.drew;clear B1 B2 a1 c4 c5 b0 b1 b2 b3 c0 c1 c6 f_c c_i;refine hK1 _ _ ?_;clear hK1;generalize ((W0.sc w.heap.size 4 (.bool z)).sc w.heap.size 5 (.bool n)).drew=W6 at *;go_upto_region 24 with (fail);rename_i K1 hK1;have g0:=B.getG 0 rfl 0 (v:=.i c.A) rfl;have g1:=B.getG 1 rfl 1 (v:=.i arg) rfl;refine Bc (n:=8) (by kernel_rfl) (by kernel_rfl) rfl ?_;simp only [List.take_succ_cons,List.take_zero]
  iterate 8 (go_big_quiet_step ((go_at_call 128; exact Calls.regrown_of ((Bo _ _).mono fun e w' ⟨h1,h2⟩=>⟨h1,h2 ▸ Below.refl _ _⟩))))
  refine wpQuiet_nil ?_;intro w' hw';obtain ⟨⟨d,os⟩,rfl⟩:=hw';replace B:=B.call (below_regrown W6 d os);have fc:=Au (B.ret 0 rfl);have c6:=B.get 0 rfl 6 (v:=.bool c.C) rfl;go_simp;replace B:=B.cell 0 rfl 6 _ HR;refine hK1 _ _ ?_;clear fc c6 g0 g1 hK1;go_upto_region 25 with (fail);rename_i K1 hK1;refine wp_region_lit ?_;refine wpList_load_row rfl _ _ rfl (w.heap.size) rfl _ _ _ _ (B.ret 0 rfl) underlying31 rfl Ax ?_;refine wpList_store_row rfl _ _ _ rfl (w.heap.size+1+1) _ rfl rfl _ _ (B.ret 2 rfl) Ax rfl (A7.one _) ?_;refine wpList_plain rfl (fun K9 hK9=>?_);go_simp;refine hK9 _ _ ?_;refine hK1 _ _ ?_;go_wp2;refine bodyPost_ret (v:=.tuple #[.agg _,.bool _]) (Gc results138 _ _ (w.heap.size+1+1) _ _ _ _ rfl ((B.row 2 rfl _).ret 2 rfl) underlying31 rfl Ax) rfl ?_;exact ⟨rfl,(B.row 2 rfl _).below⟩
 have ho:Ib op=false:=decide_eq_false (by omega)
 have hc:aluC c op arg v=c:=by
  unfold aluC
  repeat rw [if_neg (by omega)]
 have e1:=Dc ho 1 rfl;have e2:=Dc ho 2 rfl;have e14:=Dc ho 14 rfl;have e4:=Dc ho 4 rfl;have e29:=Dc ho 29 rfl;have e5:=Dc ho 5 rfl;have e6:=Dc ho 6 rfl;have e7:=Dc ho 7 rfl;have e8:=Dc ho 8 rfl;have e9:=Dc ho 9 rfl;have e10:=Dc ho 10 rfl;have e11:=Dc ho 11 rfl;have e12:=Dc ho 12 rfl;have e13:=Dc ho 13 rfl;clear hs hs2 hs3 h5 h9;go_upto_region 34 with (fail);rename_i K1 hK1;refine wp_region_lit ?_;refine wpList_load_row rfl _ _ rfl (w.heap.size) rfl _ _ _ _ (B.ret 0 rfl) underlying31 rfl Ax ?_;refine wpList_store_row rfl _ _ _ rfl (w.heap.size+1+1) _ rfl rfl _ _ (B.ret 2 rfl) Ax rfl (A7.one _) ?_;refine wpList_plain rfl (fun K9 hK9=>?_);go_simp;refine hK9 _ _ ?_;refine hK1 _ _ ?_;go_wp2
 refine bodyPost_ret (v:=.tuple #[.agg _,.bool _]) (Gc results138 _ _ (w.heap.size+1+1) _ _ _ _ rfl ((B.row 2 rfl _).ret 2 rfl) underlying31 rfl Ax) rfl ?_;exact ⟨by rw [hc,ho],(B.row 2 rfl _).below⟩
def pulC (c:A7):A7:={ c with S:=(c.S+1)%256 }
theorem S8 (c:A7) {G:Nat->Nat->Prop} {u:Value} {g:Nat->Int} (bank:Int) {w:World} (K:Ints .i64 w G u 512 g):Calls prog 140 #[.agg #[u,.i bank],.agg c.a] w fun e w'=>e=.returned (.tuple #[.agg (pulC c).a,.i (Dp g c.S)])/\Below w.heap.size w w':=Rv w G u g bank K c.A c.X c.S c.Pc c.Z c.N c.C c.I
theorem Ou (c:A7) {G:Nat->Nat->Prop} {u:Value} {g:Nat->Int} (bank:Int) {w:World} (K:Ints .i64 w G u 512 g):Calls prog 139 #[.agg #[u,.i bank],.agg c.a] w fun e w'=>e=.returned (.agg (Lk g c).a)/\Below w.heap.size w w':=by
 have B:=(((E4.nil w).alloc #[u,.i bank] 29 w.heap.size rfl).alloc c.a 31 (w.heap.size+1) (by simp)).alloc cZ 31 (w.heap.size+1+1) (by simp)
 go_enter func139,ntmps139
 go_upto_region 1 with (fail);generalize ((w.alloc (.cells #[u,.i bank] 29)).alloc (.cells c.a 31)).alloc (.cells cZ 31)=W0 at *;rename_i K1 hK1;refine wp_region_lit ?_;refine wpList_load_row rfl _ _ rfl (w.heap.size) rfl _ _ _ _ (B.ret 0 rfl) underlying29 rfl Bt ?_;refine wpList_load_row rfl _ _ rfl (w.heap.size+1) rfl _ _ _ _ (B.ret 1 rfl) underlying31 rfl Ax ?_;refine wpList_plain rfl (fun K9 hK9=>?_);go_simp;refine (S8 c bank (K.keep (Aa B.below Aj) (fun _ _ _ x=>x))).mono ?_;rintro e W1 ⟨rfl,L⟩;replace B:=B.call L;clear L;refine hK9 _ _ ?_;clear hK9
 iterate 3 (refine wpList_plain rfl (fun K9 hK9=>?_); go_simp; refine hK9 _ _ ?_; clear hK9)
 refine wpList_store_row rfl _ _ _ rfl (w.heap.size+1) (pulC c).a rfl rfl _ _ (B.ret 1 rfl) Ax rfl (A7.one _) ?_;replace B:=B.row 1 rfl (pulC c).a;generalize W1.setRow (w.heap.size+1) (pulC c).a=W2 at *
 (refine wpList_plain rfl (fun K9 hK9=>?_); go_simp; refine hK9 _ _ ?_; clear hK9)
 refine hK1 _ _ ?_;clear hK1;go_upto_region 2 with (fail);rename_i K1 hK1;refine wp_region_lit ?_;refine wpList_load_row rfl _ _ rfl (w.heap.size) rfl _ _ _ _ (B.ret 0 rfl) underlying29 rfl Bt ?_;refine wpList_load_row rfl _ _ rfl (w.heap.size+1) rfl _ _ _ _ (B.ret 1 rfl) underlying31 rfl Ax ?_;refine wpList_plain rfl (fun K9 hK9=>?_);go_simp;refine (S8 (pulC c) bank (K.keep (Aa B.below Aj) (fun _ _ _ x=>x))).mono ?_;rintro e W3 ⟨rfl,L⟩;replace B:=B.call L;clear L;refine hK9 _ _ ?_;clear hK9
 iterate 3 (refine wpList_plain rfl (fun K9 hK9=>?_); go_simp; refine hK9 _ _ ?_; clear hK9)
 refine wpList_store_row rfl _ _ _ rfl (w.heap.size+1) (pulC (pulC c)).a rfl rfl _ _ (B.ret 1 rfl) Ax rfl (A7.one _) ?_;replace B:=B.row 1 rfl (pulC (pulC c)).a;generalize W3.setRow (w.heap.size+1) (pulC (pulC c)).a=W4 at *
 (refine wpList_plain rfl (fun K9 hK9=>?_); go_simp; refine hK9 _ _ ?_; clear hK9)
 refine hK1 _ _ ?_;clear hK1;go_upto_region 3 with (fail);rename_i K1 hK1;refine wp_region_lit ?_
 iterate 2 (refine wpList_plain rfl (fun K9 hK9=>?_); go_simp; refine hK9 _ _ ?_; clear hK9)
 refine wpList_plain rfl (fun K9 hK9=>?_);go_simp;refine (Kj _ _ _).mono ?_;rintro e W5 ⟨rfl,rfl⟩;refine hK9 _ _ ?_;clear hK9
 (refine wpList_plain rfl (fun K9 hK9=>?_); go_simp; refine hK9 _ _ ?_; clear hK9)
 have fc:=Au (B.ret 1 rfl);have c3:=B.get 1 rfl 3 (v:=.i c.Pc) rfl
 (refine wpList_plain rfl (fun K9 hK9=>?_); go_simp; refine hK9 _ _ ?_; clear hK9)
 clear fc c3;have B:=B.cell 1 rfl 3 (.i (Dp g c.S%256+256*(Dp g (pulC c).S%256))) (cs':=(Lk g c).a) rfl;refine hK1 _ _ ?_;clear hK1;go_upto_region 4 with (fail);rename_i K1 hK1;refine wp_region_lit ?_;refine wpList_load_row rfl _ _ rfl (w.heap.size+1) rfl _ _ _ _ (B.ret 1 rfl) underlying31 rfl Ax ?_;refine wpList_store_row rfl _ _ _ rfl (w.heap.size+1+1) _ rfl rfl _ _ (B.ret 2 rfl) Ax rfl (A7.one _) ?_;refine hK1 _ _ ?_;clear hK1;go_wp2;refine bodyPost_ret (v:=.agg _) (results_cell_row (by rfl) _ _ (w.heap.size+1+1) _ _ _ _ rfl ((B.row 2 rfl _).ret 2 rfl) underlying31 rfl Ax) rfl ?_;exact ⟨rfl,(B.row 2 rfl _).below⟩
end Go.Proofs.YtijljlnooibbmaaGreatDoor
