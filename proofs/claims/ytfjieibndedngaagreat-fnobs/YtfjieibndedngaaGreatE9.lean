import Derived.Test.YtfjieibndedngaaGreatK2
namespace Go.Proofs.YtfjieibndedngaaGreat
set_option maxHeartbeats 8000000
set_option maxRecDepth 20000
set_option linter.unusedVariables false
set_option linter.unusedSimpArgs false
open Go.ChangeShapes Go.WideShapes Go.ChangeAt Go.RowKit Go.Sort
theorem Bf:(Tryz.prog.info? 34).map (·.size)=some 2:=by kernel_rfl
theorem Aq:(Tryz.prog.info? 36).map (·.size)=some 8:=by kernel_rfl
def Bd.a (c:Bd):Array Value:=(cR c.A c.X c.S c.Pc c.Z c.N c.C c.I)
theorem Bd.one (c:Bd):c.a.all (·.oneCell')=true:=by unfold Bd.a; first | kernel_rfl | simp [Value.oneCell']
theorem Gf (c:Bd) (x:Int) (w:World):Calls Tryz.prog 100 #[.agg c.a,.i x] w fun e w'=>e=.returned (.agg (setAc c x).a)∧Below w.heap.size w w':=Sz w c.A c.X c.S c.Pc c.Z c.N c.C c.I x
theorem Tp (c:Bd) (x:Int) (w:World):Calls Tryz.prog 109 #[.agg c.a,.i x] w fun e w'=>e=.returned (.agg (Q2 c x).a)∧Below w.heap.size w w':=S7 w c.A c.X c.S c.Pc c.Z c.N c.C c.I x
--@need spec.l7Add
theorem Ln (c:Bd) (v:Int) (w:World):Calls Tryz.prog 106 #[.agg c.a,.i v] w fun e w'=>e=.returned (.agg (addC c v).a)∧Below w.heap.size w w':=by
 obtain ⟨x,hx⟩:∃ x,Hid (x=(c.A%256+v%256+Bc c.C)%256):=⟨_,rfl⟩
 obtain ⟨y,hy⟩:∃ y,Hid (y=decide (255<c.A%256+v%256+Bc c.C)):=⟨_,rfl⟩
 have HA:=Ad (fun W=>Se c.A v c.C W);rw [← hx.out,← hy.out] at HA
 have HR:(setAc c x).a.setIfInBounds 6 (.bool y)=(addC c v).a:=by rw [hx.out,hy.out]; rfl
 clear hx hy;have B:=((Dv.nil w).alloc c.a 36 w.heap.size rfl).alloc cZ 36 (w.heap.size+1) (by simp)
 go_enter Tryz.func106,Tryz.ntmps106
 go_upto_region 1 with (fail);generalize (w.alloc (.cells c.a 36)).alloc (.cells cZ 36)=W0 at *;have c0:=B.get 0 rfl 0 (v:=.i c.A) rfl;have c6:=B.get 0 rfl 6 (v:=.bool c.C) rfl;go_wp2_with fail;clear c0 c6;refine (Ab HA _).mono ?_;rintro e W1 ⟨rfl,rfl⟩;go_upto_region 2 with (fail);rename_i K1 hK1;refine wp_region_lit ?_;refine wpList_load_row rfl _ _ rfl (w.heap.size) rfl _ _ _ _ (B.ret 0 rfl) Tryz.underlying36 rfl Aq ?_;go_wp2_with fail;rename_i K2 hK2;refine (Gf c x _).mono ?_;rintro e W2 ⟨rfl,L⟩;replace B:=B.call L;refine hK2 _ _ ?_;refine wpList_store_row rfl _ _ _ rfl (w.heap.size) (setAc c x).a rfl rfl _ _ (B.ret 0 rfl) Aq rfl (Bd.one _) ?_;replace B:=B.row 0 rfl (setAc c x).a;generalize W2.setRow (w.heap.size) (setAc c x).a=W3 at *;refine hK1 _ _ ?_;have fc:=Ax (B.ret 0 rfl);have c6:=B.get 0 rfl 6 (v:=.bool c.C) rfl
 go_upto_region 4 with (fail);clear fc c6;replace B:=B.cell 0 rfl 6 (.bool y) HR;generalize W3.setCell ⟨w.heap.size,6,none⟩ (.bool y)=W4 at *;rename_i K3 hK3;refine wp_region_lit ?_;refine wpList_load_row rfl _ _ rfl (w.heap.size) rfl _ _ _ _ (B.ret 0 rfl) Tryz.underlying36 rfl Aq ?_;refine wpList_store_row rfl _ _ _ rfl (w.heap.size+1) (addC c v).a rfl rfl _ _ (B.ret 1 rfl) Aq rfl (Bd.one _) ?_;replace B:=B.row 1 rfl (addC c v).a;generalize W4.setRow (w.heap.size+1) (addC c v).a=W5 at *;refine hK3 _ _ ?_;go_wp2;refine bodyPost_ret (v:=.agg (addC c v).a) (results_cell_row (by rfl) _ _ (w.heap.size+1) _ _ _ _ rfl (B.ret 1 rfl) Tryz.underlying36 rfl Aq) rfl ?_;exact ⟨rfl,B.below⟩
theorem Eq {P:Program} {fn:Func} {p q:Tmp} {ty:TypeId} (h:fn.results=#[.cell p ty,.tmp q]) (tmps:Array Value) (w:World) (g:Nat) (t:TypeId) (cs:Array Value) (fr:Nat × Nat) (dd:TypeDesc)
  (hp:tmps.getD p undef=(pt g 0)) (hg:w.heap[g]?=some (.cells cs t fr)) (hu:P.underlying ty=some dd) (hd:(match dd with | .struct _ | .array _ _=>true | _=>false)=true) (hi:(P.info? ty).map (·.size)=some cs.size) :
  (results fn tmps).run P w=.ok (.tuple #[.agg cs,tmps.getD q undef]) w:=by
 have hp':tmps[p]?.getD undef=(pt g 0):=by simpa using hp
 simp [results,h,hp',asAddr,run_loadVar_row w g t ty cs fr dd hg hu hd hi]
theorem Ch {op:Int} (h:Gy op=false) (k:Int) (hk:Gy k=true):(op==k)=false:=beq_eq_false_iff_ne.2 (fun e=>by rw [e,hk] at h; cases h)
theorem Ry (c:Bd) (op arg v:Int) (w:World):Calls Tryz.prog 97 #[.agg c.a,.agg #[.i op,.i arg],.i v] w fun e w'=>e=.returned (.tuple #[.agg (aluC c op arg v).a,.bool (Gy op)])∧Below w.heap.size w w':=by
 have B:=(((Dv.nil w).alloc c.a 36 w.heap.size rfl).alloc #[.i op,.i arg] 106 (w.heap.size+1) (by simp)).alloc cZ 36 (w.heap.size+1+1) (by simp)
 go_enter Tryz.func97,Tryz.ntmps97
 go_upto_region 1 with (fail);generalize ((w.alloc (.cells c.a 36)).alloc (.cells #[.i op,.i arg] 106)).alloc (.cells cZ 36)=W0 at *;have c0:=B.get 0 rfl 0 (v:=.i c.A) rfl;have c1:=B.get 0 rfl 1 (v:=.i c.X) rfl;have c6:=B.get 0 rfl 6 (v:=.bool c.C) rfl;have f_c:=Ax (B.ret 0 rfl);have c_i:=Aj (B.ret 1 rfl)
 by_cases hs:op=1∨op=2∨op=14∨op=4∨op=29∨op=10∨op=11
 ·rcases hs with rfl | rfl | rfl | rfl | rfl | rfl | rfl
  focus (go_upto_region 3 with (fail); have HS:=Gf c arg)
  rotate_left
  focus (go_upto_region 6 with (fail); have HS:=Gf c v)
  rotate_left
  focus (go_upto_region 6 with (fail); have HS:=Gf c v)
  rotate_left
  focus (go_upto_region 8 with (fail); have HS:=Ln c arg)
  rotate_left
  focus (go_upto_region 10 with (fail); have HS:=Ln c v)
  rotate_left
  focus (go_upto_region 27 with (fail); have HS:=Tp c c.A)
  rotate_left
  focus (go_upto_region 29 with (fail); have HS:=Gf c c.X)
  rotate_left
  all_goals
   rename_i K1 hK1;refine wp_region_lit ?_;refine wpList_load_row rfl _ _ rfl (w.heap.size) rfl _ _ _ _ (B.ret 0 rfl) Tryz.underlying36 rfl Aq ?_;go_wp2_with fail;rename_i K2 hK2;refine (HS _).mono ?_;rintro e W2 ⟨rfl,L⟩;replace B:=B.call L;refine hK2 _ _ ?_;refine wpList_store_row rfl _ _ _ rfl (w.heap.size+1+1) _ rfl rfl _ _ (B.ret 2 rfl) Aq rfl (Bd.one _) ?_;refine wpList_plain rfl (fun K9 hK9=>?_);go_simp;refine hK9 _ _ ?_;refine hK1 _ _ ?_;go_wp2;refine bodyPost_ret (v:=.tuple #[.agg _,.bool _]) (Eq Tryz.results97 _ _ (w.heap.size+1+1) _ _ _ _ rfl ((B.row 2 rfl _).ret 2 rfl) Tryz.underlying36 rfl Aq) rfl ?_;exact ⟨rfl,(B.row 2 rfl _).below⟩
 by_cases hs2:op=6∨op=7∨op=8
 ·have g0:=B.getG 0 rfl 0 (v:=.i c.A) rfl
  have g1:=B.getG 1 rfl 1 (v:=.i arg) rfl
  rcases hs2 with rfl | rfl | rfl
  focus (go_upto_region 17 with (fail))
  rotate_left
  focus (go_upto_region 19 with (fail))
  rotate_left
  focus (go_upto_region 21 with (fail))
  rotate_left
  all_goals
   rename_i K1 hK1;refine Ew (n:=9) (by kernel_rfl) (by kernel_rfl) ?_;simp only [List.take_succ_cons,List.take_zero,List.drop_succ_cons,List.drop_zero];refine En _ _ rfl rfl w.heap.size 0 (by go_simp) _ _ c.a _ _ (B.ret 0 rfl) (fun j v h=>by rw [Nat.zero_add]; exact h) Tryz.underlying36 rfl Aq ?_;simp only [Act.put,List.setIfInBounds_toArray,List.set_cons_succ,List.set_cons_zero]
   iterate 7 (go_big_quiet_step ((go_at_call 70; exact Calls.regrown_of ((Ba _ _).mono fun e w' ⟨h1,h2⟩=>⟨h1,h2 ▸ Below.refl _ _⟩))))
   go_big_quiet_step ((go_at_call 100; exact Calls.regrown_of (Gf c _ _)))
   refine wpQuiet_nil ?_;intro w' hw';obtain ⟨⟨d,os⟩,rfl⟩:=hw';replace B:=B.call (below_regrown W0 d os);refine wp_store_row _ _ _ rfl (w.heap.size+1+1) _ rfl rfl _ _ (B.ret 2 rfl) Aq rfl (Bd.one _) ?_;simp only [Ip];go_simp;refine hK1 _ _ ?_;go_wp2;refine bodyPost_ret (v:=.tuple #[.agg _,.bool _]) (Eq Tryz.results97 _ _ (w.heap.size+1+1) _ _ _ _ rfl ((B.row 2 rfl _).ret 2 rfl) Tryz.underlying36 rfl Aq) rfl ?_;exact ⟨rfl,(B.row 2 rfl _).below⟩
 by_cases hs3:op=12∨op=13
 ·have g0:=B.getG 0 rfl 1 (v:=.i c.X) rfl
  have h1:IntKind.i64.wrap (c.X%256+1)=c.X%256+1:=by rw [IntKind.wrap_i64]; omega
  have h2:IntKind.i64.wrap (c.X%256-1)=c.X%256-1:=by rw [IntKind.wrap_i64]; omega
  rcases hs3 with rfl | rfl
  focus (go_upto_region 31 with (fail))
  rotate_left
  focus (go_upto_region 33 with (fail))
  rotate_left
  all_goals
   rename_i K1 hK1;refine Ew (n:=6) (by kernel_rfl) (by kernel_rfl) ?_;simp only [List.take_succ_cons,List.take_zero,List.drop_succ_cons,List.drop_zero];refine En _ _ rfl rfl w.heap.size 0 (by go_simp) _ _ c.a _ _ (B.ret 0 rfl) (fun j v h=>by rw [Nat.zero_add]; exact h) Tryz.underlying36 rfl Aq ?_;simp only [Act.put,List.setIfInBounds_toArray,List.set_cons_succ,List.set_cons_zero]
   iterate 4 (go_big_quiet_step ((go_at_call 70; exact Calls.regrown_of ((Ba _ _).mono fun e w' ⟨h1,h2⟩=>⟨h1,h2 ▸ Below.refl _ _⟩))))
   go_big_quiet_step ((go_at_call 109; exact Calls.regrown_of (Tp c _ _)))
   refine wpQuiet_nil ?_;intro w' hw';obtain ⟨⟨d,os⟩,rfl⟩:=hw';replace B:=B.call (below_regrown W0 d os);refine wp_store_row _ _ _ rfl (w.heap.size+1+1) _ rfl rfl _ _ (B.ret 2 rfl) Aq rfl (Bd.one _) ?_;simp only [Ip];go_simp;refine hK1 _ _ ?_;go_wp2;refine bodyPost_ret (v:=.tuple #[.agg _,.bool _]) (Eq Tryz.results97 _ _ (w.heap.size+1+1) _ _ _ _ rfl ((B.row 2 rfl _).ret 2 rfl) Tryz.underlying36 rfl Aq) rfl ?_;exact ⟨rfl,(B.row 2 rfl _).below⟩
 by_cases h5:op=5
 ·subst h5
  obtain ⟨x,hx⟩:∃ x,Hid (x=(c.A%256-arg%256-1+Bc c.C)%256):=⟨_,rfl⟩
  obtain ⟨y,hy⟩:∃ y,Hid (y=decide (0≤c.A%256-arg%256-1+Bc c.C)):=⟨_,rfl⟩
  have HA:=Ad (fun W=>Sf c.A arg c.C W);rw [← hx.out,← hy.out] at HA
  have HR:(setAc c x).a.setIfInBounds 6 (.bool y)=(aluC c 5 arg v).a:=by rw [hx.out,hy.out]; rfl
  clear hx hy;go_upto_region 12 with (fail);go_wp2_with fail;clear c0 c1 c6 f_c c_i;refine (Ab HA _).mono ?_;rintro e W1 ⟨rfl,rfl⟩;go_upto_region 13 with (fail);rename_i K1 hK1;refine wp_region_lit ?_;refine wpList_load_row rfl _ _ rfl (w.heap.size) rfl _ _ _ _ (B.ret 0 rfl) Tryz.underlying36 rfl Aq ?_;go_wp2_with fail;rename_i K2 hK2;refine (Gf c x _).mono ?_;rintro e W2 ⟨rfl,L⟩;replace B:=B.call L;refine hK2 _ _ ?_;refine wpList_store_row rfl _ _ _ rfl (w.heap.size) (setAc c x).a rfl rfl _ _ (B.ret 0 rfl) Aq rfl (Bd.one _) ?_;replace B:=B.row 0 rfl (setAc c x).a;generalize W2.setRow (w.heap.size) (setAc c x).a=W3 at *;refine hK1 _ _ ?_;have fc:=Ax (B.ret 0 rfl);have c6:=B.get 0 rfl 6 (v:=.bool c.C) rfl;go_upto_region 15 with (fail);clear fc c6;replace B:=B.cell 0 rfl 6 (.bool y) HR;generalize W3.setCell ⟨w.heap.size,6,none⟩ (.bool y)=W4 at *
  rename_i K1 hK1;refine wp_region_lit ?_;refine wpList_load_row rfl _ _ rfl (w.heap.size) rfl _ _ _ _ (B.ret 0 rfl) Tryz.underlying36 rfl Aq ?_;refine wpList_store_row rfl _ _ _ rfl (w.heap.size+1+1) _ rfl rfl _ _ (B.ret 2 rfl) Aq rfl (Bd.one _) ?_;refine wpList_plain rfl (fun K9 hK9=>?_);go_simp;refine hK9 _ _ ?_;refine hK1 _ _ ?_;go_wp2;refine bodyPost_ret (v:=.tuple #[.agg _,.bool _]) (Eq Tryz.results97 _ _ (w.heap.size+1+1) _ _ _ _ rfl ((B.row 2 rfl _).ret 2 rfl) Tryz.underlying36 rfl Aq) rfl ?_;exact ⟨rfl,(B.row 2 rfl _).below⟩
 by_cases h9:op=9
 ·subst h9
  obtain ⟨z,hz⟩:∃ x,Hid (x=((c.A%256-arg%256)%256==0)):=⟨_,rfl⟩
  obtain ⟨n,hn⟩:∃ x,Hid (x=decide (127<(c.A%256-arg%256)%256)):=⟨_,rfl⟩
  have HG:=Ad (fun W=>Ic (c.A%256-arg%256) W);rw [← hz.out,← hn.out] at HG
  have hw1:IntKind.i64.wrap (c.A%256-arg%256)=c.A%256-arg%256:=by rw [IntKind.wrap_i64]; omega
  have HR:((c.a.setIfInBounds 4 (.bool z)).setIfInBounds 5 (.bool n)).setIfInBounds 6 (.bool (decide (arg%256≤c.A%256)))=(aluC c 9 arg v).a:=by rw [hz.out,hn.out]; rfl
  clear hz hn;go_upto_region 23 with (fail);rename_i K1 hK1;have a1:=B.get 1 rfl 1 (v:=.i arg) rfl;have c4:=B.get 0 rfl 4 (v:=.bool c.Z) rfl;have c5:=B.get 0 rfl 5 (v:=.bool c.N) rfl;have B1:=B.cell 0 rfl 4 (.bool z) rfl;have B2:=B1.cell 0 rfl 5 (.bool n) rfl;have b0:(W0.setCell ⟨w.heap.size,4,none⟩ (.bool z)).drew.cell? ⟨w.heap.size,0,none⟩=some (.i c.A):=B1.get 0 rfl 0 rfl;have b1:(W0.setCell ⟨w.heap.size,4,none⟩ (.bool z)).drew.cell? ⟨w.heap.size+1,1,none⟩=some (.i arg):=B1.get 1 rfl 1 rfl;have b2:((W0.setCell ⟨w.heap.size,4,none⟩ (.bool z)).setCell ⟨w.heap.size,5,none⟩ (.bool n)).drew.cell? ⟨w.heap.size,0,none⟩=some (.i c.A):=B2.get 0 rfl 0 rfl;have b3:((W0.setCell ⟨w.heap.size,4,none⟩ (.bool z)).setCell ⟨w.heap.size,5,none⟩ (.bool n)).drew.cell? ⟨w.heap.size+1,1,none⟩=some (.i arg):=B2.get 1 rfl 1 rfl
  go_region_held3 (fun w'=>w'.cell? ⟨w.heap.size,0,none⟩=some (.i c.A)∧w'.cell? ⟨w.heap.size+1,1,none⟩=some (.i arg)) (first | (with_reducible assumption) | (refine ⟨?_,?_⟩ <;> with_reducible assumption) | go_keep) (first | (go_at_call 70; refine (Ba _ _).mono ?_; rintro e W5 ⟨rfl,rfl⟩) | (go_at_call 108; refine (Ab HG _).mono ?_; rintro e W5 ⟨rfl,rfl⟩))
  replace B:=B2.drew;clear B1 B2 a1 c4 c5 b0 b1 b2 b3 c0 c1 c6 f_c c_i;refine hK1 _ _ ?_;clear hK1;generalize ((W0.setCell ⟨w.heap.size,4,none⟩ (.bool z)).setCell ⟨w.heap.size,5,none⟩ (.bool n)).drew=W6 at *;go_upto_region 24 with (fail);rename_i K1 hK1;have g0:=B.getG 0 rfl 0 (v:=.i c.A) rfl;have g1:=B.getG 1 rfl 1 (v:=.i arg) rfl;refine Cx (n:=8) (by kernel_rfl) (by kernel_rfl) rfl ?_;simp only [List.take_succ_cons,List.take_zero]
  iterate 8 (go_big_quiet_step ((go_at_call 70; exact Calls.regrown_of ((Ba _ _).mono fun e w' ⟨h1,h2⟩=>⟨h1,h2 ▸ Below.refl _ _⟩))))
  refine wpQuiet_nil ?_;intro w' hw';obtain ⟨⟨d,os⟩,rfl⟩:=hw';replace B:=B.call (below_regrown W6 d os);have fc:=Ax (B.ret 0 rfl);have c6:=B.get 0 rfl 6 (v:=.bool c.C) rfl;go_simp;replace B:=B.cell 0 rfl 6 _ HR;refine hK1 _ _ ?_;clear fc c6 g0 g1 hK1;go_upto_region 25 with (fail);rename_i K1 hK1;refine wp_region_lit ?_;refine wpList_load_row rfl _ _ rfl (w.heap.size) rfl _ _ _ _ (B.ret 0 rfl) Tryz.underlying36 rfl Aq ?_;refine wpList_store_row rfl _ _ _ rfl (w.heap.size+1+1) _ rfl rfl _ _ (B.ret 2 rfl) Aq rfl (Bd.one _) ?_;refine wpList_plain rfl (fun K9 hK9=>?_);go_simp;refine hK9 _ _ ?_;refine hK1 _ _ ?_;go_wp2;refine bodyPost_ret (v:=.tuple #[.agg _,.bool _]) (Eq Tryz.results97 _ _ (w.heap.size+1+1) _ _ _ _ rfl ((B.row 2 rfl _).ret 2 rfl) Tryz.underlying36 rfl Aq) rfl ?_;exact ⟨rfl,(B.row 2 rfl _).below⟩
 have ho:Gy op=false:=decide_eq_false (by omega)
 have hc:aluC c op arg v=c:=by
  unfold aluC
  repeat rw [if_neg (by omega)]
 have e1:=Ch ho 1 rfl;have e2:=Ch ho 2 rfl;have e14:=Ch ho 14 rfl;have e4:=Ch ho 4 rfl;have e29:=Ch ho 29 rfl;have e5:=Ch ho 5 rfl;have e6:=Ch ho 6 rfl;have e7:=Ch ho 7 rfl;have e8:=Ch ho 8 rfl;have e9:=Ch ho 9 rfl;have e10:=Ch ho 10 rfl;have e11:=Ch ho 11 rfl;have e12:=Ch ho 12 rfl;have e13:=Ch ho 13 rfl;clear hs hs2 hs3 h5 h9;go_upto_region 34 with (fail);rename_i K1 hK1;refine wp_region_lit ?_;refine wpList_load_row rfl _ _ rfl (w.heap.size) rfl _ _ _ _ (B.ret 0 rfl) Tryz.underlying36 rfl Aq ?_;refine wpList_store_row rfl _ _ _ rfl (w.heap.size+1+1) _ rfl rfl _ _ (B.ret 2 rfl) Aq rfl (Bd.one _) ?_;refine wpList_plain rfl (fun K9 hK9=>?_);go_simp;refine hK9 _ _ ?_;refine hK1 _ _ ?_;go_wp2
 refine bodyPost_ret (v:=.tuple #[.agg _,.bool _]) (Eq Tryz.results97 _ _ (w.heap.size+1+1) _ _ _ _ rfl ((B.row 2 rfl _).ret 2 rfl) Tryz.underlying36 rfl Aq) rfl ?_;exact ⟨by rw [hc,ho],(B.row 2 rfl _).below⟩
def pulC (c:Bd):Bd:={ c with S:=(c.S+1)%256 }
theorem Mw (c:Bd) {G:Nat→Nat→Prop} {u:Value} {g:Nat→Int} (bank:Int) {w:World} (K:Ints .i64 w G u 512 g):Calls Tryz.prog 99 #[.agg #[u,.i bank],.agg c.a] w fun e w'=>e=.returned (.tuple #[.agg (pulC c).a,.i (Dw g c.S)])∧Below w.heap.size w w':=Mh w G u g bank K c.A c.X c.S c.Pc c.Z c.N c.C c.I
theorem J1 (c:Bd) {G:Nat→Nat→Prop} {u:Value} {g:Nat→Int} (bank:Int) {w:World} (K:Ints .i64 w G u 512 g):Calls Tryz.prog 98 #[.agg #[u,.i bank],.agg c.a] w fun e w'=>e=.returned (.agg (Lm g c).a)∧Below w.heap.size w w':=by
 have B:=(((Dv.nil w).alloc #[u,.i bank] 34 w.heap.size rfl).alloc c.a 36 (w.heap.size+1) (by simp)).alloc cZ 36 (w.heap.size+1+1) (by simp)
 go_enter Tryz.func98,Tryz.ntmps98
 go_upto_region 1 with (fail);generalize ((w.alloc (.cells #[u,.i bank] 34)).alloc (.cells c.a 36)).alloc (.cells cZ 36)=W0 at *;rename_i K1 hK1;refine wp_region_lit ?_;refine wpList_load_row rfl _ _ rfl (w.heap.size) rfl _ _ _ _ (B.ret 0 rfl) Tryz.underlying34 rfl Bf ?_;refine wpList_load_row rfl _ _ rfl (w.heap.size+1) rfl _ _ _ _ (B.ret 1 rfl) Tryz.underlying36 rfl Aq ?_;refine wpList_plain rfl (fun K9 hK9=>?_);go_simp;refine (Mw c bank (K.keep (Aa B.below Ah) (fun _ _ _ x=>x))).mono ?_;rintro e W1 ⟨rfl,L⟩;replace B:=B.call L;clear L;refine hK9 _ _ ?_;clear hK9
 iterate 3 (refine wpList_plain rfl (fun K9 hK9=>?_); go_simp; refine hK9 _ _ ?_; clear hK9)
 refine wpList_store_row rfl _ _ _ rfl (w.heap.size+1) (pulC c).a rfl rfl _ _ (B.ret 1 rfl) Aq rfl (Bd.one _) ?_;replace B:=B.row 1 rfl (pulC c).a;generalize W1.setRow (w.heap.size+1) (pulC c).a=W2 at *
 (refine wpList_plain rfl (fun K9 hK9=>?_); go_simp; refine hK9 _ _ ?_; clear hK9)
 refine hK1 _ _ ?_;clear hK1;go_upto_region 2 with (fail);rename_i K1 hK1;refine wp_region_lit ?_;refine wpList_load_row rfl _ _ rfl (w.heap.size) rfl _ _ _ _ (B.ret 0 rfl) Tryz.underlying34 rfl Bf ?_;refine wpList_load_row rfl _ _ rfl (w.heap.size+1) rfl _ _ _ _ (B.ret 1 rfl) Tryz.underlying36 rfl Aq ?_;refine wpList_plain rfl (fun K9 hK9=>?_);go_simp;refine (Mw (pulC c) bank (K.keep (Aa B.below Ah) (fun _ _ _ x=>x))).mono ?_;rintro e W3 ⟨rfl,L⟩;replace B:=B.call L;clear L;refine hK9 _ _ ?_;clear hK9
 iterate 3 (refine wpList_plain rfl (fun K9 hK9=>?_); go_simp; refine hK9 _ _ ?_; clear hK9)
 refine wpList_store_row rfl _ _ _ rfl (w.heap.size+1) (pulC (pulC c)).a rfl rfl _ _ (B.ret 1 rfl) Aq rfl (Bd.one _) ?_;replace B:=B.row 1 rfl (pulC (pulC c)).a;generalize W3.setRow (w.heap.size+1) (pulC (pulC c)).a=W4 at *
 (refine wpList_plain rfl (fun K9 hK9=>?_); go_simp; refine hK9 _ _ ?_; clear hK9)
 refine hK1 _ _ ?_;clear hK1;go_upto_region 3 with (fail);rename_i K1 hK1;refine wp_region_lit ?_
 iterate 2 (refine wpList_plain rfl (fun K9 hK9=>?_); go_simp; refine hK9 _ _ ?_; clear hK9)
 refine wpList_plain rfl (fun K9 hK9=>?_);go_simp;refine (Hh _ _ _).mono ?_;rintro e W5 ⟨rfl,rfl⟩;refine hK9 _ _ ?_;clear hK9
 (refine wpList_plain rfl (fun K9 hK9=>?_); go_simp; refine hK9 _ _ ?_; clear hK9)
 have fc:=Ax (B.ret 1 rfl);have c3:=B.get 1 rfl 3 (v:=.i c.Pc) rfl
 (refine wpList_plain rfl (fun K9 hK9=>?_); go_simp; refine hK9 _ _ ?_; clear hK9)
 clear fc c3;have B:=B.cell 1 rfl 3 (.i (Dw g c.S%256+256*(Dw g (pulC c).S%256))) (cs':=(Lm g c).a) rfl;refine hK1 _ _ ?_;clear hK1;go_upto_region 4 with (fail);rename_i K1 hK1;refine wp_region_lit ?_;refine wpList_load_row rfl _ _ rfl (w.heap.size+1) rfl _ _ _ _ (B.ret 1 rfl) Tryz.underlying36 rfl Aq ?_;refine wpList_store_row rfl _ _ _ rfl (w.heap.size+1+1) _ rfl rfl _ _ (B.ret 2 rfl) Aq rfl (Bd.one _) ?_;refine hK1 _ _ ?_;clear hK1;go_wp2;refine bodyPost_ret (v:=.agg _) (results_cell_row (by rfl) _ _ (w.heap.size+1+1) _ _ _ _ rfl ((B.row 2 rfl _).ret 2 rfl) Tryz.underlying36 rfl Aq) rfl ?_;exact ⟨rfl,(B.row 2 rfl _).below⟩
end Go.Proofs.YtfjieibndedngaaGreat
