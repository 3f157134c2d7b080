import Derived.Test.YtgcmimcalmjaaaaGreatDoorKR
import Derived.Deep.CutBlock
namespace Go.Proofs.YtgcmimcalmjaaaaGreatDoor
set_option maxHeartbeats 8000000
set_option maxRecDepth 20000
set_option linter.unusedVariables false
set_option linter.unusedSimpArgs false
open Go.ChangeShapes Go.WideShapes Go.ChangeAt Go.RowKit Go.Sort
theorem Bq:(Tryz.prog.info? 42).map (·.size)=some 2:=by kernel_rfl
theorem Aw:(Tryz.prog.info? 43).map (·.size)=some 8:=by kernel_rfl
def A4.a (c:A4):Array Value:=(cR c.A c.X c.S c.Pc c.Z c.N c.C c.I)
theorem A4.one (c:A4):c.a.all (·.oneCell')=true:=by unfold A4.a; first | kernel_rfl | simp [Value.oneCell']
theorem Ii (c:A4) (x:Int) (w:World):Calls Tryz.prog 129 #[.agg c.a,.i x] w fun e w'=>e=.returned (.agg (setAc c x).a)∧Below w.heap.size w w':=Yl w c.A c.X c.S c.Pc c.Z c.N c.C c.I x
theorem Zl (c:A4) (x:Int) (w:World):Calls Tryz.prog 150 #[.agg c.a,.i x] w fun e w'=>e=.returned (.agg (Vg c x).a)∧Below w.heap.size w w':=Ym w c.A c.X c.S c.Pc c.Z c.N c.C c.I x
--@need spec.l7Add
theorem Oz (c:A4) (v:Int) (w:World):Calls Tryz.prog 147 #[.agg c.a,.i v] w fun e w'=>e=.returned (.agg (addC c v).a)∧Below w.heap.size w w':=by
 obtain ⟨x,hx⟩:∃ x,Hid (x=(c.A%256+v%256+Av c.C)%256):=⟨_,rfl⟩
 obtain ⟨y,hy⟩:∃ y,Hid (y=decide (255<c.A%256+v%256+Av c.C)):=⟨_,rfl⟩
 have HA:=Ad (fun W=>Yc c.A v c.C W);rw [← hx.out,← hy.out] at HA
 have HR:(setAc c x).a.setIfInBounds 6 (.bool y)=(addC c v).a:=by rw [hx.out,hy.out]; rfl
 clear hx hy;have B:=((Fv.nil w).alloc c.a 43 w.heap.size rfl).alloc cZ 43 (w.heap.size+1) (by simp)
 go_enter Tryz.func147,Tryz.ntmps147
 go_upto_region 1 with (fail);generalize (w.alloc (.cells c.a 43)).alloc (.cells cZ 43)=W0 at *;have c0:=B.get 0 rfl 0 (v:=.i c.A) rfl;have c6:=B.get 0 rfl 6 (v:=.bool c.C) rfl;go_wp2_with fail;clear c0 c6;refine (An HA _).mono ?_;rintro e W1 ⟨rfl,rfl⟩;go_upto_region 2 with (fail);rename_i K1 hK1;refine wp_region_lit ?_;refine wpList_load_row rfl _ _ rfl (w.heap.size) rfl _ _ _ _ (B.ret 0 rfl) Tryz.underlying43 rfl Aw ?_;go_wp2_with fail;rename_i K2 hK2;refine (Ii c x _).mono ?_;rintro e W2 ⟨rfl,L⟩;replace B:=B.call L;refine hK2 _ _ ?_;refine wpList_store_row rfl _ _ _ rfl (w.heap.size) (setAc c x).a rfl rfl _ _ (B.ret 0 rfl) Aw rfl (A4.one _) ?_;replace B:=B.row 0 rfl (setAc c x).a;generalize W2.setRow (w.heap.size) (setAc c x).a=W3 at *;refine hK1 _ _ ?_;have fc:=As (B.ret 0 rfl);have c6:=B.get 0 rfl 6 (v:=.bool c.C) rfl
 go_upto_region 4 with (fail);clear fc c6;replace B:=B.cell 0 rfl 6 (.bool y) HR;generalize W3.setCell ⟨w.heap.size,6,none⟩ (.bool y)=W4 at *;rename_i K3 hK3;refine wp_region_lit ?_;refine wpList_load_row rfl _ _ rfl (w.heap.size) rfl _ _ _ _ (B.ret 0 rfl) Tryz.underlying43 rfl Aw ?_;refine wpList_store_row rfl _ _ _ rfl (w.heap.size+1) (addC c v).a rfl rfl _ _ (B.ret 1 rfl) Aw rfl (A4.one _) ?_;replace B:=B.row 1 rfl (addC c v).a;generalize W4.setRow (w.heap.size+1) (addC c v).a=W5 at *;refine hK3 _ _ ?_;go_wp2;refine bodyPost_ret (v:=.agg (addC c v).a) (results_cell_row (by rfl) _ _ (w.heap.size+1) _ _ _ _ rfl (B.ret 1 rfl) Tryz.underlying43 rfl Aw) rfl ?_;exact ⟨rfl,B.below⟩
theorem Fb {P:Program} {fn:Func} {p q:Tmp} {ty:TypeId} (h:fn.results=#[.cell p ty,.tmp q]) (tmps:Array Value) (w:World) (g:Nat) (t:TypeId) (cs:Array Value) (fr:Nat × Nat) (dd:TypeDesc)
  (hp:tmps.getD p undef=(pt g 0)) (hg:w.heap[g]?=some (.cells cs t fr)) (hu:P.underlying ty=some dd) (hd:(match dd with | .struct _ | .array _ _=>true | _=>false)=true) (hi:(P.info? ty).map (·.size)=some cs.size) :
  (results fn tmps).run P w=.ok (.tuple #[.agg cs,tmps.getD q undef]) w:=by
 have hp':tmps[p]?.getD undef=(pt g 0):=by simpa using hp
 simp [results,h,hp',asAddr,run_loadVar_row w g t ty cs fr dd hg hu hd hi]
theorem Cx {op:Int} (h:Gv op=false) (k:Int) (hk:Gv k=true):(op==k)=false:=beq_eq_false_iff_ne.2 (fun e=>by rw [e,hk] at h; cases h)
theorem Xk (c:A4) (op arg v:Int) (w:World):Calls Tryz.prog 126 #[.agg c.a,.agg #[.i op,.i arg],.i v] w fun e w'=>e=.returned (.tuple #[.agg (aluC c op arg v).a,.bool (Gv op)])∧Below w.heap.size w w':=by
 have B:=(((Fv.nil w).alloc c.a 43 w.heap.size rfl).alloc #[.i op,.i arg] 109 (w.heap.size+1) (by simp)).alloc cZ 43 (w.heap.size+1+1) (by simp)
 go_enter Tryz.func126,Tryz.ntmps126
 go_upto_region 1 with (fail);generalize ((w.alloc (.cells c.a 43)).alloc (.cells #[.i op,.i arg] 109)).alloc (.cells cZ 43)=W0 at *;have c0:=B.get 0 rfl 0 (v:=.i c.A) rfl;have c1:=B.get 0 rfl 1 (v:=.i c.X) rfl;have c6:=B.get 0 rfl 6 (v:=.bool c.C) rfl;have f_c:=As (B.ret 0 rfl);have c_i:=Ag (B.ret 1 rfl)
 by_cases hs:op=1∨op=2∨op=14∨op=4∨op=29∨op=10∨op=11
 ·rcases hs with rfl | rfl | rfl | rfl | rfl | rfl | rfl
  focus (go_upto_region 3 with (fail); have HS:=Ii c arg)
  rotate_left
  focus (go_upto_region 6 with (fail); have HS:=Ii c v)
  rotate_left
  focus (go_upto_region 6 with (fail); have HS:=Ii c v)
  rotate_left
  focus (go_upto_region 8 with (fail); have HS:=Oz c arg)
  rotate_left
  focus (go_upto_region 10 with (fail); have HS:=Oz c v)
  rotate_left
  focus (go_upto_region 27 with (fail); have HS:=Zl c c.A)
  rotate_left
  focus (go_upto_region 29 with (fail); have HS:=Ii c c.X)
  rotate_left
  all_goals
   rename_i K1 hK1;refine wp_region_lit ?_;refine wpList_load_row rfl _ _ rfl (w.heap.size) rfl _ _ _ _ (B.ret 0 rfl) Tryz.underlying43 rfl Aw ?_;go_wp2_with fail;rename_i K2 hK2;refine (HS _).mono ?_;rintro e W2 ⟨rfl,L⟩;replace B:=B.call L;refine hK2 _ _ ?_;refine wpList_store_row rfl _ _ _ rfl (w.heap.size+1+1) _ rfl rfl _ _ (B.ret 2 rfl) Aw rfl (A4.one _) ?_;refine wpList_plain rfl (fun K9 hK9=>?_);go_simp;refine hK9 _ _ ?_;refine hK1 _ _ ?_;go_wp2;refine bodyPost_ret (v:=.tuple #[.agg _,.bool _]) (Fb Tryz.results126 _ _ (w.heap.size+1+1) _ _ _ _ rfl ((B.row 2 rfl _).ret 2 rfl) Tryz.underlying43 rfl Aw) rfl ?_;exact ⟨rfl,(B.row 2 rfl _).below⟩
 by_cases hs2:op=6∨op=7∨op=8
 ·have g0:=B.getG 0 rfl 0 (v:=.i c.A) rfl
  have g1:=B.getG 1 rfl 1 (v:=.i arg) rfl
  rcases hs2 with rfl | rfl | rfl
  focus (go_upto_region 17 with (fail))
  rotate_left
  focus (go_upto_region 19 with (fail))
  rotate_left
  focus (go_upto_region 21 with (fail))
  rotate_left
  all_goals
   rename_i K1 hK1;refine Fq (n:=9) (by kernel_rfl) (by kernel_rfl) ?_;simp only [List.take_succ_cons,List.take_zero,List.drop_succ_cons,List.drop_zero];refine Bp _ _ rfl rfl w.heap.size 0 (by go_simp) _ _ c.a _ _ (B.ret 0 rfl) (fun j v h=>by rw [Nat.zero_add]; exact h) Tryz.underlying43 rfl Aw ?_;simp only [Act.put,List.setIfInBounds_toArray,List.set_cons_succ,List.set_cons_zero]
   iterate 7 (go_big_quiet_step ((go_at_call 116; exact Calls.regrown_of ((Bs _ _).mono fun e w' ⟨h1,h2⟩=>⟨h1,h2 ▸ Below.refl _ _⟩))))
   go_big_quiet_step ((go_at_call 129; exact Calls.regrown_of (Ii c _ _)))
   refine wpQuiet_nil ?_;intro w' hw';obtain ⟨⟨d,os⟩,rfl⟩:=hw';replace B:=B.call (below_regrown W0 d os);refine wp_store_row _ _ _ rfl (w.heap.size+1+1) _ rfl rfl _ _ (B.ret 2 rfl) Aw rfl (A4.one _) ?_;simp only [Kl];go_simp;refine hK1 _ _ ?_;go_wp2;refine bodyPost_ret (v:=.tuple #[.agg _,.bool _]) (Fb Tryz.results126 _ _ (w.heap.size+1+1) _ _ _ _ rfl ((B.row 2 rfl _).ret 2 rfl) Tryz.underlying43 rfl Aw) rfl ?_;exact ⟨rfl,(B.row 2 rfl _).below⟩
 by_cases hs3:op=12∨op=13
 ·have g0:=B.getG 0 rfl 1 (v:=.i c.X) rfl
  have h1:IntKind.i64.wrap (c.X%256+1)=c.X%256+1:=by rw [IntKind.wrap_i64]; omega
  have h2:IntKind.i64.wrap (c.X%256-1)=c.X%256-1:=by rw [IntKind.wrap_i64]; omega
  rcases hs3 with rfl | rfl
  focus (go_upto_region 31 with (fail))
  rotate_left
  focus (go_upto_region 33 with (fail))
  rotate_left
  all_goals
   rename_i K1 hK1;refine Fq (n:=6) (by kernel_rfl) (by kernel_rfl) ?_;simp only [List.take_succ_cons,List.take_zero,List.drop_succ_cons,List.drop_zero];refine Bp _ _ rfl rfl w.heap.size 0 (by go_simp) _ _ c.a _ _ (B.ret 0 rfl) (fun j v h=>by rw [Nat.zero_add]; exact h) Tryz.underlying43 rfl Aw ?_;simp only [Act.put,List.setIfInBounds_toArray,List.set_cons_succ,List.set_cons_zero]
   iterate 4 (go_big_quiet_step ((go_at_call 116; exact Calls.regrown_of ((Bs _ _).mono fun e w' ⟨h1,h2⟩=>⟨h1,h2 ▸ Below.refl _ _⟩))))
   go_big_quiet_step ((go_at_call 150; exact Calls.regrown_of (Zl c _ _)))
   refine wpQuiet_nil ?_;intro w' hw';obtain ⟨⟨d,os⟩,rfl⟩:=hw';replace B:=B.call (below_regrown W0 d os);refine wp_store_row _ _ _ rfl (w.heap.size+1+1) _ rfl rfl _ _ (B.ret 2 rfl) Aw rfl (A4.one _) ?_;simp only [Kl];go_simp;refine hK1 _ _ ?_;go_wp2;refine bodyPost_ret (v:=.tuple #[.agg _,.bool _]) (Fb Tryz.results126 _ _ (w.heap.size+1+1) _ _ _ _ rfl ((B.row 2 rfl _).ret 2 rfl) Tryz.underlying43 rfl Aw) rfl ?_;exact ⟨rfl,(B.row 2 rfl _).below⟩
 by_cases h5:op=5
 ·subst h5
  obtain ⟨x,hx⟩:∃ x,Hid (x=(c.A%256-arg%256-1+Av c.C)%256):=⟨_,rfl⟩
  obtain ⟨y,hy⟩:∃ y,Hid (y=decide (0≤c.A%256-arg%256-1+Av c.C)):=⟨_,rfl⟩
  have HA:=Ad (fun W=>Yd c.A arg c.C W);rw [← hx.out,← hy.out] at HA
  have HR:(setAc c x).a.setIfInBounds 6 (.bool y)=(aluC c 5 arg v).a:=by rw [hx.out,hy.out]; rfl
  clear hx hy;go_upto_region 12 with (fail);go_wp2_with fail;clear c0 c1 c6 f_c c_i;refine (An HA _).mono ?_;rintro e W1 ⟨rfl,rfl⟩;go_upto_region 13 with (fail);rename_i K1 hK1;refine wp_region_lit ?_;refine wpList_load_row rfl _ _ rfl (w.heap.size) rfl _ _ _ _ (B.ret 0 rfl) Tryz.underlying43 rfl Aw ?_;go_wp2_with fail;rename_i K2 hK2;refine (Ii c x _).mono ?_;rintro e W2 ⟨rfl,L⟩;replace B:=B.call L;refine hK2 _ _ ?_;refine wpList_store_row rfl _ _ _ rfl (w.heap.size) (setAc c x).a rfl rfl _ _ (B.ret 0 rfl) Aw rfl (A4.one _) ?_;replace B:=B.row 0 rfl (setAc c x).a;generalize W2.setRow (w.heap.size) (setAc c x).a=W3 at *;refine hK1 _ _ ?_;have fc:=As (B.ret 0 rfl);have c6:=B.get 0 rfl 6 (v:=.bool c.C) rfl;go_upto_region 15 with (fail);clear fc c6;replace B:=B.cell 0 rfl 6 (.bool y) HR;generalize W3.setCell ⟨w.heap.size,6,none⟩ (.bool y)=W4 at *
  rename_i K1 hK1;refine wp_region_lit ?_;refine wpList_load_row rfl _ _ rfl (w.heap.size) rfl _ _ _ _ (B.ret 0 rfl) Tryz.underlying43 rfl Aw ?_;refine wpList_store_row rfl _ _ _ rfl (w.heap.size+1+1) _ rfl rfl _ _ (B.ret 2 rfl) Aw rfl (A4.one _) ?_;refine wpList_plain rfl (fun K9 hK9=>?_);go_simp;refine hK9 _ _ ?_;refine hK1 _ _ ?_;go_wp2;refine bodyPost_ret (v:=.tuple #[.agg _,.bool _]) (Fb Tryz.results126 _ _ (w.heap.size+1+1) _ _ _ _ rfl ((B.row 2 rfl _).ret 2 rfl) Tryz.underlying43 rfl Aw) rfl ?_;exact ⟨rfl,(B.row 2 rfl _).below⟩
 by_cases h9:op=9
 ·subst h9
  obtain ⟨z,hz⟩:∃ x,Hid (x=((c.A%256-arg%256)%256==0)):=⟨_,rfl⟩
  obtain ⟨n,hn⟩:∃ x,Hid (x=decide (127<(c.A%256-arg%256)%256)):=⟨_,rfl⟩
  have HG:=Ad (fun W=>J7 (c.A%256-arg%256) W);rw [← hz.out,← hn.out] at HG
  have hw1:IntKind.i64.wrap (c.A%256-arg%256)=c.A%256-arg%256:=by rw [IntKind.wrap_i64]; omega
  have HR:((c.a.setIfInBounds 4 (.bool z)).setIfInBounds 5 (.bool n)).setIfInBounds 6 (.bool (decide (arg%256≤c.A%256)))=(aluC c 9 arg v).a:=by rw [hz.out,hn.out]; rfl
  clear hz hn;go_upto_region 23 with (fail);rename_i K1 hK1;have a1:=B.get 1 rfl 1 (v:=.i arg) rfl;have c4:=B.get 0 rfl 4 (v:=.bool c.Z) rfl;have c5:=B.get 0 rfl 5 (v:=.bool c.N) rfl;have B1:=B.cell 0 rfl 4 (.bool z) rfl;have B2:=B1.cell 0 rfl 5 (.bool n) rfl;have b0:(W0.setCell ⟨w.heap.size,4,none⟩ (.bool z)).drew.cell? ⟨w.heap.size,0,none⟩=some (.i c.A):=B1.get 0 rfl 0 rfl;have b1:(W0.setCell ⟨w.heap.size,4,none⟩ (.bool z)).drew.cell? ⟨w.heap.size+1,1,none⟩=some (.i arg):=B1.get 1 rfl 1 rfl;have b2:((W0.setCell ⟨w.heap.size,4,none⟩ (.bool z)).setCell ⟨w.heap.size,5,none⟩ (.bool n)).drew.cell? ⟨w.heap.size,0,none⟩=some (.i c.A):=B2.get 0 rfl 0 rfl;have b3:((W0.setCell ⟨w.heap.size,4,none⟩ (.bool z)).setCell ⟨w.heap.size,5,none⟩ (.bool n)).drew.cell? ⟨w.heap.size+1,1,none⟩=some (.i arg):=B2.get 1 rfl 1 rfl
  go_region_held3 (fun w'=>w'.cell? ⟨w.heap.size,0,none⟩=some (.i c.A)∧w'.cell? ⟨w.heap.size+1,1,none⟩=some (.i arg)) (first | (with_reducible assumption) | (refine ⟨?_,?_⟩ <;> with_reducible assumption) | go_keep) (first | (go_at_call 116; refine (Bs _ _).mono ?_; rintro e W5 ⟨rfl,rfl⟩) | (go_at_call 149; refine (An HG _).mono ?_; rintro e W5 ⟨rfl,rfl⟩))
  replace B:=B2.drew;clear B1 B2 a1 c4 c5 b0 b1 b2 b3 c0 c1 c6 f_c c_i;refine hK1 _ _ ?_;clear hK1;generalize ((W0.setCell ⟨w.heap.size,4,none⟩ (.bool z)).setCell ⟨w.heap.size,5,none⟩ (.bool n)).drew=W6 at *;go_upto_region 24 with (fail);rename_i K1 hK1;have g0:=B.getG 0 rfl 0 (v:=.i c.A) rfl;have g1:=B.getG 1 rfl 1 (v:=.i arg) rfl;refine A6 (n:=8) (by kernel_rfl) (by kernel_rfl) rfl ?_;simp only [List.take_succ_cons,List.take_zero]
  iterate 8 (go_big_quiet_step ((go_at_call 116; exact Calls.regrown_of ((Bs _ _).mono fun e w' ⟨h1,h2⟩=>⟨h1,h2 ▸ Below.refl _ _⟩))))
  refine wpQuiet_nil ?_;intro w' hw';obtain ⟨⟨d,os⟩,rfl⟩:=hw';replace B:=B.call (below_regrown W6 d os);have fc:=As (B.ret 0 rfl);have c6:=B.get 0 rfl 6 (v:=.bool c.C) rfl;go_simp;replace B:=B.cell 0 rfl 6 _ HR;refine hK1 _ _ ?_;clear fc c6 g0 g1 hK1;go_upto_region 25 with (fail);rename_i K1 hK1;refine wp_region_lit ?_;refine wpList_load_row rfl _ _ rfl (w.heap.size) rfl _ _ _ _ (B.ret 0 rfl) Tryz.underlying43 rfl Aw ?_;refine wpList_store_row rfl _ _ _ rfl (w.heap.size+1+1) _ rfl rfl _ _ (B.ret 2 rfl) Aw rfl (A4.one _) ?_;refine wpList_plain rfl (fun K9 hK9=>?_);go_simp;refine hK9 _ _ ?_;refine hK1 _ _ ?_;go_wp2;refine bodyPost_ret (v:=.tuple #[.agg _,.bool _]) (Fb Tryz.results126 _ _ (w.heap.size+1+1) _ _ _ _ rfl ((B.row 2 rfl _).ret 2 rfl) Tryz.underlying43 rfl Aw) rfl ?_;exact ⟨rfl,(B.row 2 rfl _).below⟩
 have ho:Gv op=false:=decide_eq_false (by omega)
 have hc:aluC c op arg v=c:=by
  unfold aluC
  repeat rw [if_neg (by omega)]
 have e1:=Cx ho 1 rfl;have e2:=Cx ho 2 rfl;have e14:=Cx ho 14 rfl;have e4:=Cx ho 4 rfl;have e29:=Cx ho 29 rfl;have e5:=Cx ho 5 rfl;have e6:=Cx ho 6 rfl;have e7:=Cx ho 7 rfl;have e8:=Cx ho 8 rfl;have e9:=Cx ho 9 rfl;have e10:=Cx ho 10 rfl;have e11:=Cx ho 11 rfl;have e12:=Cx ho 12 rfl;have e13:=Cx ho 13 rfl;clear hs hs2 hs3 h5 h9;go_upto_region 34 with (fail);rename_i K1 hK1;refine wp_region_lit ?_;refine wpList_load_row rfl _ _ rfl (w.heap.size) rfl _ _ _ _ (B.ret 0 rfl) Tryz.underlying43 rfl Aw ?_;refine wpList_store_row rfl _ _ _ rfl (w.heap.size+1+1) _ rfl rfl _ _ (B.ret 2 rfl) Aw rfl (A4.one _) ?_;refine wpList_plain rfl (fun K9 hK9=>?_);go_simp;refine hK9 _ _ ?_;refine hK1 _ _ ?_;go_wp2
 refine bodyPost_ret (v:=.tuple #[.agg _,.bool _]) (Fb Tryz.results126 _ _ (w.heap.size+1+1) _ _ _ _ rfl ((B.row 2 rfl _).ret 2 rfl) Tryz.underlying43 rfl Aw) rfl ?_;exact ⟨by rw [hc,ho],(B.row 2 rfl _).below⟩
def pulC (c:A4):A4:={ c with S:=(c.S+1)%256 }
theorem Qf (c:A4) {G:Nat→Nat→Prop} {u:Value} {g:Nat→Int} (bank:Int) {w:World} (K:Ints .i64 w G u 512 g):Calls Tryz.prog 128 #[.agg #[u,.i bank],.agg c.a] w fun e w'=>e=.returned (.tuple #[.agg (pulC c).a,.i (De g c.S)])∧Below w.heap.size w w':=Pt w G u g bank K c.A c.X c.S c.Pc c.Z c.N c.C c.I
theorem Mu (c:A4) {G:Nat→Nat→Prop} {u:Value} {g:Nat→Int} (bank:Int) {w:World} (K:Ints .i64 w G u 512 g):Calls Tryz.prog 127 #[.agg #[u,.i bank],.agg c.a] w fun e w'=>e=.returned (.agg (Ks g c).a)∧Below w.heap.size w w':=by
 have B:=(((Fv.nil w).alloc #[u,.i bank] 42 w.heap.size rfl).alloc c.a 43 (w.heap.size+1) (by simp)).alloc cZ 43 (w.heap.size+1+1) (by simp)
 go_enter Tryz.func127,Tryz.ntmps127
 go_upto_region 1 with (fail);generalize ((w.alloc (.cells #[u,.i bank] 42)).alloc (.cells c.a 43)).alloc (.cells cZ 43)=W0 at *;rename_i K1 hK1;refine wp_region_lit ?_;refine wpList_load_row rfl _ _ rfl (w.heap.size) rfl _ _ _ _ (B.ret 0 rfl) Tryz.underlying42 rfl Bq ?_;refine wpList_load_row rfl _ _ rfl (w.heap.size+1) rfl _ _ _ _ (B.ret 1 rfl) Tryz.underlying43 rfl Aw ?_;refine wpList_plain rfl (fun K9 hK9=>?_);go_simp;refine (Qf c bank (K.keep (Ab B.below Aj) (fun _ _ _ x=>x))).mono ?_;rintro e W1 ⟨rfl,L⟩;replace B:=B.call L;clear L;refine hK9 _ _ ?_;clear hK9
 iterate 3 (refine wpList_plain rfl (fun K9 hK9=>?_); go_simp; refine hK9 _ _ ?_; clear hK9)
 refine wpList_store_row rfl _ _ _ rfl (w.heap.size+1) (pulC c).a rfl rfl _ _ (B.ret 1 rfl) Aw rfl (A4.one _) ?_;replace B:=B.row 1 rfl (pulC c).a;generalize W1.setRow (w.heap.size+1) (pulC c).a=W2 at *
 (refine wpList_plain rfl (fun K9 hK9=>?_); go_simp; refine hK9 _ _ ?_; clear hK9)
 refine hK1 _ _ ?_;clear hK1;go_upto_region 2 with (fail);rename_i K1 hK1;refine wp_region_lit ?_;refine wpList_load_row rfl _ _ rfl (w.heap.size) rfl _ _ _ _ (B.ret 0 rfl) Tryz.underlying42 rfl Bq ?_;refine wpList_load_row rfl _ _ rfl (w.heap.size+1) rfl _ _ _ _ (B.ret 1 rfl) Tryz.underlying43 rfl Aw ?_;refine wpList_plain rfl (fun K9 hK9=>?_);go_simp;refine (Qf (pulC c) bank (K.keep (Ab B.below Aj) (fun _ _ _ x=>x))).mono ?_;rintro e W3 ⟨rfl,L⟩;replace B:=B.call L;clear L;refine hK9 _ _ ?_;clear hK9
 iterate 3 (refine wpList_plain rfl (fun K9 hK9=>?_); go_simp; refine hK9 _ _ ?_; clear hK9)
 refine wpList_store_row rfl _ _ _ rfl (w.heap.size+1) (pulC (pulC c)).a rfl rfl _ _ (B.ret 1 rfl) Aw rfl (A4.one _) ?_;replace B:=B.row 1 rfl (pulC (pulC c)).a;generalize W3.setRow (w.heap.size+1) (pulC (pulC c)).a=W4 at *
 (refine wpList_plain rfl (fun K9 hK9=>?_); go_simp; refine hK9 _ _ ?_; clear hK9)
 refine hK1 _ _ ?_;clear hK1;go_upto_region 3 with (fail);rename_i K1 hK1;refine wp_region_lit ?_
 iterate 2 (refine wpList_plain rfl (fun K9 hK9=>?_); go_simp; refine hK9 _ _ ?_; clear hK9)
 refine wpList_plain rfl (fun K9 hK9=>?_);go_simp;refine (Lb _ _ _).mono ?_;rintro e W5 ⟨rfl,rfl⟩;refine hK9 _ _ ?_;clear hK9
 (refine wpList_plain rfl (fun K9 hK9=>?_); go_simp; refine hK9 _ _ ?_; clear hK9)
 have fc:=As (B.ret 1 rfl);have c3:=B.get 1 rfl 3 (v:=.i c.Pc) rfl
 (refine wpList_plain rfl (fun K9 hK9=>?_); go_simp; refine hK9 _ _ ?_; clear hK9)
 clear fc c3;have B:=B.cell 1 rfl 3 (.i (De g c.S%256+256*(De g (pulC c).S%256))) (cs':=(Ks g c).a) rfl;refine hK1 _ _ ?_;clear hK1;go_upto_region 4 with (fail);rename_i K1 hK1;refine wp_region_lit ?_;refine wpList_load_row rfl _ _ rfl (w.heap.size+1) rfl _ _ _ _ (B.ret 1 rfl) Tryz.underlying43 rfl Aw ?_;refine wpList_store_row rfl _ _ _ rfl (w.heap.size+1+1) _ rfl rfl _ _ (B.ret 2 rfl) Aw rfl (A4.one _) ?_;refine hK1 _ _ ?_;clear hK1;go_wp2;refine bodyPost_ret (v:=.agg _) (results_cell_row (by rfl) _ _ (w.heap.size+1+1) _ _ _ _ rfl ((B.row 2 rfl _).ret 2 rfl) Tryz.underlying43 rfl Aw) rfl ?_;exact ⟨rfl,(B.row 2 rfl _).below⟩
set_option maxHeartbeats 16000000
set_option maxRecDepth 20000
theorem O0 {P:Program} {fn:Func} {p q:Tmp} {ty ty':TypeId} (h:fn.results=#[.cell p ty,.cell q ty']) (tmps:Array Value) (w:World) (g g':Nat) (t t':TypeId) (cs cs':Array Value) (fr fr':Nat × Nat) (dd dd':TypeDesc)
  (hp:tmps.getD p undef=(pt g 0)) (hq:tmps.getD q undef=(pt g' 0)) (hg:w.heap[g]?=some (.cells cs t fr)) (hg':w.heap[g']?=some (.cells cs' t' fr')) (hu:P.underlying ty=some dd) (hu':P.underlying ty'=some dd') (hd:(match dd with | .struct _ | .array _ _=>true | _=>false)=true) (hd':(match dd' with | .struct _ | .array _ _=>true | _=>false)=true) (hi:(P.info? ty).map (·.size)=some cs.size) (hi':(P.info? ty').map (·.size)=some cs'.size) :
  (results fn tmps).run P w=.ok (.tuple #[.agg cs,.agg cs']) w:=by
 have hp':tmps[p]?.getD undef=(pt g 0):=by simpa using hp
 have hq':tmps[q]?.getD undef=(pt g' 0):=by simpa using hq
 simp [results,h,hp',hq',asAddr,run_loadVar_row w g t ty cs fr dd hg hu hd hi,run_loadVar_row w g' t' ty' cs' fr' dd' hg' hu' hd' hi']
theorem Bw.int1 {W:World} {D:Nat→Prop} {u:Value} {n:Nat} {g:Nat→Int} {bank:Int} (h:Bw W D (.agg #[u,.i bank]) n g bank):Ints .i64 W (On D) u n g:=by
 obtain ⟨y,e,H⟩:=h.ints;simp only [Value.agg.injEq,Array.mk.injEq,List.cons.injEq,and_true] at e;rw [e];exact H
structure Mv (w:World) (D:Nat→Prop) (W:World) (l:Jbm) (q:Value) (g:Nat→Int) (bank:Int):Prop extends Fv w D W l where
 M:Bw W D (.agg #[q,.i bank]) 512 g bank
 lo:∀ b,D b→w.heap.size≤b
section
variable {w W W':World} {D:Nat→Prop} {l:Jbm} {i b:Nat} {cs:Array Value} {t:TypeId} {q:Value} {g g':Nat→Int} {bank:Int}
theorem Fv.own (h:Fv w D W l) (L:Below W.heap.size W W') (O:Am W' W.heap.size q 512 g):∃ D',Mv w D' W' l q g bank:=⟨_,h.re L,(Bw.own O).mono (fun _ hb h=>⟨h,hb⟩),fun _ hb=>Nat.le_trans h.below.size hb.1⟩
theorem Mv.call (h:Mv w D W l q g bank) (L:Below W.heap.size W W'):Mv w D W' l q g bank:=⟨h.toFv.call L,h.M.below L,h.lo⟩
theorem Mv.alloc (h:Mv w D W l q g bank) (cs:Array Value) (t:TypeId) (n:Nat) (e:W.heap.size=n):Mv w D (W.alloc (.cells cs t)) (l++[(n,cs,t)]) q g bank:=⟨h.toFv.alloc cs t n e,h.M.below ((Below.refl _ _).alloc (Nat.le_refl _) _),h.lo⟩
theorem Mv.row (h:Mv w D W l q g bank) (i:Nat) (e:l[i]?=some (b,cs,t)) (cs':Array Value):Mv w D (W.setRow b cs') (l.set i (b,cs',t)) q g bank:=⟨h.toFv.row i e cs',h.toFv.mem i e (Ce (h.ret i e) cs') h.M,h.lo⟩
theorem Mv.cell (h:Mv w D W l q g bank) (i:Nat) (e:l[i]?=some (b,cs,t)) (o:Nat) (v:Value) {cs':Array Value} (hc:cs.setIfInBounds o v=cs'):Mv w D (W.setCell ⟨b,o,none⟩ v) (l.set i (b,cs',t)) q g bank:=⟨h.toFv.cell i e o v hc,h.toFv.mem i e (Mt W b o v) h.M,h.lo⟩
theorem Mv.take (h:Mv w D W l q g bank) (n:Nat):Mv w D W (l.take n) q g bank:=⟨h.toFv.take n,h.M,h.lo⟩
theorem Mv.one (h:Mv w D W l q g bank):(#[q,.i bank]:Array Value).all (·.oneCell')=true:=by
 obtain ⟨a,c,e⟩:=h.M.two;simp only [Value.agg.injEq,Array.mk.injEq,List.cons.injEq,and_true] at e;subst e
 first | kernel_rfl | simp [Value.oneCell']
theorem Mv.ints (h:Mv w D W l q g bank):Ints .i64 W (On D) q 512 g:=h.M.int1
theorem Mv.fin {R:Nat→Nat→Prop} (h:Mv w D W l q g bank) (TT:Wrote R W W') (hR:∀ b o,R b o→∃ (i:Nat) (cs:Array Value) (t:TypeId),l[i]?=some (b,cs,t)):Am W' w.heap.size q 512 g∧Below w.heap.size w W':=by
 refine ⟨?_,h.below.trans (TT.below h.below.size fun b o hb hr=>?_)⟩
 ·obtain ⟨a,cap,e,hn,hr,hF,hd⟩:=h.M.keep TT (fun b o hd _ hr=>by obtain ⟨i,cs,t,e⟩:=hR b o hr; exact h.no i e hd)
  simp only [Value.agg.injEq,Array.mk.injEq,List.cons.injEq,and_true] at e;exact ⟨a,cap,e,hn,hr,hF,fun b o hf=>h.lo b (hd b o hf)⟩
 ·obtain ⟨i,cs,t,e⟩:=hR b o hr
  have:=(h.all _ (List.mem_of_getElem? e)).2.1
  omega
end
def Nz (c:A4):A4:={ c with S:=dec8 c.S }
theorem Tu (c:A4) (v:Int) {G:Nat→Nat→Prop} {u:Value} {g:Nat→Int} {bank:Int} {w:World} (K:Ints .i64 w G u 512 g):Calls Tryz.prog 110 #[.agg #[u,.i bank],.agg c.a,.i v] w fun e w'=>∃ q,e=.returned (.tuple #[.agg #[q,.i bank],.agg (Nz c).a])∧Am w' w.heap.size q 512 (B7 g c.S v)∧Below w.heap.size w w':=E4 w G u g bank K c.A c.X c.S c.Pc c.Z c.N c.C c.I v
def Jdi (c:A4) (v:Int):A4:={ c with Z:=hasB v 2,N:=hasB v 128,C:=hasB v 1,I:=hasB v 4 }
theorem Jbo (c:A4) (v:Int) (w:World):Calls Tryz.prog 130 #[.agg c.a,.i v] w fun e w'=>e=.returned (.agg (Jdi c v).a)∧Below w.heap.size w w':=No w c.A c.X c.S c.Pc c.Z c.N c.C c.I v
theorem Qg (w:World) (G:Nat→Nat→Prop) (u:Value) (g:Nat→Int) (bank:Int) (K:Ints .i64 w G u 512 g) (c:A4) (hPc:0≤c.Pc∧c.Pc≤65535) (op arg v:Int):Calls Tryz.prog 91 #[.agg #[u,.i bank],c.v,.agg #[.i op,.i arg],.i v] w fun e w'=>∃ q,e=.returned (.tuple #[.agg #[q,.i bank],(Dy g c op arg v).v])∧Am w' w.heap.size q 512 (Ew g c op)∧Below w.heap.size w w':=by
 have hl1:=Vf op
 have hwr:IntKind.i64.wrap (c.Pc+opLn op)=c.Pc+opLn op:=by rw [IntKind.wrap_i64]; omega
 have HLn:∀ W,Calls Tryz.prog 113 #[.i op] W fun e w'=>e=.returned (.i (opLn op))∧Below W.heap.size W w':=fun W=>Ob W op
 obtain ⟨ok,hok⟩:∃ x,Hid (x=Gv op):=⟨_,rfl⟩
 have HAlu:=Ad (fun W=>Xk (nextC c op) op arg v W);rw [← hok.out] at HAlu
 show Calls Tryz.prog 91 #[.agg #[u,.i bank],.agg c.a,.agg #[.i op,.i arg],.i v] w fun e w'=>∃ q,e=.returned (.tuple #[.agg #[q,.i bank],.agg (Dy g c op arg v).a])∧Am w' w.heap.size q 512 (Ew g c op)∧Below w.heap.size w w'
 have E:=(((((Fv.nil w).alloc #[u,.i bank] 42 w.heap.size rfl).alloc c.a 43 (w.heap.size+1) (by simp)).alloc #[.i op,.i arg] 109 (w.heap.size+1+1) (by simp)).alloc mZ 42 (w.heap.size+1+1+1) (by simp)).alloc cZ 43 (w.heap.size+1+1+1+1) (by simp)
 go_enter Tryz.func91,Tryz.ntmps91
 go_upto_region 1 with (fail);generalize ((((w.alloc (.cells #[u,.i bank] 42)).alloc (.cells c.a 43)).alloc (.cells #[.i op,.i arg] 109)).alloc (.cells mZ 42)).alloc (.cells cZ 43)=W0 at *;rename_i K1 hK1;refine wp_region_lit ?_;refine wpList_load_row rfl _ _ rfl (w.heap.size) rfl _ _ _ _ (E.ret 0 rfl) Tryz.underlying42 rfl Bq ?_;refine wpList_plain rfl (fun K9 hK9=>?_);go_simp;refine (Lo W0 G _ 512 g bank (K.keep (Ab E.below Aj) (fun _ _ _ x=>x))).mono ?_;rintro e W1 ⟨q,rfl,O,L⟩;obtain ⟨D,E⟩:=E.own (bank:=bank) L O;clear O L;refine hK9 _ _ ?_;clear hK9
 (refine wpList_plain rfl (fun K9 hK9=>?_); go_simp; refine hK9 _ _ ?_; clear hK9)
 replace E:=E.alloc mZ 42 _ rfl;generalize W1.heap.size=bo at *;generalize W1.alloc (.cells mZ 42)=W2 at *;refine wpList_store_row rfl _ _ _ rfl (bo) #[q,.i bank] rfl rfl _ _ (E.ret 5 rfl) Bq rfl E.one ?_;replace E:=E.row 5 rfl #[q,.i bank];generalize W2.setRow bo #[q,.i bank]=W3 at *;refine hK1 _ _ ?_;clear hK1;go_upto_region 2 with (fail);rename_i K1 hK1;have g0:=E.getG 1 rfl 3 (v:=.i c.Pc) rfl;have g1:=E.getG 2 rfl 0 (v:=.i op) rfl;refine A6 (n:=8) (by kernel_rfl) (by kernel_rfl) rfl ?_;simp only [List.take_succ_cons,List.take_zero,Act.put,List.setIfInBounds_toArray,List.set_cons_succ,List.set_cons_zero]
 iterate 8 (go_big_quiet_step (first | (go_at_call 113; exact Calls.regrown_of (HLn _)) | (go_at_call 115; exact Calls.regrown_of ((Cq _ _).mono fun e w' ⟨h1,h2⟩=>⟨h1,h2 ▸ Below.refl _ _⟩))))
 refine wpQuiet_nil ?_;intro w' hw';obtain ⟨⟨d,os⟩,rfl⟩:=hw';replace E:=E.call (below_regrown W3 d os);have fc:=As (E.ret 1 rfl);have c3:=E.get 1 rfl 3 (v:=.i c.Pc) rfl;clear g0 g1;generalize grow (redrawn W3 d) os=W4 at *;go_simp;replace E:=E.cell 1 rfl 3 (.i ((c.Pc+opLn op)%65536)) (cs':=(nextC c op).a) rfl;generalize W4.setCell ⟨w.heap.size+1,3,none⟩ (.i ((c.Pc+opLn op)%65536))=W5 at *;clear fc c3 hwr HLn;refine hK1 _ _ ?_;clear hK1;go_upto_region 3 with (fail);rename_i K1 hK1;refine wp_region_lit ?_;refine wpList_load_row rfl _ _ rfl (w.heap.size+1) rfl _ _ _ _ (E.ret 1 rfl) Tryz.underlying43 rfl Aw ?_;have c_i:=Ag (E.ret 2 rfl)
 iterate 2 (refine wpList_plain rfl (fun K9 hK9=>?_); go_simp; refine hK9 _ _ ?_; clear hK9)
 refine wpList_plain rfl (fun K9 hK9=>?_);go_simp;refine (HAlu.out _).mono ?_;rintro e W6 ⟨rfl,L⟩;replace E:=E.call L;clear L c_i;refine hK9 _ _ ?_;clear hK9
 iterate 4 (refine wpList_plain rfl (fun K9 hK9=>?_); go_simp; refine hK9 _ _ ?_; clear hK9)
 replace E:=E.alloc cZ 43 _ rfl;generalize W6.heap.size=bn at *;generalize W6.alloc (.cells cZ 43)=W7 at *;refine wpList_store_row rfl _ _ _ rfl (bn) (aluC (nextC c op) op arg v).a rfl rfl _ _ (E.ret 6 rfl) Aw rfl (A4.one _) ?_;replace E:=E.row 6 rfl (aluC (nextC c op) op arg v).a;generalize W7.setRow bn (aluC (nextC c op) op arg v).a=W8 at *
 (refine wpList_plain rfl (fun K9 hK9=>?_); go_simp; refine hK9 _ _ ?_; clear hK9)
 refine hK1 _ _ ?_;clear hK1;cases ok
 ·have ho:Gv op=false:=hok.out.symm
  clear hok HAlu;replace E:=E.take 6;have c_i:=Ag (E.ret 2 rfl)
  go_upto_block 0 with (fail)
  clear c_i
  go_cut [] (fun wc=>∃ D q,Mv w D wc [(w.heap.size,#[u,.i bank],42),(w.heap.size+1,(Dy g c op arg v).a,43),(w.heap.size+1+1,#[.i op,.i arg],109),(w.heap.size+1+1+1,mZ,42),(w.heap.size+1+1+1+1,cZ,43),(bo,#[q,.i bank],42)] q (Ew g c op) bank)
  case first =>
   have c_i:=Ag (E.ret 2 rfl);have f_c:=As (E.ret 1 rfl);have c0:=E.get 1 rfl 0 (v:=.i c.A) rfl;have c3:=E.get 1 rfl 3 (v:=.i (nextC c op).Pc) rfl;have c4:=E.get 1 rfl 4 (v:=.bool c.Z) rfl;have c6:=E.get 1 rfl 6 (v:=.bool c.C) rfl;have c7:=E.get 1 rfl 7 (v:=.bool c.I) rfl
   by_cases hj:op=16∧c.Z=false∨op=17∧c.Z=true∨op=18∧c.C=true∨op=19
   ·have E1:Dy g c op arg v={ nextC c op with Pc:=arg%65536 }∧Ew g c op=g:=by
     rcases hj with ⟨rfl,h⟩ | ⟨rfl,h⟩ | ⟨rfl,h⟩ | rfl <;> refine ⟨?_,rfl⟩ <;> first | rfl | (show (if _=true then _ else _)=_; rw [h]; rfl)
    rcases hj with ⟨rfl,h⟩ | ⟨rfl,h⟩ | ⟨rfl,h⟩ | rfl
    all_goals
     try rw [h] at c4
     try rw [h] at c6
     go_upto_region 12 with (fail);refine wp_region_lit ?_
     iterate 2 (refine wpList_plain rfl (fun K9 hK9=>?_); go_simp; refine hK9 _ _ ?_; clear hK9)
     refine wpList_plain rfl (fun K9 hK9=>?_);go_simp;refine (Cq arg _).mono ?_;rintro e W9 ⟨rfl,rfl⟩;refine hK9 _ _ ?_;clear hK9
     iterate 2 (refine wpList_plain rfl (fun K9 hK9=>?_); go_simp; refine hK9 _ _ ?_; clear hK9)
     go_wp2
     go_meet
     refine ⟨D,q,?_⟩;rw [E1.1,E1.2];exact E.cell 1 rfl 3 (.i (arg%65536)) rfl
   by_cases hs:op=16∧c.Z=true∨op=17∧c.Z=false∨op=18∧c.C=false
   ·have E1:Dy g c op arg v=nextC c op∧Ew g c op=g:=by
     rcases hs with ⟨rfl,h⟩ | ⟨rfl,h⟩ | ⟨rfl,h⟩ <;> refine ⟨?_,rfl⟩ <;> (show (if _=true then _ else _)=_; rw [h]; rfl)
    rcases hs with ⟨rfl,h⟩ | ⟨rfl,h⟩ | ⟨rfl,h⟩
    all_goals
     try rw [h] at c4
     try rw [h] at c6
     go_wp2
     go_meet
     refine ⟨D,q,?_⟩;rw [E1.1,E1.2];exact E
   by_cases h20:op=20
   ·subst h20
    go_upto_region 14 with (fail);rename_i K1 hK1;refine wp_region_lit ?_;refine wpList_load_row rfl _ _ rfl (bo) rfl _ _ _ _ (E.ret 5 rfl) Tryz.underlying42 rfl Bq ?_;refine wpList_load_row rfl _ _ rfl (w.heap.size+1) rfl _ _ _ _ (E.ret 1 rfl) Tryz.underlying43 rfl Aw ?_
    (refine wpList_plain rfl (fun K9 hK9=>?_); go_simp; refine hK9 _ _ ?_; clear hK9)
    iterate 2 (refine wpList_plain rfl (fun K9 hK9=>?_); go_simp; refine hK9 _ _ ?_; clear hK9)
    refine wpList_plain rfl (fun K9 hK9=>?_);go_simp;refine (Tu (nextC c 20) _ E.ints).mono ?_;rintro e W9 ⟨q1,rfl,O,L⟩;obtain ⟨D,E⟩:=E.toFv.own (bank:=bank) L O;clear O L;refine hK9 _ _ ?_;clear hK9
    iterate 3 (refine wpList_plain rfl (fun K9 hK9=>?_); go_simp; refine hK9 _ _ ?_; clear hK9)
    refine wpList_store_row rfl _ _ _ rfl (bo) #[q1,.i bank] rfl rfl _ _ (E.ret 5 rfl) Bq rfl E.one ?_;replace E:=E.row 5 rfl #[q1,.i bank];refine wpList_store_row rfl _ _ _ rfl (w.heap.size+1) (Nz (nextC c 20)).a rfl rfl _ _ (E.ret 1 rfl) Aw rfl (A4.one _) ?_;replace E:=E.row 1 rfl (Nz (nextC c 20)).a;refine hK1 _ _ ?_;clear hK1;have c3:=E.get 1 rfl 3 (v:=.i (nextC c 20).Pc) rfl;go_upto_region 15 with (fail);rename_i K1 hK1;refine wp_region_lit ?_;refine wpList_load_row rfl _ _ rfl (bo) rfl _ _ _ _ (E.ret 5 rfl) Tryz.underlying42 rfl Bq ?_;refine wpList_load_row rfl _ _ rfl (w.heap.size+1) rfl _ _ _ _ (E.ret 1 rfl) Tryz.underlying43 rfl Aw ?_
    (refine wpList_plain rfl (fun K9 hK9=>?_); go_simp; refine hK9 _ _ ?_; clear hK9)
    (refine wpList_plain rfl (fun K9 hK9=>?_); go_simp; refine hK9 _ _ ?_; clear hK9)
    refine wpList_plain rfl (fun K9 hK9=>?_);go_simp;refine (Tu (Nz (nextC c 20)) _ E.ints).mono ?_;rintro e W10 ⟨q2,rfl,O,L⟩;obtain ⟨D,E⟩:=E.toFv.own (bank:=bank) L O;clear O L;refine hK9 _ _ ?_;clear hK9
    iterate 3 (refine wpList_plain rfl (fun K9 hK9=>?_); go_simp; refine hK9 _ _ ?_; clear hK9)
    refine wpList_store_row rfl _ _ _ rfl (bo) #[q2,.i bank] rfl rfl _ _ (E.ret 5 rfl) Bq rfl E.one ?_;replace E:=E.row 5 rfl #[q2,.i bank];refine wpList_store_row rfl _ _ _ rfl (w.heap.size+1) (Nz (Nz (nextC c 20))).a rfl rfl _ _ (E.ret 1 rfl) Aw rfl (A4.one _) ?_;replace E:=E.row 1 rfl (Nz (Nz (nextC c 20))).a;refine hK1 _ _ ?_;clear hK1;have c3:=E.get 1 rfl 3 (v:=.i (nextC c 20).Pc) rfl;have c_i:=Ag (E.ret 2 rfl);have f_c:=As (E.ret 1 rfl);go_upto_region 16 with (fail);refine wp_region_lit ?_
    iterate 2 (refine wpList_plain rfl (fun K9 hK9=>?_); go_simp; refine hK9 _ _ ?_; clear hK9)
    refine wpList_plain rfl (fun K9 hK9=>?_);go_simp;refine (Cq arg _).mono ?_;rintro e W9 ⟨rfl,rfl⟩;refine hK9 _ _ ?_;clear hK9
    iterate 2 (refine wpList_plain rfl (fun K9 hK9=>?_); go_simp; refine hK9 _ _ ?_; clear hK9)
    go_wp2
    go_meet
    exact ⟨_,_,E.cell 1 rfl 3 (.i (arg%65536)) rfl⟩
   by_cases h21:op=21
   ·subst h21
    go_upto_region 18 with (fail);refine wp_region_lit ?_;refine wpList_load_row rfl _ _ rfl (w.heap.size) rfl _ _ _ _ (E.ret 0 rfl) Tryz.underlying42 rfl Bq ?_;refine wpList_load_row rfl _ _ rfl (w.heap.size+1) rfl _ _ _ _ (E.ret 1 rfl) Tryz.underlying43 rfl Aw ?_;refine wpList_plain rfl (fun K9 hK9=>?_);go_simp;refine (Mu (nextC c 21) bank (K.keep (Ab E.below Aj) (fun _ _ _ x=>x))).mono ?_;rintro e W9 ⟨rfl,L⟩;replace E:=E.call L;refine hK9 _ _ ?_;clear hK9;refine wpList_store_row rfl _ _ _ rfl (w.heap.size+1) (Ks g (nextC c 21)).a rfl rfl _ _ (E.ret 1 rfl) Aw rfl (A4.one _) ?_;replace E:=E.row 1 rfl (Ks g (nextC c 21)).a;go_wp2
    go_meet
    exact ⟨_,_,E⟩
   by_cases h22:op=22
   ·subst h22
    go_upto_region 20 with (fail);refine wp_region_lit ?_;refine wpList_load_row rfl _ _ rfl (bo) rfl _ _ _ _ (E.ret 5 rfl) Tryz.underlying42 rfl Bq ?_;refine wpList_load_row rfl _ _ rfl (w.heap.size+1) rfl _ _ _ _ (E.ret 1 rfl) Tryz.underlying43 rfl Aw ?_
    (refine wpList_plain rfl (fun K9 hK9=>?_); go_simp; refine hK9 _ _ ?_; clear hK9)
    (refine wpList_plain rfl (fun K9 hK9=>?_); go_simp; refine hK9 _ _ ?_; clear hK9)
    refine wpList_plain rfl (fun K9 hK9=>?_);go_simp;refine (Tu (nextC c 22) _ E.ints).mono ?_;rintro e W9 ⟨q1,rfl,O,L⟩;obtain ⟨D,E⟩:=E.toFv.own (bank:=bank) L O;clear O L;refine hK9 _ _ ?_;clear hK9
    iterate 3 (refine wpList_plain rfl (fun K9 hK9=>?_); go_simp; refine hK9 _ _ ?_; clear hK9)
    refine wpList_store_row rfl _ _ _ rfl (bo) #[q1,.i bank] rfl rfl _ _ (E.ret 5 rfl) Bq rfl E.one ?_;replace E:=E.row 5 rfl #[q1,.i bank];refine wpList_store_row rfl _ _ _ rfl (w.heap.size+1) (Nz (nextC c 22)).a rfl rfl _ _ (E.ret 1 rfl) Aw rfl (A4.one _) ?_;replace E:=E.row 1 rfl (Nz (nextC c 22)).a;go_wp2
    go_meet
    exact ⟨_,_,E⟩
   by_cases h23:op=23
   ·subst h23
    go_upto_region 22 with (fail);rename_i K1 hK1;refine wp_region_lit ?_;refine wpList_load_row rfl _ _ rfl (w.heap.size) rfl _ _ _ _ (E.ret 0 rfl) Tryz.underlying42 rfl Bq ?_;refine wpList_load_row rfl _ _ rfl (w.heap.size+1) rfl _ _ _ _ (E.ret 1 rfl) Tryz.underlying43 rfl Aw ?_;refine wpList_plain rfl (fun K9 hK9=>?_);go_simp;refine (Qf (nextC c 23) bank (K.keep (Ab E.below Aj) (fun _ _ _ x=>x))).mono ?_;rintro e W9 ⟨rfl,L⟩;replace E:=E.call L;refine hK9 _ _ ?_;clear hK9
    iterate 4 (refine wpList_plain rfl (fun K9 hK9=>?_); go_simp; refine hK9 _ _ ?_; clear hK9)
    replace E:=E.alloc cZ 43 _ rfl;generalize W9.heap.size=bu at *;generalize W9.alloc (.cells cZ 43)=W10 at *;refine wpList_store_row rfl _ _ _ rfl (bu) (pulC (nextC c 23)).a rfl rfl _ _ (E.ret 6 rfl) Aw rfl (A4.one _) ?_;replace E:=E.row 6 rfl (pulC (nextC c 23)).a;generalize W10.setRow bu (pulC (nextC c 23)).a=W11 at *
    (refine wpList_plain rfl (fun K9 hK9=>?_); go_simp; refine hK9 _ _ ?_; clear hK9)
    refine hK1 _ _ ?_;clear hK1;go_upto_region 23 with (fail);refine wp_region_lit ?_;refine wpList_load_row rfl _ _ rfl (bu) rfl _ _ _ _ (E.ret 6 rfl) Tryz.underlying43 rfl Aw ?_
    (refine wpList_plain rfl (fun K9 hK9=>?_); go_simp; refine hK9 _ _ ?_; clear hK9)
    refine wpList_plain rfl (fun K9 hK9=>?_);go_simp;refine (Ii (pulC (nextC c 23)) _ _).mono ?_;rintro e W12 ⟨rfl,L⟩;replace E:=E.call L;refine hK9 _ _ ?_;clear hK9;refine wpList_store_row rfl _ _ _ rfl (w.heap.size+1) (setAc (pulC (nextC c 23)) (De g c.S)).a rfl rfl _ _ (E.ret 1 rfl) Aw rfl (A4.one _) ?_;replace E:=E.row 1 rfl (setAc (pulC (nextC c 23)) (De g c.S)).a;go_wp2
    go_meet
    exact ⟨_,_,E.take 6⟩
   by_cases h24:op=24
   ·subst h24
    go_upto_region 25 with (fail);rename_i K1 hK1;refine wp_region_lit ?_;refine wpList_load_row rfl _ _ rfl (w.heap.size) rfl _ _ _ _ (E.ret 0 rfl) Tryz.underlying42 rfl Bq ?_;refine wpList_load_row rfl _ _ rfl (w.heap.size+1) rfl _ _ _ _ (E.ret 1 rfl) Tryz.underlying43 rfl Aw ?_;refine wpList_plain rfl (fun K9 hK9=>?_);go_simp;refine (Qf (nextC c 24) bank (K.keep (Ab E.below Aj) (fun _ _ _ x=>x))).mono ?_;rintro e W9 ⟨rfl,L⟩;replace E:=E.call L;refine hK9 _ _ ?_;clear hK9
    iterate 4 (refine wpList_plain rfl (fun K9 hK9=>?_); go_simp; refine hK9 _ _ ?_; clear hK9)
    replace E:=E.alloc cZ 43 _ rfl;generalize W9.heap.size=bu at *;generalize W9.alloc (.cells cZ 43)=W10 at *;refine wpList_store_row rfl _ _ _ rfl (bu) (pulC (nextC c 24)).a rfl rfl _ _ (E.ret 6 rfl) Aw rfl (A4.one _) ?_;replace E:=E.row 6 rfl (pulC (nextC c 24)).a;generalize W10.setRow bu (pulC (nextC c 24)).a=W11 at *
    (refine wpList_plain rfl (fun K9 hK9=>?_); go_simp; refine hK9 _ _ ?_; clear hK9)
    refine hK1 _ _ ?_;clear hK1;go_upto_region 26 with (fail);refine A6 (n:=5) (by kernel_rfl) (by kernel_rfl) rfl ?_;simp only [List.take_succ_cons,List.take_zero,Act.put,List.setIfInBounds_toArray,List.set_cons_succ,List.set_cons_zero];refine Bp _ _ rfl rfl w.heap.size 0 rfl _ _ #[u,.i bank] _ _ (E.ret 0 rfl) (fun j v h=>by rw [Nat.zero_add]; exact h) Tryz.underlying42 rfl Bq ?_;refine Bp _ _ rfl rfl bu 0 rfl _ _ (pulC (nextC c 24)).a _ _ (E.ret 6 rfl) (fun j v h=>by rw [Nat.zero_add]; exact h) Tryz.underlying43 rfl Aw ?_;simp only [Act.put,List.setIfInBounds_toArray,List.set_cons_succ,List.set_cons_zero]
    go_big_quiet_step (fail)
    go_big_quiet_step ((go_at_call 130; exact Calls.regrown_of (Jbo (pulC (nextC c 24)) _ _)))
    go_big_quiet_step ((go_at_call 127; exact Calls.regrown_of (Mu (Jdi (pulC (nextC c 24)) (De g c.S)) bank (K.keep (Ab (E.call (below_regrown _ _ _)).below Aj) (fun _ _ _ x=>x)))))
    refine wpQuiet_nil ?_;intro w' hw';obtain ⟨⟨d,os⟩,rfl⟩:=hw';replace E:=E.call (below_regrown W11 d os);refine wp_store_row _ _ _ rfl (w.heap.size+1) _ rfl rfl _ _ (E.ret 1 rfl) Aw rfl (A4.one _) ?_;go_wp2
    go_meet
    exact ⟨_,_,(E.row 1 rfl _).take 6⟩
   by_cases h25:op=25∨op=26
   ·rcases h25 with rfl | rfl
    all_goals
     go_upto_region 29 with (fail);refine wp_region_lit ?_
     iterate 5 (refine wpList_plain rfl (fun K9 hK9=>?_); go_simp; refine hK9 _ _ ?_; clear hK9)
     go_wp2
     go_meet
     exact ⟨_,_,E.cell 1 rfl 7 _ rfl⟩
   by_cases h27:op=27∨op=28
   ·rcases h27 with rfl | rfl
    all_goals
     go_upto_region 32 with (fail);refine wp_region_lit ?_
     iterate 5 (refine wpList_plain rfl (fun K9 hK9=>?_); go_simp; refine hK9 _ _ ?_; clear hK9)
     go_wp2
     go_meet
     exact ⟨_,_,E.cell 1 rfl 6 _ rfl⟩
   have n19:¬ op=19:=fun h=>hj (.inr (.inr (.inr h)))
   have n18:¬ op=18:=fun h=>by cases hz:c.C <;> simp [h,hz] at hj hs
   have n17:¬ op=17:=fun h=>by cases hz:c.Z <;> simp [h,hz] at hj hs
   have n16:¬ op=16:=fun h=>by cases hz:c.Z <;> simp [h,hz] at hj hs
   have n25:¬ op=25:=fun h=>h25 (.inl h)
   have n26:¬ op=26:=fun h=>h25 (.inr h)
   have n27:¬ op=27:=fun h=>h27 (.inl h)
   have n28:¬ op=28:=fun h=>h27 (.inr h)
   have E1:Dy g c op arg v=nextC c op:=by
    unfold Dy;rw [if_neg (by rw [ho]; decide)]
    repeat rw [if_neg (by assumption)]
   have E2:Ew g c op=g:=by
    unfold Ew;rw [if_neg h20,if_neg h22]
   have e16:=beq_eq_false_iff_ne.2 n16;have e17:=beq_eq_false_iff_ne.2 n17;have e18:=beq_eq_false_iff_ne.2 n18;have e19:=beq_eq_false_iff_ne.2 n19;have e20:=beq_eq_false_iff_ne.2 h20;have e21:=beq_eq_false_iff_ne.2 h21;have e22:=beq_eq_false_iff_ne.2 h22;have e23:=beq_eq_false_iff_ne.2 h23;have e24:=beq_eq_false_iff_ne.2 h24;have e25:=beq_eq_false_iff_ne.2 n25;have e26:=beq_eq_false_iff_ne.2 n26;have e27:=beq_eq_false_iff_ne.2 n27;have e28:=beq_eq_false_iff_ne.2 n28;clear hj hs h20 h21 h22 h23 h24 h25 h27 n16 n17 n18 n19 n25 n26 n27 n28;go_wp2
   go_meet
   refine ⟨D,q,?_⟩;rw [E1,E2];exact E
  case rest =>
   obtain ⟨D,q,E⟩:=hcut;go_upto_region 33 with (fail);rename_i K1 hK1
   refine A8 [some 155,some 156,none,none] (by kernel_rfl) (by kernel_rfl) (by kernel_rfl) (by kernel_rfl) (by first | (simp [slotsOf]; done) | (simp [slotsOf,Act.put]; done))
     (fun j b _=>(j=2∧b=w.heap.size+1+1+1)∨(j=3∧b=w.heap.size+1+1+1+1))
     (fun i y W=>match i with
      | 0=>y=.agg #[q,.i bank]
      | 1=>y=.agg (Dy g c op arg v).a
      | 2=>W.heap[w.heap.size+1+1+1]?=some (.cells #[q,.i bank] 42 (0,0))
      | _=>W.heap[w.heap.size+1+1+1+1]?=some (.cells (Dy g c op arg v).a 43 (0,0))) ?_ ?_ ?_
   ·intro i j o y W W' hij ho _ hW h
    match i,ho,h with
    | 0,_,h=>exact h
    | 1,_,h=>exact h
    | 2,_,h=>exact Ah h hW (fun o e=>by omega)
    | 3,_,h=>exact Ah h hW (fun o e=>by omega)
    | _+4,ho,_=>simp at ho
   ·intro i o a' W K ho F L hw hK
    have n1:=E.far 5 3 rfl rfl (by decide);have n2:=E.far 5 4 rfl rfl (by decide);have n3:=E.far 1 3 rfl rfl (by decide);have n4:=E.far 1 4 rfl rfl (by decide)
    rcases i with _ | _ | _ | _ | i <;> simp only [List.getElem?_toArray,List.getElem?_cons_zero,List.getElem?_cons_succ,List.getElem?_nil,Option.some.injEq,reduceCtorEq] at ho <;> subst ho
    ·exact wp_load_row _ _ rfl bo (by simpa [Act.eval] using F.get (t:=10) (v:=(pt bo 0)) (by decide) rfl) _ _ _ _ (Ah (E.ret 5 rfl) L (fun o ⟨j,oj,hj,hoj,hwj,e⟩=>by omega)) Tryz.underlying42 rfl Bq (Hk hK rfl)
    ·exact wp_load_row _ _ rfl (w.heap.size+1) (by simpa [Act.eval] using F.get (t:=5) (v:=(pt (w.heap.size+1) 0)) (by decide) rfl) _ _ _ _ (Ah (E.ret 1 rfl) L (fun o ⟨j,oj,hj,hoj,hwj,e⟩=>by omega)) Tryz.underlying43 rfl Aw (Hk hK rfl)
    ·have rB:=Ah (E.ret 3 rfl) L (fun o ⟨j,oj,hj,hoj,hwj,e⟩=>by omega)
     exact wp_store_row _ _ _ rfl (w.heap.size+1+1+1) #[q,.i bank] (by simpa [Act.eval] using F.get (t:=8) (v:=(pt (w.heap.size+1+1+1) 0)) (by decide) rfl) (by simpa [Act.eval] using (show a'.tmps[155]?.getD undef=.agg #[q,.i bank] from Hr hw 0)) _ _ rB Bq rfl E.one (hK undef _ ((Ce rB _).mono (fun b o _ h=>Or.inl ⟨rfl,h⟩)) (setRow_heap _ _ _ _ _ _ rB))
    ·have rB:=Ah (E.ret 4 rfl) L (fun o ⟨j,oj,hj,hoj,hwj,e⟩=>by omega)
     exact wp_store_row _ _ _ rfl (w.heap.size+1+1+1+1) (Dy g c op arg v).a (by simpa [Act.eval] using F.get (t:=9) (v:=(pt (w.heap.size+1+1+1+1) 0)) (by decide) rfl) (by simpa [Act.eval] using (show a'.tmps[156]?.getD undef=.agg (Dy g c op arg v).a from Hr hw 1)) _ _ rB Aw rfl (A4.one _) (hK undef _ ((Ce rB _).mono (fun b o _ h=>Or.inr ⟨rfl,h⟩)) (setRow_heap _ _ _ _ _ _ rB))
   ·intro a' W F L hφ
    have r1:W.heap[w.heap.size+1+1+1]?=_:=Hd hφ 2;have r2:W.heap[w.heap.size+1+1+1+1]?=_:=Hd hφ 3;have p0:a'.tmps[155]?.getD undef=_:=Hd hφ 0;have p1:a'.tmps[156]?.getD undef=_:=Hd hφ 1
    have Z:=E.fin L (fun b o ⟨j,e⟩=>by
     rcases e with ⟨_,rfl⟩ | ⟨_,rfl⟩
     ·exact ⟨3,_,_,rfl⟩
     ·exact ⟨4,_,_,rfl⟩)
    rw [F.same,show slotsOf [some 155,some 156,none,none]=[155,156] from rfl];simp only [List.foldl_cons,List.foldl_nil];rw [p0,p1];clear hφ L F p0 p1 E;refine hK1 _ _ ?_;go_simp;go_wp2;refine bodyPost_ret (v:=.tuple #[.agg _,.agg _]) (O0 Tryz.results91 _ _ (w.heap.size+1+1+1) (w.heap.size+1+1+1+1) _ _ _ _ _ _ _ _ rfl rfl r1 r2 Tryz.underlying42 Tryz.underlying43 rfl rfl Bq Aw) rfl ?_;exact ⟨_,rfl,Z⟩
 ·have ha:Gv op=true:=hok.out.symm
  clear hok HAlu;obtain ⟨n1,n2⟩:=Zk ha
  have E1:Dy g c op arg v=aluC (nextC c op) op arg v:=by
   unfold Dy;rw [if_pos ha]
  have E2:Ew g c op=g:=by
   unfold Ew;rw [if_neg n1,if_neg n2]
  clear n1 n2 ha;go_upto_region 5 with (fail);rename_i K1 hK1
  refine A8 [some 35,some 36,none,none] (by kernel_rfl) (by kernel_rfl) (by kernel_rfl) (by kernel_rfl) (by first | (simp [slotsOf]; done) | (simp [slotsOf,Act.put]; done))
    (fun j b _=>(j=2∧b=w.heap.size+1+1+1)∨(j=3∧b=w.heap.size+1+1+1+1))
    (fun i y W=>match i with
     | 0=>y=.agg #[q,.i bank]
     | 1=>y=.agg (aluC (nextC c op) op arg v).a
     | 2=>W.heap[w.heap.size+1+1+1]?=some (.cells #[q,.i bank] 42 (0,0))
     | _=>W.heap[w.heap.size+1+1+1+1]?=some (.cells (aluC (nextC c op) op arg v).a 43 (0,0))) ?_ ?_ ?_
  ·intro i j o y W W' hij ho _ hW h
   match i,ho,h with
   | 0,_,h=>exact h
   | 1,_,h=>exact h
   | 2,_,h=>exact Ah h hW (fun o e=>by omega)
   | 3,_,h=>exact Ah h hW (fun o e=>by omega)
   | _+4,ho,_=>simp at ho
  ·intro i o a' W K ho F L hw hK
   have n1:=E.far 5 3 rfl rfl (by decide);have n2:=E.far 5 4 rfl rfl (by decide);have n3:=E.far 6 3 rfl rfl (by decide);have n4:=E.far 6 4 rfl rfl (by decide)
   rcases i with _ | _ | _ | _ | i <;> simp only [List.getElem?_toArray,List.getElem?_cons_zero,List.getElem?_cons_succ,List.getElem?_nil,Option.some.injEq,reduceCtorEq] at ho <;> subst ho
   ·exact wp_load_row _ _ rfl bo (by simpa [Act.eval] using F.get (t:=10) (v:=(pt bo 0)) (by decide) rfl) _ _ _ _ (Ah (E.ret 5 rfl) L (fun o ⟨j,oj,hj,hoj,hwj,e⟩=>by omega)) Tryz.underlying42 rfl Bq (Hk hK rfl)
   ·exact wp_load_row _ _ rfl (bn) (by simpa [Act.eval] using F.get (t:=11) (v:=(pt bn 0)) (by decide) rfl) _ _ _ _ (Ah (E.ret 6 rfl) L (fun o ⟨j,oj,hj,hoj,hwj,e⟩=>by omega)) Tryz.underlying43 rfl Aw (Hk hK rfl)
   ·have rB:=Ah (E.ret 3 rfl) L (fun o ⟨j,oj,hj,hoj,hwj,e⟩=>by omega)
    exact wp_store_row _ _ _ rfl (w.heap.size+1+1+1) #[q,.i bank] (by simpa [Act.eval] using F.get (t:=8) (v:=(pt (w.heap.size+1+1+1) 0)) (by decide) rfl) (by simpa [Act.eval] using (show a'.tmps[35]?.getD undef=.agg #[q,.i bank] from Hr hw 0)) _ _ rB Bq rfl E.one (hK undef _ ((Ce rB _).mono (fun b o _ h=>Or.inl ⟨rfl,h⟩)) (setRow_heap _ _ _ _ _ _ rB))
   ·have rB:=Ah (E.ret 4 rfl) L (fun o ⟨j,oj,hj,hoj,hwj,e⟩=>by omega)
    exact wp_store_row _ _ _ rfl (w.heap.size+1+1+1+1) (aluC (nextC c op) op arg v).a (by simpa [Act.eval] using F.get (t:=9) (v:=(pt (w.heap.size+1+1+1+1) 0)) (by decide) rfl) (by simpa [Act.eval] using (show a'.tmps[36]?.getD undef=.agg (aluC (nextC c op) op arg v).a from Hr hw 1)) _ _ rB Aw rfl (A4.one _) (hK undef _ ((Ce rB _).mono (fun b o _ h=>Or.inr ⟨rfl,h⟩)) (setRow_heap _ _ _ _ _ _ rB))
  ·intro a' W F L hφ
   have r1:W.heap[w.heap.size+1+1+1]?=_:=Hd hφ 2;have r2:W.heap[w.heap.size+1+1+1+1]?=_:=Hd hφ 3;have p0:a'.tmps[35]?.getD undef=_:=Hd hφ 0;have p1:a'.tmps[36]?.getD undef=_:=Hd hφ 1
   have Z:=E.fin L (fun b o ⟨j,e⟩=>by
    rcases e with ⟨_,rfl⟩ | ⟨_,rfl⟩
    ·exact ⟨3,_,_,rfl⟩
    ·exact ⟨4,_,_,rfl⟩)
   rw [F.same,show slotsOf [some 35,some 36,none,none]=[35,36] from rfl];simp only [List.foldl_cons,List.foldl_nil];rw [p0,p1];clear hφ L F p0 p1 E;refine hK1 _ _ ?_;go_simp;go_wp2;refine bodyPost_ret (v:=.tuple #[.agg _,.agg _]) (O0 Tryz.results91 _ _ (w.heap.size+1+1+1) (w.heap.size+1+1+1+1) _ _ _ _ _ _ _ _ rfl rfl r1 r2 Tryz.underlying42 Tryz.underlying43 rfl rfl Bq Aw) rfl ?_;exact ⟨_,by rw [E1],E2 ▸ Z⟩
end Go.Proofs.YtgcmimcalmjaaaaGreatDoor
