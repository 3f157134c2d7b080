import Derived.Test.YtijljlnooibbmaaGreatDoorYB
import Derived.Test.YtijljlnooibbmaaGreatDoorSI
namespace Go.Proofs.YtijljlnooibbmaaGreatDoor
set_option maxHeartbeats 8000000
set_option maxRecDepth 40000
open Go.Proofs.Tryz
set_option linter.unusedVariables false
set_option linter.unusedSimpArgs false
open Go.ChangeShapes Go.WideShapes Go.ChangeAt Go.RowKit Go.Sort
section
variable {W:World} {N:Nat} {cs:Array Value} {d:Aq}
theorem Wg.cells (h:Wg W N (.agg cs) d):cs[12]?=some (.i d.t)/\cs[11]?=some (.bool d.I)/\cs[7]?=some (.i d.Pc)/\cs[26]?=some (.bool d.R)/\cs[29]?=some (.bool d.nmi)/\cs[30]?=some (.i d.st):=by
 obtain ⟨h0,E,⟨u0,u1,u2,u3,u4,u5,u6,u7,e,-⟩,-⟩:=h;obtain rfl:=Value.agg.inj e;exact ⟨rfl,rfl,rfl,rfl,rfl,rfl⟩
theorem Wg.ram (h:Wg W N (.agg cs) d):∃ a c,cs[2]?=some (.slice a d.nr c):=by
 obtain ⟨h0,E,⟨u0,u1,u2,u3,u4,u5,u6,u7,e,-,-,h2,-⟩,-⟩:=h;obtain rfl:=Value.agg.inj e;obtain ⟨a,c,rfl,-⟩:=h2.ints17;exact ⟨a,c,rfl⟩
theorem Wg.fetch (h:Wg W N (.agg cs) d) (T:Da W):∃ u0 u2,(∀ j v,(#[u0]:Array Value)[j]?=some v->cs[0+j]?=some v)/\(∀ j v,(#[u2,.i d.bank]:Array Value)[j]?=some v->cs[2+j]?=some v) /\
  Calls prog 12 #[.agg #[u0],.agg #[u2,.i d.bank],.i d.Pc] W fun e w'=>e=.returned (.agg #[.i (opO d),.i (opA d)])/\Below W.heap.size W w':=by
 obtain ⟨h0,E,⟨u0,u1,u2,u3,u4,u5,u6,u7,e,k0,-,k2,-⟩,-⟩:=h;obtain rfl:=Value.agg.inj e;obtain ⟨a,c,rfl,j2⟩:=k2.ints17;refine ⟨u0,_,fun j v hv=>?_,fun j v hv=>?_,Qu W _ _ u0 _ d.m d.ln d.f d.nr d.g d.bank d.Pc k0.ints j2 T⟩
 .rcases j with _ | j
  .simpa using hv
  .simp at hv
 .rcases j with _ | _ | j
  .simpa using hv
  .simpa using hv
  .simp at hv
end
section
variable {P:Program} {ops:Array Oper} {w:World} {Q:Act->Prop} {a:Act} {o:Oper} {rest:List Oper}
theorem Dt (hwt:Region.wanted o (yielded ops a.tmps)=true) (ty:TypeId) (x:Operand) (ho:o.op=.load ty x) (g:Nat) (hx:a.eval x=(pt g 0)) (t:TypeId) (cs:Array Value) (fr:Nat × Nat) (d:TypeDesc)
  (hg:w.heap[g]?=some (.cells cs t fr)) (hu:P.underlying ty=some d) (hd:(match d with | .struct _ | .array _ _=>true | _=>false)=true) (hi:(P.info? ty).map (·.size)=some cs.size)
  (h:wpQuiet P ops (fun w'=>∃ p:Regrown,w'=grow (redrawn w p.d) p.os) Q rest (a.put o.dst (.agg cs))):wpQuiet P ops (fun w'=>∃ p:Regrown,w'=grow (redrawn w p.d) p.os) Q (o :: rest) a:=by
 unfold wpQuiet;rw [if_pos hwt];refine ⟨.agg cs,fun w' hw'=>?_,h⟩;obtain ⟨p,rfl⟩:=hw'
 have hg':(grow (redrawn w p.d) p.os).heap[g]?=some (.cells cs t fr):=by
  rw [(below_regrown w p.d p.os).block g (Array.getElem?_eq_some_iff.1 hg).1]; exact hg
 unfold Oper.quietAt execOp;simp only [ho,hx,Instr.loadAt,Instr.sureAddr,Sem.run_bind,Sem.run_pure,Result.andThen_ok,run_loadVar_row _ g t ty cs fr d hg' hu hd hi];exact ⟨rfl,rfl⟩
theorem Di (hwt:Region.wanted o (yielded ops a.tmps)=true) (f:FuncId) (args:Array Value) (v:Value) (hrun:∀ W,(execOp a.eval o).run P W=.ok (.enter f args) W) (hc:∀ W,Below w.heap.size w W->Calls P f args W fun e w'=>e=.returned v/\Below W.heap.size W w')
  (h:wpQuiet P ops (fun w'=>∃ p:Regrown,w'=grow (redrawn w p.d) p.os) Q rest (a.put o.dst v)):wpQuiet P ops (fun w'=>∃ p:Regrown,w'=grow (redrawn w p.d) p.os) Q (o :: rest) a:=by
 unfold wpQuiet;rw [if_pos hwt];refine ⟨v,fun w' hw'=>?_,h⟩;obtain ⟨p,rfl⟩:=hw';unfold Oper.quietAt;rw [hrun];exact ⟨rfl,(hc _ (below_regrown w p.d p.os)).regrown_of⟩
end
section
variable {P:Program} {ops:Array Oper} {rest:List Oper} {o:Oper} {a:Act} {w:World} {Q:Exit->Act->World->Prop}
theorem Ga (hw:Region.wanted o (yielded ops a.tmps)=true) (f:FuncId) (args:Array Value) (hrun:(execOp a.eval o).run P w=.ok (.enter f args) w) {R:Ending->World->Prop} (hc:Calls P f args w R)
  (h:∀ e w',R e w'->∃ v,e=.returned v/\wpList P ops Q rest (a.put o.dst v) w'):wpList P ops Q (o :: rest) a w :=
 wpList_step fun K hK=>by
  rw [if_pos hw];unfold Oper.wp;rw [hrun,Oper.upon_enter]
  refine hc.mono fun e w' hh=>?_
  obtain ⟨v,rfl,h'⟩:=h e w' hh;exact hK _ _ h'
end
theorem Qj (w:World) (B:Nat) (a:Option Addr) (len cap:Nat) (hB:B<=w.heap.size) (H:Code w B a len) :
  Calls prog 5 #[.slice a len cap] w fun e w'=>∃ (v:Value) (E:Nat->Nat->Prop) (d:Aq),e=.returned v/\Aw w' E v d/\(∀ i b,E i b->w.heap.size<=b/\b<w'.heap.size)/\Dq 801 d/\Below w.heap.size w w':=by
 have B0:=(E4.nil w).alloc zR 41 w.heap.size rfl
 go_enter func5,ntmps5
 go_upto_region 1 with (fail)
 obtain ⟨W0,hW0⟩:∃ W,Hid (W=w.alloc (.cells zR 41)):=⟨_,rfl⟩
 have hz0:W0.heap.size=w.heap.size+1:=by rw [hW0.out]; simp
 rw [<- hW0.out] at B0 ⊢;generalize hrs:(zR:Array Value)=rs at B0
 have HRS:Hid (rs.size=34):=by show _=_; rw [<- hrs]; rfl
 clear hrs hW0;rename_i K3 hK3;refine wp_region_lit ?_
 (refine wpList_plain rfl (fun K9 hK9=>?_); go_simp; refine hK9 _ _ ?_; clear hK9)
 refine A3 rfl _ _ (by kernel_rfl) (Jgo _ B a len cap (Nat.le_trans hB B0.below.size) (H.keep (B0.below.mono hB))) ?_;rintro e W1 ⟨rfl,H1,L1,s1⟩;refine ⟨_,rfl,?_⟩;have B1:=B0.call L1
 have cne:∀ p,p∈[(w.heap.size,rs,41)]->p.1≠W0.heap.size:=fun p hp=>Nat.ne_of_lt (Ad (B0.all p hp).1)
 clear B0 L1;simp only [hz0] at H1 s1 cne ⊢;refine A3 rfl _ _ (by kernel_rfl) (Je3 _ B _ a len cap H1) ?_;rintro e W2 ⟨v,d,E,rfl,on,bd,hF,H2,S2⟩;refine ⟨_,rfl,?_⟩;have K:=B1.drawnL (by omega) cne (by omega) hB S2 H2 on bd;clear B1 on bd H2 S2 H1 s1;obtain ⟨co,rfl,hco,ho1⟩:=K.on.agg;refine wpList_store_row rfl _ _ _ rfl (w.heap.size) co rfl rfl _ _ (K.ret 0 rfl) (infoAt An hco) (HRS.out.trans hco.symm) ho1 ?_;replace K:=K.row 0 rfl co;generalize W2.setRow w.heap.size co=W3 at *;refine hK3 _ _ ?_;clear hK3;go_wp2;refine bodyPost_ret (v:=.agg co) (results_cell_row (by rfl) _ _ w.heap.size _ _ _ _ rfl (K.ret 0 rfl) underlying41 rfl (infoAt An hco)) rfl ?_
 first | exact ⟨_,rfl,E,d,K.on,fun i b hb=>⟨K.elo i b hb,K.lt b ⟨i,hb⟩⟩,hF,K.below⟩ | exact ⟨_,E,d,rfl,K.on,fun i b hb=>⟨K.elo i b hb,K.lt b ⟨i,hb⟩⟩,hF,K.below⟩
theorem Je8 (w:World) (s0:Option Addr) (n0 c0:Nat) (hT:Da w) (h:(1048576:Int)<(n0:Int)\/Code w w.heap.size s0 n0) :
  Calls prog 3 #[.slice s0 n0 c0] w fun e w'=>e=.returned (.bool true)/\Below w.heap.size w w':=by
 by_cases hbig:(1048576:Int)<(n0:Int)
 .have hb':decide ((1048576:Int)<(n0:Int))=true:=decide_eq_true hbig
  go_enter func3,ntmps3
  go_wp2_with fail;refine (Yr _ s0 n0 c0).mono ?_;rintro e w' ⟨rfl,rfl⟩;rw [hb'];go_wp2;go_ret;exact ⟨rfl,Below.refl _ _⟩
 have hb':decide ((1048576:Int)<(n0:Int))=false:=decide_eq_false hbig;have hcode:Code w w.heap.size s0 n0:=h.resolve_left hbig;clear hbig h
 go_enter func3,ntmps3
 go_wp2_with fail;refine (Yr _ s0 n0 c0).mono ?_;rintro e w' ⟨rfl,rfl⟩;rw [hb'];clear hb';have B0:=E4.nil w';go_upto_region 3 with (fail);rename_i K3 hK3;refine wp_region_lit ?_
 (refine wpList_plain rfl (fun K9 hK9=>?_); go_simp; refine hK9 _ _ ?_; clear hK9)
 refine A3 rfl _ _ (by kernel_rfl) (Qj _ w'.heap.size s0 n0 c0 (Nat.le_refl _) hcode) ?_;rintro e W1 ⟨v,E,d,rfl,on,bd,hF,L⟩;refine ⟨_,rfl,?_⟩;have T:=Wg.of on (fun i b hb=>(bd i b hb).2);replace B0:=B0.call L;obtain ⟨co,rfl,hco,ho1⟩:=on.agg;clear on bd L hcode
 (refine wpList_plain rfl (fun K9 hK9=>?_); go_simp; refine hK9 _ _ ?_; clear hK9)
 replace B0:=B0.alloc zR 41 W1.heap.size rfl;replace T:=T.call ((Below.refl W1.heap.size W1).alloc (Nat.le_refl _) (.cells zR 41));generalize W1.heap.size=bl at *;generalize W1.alloc (.cells zR 41)=W2a at *;refine wpList_store_row rfl _ _ _ rfl (bl) co rfl rfl _ _ (B0.ret 0 rfl) (infoAt An hco) (hco.symm) ho1 ?_;replace T:=T.row (B0.ret 0 rfl) (Nat.le_refl _) co;replace B0:=B0.row 0 rfl co;generalize W2a.setRow bl co=W2 at *;refine hK3 _ _ ?_;clear hK3
 have hnq:d.nq<1048576:=by have:=hF.nq; omega
 clear hF
 obtain ⟨rq,hrq⟩:∃ y,Hid (y=stepQ d):=⟨_,rfl⟩
 obtain ⟨rd,hrd⟩:∃ y,Hid (y=Ey d):=⟨_,rfl⟩
 have HI:=Ac (fun W E (k:Aw W E (.agg co) d) (t:Da W)=>Tg W E _ d k t (fun _=>hnq));have HS:=Ac (fun W E (k:Aw W E (.agg co) d)=>Lz W E _ d k (fun _=>hnq));rw [<- hrq.out,<- hrd.out] at HI HS;clear hnq;go_upto_region 4 with (fail);rename_i K3 hK3;refine wp_region_lit ?_;refine wpList_load_row rfl _ _ rfl (bl) rfl _ _ _ _ (B0.ret 0 rfl) underlying41 rfl (infoAt An hco) ?_;obtain ⟨-,E,on,-⟩:=id T;refine A3 rfl _ _ (by kernel_rfl) (HI.out _ _ on (hT.mono B0.below)) ?_;rintro e W3 ⟨v,rfl,⟨E',om,-,bm⟩,L⟩;refine ⟨_,rfl,?_⟩;have M:=Wg.of om (fun i b hb=>(bm i b hb).2);replace B0:=B0.call L;replace T:=T.call L;obtain ⟨cm,rfl,hcm,hm1⟩:=om.agg;clear om bm L on E' HI;have hlm:=T.1
 iterate 4 (refine wpList_plain rfl (fun K9 hK9=>?_); go_simp; refine hK9 _ _ ?_; clear hK9)
 replace B0:=B0.alloc zR 41 W3.heap.size rfl;replace T:=T.call ((Below.refl W3.heap.size W3).alloc (Nat.le_refl _) (.cells zR 41));replace M:=M.call ((Below.refl W3.heap.size W3).alloc (Nat.le_refl _) (.cells zR 41));generalize W3.heap.size=bm at *;generalize W3.alloc (.cells zR 41)=W4a at *;refine wpList_store_row rfl _ _ _ rfl (bm) cm rfl rfl _ _ (B0.ret 1 rfl) (infoAt An hcm) (hcm.symm) hm1 ?_;replace T:=T.row (B0.ret 1 rfl) hlm cm;replace M:=M.row (B0.ret 1 rfl) (Nat.le_refl _) cm;replace B0:=B0.row 1 rfl cm;generalize W4a.setRow bm cm=W4 at *
 (refine wpList_plain rfl (fun K9 hK9=>?_); go_simp; refine hK9 _ _ ?_; clear hK9)
 refine hK3 _ _ ?_;clear hK3;go_upto_region 5 with (fail);rename_i K3 hK3;refine wp_region_lit ?_;refine wpList_load_row rfl _ _ rfl (bl) rfl _ _ _ _ (B0.ret 0 rfl) underlying41 rfl (infoAt An hco) ?_;obtain ⟨-,E,on,-⟩:=id T;refine A3 rfl _ _ (by kernel_rfl) (HS.out _ _ on) ?_;rintro e W5 ⟨v,rfl,ow,L⟩;refine ⟨_,rfl,?_⟩;obtain ⟨E',om,-,bm⟩:=ow.told;have G:=Wg.of om (fun i b hb=>(bm i b hb).2);replace B0:=B0.call L;replace T:=T.call L;replace M:=M.call L;obtain ⟨cn,rfl,hcn,hn1⟩:=om.agg;clear om bm L on E' ow HS;have hln:=T.1;have hmn:=M.1
 iterate 4 (refine wpList_plain rfl (fun K9 hK9=>?_); go_simp; refine hK9 _ _ ?_; clear hK9)
 replace B0:=B0.alloc zR 41 W5.heap.size rfl;replace T:=T.call ((Below.refl W5.heap.size W5).alloc (Nat.le_refl _) (.cells zR 41));replace M:=M.call ((Below.refl W5.heap.size W5).alloc (Nat.le_refl _) (.cells zR 41));replace G:=G.call ((Below.refl W5.heap.size W5).alloc (Nat.le_refl _) (.cells zR 41));generalize W5.heap.size=bn at *;generalize W5.alloc (.cells zR 41)=W6a at *;refine wpList_store_row rfl _ _ _ rfl (bn) cn rfl rfl _ _ (B0.ret 2 rfl) (infoAt An hcn) (hcn.symm) hn1 ?_;replace T:=T.row (B0.ret 2 rfl) hln cn;replace M:=M.row (B0.ret 2 rfl) hmn cn;replace G:=G.row (B0.ret 2 rfl) (Nat.le_refl _) cn;replace B0:=B0.row 2 rfl cn;generalize W6a.setRow bn cn=W6 at *
 (refine wpList_plain rfl (fun K9 hK9=>?_); go_simp; refine hK9 _ _ ?_; clear hK9)
 refine hK3 _ _ ?_;clear hK3;clear hlm hln hmn;replace hT:=hT.mono B0.below;have CC:=B0.below;clear ho1 hm1 hn1;have GI:=Ac (fun W (l:Below W6.heap.size W6 W)=>by obtain ⟨-,E,on,-⟩:=T.call l; exact Gm W E (.agg co) d on);have GS:=Ac (fun W (l:Below W6.heap.size W6 W)=>by obtain ⟨-,E,on,-⟩:=T.call l; exact Is W E (.agg co) d on);have GM:=Ac (fun W (l:Below W6.heap.size W6 W)=>by obtain ⟨-,E,on,-⟩:=M.call l; exact Gm W E (.agg cm) rd on);have GE:=Ac (fun W (l:Below W6.heap.size W6 W)=>by obtain ⟨-,E,on,-⟩:=M.call l; obtain ⟨-,E',on',-⟩:=G.call l; have h:=Iu W E E' (.agg cm) (.agg cn) rd rd on on'; rw [Pp] at h; exact h)
 have GL:=Ac (fun W (l:Below W6.heap.size W6 W)=>by obtain ⟨-,E,on,-⟩:=T.call l; obtain ⟨-,E',on',-⟩:=M.call l; exact Iu W E E' (.agg co) (.agg cm) d rd on on')
 obtain ⟨kd,hkd⟩:∃ y,Hid (y=okLock d):=⟨_,rfl⟩
 rw [<- hkd.out] at GI GS;have r0:=B0.ret 0 rfl;have r1:=B0.ret 1 rfl;have r2:=B0.ret 2 rfl
 have facts:(kd=false/\rq=false/\rd=Jm)\/(kd=true/\rq=false/\d=rd/\19992<d.t)\/(kd=true/\rq=true/\rd=stepD d/\D7 d=true):=by
  rw [hkd.out,hrq.out,hrd.out];cases hk:okLock d
  .exact Or.inl ⟨rfl,(Pn hk).2,(Pn hk).1⟩
  .cases hb:D7 d
   .refine Or.inr (Or.inl ⟨rfl,(Kh hk hb).2,(Kh hk hb).1.symm,?_⟩)
    have hb':=of_decide_eq_false hb;have:=(Ge d (It hk).row).1;have:=G8 d
    omega
   .exact Or.inr (Or.inr ⟨rfl,(Mu hk hb).2,(Mu hk hb).1,rfl⟩)
 clear hrq hrd G;go_upto_region 6 with (fail)
 rcases facts with ⟨rfl,rfl,rfl⟩ | ⟨rfl,rfl,rfl,hlate⟩ | ⟨rfl,rfl,rfl,hb⟩
 .clear GE GM GL
  refine wp_region_quiet_below (by kernel_rfl) (by kernel_rfl) ?_
  iterate 4 (go_big_quiet_step (fail))
  refine Dt (by kernel_rfl) _ _ rfl bl rfl _ _ _ _ r0 underlying41 rfl (infoAt An hco) ?_;refine Di (by kernel_rfl) _ _ _ (fun W=>by kernel_rfl) GI.out ?_;refine Dt (by kernel_rfl) _ _ rfl bl rfl _ _ _ _ r0 underlying41 rfl (infoAt An hco) ?_;refine Di (by kernel_rfl) _ _ _ (fun W=>by kernel_rfl) GS.out ?_;simp only [Act.put,Sa,Sb,Sc]
  repeat (go_big_quiet_step (fail))
  refine wpQuiet_nil ?_;intro _ hw9;obtain ⟨⟨dq,osq⟩,hw8⟩:=hw9;subst hw8;have LQ:=below_regrown W6 dq osq;replace B0:=B0.call LQ;replace T:=T.call LQ;replace M:=M.call LQ;replace CC:=CC.trans (LQ.mono CC.size);replace hT:=hT.mono LQ;generalize grow (redrawn W6 dq) osq=W7 at *;clear r0 r1 r2 LQ;clear GI GS;obtain ⟨ax,cx,hm2⟩:=M.ram;have c2:=B0.get 1 rfl 2 hm2;clear hm2 B0 T M;go_wp2_with fail;go_ret;exact ⟨rfl,CC⟩
 .clear GE GM
  refine wp_region_quiet_below (by kernel_rfl) (by kernel_rfl) ?_
  iterate 4 (go_big_quiet_step (fail))
  refine Dt (by kernel_rfl) _ _ rfl bl rfl _ _ _ _ r0 underlying41 rfl (infoAt An hco) ?_;refine Di (by kernel_rfl) _ _ _ (fun W=>by kernel_rfl) GI.out ?_;refine Dt (by kernel_rfl) _ _ rfl bl rfl _ _ _ _ r0 underlying41 rfl (infoAt An hco) ?_;refine Di (by kernel_rfl) _ _ _ (fun W=>by kernel_rfl) GS.out ?_;simp only [Act.put,Sa,Sb,Sc]
  repeat (go_big_quiet_step (fail))
  refine wpQuiet_nil ?_;intro _ hw9;obtain ⟨⟨dq,osq⟩,hw8⟩:=hw9;subst hw8;have LQ:=below_regrown W6 dq osq;replace B0:=B0.call LQ;replace T:=T.call LQ;replace M:=M.call LQ;replace CC:=CC.trans (LQ.mono CC.size);replace hT:=hT.mono LQ;generalize grow (redrawn W6 dq) osq=W7 at *;clear r0 r1 r2 LQ;clear GI GS GL;obtain ⟨ax,cx,hm2⟩:=M.ram;rw [(It hkd.out.symm).nr] at hm2;have c2:=B0.get 1 rfl 2 hm2;have t12:=T.cells.1;have k0:=B0.ret 0 rfl;have k1:=B0.ret 1 rfl;go_upto_region 9 with (fail);refine wp_region_lit ?_
  iterate 6 (refine wpList_step (fun K9 hK9=>?_); rw [if_pos (by kernel_rfl)]; go_simp; refine hK9 _ _ ?_; clear hK9)
  refine Ej (by kernel_rfl) _ _ rfl (bl) rfl _ _ _ _ k0 underlying41 rfl (infoAt An hco) ?_;refine Ej (by kernel_rfl) _ _ rfl (bm) rfl _ _ _ _ k1 underlying41 rfl (infoAt An hcm) ?_;obtain ⟨-,E,on,-⟩:=T;obtain ⟨-,E',om,-⟩:=M;clear k0 k1 c2 hm2;have hl2:decide (19992<d.t)=true:=decide_eq_true hlate;go_wp2_with fail;refine (Iu _ _ _ _ _ d d on om).mono ?_;rintro e W8 ⟨rfl,L⟩;rw [Pp];have c3:=(B0.call L).get 0 rfl 12 t12;clear B0;go_wp2_with fail;go_ret;exact ⟨by simp [hl2],CC.trans (L.mono CC.size)⟩
 .clear GL
  refine wp_region_quiet_below (by kernel_rfl) (by kernel_rfl) ?_
  iterate 4 (go_big_quiet_step (fail))
  refine Dt (by kernel_rfl) _ _ rfl bl rfl _ _ _ _ r0 underlying41 rfl (infoAt An hco) ?_;refine Di (by kernel_rfl) _ _ _ (fun W=>by kernel_rfl) GI.out ?_;refine Dt (by kernel_rfl) _ _ rfl bl rfl _ _ _ _ r0 underlying41 rfl (infoAt An hco) ?_;refine Di (by kernel_rfl) _ _ _ (fun W=>by kernel_rfl) GS.out ?_;simp only [Act.put,Sa,Sb,Sc]
  iterate 5 (go_big_quiet_step (fail))
  refine Dt (by kernel_rfl) _ _ rfl bm rfl _ _ _ _ r1 underlying41 rfl (infoAt An hcm) ?_;refine Dt (by kernel_rfl) _ _ rfl bn rfl _ _ _ _ r2 underlying41 rfl (infoAt An hcn) ?_;refine Di (by kernel_rfl) _ _ _ (fun W=>by kernel_rfl) GE.out ?_;simp only [Act.put,Sa,Sb,Sc]
  repeat (go_big_quiet_step (fail))
  refine wpQuiet_nil ?_;intro _ hw9;obtain ⟨⟨dq,osq⟩,hw8⟩:=hw9;subst hw8;have LQ:=below_regrown W6 dq osq;replace B0:=B0.call LQ;replace T:=T.call LQ;replace M:=M.call LQ;replace CC:=CC.trans (LQ.mono CC.size);replace hT:=hT.mono LQ;generalize grow (redrawn W6 dq) osq=W7 at *;clear r0 r1 r2 LQ;clear GI GS GE;have hok:=hkd.out.symm;obtain ⟨t12,t11,t7,t26,t29,t30⟩:=T.cells;obtain ⟨m12,m11,-,-,-,m30⟩:=M.cells;obtain ⟨f1,f2⟩:=Ze hb hok;rw [f1] at m12;rw [f2] at m30;have hL:=It hok;have h1:=Pr d;have h2:=(G8 d).2;have h3:=hL.st;have h4:=hL.t.ppu.t0;have h5:=hL.t.ppu.t1;have hgo:=Wh hok hb
  obtain ⟨dv,hdv⟩:∃ y,Hid (y=Wi d):=⟨_,rfl⟩
  have hit:Hid (dv=true->actN d=7/\(stepD d).I=true):=fun h=>by rw [hdv.out] at h; exact ⟨Jdt h,Je7 h⟩
  have hop:Hid (dv=false->actN d=cycT (opO d)):=fun h=>by rw [hdv.out] at h; exact Je6 h
  unfold Wi at hdv;clear hb hL f1 f2;generalize actN d=cy at *;generalize (stepD d).I=mi at *;have b12:=B0.get 0 rfl 12 t12;have b11:=B0.get 0 rfl 11 t11;have b26:=B0.get 0 rfl 26 t26;have b29:=B0.get 0 rfl 29 t29;have d12:=B0.get 1 rfl 12 m12;go_upto_region 11 with (fail)
  go_cut [79] (fun s wc=>s=.bool dv/\wc=W7)
  case first =>
   rename_i J Kq hJ hKq;have hdv':=hdv.out;clear hdv hit hop GM;generalize d.nmi=a1 at *;generalize d.R=a2 at *;generalize d.I=a3 at *;subst hdv';cases a1
   .cases a2
    .go_wp2_with fail
     go_meet
     exact ⟨rfl,rfl⟩
    .cases a3
     .go_wp2_with fail
      go_meet
      exact ⟨rfl,rfl⟩
     .go_wp2_with fail
      go_meet
      exact ⟨rfl,rfl⟩
   .go_wp2_with fail
    go_meet
    exact ⟨rfl,rfl⟩
  case rest =>
  obtain ⟨rfl,rfl⟩:=hcut;rw [show d.t+cy-d.t=cy by omega];clear b12 b11 b26 b29 d12 hdv hkd hok t12 t11 t26 t29 m12;cases dv
  .have ec:=hop.out rfl
   clear hit hop;subst ec;obtain ⟨u0,u2,p0,p2,HF⟩:=T.fetch hT;have b7:=B0.get 0 rfl 7 t7;have k0:=B0.ret 0 rfl;go_upto_region 13 with (fail);refine wp_region_lit ?_
   iterate 2 (refine wpList_step (fun K9 hK9=>?_); rw [if_pos (by kernel_rfl)]; go_simp; refine hK9 _ _ ?_; clear hK9)
   refine Hb (by kernel_rfl) _ _ rfl bl 0 rfl _ _ #[u0] _ _ k0 p0 underlying26 rfl (by kernel_rfl) ?_
   (refine wpList_step (fun K9 hK9=>?_); rw [if_pos (by kernel_rfl)]; go_simp; refine hK9 _ _ ?_; clear hK9)
   refine Hb (by kernel_rfl) _ _ rfl bl 2 rfl _ _ #[u2,.i d.bank] _ _ k0 p2 underlying29 rfl (by kernel_rfl) ?_
   iterate 3 (refine wpList_step (fun K9 hK9=>?_); rw [if_pos (by kernel_rfl)]; go_simp; refine hK9 _ _ ?_; clear hK9)
   refine Ga (by kernel_rfl) _ _ (by kernel_rfl) HF ?_;rintro e W8 ⟨rfl,L⟩;refine ⟨_,rfl,?_⟩;replace B0:=B0.call L;replace M:=M.call L;replace CC:=CC.trans (L.mono CC.size);replace hT:=hT.mono L;clear L HF b7 k0 p0 p2 T
   (refine wpList_step (fun K9 hK9=>?_); rw [if_pos (by kernel_rfl)]; go_simp; refine hK9 _ _ ?_; clear hK9)
   refine Ga (by kernel_rfl) _ _ (by kernel_rfl) (Kp W8 (opO d) hT) ?_;rintro e W9 ⟨rfl,L⟩;refine ⟨_,rfl,?_⟩;replace B0:=B0.call L;replace M:=M.call L;replace CC:=CC.trans (L.mono CC.size);rw [show Jv (opO d)=cycT (opO d) from rfl];generalize cycT (opO d)=cy at *;clear L hT
   iterate 2 (refine wpList_step (fun K9 hK9=>?_); rw [if_pos (by kernel_rfl)]; go_simp; refine hK9 _ _ ?_; clear hK9)
   refine Ej (by kernel_rfl) _ _ rfl (bm) rfl _ _ _ _ (B0.ret 1 rfl) underlying41 rfl (infoAt An hcm) ?_;obtain ⟨-,E,on,-⟩:=M;refine Ga (by kernel_rfl) _ _ (by kernel_rfl) (Gm _ _ _ _ on) ?_;rintro e W10 ⟨rfl,L⟩;refine ⟨_,rfl,?_⟩;rw [hgo];replace B0:=B0.call L;replace CC:=CC.trans (L.mono CC.size);have b30:=B0.get 0 rfl 30 t30;have d30:=B0.get 1 rfl 30 m30;clear L on B0;go_wp2_with fail;go_ret;exact ⟨by simp,CC⟩
  .obtain ⟨rfl,rfl⟩:=hit.out rfl
   clear hit hop;have d11:=B0.get 1 rfl 11 m11;go_upto_region 12 with (fail);refine wp_region_lit ?_
   iterate 8 (refine wpList_step (fun K9 hK9=>?_); rw [if_pos (by kernel_rfl)]; go_simp; refine hK9 _ _ ?_; clear hK9)
   refine Ej (by kernel_rfl) _ _ rfl (bm) rfl _ _ _ _ (B0.ret 1 rfl) underlying41 rfl (infoAt An hcm) ?_;obtain ⟨-,E,on,-⟩:=M;refine Ga (by kernel_rfl) _ _ (by kernel_rfl) (Gm _ _ _ _ on) ?_;rintro e W10 ⟨rfl,L⟩;refine ⟨_,rfl,?_⟩;rw [hgo];go_wp2_with fail;go_ret;exact ⟨rfl,CC.trans (L.mono CC.size)⟩
end Go.Proofs.YtijljlnooibbmaaGreatDoor
