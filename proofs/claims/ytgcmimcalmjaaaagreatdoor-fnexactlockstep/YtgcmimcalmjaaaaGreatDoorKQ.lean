import Derived.Test.YtgcmimcalmjaaaaGreatDoorKD
namespace Go.Proofs.YtgcmimcalmjaaaaGreatDoor
set_option linter.unusedVariables false
set_option linter.unusedSimpArgs false
open Go.ChangeShapes Go.WideShapes Go.ChangeAt Go.RowKit
theorem Ze (W:World) {o:Oper} {a:Act} {K:Act→World→Prop} {Q:Exit→Act→World→Prop} (s x:Operand) (hop:o.op=Op.call { callee:=Callee.builtin Builtin.append,args:=#[s,x],argTypes:=#[25,25] })
  (lo g n c:Nat) (f:Nat→Int) (hs:a.eval s=.slice (some ⟨g,0,none⟩) n c) (R:Row W lo g n c f) (hn:n<1048576) (q:Nat) (y:Int) (hx:a.eval x=.slice (some ⟨q,0,none⟩) 1 1) (hq:W.cell? ⟨q,0,none⟩=some (.i y))
  (h:∀ g' c' W',Row W' lo g' (n+1) c' (snoc f n y)→Wrote (fun b _=>b=g∧n+1≤c) W W'→((g'=g∧n+1≤c)∨W.heap.size≤g')→K (a.put o.dst (.slice (some ⟨g',0,none⟩) (n+1) c')) W'):o.wp Tryz.prog a W K Q:=by
 obtain ⟨i0,hi,hz0,hz1,hz2⟩:=info_parts Is;have hp:=R.parts
 have hnews:∀ j u,[Value.i y][j]?=some u→W.cell? ((⟨q,0,none⟩:Addr).add j)=some u:=fun j u hh=>by
  cases j with
  | zero=>simp at hh; rw [← hh]; exact hq
  | succ j=>simp at hh
 by_cases hr:n+1≤c
 ·have hsp:(W.cell? ⟨g,n,none⟩).isSome=true∧W.frozen? ⟨g,n,none⟩=false:=by
   rcases R.own.2 with ⟨e,_⟩ | ⟨g',cap,cur,hv,hb,hg,h1,h2,h3,h4⟩
   ·cases e
   ·simp only [Value.slice.injEq,Option.some.injEq,Addr.mk.injEq,and_true,true_and] at hv
    obtain ⟨rfl,rfl⟩:=hv;refine ⟨?_,As hg n⟩;rw [Ag hg n,Array.getElem?_eq_getElem (by omega)]
    rfl
  have hrun:=run_append_room_cells (P:=Tryz.prog) W 25 o.type 3 i0 Tryz.underlying25 hi g 0 n c ⟨q,0,none⟩ 1 1 [.i y] (by rw [hz1]; rfl) hnews (fun u hu=>by simp at hu; rw [hu]; rfl) hr
   (fun j hj=>by have:j=0:=(by simpa using hj); subst this; rw [hz1]; simpa using hsp.1) (fun j hj=>by have:j=0:=(by simpa using hj); subst this; rw [hz1]; simpa using hsp.2)
  rw [hz1] at hrun;unfold Oper.wp
  simp [execOp,hop,resolve,invoke,builtin,hs,hx,hrun,Result.andThen,World.setCells]
  exact h g c _ (R.more hr hn y) (Wrote.setCell (R:=fun b _=>b=g∧n+1≤c) (Wrote.refl _ W) (fun _=>⟨rfl,hr⟩) _) (Or.inl ⟨rfl,hr⟩)
 ·obtain ⟨v',w',hrun,r1,r2⟩:=run_append_arg_grows (P:=Tryz.prog) W 25 o.type 3 i0 (.i 0) 1 8 Tryz.underlying25 hi hz0 hz1 hz2 rfl (by decide) ⟨g,0,none⟩ n c (rowVals n f) (by rw [A2,Nat.mul_one]) (Cy R.sl.row) ⟨q,0,none⟩ 1 1 [.i y] rfl hnews (by omega) (by unfold maxLen; omega) (by omega)
  rw [E6] at r1;obtain ⟨g',cap2,rfl,hg,hlt⟩:=r1.form (by omega);have L:Below W.heap.size W w':=(Below.refl _ _).grown r2 (Nat.le_refl _) (fun _ e=>by cases e);unfold Oper.wp
  simp [execOp,hop,resolve,invoke,builtin,hs,hx,hrun,Result.andThen]
  exact h g' cap2 w' ((Row.mk r1 (by omega)).mono (by omega)) (Ab L _) (Or.inr hg)
theorem Ef (W:World) {ops:Array Oper} {rest:List Oper} {o:Oper} {a:Act} {Q:Exit→Act→World→Prop} (hg:o.guard=none) (s x:Operand) (hop:o.op=Op.call { callee:=Callee.builtin Builtin.append,args:=#[s,x],argTypes:=#[25,25] })
  (lo g n c:Nat) (f:Nat→Int) (hs:a.eval s=.slice (some ⟨g,0,none⟩) n c) (R:Row W lo g n c f) (hn:n<1048576) (q:Nat) (y:Int) (hx:a.eval x=.slice (some ⟨q,0,none⟩) 1 1) (hq:W.cell? ⟨q,0,none⟩=some (.i y))
  (h:∀ g' c' W',Row W' lo g' (n+1) c' (snoc f n y)→Wrote (fun b _=>b=g∧n+1≤c) W W'→((g'=g∧n+1≤c)∨W.heap.size≤g')→wpList Tryz.prog ops Q rest (a.put o.dst (.slice (some ⟨g',0,none⟩) (n+1) c')) W'):wpList Tryz.prog ops Q (o :: rest) a W :=
 wpList_plain hg fun K hK=>Ze W s x hop lo g n c f hs R hn q y hx hq (fun g c W' r1 r2 r3=>hK _ _ (h g c W' r1 r2 r3))
theorem Row.room {W:World} {lo g n c:Nat} {f:Nat→Int} (h:Row W lo g n c f):(W.heap[g]?.map fun o=>match o with | .cells cs _ _=>cs.size | _=>0)=some c:=by
 rcases h.own.2 with ⟨e,_⟩ | ⟨g',cap,cur,hv,hb,hg,h1,h2,h3,h4⟩
 ·cases e
 ·simp only [Value.slice.injEq,Option.some.injEq,Addr.mk.injEq,and_true,true_and] at hv
  obtain ⟨rfl,rfl⟩:=hv;rw [hg]
  simp
  omega
structure A3 (W:World) (lo N:Nat) (D:Nat→Nat→Prop) (u0 u1 u2 u3 u4 ov:Value) (gb cp:Nat→Nat) (g6 c6 g7 c7:Nat) (d:Aq):Prop where
 h0:Co W (D 0) u0 d.m d.ln d.f
 h1:By W (D 1) u1 d.np d.p
 h2:Bw W (D 2) (.agg #[u2,.i d.bank]) d.nr d.g d.bank
 h3:Cf W (D 3) (.agg (pR d.t d.c d.s d.ad d.pl d.bl u3 u4)) d.t d.c d.s d.ad d.pl d.bl d.nt d.tb d.nd d.dt
 h4:SG W lo ov d.mf gb cp d.lf d.fr
 h4D:∀ b,(ov.ownBlock=some b∨∃ i,i<d.mf∧gb i=b)→D 4 b
 h6:Row W lo g6 d.ns c6 d.sm
 h6D:D 5 g6∨(d.ns=0∧c6=0)
 h7:Row W lo g7 d.nq c7 d.rd
 h7D:D 6 g7∨(d.nq=0∧c7=0)
 dis:Xb D
 bd:∀ i b,D i b→lo≤b∧b<N
 n6:g6<N
 n7:g7<N
 nN:N≤W.heap.size
 hps:psum d.lf d.mf≤1099511627776
section
variable {R:Nat→Nat→Prop} {W W':World} {lo N:Nat} {D:Nat→Nat→Prop} {u0 u1 u2 u3 u4 ov:Value} {gb cp:Nat→Nat} {g6 c6 g7 c7:Nat} {d:Aq}
theorem A3.ow (H:A3 W lo N D u0 u1 u2 u3 u4 ov gb cp g6 c6 g7 c7 d):Dm W lo (.agg (kR d u0 u1 u2 u3 u4 ov (.slice (some ⟨g6,0,none⟩) d.ns c6) (.slice (some ⟨g7,0,none⟩) d.nq c7))) d :=
 ⟨D,u0,u1,u2,u3,u4,ov,gb,cp,g6,c6,g7,c7,rfl,H.h0,H.h1,H.h2,H.h3,H.h4,H.h4D,H.h6,H.h6D,H.h7,H.h7D,H.dis,fun i b h=>⟨(H.bd i b h).1,Nat.lt_of_lt_of_le (H.bd i b h).2 H.nN⟩,H.hps⟩
theorem A3.of {v:Value} (H:Dm W lo v d):∃ D u0 u1 u2 u3 u4 ov gb cp g6 c6 g7 c7,v=.agg (kR d u0 u1 u2 u3 u4 ov (.slice (some ⟨g6,0,none⟩) d.ns c6) (.slice (some ⟨g7,0,none⟩) d.nq c7))∧A3 W lo W.heap.size D u0 u1 u2 u3 u4 ov gb cp g6 c6 g7 c7 d:=by
 obtain ⟨D,u0,u1,u2,u3,u4,ov,gb,cp,g6,c6,g7,c7,e,h0,h1,h2,h3,h4,h4D,h6,h6D,h7,h7D,dis,bd,hps⟩:=H;exact ⟨D,u0,u1,u2,u3,u4,ov,gb,cp,g6,c6,g7,c7,e,h0,h1,h2,h3,h4,h4D,h6,h6D,h7,h7D,dis,bd,h6.parts.2.1,h7.parts.2.1,Nat.le_refl _,hps⟩
theorem A3.keep (H:A3 W lo N D u0 u1 u2 u3 u4 ov gb cp g6 c6 g7 c7 d) (hw:Wrote R W W') (hn:∀ b o,b<N→¬ R b o):A3 W' lo N D u0 u1 u2 u3 u4 ov gb cp g6 c6 g7 c7 d :=
 ⟨H.h0.keep hw (fun b o h _=>hn b o (H.bd _ b h).2),H.h1.keep hw (fun b o h _=>hn b o (H.bd _ b h).2),H.h2.keep hw (fun b o h _=>hn b o (H.bd _ b h).2),H.h3.keep hw (fun b o h _=>hn b o (H.bd _ b h).2),H.h4.keep hw (fun g o hg=>hn g o (H.bd _ g (H.h4D g (Or.inl hg))).2) (fun i o hi=>hn _ o (H.bd _ _ (H.h4D _ (Or.inr ⟨i,hi,rfl⟩))).2),H.h4D,H.h6.keep hw (fun o=>hn _ o H.n6),H.h6D,H.h7.keep hw (fun o=>hn _ o H.n7),H.h7D,H.dis,H.bd,H.n6,H.n7,Nat.le_trans H.nN hw.size,H.hps⟩
theorem A3.keepD (H:A3 W lo N D u0 u1 u2 u3 u4 ov gb cp g6 c6 g7 c7 d) (hw:Wrote R W W') (hd:∀ i b o,D i b→¬ R b o) (k6:∀ o,¬ R g6 o) (k7:∀ o,¬ R g7 o):A3 W' lo N D u0 u1 u2 u3 u4 ov gb cp g6 c6 g7 c7 d :=
 ⟨H.h0.keep hw (fun b o h _=>hd _ b o h),H.h1.keep hw (fun b o h _=>hd _ b o h),H.h2.keep hw (fun b o h _=>hd _ b o h),H.h3.keep hw (fun b o h _=>hd _ b o h),H.h4.keep hw (fun g o hg=>hd _ g o (H.h4D g (Or.inl hg))) (fun i o hi=>hd _ _ o (H.h4D _ (Or.inr ⟨i,hi,rfl⟩))),H.h4D,H.h6.keep hw k6,H.h6D,H.h7.keep hw k7,H.h7D,H.dis,H.bd,H.n6,H.n7,Nat.le_trans H.nN hw.size,H.hps⟩
theorem A3.below (H:A3 W lo N D u0 u1 u2 u3 u4 ov gb cp g6 c6 g7 c7 d) (L:Below W.heap.size W W'):A3 W' lo N D u0 u1 u2 u3 u4 ov gb cp g6 c6 g7 c7 d:=H.keep (Ab L Aj) (fun _ _ _ x=>x)
theorem A3.ppu (H:A3 W lo N D u0 u1 u2 u3 u4 ov gb cp g6 c6 g7 c7 d) {p q:Nat} {w3 w4:Value} {c s ad pl:Int} {t:Int} {bl:Bool} {nt nd:Nat} {tb dt:Nat→Int} (hP:Cf W (fun b=>p≤b∧b<q) (.agg (pR t c s ad pl bl w3 w4)) t c s ad pl bl nt tb nd dt) (hp:N≤p) (hl:lo≤N) (hpq:p≤q) (hq:q≤W.heap.size) :
  A3 W lo q (fun i b=>(i=3∧p≤b∧b<q)∨(i≠3∧D i b)) u0 u1 u2 w3 w4 ov gb cp g6 c6 g7 c7 { d with t:=t,c:=c,s:=s,ad:=ad,pl:=pl,bl:=bl,nt:=nt,tb:=tb,nd:=nd,dt:=dt }:=by
 have nN:=H.nN;refine ⟨H.h0.mono (fun b _ h=>Or.inr ⟨by decide,h⟩),H.h1.mono (fun b _ h=>Or.inr ⟨by decide,h⟩),H.h2.mono (fun b _ h=>Or.inr ⟨by decide,h⟩),hP.mono (fun b _ h=>Or.inl ⟨rfl,h⟩),H.h4,fun b h=>Or.inr ⟨by decide,H.h4D b h⟩,H.h6,?_,H.h7,?_,?_,?_,by have:=H.n6; omega,by have:=H.n7; omega,hq,H.hps⟩
 ·rcases H.h6D with h | h
  ·exact Or.inl (Or.inr ⟨by decide,h⟩)
  ·exact Or.inr h
 ·rcases H.h7D with h | h
  ·exact Or.inl (Or.inr ⟨by decide,h⟩)
  ·exact Or.inr h
 ·intro i j b h1 h2
  rcases h1 with ⟨rfl,_,_⟩ | ⟨n1,h1⟩ <;> rcases h2 with ⟨rfl,_,_⟩ | ⟨n2,h2⟩
  ·rfl
  ·have:=H.bd _ _ h2; omega
  ·have:=H.bd _ _ h1; omega
  ·exact H.dis _ _ _ h1 h2
 ·intro i b h
  rcases h with ⟨rfl,_,_⟩ | ⟨_,h⟩
  ·omega
  ·have:=H.bd _ _ h; omega
theorem A3.push (H:A3 W lo N D u0 u1 u2 u3 u4 ov gb cp g6 c6 g7 c7 d) (hl:lo≤N) {g' c':Nat} {x:Int} (hw:Wrote (fun b _=>b=g7∧d.nq+1≤c7) W W') (R7:Row W' lo g' (d.nq+1) c' (snoc d.rd d.nq x)) (hat:(g'=g7∧d.nq+1≤c7)∨W.heap.size≤g') :
  A3 W' lo W'.heap.size (fun i b=>(i=6∧b=g')∨(i≠6∧D i b)) u0 u1 u2 u3 u4 ov gb cp g6 c6 g' c' { d with nq:=d.nq+1,rd:=snoc d.rd d.nq x }:=by
 have nN:=H.nN;have hz:=hw.size
 have far:∀ i b (o:Nat),i≠6→D i b→¬ (b=g7∧d.nq+1≤c7):=fun i b o hi hb ⟨e,hc⟩=>by
  rcases H.h7D with h | h
  ·exact hi (H.dis i 6 b hb (e ▸ h))
  ·omega
 have f6:∀ (o:Nat),¬ (g6=g7∧d.nq+1≤c7∧0<c6):=fun o ⟨e,hc,h0⟩=>by
  rcases H.h6D with h | h
  ·exact far 5 g6 o (by decide) h ⟨e,hc⟩
  ·omega
 have K6:Row W' lo g6 d.ns c6 d.sm:=by
  by_cases e:g6=g7∧d.nq+1≤c7
  ·exfalso
   have hc6:c6=0:=by
    by_cases h:0<c6
    ·exact absurd ⟨e.1,e.2,h⟩ (f6 0)
    ·omega
   have p6:=H.h6.room;have p7:=H.h7.room;rw [e.1,p7] at p6;have:=Option.some.inj p6
   omega
  ·exact H.h6.keep hw (fun o h=>e h)
 refine ⟨(H.h0.keep hw (fun b o h _=>far 0 b o (by decide) h)).mono (fun b _ h=>Or.inr ⟨by decide,h⟩),(H.h1.keep hw (fun b o h _=>far 1 b o (by decide) h)).mono (fun b _ h=>Or.inr ⟨by decide,h⟩),(H.h2.keep hw (fun b o h _=>far 2 b o (by decide) h)).mono (fun b _ h=>Or.inr ⟨by decide,h⟩),(H.h3.keep hw (fun b o h _=>far 3 b o (by decide) h)).mono (fun b _ h=>Or.inr ⟨by decide,h⟩),
  H.h4.keep hw (fun g o hg=>far 4 g o (by decide) (H.h4D g (Or.inl hg))) (fun i o hi=>far 4 _ o (by decide) (H.h4D _ (Or.inr ⟨i,hi,rfl⟩))),fun b h=>Or.inr ⟨by decide,H.h4D b h⟩,K6,?_,R7,Or.inl (Or.inl ⟨rfl,rfl⟩),?_,?_,by have:=H.n6; omega,R7.parts.2.1,Nat.le_refl _,H.hps⟩
 ·rcases H.h6D with h | h
  ·exact Or.inl (Or.inr ⟨by decide,h⟩)
  ·exact Or.inr h
 ·intro i j b h1 h2
  have key:∀ i,i≠6→D i g'→False:=fun i hi h=>by
   rcases hat with ⟨e,hc⟩ | h'
   ·exact far i g' 0 hi h ⟨e,hc⟩
   ·have:=H.bd _ _ h; omega
  rcases h1 with ⟨rfl,rfl⟩ | ⟨n1,h1⟩ <;> rcases h2 with ⟨rfl,e⟩ | ⟨n2,h2⟩
  ·rfl
  ·exact absurd h2 (fun h=>key j n2 h)
  ·subst e; exact absurd h1 (fun h=>key i n1 h)
  ·exact H.dis _ _ _ h1 h2
 ·intro i b h
  rcases h with ⟨rfl,rfl⟩ | ⟨_,h⟩
  ·exact ⟨R7.parts.1,R7.parts.2.1⟩
  ·have:=H.bd _ _ h; omega
end
theorem A9 {P:Program} {fn:Func} {p q:Tmp} {ty:TypeId} (h:fn.results=#[.cell p ty,.tmp q]) (tmps:Array Value) (w:World) (g:Nat) (t:TypeId) (cs:Array Value) (fr:Nat × Nat) (dd:TypeDesc)
  (hp:tmps.getD p undef=(pt g 0)) (hg:w.heap[g]?=some (.cells cs t fr)) (hu:P.underlying ty=some dd) (hd:(match dd with | .struct _ | .array _ _=>true | _=>false)=true) (hi:(P.info? ty).map (·.size)=some cs.size) :
  (results fn tmps).run P w=.ok (.tuple #[.agg cs,tmps.getD q undef]) w:=by
 have hp':tmps[p]?.getD undef=(pt g 0):=by simpa using hp
 simp [results,h,hp',asAddr,run_loadVar_row w g t ty cs fr dd hg hu hd hi]
def Do (d:Aq) (a:Int):Int :=
 if rgN (a%65536)=2 then Oo true (rgP (a%65536)) d.bl d.ad d.tb else if rgN (a%65536)=3 then Tj true d.L d.R (rgP (a%65536)) else if rgN (a%65536)=4 then Ig d.hd d.sh d.np d.p d.t else Em d.m d.f d.g d.bank (a%65536)
def Cn (d:Aq) (a:Int):Aq :=
 if rgN (a%65536)=2 then { d with ad:=Mb true (rgP (a%65536)) d.ad,bl:=Om true (rgP (a%65536)) d.bl,nq:=d.nq+1,rd:=snoc d.rd d.nq (Do d a) } else if rgN (a%65536)=3 then { d with R:=Wr true d.R (rgP (a%65536)),nq:=d.nq+1,rd:=snoc d.rd d.nq (Do d a) } else if rgN (a%65536)=4 then { d with sh:=Ea d.hd d.sh d.np d.p d.t,nq:=d.nq+1,rd:=snoc d.rd d.nq (Do d a) } else d
theorem Eg {d:Aq} (h:Cd d=true):Dr d.np d.p=true∧B6 d.m d.ln d.f d.nr d.g d.bank=true∧A1 d.t d.c d.s d.ad d.pl d.nt d.tb d.nd d.dt=true∧Ci d.T d.P d.K d.B d.L=true∧Cs d.sh 0 255=true:=by
 unfold Cd at h;simp only [Bool.and_eq_true] at h;exact ⟨h.1,h.2.1,h.2.2.2.1,h.2.2.2.2.1,h.2.2.2.2.2.1⟩
section
variable {W:World} {lo N:Nat} {D:Nat→Nat→Prop} {u0 u1 u2 u3 u4 ov:Value} {gb cp:Nat→Nat} {g6 c6 g7 c7:Nat} {d:Aq}
theorem A3.mem (H:A3 W lo N D u0 u1 u2 u3 u4 ov gb cp g6 c6 g7 c7 d) {p q:Nat} {w2:Value} {bank:Int} {nr:Nat} {g:Nat→Int} (hM:Bw W (fun b=>p≤b∧b<q) (.agg #[w2,.i bank]) nr g bank) (hp:N≤p) (hl:lo≤N) (hpq:p≤q) (hq:q≤W.heap.size) :
  A3 W lo q (fun i b=>(i=2∧p≤b∧b<q)∨(i≠2∧D i b)) u0 u1 w2 u3 u4 ov gb cp g6 c6 g7 c7 { d with nr:=nr,g:=g,bank:=bank }:=by
 have nN:=H.nN;refine ⟨H.h0.mono (fun b _ h=>Or.inr ⟨by decide,h⟩),H.h1.mono (fun b _ h=>Or.inr ⟨by decide,h⟩),hM.mono (fun b _ h=>Or.inl ⟨rfl,h⟩),H.h3.mono (fun b _ h=>Or.inr ⟨by decide,h⟩),H.h4,fun b h=>Or.inr ⟨by decide,H.h4D b h⟩,H.h6,?_,H.h7,?_,?_,?_,by have:=H.n6; omega,by have:=H.n7; omega,hq,H.hps⟩
 ·rcases H.h6D with h | h
  ·exact Or.inl (Or.inr ⟨by decide,h⟩)
  ·exact Or.inr h
 ·rcases H.h7D with h | h
  ·exact Or.inl (Or.inr ⟨by decide,h⟩)
  ·exact Or.inr h
 ·intro i j b h1 h2
  rcases h1 with ⟨rfl,_,_⟩ | ⟨n1,h1⟩ <;> rcases h2 with ⟨rfl,_,_⟩ | ⟨n2,h2⟩
  ·rfl
  ·have:=H.bd _ _ h2; omega
  ·have:=H.bd _ _ h1; omega
  ·exact H.dis _ _ _ h1 h2
 ·intro i b h
  rcases h with ⟨rfl,_,_⟩ | ⟨_,h⟩
  ·omega
  ·have:=H.bd _ _ h; omega
end
def Bu (d:Aq) (a y:Int):Aq :=
 if rgN (a%65536)=2 then { d with c:=Jg true (rgP (a%65536)) y d.c,s:=Jh true (rgP (a%65536)) y d.s,ad:=Ji true (rgP (a%65536)) y d.ad,pl:=Jj true (rgP (a%65536)) y d.pl,tb:=Kh true (rgP (a%65536)) y d.ad d.tb } else if rgN (a%65536)=3 then { d with P:=I8 true d.P (rgP (a%65536)) y,L:=I9 true d.L (rgP (a%65536)) y,Q:=Ju true d.Q (rgP (a%65536)) y,R:=Jv true d.R (rgP (a%65536)) y } else if rgN (a%65536)=4 then { d with hd:=Gr y,sh:=Eo d.hd d.sh d.np d.p d.t y } else { d with g:=E3 true d.g (a%65536) y,bank:=Gl true d.m d.bank (a%65536) y }
structure Jcn (w:World) (d:Aq) (u0:Value) (ra0:Nat→Option Addr) (rc0:Nat→Nat) (a1:Option Addr) (c1:Nat) (a2:Option Addr) (c2:Nat) (a3:Option Addr) (c3:Nat) (a4:Option Addr) (c4:Nat) (u5:Value) (ra5:Nat→Option Addr) (rc5:Nat→Nat) (a6:Option Addr) (c6:Nat) (a7:Option Addr) (c7:Nat):Prop where
 r0:Ed w u0 d.m ra0 d.ln rc0 d.f
 r5:Ed w u5 d.mf ra5 d.lf rc5 d.fr
 n1:d.np≤9223372036854775807
 r1:Be .i64 w a1 d.np d.p
 n2:d.nr≤9223372036854775807
 r2:Be .i64 w a2 d.nr d.g
 n3:d.nt≤9223372036854775807
 r3:Be .i64 w a3 d.nt d.tb
 n4:d.nd≤9223372036854775807
 r4:Be .i64 w a4 d.nd d.dt
 n6:d.ns≤9223372036854775807
 r6:Be .i64 w a6 d.ns d.sm
 n7:d.nq≤9223372036854775807
 r7:Be .i64 w a7 d.nq d.rd
theorem Jcn.raw {w W:World} {d:Aq} {u0:Value} {ra0:Nat→Option Addr} {rc0:Nat→Nat} {a1:Option Addr} {c1:Nat} {a2:Option Addr} {c2:Nat} {a3:Option Addr} {c3:Nat} {a4:Option Addr} {c4:Nat} {u5:Value} {ra5:Nat→Option Addr} {rc5:Nat→Nat} {a6:Option Addr} {c6:Nat} {a7:Option Addr} {c7:Nat} (H:Jcn w d u0 ra0 rc0 a1 c1 a2 c2 a3 c3 a4 c4 u5 ra5 rc5 a6 c6 a7 c7) (hs:szD d≤1048576) (L:Below w.heap.size w W):Zb W u0 (.slice a1 d.np c1) (.slice a2 d.nr c2) (.slice a3 d.nt c3) (.slice a4 d.nd c4) u5 (.slice a6 d.ns c6) (.slice a7 d.nq c7) d:=by
 have e0:d.m+psum d.ln d.m≤1048576:=by unfold szD at hs; omega
 have e5:d.mf+psum d.lf d.mf≤1048576:=by unfold szD at hs; omega
 exact ⟨⟨_,(H.r0.ints e0).keep (Ab L Aj) (fun _ _ _ x=>x)⟩,⟨fun _ _=>True,Ints.keep (F:=fun _ _=>True) ⟨_,_,rfl,by unfold szD at hs; omega,H.r1,fun _ _ _=>trivial⟩ (Ab L Aj) (fun _ _ _ x=>x)⟩,⟨fun _ _=>True,Ints.keep (F:=fun _ _=>True) ⟨_,_,rfl,by unfold szD at hs; omega,H.r2,fun _ _ _=>trivial⟩ (Ab L Aj) (fun _ _ _ x=>x)⟩,⟨fun _ _=>True,Ints.keep (F:=fun _ _=>True) ⟨_,_,rfl,by unfold szD at hs; omega,H.r3,fun _ _ _=>trivial⟩ (Ab L Aj) (fun _ _ _ x=>x)⟩,⟨fun _ _=>True,Ints.keep (F:=fun _ _=>True) ⟨_,_,rfl,by unfold szD at hs; omega,H.r4,fun _ _ _=>trivial⟩ (Ab L Aj) (fun _ _ _ x=>x)⟩,⟨_,(H.r5.ints e5).keep (Ab L Aj) (fun _ _ _ x=>x)⟩,⟨fun _ _=>True,Ints.keep (F:=fun _ _=>True) ⟨_,_,rfl,by unfold szD at hs; omega,H.r6,fun _ _ _=>trivial⟩ (Ab L Aj) (fun _ _ _ x=>x)⟩,⟨fun _ _=>True,Ints.keep (F:=fun _ _=>True) ⟨_,_,rfl,by unfold szD at hs; omega,H.r7,fun _ _ _=>trivial⟩ (Ab L Aj) (fun _ _ _ x=>x)⟩⟩
theorem Ox {d:Aq} (hs:szD d≤1048576):d.m+psum d.ln d.m≤1048576∧d.mf+psum d.lf d.mf≤1048576:=by unfold szD at hs; constructor <;> omega
theorem infoAt {P:Program} {ty:TypeId} {n:Nat} {cs:Array Value} (h:(P.info? ty).map (·.size)=some n) (hs:cs.size=n):(P.info? ty).map (·.size)=some cs.size:=by rw [hs]; exact h
theorem Ih:(Tryz.prog.info? 39).map (·.size)=some 34:=by kernel_rfl
theorem Bh.agg {W:World} {D:Nat→Nat→Prop} {v:Value} {d:Aq} (H:Bh W D v d):∃ cs,v=.agg cs∧cs.size=34∧cs.all (·.oneCell')=true:=by
 obtain ⟨u0,u1,u2,u3,u4,u5,u6,u7,e,h0,h1,h2,h3,h4⟩:=H;obtain ⟨a0,b0,rfl⟩:=h0.form;obtain ⟨a1,b1,rfl⟩:=h1.two;obtain ⟨a2,b2,e2⟩:=h2.two;obtain ⟨a3,b3,a4,b4,e3⟩:=h3.two;obtain ⟨v5,v6,v7,e4,h5,h6,h7⟩:=h4;obtain ⟨a5,b5,rfl⟩:=h5.form;obtain ⟨a6,b6,rfl⟩:=h6.two;obtain ⟨a7,b7,rfl⟩:=h7.two;simp only [Value.agg.injEq,Array.mk.injEq,List.cons.injEq,and_true,true_and] at e2 e3 e4;obtain ⟨rfl,rfl⟩:=e3;obtain ⟨rfl,rfl,rfl⟩:=e4;subst e2;exact ⟨_,e,rfl,by first | kernel_rfl | simp [Value.oneCell']⟩
set_option maxHeartbeats 8000000
open Go.Sort
theorem Xh (w:World) (t:Int) (h0:0≤t) (h1:t≤20000):Calls Tryz.prog 85 #[.i t] w fun e w'=>e=.returned (.i (Va t))∧w'=w:=by
 have d1:(t+15).tdiv 64=(t+15)/64:=Int.tdiv_eq_ediv_of_nonneg (by omega);have d2:(t+64-48-1).tdiv 64=(t+64-48-1)/64:=Int.tdiv_eq_ediv_of_nonneg (by omega)
 go_enter Tryz.func85,Tryz.ntmps85
 go_wp2;go_ret;exact ⟨Az (by unfold Va; omega),rfl⟩
theorem Rq (w:World) (F:Nat→Nat→Prop) (u:Value) (m:Nat) (ln:Nat→Nat) (f:Nat→Nat→Int) (t:Int) (H:Ba .i64 w F u m ln f) (h0:0≤t) (h1:t≤20000):Calls Tryz.prog 56 #[u,.i t] w fun e w'=>e=.returned (.bool (Kv m ln t))∧Below w.heap.size w w':=by
 obtain ⟨a,cap,rfl,hn,-,hc⟩:=H
 obtain ⟨r,hr⟩:∃ r,Hid (r=Kv m ln t):=⟨_,rfl⟩
 rw [← hr.out]
 go_enter Tryz.func56,Tryz.ntmps56
 go_wp2
 go_loop [5] (fun i=>∃ q:Nat,q≤m∧i=.i q∧∀ i,i<q→ln i=48) (fun i=>m-(intOf i).toNat)
 case atStart=>exact ⟨0,Nat.zero_le _,rfl,fun i hi=>absurd hi (Nat.not_lt_zero _)⟩
 case round =>
  obtain ⟨q,hq,rfl,hok⟩:=hrel;have HO:=Ad hok;clear hok
  by_cases hlt:q<m
  ·obtain ⟨b,off,u,rfl,hcell,a',cap',rfl,hn',hrow,-⟩:=hc q hlt
   have hlt':(q:Int)<(m:Int):=by omega
   by_cases hl:ln q=48
   ·have hl':((ln q:Int) != 48)=false:=by simp; omega
    have HL:=Ad hl;clear hl;go_wp2
    go_round
    case rel =>
     refine ⟨q+1,by omega,by go_num,fun i hi=>?_⟩
     by_cases e:i=q
     ·rw [e]; exact An HL
     ·exact An HO i (by omega)
    case measure=>simp [intOf]; omega
   ·have hl':((ln q:Int) != 48)=true:=by simp; omega
    have HI:=Ad (hr.out.trans (Vb hlt hl));clear hl;go_wp2;go_ret;exact ⟨Ap (An HI).symm,Below.refl _ _⟩
  ·have hlt':¬ (q:Int)<(m:Int):=by omega
   have e:q=m:=by omega
   subst e;have HI:=Ad (hr.out.trans (Rp (An HO)));go_wp2_with fail;refine (Xh _ t h0 h1).mono ?_;rintro e w1 ⟨rfl,rfl⟩;go_wp2;go_ret;exact ⟨Ap (An HI).symm,Below.refl _ _⟩
theorem Tp (w:World) (D:Nat→Nat→Prop) (v:Value) (d:Aq) (H:Bh w D v d):Calls Tryz.prog 16 #[v] w fun e w'=>e=.returned (.bool (Cd d))∧Below w.heap.size w w':=by
 obtain ⟨u0,u1,u2,u3,u4,u5,u6,u7,rfl,h0,h1,h2,h3,h4⟩:=H;obtain ⟨v5,v6,v7,hv,h5,h6,h7⟩:=h4;simp only [Value.agg.injEq,Array.mk.injEq,List.cons.injEq,and_true] at hv;obtain ⟨rfl,rfl,rfl⟩:=hv;obtain ⟨y2,hy2,g2⟩:=h2.ints;simp only [Value.agg.injEq,Array.mk.injEq,List.cons.injEq,and_true] at hy2;subst hy2;obtain ⟨y3,y4,hy3,g3,g4⟩:=h3.ints;simp only [Value.agg.injEq,Array.mk.injEq,List.cons.injEq,and_true,true_and] at hy3;obtain ⟨rfl,rfl⟩:=hy3;have g0:=h0.ints;have g5:=h5.ints;obtain ⟨a6,c6,e6,s6⟩:=id h6;obtain ⟨a1,c1,e1,s1⟩:=id h1;subst e6;subst e1;have g1:=s1.ints c1;clear h0 h1 h2 h3 h5 h6 h7 s1 s6;have L0:Below w.heap.size w (w.alloc (.cells (kR d u0 (.slice a1 d.np c1) u2 u3 u4 u5 (.slice a6 d.ns c6) u7) 49)):=(Below.refl _ _).alloc (Nat.le_refl _) _
 have k0:=Al w (kR d u0 (.slice a1 d.np c1) u2 u3 u4 u5 (.slice a6 d.ns c6) u7) 49
 have KE:∀ {W:World},Below w.heap.size w W→∀ {F:Nat→Nat→Prop} {v:Value} {n:Nat} {f:Nat→Int},Ints .i64 w F v n f→Ints .i64 W F v n f:=fun L _ _ _ _ h=>h.keep (Ab L Aj) (fun _ _ _ x=>x)
 have KS:∀ {W:World},Below w.heap.size w W→∀ {F:Nat→Nat→Prop} {v:Value} {m:Nat} {ln:Nat→Nat} {f:Nat→Nat→Int},Ba .i64 w F v m ln f→Ba .i64 W F v m ln f:=fun L _ _ _ _ _ h=>h.keep (Ab L Aj) (fun _ _ _ x=>x)
 obtain ⟨b0,qb0⟩:∃ b,Hid (b=Dr d.np d.p):=⟨_,rfl⟩
 obtain ⟨b1,qb1⟩:∃ b,Hid (b=B6 d.m d.ln d.f d.nr d.g d.bank):=⟨_,rfl⟩
 obtain ⟨b2,qb2⟩:∃ b,Hid (b=It d.A d.X d.S d.Pc):=⟨_,rfl⟩
 obtain ⟨b3,qb3⟩:∃ b,Hid (b=A1 d.t d.c d.s d.ad d.pl d.nt d.tb d.nd d.dt):=⟨_,rfl⟩
 obtain ⟨b4,qb4⟩:∃ b,Hid (b=Ci d.T d.P d.K d.B d.L):=⟨_,rfl⟩
 obtain ⟨b5,qb5⟩:∃ b,Hid (b=Cs d.sh 0 255):=⟨_,rfl⟩
 obtain ⟨b6,qb6⟩:∃ b,Hid (b=(d.t==d.T)):=⟨_,rfl⟩
 obtain ⟨b7,qb7⟩:∃ b,Hid (b=Cs d.st 0 d.t):=⟨_,rfl⟩
 obtain ⟨b8,qb8⟩:∃ b,Hid (b=Kv d.mf d.lf d.t):=⟨_,rfl⟩
 obtain ⟨b9,qb9⟩:∃ b,Hid (b=((d.ns:Int)==d.t/16)):=⟨_,rfl⟩
 obtain ⟨r,hr⟩:∃ r,Hid (r=Cd d):=⟨_,rfl⟩
 rw [← hr.out]
 have HOK:Hid (r=(b0 && (b1 && (b2 && (b3 && (b4 && (b5 && (b6 && (b7 && (b8 && b9)))))))))):=by show _=_; rw [hr.out,Cd,qb0.out,qb1.out,qb2.out,qb3.out,qb4.out,qb5.out,qb6.out,qb7.out,qb8.out,qb9.out]
 clear hr
 go_enter Tryz.func16,Tryz.ntmps16
 go_upto_region 1 with (fail);generalize w.alloc (.cells (kR d u0 (.slice a1 d.np c1) u2 u3 u4 u5 (.slice a6 d.ns c6) u7) 49)=W0 at *;have c0:=Ag k0;go_wp2_with fail;clear c0;have HC:=Ad (Mg W0 _ _ d.np d.p (KE L0 g1));rw [← qb0.out] at HC;refine HC.out.mono ?_;clear HC;rintro e W1 ⟨rfl,hw⟩
 have L:Below W0.heap.size W0 W1:=by rw [hw]; exact Below.refl _ _
 clear hw;replace L0:=Ae L0 L;replace k0:=Aa k0 L (Ac k0);clear L;cases b0
 ·have HE:Hid (r=false):=by rw [HOK.out]; rfl
  have c0:=Ag k0;go_wp2;go_ret;exact ⟨Ap HE.out.symm,L0⟩
 have c0:=Ag k0;go_wp2_with fail;clear c0;have HC:=Ad (Kc W1 _ _ _ _ d.m d.ln d.f d.nr d.g d.bank (KS L0 g0) (KE L0 g2));rw [← qb1.out] at HC;refine HC.out.mono ?_;clear HC;rintro e W2 ⟨rfl,L⟩;replace L0:=Ae L0 L;replace k0:=Aa k0 L (Ac k0);clear L;cases b1
 ·have HE:Hid (r=false):=by rw [HOK.out]; rfl
  have c0:=Ag k0;go_wp2;go_ret;exact ⟨Ap HE.out.symm,L0⟩
 have c0:=Ag k0;go_wp2_with fail;clear c0;have HC:=Ad (Vs W2 d.A d.X d.S d.Pc d.Z d.N d.C d.I);rw [← qb2.out] at HC;refine HC.out.mono ?_;clear HC;rintro e W3 ⟨rfl,L⟩;replace L0:=Ae L0 L;replace k0:=Aa k0 L (Ac k0);clear L;cases b2
 ·have HE:Hid (r=false):=by rw [HOK.out]; rfl
  have c0:=Ag k0;go_wp2;go_ret;exact ⟨Ap HE.out.symm,L0⟩
 have c0:=Ag k0;go_wp2_with fail;clear c0;have HC:=Ad (Kg W3 _ _ d.t d.c d.s d.ad d.pl d.bl _ _ d.nt d.tb d.nd d.dt (KE L0 g3) (KE L0 g4));rw [← qb3.out] at HC;refine HC.out.mono ?_;clear HC;rintro e W4 ⟨rfl,L⟩;replace L0:=Ae L0 L;replace k0:=Aa k0 L (Ac k0);clear L;cases b3
 ·have HE:Hid (r=false):=by rw [HOK.out]; rfl
  have c0:=Ag k0;go_wp2;go_ret;exact ⟨Ap HE.out.symm,L0⟩
 have TR:=Ec qb3.out.symm;have t16:d.t.tdiv 16=d.t/16:=Int.tdiv_eq_ediv_of_nonneg TR.1;have c0:=Ag k0;go_wp2_with fail;clear c0;have HC:=Ad (Dd W4 d.T d.P d.K d.B d.L d.Q d.R);rw [← qb4.out] at HC;refine HC.out.mono ?_;clear HC;rintro e W5 ⟨rfl,L⟩;replace L0:=Ae L0 L;replace k0:=Aa k0 L (Ac k0);clear L;cases b4
 ·have HE:Hid (r=false):=by rw [HOK.out]; rfl
  have c0:=Ag k0;go_wp2;go_ret;exact ⟨Ap HE.out.symm,L0⟩
 have c0:=Ag k0;go_wp2_with fail;clear c0;have HC:=Ad (Ha W5 d.sh);rw [← qb5.out] at HC;refine HC.out.mono ?_;clear HC;rintro e W6 ⟨rfl,hw⟩
 have L:Below W5.heap.size W5 W6:=by rw [hw]; exact Below.refl _ _
 clear hw;replace L0:=Ae L0 L;replace k0:=Aa k0 L (Ac k0);clear L;cases b5
 ·have HE:Hid (r=false):=by rw [HOK.out]; rfl
  have c0:=Ag k0;go_wp2;go_ret;exact ⟨Ap HE.out.symm,L0⟩
 have g_b6:(d.t==d.T)=b6:=qb6.out.symm;cases b6
 ·have HE:Hid (r=false):=by rw [HOK.out]; rfl
  have c0:=Ag k0;go_wp2;go_ret;exact ⟨Ap HE.out.symm,L0⟩
 have c0:=Ag k0;go_wp2_with fail;clear c0;have HC:=Ad (Gj d.st 0 d.t W6);rw [← qb7.out] at HC;refine HC.out.mono ?_;clear HC;rintro e W7 ⟨rfl,hw⟩
 have L:Below W6.heap.size W6 W7:=by rw [hw]; exact Below.refl _ _
 clear hw;replace L0:=Ae L0 L;replace k0:=Aa k0 L (Ac k0);clear L;cases b7
 ·have HE:Hid (r=false):=by rw [HOK.out]; rfl
  have c0:=Ag k0;go_wp2;go_ret;exact ⟨Ap HE.out.symm,L0⟩
 have c0:=Ag k0;go_wp2_with fail;clear c0;have HC:=Ad (Rq W7 _ _ d.mf d.lf d.fr d.t (KS L0 g5) TR.1 TR.2);rw [← qb8.out] at HC;refine HC.out.mono ?_;clear HC;rintro e W8 ⟨rfl,L⟩;replace L0:=Ae L0 L;replace k0:=Aa k0 L (Ac k0);clear L;cases b8
 ·have HE:Hid (r=false):=by rw [HOK.out]; rfl
  have c0:=Ag k0;go_wp2;go_ret;exact ⟨Ap HE.out.symm,L0⟩
 have g_b9:((d.ns:Int)==d.t/16)=b9:=qb9.out.symm;cases b9
 ·have HE:Hid (r=false):=by rw [HOK.out]; rfl
  have c0:=Ag k0;go_wp2;go_ret;exact ⟨Ap HE.out.symm,L0⟩
 have HE:Hid (r=true):=by rw [HOK.out]; rfl
 have c0:=Ag k0;go_wp2;go_ret;exact ⟨Ap HE.out.symm,L0⟩
theorem Dm.agg {W:World} {lo:Nat} {v:Value} {d:Aq} (H:Dm W lo v d):∃ cs,v=.agg cs∧cs.size=34∧cs.all (·.oneCell')=true:=by
 obtain ⟨D,h,-⟩:=H.on;exact h.agg
theorem Dm.below {W W':World} {lo:Nat} {v:Value} {d:Aq} (H:Dm W lo v d) (L:Below W.heap.size W W'):Dm W' lo v d:=by
 obtain ⟨D,u0,u1,u2,u3,u4,ov,gb,cp,g6,c6,g7,c7,rfl,h⟩:=A3.of H;exact (h.below L).ow
theorem Dm.low {R:Nat→Nat→Prop} {W W':World} {lo:Nat} {v:Value} {d:Aq} (H:Dm W lo v d) (hw:Wrote R W W') (hn:∀ b o,R b o→b<lo):Dm W' lo v d:=by
 obtain ⟨D,u0,u1,u2,u3,u4,ov,gb,cp,g6,c6,g7,c7,rfl,h⟩:=A3.of H;exact (h.keepD hw (fun i b o x y=>by have:=h.bd _ _ x; have:=hn _ _ y; omega) (fun o y=>by have:=h.h6.parts.1; have:=hn _ _ y; omega) (fun o y=>by have:=h.h7.parts.1; have:=hn _ _ y; omega)).ow
end Go.Proofs.YtgcmimcalmjaaaaGreatDoor
