import Derived.Test.YtgcmimcalmjaaaaGreatDoorGR
namespace Go.Proofs.YtgcmimcalmjaaaaGreatDoor
set_option linter.unusedVariables false
open Go.ChangeShapes Go.WideShapes Go.ChangeAt Go.RowKit
def zero34:Array Value:=zR
def Rz:Aq :=
 { m:=0,ln:=fun _=>0,f:=fun _ _=>0,np:=0,p:=fun _=>0,nr:=0,g:=fun _=>0,bank:=0,A:=0,X:=0,S:=0,Pc:=0,Z:=false,N:=false,C:=false,I:=false,t:=0,c:=0,s:=0,ad:=0,pl:=0,bl:=false,nt:=0,tb:=fun _=>0,nd:=0,dt:=fun _=>0,T:=0,P:=0,K:=0,B:=0,L:=0,Q:=false,R:=false,hd:=false,sh:=0,nmi:=false,st:=0,mf:=0,lf:=fun _=>0,fr:=fun _ _=>0,ns:=0,sm:=fun _=>0,nq:=0,rd:=fun _=>0 }
theorem Co.noneL {W:World} {D:Nat→Prop} (f:Nat→Nat→Int):Co W D (.slice none 0 0) 0 (fun _=>0) f :=
 ⟨fun _=>none,fun _=>0,⟨⟨none,0,rfl,by omega,fun i hi=>absurd hi (Nat.not_lt_zero _)⟩,fun i hi=>absurd hi (Nat.not_lt_zero _),fun i j hi=>absurd hi (Nat.not_lt_zero _),by simp [psum]⟩,fun i hi=>absurd hi (Nat.not_lt_zero _),fun i hi=>absurd hi (Nat.not_lt_zero _),fun a cap e b o hF=>absurd hF (Bo _ _ _),fun i hi=>absurd hi (Nat.not_lt_zero _)⟩
theorem Sa {W:World} {D:Nat→Nat→Prop}:Bh W D (.agg zR) Rz :=
 ⟨_,_,_,_,_,_,_,_,rfl,Co.noneL _,⟨_,_,rfl,Cm.zero _ _⟩,⟨_,_,rfl,by show (0:Nat)≤_; omega,fun i hi=>absurd hi (Nat.not_lt_zero _),fun b o hF=>absurd hF (Bo _ _ _),fun b o hF=>absurd hF (Bo _ _ _)⟩,⟨_,_,_,_,rfl,Cm.zero _ _,Cm.zero _ _,fun b o h=>absurd h (Bo _ _ _)⟩,⟨_,_,_,rfl,Co.noneL _,⟨_,_,rfl,Cm.zero _ _⟩,⟨_,_,rfl,Cm.zero _ _⟩⟩⟩
set_option linter.unusedSimpArgs false
def Ej (f:Nat→Nat) (n x:Nat):Nat→Nat:=fun i=>if i=n then x else f i
def Iy (f:Nat→Nat→Int) (n:Nat) (x:Nat→Int):Nat→Nat→Int:=fun i=>if i=n then x else f i
def B8 (d:Aq):Aq:={ d with
 t:=Ga d.t,bl:=Ho d.t d.bl,nd:=tkM d.t d.nd,dt:=Kz d.t d.tb d.s d.pl d.nd d.dt
 T:=d.T+1,K:=Ft d.P d.K,B:=Fa d.K d.B d.L,L:=Fu d.T d.L,R:=Gq d.T d.L d.Q d.R
 nmi:=d.nmi || Py d.t d.c
 mf:=if d.t%64=48 then d.mf+1 else d.mf
 lf:=if d.t%64=48 then Ej d.lf d.mf d.nd else d.lf
 fr:=if d.t%64=48 then Iy d.fr d.mf d.dt else d.fr
 ns:=if Dx d.T=true then d.ns+1 else d.ns
 sm:=if Dx d.T=true then snoc d.sm d.ns (Kq d.T d.K d.B d.L) else d.sm }
def tickN:Nat→Aq→Aq
 | 0,d=>d
 | k+1,d=>tickN k (B8 d)
theorem Nc (k:Nat) (d:Aq):tickN (k+1) d=B8 (tickN k d):=by
 induction k generalizing d with
 | zero=>rfl
 | succ k ih=>show tickN (k+1) (B8 d)=_; rw [ih]; rfl
def withSt (d:Aq) (s:Int):Aq:={ d with st:=s }
theorem Zu (k:Nat) (d:Aq) (s:Int):tickN k (withSt d s)=withSt (tickN k d) s:=by
 induction k generalizing d with
 | zero=>rfl
 | succ k ih=>exact ih (B8 d)
structure Hj (d:Aq):Prop where
 ppu:Iv d.t d.c d.s d.ad d.pl d.nt d.tb d.nd d.dt
 apu:If d.T d.P d.K d.B d.L
 same:d.t=d.T
 lf:∀ i,i<d.mf→d.lf i=48
 mf:(d.mf:Int)=Va d.t
 ns:(d.ns:Int)=d.t/16
theorem Hj.mfs {d:Aq} (h:Hj d):d.mf<1048576:=by
 have h0:=h.ppu.t0;have h1:=h.ppu.t1;have:=h.mf;unfold Va at this
 omega
theorem Hj.nss {d:Aq} (h:Hj d):d.ns<1048576:=by
 have h0:=h.ppu.t0;have h1:=h.ppu.t1;have:=h.ns
 omega
theorem Hj.nd48 {d:Aq} (h:Hj d) (h48:d.t%64=48):d.nd=48:=by
 have h1:=h.ppu.dots;unfold Dk at h1;rw [if_neg (by omega)] at h1
 omega
theorem Uo {T P C B L:Int} (h:If T P C B L) (hT:T≠20000):If (T+1) P (Ft P C) (Fa C B L) (Fu T L):=by
 obtain ⟨t0,t1,p0,p1,c0,c1,b0,b1,l0,l1⟩:=h;unfold Ft Fa Fu
 refine ⟨?_,?_,p0,p1,?_,?_,?_,?_,?_,?_⟩ <;> (try split) <;> omega
theorem Hj.tick {d:Aq} (h:Hj d) (ht:d.t≠20000):Hj (B8 d):=by
 have h0:=h.ppu.t0;have h1:=h.ppu.t1;have hs:=h.same;have e1:Ga d.t=d.t+1:=if_neg ht;have hf:=h.mf;have hn:=h.ns;unfold Va at hf;refine ⟨Td h.ppu,Uo h.apu (by omega),?_,?_,?_,?_⟩
 ·show Ga d.t=d.T+1
  rw [e1,hs]
 ·intro i hi
  show (if d.t%64=48 then Ej d.lf d.mf d.nd else d.lf) i=48
  replace hi:i<(if d.t%64=48 then d.mf+1 else d.mf):=hi
  by_cases h48:d.t%64=48
  ·rw [if_pos h48] at hi ⊢
   unfold Ej
   by_cases e:i=d.mf
   ·rw [if_pos e]; exact h.nd48 h48
   ·rw [if_neg e]; exact h.lf i (by omega)
  ·rw [if_neg h48] at hi ⊢
   exact h.lf i hi
 ·show (((if d.t%64=48 then d.mf+1 else d.mf):Nat):Int)=Va (Ga d.t)
  rw [e1];unfold Va
  split <;> omega
 ·show (((if Dx d.T=true then d.ns+1 else d.ns):Nat):Int)=Ga d.t/16
  rw [e1];unfold Dx;simp only [decide_eq_true_eq]
  split <;> omega
structure OkL (d:Aq):Prop where
 ok:Cd d=true
 t:Hj d
 img:Fx d.m d.ln d.f=true
 nr:d.nr=512
 bank:0≤d.bank∧d.bank≤(d.m:Int)-1
 row:∀ j,j<512→0≤d.g j∧d.g j≤255
 pads:Dr d.np d.p=true
 cpu:(0≤d.A∧d.A≤255)∧(0≤d.X∧d.X≤255)∧(0≤d.S∧d.S≤255)∧0≤d.Pc∧d.Pc≤65535
 sh:0≤d.sh∧d.sh≤255
 st:0≤d.st∧d.st≤d.t
theorem Up {d:Aq} (h:Cd d=true):OkL d:=by
 have h':=h;unfold Cd It at h';simp only [Bool.and_eq_true,beq_iff_eq,Dn] at h';obtain ⟨p,m,⟨⟨⟨cA,cX⟩,cS⟩,cP⟩,u,a,sh,e,st,fr,ns⟩:=h';obtain ⟨mi,mn,mb,mr⟩:=Fg m;have hf:=of_decide_eq_true fr;exact ⟨h,⟨Ev u,Y6 a,e,hf.1,hf.2,ns⟩,mi,mn,mb,mr,p,⟨cA,cX,cS,cP⟩,sh,st⟩
def Dt (d:Aq):A4:=⟨d.A,d.X,d.S,d.Pc,d.Z,d.N,d.C,d.I⟩
def putCpu (d:Aq) (g:Nat→Int) (c:A4):Aq:={ d with g:=g,A:=c.A,X:=c.X,S:=c.S,Pc:=c.Pc,Z:=c.Z,N:=c.N,C:=c.C,I:=c.I }
def entC (d:Aq) (vec:Int):A4:=⟨d.A,d.X,dec8 (dec8 (dec8 d.S)),Hc d.m d.ln d.f (enterG d.g d.S d.Pc d.Z d.N d.C d.I) d.bank vec,d.Z,d.N,d.C,true⟩
def Nf (d:Aq) (vec:Int):Aq:=putCpu d (enterG d.g d.S d.Pc d.Z d.N d.C d.I) (entC d vec)
def X2 (d:Aq):Int:=peekV d.m d.ln d.f d.nr d.g d.bank d.Pc
def opA (d:Aq):Int:=Ib (peekV d.m d.ln d.f d.nr d.g d.bank) d.Pc
def Cj (d:Aq) (op arg:Int):Aq:=if B9 op=1 then Cn d (F9 op arg d.X) else if B9 op=2 then Bu d (F9 op arg d.X) (Lt op d.A) else d
def Gg (d:Aq) (op arg:Int):Int:=if B9 op=1 then Do d (F9 op arg d.X) else 0
def Jbv (d:Aq) (op arg x:Int):Aq:=putCpu d (Ew d.g (Dt d) op) (Dy d.g (Dt d) op arg x)
def opD (d:Aq) (op arg:Int):Aq:=Jbv (Cj d op arg) op arg (Gg d op arg)
def Sb (x:Int):Int:=if 0≤x∧x≤29 then G8.getD x.toNat 2 else 2
def noNmi (d:Aq):Aq:={ d with nmi:=false }
def actD (d:Aq):Aq:=if d.nmi=true then Nf (noNmi d) 65530 else if (d.R && !d.I)=true then Nf d 65534 else opD d (X2 d) (opA d)
def actN (d:Aq):Int:=if d.nmi=true then 7 else if (d.R && !d.I)=true then 7 else Sb (X2 d)
def D8 (d:Aq):Bool:=decide ((actD d).t+actN d≤20000)
def Ij (d:Aq):Aq:=withSt (tickN (actN d).toNat (actD d)) ((tickN (actN d).toNat (actD d)).st+1)
theorem Jbq (x:Int):0≤Sb x∧Sb x≤6:=by
 unfold Sb;split
 ·rename_i h
  have key:∀ k:Fin 30,0≤G8.getD k.1 2∧G8.getD k.1 2≤6:=by decide
  exact key ⟨x.toNat,by omega⟩
 ·omega
theorem J6 (d:Aq):0≤actN d∧actN d≤7:=by
 unfold actN;have:=Jbq (X2 d)
 repeat' split
 all_goals omega
theorem Hj.put {d:Aq} (h:Hj d) (g:Nat→Int) (c:A4):Hj (putCpu d g c):=⟨h.ppu,h.apu,h.same,h.lf,h.mf,h.ns⟩
theorem Hj.read {d:Aq} (h:Hj d) (a:Int):Hj (Cn d a):=by
 unfold Cn;split
 ·have ha:0≤Mb true (rgP (a%65536)) d.ad∧Mb true (rgP (a%65536)) d.ad≤15:=by unfold Mb; split; omega; exact ⟨h.ppu.a0,h.ppu.a1⟩
  exact ⟨⟨h.ppu.t0,h.ppu.t1,h.ppu.c0,h.ppu.c1,h.ppu.s0,h.ppu.s1,ha.1,ha.2,h.ppu.p0,h.ppu.p1,h.ppu.n16,h.ppu.dots,h.ppu.tab,h.ppu.dot⟩,h.apu,h.same,h.lf,h.mf,h.ns⟩
 ·split
  ·exact ⟨h.ppu,h.apu,h.same,h.lf,h.mf,h.ns⟩
  ·split
   ·exact ⟨h.ppu,h.apu,h.same,h.lf,h.mf,h.ns⟩
   ·exact h
theorem Sc {T P C B L:Int} (h:If T P C B L) (reg v:Int):If T (I8 true P reg v) C B (I9 true L reg v):=by
 obtain ⟨t0,t1,p0,p1,c0,c1,b0,b1,l0,l1⟩:=h;unfold I8 I9
 refine ⟨t0,t1,?_,?_,c0,c1,b0,b1,?_,?_⟩ <;> split <;> omega
theorem Hj.write {d:Aq} (h:Hj d) (a y:Int):Hj (Bu d a y):=by
 unfold Bu;split
 ·exact ⟨Q7 h.ppu _ _,h.apu,h.same,h.lf,h.mf,h.ns⟩
 ·split
  ·exact ⟨h.ppu,Sc h.apu _ _,h.same,h.lf,h.mf,h.ns⟩
  ·split
   ·exact ⟨h.ppu,h.apu,h.same,h.lf,h.mf,h.ns⟩
   ·exact ⟨h.ppu,h.apu,h.same,h.lf,h.mf,h.ns⟩
theorem Hj.reach {d:Aq} (h:Hj d) (op arg:Int):Hj (Cj d op arg):=by
 unfold Cj;split
 ·exact h.read _
 ·split
  ·exact h.write _ _
  ·exact h
theorem Hj.act {d:Aq} (h:Hj d):Hj (actD d):=by
 unfold actD;split
 ·exact Hj.put (d:=noNmi d) ⟨h.ppu,h.apu,h.same,h.lf,h.mf,h.ns⟩ _ _
 ·split
  ·exact h.put _ _
  ·exact (h.reach _ _).put _ _
theorem Uq (d:Aq) (a:Int):(Cn d a).t=d.t∧(Cn d a).st=d.st∧(Cn d a).nr=d.nr∧(Cn d a).g=d.g∧(Cn d a).bank=d.bank∧Dt (Cn d a)=Dt d∧(Cn d a).nq≤d.nq+1:=by
 unfold Cn;split
 ·exact ⟨rfl,rfl,rfl,rfl,rfl,rfl,Nat.le_refl _⟩
 ·split
  ·exact ⟨rfl,rfl,rfl,rfl,rfl,rfl,Nat.le_refl _⟩
  ·split
   ·exact ⟨rfl,rfl,rfl,rfl,rfl,rfl,Nat.le_refl _⟩
   ·exact ⟨rfl,rfl,rfl,rfl,rfl,rfl,Nat.le_succ _⟩
theorem Zv {g:Nat→Int} (h:∀ j,j<512→0≤g j∧g j≤255) (ok:Bool) (a y:Int):∀ j,j<512→0≤E3 ok g a y j∧E3 ok g a y j≤255:=by
 intro j hj;have h1:=h j hj;unfold E3;split
 ·unfold Fh
  split <;> omega
 ·exact h1
theorem Sd (d:Aq) (a y:Int) (hr:∀ j,j<512→0≤d.g j∧d.g j≤255):(Bu d a y).t=d.t∧(Bu d a y).st=d.st∧(Bu d a y).nr=d.nr∧(∀ j,j<512→0≤(Bu d a y).g j∧(Bu d a y).g j≤255)∧Dt (Bu d a y)=Dt d∧(Bu d a y).nq=d.nq:=by
 unfold Bu;split
 ·exact ⟨rfl,rfl,rfl,hr,rfl,rfl⟩
 ·split
  ·exact ⟨rfl,rfl,rfl,hr,rfl,rfl⟩
  ·split
   ·exact ⟨rfl,rfl,rfl,hr,rfl,rfl⟩
   ·exact ⟨rfl,rfl,rfl,Zv hr _ _ _,rfl,rfl⟩
theorem Ik (d:Aq) (op arg:Int) (hr:∀ j,j<512→0≤d.g j∧d.g j≤255):(Cj d op arg).t=d.t∧(Cj d op arg).st=d.st∧(Cj d op arg).nr=d.nr∧(∀ j,j<512→0≤(Cj d op arg).g j∧(Cj d op arg).g j≤255)∧Dt (Cj d op arg)=Dt d∧(Cj d op arg).nq≤d.nq+1:=by
 unfold Cj;split
 ·obtain ⟨h1,h2,h3,h4,h5,h6,h7⟩:=Uq d (F9 op arg d.X)
  exact ⟨h1,h2,h3,by rw [h4]; exact hr,h6,h7⟩
 ·split
  ·obtain ⟨h1,h2,h3,h4,h5,h6⟩:=Sd d (F9 op arg d.X) (Lt op d.A) hr
   exact ⟨h1,h2,h3,h4,h5,by omega⟩
  ·exact ⟨rfl,rfl,rfl,hr,rfl,Nat.le_succ _⟩
theorem Ir (d:Aq) (hr:∀ j,j<512→0≤d.g j∧d.g j≤255):(actD d).t=d.t∧(actD d).st=d.st∧(actD d).nq≤d.nq+1:=by
 unfold actD;split
 ·exact ⟨rfl,rfl,Nat.le_succ _⟩
 ·split
  ·exact ⟨rfl,rfl,Nat.le_succ _⟩
  ·obtain ⟨h1,h2,h3,h4,h5,h6⟩:=Ik d (X2 d) (opA d) hr
   exact ⟨h1,h2,h6⟩
theorem La:∀ (k:Nat) (d:Aq),d.t+k≤20000→(tickN k d).t=d.t+k
 | 0,d,_=>by simp [tickN]
 | k+1,d,h=>by
  have e:(B8 d).t=d.t+1:=if_neg (by omega)
  show (tickN k (B8 d)).t=_
  rw [La k (B8 d) (by rw [e]; omega),e]
  omega
theorem Hj.ticks:∀ (k:Nat) {d:Aq},Hj d→d.t+k≤20000→Hj (tickN k d)
 | 0,d,h,_=>h
 | k+1,d,h,hk=>by
  have e:(B8 d).t=d.t+1:=if_neg (by omega);exact Hj.ticks k (h.tick (by omega)) (by rw [e]; omega)
def spare (u:Value) (b o:Nat):Prop:=∃ n c,u=.slice (some ⟨b,0,none⟩) n c∧n≤o
theorem X3 (W:World) {o:Oper} {a:Act} {K:Act→World→Prop} {Q:Exit→Act→World→Prop} (s x:Operand) (hop:o.op=Op.call { callee:=Callee.builtin Builtin.append,args:=#[s,x],argTypes:=#[25,25] })
  (lo g n c:Nat) (f:Nat→Int) (hs:a.eval s=.slice (some ⟨g,0,none⟩) n c) (R:Row W lo g n c f) (hn:n<1048576) (q:Nat) (y:Int) (hx:a.eval x=.slice (some ⟨q,0,none⟩) 1 1) (hq:W.cell? ⟨q,0,none⟩=some (.i y))
  (h:∀ g' c' W',Row W' lo g' (n+1) c' (snoc f n y)→Wrote (spare (.slice (some ⟨g,0,none⟩) n c)) W W'→((g'=g∧n+1≤c)∨W.heap.size≤g')→K (a.put o.dst (.slice (some ⟨g',0,none⟩) (n+1) c')) W'):o.wp Tryz.prog a W K Q:=by
 obtain ⟨i0,hi,hz0,hz1,hz2⟩:=info_parts Is;have hp:=R.parts
 have hnews:∀ j u,[Value.i y][j]?=some u→W.cell? ((⟨q,0,none⟩:Addr).add j)=some u:=fun j u hh=>by
  cases j with
  | zero=>simp at hh; rw [← hh]; exact hq
  | succ j=>simp at hh
 by_cases hr:n+1≤c
 ·have hsp:(W.cell? ⟨g,n,none⟩).isSome=true∧W.frozen? ⟨g,n,none⟩=false:=by
   rcases R.own.2 with ⟨e,_⟩ | ⟨g',cap,cur,hv,hb,hg,h1,h2,h3,h4⟩
   ·cases e
   ·simp only [Value.slice.injEq,Option.some.injEq,Addr.mk.injEq,and_true,true_and] at hv
    obtain ⟨rfl,rfl⟩:=hv;refine ⟨?_,As hg n⟩;rw [Ag hg n,Array.getElem?_eq_getElem (by omega)]
    rfl
  have hrun:=run_append_room_cells (P:=Tryz.prog) W 25 o.type 3 i0 Tryz.underlying25 hi g 0 n c ⟨q,0,none⟩ 1 1 [.i y] (by rw [hz1]; rfl) hnews (fun u hu=>by simp at hu; rw [hu]; rfl) hr
   (fun j hj=>by have:j=0:=(by simpa using hj); subst this; rw [hz1]; simpa using hsp.1) (fun j hj=>by have:j=0:=(by simpa using hj); subst this; rw [hz1]; simpa using hsp.2)
  rw [hz1] at hrun;unfold Oper.wp
  simp [execOp,hop,resolve,invoke,builtin,hs,hx,hrun,Result.andThen,World.setCells]
  exact h g c _ (R.more hr hn y) (Wrote.setCell (R:=spare (.slice (some ⟨g,0,none⟩) n c)) (Wrote.refl _ W) (fun _=>⟨n,c,rfl,Nat.le_refl _⟩) _) (Or.inl ⟨rfl,hr⟩)
 ·obtain ⟨v',w',hrun,r1,r2⟩:=run_append_arg_grows (P:=Tryz.prog) W 25 o.type 3 i0 (.i 0) 1 8 Tryz.underlying25 hi hz0 hz1 hz2 rfl (by decide) ⟨g,0,none⟩ n c (rowVals n f) (by rw [A2,Nat.mul_one]) (Cy R.sl.row) ⟨q,0,none⟩ 1 1 [.i y] rfl hnews (by omega) (by unfold maxLen; omega) (by omega)
  rw [E6] at r1;obtain ⟨g',cap2,rfl,hg,hlt⟩:=r1.form (by omega);have L:Below W.heap.size W w':=(Below.refl _ _).grown r2 (Nat.le_refl _) (fun _ e=>by cases e);unfold Oper.wp
  simp [execOp,hop,resolve,invoke,builtin,hs,hx,hrun,Result.andThen]
  exact h g' cap2 w' ((Row.mk r1 (by omega)).mono (by omega)) (Ab L _) (Or.inr hg)
theorem Se (W:World) {o:Oper} {a:Act} {K:Act→World→Prop} {Q:Exit→Act→World→Prop} (s x:Operand) (hop:o.op=Op.call { callee:=Callee.builtin Builtin.append,args:=#[s,x],argTypes:=#[25,25] })
  (lo:Nat) (o7:Option Nat) (u:Value) (n:Nat) (f:Nat→Int) (hs:a.eval s=u) (R:A5 W lo o7 u n f) (hn:n<1048576) (hlo:lo≤W.heap.size) (q:Nat) (y:Int) (hx:a.eval x=.slice (some ⟨q,0,none⟩) 1 1) (hq:W.cell? ⟨q,0,none⟩=some (.i y))
  (h:∀ g' c' W',A5 W' lo (some g') (.slice (some ⟨g',0,none⟩) (n+1) c') (n+1) (snoc f n y)→Wrote (spare u) W W'→(o7=some g'∨W.heap.size≤g')→K (a.put o.dst (.slice (some ⟨g',0,none⟩) (n+1) c')) W'):o.wp Tryz.prog a W K Q:=by
 cases o7 with
 | some g =>
  obtain ⟨c,rfl,r⟩:=R;exact X3 W s x hop lo g n c f hs r hn q y hx hq (fun g' c' W' r1 r2 r3=>h g' c' W' ⟨c',rfl,r1⟩ r2 (by rcases r3 with ⟨e,-⟩ | e; (left; rw [e]); (right; exact e)))
 | none =>
  obtain ⟨rfl,rfl⟩:=R;obtain ⟨i0,hi,hz0,hz1,hz2⟩:=info_parts Is
  have hnews:∀ j u,[Value.i y][j]?=some u→W.cell? ((⟨q,0,none⟩:Addr).add j)=some u:=fun j u hh=>by
   cases j with
   | zero=>simp at hh; rw [← hh]; exact hq
   | succ j=>simp at hh
  have own:W.ownsRow lo 3 1 (.slice none 0 0) 0 []:=⟨rfl,Or.inl ⟨rfl,rfl⟩⟩
  obtain ⟨g',c',W',hrun,r1,r2,r3,r4⟩:=run_append_lies (P:=Tryz.prog) (w:=W) 25 o.type lo 3 i0 (.i 0) 1 8 Tryz.underlying25 hi hz0 hz1 hz2 rfl (by decide) (.slice none 0 0) 0 [] own ⟨q,0,none⟩ 1 1 [.i y] rfl hnews (fun u hu=>by simp at hu; rw [hu]; rfl) (by omega) (by unfold maxLen; omega) (by omega) hlo W.heap.size rfl;have L:Below W.heap.size W W':=(Below.refl _ _).grown r2 (Nat.le_refl _) (fun _ e=>by cases e)
  have e1:rowVals 1 (snoc f 0 y)=[.i y]:=by simp [rowVals,snoc]
  unfold Oper.wp
  simp [execOp,hop,resolve,invoke,builtin,hs,hx,hrun,Result.andThen]
  exact h g' c' W' ⟨c',rfl,by rw [Nat.zero_add,e1]; exact r1,by omega⟩ (Ab L _) (Or.inr (by rcases r3 with r3 | r3; cases r3; omega))
theorem Eh (W:World) {ops:Array Oper} {rest:List Oper} {o:Oper} {a:Act} {Q:Exit→Act→World→Prop} (hg:o.guard=none) (s x:Operand) (hop:o.op=Op.call { callee:=Callee.builtin Builtin.append,args:=#[s,x],argTypes:=#[25,25] })
  (lo:Nat) (o7:Option Nat) (u:Value) (n:Nat) (f:Nat→Int) (hs:a.eval s=u) (R:A5 W lo o7 u n f) (hn:n<1048576) (hlo:lo≤W.heap.size) (q:Nat) (y:Int) (hx:a.eval x=.slice (some ⟨q,0,none⟩) 1 1) (hq:W.cell? ⟨q,0,none⟩=some (.i y))
  (h:∀ g' c' W',A5 W' lo (some g') (.slice (some ⟨g',0,none⟩) (n+1) c') (n+1) (snoc f n y)→Wrote (spare u) W W'→(o7=some g'∨W.heap.size≤g')→wpList Tryz.prog ops Q rest (a.put o.dst (.slice (some ⟨g',0,none⟩) (n+1) c')) W'):wpList Tryz.prog ops Q (o :: rest) a W :=
 wpList_plain hg fun K hK=>Se W s x hop lo o7 u n f hs R hn hlo q y hx hq (fun g c W' r1 r2 r3=>hK _ _ (h g c W' r1 r2 r3))
theorem X4 (W:World) {o:Oper} {a:Act} {K:Act→World→Prop} {Q:Exit→Act→World→Prop} (s x:Operand) (hop:o.op=Op.call { callee:=Callee.builtin Builtin.append,args:=#[s,x],argTypes:=#[22,22] })
  (lo:Nat) (ov:Value) (n:Nat) (vs:List Value) (hs:a.eval s=ov) (own:W.ownsRow lo 25 1 ov n vs) (hn:n<1048576) (hlo:lo≤W.heap.size) (q:Nat) (y:Value) (hy:y.oneCell'=true) (hx:a.eval x=.slice (some ⟨q,0,none⟩) 1 1) (hq:W.cell? ⟨q,0,none⟩=some y)
  (h:∀ g' c' W',W'.ownsRow lo 25 1 (.slice (some ⟨g',0,none⟩) (n+1) c') (n+1) (vs++[y])→Wrote (spare ov) W W'→(ov.ownBlock=some g'∨W.heap.size≤g')→K (a.put o.dst (.slice (some ⟨g',0,none⟩) (n+1) c')) W'):o.wp Tryz.prog a W K Q:=by
 obtain ⟨i0,hi,hz0,hz1,hz2⟩:=info_parts Jl
 have hl:vs.length=n:=by have:=own.1; omega
 have hnews:∀ j u,[y][j]?=some u→W.cell? ((⟨q,0,none⟩:Addr).add j)=some u:=fun j u hh=>by
  cases j with
  | zero=>simp at hh; rw [← hh]; exact hq
  | succ j=>simp at hh
 have h1:∀ u∈[y],u.oneCell'=true:=fun u hu=>by simp at hu; rw [hu]; exact hy
 rcases id own.2 with ⟨e,e0⟩ | ⟨g,c,cur,hv,hb,hg,k1,k2,k3,k4⟩
 ·obtain ⟨g',c',W',hrun,r1,r2,r3,r4⟩:=run_append_lies (P:=Tryz.prog) (w:=W) 22 o.type lo 25 i0 (.slice none 0 0) 1 24 Tryz.underlying22 hi hz0 hz1 hz2 rfl (by decide) ov n vs own ⟨q,0,none⟩ 1 1 [y] rfl hnews h1 (by omega) (by unfold maxLen; omega) (by omega) hlo W.heap.size rfl
  have hb:ov.ownBlock=none:=by rw [e]; rfl
  rw [hb] at r2 r3;have L:Below W.heap.size W W':=(Below.refl _ _).grown r2 (Nat.le_refl _) (fun _ e=>by cases e);unfold Oper.wp
  simp [execOp,hop,resolve,invoke,builtin,hs,hx,hrun,Result.andThen]
  exact h g' c' W' r1 (Ab L _) (Or.inr (by rcases r3 with r3 | r3; cases r3; omega))
 ·subst hv
  have hob:(Value.slice (some ⟨g,0,none⟩) n c).ownBlock=some g:=rfl;have hgl:=Ac hg
  by_cases hr:n+1≤c
  ·have hsp:(W.cell? ⟨g,n,none⟩).isSome=true∧W.frozen? ⟨g,n,none⟩=false:=by
    refine ⟨?_,As hg n⟩;rw [Ag hg n,Array.getElem?_eq_getElem (by omega)]
    rfl
   have hrun:=run_append_room_cells (P:=Tryz.prog) W 22 o.type 25 i0 Tryz.underlying22 hi g 0 n c ⟨q,0,none⟩ 1 1 [y] (by rw [hz1]; rfl) hnews h1 hr
    (fun j hj=>by have:j=0:=(by simpa using hj); subst this; rw [hz1]; simpa using hsp.1) (fun j hj=>by have:j=0:=(by simpa using hj); subst this; rw [hz1]; simpa using hsp.2)
   rw [hz1] at hrun;unfold Oper.wp
   simp [execOp,hop,resolve,invoke,builtin,hs,hx,hrun,Result.andThen,World.setCells]
   exact h g c _ (Rn own hr y) (Wrote.setCell (R:=spare (.slice (some ⟨g,0,none⟩) n c)) (Wrote.refl _ W) (fun _=>⟨n,c,rfl,Nat.le_refl _⟩) _) (Or.inl hob)
  ·obtain ⟨v',w',hrun,r1,r2⟩:=run_append_arg_grows (P:=Tryz.prog) W 22 o.type 25 i0 (.slice none 0 0) 1 24 Tryz.underlying22 hi hz0 hz1 hz2 rfl (by decide) ⟨g,0,none⟩ n c vs (by rw [hl,Nat.mul_one]) (Gs own) ⟨q,0,none⟩ 1 1 [y] rfl hnews (by omega) (by unfold maxLen; omega) (by omega)
   obtain ⟨g',cap2,rfl,hg',hlt⟩:=r1.form (by omega);have L:Below W.heap.size W w':=(Below.refl _ _).grown r2 (Nat.le_refl _) (fun _ e=>by cases e);unfold Oper.wp
   simp [execOp,hop,resolve,invoke,builtin,hs,hx,hrun,Result.andThen]
   exact h g' cap2 w' (Mk r1 hlo) (Ab L _) (Or.inr hg')
theorem N4 (W:World) {ops:Array Oper} {rest:List Oper} {o:Oper} {a:Act} {Q:Exit→Act→World→Prop} (hg:o.guard=none) (s x:Operand) (hop:o.op=Op.call { callee:=Callee.builtin Builtin.append,args:=#[s,x],argTypes:=#[22,22] })
  (lo:Nat) (ov:Value) (n:Nat) (vs:List Value) (hs:a.eval s=ov) (own:W.ownsRow lo 25 1 ov n vs) (hn:n<1048576) (hlo:lo≤W.heap.size) (q:Nat) (y:Value) (hy:y.oneCell'=true) (hx:a.eval x=.slice (some ⟨q,0,none⟩) 1 1) (hq:W.cell? ⟨q,0,none⟩=some y)
  (h:∀ g' c' W',W'.ownsRow lo 25 1 (.slice (some ⟨g',0,none⟩) (n+1) c') (n+1) (vs++[y])→Wrote (spare ov) W W'→(ov.ownBlock=some g'∨W.heap.size≤g')→wpList Tryz.prog ops Q rest (a.put o.dst (.slice (some ⟨g',0,none⟩) (n+1) c')) W'):wpList Tryz.prog ops Q (o :: rest) a W :=
 wpList_plain hg fun K hK=>X4 W s x hop lo ov n vs hs own hn hlo q y hy hx hq (fun g c W' r1 r2 r3=>hK _ _ (h g c W' r1 r2 r3))
def RL (z:Nat) (u4 u5 u6 u7:Value) (b o:Nat):Prop:=b=z∨spare u4 b o∨spare u5 b o∨spare u6 b o∨spare u7 b o
structure Goes (w W:World) (z:Nat) (a4 a5 a6 a7 b4 b5 b6 b7:Value):Prop where
 wr:Wrote (RL z a4 a5 a6 a7) w W
 sp:∀ b o,b<w.heap.size→RL z b4 b5 b6 b7 b o→RL z a4 a5 a6 a7 b o
section
variable {w V W:World} {z:Nat} {a4 a5 a6 a7 b4 b5 b6 b7 c4 c5 c6 c7:Value}
theorem Goes.refl (w:World) (z:Nat) (a4 a5 a6 a7:Value):Goes w w z a4 a5 a6 a7 a4 a5 a6 a7:=⟨Wrote.refl _ _,fun _ _ _ h=>h⟩
theorem Goes.trans (h:Goes w V z a4 a5 a6 a7 b4 b5 b6 b7) (k:Goes V W z b4 b5 b6 b7 c4 c5 c6 c7):Goes w W z a4 a5 a6 a7 c4 c5 c6 c7:=by
 have hs:=h.wr.size;refine ⟨⟨k.wr.os.trans h.wr.os,k.wr.tape.trans h.wr.tape,k.wr.output.trans h.wr.output,Nat.le_trans hs k.wr.size,fun b hb hr=>?_,fun b o hb hr=>?_,fun b o hb=>?_⟩,fun b o hb hc=>h.sp b o hb (k.sp b o (by omega) hc)⟩
 ·exact (k.wr.block b (by omega) (fun o e=>hr o (h.sp b o hb e))).trans (h.wr.block b hb hr)
 ·exact (k.wr.cell b o (by omega) (fun e=>hr (h.sp b o hb e))).trans (h.wr.cell b o hb hr)
 ·exact (k.wr.frozen b o (by omega)).trans (h.wr.frozen b o hb)
theorem Goes.below (L:Below w.heap.size w W) (z:Nat) (a4 a5 a6 a7:Value):Goes w W z a4 a5 a6 a7 a4 a5 a6 a7:=⟨Ab L _,fun _ _ _ h=>h⟩
theorem Goes.box (h:Wrote (fun b _=>b=z) w W) (a4 a5 a6 a7:Value):Goes w W z a4 a5 a6 a7 a4 a5 a6 a7:=⟨h.mono (fun _ _ _ e=>Or.inl e),fun _ _ _ h=>h⟩
end
theorem Je {W:World} {lo N:Nat} {o7:Option Nat} {u:Value} {n g' c':Nat} {f:Nat→Int} (R:A5 W lo o7 u n f) (hat:o7=some g'∨N≤g') {b o:Nat} (hb:b<N) (h:spare (.slice (some ⟨g',0,none⟩) (n+1) c') b o):spare u b o:=by
 obtain ⟨n1,c1,e,ho⟩:=h;simp only [Value.slice.injEq,Option.some.injEq,Addr.mk.injEq,and_true] at e;obtain ⟨rfl,rfl,rfl⟩:=e
 rcases hat with rfl | h
 ·obtain ⟨y,rfl,-⟩:=R
  exact ⟨n,y,rfl,by omega⟩
 ·omega
theorem X6 {W:World} {lo N:Nat} {e:TypeId} {u:Value} {n g' c':Nat} {vs:List Value} (R:W.ownsRow lo e 1 u n vs) (hat:u.ownBlock=some g'∨N≤g') {b o:Nat} (hb:b<N) (h:spare (.slice (some ⟨g',0,none⟩) (n+1) c') b o):spare u b o:=by
 obtain ⟨n1,c1,e,ho⟩:=h;simp only [Value.slice.injEq,Option.some.injEq,Addr.mk.injEq,and_true] at e;obtain ⟨rfl,rfl,rfl⟩:=e
 rcases hat with h | h
 ·rcases R.2 with ⟨e,e0⟩ | ⟨g,c,cur,hv,-⟩
  ·rw [e] at h; cases h
  ·subst hv
   obtain rfl:g=g':=by simpa [Value.ownBlock] using h
   exact ⟨n,c,rfl,by omega⟩
 ·omega
structure Dg (W:World) (lo z:Nat) (d:Aq) (u4 u5 u6 u7:Value):Prop where
 ex:∃ D u0 u1 u2 u3 ob iv ov o6 o7,Bi W lo W.heap.size D u0 u1 u2 u3 u4 u5 u6 u7 ob iv ov o6 o7 d∧(∀ i b,D i b→b≠z)∧W.heap[z]?=some (.cells (kR d u0 u1 u2 u3 u4 u5 u6 u7) 49 (0,0))
structure Ei (w W:World) (lo z:Nat) (u4 u5 u6 u7:Value) (d:Aq):Prop where
 ex:∃ b4 b5 b6 b7,Dg W lo z d b4 b5 b6 b7∧Goes w W z u4 u5 u6 u7 b4 b5 b6 b7
end Go.Proofs.YtgcmimcalmjaaaaGreatDoor
