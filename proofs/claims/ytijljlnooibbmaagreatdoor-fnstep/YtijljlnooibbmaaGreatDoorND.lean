import Derived.Test.YtijljlnooibbmaaGreatDoorSW
namespace Go.Proofs.YtijljlnooibbmaaGreatDoor
set_option maxHeartbeats 8000000
set_option maxRecDepth 40000
open Go.Proofs.Tryz
set_option linter.unusedVariables false
set_option linter.unusedSimpArgs false
open Go.ChangeShapes Go.WideShapes Go.ChangeAt Go.RowKit Go.Sort
def Tm (x0 y0:Int) (x1 y1:Int) (x2 y2:Int) (x3 y3:Int) (x4 y4:Bool) (x5 y5:Bool) (x6 y6:Bool) (x7 y7:Bool):Bool:=(x0==y0) && ((x1==y1) && ((x2==y2) && ((x3==y3) && ((x4==y4) && ((x5==y5) && ((x6==y6) && ((x7==y7))))))))
theorem Jbh (x0 y0:Int) (x1 y1:Int) (x2 y2:Int) (x3 y3:Int) (x4 y4:Bool) (x5 y5:Bool) (x6 y6:Bool) (x7 y7:Bool) (W:World):(binOp .eql 31 (.agg (cR x0 x1 x2 x3 x4 x5 x6 x7)) (.agg (cR y0 y1 y2 y3 y4 y5 y6 y7))).run prog W=.ok (.bool (Tm x0 y0 x1 y1 x2 y2 x3 y3 x4 y4 x5 y5 x6 y6 x7 y7)) W:=by
 obtain ⟨fs,hfs,hf⟩:∃ fs,prog.underlying 31=some (.struct fs)/\prog.fieldsOf 31=fs:=⟨_,underlying31,by unfold Program.fieldsOf; rw [underlying31]⟩
 have hu':prog.underlying 31=some (.struct (prog.fieldsOf 31)):=by rw [hf,hfs]
 rw [run_eql_struct,show (10000:Nat)=9999+1 from rfl,run_equalIn_agg W 9999 31 _ _ hu' (by kernel_rfl),hf];obtain rfl:=TypeDesc.struct.inj (Option.some.inj (hfs.symm.trans underlying31));unfold Tm
 simp [Op.eqFields,go_sem,underlying3,underlying4]
 repeat' split
 all_goals simp_all
def Tn (x0 y0:Int) (x1 y1:Int) (x2 y2:Int) (x3 y3:Int) (x4 y4:Int) (x5 y5:Bool) (x6 y6:Bool):Bool:=(x0==y0) && ((x1==y1) && ((x2==y2) && ((x3==y3) && ((x4==y4) && ((x5==y5) && ((x6==y6)))))))
theorem Jbi (x0 y0:Int) (x1 y1:Int) (x2 y2:Int) (x3 y3:Int) (x4 y4:Int) (x5 y5:Bool) (x6 y6:Bool) (W:World):(binOp .eql 35 (.agg (aR x0 x1 x2 x3 x4 x5 x6)) (.agg (aR y0 y1 y2 y3 y4 y5 y6))).run prog W=.ok (.bool (Tn x0 y0 x1 y1 x2 y2 x3 y3 x4 y4 x5 y5 x6 y6)) W:=by
 obtain ⟨fs,hfs,hf⟩:∃ fs,prog.underlying 35=some (.struct fs)/\prog.fieldsOf 35=fs:=⟨_,underlying35,by unfold Program.fieldsOf; rw [underlying35]⟩
 have hu':prog.underlying 35=some (.struct (prog.fieldsOf 35)):=by rw [hf,hfs]
 rw [run_eql_struct,show (10000:Nat)=9999+1 from rfl,run_equalIn_agg W 9999 35 _ _ hu' (by kernel_rfl),hf];obtain rfl:=TypeDesc.struct.inj (Option.some.inj (hfs.symm.trans underlying35));unfold Tn
 simp [Op.eqFields,go_sem,underlying3,underlying4]
 repeat' split
 all_goals simp_all
def To (x0 y0:Bool) (x1 y1:Int):Bool:=(x0==y0) && ((x1==y1))
theorem Jbj (x0 y0:Bool) (x1 y1:Int) (W:World):(binOp .eql 37 (.agg #[.bool x0,.i x1]) (.agg #[.bool y0,.i y1])).run prog W=.ok (.bool (To x0 y0 x1 y1)) W:=by
 obtain ⟨fs,hfs,hf⟩:∃ fs,prog.underlying 37=some (.struct fs)/\prog.fieldsOf 37=fs:=⟨_,underlying37,by unfold Program.fieldsOf; rw [underlying37]⟩
 have hu':prog.underlying 37=some (.struct (prog.fieldsOf 37)):=by rw [hf,hfs]
 rw [run_eql_struct,show (10000:Nat)=9999+1 from rfl,run_equalIn_agg W 9999 37 _ _ hu' (by kernel_rfl),hf];obtain rfl:=TypeDesc.struct.inj (Option.some.inj (hfs.symm.trans underlying37));unfold To
 simp [Op.eqFields,go_sem,underlying3,underlying4]
 repeat' split
 all_goals simp_all
def Mv (t0 c0 s0 ad0 pl0:Int) (bl0:Bool) (n0:Nat) (f0:Nat->Int) (m0:Nat) (g0:Nat->Int) (t1 c1 s1 ad1 pl1:Int) (bl1:Bool) (n1:Nat) (f1:Nat->Int) (m1:Nat) (g1:Nat->Int):Bool:=(t0==t1) && ((c0==c1) && ((s0==s1) && ((ad0==ad1) && ((pl0==pl1) && ((bl0==bl1) && (Cf n0 n1 f0 f1 && Cf m0 m1 g0 g1))))))
theorem Wd (w:World) (D E:Nat->Prop) (v u:Value) (t0 c0 s0 ad0 pl0:Int) (bl0:Bool) (n0:Nat) (f0:Nat->Int) (m0:Nat) (g0:Nat->Int) (t1 c1 s1 ad1 pl1:Int) (bl1:Bool) (n1:Nat) (f1:Nat->Int) (m1:Nat) (g1:Nat->Int) (H:Co w D v t0 c0 s0 ad0 pl0 bl0 n0 f0 m0 g0) (K:Co w E u t1 c1 s1 ad1 pl1 bl1 n1 f1 m1 g1) :
  Calls prog 36 #[v,u] w fun e w'=>e=.returned (.bool (Mv t0 c0 s0 ad0 pl0 bl0 n0 f0 m0 g0 t1 c1 s1 ad1 pl1 bl1 n1 f1 m1 g1))/\Below w.heap.size w w':=by
 obtain ⟨a0,x0,b0,y0,rfl,h1,h2,-⟩:=H;obtain ⟨a1,x1,b1,y1,rfl,k1,k2,-⟩:=K;have L0:Below w.heap.size w ((w.alloc (.cells (pR t0 c0 s0 ad0 pl0 bl0 (.slice a0 n0 x0) (.slice b0 m0 y0)) 33)).alloc (.cells (pR t1 c1 s1 ad1 pl1 bl1 (.slice a1 n1 x1) (.slice b1 m1 y1)) 33)):=((Below.refl _ _).alloc (Nat.le_refl _) _).alloc (by simp) _;have B0:((w.alloc (.cells (pR t0 c0 s0 ad0 pl0 bl0 (.slice a0 n0 x0) (.slice b0 m0 y0)) 33)).alloc (.cells (pR t1 c1 s1 ad1 pl1 bl1 (.slice a1 n1 x1) (.slice b1 m1 y1)) 33)).heap[w.heap.size]?=some (.cells (pR t0 c0 s0 ad0 pl0 bl0 (.slice a0 n0 x0) (.slice b0 m0 y0)) 33 (0,0)):=Az (Ak w (pR t0 c0 s0 ad0 pl0 bl0 (.slice a0 n0 x0) (.slice b0 m0 y0)) 33) _
 have B1:((w.alloc (.cells (pR t0 c0 s0 ad0 pl0 bl0 (.slice a0 n0 x0) (.slice b0 m0 y0)) 33)).alloc (.cells (pR t1 c1 s1 ad1 pl1 bl1 (.slice a1 n1 x1) (.slice b1 m1 y1)) 33)).heap[w.heap.size+1]?=some (.cells (pR t1 c1 s1 ad1 pl1 bl1 (.slice a1 n1 x1) (.slice b1 m1 y1)) 33 (0,0)):=by simpa using Ak (w.alloc (.cells (pR t0 c0 s0 ad0 pl0 bl0 (.slice a0 n0 x0) (.slice b0 m0 y0)) 33)) (pR t1 c1 s1 ad1 pl1 bl1 (.slice a1 n1 x1) (.slice b1 m1 y1)) 33
 replace h1:=Ac ((h1.ints x0).keep (Aa L0 Aj) (fun _ _ _ x=>x));replace h2:=Ac ((h2.ints y0).keep (Aa L0 Aj) (fun _ _ _ x=>x));replace k1:=Ac ((k1.ints x1).keep (Aa L0 Aj) (fun _ _ _ x=>x));replace k2:=Ac ((k2.ints y1).keep (Aa L0 Aj) (fun _ _ _ x=>x))
 cases q0:(t0==t1)
 .go_enter func36,ntmps36
  go_wp2;go_ret;exact ⟨Ap (by simp only [Mv,q0,Bool.true_and,Bool.false_and]:false=_),L0⟩
 cases q1:(c0==c1)
 .go_enter func36,ntmps36
  go_wp2;go_ret;exact ⟨Ap (by simp only [Mv,q0,q1,Bool.true_and,Bool.false_and]:false=_),L0⟩
 cases q2:(s0==s1)
 .go_enter func36,ntmps36
  go_wp2;go_ret;exact ⟨Ap (by simp only [Mv,q0,q1,q2,Bool.true_and,Bool.false_and]:false=_),L0⟩
 cases q3:(ad0==ad1)
 .go_enter func36,ntmps36
  go_wp2;go_ret;exact ⟨Ap (by simp only [Mv,q0,q1,q2,q3,Bool.true_and,Bool.false_and]:false=_),L0⟩
 cases q4:(pl0==pl1)
 .go_enter func36,ntmps36
  go_wp2;go_ret;exact ⟨Ap (by simp only [Mv,q0,q1,q2,q3,q4,Bool.true_and,Bool.false_and]:false=_),L0⟩
 cases q5:(bl0==bl1)
 .go_enter func36,ntmps36
  go_wp2;go_ret;exact ⟨Ap (by simp only [Mv,q0,q1,q2,q3,q4,q5,Bool.true_and,Bool.false_and]:false=_),L0⟩
 go_enter func36,ntmps36
 go_wp2_with fail;generalize ((w.alloc (.cells (pR t0 c0 s0 ad0 pl0 bl0 (.slice a0 n0 x0) (.slice b0 m0 y0)) 33)).alloc (.cells (pR t1 c1 s1 ad1 pl1 bl1 (.slice a1 n1 x1) (.slice b1 m1 y1)) 33))=W0 at *;have c_0:=Af B0;have c_1:=Af B1;clear B0 B1;refine (Ei _ _ _ _ _ n0 n1 f0 f1 h1.out k1.out).mono ?_;rintro e W1 ⟨rfl,rfl⟩;cases r1:Cf n0 n1 f0 f1
 .go_wp2
  go_ret;exact ⟨Ap (by simp only [Mv,q0,q1,q2,q3,q4,q5,r1,Bool.true_and,Bool.false_and]:false=_),by first | exact below_drewN L0 _ | exact L0⟩
 go_wp2_with fail;refine (Ei _ _ _ _ _ m0 m1 g0 g1 h2.out k2.out).mono ?_;rintro e W2 ⟨rfl,rfl⟩;cases r2:Cf m0 m1 g0 g1
 .go_wp2
  go_ret;exact ⟨Ap (by simp only [Mv,q0,q1,q2,q3,q4,q5,r1,r2,Bool.true_and,Bool.and_false]:false=_),by first | exact below_drewN L0 _ | exact L0 | exact below_drewN (below_drewN L0 _) _⟩
 go_wp2;go_ret;exact ⟨Ap (by simp only [Mv,q0,q1,q2,q3,q4,q5,r1,r2,Bool.true_and,Bool.and_self]:true=_),by first | exact below_drewN L0 _ | exact L0 | exact below_drewN (below_drewN L0 _) _⟩
theorem We (w:World) (F G:Nat->Nat->Prop) (a0 a1:Option Addr) (n0 x0 n1 x1:Nat) (f0 f1:Nat->Int) (k0 k1:Int) (H:Ints .i64 w F (.slice a0 n0 x0) n0 f0) (K:Ints .i64 w G (.slice a1 n1 x1) n1 f1) :
  Calls prog 35 #[.agg #[.slice a0 n0 x0,.i k0],.agg #[.slice a1 n1 x1,.i k1]] w fun e w'=>e=.returned (.bool (Cf n0 n1 f0 f1 && (k0==k1)))/\Below w.heap.size w w':=by
 have L0:Below w.heap.size w ((w.alloc (.cells #[.slice a0 n0 x0,.i k0] 29)).alloc (.cells #[.slice a1 n1 x1,.i k1] 29)):=((Below.refl _ _).alloc (Nat.le_refl _) _).alloc (by simp) _;have B0:((w.alloc (.cells #[.slice a0 n0 x0,.i k0] 29)).alloc (.cells #[.slice a1 n1 x1,.i k1] 29)).heap[w.heap.size]?=some (.cells #[.slice a0 n0 x0,.i k0] 29 (0,0)):=Az (Ak w #[.slice a0 n0 x0,.i k0] 29) _
 have B1:((w.alloc (.cells #[.slice a0 n0 x0,.i k0] 29)).alloc (.cells #[.slice a1 n1 x1,.i k1] 29)).heap[w.heap.size+1]?=some (.cells #[.slice a1 n1 x1,.i k1] 29 (0,0)):=by simpa using Ak (w.alloc (.cells #[.slice a0 n0 x0,.i k0] 29)) #[.slice a1 n1 x1,.i k1] 29
 have h1:=Ac (H.keep (Aa L0 Aj) (fun _ _ _ x=>x));have h2:=Ac (K.keep (Aa L0 Aj) (fun _ _ _ x=>x));clear H K
 cases q0:(k0==k1)
 .go_enter func35,ntmps35
  go_wp2;go_ret;exact ⟨Ap (by simp only [q0,Bool.and_false]:false=_),L0⟩
 go_enter func35,ntmps35
 go_wp2_with fail;refine (Ei _ _ _ _ _ n0 n1 f0 f1 h1.out h2.out).mono ?_;rintro e W1 ⟨rfl,rfl⟩;go_wp2;go_ret;exact ⟨Ap (by simp only [q0,Bool.and_true]:Cf n0 n1 f0 f1=_),L0⟩
def obD (d:Aq):ObD:=⟨d.mf,d.lf,d.fr,d.ns,d.sm,d.nq,d.rd⟩
def Za (a b:Aq):Bool:=Tm a.A b.A a.X b.X a.S b.S a.Pc b.Pc a.Z b.Z a.N b.N a.C b.C a.I b.I
def Zb (a b:Aq):Bool:=Mv a.t a.c a.s a.ad a.pl a.bl a.nt a.tb a.nd a.dt b.t b.c b.s b.ad b.pl b.bl b.nt b.tb b.nd b.dt
def Zc (a b:Aq):Bool:=Tn a.T b.T a.P b.P a.K b.K a.B b.B a.L b.L a.Q b.Q a.R b.R
def Zd (a b:Aq):Bool:=To a.hd b.hd a.sh b.sh
def Jo (a b:Aq):Bool:=(Cf a.nr b.nr a.g b.g && (a.bank==b.bank)) && (Za a b && (Zb a b && (Zc a b && (Zd a b && ((a.nmi==b.nmi) && ((a.st==b.st) && Ha (obD a) (obD b)))))))
theorem Bw.ints17 {W:World} {D:Nat->Prop} {u:Value} {k:Int} {n:Nat} {f:Nat->Int} (H:Bw W D (.agg #[u,.i k]) n f k):∃ a c,u=.slice a n c/\Ints .i64 W (On D) u n f:=by
 obtain ⟨a,c,e,hn,hr,hF,hD⟩:=H
 have e1:u=.slice a n c:=by simpa using e
 subst e1;exact ⟨a,c,rfl,a,c,rfl,hn,hr,hD⟩
theorem Iu (w:World) (D E:Nat->Nat->Prop) (v u:Value) (a b:Aq) (H:Aw w D v a) (K:Aw w E u b) :
  Calls prog 10 #[v,u] w fun e w'=>e=.returned (.bool (Jo a b))/\Below w.heap.size w w':=by
 obtain ⟨u0,u1,u2,u3,u4,u5,u6,u7,rfl,-,-,h2,h3,h4⟩:=H;obtain ⟨v0,v1,v2,v3,v4,v5,v6,v7,rfl,-,-,k2,k3,k4⟩:=K;obtain ⟨ua,ux,rfl,j2⟩:=h2.ints17;obtain ⟨va,vx,rfl,l2⟩:=k2.ints17;clear h2 k2;have L0:Below w.heap.size w ((w.alloc (.cells (kR a u0 u1 (.slice ua a.nr ux) u3 u4 u5 u6 u7) 41)).alloc (.cells (kR b v0 v1 (.slice va b.nr vx) v3 v4 v5 v6 v7) 41)):=((Below.refl _ _).alloc (Nat.le_refl _) _).alloc (by simp) _;have B0:((w.alloc (.cells (kR a u0 u1 (.slice ua a.nr ux) u3 u4 u5 u6 u7) 41)).alloc (.cells (kR b v0 v1 (.slice va b.nr vx) v3 v4 v5 v6 v7) 41)).heap[w.heap.size]?=some (.cells (kR a u0 u1 (.slice ua a.nr ux) u3 u4 u5 u6 u7) 41 (0,0)):=Az (Ak w (kR a u0 u1 (.slice ua a.nr ux) u3 u4 u5 u6 u7) 41) _
 have B1:((w.alloc (.cells (kR a u0 u1 (.slice ua a.nr ux) u3 u4 u5 u6 u7) 41)).alloc (.cells (kR b v0 v1 (.slice va b.nr vx) v3 v4 v5 v6 v7) 41)).heap[w.heap.size+1]?=some (.cells (kR b v0 v1 (.slice va b.nr vx) v3 v4 v5 v6 v7) 41 (0,0)):=by simpa using Ak (w.alloc (.cells (kR a u0 u1 (.slice ua a.nr ux) u3 u4 u5 u6 u7) 41)) (kR b v0 v1 (.slice va b.nr vx) v3 v4 v5 v6 v7) 41
 replace j2:=Ac (j2.keep (Aa L0 Aj) (fun _ _ _ x=>x));replace l2:=Ac (l2.keep (Aa L0 Aj) (fun _ _ _ x=>x));replace h3:=Ac (h3.keep (Aa L0 Aj) (fun _ _ _ _ x=>x));replace k3:=Ac (k3.keep (Aa L0 Aj) (fun _ _ _ _ x=>x));replace h4:=Ac (show ObA _ _ _ (obD a) from h4.keep (Aa L0 Aj) (fun _ _ _ _ _ _ x=>x));replace k4:=Ac (show ObA _ _ _ (obD b) from k4.keep (Aa L0 Aj) (fun _ _ _ _ _ _ x=>x))
 have ec:∀ W,(binOp .eql 31 (.agg (cR a.A a.X a.S a.Pc a.Z a.N a.C a.I)) (.agg (cR b.A b.X b.S b.Pc b.Z b.N b.C b.I))).run prog W=.ok (.bool (Za a b)) W:=fun W=>Jbh a.A b.A a.X b.X a.S b.S a.Pc b.Pc a.Z b.Z a.N b.N a.C b.C a.I b.I W
 have ea:∀ W,(binOp .eql 35 (.agg (aR a.T a.P a.K a.B a.L a.Q a.R)) (.agg (aR b.T b.P b.K b.B b.L b.Q b.R))).run prog W=.ok (.bool (Zc a b)) W:=fun W=>Jbi a.T b.T a.P b.P a.K b.K a.B b.B a.L b.L a.Q b.Q a.R b.R W
 have ep:∀ W,(binOp .eql 37 (.agg #[.bool a.hd,.i a.sh]) (.agg #[.bool b.hd,.i b.sh])).run prog W=.ok (.bool (Zd a b)) W:=fun W=>Jbj a.hd b.hd a.sh b.sh W
 go_enter func10,ntmps10
 go_wp2_with fail;generalize ((w.alloc (.cells (kR a u0 u1 (.slice ua a.nr ux) u3 u4 u5 u6 u7) 41)).alloc (.cells (kR b v0 v1 (.slice va b.nr vx) v3 v4 v5 v6 v7) 41))=W0 at *;have c_0:=Ac (Af B0);have c_1:=Ac (Af B1);refine (We _ _ _ _ _ _ _ _ _ a.g b.g a.bank b.bank j2.out l2.out).mono ?_;rintro e W1 ⟨rfl,L⟩;replace L0:=Ah L0 L;replace B0:=Ab B0 L (Ad B0);replace B1:=Ab B1 L (Ad B1);clear c_0 c_1;have c_0:=Ac (Af B0);have c_1:=Ac (Af B1);replace h3:=Ac (h3.out.keep (Aa L Aj) (fun _ _ _ _ x=>x));replace k3:=Ac (k3.out.keep (Aa L Aj) (fun _ _ _ _ x=>x));replace h4:=Ac (Gj.below (show ObA _ _ _ _ from h4.out) L);replace k4:=Ac (Gj.below (show ObA _ _ _ _ from k4.out) L);clear L
 cases r0:(Cf a.nr b.nr a.g b.g && (a.bank==b.bank))
 .have d_0:=c_0.out
  have d_1:=c_1.out;go_wp2;go_ret;exact ⟨Ap (by simp only [Jo,r0,Bool.true_and,Bool.false_and,Bool.and_false,Bool.and_true,Bool.and_self]:false=_),L0⟩
 cases r2:Za a b
 .have d_0:=c_0.out
  have d_1:=c_1.out;go_wp2;go_ret;exact ⟨Ap (by simp only [Jo,r0,r2,Bool.true_and,Bool.false_and,Bool.and_false,Bool.and_true,Bool.and_self]:false=_),L0⟩
 have d_0:=c_0.out;have d_1:=c_1.out;go_wp2_with fail;clear d_0 d_1;refine (Wd _ _ _ _ _ _ _ _ _ _ _ _ _ _ _ _ _ _ _ _ _ _ _ _ _ h3.out k3.out).mono ?_;rintro e W2 ⟨rfl,L⟩;clear h3 k3;replace L0:=Ah L0 L;replace B0:=Ab B0 L (Ad B0);replace B1:=Ab B1 L (Ad B1);clear c_0 c_1;have c_0:=Ac (Af B0);have c_1:=Ac (Af B1);replace h4:=Ac (Gj.below (show ObA _ _ _ _ from h4.out) L);replace k4:=Ac (Gj.below (show ObA _ _ _ _ from k4.out) L);clear L;have rp:=Ac (show Mv a.t a.c a.s a.ad a.pl a.bl a.nt a.tb a.nd a.dt b.t b.c b.s b.ad b.pl b.bl b.nt b.tb b.nd b.dt=Zb a b from rfl);rw [rp.out];clear rp;cases r3:Zb a b
 .have d_0:=c_0.out
  have d_1:=c_1.out;go_wp2;go_ret;exact ⟨Ap (by simp only [Jo,r0,r2,r3,Bool.true_and,Bool.false_and,Bool.and_false,Bool.and_true,Bool.and_self]:false=_),L0⟩
 cases r4:Zc a b
 .have d_0:=c_0.out
  have d_1:=c_1.out;go_wp2;go_ret;exact ⟨Ap (by simp only [Jo,r0,r2,r3,r4,Bool.true_and,Bool.false_and,Bool.and_false,Bool.and_true,Bool.and_self]:false=_),L0⟩
 cases r5:Zd a b
 .have d_0:=c_0.out
  have d_1:=c_1.out;go_wp2;go_ret;exact ⟨Ap (by simp only [Jo,r0,r2,r3,r4,r5,Bool.true_and,Bool.false_and,Bool.and_false,Bool.and_true,Bool.and_self]:false=_),L0⟩
 cases r6:(a.nmi==b.nmi)
 .have d_0:=c_0.out
  have d_1:=c_1.out;go_wp2;go_ret;exact ⟨Ap (by simp only [Jo,r0,r2,r3,r4,r5,r6,Bool.true_and,Bool.false_and,Bool.and_false,Bool.and_true,Bool.and_self]:false=_),L0⟩
 cases r7:(a.st==b.st)
 .have d_0:=c_0.out
  have d_1:=c_1.out;go_wp2;go_ret;exact ⟨Ap (by simp only [Jo,r0,r2,r3,r4,r5,r6,r7,Bool.true_and,Bool.false_and,Bool.and_false,Bool.and_true,Bool.and_self]:false=_),L0⟩
 have d_0:=c_0.out;have d_1:=c_1.out;go_wp2_with fail;clear d_0 d_1;refine (Wc _ _ _ _ _ (obD a) (obD b) h4.out k4.out).mono ?_;rintro e W3 ⟨rfl,L⟩;replace L0:=Ah L0 L;go_wp2;go_ret;exact ⟨Ap (by simp only [Jo,r0,r2,r3,r4,r5,r6,r7,Bool.true_and,Bool.false_and,Bool.and_false,Bool.and_true,Bool.and_self]:Ha (obD a) (obD b)=_),L0⟩
end Go.Proofs.YtijljlnooibbmaaGreatDoor
