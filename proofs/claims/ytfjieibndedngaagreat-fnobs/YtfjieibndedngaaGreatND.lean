import Derived.Test.YtfjieibndedngaaGreatKT
import Derived.Test.YtfjieibndedngaaGreatNB
import Derived.Laws.StructEq
namespace Go.Proofs.YtfjieibndedngaaGreat
set_option maxHeartbeats 8000000
set_option maxRecDepth 40000
set_option linter.unusedVariables false
set_option linter.unusedSimpArgs false
open Go.ChangeShapes Go.WideShapes Go.ChangeAt Go.RowKit Go.Sort
def Kd (x0 y0:Int) (x1 y1:Int) (x2 y2:Int) (x3 y3:Int) (x4 y4:Bool) (x5 y5:Bool) (x6 y6:Bool) (x7 y7:Bool):Bool:=(x0==y0) && ((x1==y1) && ((x2==y2) && ((x3==y3) && ((x4==y4) && ((x5==y5) && ((x6==y6) && ((x7==y7))))))))
theorem Lv (x0 y0:Int) (x1 y1:Int) (x2 y2:Int) (x3 y3:Int) (x4 y4:Bool) (x5 y5:Bool) (x6 y6:Bool) (x7 y7:Bool) (W:World):(binOp .eql 36 (.agg (cR x0 x1 x2 x3 x4 x5 x6 x7)) (.agg (cR y0 y1 y2 y3 y4 y5 y6 y7))).run Tryz.prog W=.ok (.bool (Kd x0 y0 x1 y1 x2 y2 x3 y3 x4 y4 x5 y5 x6 y6 x7 y7)) W:=by
 obtain ⟨fs,hfs,hf⟩:∃ fs,Tryz.prog.underlying 36=some (.struct fs)∧Tryz.prog.fieldsOf 36=fs:=⟨_,Tryz.underlying36,by unfold Program.fieldsOf; rw [Tryz.underlying36]⟩
 have hu':Tryz.prog.underlying 36=some (.struct (Tryz.prog.fieldsOf 36)):=by rw [hf,hfs]
 rw [run_eql_struct,show (10000:Nat)=9999+1 from rfl,run_equalIn_agg W 9999 36 _ _ hu' (by kernel_rfl),hf];obtain rfl:=TypeDesc.struct.inj (Option.some.inj (hfs.symm.trans Tryz.underlying36));unfold Kd
 simp [Op.eqFields,go_sem,Tryz.underlying3,Tryz.underlying4]
 repeat' split
 all_goals simp_all
def Ke (x0 y0:Int) (x1 y1:Int) (x2 y2:Int) (x3 y3:Int) (x4 y4:Int) (x5 y5:Bool) (x6 y6:Bool):Bool:=(x0==y0) && ((x1==y1) && ((x2==y2) && ((x3==y3) && ((x4==y4) && ((x5==y5) && ((x6==y6)))))))
theorem Lw (x0 y0:Int) (x1 y1:Int) (x2 y2:Int) (x3 y3:Int) (x4 y4:Int) (x5 y5:Bool) (x6 y6:Bool) (W:World):(binOp .eql 40 (.agg (aR x0 x1 x2 x3 x4 x5 x6)) (.agg (aR y0 y1 y2 y3 y4 y5 y6))).run Tryz.prog W=.ok (.bool (Ke x0 y0 x1 y1 x2 y2 x3 y3 x4 y4 x5 y5 x6 y6)) W:=by
 obtain ⟨fs,hfs,hf⟩:∃ fs,Tryz.prog.underlying 40=some (.struct fs)∧Tryz.prog.fieldsOf 40=fs:=⟨_,Tryz.underlying40,by unfold Program.fieldsOf; rw [Tryz.underlying40]⟩
 have hu':Tryz.prog.underlying 40=some (.struct (Tryz.prog.fieldsOf 40)):=by rw [hf,hfs]
 rw [run_eql_struct,show (10000:Nat)=9999+1 from rfl,run_equalIn_agg W 9999 40 _ _ hu' (by kernel_rfl),hf];obtain rfl:=TypeDesc.struct.inj (Option.some.inj (hfs.symm.trans Tryz.underlying40));unfold Ke
 simp [Op.eqFields,go_sem,Tryz.underlying3,Tryz.underlying4]
 repeat' split
 all_goals simp_all
def Kf (x0 y0:Bool) (x1 y1:Int):Bool:=(x0==y0) && ((x1==y1))
theorem Ly (x0 y0:Bool) (x1 y1:Int) (W:World):(binOp .eql 42 (.agg #[.bool x0,.i x1]) (.agg #[.bool y0,.i y1])).run Tryz.prog W=.ok (.bool (Kf x0 y0 x1 y1)) W:=by
 obtain ⟨fs,hfs,hf⟩:∃ fs,Tryz.prog.underlying 42=some (.struct fs)∧Tryz.prog.fieldsOf 42=fs:=⟨_,Tryz.underlying42,by unfold Program.fieldsOf; rw [Tryz.underlying42]⟩
 have hu':Tryz.prog.underlying 42=some (.struct (Tryz.prog.fieldsOf 42)):=by rw [hf,hfs]
 rw [run_eql_struct,show (10000:Nat)=9999+1 from rfl,run_equalIn_agg W 9999 42 _ _ hu' (by kernel_rfl),hf];obtain rfl:=TypeDesc.struct.inj (Option.some.inj (hfs.symm.trans Tryz.underlying42));unfold Kf
 simp [Op.eqFields,go_sem,Tryz.underlying3,Tryz.underlying4]
 repeat' split
 all_goals simp_all
def Ef (t0 c0 s0 ad0 pl0:Int) (bl0:Bool) (n0:Nat) (f0:Nat→Int) (m0:Nat) (g0:Nat→Int) (t1 c1 s1 ad1 pl1:Int) (bl1:Bool) (n1:Nat) (f1:Nat→Int) (m1:Nat) (g1:Nat→Int):Bool:=(t0==t1) && ((c0==c1) && ((s0==s1) && ((ad0==ad1) && ((pl0==pl1) && ((bl0==bl1) && (A8 n0 n1 f0 f1 && A8 m0 m1 g0 g1))))))
theorem Sc (w:World) (D E:Nat→Prop) (v u:Value) (t0 c0 s0 ad0 pl0:Int) (bl0:Bool) (n0:Nat) (f0:Nat→Int) (m0:Nat) (g0:Nat→Int) (t1 c1 s1 ad1 pl1:Int) (bl1:Bool) (n1:Nat) (f1:Nat→Int) (m1:Nat) (g1:Nat→Int) (H:Bt w D v t0 c0 s0 ad0 pl0 bl0 n0 f0 m0 g0) (K:Bt w E u t1 c1 s1 ad1 pl1 bl1 n1 f1 m1 g1) :
  Calls Tryz.prog 28 #[v,u] w fun e w'=>e=.returned (.bool (Ef t0 c0 s0 ad0 pl0 bl0 n0 f0 m0 g0 t1 c1 s1 ad1 pl1 bl1 n1 f1 m1 g1))∧Below w.heap.size w w':=by
 obtain ⟨a0,x0,b0,y0,rfl,h1,h2,-⟩:=H;obtain ⟨a1,x1,b1,y1,rfl,k1,k2,-⟩:=K;have L0:Below w.heap.size w ((w.alloc (.cells (pR t0 c0 s0 ad0 pl0 bl0 (.slice a0 n0 x0) (.slice b0 m0 y0)) 38)).alloc (.cells (pR t1 c1 s1 ad1 pl1 bl1 (.slice a1 n1 x1) (.slice b1 m1 y1)) 38)):=((Below.refl _ _).alloc (Nat.le_refl _) _).alloc (by simp) _;have B0:((w.alloc (.cells (pR t0 c0 s0 ad0 pl0 bl0 (.slice a0 n0 x0) (.slice b0 m0 y0)) 38)).alloc (.cells (pR t1 c1 s1 ad1 pl1 bl1 (.slice a1 n1 x1) (.slice b1 m1 y1)) 38)).heap[w.heap.size]?=some (.cells (pR t0 c0 s0 ad0 pl0 bl0 (.slice a0 n0 x0) (.slice b0 m0 y0)) 38 (0,0)):=A9 (Ak w (pR t0 c0 s0 ad0 pl0 bl0 (.slice a0 n0 x0) (.slice b0 m0 y0)) 38) _
 have B1:((w.alloc (.cells (pR t0 c0 s0 ad0 pl0 bl0 (.slice a0 n0 x0) (.slice b0 m0 y0)) 38)).alloc (.cells (pR t1 c1 s1 ad1 pl1 bl1 (.slice a1 n1 x1) (.slice b1 m1 y1)) 38)).heap[w.heap.size+1]?=some (.cells (pR t1 c1 s1 ad1 pl1 bl1 (.slice a1 n1 x1) (.slice b1 m1 y1)) 38 (0,0)):=by simpa using Ak (w.alloc (.cells (pR t0 c0 s0 ad0 pl0 bl0 (.slice a0 n0 x0) (.slice b0 m0 y0)) 38)) (pR t1 c1 s1 ad1 pl1 bl1 (.slice a1 n1 x1) (.slice b1 m1 y1)) 38
 replace h1:=Ad ((h1.ints x0).keep (Aa L0 Ah) (fun _ _ _ x=>x));replace h2:=Ad ((h2.ints y0).keep (Aa L0 Ah) (fun _ _ _ x=>x));replace k1:=Ad ((k1.ints x1).keep (Aa L0 Ah) (fun _ _ _ x=>x));replace k2:=Ad ((k2.ints y1).keep (Aa L0 Ah) (fun _ _ _ x=>x))
 cases q0:(t0==t1)
 ·go_enter Tryz.func28,Tryz.ntmps28
  go_wp2;go_ret;exact ⟨Al (by simp only [Ef,q0,Bool.true_and,Bool.false_and]:false=_),L0⟩
 cases q1:(c0==c1)
 ·go_enter Tryz.func28,Tryz.ntmps28
  go_wp2;go_ret;exact ⟨Al (by simp only [Ef,q0,q1,Bool.true_and,Bool.false_and]:false=_),L0⟩
 cases q2:(s0==s1)
 ·go_enter Tryz.func28,Tryz.ntmps28
  go_wp2;go_ret;exact ⟨Al (by simp only [Ef,q0,q1,q2,Bool.true_and,Bool.false_and]:false=_),L0⟩
 cases q3:(ad0==ad1)
 ·go_enter Tryz.func28,Tryz.ntmps28
  go_wp2;go_ret;exact ⟨Al (by simp only [Ef,q0,q1,q2,q3,Bool.true_and,Bool.false_and]:false=_),L0⟩
 cases q4:(pl0==pl1)
 ·go_enter Tryz.func28,Tryz.ntmps28
  go_wp2;go_ret;exact ⟨Al (by simp only [Ef,q0,q1,q2,q3,q4,Bool.true_and,Bool.false_and]:false=_),L0⟩
 cases q5:(bl0==bl1)
 ·go_enter Tryz.func28,Tryz.ntmps28
  go_wp2;go_ret;exact ⟨Al (by simp only [Ef,q0,q1,q2,q3,q4,q5,Bool.true_and,Bool.false_and]:false=_),L0⟩
 go_enter Tryz.func28,Tryz.ntmps28
 go_wp2_with fail;generalize ((w.alloc (.cells (pR t0 c0 s0 ad0 pl0 bl0 (.slice a0 n0 x0) (.slice b0 m0 y0)) 38)).alloc (.cells (pR t1 c1 s1 ad1 pl1 bl1 (.slice a1 n1 x1) (.slice b1 m1 y1)) 38))=W0 at *;have c_0:=Aj B0;have c_1:=Aj B1;clear B0 B1;refine (Ey _ _ _ _ _ n0 n1 f0 f1 h1.out k1.out).mono ?_;rintro e W1 ⟨rfl,d1,rfl⟩;cases r1:A8 n0 n1 f0 f1
 ·go_wp2
  go_ret;exact ⟨Al (by simp only [Ef,q0,q1,q2,q3,q4,q5,r1,Bool.true_and,Bool.false_and]:false=_),by first | exact below_drewN L0 _ | exact L0⟩
 go_wp2_with fail;refine (Ey _ _ _ _ _ m0 m1 g0 g1 (I8 h2.out d1) (I8 k2.out d1)).mono ?_;rintro e W2 ⟨rfl,d2,rfl⟩;cases r2:A8 m0 m1 g0 g1
 ·go_wp2
  go_ret;exact ⟨Al (by simp only [Ef,q0,q1,q2,q3,q4,q5,r1,r2,Bool.true_and,Bool.and_false]:false=_),by first | exact below_drewN L0 _ | exact L0 | exact below_drewN (below_drewN L0 _) _⟩
 go_wp2;go_ret;exact ⟨Al (by simp only [Ef,q0,q1,q2,q3,q4,q5,r1,r2,Bool.true_and,Bool.and_self]:true=_),by first | exact below_drewN L0 _ | exact L0 | exact below_drewN (below_drewN L0 _) _⟩
theorem Pe (w:World) (D E:Nat→Prop) (v u:Value) (t0 c0 s0 ad0 pl0:Int) (bl0:Bool) (n0:Nat) (f0:Nat→Int) (m0:Nat) (g0:Nat→Int) (t1 c1 s1 ad1 pl1:Int) (bl1:Bool) (n1:Nat) (f1:Nat→Int) (m1:Nat) (g1:Nat→Int) (H:Bt w D v t0 c0 s0 ad0 pl0 bl0 n0 f0 m0 g0) (K:Bt w E u t1 c1 s1 ad1 pl1 bl1 n1 f1 m1 g1) :
  Calls Tryz.prog 27 #[v,u] w fun e w'=>e=.returned (.bool (Ef t0 c0 s0 ad0 pl0 bl0 n0 f0 m0 g0 t1 c1 s1 ad1 pl1 bl1 n1 f1 m1 g1))∧Below w.heap.size w w':=by
 obtain ⟨a0,x0,b0,y0,rfl,h1,h2,-⟩:=H;obtain ⟨a1,x1,b1,y1,rfl,k1,k2,-⟩:=K;have L0:Below w.heap.size w ((w.alloc (.cells (pR t0 c0 s0 ad0 pl0 bl0 (.slice a0 n0 x0) (.slice b0 m0 y0)) 38)).alloc (.cells (pR t1 c1 s1 ad1 pl1 bl1 (.slice a1 n1 x1) (.slice b1 m1 y1)) 38)):=((Below.refl _ _).alloc (Nat.le_refl _) _).alloc (by simp) _;have B0:((w.alloc (.cells (pR t0 c0 s0 ad0 pl0 bl0 (.slice a0 n0 x0) (.slice b0 m0 y0)) 38)).alloc (.cells (pR t1 c1 s1 ad1 pl1 bl1 (.slice a1 n1 x1) (.slice b1 m1 y1)) 38)).heap[w.heap.size]?=some (.cells (pR t0 c0 s0 ad0 pl0 bl0 (.slice a0 n0 x0) (.slice b0 m0 y0)) 38 (0,0)):=A9 (Ak w (pR t0 c0 s0 ad0 pl0 bl0 (.slice a0 n0 x0) (.slice b0 m0 y0)) 38) _
 have B1:((w.alloc (.cells (pR t0 c0 s0 ad0 pl0 bl0 (.slice a0 n0 x0) (.slice b0 m0 y0)) 38)).alloc (.cells (pR t1 c1 s1 ad1 pl1 bl1 (.slice a1 n1 x1) (.slice b1 m1 y1)) 38)).heap[w.heap.size+1]?=some (.cells (pR t1 c1 s1 ad1 pl1 bl1 (.slice a1 n1 x1) (.slice b1 m1 y1)) 38 (0,0)):=by simpa using Ak (w.alloc (.cells (pR t0 c0 s0 ad0 pl0 bl0 (.slice a0 n0 x0) (.slice b0 m0 y0)) 38)) (pR t1 c1 s1 ad1 pl1 bl1 (.slice a1 n1 x1) (.slice b1 m1 y1)) 38
 replace h1:=Ad ((h1.ints x0).keep (Aa L0 Ah) (fun _ _ _ x=>x));replace h2:=Ad ((h2.ints y0).keep (Aa L0 Ah) (fun _ _ _ x=>x));replace k1:=Ad ((k1.ints x1).keep (Aa L0 Ah) (fun _ _ _ x=>x));replace k2:=Ad ((k2.ints y1).keep (Aa L0 Ah) (fun _ _ _ x=>x))
 cases q0:(t0==t1)
 ·go_enter Tryz.func27,Tryz.ntmps27
  go_wp2;go_ret;exact ⟨Al (by simp only [Ef,q0,Bool.true_and,Bool.false_and]:false=_),L0⟩
 cases q1:(c0==c1)
 ·go_enter Tryz.func27,Tryz.ntmps27
  go_wp2;go_ret;exact ⟨Al (by simp only [Ef,q0,q1,Bool.true_and,Bool.false_and]:false=_),L0⟩
 cases q2:(s0==s1)
 ·go_enter Tryz.func27,Tryz.ntmps27
  go_wp2;go_ret;exact ⟨Al (by simp only [Ef,q0,q1,q2,Bool.true_and,Bool.false_and]:false=_),L0⟩
 cases q3:(ad0==ad1)
 ·go_enter Tryz.func27,Tryz.ntmps27
  go_wp2;go_ret;exact ⟨Al (by simp only [Ef,q0,q1,q2,q3,Bool.true_and,Bool.false_and]:false=_),L0⟩
 cases q4:(pl0==pl1)
 ·go_enter Tryz.func27,Tryz.ntmps27
  go_wp2;go_ret;exact ⟨Al (by simp only [Ef,q0,q1,q2,q3,q4,Bool.true_and,Bool.false_and]:false=_),L0⟩
 cases q5:(bl0==bl1)
 ·go_enter Tryz.func27,Tryz.ntmps27
  go_wp2;go_ret;exact ⟨Al (by simp only [Ef,q0,q1,q2,q3,q4,q5,Bool.true_and,Bool.false_and]:false=_),L0⟩
 go_enter Tryz.func27,Tryz.ntmps27
 go_wp2_with fail;generalize ((w.alloc (.cells (pR t0 c0 s0 ad0 pl0 bl0 (.slice a0 n0 x0) (.slice b0 m0 y0)) 38)).alloc (.cells (pR t1 c1 s1 ad1 pl1 bl1 (.slice a1 n1 x1) (.slice b1 m1 y1)) 38))=W0 at *;have c_0:=Aj B0;have c_1:=Aj B1;clear B0 B1;refine (Db _ _ _ _ _ n0 n1 f0 f1 h1.out k1.out).mono ?_;rintro e W1 ⟨rfl,rfl⟩;cases r1:A8 n0 n1 f0 f1
 ·go_wp2
  go_ret;exact ⟨Al (by simp only [Ef,q0,q1,q2,q3,q4,q5,r1,Bool.true_and,Bool.false_and]:false=_),by first | exact below_drewN L0 _ | exact L0⟩
 go_wp2_with fail;refine (Db _ _ _ _ _ m0 m1 g0 g1 h2.out k2.out).mono ?_;rintro e W2 ⟨rfl,rfl⟩;cases r2:A8 m0 m1 g0 g1
 ·go_wp2
  go_ret;exact ⟨Al (by simp only [Ef,q0,q1,q2,q3,q4,q5,r1,r2,Bool.true_and,Bool.and_false]:false=_),by first | exact below_drewN L0 _ | exact L0 | exact below_drewN (below_drewN L0 _) _⟩
 go_wp2;go_ret;exact ⟨Al (by simp only [Ef,q0,q1,q2,q3,q4,q5,r1,r2,Bool.true_and,Bool.and_self]:true=_),by first | exact below_drewN L0 _ | exact L0 | exact below_drewN (below_drewN L0 _) _⟩
theorem Pf (w:World) (F G:Nat→Nat→Prop) (a0 a1:Option Addr) (n0 x0 n1 x1:Nat) (f0 f1:Nat→Int) (k0 k1:Int) (H:Ints .i64 w F (.slice a0 n0 x0) n0 f0) (K:Ints .i64 w G (.slice a1 n1 x1) n1 f1) :
  Calls Tryz.prog 26 #[.agg #[.slice a0 n0 x0,.i k0],.agg #[.slice a1 n1 x1,.i k1]] w fun e w'=>e=.returned (.bool (A8 n0 n1 f0 f1 && (k0==k1)))∧Below w.heap.size w w':=by
 have L0:Below w.heap.size w ((w.alloc (.cells #[.slice a0 n0 x0,.i k0] 34)).alloc (.cells #[.slice a1 n1 x1,.i k1] 34)):=((Below.refl _ _).alloc (Nat.le_refl _) _).alloc (by simp) _;have B0:((w.alloc (.cells #[.slice a0 n0 x0,.i k0] 34)).alloc (.cells #[.slice a1 n1 x1,.i k1] 34)).heap[w.heap.size]?=some (.cells #[.slice a0 n0 x0,.i k0] 34 (0,0)):=A9 (Ak w #[.slice a0 n0 x0,.i k0] 34) _
 have B1:((w.alloc (.cells #[.slice a0 n0 x0,.i k0] 34)).alloc (.cells #[.slice a1 n1 x1,.i k1] 34)).heap[w.heap.size+1]?=some (.cells #[.slice a1 n1 x1,.i k1] 34 (0,0)):=by simpa using Ak (w.alloc (.cells #[.slice a0 n0 x0,.i k0] 34)) #[.slice a1 n1 x1,.i k1] 34
 have h1:=Ad (H.keep (Aa L0 Ah) (fun _ _ _ x=>x));have h2:=Ad (K.keep (Aa L0 Ah) (fun _ _ _ x=>x));clear H K
 cases q0:(k0==k1)
 ·go_enter Tryz.func26,Tryz.ntmps26
  go_wp2;go_ret;exact ⟨Al (by simp only [q0,Bool.and_false]:false=_),L0⟩
 go_enter Tryz.func26,Tryz.ntmps26
 go_wp2_with fail;refine (Db _ _ _ _ _ n0 n1 f0 f1 h1.out h2.out).mono ?_;rintro e W1 ⟨rfl,rfl⟩;go_wp2;go_ret;exact ⟨Al (by simp only [q0,Bool.and_true]:A8 n0 n1 f0 f1=_),L0⟩
def Ql (d:Am):Qk:=⟨d.mf,d.lf,d.fr,d.ns,d.sm,d.nq,d.rd⟩
def Kg (a b:Am):Bool:=Kd a.A b.A a.X b.X a.S b.S a.Pc b.Pc a.Z b.Z a.N b.N a.C b.C a.I b.I
def Kh (a b:Am):Bool:=Ef a.t a.c a.s a.ad a.pl a.bl a.nt a.tb a.nd a.dt b.t b.c b.s b.ad b.pl b.bl b.nt b.tb b.nd b.dt
def Ki (a b:Am):Bool:=Ke a.T b.T a.P b.P a.K b.K a.B b.B a.L b.L a.Q b.Q a.R b.R
def Kj (a b:Am):Bool:=Kf a.hd b.hd a.sh b.sh
def lockB (a b:Am):Bool:=(A8 a.nr b.nr a.g b.g && (a.bank==b.bank)) && (Kg a b && (Kh a b && (Ki a b && (Kj a b && ((a.nmi==b.nmi) && ((a.st==b.st) && obsSame (Ql a) (Ql b)))))))
theorem Bn.ints17 {W:World} {D:Nat→Prop} {u:Value} {k:Int} {n:Nat} {f:Nat→Int} (H:Bn W D (.agg #[u,.i k]) n f k):∃ a c,u=.slice a n c∧Ints .i64 W (On D) u n f:=by
 obtain ⟨a,c,e,hn,hr,hF,hD⟩:=H
 have e1:u=.slice a n c:=by simpa using e
 subst e1;exact ⟨a,c,rfl,a,c,rfl,hn,hr,hD⟩
theorem M9 (w:World) (D E:Nat→Nat→Prop) (v u:Value) (a b:Am) (H:As w D v a) (K:As w E u b) :
  Calls Tryz.prog 12 #[v,u] w fun e w'=>e=.returned (.bool (lockB a b))∧Below w.heap.size w w':=by
 obtain ⟨u0,u1,u2,u3,u4,u5,u6,u7,rfl,-,-,h2,h3,h4⟩:=H;obtain ⟨v0,v1,v2,v3,v4,v5,v6,v7,rfl,-,-,k2,k3,k4⟩:=K;obtain ⟨ua,ux,rfl,j2⟩:=h2.ints17;obtain ⟨va,vx,rfl,l2⟩:=k2.ints17;clear h2 k2;have L0:Below w.heap.size w ((w.alloc (.cells (kR a u0 u1 (.slice ua a.nr ux) u3 u4 u5 u6 u7) 44)).alloc (.cells (kR b v0 v1 (.slice va b.nr vx) v3 v4 v5 v6 v7) 44)):=((Below.refl _ _).alloc (Nat.le_refl _) _).alloc (by simp) _;have B0:((w.alloc (.cells (kR a u0 u1 (.slice ua a.nr ux) u3 u4 u5 u6 u7) 44)).alloc (.cells (kR b v0 v1 (.slice va b.nr vx) v3 v4 v5 v6 v7) 44)).heap[w.heap.size]?=some (.cells (kR a u0 u1 (.slice ua a.nr ux) u3 u4 u5 u6 u7) 44 (0,0)):=A9 (Ak w (kR a u0 u1 (.slice ua a.nr ux) u3 u4 u5 u6 u7) 44) _
 have B1:((w.alloc (.cells (kR a u0 u1 (.slice ua a.nr ux) u3 u4 u5 u6 u7) 44)).alloc (.cells (kR b v0 v1 (.slice va b.nr vx) v3 v4 v5 v6 v7) 44)).heap[w.heap.size+1]?=some (.cells (kR b v0 v1 (.slice va b.nr vx) v3 v4 v5 v6 v7) 44 (0,0)):=by simpa using Ak (w.alloc (.cells (kR a u0 u1 (.slice ua a.nr ux) u3 u4 u5 u6 u7) 44)) (kR b v0 v1 (.slice va b.nr vx) v3 v4 v5 v6 v7) 44
 replace j2:=Ad (j2.keep (Aa L0 Ah) (fun _ _ _ x=>x));replace l2:=Ad (l2.keep (Aa L0 Ah) (fun _ _ _ x=>x));replace h3:=Ad (h3.keep (Aa L0 Ah) (fun _ _ _ _ x=>x));replace k3:=Ad (k3.keep (Aa L0 Ah) (fun _ _ _ _ x=>x));replace h4:=Ad (show Is _ _ _ (Ql a) from h4.keep (Aa L0 Ah) (fun _ _ _ _ _ _ x=>x));replace k4:=Ad (show Is _ _ _ (Ql b) from k4.keep (Aa L0 Ah) (fun _ _ _ _ _ _ x=>x))
 have ec:∀ W,(binOp .eql 36 (.agg (cR a.A a.X a.S a.Pc a.Z a.N a.C a.I)) (.agg (cR b.A b.X b.S b.Pc b.Z b.N b.C b.I))).run Tryz.prog W=.ok (.bool (Kg a b)) W:=fun W=>Lv a.A b.A a.X b.X a.S b.S a.Pc b.Pc a.Z b.Z a.N b.N a.C b.C a.I b.I W
 have ea:∀ W,(binOp .eql 40 (.agg (aR a.T a.P a.K a.B a.L a.Q a.R)) (.agg (aR b.T b.P b.K b.B b.L b.Q b.R))).run Tryz.prog W=.ok (.bool (Ki a b)) W:=fun W=>Lw a.T b.T a.P b.P a.K b.K a.B b.B a.L b.L a.Q b.Q a.R b.R W
 have ep:∀ W,(binOp .eql 42 (.agg #[.bool a.hd,.i a.sh]) (.agg #[.bool b.hd,.i b.sh])).run Tryz.prog W=.ok (.bool (Kj a b)) W:=fun W=>Ly a.hd b.hd a.sh b.sh W
 go_enter Tryz.func12,Tryz.ntmps12
 go_wp2_with fail;generalize ((w.alloc (.cells (kR a u0 u1 (.slice ua a.nr ux) u3 u4 u5 u6 u7) 44)).alloc (.cells (kR b v0 v1 (.slice va b.nr vx) v3 v4 v5 v6 v7) 44))=W0 at *;have c_0:=Ad (Aj B0);have c_1:=Ad (Aj B1);refine (Ey _ _ _ _ _ a.nr b.nr a.g b.g j2.out l2.out).mono ?_;rintro e W1 ⟨rfl,d1,rfl⟩;have L:=below_drewN (Below.refl W0.heap.size W0) d1;generalize W0.drewN d1=W1 at *;replace L0:=Ai L0 L;replace B0:=Ac B0 L (Af B0);replace B1:=Ac B1 L (Af B1);clear c_0 c_1;have c_0:=Ad (Aj B0);have c_1:=Ad (Aj B1);replace h3:=Ad (h3.out.keep (Aa L Ah) (fun _ _ _ _ x=>x));replace k3:=Ad (k3.out.keep (Aa L Ah) (fun _ _ _ _ x=>x));replace h4:=Ad (Dp.below (show Is _ _ _ _ from h4.out) L);replace k4:=Ad (Dp.below (show Is _ _ _ _ from k4.out) L);clear L
 cases r0:A8 a.nr b.nr a.g b.g
 ·have d_0:=c_0.out
  have d_1:=c_1.out;go_wp2;go_ret;exact ⟨Al (by simp only [lockB,r0,Bool.true_and,Bool.false_and,Bool.and_false,Bool.and_true,Bool.and_self]:false=_),L0⟩
 cases r1:(a.bank==b.bank)
 ·have d_0:=c_0.out
  have d_1:=c_1.out;go_wp2;go_ret;exact ⟨Al (by simp only [lockB,r0,r1,Bool.true_and,Bool.false_and,Bool.and_false,Bool.and_true,Bool.and_self]:false=_),L0⟩
 cases r2:Kg a b
 ·have d_0:=c_0.out
  have d_1:=c_1.out;go_wp2;go_ret;exact ⟨Al (by simp only [lockB,r0,r1,r2,Bool.true_and,Bool.false_and,Bool.and_false,Bool.and_true,Bool.and_self]:false=_),L0⟩
 have d_0:=c_0.out;have d_1:=c_1.out;go_wp2_with fail;clear d_0 d_1;refine (Sc _ _ _ _ _ _ _ _ _ _ _ _ _ _ _ _ _ _ _ _ _ _ _ _ _ h3.out k3.out).mono ?_;rintro e W2 ⟨rfl,L⟩;clear h3 k3;replace L0:=Ai L0 L;replace B0:=Ac B0 L (Af B0);replace B1:=Ac B1 L (Af B1);clear c_0 c_1;have c_0:=Ad (Aj B0);have c_1:=Ad (Aj B1);replace h4:=Ad (Dp.below (show Is _ _ _ _ from h4.out) L);replace k4:=Ad (Dp.below (show Is _ _ _ _ from k4.out) L);clear L;have rp:=Ad (show Ef a.t a.c a.s a.ad a.pl a.bl a.nt a.tb a.nd a.dt b.t b.c b.s b.ad b.pl b.bl b.nt b.tb b.nd b.dt=Kh a b from rfl);rw [rp.out];clear rp;cases r3:Kh a b
 ·have d_0:=c_0.out
  have d_1:=c_1.out;go_wp2;go_ret;exact ⟨Al (by simp only [lockB,r0,r1,r2,r3,Bool.true_and,Bool.false_and,Bool.and_false,Bool.and_true,Bool.and_self]:false=_),L0⟩
 cases r4:Ki a b
 ·have d_0:=c_0.out
  have d_1:=c_1.out;go_wp2;go_ret;exact ⟨Al (by simp only [lockB,r0,r1,r2,r3,r4,Bool.true_and,Bool.false_and,Bool.and_false,Bool.and_true,Bool.and_self]:false=_),L0⟩
 cases r5:Kj a b
 ·have d_0:=c_0.out
  have d_1:=c_1.out;go_wp2;go_ret;exact ⟨Al (by simp only [lockB,r0,r1,r2,r3,r4,r5,Bool.true_and,Bool.false_and,Bool.and_false,Bool.and_true,Bool.and_self]:false=_),L0⟩
 cases r6:(a.nmi==b.nmi)
 ·have d_0:=c_0.out
  have d_1:=c_1.out;go_wp2;go_ret;exact ⟨Al (by simp only [lockB,r0,r1,r2,r3,r4,r5,r6,Bool.true_and,Bool.false_and,Bool.and_false,Bool.and_true,Bool.and_self]:false=_),L0⟩
 cases r7:(a.st==b.st)
 ·have d_0:=c_0.out
  have d_1:=c_1.out;go_wp2;go_ret;exact ⟨Al (by simp only [lockB,r0,r1,r2,r3,r4,r5,r6,r7,Bool.true_and,Bool.false_and,Bool.and_false,Bool.and_true,Bool.and_self]:false=_),L0⟩
 have d_0:=c_0.out;have d_1:=c_1.out;go_wp2_with fail;clear d_0 d_1;refine (Ix _ _ _ _ _ (Ql a) (Ql b) h4.out k4.out).mono ?_;rintro e W3 ⟨rfl,L⟩;replace L0:=Ai L0 L;go_wp2;go_ret;exact ⟨Al (by simp only [lockB,r0,r1,r2,r3,r4,r5,r6,r7,Bool.true_and,Bool.false_and,Bool.and_false,Bool.and_true,Bool.and_self]:obsSame (Ql a) (Ql b)=_),L0⟩
theorem Fy (w:World) (D E:Nat→Nat→Prop) (v u:Value) (a b:Am) (H:As w D v a) (K:As w E u b) :
  Calls Tryz.prog 11 #[v,u] w fun e w'=>e=.returned (.bool (lockB a b))∧Below w.heap.size w w':=by
 obtain ⟨u0,u1,u2,u3,u4,u5,u6,u7,rfl,-,-,h2,h3,h4⟩:=H;obtain ⟨v0,v1,v2,v3,v4,v5,v6,v7,rfl,-,-,k2,k3,k4⟩:=K;obtain ⟨ua,ux,rfl,j2⟩:=h2.ints17;obtain ⟨va,vx,rfl,l2⟩:=k2.ints17;clear h2 k2;have L0:Below w.heap.size w ((w.alloc (.cells (kR a u0 u1 (.slice ua a.nr ux) u3 u4 u5 u6 u7) 44)).alloc (.cells (kR b v0 v1 (.slice va b.nr vx) v3 v4 v5 v6 v7) 44)):=((Below.refl _ _).alloc (Nat.le_refl _) _).alloc (by simp) _;have B0:((w.alloc (.cells (kR a u0 u1 (.slice ua a.nr ux) u3 u4 u5 u6 u7) 44)).alloc (.cells (kR b v0 v1 (.slice va b.nr vx) v3 v4 v5 v6 v7) 44)).heap[w.heap.size]?=some (.cells (kR a u0 u1 (.slice ua a.nr ux) u3 u4 u5 u6 u7) 44 (0,0)):=A9 (Ak w (kR a u0 u1 (.slice ua a.nr ux) u3 u4 u5 u6 u7) 44) _
 have B1:((w.alloc (.cells (kR a u0 u1 (.slice ua a.nr ux) u3 u4 u5 u6 u7) 44)).alloc (.cells (kR b v0 v1 (.slice va b.nr vx) v3 v4 v5 v6 v7) 44)).heap[w.heap.size+1]?=some (.cells (kR b v0 v1 (.slice va b.nr vx) v3 v4 v5 v6 v7) 44 (0,0)):=by simpa using Ak (w.alloc (.cells (kR a u0 u1 (.slice ua a.nr ux) u3 u4 u5 u6 u7) 44)) (kR b v0 v1 (.slice va b.nr vx) v3 v4 v5 v6 v7) 44
 replace j2:=Ad (j2.keep (Aa L0 Ah) (fun _ _ _ x=>x));replace l2:=Ad (l2.keep (Aa L0 Ah) (fun _ _ _ x=>x));replace h3:=Ad (h3.keep (Aa L0 Ah) (fun _ _ _ _ x=>x));replace k3:=Ad (k3.keep (Aa L0 Ah) (fun _ _ _ _ x=>x));replace h4:=Ad (show Is _ _ _ (Ql a) from h4.keep (Aa L0 Ah) (fun _ _ _ _ _ _ x=>x));replace k4:=Ad (show Is _ _ _ (Ql b) from k4.keep (Aa L0 Ah) (fun _ _ _ _ _ _ x=>x))
 have ec:∀ W,(binOp .eql 36 (.agg (cR a.A a.X a.S a.Pc a.Z a.N a.C a.I)) (.agg (cR b.A b.X b.S b.Pc b.Z b.N b.C b.I))).run Tryz.prog W=.ok (.bool (Kg a b)) W:=fun W=>Lv a.A b.A a.X b.X a.S b.S a.Pc b.Pc a.Z b.Z a.N b.N a.C b.C a.I b.I W
 have ea:∀ W,(binOp .eql 40 (.agg (aR a.T a.P a.K a.B a.L a.Q a.R)) (.agg (aR b.T b.P b.K b.B b.L b.Q b.R))).run Tryz.prog W=.ok (.bool (Ki a b)) W:=fun W=>Lw a.T b.T a.P b.P a.K b.K a.B b.B a.L b.L a.Q b.Q a.R b.R W
 have ep:∀ W,(binOp .eql 42 (.agg #[.bool a.hd,.i a.sh]) (.agg #[.bool b.hd,.i b.sh])).run Tryz.prog W=.ok (.bool (Kj a b)) W:=fun W=>Ly a.hd b.hd a.sh b.sh W
 go_enter Tryz.func11,Tryz.ntmps11
 go_wp2_with fail;generalize ((w.alloc (.cells (kR a u0 u1 (.slice ua a.nr ux) u3 u4 u5 u6 u7) 44)).alloc (.cells (kR b v0 v1 (.slice va b.nr vx) v3 v4 v5 v6 v7) 44))=W0 at *;have c_0:=Ad (Aj B0);have c_1:=Ad (Aj B1);refine (Pf _ _ _ _ _ _ _ _ _ a.g b.g a.bank b.bank j2.out l2.out).mono ?_;rintro e W1 ⟨rfl,L⟩;replace L0:=Ai L0 L;replace B0:=Ac B0 L (Af B0);replace B1:=Ac B1 L (Af B1);clear c_0 c_1;have c_0:=Ad (Aj B0);have c_1:=Ad (Aj B1);replace h3:=Ad (h3.out.keep (Aa L Ah) (fun _ _ _ _ x=>x));replace k3:=Ad (k3.out.keep (Aa L Ah) (fun _ _ _ _ x=>x));replace h4:=Ad (Dp.below (show Is _ _ _ _ from h4.out) L);replace k4:=Ad (Dp.below (show Is _ _ _ _ from k4.out) L);clear L
 cases r0:(A8 a.nr b.nr a.g b.g && (a.bank==b.bank))
 ·have d_0:=c_0.out
  have d_1:=c_1.out;go_wp2;go_ret;exact ⟨Al (by simp only [lockB,r0,Bool.true_and,Bool.false_and,Bool.and_false,Bool.and_true,Bool.and_self]:false=_),L0⟩
 cases r2:Kg a b
 ·have d_0:=c_0.out
  have d_1:=c_1.out;go_wp2;go_ret;exact ⟨Al (by simp only [lockB,r0,r2,Bool.true_and,Bool.false_and,Bool.and_false,Bool.and_true,Bool.and_self]:false=_),L0⟩
 have d_0:=c_0.out;have d_1:=c_1.out;go_wp2_with fail;clear d_0 d_1;refine (Pe _ _ _ _ _ _ _ _ _ _ _ _ _ _ _ _ _ _ _ _ _ _ _ _ _ h3.out k3.out).mono ?_;rintro e W2 ⟨rfl,L⟩;clear h3 k3;replace L0:=Ai L0 L;replace B0:=Ac B0 L (Af B0);replace B1:=Ac B1 L (Af B1);clear c_0 c_1;have c_0:=Ad (Aj B0);have c_1:=Ad (Aj B1);replace h4:=Ad (Dp.below (show Is _ _ _ _ from h4.out) L);replace k4:=Ad (Dp.below (show Is _ _ _ _ from k4.out) L);clear L;have rp:=Ad (show Ef a.t a.c a.s a.ad a.pl a.bl a.nt a.tb a.nd a.dt b.t b.c b.s b.ad b.pl b.bl b.nt b.tb b.nd b.dt=Kh a b from rfl);rw [rp.out];clear rp;cases r3:Kh a b
 ·have d_0:=c_0.out
  have d_1:=c_1.out;go_wp2;go_ret;exact ⟨Al (by simp only [lockB,r0,r2,r3,Bool.true_and,Bool.false_and,Bool.and_false,Bool.and_true,Bool.and_self]:false=_),L0⟩
 cases r4:Ki a b
 ·have d_0:=c_0.out
  have d_1:=c_1.out;go_wp2;go_ret;exact ⟨Al (by simp only [lockB,r0,r2,r3,r4,Bool.true_and,Bool.false_and,Bool.and_false,Bool.and_true,Bool.and_self]:false=_),L0⟩
 cases r5:Kj a b
 ·have d_0:=c_0.out
  have d_1:=c_1.out;go_wp2;go_ret;exact ⟨Al (by simp only [lockB,r0,r2,r3,r4,r5,Bool.true_and,Bool.false_and,Bool.and_false,Bool.and_true,Bool.and_self]:false=_),L0⟩
 cases r6:(a.nmi==b.nmi)
 ·have d_0:=c_0.out
  have d_1:=c_1.out;go_wp2;go_ret;exact ⟨Al (by simp only [lockB,r0,r2,r3,r4,r5,r6,Bool.true_and,Bool.false_and,Bool.and_false,Bool.and_true,Bool.and_self]:false=_),L0⟩
 cases r7:(a.st==b.st)
 ·have d_0:=c_0.out
  have d_1:=c_1.out;go_wp2;go_ret;exact ⟨Al (by simp only [lockB,r0,r2,r3,r4,r5,r6,r7,Bool.true_and,Bool.false_and,Bool.and_false,Bool.and_true,Bool.and_self]:false=_),L0⟩
 have d_0:=c_0.out;have d_1:=c_1.out;go_wp2_with fail;clear d_0 d_1;refine (Ea _ _ _ _ _ (Ql a) (Ql b) h4.out k4.out).mono ?_;rintro e W3 ⟨rfl,L⟩;replace L0:=Ai L0 L;go_wp2;go_ret;exact ⟨Al (by simp only [lockB,r0,r2,r3,r4,r5,r6,r7,Bool.true_and,Bool.false_and,Bool.and_false,Bool.and_true,Bool.and_self]:obsSame (Ql a) (Ql b)=_),L0⟩
end Go.Proofs.YtfjieibndedngaaGreat
