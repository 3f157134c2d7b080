import Derived.Test.YtgcmimcalmjaaaaGreatDoorKIc
import Derived.Test.YtgcmimcalmjaaaaGreatDoorKQ
import Derived.Test.YtgcmimcalmjaaaaGreatDoorAI
namespace Go.Proofs.YtgcmimcalmjaaaaGreatDoor
set_option linter.unusedVariables false
set_option linter.unusedSimpArgs false
open Go.ChangeShapes Go.WideShapes Go.ChangeAt Go.RowKit
theorem Bi.upTo {W:World} {lo N N':Nat} {D:Nat→Nat→Prop} {u0 u1 u2 u3 u4 u5 u6 u7:Value} {ob:Nat→Option Nat} {iv ov:Nat→Value} {o6 o7:Option Nat} {d:Aq} (H:Bi W lo N D u0 u1 u2 u3 u4 u5 u6 u7 ob iv ov o6 o7 d) (h:N≤N') (h':N'≤W.heap.size):Bi W lo N' D u0 u1 u2 u3 u4 u5 u6 u7 ob iv ov o6 o7 d :=
 ⟨H.h0,H.h1,H.h2,H.h3,H.h5,H.h5D,H.h6,H.h6D,H.h7,H.h7D,H.dis,fun i b hb=>⟨(H.bd i b hb).1,Nat.lt_of_lt_of_le (H.bd i b hb).2 h⟩,h',H.hps⟩
set_option maxHeartbeats 8000000
open Go.Sort
theorem Zh (w:World) (t:Int) (h0:0≤t) (h1:t≤20000):Calls Tryz.prog 103 #[.i t] w fun e w'=>e=.returned (.i (Va t))∧w'=w:=by
 have HE:Hid (max (t+64-1-48) 0/64=Va t):=by show _=_; unfold Va; rw [Int.max_eq_left (by omega),show t+64-1-48=t+15 by omega]
 have HF:=Ad (Kp w (t+64-1-48) (by omega));rw [HE.out] at HF
 go_enter Tryz.func103,Tryz.ntmps103
 go_wp2_with fail;refine HF.out.mono ?_;rintro e w1 ⟨rfl,rfl⟩;go_wp2;go_ret;exact ⟨rfl,rfl⟩
theorem Xi (w:World) (t:Int) (h0:0≤t) (h1:t≤20000):Calls Tryz.prog 104 #[.i t] w fun e w'=>e=.returned (.i (t/16))∧w'=w:=by
 have d1:t.tdiv 16=t/16:=Int.tdiv_eq_ediv_of_nonneg h0
 go_enter Tryz.func104,Tryz.ntmps104
 go_wp2;go_ret;exact ⟨rfl,rfl⟩
theorem Tq (w:World) (a:Option Addr) (n c:Nat) (hn:n≤1048576) (t:Int) (h0:0≤t) (h1:t≤20000):Calls Tryz.prog 71 #[.slice a n c,.i t] w fun e w'=>e=.returned (.bool ((n:Int)==t/16))∧w'=w:=by
 obtain ⟨r,hr⟩:∃ r,Hid (r=((n:Int)==t/16)):=⟨_,rfl⟩
 rw [← hr.out]
 go_enter Tryz.func71,Tryz.ntmps71
 go_wp2_with fail;refine (Xi _ t h0 h1).mono ?_;rintro e w1 ⟨rfl,rfl⟩;go_wp2;go_ret;exact ⟨Ap hr.out.symm,rfl⟩
theorem Xj (w:World) (F:Nat→Nat→Prop) (u:Value) (m:Nat) (ln:Nat→Nat) (f:Nat→Nat→Int) (t:Int) (H:Ba .i64 w F u m ln f) (h0:0≤t) (h1:t≤20000):Calls Tryz.prog 70 #[u,.i t] w fun e w'=>e=.returned (.bool (Kv m ln t))∧Below w.heap.size w w':=by
 obtain ⟨a,cap,rfl,hn,-,hc⟩:=H
 obtain ⟨r,hr⟩:∃ r,Hid (r=Kv m ln t):=⟨_,rfl⟩
 rw [← hr.out]
 go_enter Tryz.func70,Tryz.ntmps70
 go_wp2
 go_loop [9] (fun i=>∃ q:Nat,q≤m∧i=.i q∧∀ i,i<q→ln i=48) (fun i=>m-(intOf i).toNat)
 case atStart=>exact ⟨0,Nat.zero_le _,rfl,fun i hi=>absurd hi (Nat.not_lt_zero _)⟩
 case round =>
  obtain ⟨q,hq,rfl,hok⟩:=hrel;have HO:=Ad hok;clear hok
  by_cases hlt:q<m
  ·obtain ⟨b,off,u,rfl,hcell,a',cap',rfl,hn',hrow,-⟩:=hc q hlt
   have hlt':(q:Int)<(m:Int):=by omega
   by_cases hl:ln q=48
   ·have hl':((ln q:Int) != 48)=false:=by simp; omega
    have HL:=Ad hl;clear hl;go_wp2
    go_round
    case rel =>
     refine ⟨q+1,by omega,by go_num,fun i hi=>?_⟩
     by_cases e:i=q
     ·rw [e]; exact An HL
     ·exact An HO i (by omega)
    case measure=>simp [intOf]; omega
   ·have hl':((ln q:Int) != 48)=true:=by simp; omega
    have HI:=Ad (hr.out.trans (Vb hlt hl));clear hl;go_wp2;go_ret;exact ⟨Ap (An HI).symm,Below.refl _ _⟩
  ·have hlt':¬ (q:Int)<(m:Int):=by omega
   have e:q=m:=by omega
   subst e;have HI:=Ad (hr.out.trans (Rp (An HO)));go_wp2_with fail;refine (Zh _ t h0 h1).mono ?_;rintro e w1 ⟨rfl,rfl⟩;go_wp2;go_ret;exact ⟨Ap (An HI).symm,Below.refl _ _⟩
theorem Rr (d:Aq):Cd d=(B6 d.m d.ln d.f d.nr d.g d.bank && (Dr d.np d.p && (It d.A d.X d.S d.Pc && (A1 d.t d.c d.s d.ad d.pl d.nt d.tb d.nd d.dt && (Ci d.T d.P d.K d.B d.L && (Cs d.sh 0 255 && ((d.t==d.T) && (decide (0≤d.st) && (decide (d.st≤d.t) && (Kv d.mf d.lf d.t && ((d.ns:Int)==d.t/16))))))))))):=by
 unfold Cd;rw [Bool.and_left_comm,show Cs d.st 0 d.t=(decide (0≤d.st) && decide (d.st≤d.t)) from rfl,Bool.and_assoc (decide (0≤d.st))]
theorem Tr (w:World) (D:Nat→Nat→Prop) (v:Value) (d:Aq) (H:Bh w D v d):Calls Tryz.prog 27 #[v] w fun e w'=>e=.returned (.bool (Cd d))∧Below w.heap.size w w':=by
 obtain ⟨u0,u1,u2,u3,u4,u5,u6,u7,rfl,h0,h1,h2,h3,h4⟩:=H;obtain ⟨v5,v6,v7,hv,h5,h6,h7⟩:=h4;simp only [Value.agg.injEq,Array.mk.injEq,List.cons.injEq,and_true] at hv;obtain ⟨rfl,rfl,rfl⟩:=hv;obtain ⟨y2,hy2,g2⟩:=h2.ints;simp only [Value.agg.injEq,Array.mk.injEq,List.cons.injEq,and_true] at hy2;subst hy2;obtain ⟨y3,y4,hy3,g3,g4⟩:=h3.ints;simp only [Value.agg.injEq,Array.mk.injEq,List.cons.injEq,and_true,true_and] at hy3;obtain ⟨rfl,rfl⟩:=hy3;have g0:=h0.ints;have g5:=h5.ints;have n6:=h6.small;obtain ⟨a6,c6,e6,s6⟩:=id h6;obtain ⟨a1,c1,e1,s1⟩:=id h1;subst e6;subst e1;have g1:=s1.ints c1;clear h0 h1 h2 h3 h5 h6 h7 s1 s6;have L0:Below w.heap.size w (w.alloc (.cells (kR d u0 (.slice a1 d.np c1) u2 u3 u4 u5 (.slice a6 d.ns c6) u7) 49)):=(Below.refl _ _).alloc (Nat.le_refl _) _
 have k0:=Al w (kR d u0 (.slice a1 d.np c1) u2 u3 u4 u5 (.slice a6 d.ns c6) u7) 49
 have KE:∀ {W:World},Below w.heap.size w W→∀ {F:Nat→Nat→Prop} {v:Value} {n:Nat} {f:Nat→Int},Ints .i64 w F v n f→Ints .i64 W F v n f:=fun L _ _ _ _ h=>h.keep (Ab L Aj) (fun _ _ _ x=>x)
 have KS:∀ {W:World},Below w.heap.size w W→∀ {F:Nat→Nat→Prop} {v:Value} {m:Nat} {ln:Nat→Nat} {f:Nat→Nat→Int},Ba .i64 w F v m ln f→Ba .i64 W F v m ln f:=fun L _ _ _ _ _ h=>h.keep (Ab L Aj) (fun _ _ _ x=>x)
 obtain ⟨b0,qb0⟩:∃ b,Hid (b=B6 d.m d.ln d.f d.nr d.g d.bank):=⟨_,rfl⟩
 obtain ⟨b1,qb1⟩:∃ b,Hid (b=Dr d.np d.p):=⟨_,rfl⟩
 obtain ⟨b2,qb2⟩:∃ b,Hid (b=It d.A d.X d.S d.Pc):=⟨_,rfl⟩
 obtain ⟨b3,qb3⟩:∃ b,Hid (b=A1 d.t d.c d.s d.ad d.pl d.nt d.tb d.nd d.dt):=⟨_,rfl⟩
 obtain ⟨b4,qb4⟩:∃ b,Hid (b=Ci d.T d.P d.K d.B d.L):=⟨_,rfl⟩
 obtain ⟨b5,qb5⟩:∃ b,Hid (b=Cs d.sh 0 255):=⟨_,rfl⟩
 obtain ⟨b6,qb6⟩:∃ b,Hid (b=(d.t==d.T)):=⟨_,rfl⟩
 obtain ⟨b7,qb7⟩:∃ b,Hid (b=decide (0≤d.st)):=⟨_,rfl⟩
 obtain ⟨b8,qb8⟩:∃ b,Hid (b=decide (d.st≤d.t)):=⟨_,rfl⟩
 obtain ⟨b9,qb9⟩:∃ b,Hid (b=Kv d.mf d.lf d.t):=⟨_,rfl⟩
 obtain ⟨b10,qb10⟩:∃ b,Hid (b=((d.ns:Int)==d.t/16)):=⟨_,rfl⟩
 obtain ⟨r,hr⟩:∃ r,Hid (r=Cd d):=⟨_,rfl⟩
 rw [← hr.out]
 have HOK:Hid (r=(b0 && (b1 && (b2 && (b3 && (b4 && (b5 && (b6 && (b7 && (b8 && (b9 && b10))))))))))):=by show _=_; rw [hr.out,Rr,qb0.out,qb1.out,qb2.out,qb3.out,qb4.out,qb5.out,qb6.out,qb7.out,qb8.out,qb9.out,qb10.out]
 clear hr
 go_enter Tryz.func27,Tryz.ntmps27
 go_upto_region 1 with (fail);generalize w.alloc (.cells (kR d u0 (.slice a1 d.np c1) u2 u3 u4 u5 (.slice a6 d.ns c6) u7) 49)=W0 at *;have c0:=Ag k0;go_wp2_with fail;clear c0;have HC:=Ad (Kd W0 _ _ _ _ d.m d.ln d.f d.nr d.g d.bank (KS L0 g0) (KE L0 g2));rw [← qb0.out] at HC;refine HC.out.mono ?_;clear HC;rintro e W1 ⟨rfl,L⟩;replace L0:=Ae L0 L;replace k0:=Aa k0 L (Ac k0);clear L;cases b0
 ·have HE:Hid (r=false):=by rw [HOK.out]; rfl
  have c0:=Ag k0;go_wp2;go_ret;exact ⟨Ap HE.out.symm,L0⟩
 have c0:=Ag k0;go_wp2_with fail;clear c0;have HC:=Ad (Kr W1 _ _ d.np d.p (KE L0 g1));rw [← qb1.out] at HC;refine HC.out.mono ?_;clear HC;rintro e W2 ⟨rfl,hw⟩
 have L:Below W1.heap.size W1 W2:=by rw [hw]; exact Below.refl _ _
 clear hw;replace L0:=Ae L0 L;replace k0:=Aa k0 L (Ac k0);clear L;cases b1
 ·have HE:Hid (r=false):=by rw [HOK.out]; rfl
  have c0:=Ag k0;go_wp2;go_ret;exact ⟨Ap HE.out.symm,L0⟩
 have c0:=Ag k0;go_wp2_with fail;clear c0;have HC:=Ad (Vw W2 d.A d.X d.S d.Pc d.Z d.N d.C d.I);rw [← qb2.out] at HC;refine HC.out.mono ?_;clear HC;rintro e W3 ⟨rfl,L⟩;replace L0:=Ae L0 L;replace k0:=Aa k0 L (Ac k0);clear L;cases b2
 ·have HE:Hid (r=false):=by rw [HOK.out]; rfl
  have c0:=Ag k0;go_wp2;go_ret;exact ⟨Ap HE.out.symm,L0⟩
 have c0:=Ag k0;go_wp2_with fail;clear c0;have HC:=Ad (Iq W3 _ _ d.t d.c d.s d.ad d.pl d.bl _ _ d.nt d.tb d.nd d.dt (KE L0 g3) (KE L0 g4));rw [← qb3.out] at HC;refine HC.out.mono ?_;clear HC;rintro e W4 ⟨rfl,L⟩;replace L0:=Ae L0 L;replace k0:=Aa k0 L (Ac k0);clear L;cases b3
 ·have HE:Hid (r=false):=by rw [HOK.out]; rfl
  have c0:=Ag k0;go_wp2;go_ret;exact ⟨Ap HE.out.symm,L0⟩
 have TR:=Ec qb3.out.symm;have t16:d.t.tdiv 16=d.t/16:=Int.tdiv_eq_ediv_of_nonneg TR.1;have c0:=Ag k0;go_wp2_with fail;clear c0;have HC:=Ad (Ws W4 d.T d.P d.K d.B d.L d.Q d.R);rw [← qb4.out] at HC;refine HC.out.mono ?_;clear HC;rintro e W5 ⟨rfl,L⟩;replace L0:=Ae L0 L;replace k0:=Aa k0 L (Ac k0);clear L;cases b4
 ·have HE:Hid (r=false):=by rw [HOK.out]; rfl
  have c0:=Ag k0;go_wp2;go_ret;exact ⟨Ap HE.out.symm,L0⟩
 have c0:=Ag k0;go_wp2_with fail;clear c0;have HC:=Ad (isByte d.sh W5);rw [← qb5.out] at HC;refine HC.out.mono ?_;clear HC;rintro e W6 ⟨rfl,hw⟩
 have L:Below W5.heap.size W5 W6:=by rw [hw]; exact Below.refl _ _
 clear hw;replace L0:=Ae L0 L;replace k0:=Aa k0 L (Ac k0);clear L;cases b5
 ·have HE:Hid (r=false):=by rw [HOK.out]; rfl
  have c0:=Ag k0;go_wp2;go_ret;exact ⟨Ap HE.out.symm,L0⟩
 have g_b6:(d.t==d.T)=b6:=qb6.out.symm;cases b6
 ·have HE:Hid (r=false):=by rw [HOK.out]; rfl
  have c0:=Ag k0;go_wp2;go_ret;exact ⟨Ap HE.out.symm,L0⟩
 cases b7
 ·have xb7:¬ (0≤d.st):=of_decide_eq_false qb7.out.symm
  have HE:Hid (r=false):=by rw [HOK.out]; rfl
  have c0:=Ag k0;go_wp2;go_ret;exact ⟨Ap HE.out.symm,L0⟩
 have xb7:0≤d.st:=of_decide_eq_true qb7.out.symm;cases b8
 ·have xb8:¬ (d.st≤d.t):=of_decide_eq_false qb8.out.symm
  have HE:Hid (r=false):=by rw [HOK.out]; rfl
  have c0:=Ag k0;go_wp2;go_ret;exact ⟨Ap HE.out.symm,L0⟩
 have xb8:d.st≤d.t:=of_decide_eq_true qb8.out.symm;have c0:=Ag k0;go_wp2_with fail;clear c0;have HC:=Ad (Xj W6 _ _ d.mf d.lf d.fr d.t (KS L0 g5) TR.1 TR.2);rw [← qb9.out] at HC;refine HC.out.mono ?_;clear HC;rintro e W7 ⟨rfl,L⟩;replace L0:=Ae L0 L;replace k0:=Aa k0 L (Ac k0);clear L;cases b9
 ·have HE:Hid (r=false):=by rw [HOK.out]; rfl
  have c0:=Ag k0;go_wp2;go_ret;exact ⟨Ap HE.out.symm,L0⟩
 have c0:=Ag k0;go_wp2_with fail;clear c0;have HC:=Ad (Tq W7 a6 d.ns c6 n6 d.t TR.1 TR.2);rw [← qb10.out] at HC;refine HC.out.mono ?_;clear HC;rintro e W8 ⟨rfl,hw⟩
 have L:Below W7.heap.size W7 W8:=by rw [hw]; exact Below.refl _ _
 clear hw;replace L0:=Ae L0 L;replace k0:=Aa k0 L (Ac k0);clear L;cases b10
 ·have HE:Hid (r=false):=by rw [HOK.out]; rfl
  have c0:=Ag k0;go_wp2;go_ret;exact ⟨Ap HE.out.symm,L0⟩
 have HE:Hid (r=true):=by rw [HOK.out]; rfl
 have c0:=Ag k0;go_wp2;go_ret;exact ⟨Ap HE.out.symm,L0⟩
def putAt (cs:Array Value) (o:Nat) (vs:Array Value):Array Value:=(cs.toList.take o++vs.toList++cs.toList.drop (o+vs.size)).toArray
theorem Mo {cs vs:Array Value} {o:Nat} (h:o+vs.size≤cs.size):(putAt cs o vs).size=cs.size:=by
 unfold putAt;simp only [List.size_toArray,List.length_append,List.length_take,List.length_drop,Array.length_toList]
 omega
section
variable {P:Program}
theorem J0 (w:World) (g o:Nat) (t ty:TypeId) (old cells:Array Value) (hg:w.heap[g]?=some (.cells old t (0,0))) (hi:(P.info? ty).map (·.size)=some cells.size)
  (ho:o+cells.size≤old.size) (h1:cells.all (·.oneCell')=true) :
  (storeVar ty ⟨g,o,none⟩ (.agg cells)).run P w=.ok () (w.setRow g (putAt old o cells)):=by
 have:=run_storeCells_at (P:=P) g o t cells.toList 0 old w hg (by simp; omega) (fun v hv=>(Array.all_eq_true_iff_forall_mem.1 h1) v (by simpa using hv));simp only [Nat.add_zero,Array.length_toList] at this;have this':(storeCells ⟨g,o,none⟩ cells.toList 0).run P w=.ok () (w.setRow g (putAt old o cells)):=this
 cases hq:P.info? ty with
 | none=>simp [hq] at hi
 | some i =>
  have hs:cells.size=i.size:=by simp [hq] at hi; omega
  simp [storeVar,sizeOf,typeInfo,hq,Value.cells,hs,this']
theorem Gt (w:World) (g o:Nat) (t ty:TypeId) (cs part:Array Value) (fr:Nat × Nat) (d:TypeDesc) (hg:w.heap[g]?=some (.cells cs t fr)) (hp:∀ j v,part[j]?=some v→cs[o+j]?=some v)
  (hu:P.underlying ty=some d) (hd:(match d with | .struct _ | .array _ _=>true | _=>false)=true) (hi:(P.info? ty).map (·.size)=some part.size) :
  (loadVar ty ⟨g,o,none⟩).run P w=.ok (.agg part) w:=by
 have hl:(loadCells ⟨g,o,none⟩ part.toList.length).run P w=.ok part.toList.toArray w :=
  run_loadCells_list (P:=P) w ⟨g,o,none⟩ part.toList (fun j v hv=>by
   have hadd:(⟨g,o,none⟩:Addr).add j=⟨g,o+j,none⟩:=by unfold Addr.add; split <;> simp_all
   rw [hadd,cell_of_row w g (o+j) cs t fr hg]
   exact hp j v (by simpa using hv))
 cases hq:P.info? ty with
 | none=>simp [hq] at hi
 | some i =>
  have hs:i.size=part.size:=by simpa [hq] using hi
  have hagg:(isAgg ty).run P w=.ok true w:=by
   unfold isAgg;rw [Sem.run_bind,run_underlying hu w]
   cases d <;> simp_all
  simp only [Array.length_toList,Array.toArray_toList] at hl
  simp [loadVar,Sem.run_bind,hagg,sizeOf,typeInfo,hq,hs,hl]
theorem Qd {o:Oper} {a:Act} {w:World} {K:Act→World→Prop} {Q:Exit→Act→World→Prop} (ty:TypeId) (x:Operand) (ho:o.op=.load ty x)
  (g off:Nat) (hx:a.eval x=(pt g off)) (t:TypeId) (cs part:Array Value) (fr:Nat × Nat) (d:TypeDesc) (hg:w.heap[g]?=some (.cells cs t fr)) (hp:∀ j v,part[j]?=some v→cs[off+j]?=some v)
  (hu:P.underlying ty=some d) (hd:(match d with | .struct _ | .array _ _=>true | _=>false)=true) (hi:(P.info? ty).map (·.size)=some part.size)
  (h:K (a.put o.dst (.agg part)) w):o.wp P a w K Q:=by
 unfold Oper.wp execOp;simp only [ho,hx,Instr.loadAt,Instr.sureAddr,Sem.run_bind,Sem.run_pure,Result.andThen_ok,Gt w g off t ty cs part fr d hg hp hu hd hi];exact h
theorem Bf {ops:Array Oper} {rest:List Oper} {o:Oper} {a:Act} {w:World} {Q:Exit→Act→World→Prop} (hgd:o.guard=none) (ty:TypeId) (x:Operand) (ho:o.op=.load ty x)
  (g off:Nat) (hx:a.eval x=(pt g off)) (t:TypeId) (cs part:Array Value) (fr:Nat × Nat) (d:TypeDesc) (hg:w.heap[g]?=some (.cells cs t fr)) (hp:∀ j v,part[j]?=some v→cs[off+j]?=some v)
  (hu:P.underlying ty=some d) (hd:(match d with | .struct _ | .array _ _=>true | _=>false)=true) (hi:(P.info? ty).map (·.size)=some part.size)
  (h:wpList P ops Q rest (a.put o.dst (.agg part)) w):wpList P ops Q (o :: rest) a w :=
 wpList_plain hgd fun _ hK=>Qd ty x ho g off hx t cs part fr d hg hp hu hd hi (hK _ _ h)
theorem Bg {o:Oper} {a:Act} {w:World} {K:Act→World→Prop} {Q:Exit→Act→World→Prop} (ty:TypeId) (x y:Operand) (ho:o.op=.store ty x y)
  (g off:Nat) (cells:Array Value) (hx:a.eval x=(pt g off)) (hy:a.eval y=.agg cells)
  (t:TypeId) (old:Array Value) (hg:w.heap[g]?=some (.cells old t (0,0))) (hi:(P.info? ty).map (·.size)=some cells.size)
  (hold:off+cells.size≤old.size) (h1:cells.all (·.oneCell')=true)
  (h:K (a.put o.dst undef) (w.setRow g (putAt old off cells))):o.wp P a w K Q:=by
 unfold Oper.wp execOp;simp only [ho,hx,hy,Instr.storeAt,Instr.sureAddr,Sem.run_bind,Sem.run_pure,Result.andThen_ok,J0 w g off t ty old cells hg hi hold h1];exact h
theorem Bv {ops:Array Oper} {rest:List Oper} {o:Oper} {a:Act} {w:World} {Q:Exit→Act→World→Prop} (hgd:o.guard=none) (ty:TypeId) (x y:Operand) (ho:o.op=.store ty x y)
  (g off:Nat) (cells:Array Value) (hx:a.eval x=(pt g off)) (hy:a.eval y=.agg cells)
  (t:TypeId) (old:Array Value) (hg:w.heap[g]?=some (.cells old t (0,0))) (hi:(P.info? ty).map (·.size)=some cells.size)
  (hold:off+cells.size≤old.size) (h1:cells.all (·.oneCell')=true)
  (h:wpList P ops Q rest (a.put o.dst undef) (w.setRow g (putAt old off cells))):wpList P ops Q (o :: rest) a w :=
 wpList_plain hgd fun _ hK=>Bg ty x y ho g off cells hx hy t old hg hi hold h1 (hK _ _ h)
end
section
variable {P:Program} {ops:Array Oper} {C:World→Prop}
def Jbl (ops:Array Oper) (n:Nat) (l:Array Bool):Prop:=l.size=ops.size∧(∀ k,k<n→l.getD k true=true)∧∀ k,n≤k→k<ops.size→l.getD k true=false
def Zi (ops:Array Oper) (n:Nat):Prop:=∀ j,n≤j→j<ops.size→∀ k,k<n→Bb ops 6 j k=true
def Closed (ops:Array Oper) (l:Array Bool):Prop:=∀ (k:Nat) (o:Oper),l[k]?=some true→ops[k]?=some o→∀ j:Nat,A0 o j=true→l[j]?=some true
theorem Rs {l:Array Bool} {i k:Nat} (h:l[k]?=some true):(l.setIfInBounds i true)[k]?=some true:=by
 by_cases e:i=k
 ·subst e; have:=(Array.getElem?_eq_some_iff.1 h).1; simp [this]
 ·rw [Array.getElem?_setIfInBounds_ne e]; exact h
theorem Closed.set {l:Array Bool} (H:Closed ops l) {i:Nat} (hi:i∈Region.ready .any ops l):Closed ops (l.setIfInBounds i true):=by
 intro k o hk ho j hj
 by_cases e:i=k
 ·subst e
  obtain ⟨-,o',ho',hall⟩:=mem_ready.1 hi;rw [ho'] at ho;cases ho;unfold A0 at hj;rw [Array.any_eq_true'] at hj;obtain ⟨e,he,hb⟩:=hj;simp only [Bool.and_eq_true,beq_iff_eq] at hb;have h1:=hall e he hb.1;rw [hb.2,Array.getD_eq_getD_getElem?] at h1;refine Rs ?_
  rcases hq:l[j]? with _ | b
  ·rw [hq] at h1; simp at h1
  ·rw [hq] at h1; simpa using h1
 ·rw [Array.getElem?_setIfInBounds_ne e] at hk
  exact Rs (H k o hk ho j hj)
def Mp (P:Program) (ops:Array Oper) (C:World→Prop) (n:Nat) (Q:Act→Prop):Nat→Array Bool→Act→Prop
 | 0,l,a=>Jbl ops n l∧Q a
 | f+1,l,a=>(∃ i,i∈Region.ready .any ops l)∧∀ i∈Region.ready .any ops l,qOp P ops C i (Mp P ops C n Q f (l.setIfInBounds i true)) a
theorem Qe {n:Nat} (hn:Zi ops n) {Q:Act→Prop} {i:Nat} {oi:Oper} {v:Value} (hin:i<n) (hi:ops[i]?=some oi) (hsel:∀ (j:Nat) (o:Oper) cs b,ops[j]?=some o→o.op≠.select cs b) :
  ∀ (f:Nat) (l:Array Bool) (a:Act),Closed ops l →
   (∀ j oj,ops[j]?=some oj→j≠i→l.getD j true=false→(∀ e∈oj.after,Region.binds .any e=true→e.on≠i)→oi.apart ops oj=true) →
   i∈Region.ready .any ops l→YieldsIn P ops C oi v a →
   Mp P ops C n Q f (l.setIfInBounds i true) (a.put oi.dst v)→Mp P ops C n Q (f+1) l a:=by
 intro f
 induction f with
 | zero =>
  intro l a hcl _ hr hy H;refine ⟨⟨i,hr⟩,fun j hj=>?_⟩
  by_cases hji:j=i
  ·subst hji; exact hy.qOp hi H
  ·exfalso
   obtain ⟨hjun,oj,hoj,hall⟩:=mem_ready.1 hj
   rcases Nat.lt_or_ge j n with h | h
   ·have h1:=H.1.2.1 j h
    rw [getD_set_ne true (Ne.symm hji),hjun] at h1;cases h1
   ·have hlt:j<ops.size:=(Array.getElem?_eq_some_iff.1 hoj).1
    have hsz:l.size=ops.size:=by simpa using H.1.1
    have h1:=Gc (hcl.set hj) 6 j i (by simp [hsz,hlt]) (hn j h hlt i hin);rw [Array.getElem?_setIfInBounds_ne hji] at h1;have h0:=(mem_ready.1 hr).1;rw [Array.getD_eq_getD_getElem?,h1] at h0;cases h0
 | succ f ih =>
  intro l a hcl hfree hr hy H;refine ⟨⟨i,hr⟩,fun j hj=>?_⟩
  by_cases hji:j=i
  ·subst hji; exact hy.qOp hi H
  ·have h1:=H.2 j (ready_mono hj hji)
   obtain ⟨hjun,oj,hoj,hall⟩:=mem_ready.1 hj
   have hnot:∀ e∈oj.after,Region.binds .any e=true→e.on≠i:=fun e he hb heq=>by
    have h1:=hall e he hb;have h0:=(mem_ready.1 hr).1;rw [heq] at h1
    rcases Nat.lt_or_ge i l.size with h' | h'
    ·simp [h'] at h0 h1; rw [h0] at h1; cases h1
    ·simp [Array.getElem?_eq_none h'] at h1
   have h2:=qOp_put hoj (hfree j oj hoj hji hjun hnot) (fun cs b=>hsel i oi cs b hi) (fun cs b=>hsel j oj cs b hoj) hy h1
   have hfree':∀ k ok,ops[k]?=some ok→k≠i→(l.setIfInBounds j true).getD k true=false →
     (∀ e∈ok.after,Region.binds .any e=true→e.on≠i)→oi.apart ops ok=true:=fun k ok hk hki hun hno=>by
    refine hfree k ok hk hki ?_ hno
    by_cases hjk:j=k
    ·subst hjk; exact hjun
    ·rw [getD_set_ne true hjk] at hun; exact hun
   refine qOp_mono (fun a' h3=>ih (l.setIfInBounds j true) a' (hcl.set hj) hfree' (ready_mono hr (Ne.symm hji)) h3.1 ?_) h2;rw [Array.setIfInBounds_comm _ _ hji];exact h3.2
def Rt (ops:Array Oper):Nat→Nat→Array Bool→Bool
 | 0,_,_=>true
 | f+1,k,l=>(Region.ready .any ops l).contains k && Region.free .any ops l k && Rt ops f (k+1) (l.setIfInBounds k true)
theorem Mq {n:Nat} (hn:Zi ops n) (hz:n≤ops.size) {Q:Act→Prop} (hs:Region.noSelect ops=true):∀ (t:List Oper) (k:Nat) (l:Array Bool) (a:Act),k+t.length=n→l.size=ops.size→Closed ops l→Jbl ops k l→(∀ j,j<t.length→t[j]?=ops[k+j]?) →
  Rt ops t.length k l=true→wpQuiet P ops C Q t a→Mp P ops C n Q t.length l a
 | [],k,l,a,hk,hl,_,hu,_,hB,h=>by
  have e:k=n:=by simpa using hk
  exact ⟨e ▸ hu,h⟩
 | o :: t,k,l,a,hk,hl,hcl,hu,ht,hB,h=>by
  have h0:ops[k]?=some o:=by simpa using (ht 0 (by simp)).symm
  simp only [List.length_cons] at hk;simp only [List.length_cons,Rt,Bool.and_eq_true] at hB;obtain ⟨⟨hr,hf⟩,hB'⟩:=hB
  have hst:qOp P ops C k (wpQuiet P ops C Q t) a:=by unfold qOp; simp only [h0]; exact h
  obtain ⟨v,hy,hK⟩:=yieldsIn_of_qOp h0 hst
  refine Qe hn (by omega) h0 (Region.noSelect_spec hs) t.length l a hcl (Region.free_spec h0 hf) (by simpa using hr) hy
   (Mq hn hz hs t (k+1) _ _ (by omega) (by simpa using hl) (hcl.set (by simpa using hr)) ⟨by simpa using hl,fun j hj=>?_,fun j hj hj2=>?_⟩ (fun j hj=>by have:=ht (j+1) (by simpa using hj); simpa [Nat.add_assoc,Nat.add_comm 1 j] using this) hB' hK)
  ·by_cases e:k=j
   ·subst e; simp [Array.getD_eq_getD_getElem?,hl,show k<ops.size by omega]
   ·rw [getD_set_ne true e]; exact hu.2.1 j (by omega)
  ·rw [getD_set_ne true (by omega)]; exact hu.2.2 j (by omega) hj2
theorem Mr {n m:Nat} {Q:Act→Prop} {Q':Exit→Act→World→Prop} (hQ:∀ l a w,C w→Jbl ops n l→Q a→wpAny P .any ops Q' m l a w):∀ (f:Nat) (l:Array Bool) (a:Act) (w:World),C w →
  Mp P ops C n Q f l a→wpAny P .any ops Q' (f+m) l a w
 | 0,l,a,w,hw,h=>by rw [Nat.zero_add]; exact hQ l a w hw h.1 h.2
 | f+1,l,a,w,hw,h=>by
  rw [show f+1+m=(f+m)+1 by omega];exact ⟨fun h0=>(by obtain ⟨i,hi⟩:=h.1; rw [h0] at hi; cases hi),fun i hi=>wpOp_of_qOp hw (fun a' w' hw'=>Mr hQ f _ a' w' hw') (h.2 i hi)⟩
abbrev Rgr (w:World):World→Prop:=fun w'=>∃ p:Regrown,w'=grow (redrawn w p.d) p.os
def Kl (P:Program) (Q:Exit→Act→World→Prop):List Oper→Act→World→Prop
 | [],a,w=>Q .normal a w
 | o :: r,a,w=>o.wp P a w (Kl P Q r) Q
def Vd (ops:Array Oper) (n:Nat):Bool:=(List.range ops.size).all fun j=>decide (j<n) || ((List.range n).all (Bb ops 6 j) && match ops[j]? with | some o=>o.guard.isNone && o.after.all (fun e=>!Region.binds .any e || decide (e.on<j)) && (decide (j=n) || A0 o (j-1)) | none=>false)
theorem Km {n j:Nat} {o:Oper} (hB:Vd ops n=true) (hn:n≤j) (ho:ops[j]?=some o):(∀ k,k<n→Bb ops 6 j k=true)∧o.guard=none∧(∀ e∈o.after,Region.binds .any e=true→e.on<j)∧(j=n∨A0 o (j-1)=true):=by
 have h:=List.all_eq_true.1 hB j (List.mem_range.2 (Array.getElem?_eq_some_iff.1 ho).1);rw [ho,Bool.or_eq_true,decide_eq_true_eq] at h
 rcases h with h | h
 ·omega
 ·simp only [Bool.and_eq_true,List.all_eq_true,List.mem_range,Bool.or_eq_true,decide_eq_true_eq] at h
  obtain ⟨h1,⟨h2,h3⟩,h4⟩:=h;refine ⟨h1,by simpa using h2,fun e he hb=>?_,h4⟩;have:=(Array.all_eq_true_iff_forall_mem.1 h3) e he;rw [hb] at this
  simpa using this
theorem Ms {n:Nat} {Q:Exit→Act→World→Prop} (hB:Vd ops n=true):∀ (r:List Oper) (k:Nat) (l:Array Bool) (a:Act) (w:World),n≤k→k+r.length=ops.size→(∀ j,j<r.length→r[j]?=ops[k+j]?)→Jbl ops k l→Kl P Q r a w→wpAny P .any ops Q r.length l a w
 | [],k,l,a,w,_,hk,_,hu,h=>by
  refine ⟨List.eq_nil_iff_forall_not_mem.2 fun i hi=>?_,h⟩;obtain ⟨h0,oj,hoj,-⟩:=mem_ready.1 hi;have:=(Array.getElem?_eq_some_iff.1 hoj).1;simp only [List.length_nil] at hk;rw [hu.2.1 i (by omega)] at h0;cases h0
 | o :: r,k,l,a,w,hn,hk,ht,hu,h=>by
  simp only [List.length_cons] at hk
  have ho:ops[k]?=some o:=by simpa using (ht 0 (by simp)).symm
  obtain ⟨-,hg,hb,-⟩:=Km hB hn ho
  have hr:∀ i,i∈Region.ready .any ops l→i=k:=fun i hi=>by
   obtain ⟨h0,oj,hoj,hall⟩:=mem_ready.1 hi;have hlt:=(Array.getElem?_eq_some_iff.1 hoj).1
   rcases Nat.lt_trichotomy i k with h1 | h1 | h1
   ·rw [hu.2.1 i h1] at h0; cases h0
   ·exact h1
   ·exfalso
    obtain ⟨-,-,-,hw⟩:=Km hB (show n≤i by omega) hoj
    rcases hw with hw | hw
    ·omega
    ·unfold A0 at hw
     rw [Array.any_eq_true'] at hw;obtain ⟨e,he,hbe⟩:=hw;simp only [Bool.and_eq_true,beq_iff_eq] at hbe;have h2:=hall e he hbe.1;have h3:=hu.2.2 (i-1) (by omega) (by omega);rw [hbe.2,Array.getD_eq_getD_getElem?] at h2;rw [Array.getD_eq_getD_getElem?] at h3
     rcases hq:l[i-1]? with _ | b
     ·rw [Array.getElem?_eq_none_iff,hu.1] at hq; omega
     ·rw [hq] at h2 h3; simp at h2 h3; rw [h2] at h3; cases h3
  have hi:k∈Region.ready .any ops l:=mem_ready.2 ⟨hu.2.2 k (Nat.le_refl _) (by omega),o,ho,fun e he hbe=>by
   have h1:=hb e he hbe;have h2:=hu.2.1 e.on h1;rw [Array.getD_eq_getD_getElem?] at h2 ⊢
   rcases hq:l[e.on]? with _ | b
   ·rw [Array.getElem?_eq_none_iff,hu.1] at hq; omega
   ·simpa [hq] using h2⟩
  refine ⟨fun h0=>(by rw [h0] at hi; cases hi),fun i hi'=>?_⟩;obtain rfl:=hr i hi';refine Ky ho hg (Oper.wp_mono (fun a' w' h'=>Ms hB r (i+1) _ a' w' (by omega) (by omega) (fun j hj=>by have:=ht (j+1) (by simpa using hj); simpa [Nat.add_assoc,Nat.add_comm 1 j] using this) ⟨by simpa using hu.1,fun j hj=>?_,fun j hj hj2=>?_⟩ h') h)
  ·by_cases e:i=j
   ·subst e; simp [Array.getD_eq_getD_getElem?,hu.1,show i<ops.size by omega]
   ·rw [getD_set_ne true e]; exact hu.2.1 j (by omega)
  ·rw [getD_set_ne true (by omega)]; exact hu.2.2 j (by omega) hj2
theorem Fq {id n:Nat} {Q:Exit→Act→World→Prop} {a:Act} {w:World} {t:List Oper} (hm:P.follows .mixedOrders=true) (hB:(Region.noSelect t.toArray && Rt t.toArray n 0 (Array.replicate t.toArray.size false) && Vd t.toArray n && decide (n≤t.toArray.size))=true)
  (h:wpQuiet P t.toArray (Rgr w) (fun a'=>∀ w',Rgr w w'→Kl P Q (t.drop n) a' w') (t.take n) a):(Code.region id t.toArray true).wp P Q a w:=by
 simp only [Bool.and_eq_true,decide_eq_true_eq] at hB;obtain ⟨⟨⟨hs,hl⟩,ht⟩,hz⟩:=hB
 have hz':n≤t.length:=by simpa using hz
 have hd:(t.drop n).length=t.toArray.size-n:=by simp
 have htk:(t.take n).length=n:=by simp; omega
 refine wp_region_any hm ?_;rw [show wpAny P .any t.toArray Q t.toArray.size=wpAny P .any t.toArray Q (n+(t.drop n).length) by rw [hd,Nat.add_sub_cancel' hz]];refine Mr (C:=Rgr w) (n:=n) (Q:=fun a'=>∀ w',Rgr w w'→Kl P Q (t.drop n) a' w') (fun l a' w' hw hu hq=>Ms ht _ n l a' w' (Nat.le_refl _) (by rw [hd]; omega) (fun j hj=>by simp) hu (hq w' hw)) n _ a _ ⟨⟨w.drawn+1,#[]⟩,by rw [grow_empty]; rfl⟩ ?_
 have:=Mq (C:=Rgr w) (n:=n) (fun j hj hlt k hk=>by obtain ⟨o,ho⟩:∃ o,t.toArray[j]?=some o:=⟨_,Array.getElem?_eq_some_iff.2 ⟨hlt,rfl⟩⟩; exact (Km ht hj ho).1 k hk) hz hs (t.take n) 0 (Array.replicate t.toArray.size false) a (by omega) (by simp) (fun k o hk=>by rw [Array.getElem?_replicate] at hk; split at hk <;> simp at hk) ⟨by simp,fun k hk=>absurd hk (Nat.not_lt_zero _),fun k _ hk=>by rw [Array.getD_eq_getD_getElem?,Array.getElem?_replicate,if_pos hk]; rfl⟩ (fun j hj=>by rw [htk] at hj; simp [List.getElem?_take,hj]) (by rw [htk]; exact hl) h;rw [htk] at this;exact this
theorem A6 {id n:Nat} {Q:Exit→Act→World→Prop} {a:Act} {w:World} {t:List Oper} {o:Oper} (hm:P.follows .mixedOrders=true) (hB:(Region.noSelect t.toArray && Rt t.toArray n 0 (Array.replicate t.toArray.size false) && Vd t.toArray n && decide (n≤t.toArray.size) && decide (n+1=t.toArray.size))=true) (ho:t[n]?=some o)
  (h:wpQuiet P t.toArray (Rgr w) (fun a'=>∀ w',Rgr w w'→o.wp P a' w' (fun a'' w''=>Q .normal a'' w'') Q) (t.take n) a):(Code.region id t.toArray true).wp P Q a w:=by
 rw [Bool.and_eq_true,decide_eq_true_eq] at hB
 have e:t.drop n=[o]:=by
  have:=hB.2
  simp at this
  rw [List.drop_eq_getElem_cons (by omega),List.drop_eq_nil_of_le (by omega),(List.getElem?_eq_some_iff.1 ho).2]
 refine Fq hm hB.1 ?_;rw [e];exact h
theorem Bp {w:World} {Q:Act→Prop} {a:Act} {o:Oper} {rest:List Oper} (ty:TypeId) (x:Operand) (ho:o.op=.load ty x) (hgu:o.guard=none)
  (g off:Nat) (hx:a.eval x=(pt g off)) (t:TypeId) (cs part:Array Value) (fr:Nat × Nat) (d:TypeDesc) (hg:w.heap[g]?=some (.cells cs t fr)) (hp:∀ j v,part[j]?=some v→cs[off+j]?=some v)
  (hu:P.underlying ty=some d) (hd:(match d with | .struct _ | .array _ _=>true | _=>false)=true) (hi:(P.info? ty).map (·.size)=some part.size)
  (h:wpQuiet P ops (fun w'=>∃ p:Regrown,w'=grow (redrawn w p.d) p.os) Q rest (a.put o.dst (.agg part))):wpQuiet P ops (fun w'=>∃ p:Regrown,w'=grow (redrawn w p.d) p.os) Q (o :: rest) a:=by
 unfold wpQuiet;rw [if_pos (by simp [Region.wanted,hgu])];refine ⟨.agg part,fun w' hw'=>?_,h⟩;obtain ⟨p,rfl⟩:=hw'
 have hg':(grow (redrawn w p.d) p.os).heap[g]?=some (.cells cs t fr):=by
  rw [(below_regrown w p.d p.os).block g (Array.getElem?_eq_some_iff.1 hg).1]; exact hg
 unfold Oper.quietAt execOp;simp only [ho,hx,Instr.loadAt,Instr.sureAddr,Sem.run_bind,Sem.run_pure,Result.andThen_ok,Gt _ g off t ty cs part fr d hg' hp hu hd hi];exact ⟨rfl,rfl⟩
end
end Go.Proofs.YtgcmimcalmjaaaaGreatDoor
