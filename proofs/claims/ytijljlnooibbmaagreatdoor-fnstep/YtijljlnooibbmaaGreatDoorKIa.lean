import Derived.Test.YtijljlnooibbmaaGreatDoorI6b
import Derived.Test.YtijljlnooibbmaaGreatDoorI8b
import Derived.Test.YtijljlnooibbmaaGreatDoorAIa
import Derived.Test.YtijljlnooibbmaaGreatDoorPI
namespace Go.Proofs.YtijljlnooibbmaaGreatDoor
set_option maxHeartbeats 8000000
open Go.Proofs.Tryz
set_option linter.unusedVariables false
set_option linter.unusedSimpArgs false
open Go.ChangeShapes Go.WideShapes Go.ChangeAt Go.RowKit Go.Sort
theorem Jcz (w:World) (t:Int) (h0:0<=t) (h1:t<=20000):Calls prog 67 #[.i t] w fun e w'=>e=.returned (.i (frN t))/\w'=w:=by
 have HE:Hid (max (t+64-1-48) 0/64=frN t):=by show _=_; unfold frN; rw [Int.max_eq_left (by omega),show t+64-1-48=t+15 by omega]
 have HF:=Ac (Mz w (t+64-1-48) (by omega));rw [HE.out] at HF
 go_enter func67,ntmps67
 go_wp2_with fail;refine HF.out.mono ?_;rintro e w1 ⟨rfl,rfl⟩;go_wp2;go_ret;exact ⟨rfl,rfl⟩
theorem Jan (w:World) (t:Int) (h0:0<=t) (h1:t<=20000):Calls prog 68 #[.i t] w fun e w'=>e=.returned (.i (t/16))/\w'=w:=by
 have d1:t.tdiv 16=t/16:=Int.tdiv_eq_ediv_of_nonneg h0
 go_enter func68,ntmps68
 go_wp2;go_ret;exact ⟨rfl,rfl⟩
theorem Xj (w:World) (a:Option Addr) (n c:Nat) (hn:n<=1048576) (t:Int) (h0:0<=t) (h1:t<=20000):Calls prog 26 #[.slice a n c,.i t] w fun e w'=>e=.returned (.bool ((n:Int)==t/16))/\w'=w:=by
 obtain ⟨r,hr⟩:∃ r,Hid (r=((n:Int)==t/16)):=⟨_,rfl⟩
 rw [<- hr.out]
 go_enter func26,ntmps26
 go_wp2_with fail;refine (Jan _ t h0 h1).mono ?_;rintro e w1 ⟨rfl,rfl⟩;go_wp2;go_ret;exact ⟨Ap hr.out.symm,rfl⟩
theorem Jao (w:World) (F:Nat->Nat->Prop) (u:Value) (m:Nat) (ln:Nat->Nat) (f:Nat->Nat->Int) (t:Int) (H:Bg .i64 w F u m ln f) (h0:0<=t) (h1:t<=20000):Calls prog 25 #[u,.i t] w fun e w'=>e=.returned (.bool (Mr m ln t))/\Below w.heap.size w w':=by
 obtain ⟨a,cap,rfl,hn,-,hc⟩:=H
 obtain ⟨r,hr⟩:∃ r,Hid (r=Mr m ln t):=⟨_,rfl⟩
 rw [<- hr.out]
 go_enter func25,ntmps25
 go_wp2
 go_loop [9] (fun i=>∃ q:Nat,q<=m/\i=.i q/\∀ i,i<q->ln i=48) (fun i=>m-(intOf i).toNat)
 case atStart=>exact ⟨0,Nat.zero_le _,rfl,fun i hi=>absurd hi (Nat.not_lt_zero _)⟩
 case round =>
  obtain ⟨q,hq,rfl,hok⟩:=hrel;have HO:=Ac hok;clear hok
  by_cases hlt:q<m
  .obtain ⟨b,off,u,rfl,hcell,a',cap',rfl,hn',hrow,-⟩:=hc q hlt
   have hlt':(q:Int)<(m:Int):=by omega
   by_cases hl:ln q=48
   .have hl':((ln q:Int) != 48)=false:=by simp; omega
    have HL:=Ac hl;clear hl;go_wp2
    go_round
    case rel =>
     refine ⟨q+1,by omega,by go_num,fun i hi=>?_⟩
     by_cases e:i=q
     .rw [e]; exact Ae HL
     .exact Ae HO i (by omega)
    case measure=>simp [intOf]; omega
   .have hl':((ln q:Int) != 48)=true:=by simp; omega
    have HI:=Ac (hr.out.trans (Y4 hlt hl));clear hl;go_wp2;go_ret;exact ⟨Ap (Ae HI).symm,Below.refl _ _⟩
  .have hlt':¬ (q:Int)<(m:Int):=by omega
   have e:q=m:=by omega
   subst e;have HI:=Ac (hr.out.trans (Vj (Ae HO)));go_wp2_with fail;refine (Jcz _ t h0 h1).mono ?_;rintro e w1 ⟨rfl,rfl⟩;go_wp2;go_ret;exact ⟨Ap (Ae HI).symm,Below.refl _ _⟩
theorem Vo (d:Aq):okLock d=(B9 d.m d.ln d.f d.nr d.g d.bank && (Du d.np d.p && (I9 d.A d.X d.S d.Pc && (A1 d.t d.c d.s d.ad d.pl d.nt d.tb d.nd d.dt && (Ck d.T d.P d.K d.B d.L && (Cr d.sh 0 255 && ((d.t==d.T) && (decide (0<=d.st) && (decide (d.st<=d.t) && (Mr d.mf d.lf d.t && ((d.ns:Int)==d.t/16))))))))))):=by
 unfold okLock;rw [Bool.and_left_comm,show Cr d.st 0 d.t=(decide (0<=d.st) && decide (d.st<=d.t)) from rfl,Bool.and_assoc (decide (0<=d.st))]
theorem Gm (w:World) (D:Nat->Nat->Prop) (v:Value) (d:Aq) (H:Aw w D v d):Calls prog 8 #[v] w fun e w'=>e=.returned (.bool (okLock d))/\Below w.heap.size w w':=by
 obtain ⟨u0,u1,u2,u3,u4,u5,u6,u7,rfl,h0,h1,h2,h3,h4⟩:=H;obtain ⟨v5,v6,v7,hv,h5,h6,h7⟩:=h4;simp only [Value.agg.injEq,Array.mk.injEq,List.cons.injEq,and_true] at hv;obtain ⟨rfl,rfl,rfl⟩:=hv;obtain ⟨y2,hy2,g2⟩:=h2.ints;simp only [Value.agg.injEq,Array.mk.injEq,List.cons.injEq,and_true] at hy2;subst hy2;obtain ⟨y3,y4,hy3,g3,g4⟩:=h3.ints;simp only [Value.agg.injEq,Array.mk.injEq,List.cons.injEq,and_true,true_and] at hy3;obtain ⟨rfl,rfl⟩:=hy3;have g0:=h0.ints;have g5:=h5.ints;have n6:=h6.small;obtain ⟨a6,c6,e6,s6⟩:=id h6;obtain ⟨a1,c1,e1,s1⟩:=id h1;subst e6;subst e1;have g1:=s1.ints c1;clear h0 h1 h2 h3 h5 h6 h7 s1 s6;have L0:Below w.heap.size w (w.alloc (.cells (kR d u0 (.slice a1 d.np c1) u2 u3 u4 u5 (.slice a6 d.ns c6) u7) 41)):=(Below.refl _ _).alloc (Nat.le_refl _) _
 have k0:=Ak w (kR d u0 (.slice a1 d.np c1) u2 u3 u4 u5 (.slice a6 d.ns c6) u7) 41
 have KE:∀ {W:World},Below w.heap.size w W->∀ {F:Nat->Nat->Prop} {v:Value} {n:Nat} {f:Nat->Int},Ints .i64 w F v n f->Ints .i64 W F v n f:=fun L _ _ _ _ h=>h.keep (Aa L Aj) (fun _ _ _ x=>x)
 have KS:∀ {W:World},Below w.heap.size w W->∀ {F:Nat->Nat->Prop} {v:Value} {m:Nat} {ln:Nat->Nat} {f:Nat->Nat->Int},Bg .i64 w F v m ln f->Bg .i64 W F v m ln f:=fun L _ _ _ _ _ h=>h.keep (Aa L Aj) (fun _ _ _ x=>x)
 obtain ⟨b0,qb0⟩:∃ b,Hid (b=B9 d.m d.ln d.f d.nr d.g d.bank):=⟨_,rfl⟩
 obtain ⟨b1,qb1⟩:∃ b,Hid (b=Du d.np d.p):=⟨_,rfl⟩
 obtain ⟨b2,qb2⟩:∃ b,Hid (b=I9 d.A d.X d.S d.Pc):=⟨_,rfl⟩
 obtain ⟨b3,qb3⟩:∃ b,Hid (b=A1 d.t d.c d.s d.ad d.pl d.nt d.tb d.nd d.dt):=⟨_,rfl⟩
 obtain ⟨b4,qb4⟩:∃ b,Hid (b=Ck d.T d.P d.K d.B d.L):=⟨_,rfl⟩
 obtain ⟨b5,qb5⟩:∃ b,Hid (b=Cr d.sh 0 255):=⟨_,rfl⟩
 obtain ⟨b6,qb6⟩:∃ b,Hid (b=(d.t==d.T)):=⟨_,rfl⟩
 obtain ⟨b7,qb7⟩:∃ b,Hid (b=decide (0<=d.st)):=⟨_,rfl⟩
 obtain ⟨b8,qb8⟩:∃ b,Hid (b=decide (d.st<=d.t)):=⟨_,rfl⟩
 obtain ⟨b9,qb9⟩:∃ b,Hid (b=Mr d.mf d.lf d.t):=⟨_,rfl⟩
 obtain ⟨b10,qb10⟩:∃ b,Hid (b=((d.ns:Int)==d.t/16)):=⟨_,rfl⟩
 obtain ⟨r,hr⟩:∃ r,Hid (r=okLock d):=⟨_,rfl⟩
 rw [<- hr.out]
 have HOK:Hid (r=(b0 && (b1 && (b2 && (b3 && (b4 && (b5 && (b6 && (b7 && (b8 && (b9 && b10))))))))))):=by show _=_; rw [hr.out,Vo,qb0.out,qb1.out,qb2.out,qb3.out,qb4.out,qb5.out,qb6.out,qb7.out,qb8.out,qb9.out,qb10.out]
 clear hr
 go_enter func8,ntmps8
 go_upto_region 1 with (fail);generalize w.alloc (.cells (kR d u0 (.slice a1 d.np c1) u2 u3 u4 u5 (.slice a6 d.ns c6) u7) 41)=W0 at *;have c0:=Af k0;go_wp2_with fail;clear c0;have HC:=Ac (Mh W0 _ _ _ _ d.m d.ln d.f d.nr d.g d.bank (KS L0 g0) (KE L0 g2));rw [<- qb0.out] at HC;refine HC.out.mono ?_;clear HC;rintro e W1 ⟨rfl,L⟩;replace L0:=Ah L0 L;replace k0:=Ab k0 L (Ad k0);clear L;cases b0
 .have HE:Hid (r=false):=by rw [HOK.out]; rfl
  have c0:=Af k0;go_wp2;go_ret;exact ⟨Ap HE.out.symm,L0⟩
 have c0:=Af k0;go_wp2_with fail;clear c0;have HC:=Ac (M8 W1 _ _ d.np d.p (KE L0 g1));rw [<- qb1.out] at HC;refine HC.out.mono ?_;clear HC;rintro e W2 ⟨rfl,hw⟩
 have L:Below W1.heap.size W1 W2:=by rw [hw]; exact Below.refl _ _
 clear hw;replace L0:=Ah L0 L;replace k0:=Ab k0 L (Ad k0);clear L;cases b1
 .have HE:Hid (r=false):=by rw [HOK.out]; rfl
  have c0:=Af k0;go_wp2;go_ret;exact ⟨Ap HE.out.symm,L0⟩
 have c0:=Af k0;go_wp2_with fail;clear c0;have HC:=Ac (Zw W2 d.A d.X d.S d.Pc d.Z d.N d.C d.I);rw [<- qb2.out] at HC;refine HC.out.mono ?_;clear HC;rintro e W3 ⟨rfl,L⟩;replace L0:=Ah L0 L;replace k0:=Ab k0 L (Ad k0);clear L;cases b2
 .have HE:Hid (r=false):=by rw [HOK.out]; rfl
  have c0:=Af k0;go_wp2;go_ret;exact ⟨Ap HE.out.symm,L0⟩
 have c0:=Af k0;go_wp2_with fail;clear c0;have HC:=Ac (Js W3 _ _ d.t d.c d.s d.ad d.pl d.bl _ _ d.nt d.tb d.nd d.dt (KE L0 g3) (KE L0 g4));rw [<- qb3.out] at HC;refine HC.out.mono ?_;clear HC;rintro e W4 ⟨rfl,L⟩;replace L0:=Ah L0 L;replace k0:=Ab k0 L (Ad k0);clear L;cases b3
 .have HE:Hid (r=false):=by rw [HOK.out]; rfl
  have c0:=Af k0;go_wp2;go_ret;exact ⟨Ap HE.out.symm,L0⟩
 have TR:=Er qb3.out.symm;have t16:d.t.tdiv 16=d.t/16:=Int.tdiv_eq_ediv_of_nonneg TR.1;have c0:=Af k0;go_wp2_with fail;clear c0;have HC:=Ac (Jac W4 d.T d.P d.K d.B d.L d.Q d.R);rw [<- qb4.out] at HC;refine HC.out.mono ?_;clear HC;rintro e W5 ⟨rfl,L⟩;replace L0:=Ah L0 L;replace k0:=Ab k0 L (Ad k0);clear L;cases b4
 .have HE:Hid (r=false):=by rw [HOK.out]; rfl
  have c0:=Af k0;go_wp2;go_ret;exact ⟨Ap HE.out.symm,L0⟩
 have c0:=Af k0;go_wp2_with fail;clear c0;have HC:=Ac (isByte d.sh W5);rw [<- qb5.out] at HC;refine HC.out.mono ?_;clear HC;rintro e W6 ⟨rfl,hw⟩
 have L:Below W5.heap.size W5 W6:=by rw [hw]; exact Below.refl _ _
 clear hw;replace L0:=Ah L0 L;replace k0:=Ab k0 L (Ad k0);clear L;cases b5
 .have HE:Hid (r=false):=by rw [HOK.out]; rfl
  have c0:=Af k0;go_wp2;go_ret;exact ⟨Ap HE.out.symm,L0⟩
 have g_b6:(d.t==d.T)=b6:=qb6.out.symm;cases b6
 .have HE:Hid (r=false):=by rw [HOK.out]; rfl
  have c0:=Af k0;go_wp2;go_ret;exact ⟨Ap HE.out.symm,L0⟩
 cases b7
 .have xb7:¬ (0<=d.st):=of_decide_eq_false qb7.out.symm
  have HE:Hid (r=false):=by rw [HOK.out]; rfl
  have c0:=Af k0;go_wp2;go_ret;exact ⟨Ap HE.out.symm,L0⟩
 have xb7:0<=d.st:=of_decide_eq_true qb7.out.symm;cases b8
 .have xb8:¬ (d.st<=d.t):=of_decide_eq_false qb8.out.symm
  have HE:Hid (r=false):=by rw [HOK.out]; rfl
  have c0:=Af k0;go_wp2;go_ret;exact ⟨Ap HE.out.symm,L0⟩
 have xb8:d.st<=d.t:=of_decide_eq_true qb8.out.symm;have c0:=Af k0;go_wp2_with fail;clear c0;have HC:=Ac (Jao W6 _ _ d.mf d.lf d.fr d.t (KS L0 g5) TR.1 TR.2);rw [<- qb9.out] at HC;refine HC.out.mono ?_;clear HC;rintro e W7 ⟨rfl,L⟩;replace L0:=Ah L0 L;replace k0:=Ab k0 L (Ad k0);clear L;cases b9
 .have HE:Hid (r=false):=by rw [HOK.out]; rfl
  have c0:=Af k0;go_wp2;go_ret;exact ⟨Ap HE.out.symm,L0⟩
 have c0:=Af k0;go_wp2_with fail;clear c0;have HC:=Ac (Xj W7 a6 d.ns c6 n6 d.t TR.1 TR.2);rw [<- qb10.out] at HC;refine HC.out.mono ?_;clear HC;rintro e W8 ⟨rfl,hw⟩
 have L:Below W7.heap.size W7 W8:=by rw [hw]; exact Below.refl _ _
 clear hw;replace L0:=Ah L0 L;replace k0:=Ab k0 L (Ad k0);clear L;cases b10
 .have HE:Hid (r=false):=by rw [HOK.out]; rfl
  have c0:=Af k0;go_wp2;go_ret;exact ⟨Ap HE.out.symm,L0⟩
 have HE:Hid (r=true):=by rw [HOK.out]; rfl
 have c0:=Af k0;go_wp2;go_ret;exact ⟨Ap HE.out.symm,L0⟩
end Go.Proofs.YtijljlnooibbmaaGreatDoor
