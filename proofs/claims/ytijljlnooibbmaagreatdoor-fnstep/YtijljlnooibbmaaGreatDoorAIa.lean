import Derived.Test.YtijljlnooibbmaaGreatDoorI9
import Derived.Test.YtijljlnooibbmaaGreatDoorI2
namespace Go.Proofs.YtijljlnooibbmaaGreatDoor
set_option maxHeartbeats 4000000
open Go.Proofs.Tryz
set_option linter.unusedVariables false
set_option linter.unusedSimpArgs false
open Go.ChangeShapes Go.WideShapes Go.ChangeAt Go.RowKit Go.Sort
theorem Sr (x m:Int) (hm:0<m):(x.tmod m<0->x.tmod m+m=x%m)/\(¬ x.tmod m<0->x.tmod m=x%m)/\-m<x.tmod m/\x.tmod m<m:=by
 have h1:=Int.emod_nonneg x (show m≠0 by omega);have h2:=Int.emod_lt_of_pos x hm
 rcases Int.le_total 0 x with h | h
 .have e:=Int.tmod_eq_emod_of_nonneg (b:=m) h
  rw [e];exact ⟨fun _=>by omega,fun _=>rfl,by omega,by omega⟩
 .have e:x.tmod m=-((-x)%m):=by
   have:=Int.neg_tmod (-x) m;rw [Int.neg_neg] at this;rw [this,Int.tmod_eq_emod_of_nonneg (by omega)]
  have k1:=Int.emod_nonneg (-x) (show m≠0 by omega);have k2:=Int.emod_lt_of_pos (-x) hm;have d1:=Int.emod_add_mul_ediv x m;have d2:=Int.emod_add_mul_ediv (-x) m;rw [e]
  have key:(-x)%m=0/\x%m=0\/(-x)%m=m-x%m:=by
   by_cases z:x%m=0
   .left
    refine ⟨?_,z⟩;have:m ∣ x:=Int.dvd_of_emod_eq_zero z;exact Int.emod_eq_zero_of_dvd (Int.dvd_neg.2 this)
   .right
    rw [Int.neg_emod]
    have hn:¬ m ∣ x:=fun hd=>z (Int.emod_eq_zero_of_dvd hd)
    rw [if_neg hn]
    omega
  rcases key with ⟨k,z⟩ | k
  .exact ⟨fun h=>by omega,fun _=>by omega,by omega,by omega⟩
  .by_cases z:(-x)%m=0
   .exact ⟨fun h=>by omega,fun _=>by omega,by omega,by omega⟩
   .exact ⟨fun h=>by omega,fun h=>by omega,by omega,by omega⟩
theorem Jct (x:Int):(x==x%32)=Cr x 0 31:=by
 by_cases h:0<=x/\x<=31
 .rw [Bh h]; exact beq_iff_eq.2 (by omega)
 .rw [C9 h]; exact beq_eq_false_iff_ne.2 (by omega)
theorem Jhu {W:World} {b:Nat} {cs:Array Value} {T:TypeId} (h:W.heap[b]?=some (.cells cs T (0,0))) (d:Nat) (os:Array Obj) (j:Nat):(grow (redrawn W d) os).cell? ⟨b,j,none⟩=cs[j]?:=Af (((below_regrown W d os).block _ (Ad h)).trans h) j
theorem Jga (x:Int) (w:World):Calls prog 64 #[.i x,.i 32] w fun e w'=>e=.returned (.i (x%32))/\w'=w:=by
 obtain ⟨h1,h2,h3,h4⟩:=Sr x 32 (by omega);have HQ:=Ac (And.intro h1 h2);clear h1 h2
 by_cases hn:x.tmod 32<0
 .go_enter func64,ntmps64
  go_wp2;go_ret;exact ⟨A5 ((Ae HQ).1 hn),rfl⟩
 .go_enter func64,ntmps64
  go_wp2;go_ret;exact ⟨A5 ((Ae HQ).2 (by omega)),rfl⟩
theorem Jac (w:World) (T P C B L:Int) (S Q:Bool):Calls prog 23 #[.agg (aR T P C B L S Q)] w
  fun e w'=>e=.returned (.bool (Ck T P C B L))/\Below w.heap.size w w':=by
 have L0:Below w.heap.size w (w.alloc (.cells (aR T P C B L S Q) 35)):=(Below.refl _ _).alloc (Nat.le_refl _) _;have k0:=Jhu (Ak w (aR T P C B L S Q) 35)
 obtain ⟨b0,h0⟩:∃ b,b=decide (0<=T):=⟨_,rfl⟩
 obtain ⟨b1,h1⟩:∃ b,b=decide (T<=20000):=⟨_,rfl⟩
 obtain ⟨b2,h2⟩:∃ b,b=Cr P 0 255:=⟨_,rfl⟩
 have C2:∀ W:World,CB 24 #[.i P] W (.bool b2):=fun W=>(isByte P W).mono (fun e w' ⟨he,hw⟩=>⟨by rw [he,h2],by rw [hw]; exact Below.refl _ _⟩)
 obtain ⟨b3,h3⟩:∃ b,b=Cr C 0 255:=⟨_,rfl⟩
 have C3:∀ W:World,CB 24 #[.i C] W (.bool b3):=fun W=>(isByte C W).mono (fun e w' ⟨he,hw⟩=>⟨by rw [he,h3],by rw [hw]; exact Below.refl _ _⟩)
 obtain ⟨b4,h4⟩:∃ b,b=(B==0):=⟨_,rfl⟩
 obtain ⟨b5,h5⟩:∃ b,b=(B==1):=⟨_,rfl⟩
 obtain ⟨b6,h6⟩:∃ b,b=Cr L 0 31:=⟨_,rfl⟩
 have C4:∀ W:World,CB 64 #[.i L,.i 32] W (.i (L%32)):=fun W=>(Jga L W).mono (fun e w' ⟨he,hw⟩=>⟨he,by rw [hw]; exact Below.refl _ _⟩)
 have q6:(L==L%32)=b6:=by rw [h6,Jct]
 generalize L%32=l32 at *
 obtain ⟨W0,hW0⟩:∃ W0,W0=w.alloc (.cells (aR T P C B L S Q) 35):=⟨_,rfl⟩
 rw [<- hW0] at L0 k0
 have OK:Ck T P C B L=(b0 && (b1 && (b2 && (b3 && ((b4 || b5) && b6))))):=by
  unfold Ck
  have e1:Cr T 0 20000=(decide (0<=T) && decide (T<=20000)):=by
   by_cases h:0<=T/\T<=20000
   .rw [Bh h,decide_eq_true h.1,decide_eq_true h.2]; rfl
   .rw [C9 h]
    by_cases h':0<=T
    .rw [decide_eq_true h',decide_eq_false (fun x=>h ⟨h',x⟩)]; rfl
    .rw [decide_eq_false h']; rfl
  have e2:Cr B 0 1=((B==0) || (B==1)):=by
   by_cases h:B=0
   .rw [h]; rfl
   .by_cases h':B=1
    .rw [h']; rfl
    .rw [C9 (by omega),beq_eq_false_iff_ne.2 h,beq_eq_false_iff_ne.2 h']; rfl
  rw [e1,e2,h0,h1,h2,h3,h4,h5,h6]
  cases decide (0<=T) <;> cases decide (T<=20000) <;> cases Cr P 0 255 <;> cases Cr C 0 255 <;> cases (B==0) <;> cases (B==1) <;> cases Cr L 0 31 <;> rfl
 have HOK:=Ac OK;have g0:decide (0<=T)=b0:=h0.symm;have g1:decide (T<=20000)=b1:=h1.symm;have g4:(B==0)=b4:=h4.symm;have g5:(B==1)=b5:=h5.symm;clear h0 h1 h2 h3 h4 h5 h6 OK;cases b0
 .skip
  have HE:Hid (Ck T P C B L=false):=by rw [HOK.out]; rfl
  go_enter func23,ntmps23
  go_upto_region 1 with (fail);rw [<- hW0];clear hW0;refine wp_region_quiet_below (by kernel_rfl) (by kernel_rfl) ?_
  repeat (go_big_quiet_step (first | (go_at_call 24; first | with_reducible exact Calls.regrown_of (C2 _) | with_reducible exact Calls.regrown_of (C3 _)) | (go_at_call 64; exact Calls.regrown_of (C4 _))))
  refine wpQuiet_nil ?_;intro _ hw';obtain ⟨⟨dq,osq⟩,hw''⟩:=hw';subst hw'';have LQ:=L0.trans ((below_regrown W0 dq osq).mono L0.size);generalize Go.Sort.grow (redrawn W0 dq) osq=w4 at *;go_wp2;go_ret;exact ⟨Ap HE.out.symm,LQ⟩
 cases b1
 .skip
  have HE:Hid (Ck T P C B L=false):=by rw [HOK.out]; rfl
  go_enter func23,ntmps23
  go_upto_region 1 with (fail);rw [<- hW0];clear hW0;refine wp_region_quiet_below (by kernel_rfl) (by kernel_rfl) ?_
  repeat (go_big_quiet_step (first | (go_at_call 24; first | with_reducible exact Calls.regrown_of (C2 _) | with_reducible exact Calls.regrown_of (C3 _)) | (go_at_call 64; exact Calls.regrown_of (C4 _))))
  refine wpQuiet_nil ?_;intro _ hw';obtain ⟨⟨dq,osq⟩,hw''⟩:=hw';subst hw'';have LQ:=L0.trans ((below_regrown W0 dq osq).mono L0.size);generalize Go.Sort.grow (redrawn W0 dq) osq=w4 at *;go_wp2;go_ret;exact ⟨Ap HE.out.symm,LQ⟩
 cases b2
 .skip
  have HE:Hid (Ck T P C B L=false):=by rw [HOK.out]; rfl
  go_enter func23,ntmps23
  go_upto_region 1 with (fail);rw [<- hW0];clear hW0;refine wp_region_quiet_below (by kernel_rfl) (by kernel_rfl) ?_
  repeat (go_big_quiet_step (first | (go_at_call 24; first | with_reducible exact Calls.regrown_of (C2 _) | with_reducible exact Calls.regrown_of (C3 _)) | (go_at_call 64; exact Calls.regrown_of (C4 _))))
  refine wpQuiet_nil ?_;intro _ hw';obtain ⟨⟨dq,osq⟩,hw''⟩:=hw';subst hw'';have LQ:=L0.trans ((below_regrown W0 dq osq).mono L0.size);generalize Go.Sort.grow (redrawn W0 dq) osq=w4 at *;go_wp2;go_ret;exact ⟨Ap HE.out.symm,LQ⟩
 cases b3
 .skip
  have HE:Hid (Ck T P C B L=false):=by rw [HOK.out]; rfl
  go_enter func23,ntmps23
  go_upto_region 1 with (fail);rw [<- hW0];clear hW0;refine wp_region_quiet_below (by kernel_rfl) (by kernel_rfl) ?_
  repeat (go_big_quiet_step (first | (go_at_call 24; first | with_reducible exact Calls.regrown_of (C2 _) | with_reducible exact Calls.regrown_of (C3 _)) | (go_at_call 64; exact Calls.regrown_of (C4 _))))
  refine wpQuiet_nil ?_;intro _ hw';obtain ⟨⟨dq,osq⟩,hw''⟩:=hw';subst hw'';have LQ:=L0.trans ((below_regrown W0 dq osq).mono L0.size);generalize Go.Sort.grow (redrawn W0 dq) osq=w4 at *;go_wp2;go_ret;exact ⟨Ap HE.out.symm,LQ⟩
 cases b6
 .cases b4
  .cases b5
   .skip
    have HE:Hid (Ck T P C B L=false):=by rw [HOK.out]; rfl
    go_enter func23,ntmps23
    go_upto_region 1 with (fail);rw [<- hW0];clear hW0;refine wp_region_quiet_below (by kernel_rfl) (by kernel_rfl) ?_
    repeat (go_big_quiet_step (first | (go_at_call 24; first | with_reducible exact Calls.regrown_of (C2 _) | with_reducible exact Calls.regrown_of (C3 _)) | (go_at_call 64; exact Calls.regrown_of (C4 _))))
    refine wpQuiet_nil ?_;intro _ hw';obtain ⟨⟨dq,osq⟩,hw''⟩:=hw';subst hw'';have LQ:=L0.trans ((below_regrown W0 dq osq).mono L0.size);generalize Go.Sort.grow (redrawn W0 dq) osq=w4 at *;go_wp2;go_ret;exact ⟨Ap HE.out.symm,LQ⟩
   .skip
    have HE:Hid (Ck T P C B L=false):=by rw [HOK.out]; rfl
    go_enter func23,ntmps23
    go_upto_region 1 with (fail);rw [<- hW0];clear hW0;refine wp_region_quiet_below (by kernel_rfl) (by kernel_rfl) ?_
    repeat (go_big_quiet_step (first | (go_at_call 24; first | with_reducible exact Calls.regrown_of (C2 _) | with_reducible exact Calls.regrown_of (C3 _)) | (go_at_call 64; exact Calls.regrown_of (C4 _))))
    refine wpQuiet_nil ?_;intro _ hw';obtain ⟨⟨dq,osq⟩,hw''⟩:=hw';subst hw'';have LQ:=L0.trans ((below_regrown W0 dq osq).mono L0.size);generalize Go.Sort.grow (redrawn W0 dq) osq=w4 at *;go_wp2;go_ret;exact ⟨Ap HE.out.symm,LQ⟩
  .skip
   have HE:Hid (Ck T P C B L=false):=by rw [HOK.out]; rfl
   go_enter func23,ntmps23
   go_upto_region 1 with (fail);rw [<- hW0];clear hW0;refine wp_region_quiet_below (by kernel_rfl) (by kernel_rfl) ?_
   repeat (go_big_quiet_step (first | (go_at_call 24; first | with_reducible exact Calls.regrown_of (C2 _) | with_reducible exact Calls.regrown_of (C3 _)) | (go_at_call 64; exact Calls.regrown_of (C4 _))))
   refine wpQuiet_nil ?_;intro _ hw';obtain ⟨⟨dq,osq⟩,hw''⟩:=hw';subst hw'';have LQ:=L0.trans ((below_regrown W0 dq osq).mono L0.size);generalize Go.Sort.grow (redrawn W0 dq) osq=w4 at *;go_wp2;go_ret;exact ⟨Ap HE.out.symm,LQ⟩
 .cases b4
  .cases b5
   .skip
    have HE:Hid (Ck T P C B L=false):=by rw [HOK.out]; rfl
    go_enter func23,ntmps23
    go_upto_region 1 with (fail);rw [<- hW0];clear hW0;refine wp_region_quiet_below (by kernel_rfl) (by kernel_rfl) ?_
    repeat (go_big_quiet_step (first | (go_at_call 24; first | with_reducible exact Calls.regrown_of (C2 _) | with_reducible exact Calls.regrown_of (C3 _)) | (go_at_call 64; exact Calls.regrown_of (C4 _))))
    refine wpQuiet_nil ?_;intro _ hw';obtain ⟨⟨dq,osq⟩,hw''⟩:=hw';subst hw'';have LQ:=L0.trans ((below_regrown W0 dq osq).mono L0.size);generalize Go.Sort.grow (redrawn W0 dq) osq=w4 at *;go_wp2;go_ret;exact ⟨Ap HE.out.symm,LQ⟩
   .skip
    have HE:Hid (Ck T P C B L=true):=by rw [HOK.out]; rfl
    go_enter func23,ntmps23
    go_upto_region 1 with (fail);rw [<- hW0];clear hW0;refine wp_region_quiet_below (by kernel_rfl) (by kernel_rfl) ?_
    repeat (go_big_quiet_step (first | (go_at_call 24; first | with_reducible exact Calls.regrown_of (C2 _) | with_reducible exact Calls.regrown_of (C3 _)) | (go_at_call 64; exact Calls.regrown_of (C4 _))))
    refine wpQuiet_nil ?_;intro _ hw';obtain ⟨⟨dq,osq⟩,hw''⟩:=hw';subst hw'';have LQ:=L0.trans ((below_regrown W0 dq osq).mono L0.size);generalize Go.Sort.grow (redrawn W0 dq) osq=w4 at *;go_wp2;go_ret;exact ⟨Ap HE.out.symm,LQ⟩
  .skip
   have HE:Hid (Ck T P C B L=true):=by rw [HOK.out]; rfl
   go_enter func23,ntmps23
   go_upto_region 1 with (fail);rw [<- hW0];clear hW0;refine wp_region_quiet_below (by kernel_rfl) (by kernel_rfl) ?_
   repeat (go_big_quiet_step (first | (go_at_call 24; first | with_reducible exact Calls.regrown_of (C2 _) | with_reducible exact Calls.regrown_of (C3 _)) | (go_at_call 64; exact Calls.regrown_of (C4 _))))
   refine wpQuiet_nil ?_;intro _ hw';obtain ⟨⟨dq,osq⟩,hw''⟩:=hw';subst hw'';have LQ:=L0.trans ((below_regrown W0 dq osq).mono L0.size);generalize Go.Sort.grow (redrawn W0 dq) osq=w4 at *;go_wp2;go_ret;exact ⟨Ap HE.out.symm,LQ⟩
end Go.Proofs.YtijljlnooibbmaaGreatDoor
