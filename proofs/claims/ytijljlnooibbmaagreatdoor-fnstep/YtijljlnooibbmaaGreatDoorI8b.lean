import Derived.Test.YtijljlnooibbmaaGreatDoorI2
import Derived.Test.YtijljlnooibbmaaGreatDoorA8
namespace Go.Proofs.YtijljlnooibbmaaGreatDoor
set_option maxHeartbeats 4000000
open Go.Proofs.Tryz
set_option linter.unusedVariables false
set_option linter.unusedSimpArgs false
open Go.ChangeShapes Go.WideShapes Go.ChangeAt Go.RowKit Go.Sort
theorem Jcn (x:Int):(x==x%16)=Cr x 0 15:=by
 by_cases h:0<=x/\x<=15
 .rw [Bh h]; exact beq_iff_eq.2 (by omega)
 .rw [C9 h]; exact beq_eq_false_iff_ne.2 (by omega)
theorem Jco (x:Int):(x==x%64)=Cr x 0 63:=by
 by_cases h:0<=x/\x<=63
 .rw [Bh h]; exact beq_iff_eq.2 (by omega)
 .rw [C9 h]; exact beq_eq_false_iff_ne.2 (by omega)
theorem Jhs {W:World} {b:Nat} {cs:Array Value} {T:TypeId} (h:W.heap[b]?=some (.cells cs T (0,0))) (d:Nat) (os:Array Obj) (j:Nat):(grow (redrawn W d) os).cell? ⟨b,j,none⟩=cs[j]?:=Af (((below_regrown W d os).block _ (Ad h)).trans h) j
theorem Js (w:World) (F G:Nat->Nat->Prop) (t c s ad pl:Int) (bl:Bool) (u u':Value) (n:Nat) (f:Nat->Int) (m:Nat) (g:Nat->Int) (H:Ints .i64 w F u n f) (K:Ints .i64 w G u' m g) :
  Calls prog 22 #[.agg (pR t c s ad pl bl u u')] w fun e w'=>e=.returned (.bool (A1 t c s ad pl n f m g))/\Below w.heap.size w w':=by
 obtain ⟨ua,ux,rfl,un,hr,hF⟩:=H;obtain ⟨va,vx,rfl,vn,hr',hF'⟩:=K
 have H:Ints .i64 w F (.slice ua n ux) n f:=⟨_,_,rfl,un,hr,hF⟩
 have K:Ints .i64 w G (.slice va m vx) m g:=⟨_,_,rfl,vn,hr',hF'⟩
 clear hr hF hr' hF';have L0:Below w.heap.size w (w.alloc (.cells (pR t c s ad pl bl (.slice ua n ux) (.slice va m vx)) 33)):=(Below.refl _ _).alloc (Nat.le_refl _) _;have k0:=Jhs (Ak w (pR t c s ad pl bl (.slice ua n ux) (.slice va m vx)) 33);have H0:=H.keep (Aa L0 Aj) (fun _ _ _ x=>x);have K0:=K.keep (Aa L0 Aj) (fun _ _ _ x=>x)
 obtain ⟨b0,h0⟩:∃ b,b=decide (0<=t):=⟨_,rfl⟩
 obtain ⟨b1,h1⟩:∃ b,b=decide (t<=20000):=⟨_,rfl⟩
 obtain ⟨b2,h2⟩:∃ b,b=Cr c 0 255:=⟨_,rfl⟩
 have C2:∀ W:World,CB 24 #[.i c] W (.bool b2):=fun W=>(isByte c W).mono (fun e w' ⟨he,hw⟩=>⟨by rw [he,h2],by rw [hw]; exact Below.refl _ _⟩)
 obtain ⟨b3,h3⟩:∃ b,b=Cr s 0 255:=⟨_,rfl⟩
 have C3:∀ W:World,CB 24 #[.i s] W (.bool b3):=fun W=>(isByte s W).mono (fun e w' ⟨he,hw⟩=>⟨by rw [he,h3],by rw [hw]; exact Below.refl _ _⟩)
 obtain ⟨b4,h4⟩:∃ b,b=Cr ad 0 15:=⟨_,rfl⟩
 have C4:∀ W:World,CB 64 #[.i ad,.i 16] W (.i (ad%16)):=fun W=>(Jf5 ad W).mono (fun e w' ⟨he,hw⟩=>⟨he,by rw [hw]; exact Below.refl _ _⟩)
 have q4:(ad==ad%16)=b4:=by rw [h4,Jcn]
 obtain ⟨b5,h5⟩:∃ b,b=Cr pl 0 63:=⟨_,rfl⟩
 have C5:∀ W:World,CB 64 #[.i pl,.i 64] W (.i (pl%64)):=fun W=>(Jcl pl W).mono (fun e w' ⟨he,hw⟩=>⟨he,by rw [hw]; exact Below.refl _ _⟩)
 have q5:(pl==pl%64)=b5:=by rw [h5,Jco]
 generalize ad%16=a16 at *;generalize pl%64=p64 at *
 obtain ⟨b6,h6⟩:∃ b,b=(decide ((n:Int)=16) && allIn n f 0 63):=⟨_,rfl⟩
 obtain ⟨W0,hW0⟩:∃ W0,W0=w.alloc (.cells (pR t c s ad pl bl (.slice ua n ux) (.slice va m vx)) 33):=⟨_,rfl⟩
 rw [<- hW0] at L0 k0 H0 K0
 have C6:∀ d os,Calls prog 65 #[.slice ua n ux,.i 16] (grow (redrawn W0 d) os) fun e w'=>e=.returned (.bool b6)/\Below (grow (redrawn W0 d) os).heap.size (grow (redrawn W0 d) os) w':=fun d os=>by
  rw [h6];exact Qy _ F _ n f 16 (H0.keep (Aa (below_regrown W0 d os) Aj) (fun _ _ _ x=>x)) (by omega)
 obtain ⟨dn,hdn⟩:∃ dn,dn=Ea t:=⟨_,rfl⟩
 obtain ⟨b7,h7⟩:∃ b,b=(decide ((m:Int)=dn) && allIn m g 0 63):=⟨_,rfl⟩
 have C7:∀ d os,Calls prog 65 #[.slice va m vx,.i dn] (grow (redrawn W0 d) os) fun e w'=>e=.returned (.bool b7)/\Below (grow (redrawn W0 d) os).heap.size (grow (redrawn W0 d) os) w':=fun d os=>by
  rw [h7];exact Qy _ G _ m g dn (K0.keep (Aa (below_regrown W0 d os) Aj) (fun _ _ _ x=>x)) (by rw [hdn]; unfold Ea; split <;> omega)
 have C8:b0=true->b1=true->∀ W:World,CB 66 #[.i t] W (.i dn):=fun e0 e1 W=>by
  rw [h0] at e0;rw [h1] at e1;exact (Jf6 W t (of_decide_eq_true e0) (of_decide_eq_true e1)).mono (fun e w' ⟨he,hw⟩=>⟨by rw [he,hdn],by rw [hw]; exact Below.refl _ _⟩)
 have OK:A1 t c s ad pl n f m g=(b0 && (b1 && (b2 && (b3 && (b4 && (b5 && (b6 && b7))))))):=by
  unfold A1;rw [h0,h1,h2,h3,h4,h5,h6,h7,hdn]
  have e1:Cr t 0 20000=(decide (0<=t) && decide (t<=20000)):=by
   by_cases h:0<=t/\t<=20000
   .rw [Bh h,decide_eq_true h.1,decide_eq_true h.2]; rfl
   .rw [C9 h]
    by_cases h':0<=t
    .rw [decide_eq_true h',decide_eq_false (fun x=>h ⟨h',x⟩)]; rfl
    .rw [decide_eq_false h']; rfl
  have e2:decide ((n:Int)=16)=decide (n=16):=by
   by_cases h:n=16
   .rw [decide_eq_true h,decide_eq_true (by omega)]
   .rw [decide_eq_false h,decide_eq_false (by omega)]
  rw [e1,e2]
  cases decide (0<=t) <;> cases decide (t<=20000) <;> cases Cr c 0 255 <;> cases Cr s 0 255 <;> cases Cr ad 0 15 <;> cases Cr pl 0 63 <;> cases decide (n=16) <;> cases decide ((m:Int)=Ea t) <;> cases allIn n f 0 63 <;> cases allIn m g 0 63 <;> rfl
 have HOK:=Ac OK;have g0:decide (0<=t)=b0:=h0.symm;have g1:decide (t<=20000)=b1:=h1.symm;clear h0 h1 h2 h3 h4 h5 h6 h7 OK H K H0 K0 hdn;cases b0
 .skip
  have HE:Hid (A1 t c s ad pl n f m g=false):=by rw [HOK.out]; rfl
  go_enter func22,ntmps22
  go_upto_region 1 with (fail);rw [<- hW0];clear hW0;refine wp_region_quiet_below (by kernel_rfl) (by kernel_rfl) ?_
  repeat (go_big_quiet_step (first | (go_at_call 24; first | with_reducible exact Calls.regrown_of (C2 _) | with_reducible exact Calls.regrown_of (C3 _)) | (go_at_call 64; first | with_reducible exact Calls.regrown_of (C4 _) | with_reducible exact Calls.regrown_of (C5 _)) | (go_at_call 65; first | with_reducible exact Calls.regrown_of (C6 _ _) | with_reducible exact Calls.regrown_of (C7 _ _)) | (go_at_call 66; exact Calls.regrown_of (C8 rfl rfl _))))
  refine wpQuiet_nil ?_;intro _ hw';obtain ⟨⟨dq,osq⟩,hw''⟩:=hw';subst hw'';have LQ:=L0.trans ((below_regrown W0 dq osq).mono L0.size);generalize Go.Sort.grow (redrawn W0 dq) osq=w4 at *;go_wp2;go_ret;exact ⟨Ap HE.out.symm,LQ⟩
 cases b1
 .skip
  have HE:Hid (A1 t c s ad pl n f m g=false):=by rw [HOK.out]; rfl
  go_enter func22,ntmps22
  go_upto_region 1 with (fail);rw [<- hW0];clear hW0;refine wp_region_quiet_below (by kernel_rfl) (by kernel_rfl) ?_
  repeat (go_big_quiet_step (first | (go_at_call 24; first | with_reducible exact Calls.regrown_of (C2 _) | with_reducible exact Calls.regrown_of (C3 _)) | (go_at_call 64; first | with_reducible exact Calls.regrown_of (C4 _) | with_reducible exact Calls.regrown_of (C5 _)) | (go_at_call 65; first | with_reducible exact Calls.regrown_of (C6 _ _) | with_reducible exact Calls.regrown_of (C7 _ _)) | (go_at_call 66; exact Calls.regrown_of (C8 rfl rfl _))))
  refine wpQuiet_nil ?_;intro _ hw';obtain ⟨⟨dq,osq⟩,hw''⟩:=hw';subst hw'';have LQ:=L0.trans ((below_regrown W0 dq osq).mono L0.size);generalize Go.Sort.grow (redrawn W0 dq) osq=w4 at *;go_wp2;go_ret;exact ⟨Ap HE.out.symm,LQ⟩
 cases b2
 .skip
  have HE:Hid (A1 t c s ad pl n f m g=false):=by rw [HOK.out]; rfl
  go_enter func22,ntmps22
  go_upto_region 1 with (fail);rw [<- hW0];clear hW0;refine wp_region_quiet_below (by kernel_rfl) (by kernel_rfl) ?_
  repeat (go_big_quiet_step (first | (go_at_call 24; first | with_reducible exact Calls.regrown_of (C2 _) | with_reducible exact Calls.regrown_of (C3 _)) | (go_at_call 64; first | with_reducible exact Calls.regrown_of (C4 _) | with_reducible exact Calls.regrown_of (C5 _)) | (go_at_call 65; first | with_reducible exact Calls.regrown_of (C6 _ _) | with_reducible exact Calls.regrown_of (C7 _ _)) | (go_at_call 66; exact Calls.regrown_of (C8 rfl rfl _))))
  refine wpQuiet_nil ?_;intro _ hw';obtain ⟨⟨dq,osq⟩,hw''⟩:=hw';subst hw'';have LQ:=L0.trans ((below_regrown W0 dq osq).mono L0.size);generalize Go.Sort.grow (redrawn W0 dq) osq=w4 at *;go_wp2;go_ret;exact ⟨Ap HE.out.symm,LQ⟩
 cases b3
 .skip
  have HE:Hid (A1 t c s ad pl n f m g=false):=by rw [HOK.out]; rfl
  go_enter func22,ntmps22
  go_upto_region 1 with (fail);rw [<- hW0];clear hW0;refine wp_region_quiet_below (by kernel_rfl) (by kernel_rfl) ?_
  repeat (go_big_quiet_step (first | (go_at_call 24; first | with_reducible exact Calls.regrown_of (C2 _) | with_reducible exact Calls.regrown_of (C3 _)) | (go_at_call 64; first | with_reducible exact Calls.regrown_of (C4 _) | with_reducible exact Calls.regrown_of (C5 _)) | (go_at_call 65; first | with_reducible exact Calls.regrown_of (C6 _ _) | with_reducible exact Calls.regrown_of (C7 _ _)) | (go_at_call 66; exact Calls.regrown_of (C8 rfl rfl _))))
  refine wpQuiet_nil ?_;intro _ hw';obtain ⟨⟨dq,osq⟩,hw''⟩:=hw';subst hw'';have LQ:=L0.trans ((below_regrown W0 dq osq).mono L0.size);generalize Go.Sort.grow (redrawn W0 dq) osq=w4 at *;go_wp2;go_ret;exact ⟨Ap HE.out.symm,LQ⟩
 cases b4
 .skip
  have HE:Hid (A1 t c s ad pl n f m g=false):=by rw [HOK.out]; rfl
  go_enter func22,ntmps22
  go_upto_region 1 with (fail);rw [<- hW0];clear hW0;refine wp_region_quiet_below (by kernel_rfl) (by kernel_rfl) ?_
  repeat (go_big_quiet_step (first | (go_at_call 24; first | with_reducible exact Calls.regrown_of (C2 _) | with_reducible exact Calls.regrown_of (C3 _)) | (go_at_call 64; first | with_reducible exact Calls.regrown_of (C4 _) | with_reducible exact Calls.regrown_of (C5 _)) | (go_at_call 65; first | with_reducible exact Calls.regrown_of (C6 _ _) | with_reducible exact Calls.regrown_of (C7 _ _)) | (go_at_call 66; exact Calls.regrown_of (C8 rfl rfl _))))
  refine wpQuiet_nil ?_;intro _ hw';obtain ⟨⟨dq,osq⟩,hw''⟩:=hw';subst hw'';have LQ:=L0.trans ((below_regrown W0 dq osq).mono L0.size);generalize Go.Sort.grow (redrawn W0 dq) osq=w4 at *;go_wp2;go_ret;exact ⟨Ap HE.out.symm,LQ⟩
 cases b5
 .skip
  have HE:Hid (A1 t c s ad pl n f m g=false):=by rw [HOK.out]; rfl
  go_enter func22,ntmps22
  go_upto_region 1 with (fail);rw [<- hW0];clear hW0;refine wp_region_quiet_below (by kernel_rfl) (by kernel_rfl) ?_
  repeat (go_big_quiet_step (first | (go_at_call 24; first | with_reducible exact Calls.regrown_of (C2 _) | with_reducible exact Calls.regrown_of (C3 _)) | (go_at_call 64; first | with_reducible exact Calls.regrown_of (C4 _) | with_reducible exact Calls.regrown_of (C5 _)) | (go_at_call 65; first | with_reducible exact Calls.regrown_of (C6 _ _) | with_reducible exact Calls.regrown_of (C7 _ _)) | (go_at_call 66; exact Calls.regrown_of (C8 rfl rfl _))))
  refine wpQuiet_nil ?_;intro _ hw';obtain ⟨⟨dq,osq⟩,hw''⟩:=hw';subst hw'';have LQ:=L0.trans ((below_regrown W0 dq osq).mono L0.size);generalize Go.Sort.grow (redrawn W0 dq) osq=w4 at *;go_wp2;go_ret;exact ⟨Ap HE.out.symm,LQ⟩
 cases b6
 .skip
  have HE:Hid (A1 t c s ad pl n f m g=false):=by rw [HOK.out]; rfl
  go_enter func22,ntmps22
  go_upto_region 1 with (fail);rw [<- hW0];clear hW0;refine wp_region_quiet_below (by kernel_rfl) (by kernel_rfl) ?_
  repeat (go_big_quiet_step (first | (go_at_call 24; first | with_reducible exact Calls.regrown_of (C2 _) | with_reducible exact Calls.regrown_of (C3 _)) | (go_at_call 64; first | with_reducible exact Calls.regrown_of (C4 _) | with_reducible exact Calls.regrown_of (C5 _)) | (go_at_call 65; first | with_reducible exact Calls.regrown_of (C6 _ _) | with_reducible exact Calls.regrown_of (C7 _ _)) | (go_at_call 66; exact Calls.regrown_of (C8 rfl rfl _))))
  refine wpQuiet_nil ?_;intro _ hw';obtain ⟨⟨dq,osq⟩,hw''⟩:=hw';subst hw'';have LQ:=L0.trans ((below_regrown W0 dq osq).mono L0.size);generalize Go.Sort.grow (redrawn W0 dq) osq=w4 at *;go_wp2;go_ret;exact ⟨Ap HE.out.symm,LQ⟩
 cases b7
 .skip
  have HE:Hid (A1 t c s ad pl n f m g=false):=by rw [HOK.out]; rfl
  go_enter func22,ntmps22
  go_upto_region 1 with (fail);rw [<- hW0];clear hW0;refine wp_region_quiet_below (by kernel_rfl) (by kernel_rfl) ?_
  repeat (go_big_quiet_step (first | (go_at_call 24; first | with_reducible exact Calls.regrown_of (C2 _) | with_reducible exact Calls.regrown_of (C3 _)) | (go_at_call 64; first | with_reducible exact Calls.regrown_of (C4 _) | with_reducible exact Calls.regrown_of (C5 _)) | (go_at_call 65; first | with_reducible exact Calls.regrown_of (C6 _ _) | with_reducible exact Calls.regrown_of (C7 _ _)) | (go_at_call 66; exact Calls.regrown_of (C8 rfl rfl _))))
  refine wpQuiet_nil ?_;intro _ hw';obtain ⟨⟨dq,osq⟩,hw''⟩:=hw';subst hw'';have LQ:=L0.trans ((below_regrown W0 dq osq).mono L0.size);generalize Go.Sort.grow (redrawn W0 dq) osq=w4 at *;go_wp2;go_ret;exact ⟨Ap HE.out.symm,LQ⟩
 .skip
  have HE:Hid (A1 t c s ad pl n f m g=true):=by rw [HOK.out]; rfl
  go_enter func22,ntmps22
  go_upto_region 1 with (fail);rw [<- hW0];clear hW0;refine wp_region_quiet_below (by kernel_rfl) (by kernel_rfl) ?_
  repeat (go_big_quiet_step (first | (go_at_call 24; first | with_reducible exact Calls.regrown_of (C2 _) | with_reducible exact Calls.regrown_of (C3 _)) | (go_at_call 64; first | with_reducible exact Calls.regrown_of (C4 _) | with_reducible exact Calls.regrown_of (C5 _)) | (go_at_call 65; first | with_reducible exact Calls.regrown_of (C6 _ _) | with_reducible exact Calls.regrown_of (C7 _ _)) | (go_at_call 66; exact Calls.regrown_of (C8 rfl rfl _))))
  refine wpQuiet_nil ?_;intro _ hw';obtain ⟨⟨dq,osq⟩,hw''⟩:=hw';subst hw'';have LQ:=L0.trans ((below_regrown W0 dq osq).mono L0.size);generalize Go.Sort.grow (redrawn W0 dq) osq=w4 at *;go_wp2;go_ret;exact ⟨Ap HE.out.symm,LQ⟩
end Go.Proofs.YtijljlnooibbmaaGreatDoor
