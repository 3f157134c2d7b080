import Derived.Test.YtjnjnppongdhgaaGreatUQ0
import Derived.Test.YtjnjnppongdhgaaGreatA8
namespace Go.Proofs.YtjnjnppongdhgaaGreat
set_option linter.unusedVariables false
open Go.ChangeShapes Go.WideShapes Go.ChangeAt Go.RowKit
theorem Xz (W:World) (A X S Pc A' X' S' Pc':Int) (Z N C I:Bool):(binOp .eql 31 (.agg (cR A' X' S' Pc' Z N C I)) (.agg (cR A X S Pc Z N C I))).run Tryz.prog W=.ok (.bool (A'==A && (X'==X && (S'==S && Pc'==Pc)))) W:=by
 obtain ⟨fs,hfs,hf⟩:∃ fs,Tryz.prog.underlying 31=some (.struct fs)∧Tryz.prog.fieldsOf 31=fs:=⟨_,Tryz.underlying31,by unfold Program.fieldsOf; rw [Tryz.underlying31]⟩
 have hu':Tryz.prog.underlying 31=some (.struct (Tryz.prog.fieldsOf 31)):=by rw [hf,hfs]
 rw [run_eql_struct,show (10000:Nat)=9999+1 from rfl,run_equalIn_agg W 9999 31 _ _ hu' (by kernel_rfl),hf];obtain rfl:=TypeDesc.struct.inj (Option.some.inj (hfs.symm.trans Tryz.underlying31))
 cases hA:A'==A <;> cases hX:X'==X <;> cases hS:S'==S <;> cases hP:Pc'==Pc <;> simp [Op.eqFields,go_sem,Tryz.underlying3,Tryz.underlying4,hA,hX,hS,hP]
theorem Zf (A X S Pc:Int):(A%256==A && (X%256==X && (S%256==S && Pc%65536==Pc)))=Hs A X S Pc:=by
 have b:∀ x:Int,(x%256==x)=By x 0 255:=fun x=>by
  by_cases h:0≤x∧x≤255
  ·rw [Bj h]; exact beq_iff_eq.2 (by omega)
  ·rw [Cf h]; exact beq_eq_false_iff_ne.2 (by omega)
 have p:∀ x:Int,(x%65536==x)=By x 0 65535:=fun x=>by
  by_cases h:0≤x∧x≤65535
  ·rw [Bj h]; exact beq_iff_eq.2 (by omega)
  ·rw [Cf h]; exact beq_eq_false_iff_ne.2 (by omega)
 unfold Hs;rw [b,b,b,p];simp only [Bool.and_assoc]
theorem Tx (w:World) (A X S Pc:Int) (Z N C I:Bool):Calls Tryz.prog 49 #[.agg (cR A X S Pc Z N C I)] w
  fun e w'=>e=.returned (.bool (Hs A X S Pc))∧Below w.heap.size w w':=by
 have hq:=fun W=>Xz W A X S Pc (A%256) (X%256) (S%256) (Pc%65536) Z N C I
 have ho:=Ac (Zf A X S Pc)
 go_enter Tryz.func49,Tryz.ntmps49
 go_wp2_with fail
 go_region_held3 (fun w'=>w'.cell? ⟨w.heap.size,0,none⟩=some (.i A)∧w'.cell? ⟨w.heap.size,1,none⟩=some (.i X)∧w'.cell? ⟨w.heap.size,2,none⟩=some (.i S)∧w'.cell? ⟨w.heap.size,3,none⟩=some (.i Pc)) (first | assumption | go_keep) (first | (go_at_call 92; refine (Dk _ _).mono ?_; rintro e w' ⟨rfl,rfl⟩) | (go_at_call 93; refine (Vh _ _).mono ?_; rintro e w' ⟨rfl,rfl⟩))
 all_goals go_wp2
 all_goals go_ret
 all_goals exact ⟨Am (Ad ho),(((Below.refl _ _).alloc (Nat.le_refl _) _).alloc (by simp) _).drew⟩
set_option maxHeartbeats 4000000
set_option linter.unusedSimpArgs false
open Go.Sort
theorem Wn (x:Int):(x==x%16)=By x 0 15:=by
 by_cases h:0≤x∧x≤15
 ·rw [Bj h]; exact beq_iff_eq.2 (by omega)
 ·rw [Cf h]; exact beq_eq_false_iff_ne.2 (by omega)
theorem Wo (x:Int):(x==x%64)=By x 0 63:=by
 by_cases h:0≤x∧x≤63
 ·rw [Bj h]; exact beq_iff_eq.2 (by omega)
 ·rw [Cf h]; exact beq_eq_false_iff_ne.2 (by omega)
theorem Jba {W:World} {b:Nat} {cs:Array Value} {T:TypeId} (h:W.heap[b]?=some (.cells cs T (0,0))) (d:Nat) (os:Array Obj) (j:Nat):(grow (redrawn W d) os).cell? ⟨b,j,none⟩=cs[j]?:=Aj (((below_regrown W d os).block _ (Ae h)).trans h) j
theorem Jr (w:World) (F G:Nat→Nat→Prop) (t c s ad pl:Int) (bl:Bool) (u u':Value) (n:Nat) (f:Nat→Int) (m:Nat) (g:Nat→Int) (H:Ints .i64 w F u n f) (K:Ints .i64 w G u' m g) :
  Calls Tryz.prog 50 #[.agg (pR t c s ad pl bl u u')] w fun e w'=>e=.returned (.bool (A2 t c s ad pl n f m g))∧Below w.heap.size w w':=by
 obtain ⟨ua,ux,rfl,un,hr,hF⟩:=H;obtain ⟨va,vx,rfl,vn,hr',hF'⟩:=K
 have H:Ints .i64 w F (.slice ua n ux) n f:=⟨_,_,rfl,un,hr,hF⟩
 have K:Ints .i64 w G (.slice va m vx) m g:=⟨_,_,rfl,vn,hr',hF'⟩
 clear hr hF hr' hF';have L0:Below w.heap.size w (w.alloc (.cells (pR t c s ad pl bl (.slice ua n ux) (.slice va m vx)) 33)):=(Below.refl _ _).alloc (Nat.le_refl _) _;have k0:=Jba (Al w (pR t c s ad pl bl (.slice ua n ux) (.slice va m vx)) 33);have H0:=H.keep (Ab L0 Ak) (fun _ _ _ x=>x);have K0:=K.keep (Ab L0 Ak) (fun _ _ _ x=>x)
 obtain ⟨b0,h0⟩:∃ b,b=decide (0≤t):=⟨_,rfl⟩
 obtain ⟨b1,h1⟩:∃ b,b=decide (t≤20000):=⟨_,rfl⟩
 obtain ⟨b2,h2⟩:∃ b,b=By c 0 255:=⟨_,rfl⟩
 have C2:∀ W:World,Calls Tryz.prog 52 #[.i c] W fun e w'=>e=.returned (.bool b2)∧Below W.heap.size W w':=fun W=>(isByte c W).mono (fun e w' ⟨he,hw⟩=>⟨by rw [he,h2],by rw [hw]; exact Below.refl _ _⟩)
 obtain ⟨b3,h3⟩:∃ b,b=By s 0 255:=⟨_,rfl⟩
 have C3:∀ W:World,Calls Tryz.prog 52 #[.i s] W fun e w'=>e=.returned (.bool b3)∧Below W.heap.size W w':=fun W=>(isByte s W).mono (fun e w' ⟨he,hw⟩=>⟨by rw [he,h3],by rw [hw]; exact Below.refl _ _⟩)
 obtain ⟨b4,h4⟩:∃ b,b=By ad 0 15:=⟨_,rfl⟩
 have C4:∀ W:World,Calls Tryz.prog 94 #[.i ad,.i 16] W fun e w'=>e=.returned (.i (ad%16))∧Below W.heap.size W w':=fun W=>(Zw ad W).mono (fun e w' ⟨he,hw⟩=>⟨he,by rw [hw]; exact Below.refl _ _⟩)
 have q4:(ad==ad%16)=b4:=by rw [h4,Wn]
 obtain ⟨b5,h5⟩:∃ b,b=By pl 0 63:=⟨_,rfl⟩
 have C5:∀ W:World,Calls Tryz.prog 94 #[.i pl,.i 64] W fun e w'=>e=.returned (.i (pl%64))∧Below W.heap.size W w':=fun W=>(Wl pl W).mono (fun e w' ⟨he,hw⟩=>⟨he,by rw [hw]; exact Below.refl _ _⟩)
 have q5:(pl==pl%64)=b5:=by rw [h5,Wo]
 generalize ad%16=a16 at *;generalize pl%64=p64 at *
 obtain ⟨b6,h6⟩:∃ b,b=(decide ((n:Int)=16) && allIn n f 0 63):=⟨_,rfl⟩
 obtain ⟨W0,hW0⟩:∃ W0,W0=w.alloc (.cells (pR t c s ad pl bl (.slice ua n ux) (.slice va m vx)) 33):=⟨_,rfl⟩
 rw [← hW0] at L0 k0 H0 K0
 have C6:∀ d os,Calls Tryz.prog 95 #[.slice ua n ux,.i 16] (grow (redrawn W0 d) os) fun e w'=>e=.returned (.bool b6)∧Below (grow (redrawn W0 d) os).heap.size (grow (redrawn W0 d) os) w':=fun d os=>by
  rw [h6];exact Ng _ F _ n f 16 (H0.keep (Ab (below_regrown W0 d os) Ak) (fun _ _ _ x=>x)) (by omega)
 obtain ⟨dn,hdn⟩:∃ dn,dn=Dg t:=⟨_,rfl⟩
 obtain ⟨b7,h7⟩:∃ b,b=(decide ((m:Int)=dn) && allIn m g 0 63):=⟨_,rfl⟩
 have C7:∀ d os,Calls Tryz.prog 95 #[.slice va m vx,.i dn] (grow (redrawn W0 d) os) fun e w'=>e=.returned (.bool b7)∧Below (grow (redrawn W0 d) os).heap.size (grow (redrawn W0 d) os) w':=fun d os=>by
  rw [h7];exact Ng _ G _ m g dn (K0.keep (Ab (below_regrown W0 d os) Ak) (fun _ _ _ x=>x)) (by rw [hdn]; unfold Dg; split <;> omega)
 have C8:b0=true→b1=true→∀ W:World,Calls Tryz.prog 96 #[.i t] W fun e w'=>e=.returned (.i dn)∧Below W.heap.size W w':=fun e0 e1 W=>by
  rw [h0] at e0;rw [h1] at e1;exact (Zx W t (of_decide_eq_true e0) (of_decide_eq_true e1)).mono (fun e w' ⟨he,hw⟩=>⟨by rw [he,hdn],by rw [hw]; exact Below.refl _ _⟩)
 have OK:A2 t c s ad pl n f m g=(b0 && (b1 && (b2 && (b3 && (b4 && (b5 && (b6 && b7))))))):=by
  unfold A2;rw [h0,h1,h2,h3,h4,h5,h6,h7,hdn]
  have e1:By t 0 20000=(decide (0≤t) && decide (t≤20000)):=by
   by_cases h:0≤t∧t≤20000
   ·rw [Bj h,decide_eq_true h.1,decide_eq_true h.2]; rfl
   ·rw [Cf h]
    by_cases h':0≤t
    ·rw [decide_eq_true h',decide_eq_false (fun x=>h ⟨h',x⟩)]; rfl
    ·rw [decide_eq_false h']; rfl
  have e2:decide ((n:Int)=16)=decide (n=16):=by
   by_cases h:n=16
   ·rw [decide_eq_true h,decide_eq_true (by omega)]
   ·rw [decide_eq_false h,decide_eq_false (by omega)]
  rw [e1,e2]
  cases decide (0≤t) <;> cases decide (t≤20000) <;> cases By c 0 255 <;> cases By s 0 255 <;> cases By ad 0 15 <;> cases By pl 0 63 <;> cases decide (n=16) <;> cases decide ((m:Int)=Dg t) <;> cases allIn n f 0 63 <;> cases allIn m g 0 63 <;> rfl
 have HOK:=Ac OK;have g0:decide (0≤t)=b0:=h0.symm;have g1:decide (t≤20000)=b1:=h1.symm;clear h0 h1 h2 h3 h4 h5 h6 h7 OK H K H0 K0 hdn;cases b0
 ·skip
  have HE:Hid (A2 t c s ad pl n f m g=false):=by rw [HOK.out]; rfl
  go_enter Tryz.func50,Tryz.ntmps50
  go_upto_region 1 with (fail);rw [← hW0];clear hW0;refine wp_region_quiet_below (by kernel_rfl) (by kernel_rfl) ?_
  repeat (go_big_quiet_step (first | (go_at_call 52; first | with_reducible exact Calls.regrown_of (C2 _) | with_reducible exact Calls.regrown_of (C3 _)) | (go_at_call 94; first | with_reducible exact Calls.regrown_of (C4 _) | with_reducible exact Calls.regrown_of (C5 _)) | (go_at_call 95; first | with_reducible exact Calls.regrown_of (C6 _ _) | with_reducible exact Calls.regrown_of (C7 _ _)) | (go_at_call 96; exact Calls.regrown_of (C8 rfl rfl _))))
  refine wpQuiet_nil ?_;intro _ hw';obtain ⟨⟨dq,osq⟩,hw''⟩:=hw';subst hw'';have LQ:=L0.trans ((below_regrown W0 dq osq).mono L0.size);generalize Go.Sort.grow (redrawn W0 dq) osq=w4 at *;go_wp2;go_ret;exact ⟨Am HE.out.symm,LQ⟩
 cases b1
 ·skip
  have HE:Hid (A2 t c s ad pl n f m g=false):=by rw [HOK.out]; rfl
  go_enter Tryz.func50,Tryz.ntmps50
  go_upto_region 1 with (fail);rw [← hW0];clear hW0;refine wp_region_quiet_below (by kernel_rfl) (by kernel_rfl) ?_
  repeat (go_big_quiet_step (first | (go_at_call 52; first | with_reducible exact Calls.regrown_of (C2 _) | with_reducible exact Calls.regrown_of (C3 _)) | (go_at_call 94; first | with_reducible exact Calls.regrown_of (C4 _) | with_reducible exact Calls.regrown_of (C5 _)) | (go_at_call 95; first | with_reducible exact Calls.regrown_of (C6 _ _) | with_reducible exact Calls.regrown_of (C7 _ _)) | (go_at_call 96; exact Calls.regrown_of (C8 rfl rfl _))))
  refine wpQuiet_nil ?_;intro _ hw';obtain ⟨⟨dq,osq⟩,hw''⟩:=hw';subst hw'';have LQ:=L0.trans ((below_regrown W0 dq osq).mono L0.size);generalize Go.Sort.grow (redrawn W0 dq) osq=w4 at *;go_wp2;go_ret;exact ⟨Am HE.out.symm,LQ⟩
 cases b2
 ·skip
  have HE:Hid (A2 t c s ad pl n f m g=false):=by rw [HOK.out]; rfl
  go_enter Tryz.func50,Tryz.ntmps50
  go_upto_region 1 with (fail);rw [← hW0];clear hW0;refine wp_region_quiet_below (by kernel_rfl) (by kernel_rfl) ?_
  repeat (go_big_quiet_step (first | (go_at_call 52; first | with_reducible exact Calls.regrown_of (C2 _) | with_reducible exact Calls.regrown_of (C3 _)) | (go_at_call 94; first | with_reducible exact Calls.regrown_of (C4 _) | with_reducible exact Calls.regrown_of (C5 _)) | (go_at_call 95; first | with_reducible exact Calls.regrown_of (C6 _ _) | with_reducible exact Calls.regrown_of (C7 _ _)) | (go_at_call 96; exact Calls.regrown_of (C8 rfl rfl _))))
  refine wpQuiet_nil ?_;intro _ hw';obtain ⟨⟨dq,osq⟩,hw''⟩:=hw';subst hw'';have LQ:=L0.trans ((below_regrown W0 dq osq).mono L0.size);generalize Go.Sort.grow (redrawn W0 dq) osq=w4 at *;go_wp2;go_ret;exact ⟨Am HE.out.symm,LQ⟩
 cases b3
 ·skip
  have HE:Hid (A2 t c s ad pl n f m g=false):=by rw [HOK.out]; rfl
  go_enter Tryz.func50,Tryz.ntmps50
  go_upto_region 1 with (fail);rw [← hW0];clear hW0;refine wp_region_quiet_below (by kernel_rfl) (by kernel_rfl) ?_
  repeat (go_big_quiet_step (first | (go_at_call 52; first | with_reducible exact Calls.regrown_of (C2 _) | with_reducible exact Calls.regrown_of (C3 _)) | (go_at_call 94; first | with_reducible exact Calls.regrown_of (C4 _) | with_reducible exact Calls.regrown_of (C5 _)) | (go_at_call 95; first | with_reducible exact Calls.regrown_of (C6 _ _) | with_reducible exact Calls.regrown_of (C7 _ _)) | (go_at_call 96; exact Calls.regrown_of (C8 rfl rfl _))))
  refine wpQuiet_nil ?_;intro _ hw';obtain ⟨⟨dq,osq⟩,hw''⟩:=hw';subst hw'';have LQ:=L0.trans ((below_regrown W0 dq osq).mono L0.size);generalize Go.Sort.grow (redrawn W0 dq) osq=w4 at *;go_wp2;go_ret;exact ⟨Am HE.out.symm,LQ⟩
 cases b4
 ·skip
  have HE:Hid (A2 t c s ad pl n f m g=false):=by rw [HOK.out]; rfl
  go_enter Tryz.func50,Tryz.ntmps50
  go_upto_region 1 with (fail);rw [← hW0];clear hW0;refine wp_region_quiet_below (by kernel_rfl) (by kernel_rfl) ?_
  repeat (go_big_quiet_step (first | (go_at_call 52; first | with_reducible exact Calls.regrown_of (C2 _) | with_reducible exact Calls.regrown_of (C3 _)) | (go_at_call 94; first | with_reducible exact Calls.regrown_of (C4 _) | with_reducible exact Calls.regrown_of (C5 _)) | (go_at_call 95; first | with_reducible exact Calls.regrown_of (C6 _ _) | with_reducible exact Calls.regrown_of (C7 _ _)) | (go_at_call 96; exact Calls.regrown_of (C8 rfl rfl _))))
  refine wpQuiet_nil ?_;intro _ hw';obtain ⟨⟨dq,osq⟩,hw''⟩:=hw';subst hw'';have LQ:=L0.trans ((below_regrown W0 dq osq).mono L0.size);generalize Go.Sort.grow (redrawn W0 dq) osq=w4 at *;go_wp2;go_ret;exact ⟨Am HE.out.symm,LQ⟩
 cases b5
 ·skip
  have HE:Hid (A2 t c s ad pl n f m g=false):=by rw [HOK.out]; rfl
  go_enter Tryz.func50,Tryz.ntmps50
  go_upto_region 1 with (fail);rw [← hW0];clear hW0;refine wp_region_quiet_below (by kernel_rfl) (by kernel_rfl) ?_
  repeat (go_big_quiet_step (first | (go_at_call 52; first | with_reducible exact Calls.regrown_of (C2 _) | with_reducible exact Calls.regrown_of (C3 _)) | (go_at_call 94; first | with_reducible exact Calls.regrown_of (C4 _) | with_reducible exact Calls.regrown_of (C5 _)) | (go_at_call 95; first | with_reducible exact Calls.regrown_of (C6 _ _) | with_reducible exact Calls.regrown_of (C7 _ _)) | (go_at_call 96; exact Calls.regrown_of (C8 rfl rfl _))))
  refine wpQuiet_nil ?_;intro _ hw';obtain ⟨⟨dq,osq⟩,hw''⟩:=hw';subst hw'';have LQ:=L0.trans ((below_regrown W0 dq osq).mono L0.size);generalize Go.Sort.grow (redrawn W0 dq) osq=w4 at *;go_wp2;go_ret;exact ⟨Am HE.out.symm,LQ⟩
 cases b6
 ·skip
  have HE:Hid (A2 t c s ad pl n f m g=false):=by rw [HOK.out]; rfl
  go_enter Tryz.func50,Tryz.ntmps50
  go_upto_region 1 with (fail);rw [← hW0];clear hW0;refine wp_region_quiet_below (by kernel_rfl) (by kernel_rfl) ?_
  repeat (go_big_quiet_step (first | (go_at_call 52; first | with_reducible exact Calls.regrown_of (C2 _) | with_reducible exact Calls.regrown_of (C3 _)) | (go_at_call 94; first | with_reducible exact Calls.regrown_of (C4 _) | with_reducible exact Calls.regrown_of (C5 _)) | (go_at_call 95; first | with_reducible exact Calls.regrown_of (C6 _ _) | with_reducible exact Calls.regrown_of (C7 _ _)) | (go_at_call 96; exact Calls.regrown_of (C8 rfl rfl _))))
  refine wpQuiet_nil ?_;intro _ hw';obtain ⟨⟨dq,osq⟩,hw''⟩:=hw';subst hw'';have LQ:=L0.trans ((below_regrown W0 dq osq).mono L0.size);generalize Go.Sort.grow (redrawn W0 dq) osq=w4 at *;go_wp2;go_ret;exact ⟨Am HE.out.symm,LQ⟩
 cases b7
 ·skip
  have HE:Hid (A2 t c s ad pl n f m g=false):=by rw [HOK.out]; rfl
  go_enter Tryz.func50,Tryz.ntmps50
  go_upto_region 1 with (fail);rw [← hW0];clear hW0;refine wp_region_quiet_below (by kernel_rfl) (by kernel_rfl) ?_
  repeat (go_big_quiet_step (first | (go_at_call 52; first | with_reducible exact Calls.regrown_of (C2 _) | with_reducible exact Calls.regrown_of (C3 _)) | (go_at_call 94; first | with_reducible exact Calls.regrown_of (C4 _) | with_reducible exact Calls.regrown_of (C5 _)) | (go_at_call 95; first | with_reducible exact Calls.regrown_of (C6 _ _) | with_reducible exact Calls.regrown_of (C7 _ _)) | (go_at_call 96; exact Calls.regrown_of (C8 rfl rfl _))))
  refine wpQuiet_nil ?_;intro _ hw';obtain ⟨⟨dq,osq⟩,hw''⟩:=hw';subst hw'';have LQ:=L0.trans ((below_regrown W0 dq osq).mono L0.size);generalize Go.Sort.grow (redrawn W0 dq) osq=w4 at *;go_wp2;go_ret;exact ⟨Am HE.out.symm,LQ⟩
 ·skip
  have HE:Hid (A2 t c s ad pl n f m g=true):=by rw [HOK.out]; rfl
  go_enter Tryz.func50,Tryz.ntmps50
  go_upto_region 1 with (fail);rw [← hW0];clear hW0;refine wp_region_quiet_below (by kernel_rfl) (by kernel_rfl) ?_
  repeat (go_big_quiet_step (first | (go_at_call 52; first | with_reducible exact Calls.regrown_of (C2 _) | with_reducible exact Calls.regrown_of (C3 _)) | (go_at_call 94; first | with_reducible exact Calls.regrown_of (C4 _) | with_reducible exact Calls.regrown_of (C5 _)) | (go_at_call 95; first | with_reducible exact Calls.regrown_of (C6 _ _) | with_reducible exact Calls.regrown_of (C7 _ _)) | (go_at_call 96; exact Calls.regrown_of (C8 rfl rfl _))))
  refine wpQuiet_nil ?_;intro _ hw';obtain ⟨⟨dq,osq⟩,hw''⟩:=hw';subst hw'';have LQ:=L0.trans ((below_regrown W0 dq osq).mono L0.size);generalize Go.Sort.grow (redrawn W0 dq) osq=w4 at *;go_wp2;go_ret;exact ⟨Am HE.out.symm,LQ⟩
end Go.Proofs.YtjnjnppongdhgaaGreat
