import Derived.Test.YtgcmimcalmjaaaaGreatDoorWA
import Derived.Test.YtgcmimcalmjaaaaGreatDoorI5
import Derived.Test.YtgcmimcalmjaaaaGreatDoorKD
namespace Go.Proofs.YtgcmimcalmjaaaaGreatDoor
set_option maxHeartbeats 2000000
set_option maxRecDepth 20000
set_option linter.unusedVariables false
set_option linter.unusedSimpArgs false
open Go.ChangeShapes Go.WideShapes Go.ChangeAt Go.RowKit Go.Sort
theorem Cc:(Tryz.prog.info? 43).map (·.size)=some 8:=by kernel_rfl
theorem Ru (w:World) (z:Nat) (u:Value) (bank A X S Pc:Int) (Z N C I:Bool) (arg rd:Int) (k:w.heap[z]?=some (.cells (rR u bank A X S Pc Z N C I arg rd) 161 (0,0))) :
  Calls Tryz.prog 192 #[(pt z 0)] w fun e w'=>e=.returned (.tuple #[])∧w'.heap[z]?=some (.cells (rR u bank (arg%256) X S Pc (arg%256==0) (decide (127<arg%256)) C I arg rd) 161 (0,0))∧Wrote (fun b _=>b=z) w w':=by
 go_enter Tryz.func192,Tryz.ntmps192
 go_upto_region 0 with (fail)
 have cg:=fun d os=>Ag (Aa k (below_regrown w d os) (Ac k))
 refine A6 (n:=12) (by kernel_rfl) (by kernel_rfl) rfl ?_;simp only [List.take_succ_cons,List.take_zero]
 iterate 4 (go_big_quiet_step (fail))
 refine Bp _ _ rfl rfl z 2 (by go_simp) _ _ (cR A X S Pc Z N C I) _ _ k (Gu rfl rfl rfl rfl rfl rfl rfl rfl) Tryz.underlying43 rfl Cc ?_;simp only [Act.put,List.setIfInBounds_toArray,List.set_cons_succ,List.set_cons_zero]
 iterate 4 (go_big_quiet_step (fail))
 go_big_quiet_step ((go_at_call 228; exact Calls.regrown_of (Er _ A X S Pc Z N C I arg)))
 iterate 2 (go_big_quiet_step (fail))
 refine wpQuiet_nil ?_;intro w' hw';obtain ⟨⟨d,os⟩,rfl⟩:=hw';clear cg;have L:=below_regrown w d os;have rB:=Aa k L (Ac k);generalize grow (redrawn w d) os=W at *;refine Bg _ _ _ rfl z 2 (cR (arg%256) X S Pc (arg%256==0) (decide (127<arg%256)) C I) (by go_simp) (by go_simp) _ _ rB Cc (by show (2+8:Nat)≤12; omega) (by first | rfl | simp [Value.oneCell']) ?_;go_wp2
 go_end0
 exact ⟨rfl,setRow_heap _ _ _ _ _ _ rB,(Ab L _).trans (Ce rB _)⟩
theorem J1 (w:World) (z:Nat) (u:Value) (bank A X S Pc:Int) (Z N C I:Bool) (arg rd:Int) (k:w.heap[z]?=some (.cells (rR u bank A X S Pc Z N C I arg rd) 161 (0,0))) :
  Calls Tryz.prog 193 #[(pt z 0)] w fun e w'=>e=.returned (.tuple #[])∧w'.heap[z]?=some (.cells (rR u bank (rd%256) X S Pc (rd%256==0) (decide (127<rd%256)) C I arg rd) 161 (0,0))∧Wrote (fun b _=>b=z) w w':=by
 go_enter Tryz.func193,Tryz.ntmps193
 go_upto_region 0 with (fail)
 have cg:=fun d os=>Ag (Aa k (below_regrown w d os) (Ac k))
 refine A6 (n:=12) (by kernel_rfl) (by kernel_rfl) rfl ?_;simp only [List.take_succ_cons,List.take_zero]
 iterate 4 (go_big_quiet_step (fail))
 refine Bp _ _ rfl rfl z 2 (by go_simp) _ _ (cR A X S Pc Z N C I) _ _ k (Gu rfl rfl rfl rfl rfl rfl rfl rfl) Tryz.underlying43 rfl Cc ?_;simp only [Act.put,List.setIfInBounds_toArray,List.set_cons_succ,List.set_cons_zero]
 iterate 4 (go_big_quiet_step (fail))
 go_big_quiet_step ((go_at_call 228; exact Calls.regrown_of (Er _ A X S Pc Z N C I rd)))
 iterate 2 (go_big_quiet_step (fail))
 refine wpQuiet_nil ?_;intro w' hw';obtain ⟨⟨d,os⟩,rfl⟩:=hw';clear cg;have L:=below_regrown w d os;have rB:=Aa k L (Ac k);generalize grow (redrawn w d) os=W at *;refine Bg _ _ _ rfl z 2 (cR (rd%256) X S Pc (rd%256==0) (decide (127<rd%256)) C I) (by go_simp) (by go_simp) _ _ rB Cc (by show (2+8:Nat)≤12; omega) (by first | rfl | simp [Value.oneCell']) ?_;go_wp2
 go_end0
 exact ⟨rfl,setRow_heap _ _ _ _ _ _ rB,(Ab L _).trans (Ce rB _)⟩
theorem Jb (w:World) (z:Nat) (u:Value) (bank A X S Pc:Int) (Z N C I:Bool) (arg rd:Int) (sum:Int) (carry:Bool) (k:w.heap[z]?=some (.cells (rR u bank A X S Pc Z N C I arg rd) 161 (0,0))) :
  Calls Tryz.prog 229 #[(pt z 0),.i sum,.bool carry] w fun e w'=>e=.returned (.tuple #[])∧w'.heap[z]?=some (.cells (rR u bank (sum%256) X S Pc (sum%256==0) (decide (127<sum%256)) carry I arg rd) 161 (0,0))∧Wrote (fun b _=>b=z) w w':=by
 have c:=Ag k;have f:=As k
 go_enter Tryz.func229,Tryz.ntmps229
 go_wp2_with fail;refine (Er w A X S Pc Z N C I sum).mono ?_;rintro e W1 ⟨rfl,L⟩;have k1:=Aa k L (Ac k);clear c f;have c:=Ag k1;have f:=As k1;have HB:=Af (o:=8) (Af (o:=9) (Af (o:=8) (Af (o:=7) (Af (o:=6) (Af (o:=5) (Af (o:=4) (Af (o:=3) (Af (o:=2) (k1) (.i (sum%256))) (.i X)) (.i S)) (.i Pc)) (.bool (sum%256==0))) (.bool (decide (127<sum%256)))) (.bool C)) (.bool I)) (.bool carry);simp only [List.setIfInBounds_toArray,List.set_cons_succ,List.set_cons_zero] at HB
 have TT:=Ad (Wrote.setCell (b:=z) (o:=8) (R:=fun b _=>b=z) (Wrote.setCell (b:=z) (o:=9) (R:=fun b _=>b=z) (Wrote.setCell (b:=z) (o:=8) (R:=fun b _=>b=z) (Wrote.setCell (b:=z) (o:=7) (R:=fun b _=>b=z) (Wrote.setCell (b:=z) (o:=6) (R:=fun b _=>b=z) (Wrote.setCell (b:=z) (o:=5) (R:=fun b _=>b=z) (Wrote.setCell (b:=z) (o:=4) (R:=fun b _=>b=z) (Wrote.setCell (b:=z) (o:=3) (R:=fun b _=>b=z) (Wrote.setCell (b:=z) (o:=2) (R:=fun b _=>b=z) (Ab L (fun b _=>b=z)) (fun _=>rfl) (.i (sum%256))) (fun _=>rfl) (.i X)) (fun _=>rfl) (.i S)) (fun _=>rfl) (.i Pc)) (fun _=>rfl) (.bool (sum%256==0))) (fun _=>rfl) (.bool (decide (127<sum%256)))) (fun _=>rfl) (.bool C)) (fun _=>rfl) (.bool I)) (fun _=>rfl) (.bool carry));have HBB:=Ad HB;clear HB;go_wp2
 go_end0
 exact ⟨rfl,HBB.out,TT.out⟩
theorem Tv (w:World) (z:Nat) (u:Value) (bank A X S Pc:Int) (Z N C I:Bool) (arg rd:Int) (k:w.heap[z]?=some (.cells (rR u bank A X S Pc Z N C I arg rd) 161 (0,0))) :
  Calls Tryz.prog 194 #[(pt z 0)] w fun e w'=>e=.returned (.tuple #[])∧w'.heap[z]?=some (.cells (rR u bank (((A%256+arg%256+Av C)%256)%256) X S Pc (((A%256+arg%256+Av C)%256)%256==0) (decide (127<((A%256+arg%256+Av C)%256)%256)) (decide (255<A%256+arg%256+Av C)) I arg rd) 161 (0,0))∧Wrote (fun b _=>b=z) w w':=by
 obtain ⟨sm,hsm⟩:∃ x,Hid (x=(A%256+arg%256+Av C)%256):=⟨_,rfl⟩
 obtain ⟨ca,hca⟩:∃ x,Hid (x=decide (255<A%256+arg%256+Av C)):=⟨_,rfl⟩
 have HA:=Ad (fun W=>Qs A arg C W);rw [← hsm.out,← hca.out] at HA;rw [← hsm.out,← hca.out]
 go_enter Tryz.func194,Tryz.ntmps194
 go_upto_region 0 with (fail)
 have cg:=fun d os=>Ag (Aa k (below_regrown w d os) (Ac k))
 refine A6 (n:=18) (by kernel_rfl) (by kernel_rfl) rfl ?_;simp only [List.take_succ_cons,List.take_zero]
 iterate 15 (go_big_quiet_step (fail))
 go_big_quiet_step ((go_at_call 230; exact Calls.regrown_of ((HA.out _).mono fun e w' ⟨h1,h2⟩=>⟨h1,h2 ▸ Below.refl _ _⟩)))
 iterate 2 (go_big_quiet_step (fail))
 refine wpQuiet_nil ?_;intro w' hw';obtain ⟨⟨d,os⟩,rfl⟩:=hw';clear cg;have L:=below_regrown w d os;have rB:=Aa k L (Ac k);generalize grow (redrawn w d) os=W at *;go_simp;refine (Jb W z u bank A X S Pc Z N C I arg rd sm ca rB).mono ?_;rintro e W' ⟨rfl,kk,hW⟩;have KK:=Ad kk;have HW:=Ad ((Ab L _).trans hW);clear kk hW rB L;go_wp2
 go_end0
 exact ⟨rfl,KK.out,HW.out⟩
theorem Rv (w:World) (z:Nat) (u:Value) (bank A X S Pc:Int) (Z N C I:Bool) (arg rd:Int) (k:w.heap[z]?=some (.cells (rR u bank A X S Pc Z N C I arg rd) 161 (0,0))) :
  Calls Tryz.prog 216 #[(pt z 0)] w fun e w'=>e=.returned (.tuple #[])∧w'.heap[z]?=some (.cells (rR u bank (((A%256+rd%256+Av C)%256)%256) X S Pc (((A%256+rd%256+Av C)%256)%256==0) (decide (127<((A%256+rd%256+Av C)%256)%256)) (decide (255<A%256+rd%256+Av C)) I arg rd) 161 (0,0))∧Wrote (fun b _=>b=z) w w':=by
 obtain ⟨sm,hsm⟩:∃ x,Hid (x=(A%256+rd%256+Av C)%256):=⟨_,rfl⟩
 obtain ⟨ca,hca⟩:∃ x,Hid (x=decide (255<A%256+rd%256+Av C)):=⟨_,rfl⟩
 have HA:=Ad (fun W=>Qs A rd C W);rw [← hsm.out,← hca.out] at HA;rw [← hsm.out,← hca.out]
 go_enter Tryz.func216,Tryz.ntmps216
 go_upto_region 0 with (fail)
 have cg:=fun d os=>Ag (Aa k (below_regrown w d os) (Ac k))
 refine A6 (n:=18) (by kernel_rfl) (by kernel_rfl) rfl ?_;simp only [List.take_succ_cons,List.take_zero]
 iterate 15 (go_big_quiet_step (fail))
 go_big_quiet_step ((go_at_call 230; exact Calls.regrown_of ((HA.out _).mono fun e w' ⟨h1,h2⟩=>⟨h1,h2 ▸ Below.refl _ _⟩)))
 iterate 2 (go_big_quiet_step (fail))
 refine wpQuiet_nil ?_;intro w' hw';obtain ⟨⟨d,os⟩,rfl⟩:=hw';clear cg;have L:=below_regrown w d os;have rB:=Aa k L (Ac k);generalize grow (redrawn w d) os=W at *;go_simp;refine (Jb W z u bank A X S Pc Z N C I arg rd sm ca rB).mono ?_;rintro e W' ⟨rfl,kk,hW⟩;have KK:=Ad kk;have HW:=Ad ((Ab L _).trans hW);clear kk hW rB L;go_wp2
 go_end0
 exact ⟨rfl,KK.out,HW.out⟩
theorem Rw (w:World) (z:Nat) (u:Value) (bank A X S Pc:Int) (Z N C I:Bool) (arg rd:Int) (k:w.heap[z]?=some (.cells (rR u bank A X S Pc Z N C I arg rd) 161 (0,0))) :
  Calls Tryz.prog 195 #[(pt z 0)] w fun e w'=>e=.returned (.tuple #[])∧w'.heap[z]?=some (.cells (rR u bank (((A%256-arg%256-1+Av C)%256)%256) X S Pc (((A%256-arg%256-1+Av C)%256)%256==0) (decide (127<((A%256-arg%256-1+Av C)%256)%256)) (decide (0≤A%256-arg%256-1+Av C)) I arg rd) 161 (0,0))∧Wrote (fun b _=>b=z) w w':=by
 obtain ⟨sm,hsm⟩:∃ x,Hid (x=(A%256-arg%256-1+Av C)%256):=⟨_,rfl⟩
 obtain ⟨ca,hca⟩:∃ x,Hid (x=decide (0≤A%256-arg%256-1+Av C)):=⟨_,rfl⟩
 have HA:=Ad (fun W=>Qt A arg C W);rw [← hsm.out,← hca.out] at HA;rw [← hsm.out,← hca.out]
 go_enter Tryz.func195,Tryz.ntmps195
 go_upto_region 0 with (fail)
 have cg:=fun d os=>Ag (Aa k (below_regrown w d os) (Ac k))
 refine A6 (n:=18) (by kernel_rfl) (by kernel_rfl) rfl ?_;simp only [List.take_succ_cons,List.take_zero]
 iterate 15 (go_big_quiet_step (fail))
 go_big_quiet_step ((go_at_call 231; exact Calls.regrown_of ((HA.out _).mono fun e w' ⟨h1,h2⟩=>⟨h1,h2 ▸ Below.refl _ _⟩)))
 iterate 2 (go_big_quiet_step (fail))
 refine wpQuiet_nil ?_;intro w' hw';obtain ⟨⟨d,os⟩,rfl⟩:=hw';clear cg;have L:=below_regrown w d os;have rB:=Aa k L (Ac k);generalize grow (redrawn w d) os=W at *;go_simp;refine (Jb W z u bank A X S Pc Z N C I arg rd sm ca rB).mono ?_;rintro e W' ⟨rfl,kk,hW⟩;have KK:=Ad kk;have HW:=Ad ((Ab L _).trans hW);clear kk hW rB L;go_wp2
 go_end0
 exact ⟨rfl,KK.out,HW.out⟩
theorem Mx (w:World) (z:Nat) (u:Value) (bank A X S Pc:Int) (Z N C I:Bool) (arg rd:Int) (k:w.heap[z]?=some (.cells (rR u bank A X S Pc Z N C I arg rd) 161 (0,0))) :
  Calls Tryz.prog 196 #[(pt z 0)] w fun e w'=>e=.returned (.tuple #[])∧w'.heap[z]?=some (.cells (rR u bank ((bits .and .i64 A arg)%256) X S Pc ((bits .and .i64 A arg)%256==0) (decide (127<(bits .and .i64 A arg)%256)) C I arg rd) 161 (0,0))∧Wrote (fun b _=>b=z) w w':=by
 go_enter Tryz.func196,Tryz.ntmps196
 go_upto_region 0 with (fail)
 have cg:=fun d os=>Ag (Aa k (below_regrown w d os) (Ac k))
 refine A6 (n:=18) (by kernel_rfl) (by kernel_rfl) rfl ?_;simp only [List.take_succ_cons,List.take_zero]
 iterate 4 (go_big_quiet_step (fail))
 refine Bp _ _ rfl rfl z 2 (by go_simp) _ _ (cR A X S Pc Z N C I) _ _ k (Gu rfl rfl rfl rfl rfl rfl rfl rfl) Tryz.underlying43 rfl Cc ?_;simp only [Act.put,List.setIfInBounds_toArray,List.set_cons_succ,List.set_cons_zero]
 iterate 10 (go_big_quiet_step (fail))
 go_big_quiet_step ((go_at_call 228; exact Calls.regrown_of (Er _ A X S Pc Z N C I (bits .and .i64 A arg))))
 iterate 2 (go_big_quiet_step (fail))
 refine wpQuiet_nil ?_;intro w' hw';obtain ⟨⟨d,os⟩,rfl⟩:=hw';clear cg;have L:=below_regrown w d os;have rB:=Aa k L (Ac k);generalize grow (redrawn w d) os=W at *;refine Bg _ _ _ rfl z 2 (cR ((bits .and .i64 A arg)%256) X S Pc ((bits .and .i64 A arg)%256==0) (decide (127<(bits .and .i64 A arg)%256)) C I) (by go_simp) (by go_simp) _ _ rB Cc (by show (2+8:Nat)≤12; omega) (by first | rfl | simp [Value.oneCell']) ?_;go_wp2
 go_end0
 exact ⟨rfl,setRow_heap _ _ _ _ _ _ rB,(Ab L _).trans (Ce rB _)⟩
theorem N1 (w:World) (z:Nat) (u:Value) (bank A X S Pc:Int) (Z N C I:Bool) (arg rd:Int) (k:w.heap[z]?=some (.cells (rR u bank A X S Pc Z N C I arg rd) 161 (0,0))) :
  Calls Tryz.prog 197 #[(pt z 0)] w fun e w'=>e=.returned (.tuple #[])∧w'.heap[z]?=some (.cells (rR u bank ((bits .or .i64 A arg)%256) X S Pc ((bits .or .i64 A arg)%256==0) (decide (127<(bits .or .i64 A arg)%256)) C I arg rd) 161 (0,0))∧Wrote (fun b _=>b=z) w w':=by
 go_enter Tryz.func197,Tryz.ntmps197
 go_upto_region 0 with (fail)
 have cg:=fun d os=>Ag (Aa k (below_regrown w d os) (Ac k))
 refine A6 (n:=18) (by kernel_rfl) (by kernel_rfl) rfl ?_;simp only [List.take_succ_cons,List.take_zero]
 iterate 4 (go_big_quiet_step (fail))
 refine Bp _ _ rfl rfl z 2 (by go_simp) _ _ (cR A X S Pc Z N C I) _ _ k (Gu rfl rfl rfl rfl rfl rfl rfl rfl) Tryz.underlying43 rfl Cc ?_;simp only [Act.put,List.setIfInBounds_toArray,List.set_cons_succ,List.set_cons_zero]
 iterate 10 (go_big_quiet_step (fail))
 go_big_quiet_step ((go_at_call 228; exact Calls.regrown_of (Er _ A X S Pc Z N C I (bits .or .i64 A arg))))
 iterate 2 (go_big_quiet_step (fail))
 refine wpQuiet_nil ?_;intro w' hw';obtain ⟨⟨d,os⟩,rfl⟩:=hw';clear cg;have L:=below_regrown w d os;have rB:=Aa k L (Ac k);generalize grow (redrawn w d) os=W at *;refine Bg _ _ _ rfl z 2 (cR ((bits .or .i64 A arg)%256) X S Pc ((bits .or .i64 A arg)%256==0) (decide (127<(bits .or .i64 A arg)%256)) C I) (by go_simp) (by go_simp) _ _ rB Cc (by show (2+8:Nat)≤12; omega) (by first | rfl | simp [Value.oneCell']) ?_;go_wp2
 go_end0
 exact ⟨rfl,setRow_heap _ _ _ _ _ _ rB,(Ab L _).trans (Ce rB _)⟩
theorem J2 (w:World) (z:Nat) (u:Value) (bank A X S Pc:Int) (Z N C I:Bool) (arg rd:Int) (k:w.heap[z]?=some (.cells (rR u bank A X S Pc Z N C I arg rd) 161 (0,0))) :
  Calls Tryz.prog 198 #[(pt z 0)] w fun e w'=>e=.returned (.tuple #[])∧w'.heap[z]?=some (.cells (rR u bank ((bits .xor .i64 A arg)%256) X S Pc ((bits .xor .i64 A arg)%256==0) (decide (127<(bits .xor .i64 A arg)%256)) C I arg rd) 161 (0,0))∧Wrote (fun b _=>b=z) w w':=by
 go_enter Tryz.func198,Tryz.ntmps198
 go_upto_region 0 with (fail)
 have cg:=fun d os=>Ag (Aa k (below_regrown w d os) (Ac k))
 refine A6 (n:=18) (by kernel_rfl) (by kernel_rfl) rfl ?_;simp only [List.take_succ_cons,List.take_zero]
 iterate 4 (go_big_quiet_step (fail))
 refine Bp _ _ rfl rfl z 2 (by go_simp) _ _ (cR A X S Pc Z N C I) _ _ k (Gu rfl rfl rfl rfl rfl rfl rfl rfl) Tryz.underlying43 rfl Cc ?_;simp only [Act.put,List.setIfInBounds_toArray,List.set_cons_succ,List.set_cons_zero]
 iterate 10 (go_big_quiet_step (fail))
 go_big_quiet_step ((go_at_call 228; exact Calls.regrown_of (Er _ A X S Pc Z N C I (bits .xor .i64 A arg))))
 iterate 2 (go_big_quiet_step (fail))
 refine wpQuiet_nil ?_;intro w' hw';obtain ⟨⟨d,os⟩,rfl⟩:=hw';clear cg;have L:=below_regrown w d os;have rB:=Aa k L (Ac k);generalize grow (redrawn w d) os=W at *;refine Bg _ _ _ rfl z 2 (cR ((bits .xor .i64 A arg)%256) X S Pc ((bits .xor .i64 A arg)%256==0) (decide (127<(bits .xor .i64 A arg)%256)) C I) (by go_simp) (by go_simp) _ _ rB Cc (by show (2+8:Nat)≤12; omega) (by first | rfl | simp [Value.oneCell']) ?_;go_wp2
 go_end0
 exact ⟨rfl,setRow_heap _ _ _ _ _ _ rB,(Ab L _).trans (Ce rB _)⟩
theorem Qh (w:World) (z:Nat) (u:Value) (bank A X S Pc:Int) (Z N C I:Bool) (arg rd:Int) (k:w.heap[z]?=some (.cells (rR u bank A X S Pc Z N C I arg rd) 161 (0,0))) :
  Calls Tryz.prog 200 #[(pt z 0)] w fun e w'=>e=.returned (.tuple #[])∧w'.heap[z]?=some (.cells (rR u bank A (A%256) S Pc (A%256==0) (decide (127<A%256)) C I arg rd) 161 (0,0))∧Wrote (fun b _=>b=z) w w':=by
 go_enter Tryz.func200,Tryz.ntmps200
 go_upto_region 0 with (fail)
 have cg:=fun d os=>Ag (Aa k (below_regrown w d os) (Ac k))
 refine A6 (n:=13) (by kernel_rfl) (by kernel_rfl) rfl ?_;simp only [List.take_succ_cons,List.take_zero]
 iterate 4 (go_big_quiet_step (fail))
 refine Bp _ _ rfl rfl z 2 (by go_simp) _ _ (cR A X S Pc Z N C I) _ _ k (Gu rfl rfl rfl rfl rfl rfl rfl rfl) Tryz.underlying43 rfl Cc ?_;simp only [Act.put,List.setIfInBounds_toArray,List.set_cons_succ,List.set_cons_zero]
 iterate 5 (go_big_quiet_step (fail))
 go_big_quiet_step ((go_at_call 233; exact Calls.regrown_of (Ll _ A X S Pc Z N C I A)))
 iterate 2 (go_big_quiet_step (fail))
 refine wpQuiet_nil ?_;intro w' hw';obtain ⟨⟨d,os⟩,rfl⟩:=hw';clear cg;have L:=below_regrown w d os;have rB:=Aa k L (Ac k);generalize grow (redrawn w d) os=W at *;refine Bg _ _ _ rfl z 2 (cR A (A%256) S Pc (A%256==0) (decide (127<A%256)) C I) (by go_simp) (by go_simp) _ _ rB Cc (by show (2+8:Nat)≤12; omega) (by first | rfl | simp [Value.oneCell']) ?_;go_wp2
 go_end0
 exact ⟨rfl,setRow_heap _ _ _ _ _ _ rB,(Ab L _).trans (Ce rB _)⟩
theorem Qi (w:World) (z:Nat) (u:Value) (bank A X S Pc:Int) (Z N C I:Bool) (arg rd:Int) (k:w.heap[z]?=some (.cells (rR u bank A X S Pc Z N C I arg rd) 161 (0,0))) :
  Calls Tryz.prog 201 #[(pt z 0)] w fun e w'=>e=.returned (.tuple #[])∧w'.heap[z]?=some (.cells (rR u bank (X%256) X S Pc (X%256==0) (decide (127<X%256)) C I arg rd) 161 (0,0))∧Wrote (fun b _=>b=z) w w':=by
 go_enter Tryz.func201,Tryz.ntmps201
 go_upto_region 0 with (fail)
 have cg:=fun d os=>Ag (Aa k (below_regrown w d os) (Ac k))
 refine A6 (n:=13) (by kernel_rfl) (by kernel_rfl) rfl ?_;simp only [List.take_succ_cons,List.take_zero]
 iterate 4 (go_big_quiet_step (fail))
 refine Bp _ _ rfl rfl z 2 (by go_simp) _ _ (cR A X S Pc Z N C I) _ _ k (Gu rfl rfl rfl rfl rfl rfl rfl rfl) Tryz.underlying43 rfl Cc ?_;simp only [Act.put,List.setIfInBounds_toArray,List.set_cons_succ,List.set_cons_zero]
 iterate 5 (go_big_quiet_step (fail))
 go_big_quiet_step ((go_at_call 228; exact Calls.regrown_of (Er _ A X S Pc Z N C I X)))
 iterate 2 (go_big_quiet_step (fail))
 refine wpQuiet_nil ?_;intro w' hw';obtain ⟨⟨d,os⟩,rfl⟩:=hw';clear cg;have L:=below_regrown w d os;have rB:=Aa k L (Ac k);generalize grow (redrawn w d) os=W at *;refine Bg _ _ _ rfl z 2 (cR (X%256) X S Pc (X%256==0) (decide (127<X%256)) C I) (by go_simp) (by go_simp) _ _ rB Cc (by show (2+8:Nat)≤12; omega) (by first | rfl | simp [Value.oneCell']) ?_;go_wp2
 go_end0
 exact ⟨rfl,setRow_heap _ _ _ _ _ _ rB,(Ab L _).trans (Ce rB _)⟩
theorem Qj (w:World) (z:Nat) (u:Value) (bank A X S Pc:Int) (Z N C I:Bool) (arg rd:Int) (k:w.heap[z]?=some (.cells (rR u bank A X S Pc Z N C I arg rd) 161 (0,0))) :
  Calls Tryz.prog 202 #[(pt z 0)] w fun e w'=>e=.returned (.tuple #[])∧w'.heap[z]?=some (.cells (rR u bank A ((IntKind.i64.wrap (X+1))%256) S Pc ((IntKind.i64.wrap (X+1))%256==0) (decide (127<(IntKind.i64.wrap (X+1))%256)) C I arg rd) 161 (0,0))∧Wrote (fun b _=>b=z) w w':=by
 rw [show IntKind.i64.wrap (X+1)=wrap64 (X+1) from IntWalk.i64_left _]
 go_enter Tryz.func202,Tryz.ntmps202
 go_upto_region 0 with (fail)
 have cg:=fun d os=>Ag (Aa k (below_regrown w d os) (Ac k))
 refine A6 (n:=14) (by kernel_rfl) (by kernel_rfl) rfl ?_;simp only [List.take_succ_cons,List.take_zero]
 iterate 4 (go_big_quiet_step (fail))
 refine Bp _ _ rfl rfl z 2 (by go_simp) _ _ (cR A X S Pc Z N C I) _ _ k (Gu rfl rfl rfl rfl rfl rfl rfl rfl) Tryz.underlying43 rfl Cc ?_;simp only [Act.put,List.setIfInBounds_toArray,List.set_cons_succ,List.set_cons_zero]
 iterate 6 (go_big_quiet_step (fail))
 go_big_quiet_step ((go_at_call 233; exact Calls.regrown_of (Ll _ A X S Pc Z N C I _)))
 iterate 2 (go_big_quiet_step (fail))
 refine wpQuiet_nil ?_;intro w' hw';obtain ⟨⟨d,os⟩,rfl⟩:=hw';clear cg;have L:=below_regrown w d os;have rB:=Aa k L (Ac k);generalize grow (redrawn w d) os=W at *;refine Bg _ _ _ rfl z 2 (cR A ((wrap64 (X+1))%256) S Pc ((wrap64 (X+1))%256==0) (decide (127<(wrap64 (X+1))%256)) C I) (by go_simp) (by go_simp) _ _ rB Cc (by show (2+8:Nat)≤12; omega) (by first | rfl | simp [Value.oneCell']) ?_;go_wp2
 go_end0
 exact ⟨rfl,setRow_heap _ _ _ _ _ _ rB,(Ab L _).trans (Ce rB _)⟩
theorem Qk (w:World) (z:Nat) (u:Value) (bank A X S Pc:Int) (Z N C I:Bool) (arg rd:Int) (k:w.heap[z]?=some (.cells (rR u bank A X S Pc Z N C I arg rd) 161 (0,0))) :
  Calls Tryz.prog 203 #[(pt z 0)] w fun e w'=>e=.returned (.tuple #[])∧w'.heap[z]?=some (.cells (rR u bank A ((IntKind.i64.wrap (X-1))%256) S Pc ((IntKind.i64.wrap (X-1))%256==0) (decide (127<(IntKind.i64.wrap (X-1))%256)) C I arg rd) 161 (0,0))∧Wrote (fun b _=>b=z) w w':=by
 rw [show IntKind.i64.wrap (X-1)=wrap64 (X-1) from IntWalk.i64_left _]
 go_enter Tryz.func203,Tryz.ntmps203
 go_upto_region 0 with (fail)
 have cg:=fun d os=>Ag (Aa k (below_regrown w d os) (Ac k))
 refine A6 (n:=14) (by kernel_rfl) (by kernel_rfl) rfl ?_;simp only [List.take_succ_cons,List.take_zero]
 iterate 4 (go_big_quiet_step (fail))
 refine Bp _ _ rfl rfl z 2 (by go_simp) _ _ (cR A X S Pc Z N C I) _ _ k (Gu rfl rfl rfl rfl rfl rfl rfl rfl) Tryz.underlying43 rfl Cc ?_;simp only [Act.put,List.setIfInBounds_toArray,List.set_cons_succ,List.set_cons_zero]
 iterate 6 (go_big_quiet_step (fail))
 go_big_quiet_step ((go_at_call 233; exact Calls.regrown_of (Ll _ A X S Pc Z N C I _)))
 iterate 2 (go_big_quiet_step (fail))
 refine wpQuiet_nil ?_;intro w' hw';obtain ⟨⟨d,os⟩,rfl⟩:=hw';clear cg;have L:=below_regrown w d os;have rB:=Aa k L (Ac k);generalize grow (redrawn w d) os=W at *;refine Bg _ _ _ rfl z 2 (cR A ((wrap64 (X-1))%256) S Pc ((wrap64 (X-1))%256==0) (decide (127<(wrap64 (X-1))%256)) C I) (by go_simp) (by go_simp) _ _ rB Cc (by show (2+8:Nat)≤12; omega) (by first | rfl | simp [Value.oneCell']) ?_;go_wp2
 go_end0
 exact ⟨rfl,setRow_heap _ _ _ _ _ _ rB,(Ab L _).trans (Ce rB _)⟩
theorem Kt (w:World) (z:Nat) (u:Value) (bank A X S Pc:Int) (Z N C I:Bool) (arg rd:Int) (k:w.heap[z]?=some (.cells (rR u bank A X S Pc Z N C I arg rd) 161 (0,0))) :
  Calls Tryz.prog 154 #[(pt z 0)] w fun e w'=>e=.returned (.tuple #[])∧w'.heap[z]?=some (.cells (rR u bank A X S Pc Z N C true arg rd) 161 (0,0))∧Wrote (fun b _=>b=z) w w':=by
 have c:=Ag k;have f:=As k
 go_enter Tryz.func154,Tryz.ntmps154
 have HB:=Af (o:=9) (k) (.bool true);simp only [List.setIfInBounds_toArray,List.set_cons_succ,List.set_cons_zero] at HB;have TT:=Ad (Wrote.setCell (b:=z) (o:=9) (R:=fun b _=>b=z) (Wrote.refl (fun b _=>b=z) w) (fun _=>rfl) (.bool true));have HBB:=Ad HB;clear HB;go_wp2
 go_end0
 exact ⟨rfl,HBB.out,TT.out⟩
theorem N2 (w:World) (z:Nat) (u:Value) (bank A X S Pc:Int) (Z N C I:Bool) (arg rd:Int) (k:w.heap[z]?=some (.cells (rR u bank A X S Pc Z N C I arg rd) 161 (0,0))) :
  Calls Tryz.prog 213 #[(pt z 0)] w fun e w'=>e=.returned (.tuple #[])∧w'.heap[z]?=some (.cells (rR u bank A X S Pc Z N C false arg rd) 161 (0,0))∧Wrote (fun b _=>b=z) w w':=by
 have c:=Ag k;have f:=As k
 go_enter Tryz.func213,Tryz.ntmps213
 have HB:=Af (o:=9) (k) (.bool false);simp only [List.setIfInBounds_toArray,List.set_cons_succ,List.set_cons_zero] at HB;have TT:=Ad (Wrote.setCell (b:=z) (o:=9) (R:=fun b _=>b=z) (Wrote.refl (fun b _=>b=z) w) (fun _=>rfl) (.bool false));have HBB:=Ad HB;clear HB;go_wp2
 go_end0
 exact ⟨rfl,HBB.out,TT.out⟩
theorem Ql (w:World) (z:Nat) (u:Value) (bank A X S Pc:Int) (Z N C I:Bool) (arg rd:Int) (k:w.heap[z]?=some (.cells (rR u bank A X S Pc Z N C I arg rd) 161 (0,0))) :
  Calls Tryz.prog 214 #[(pt z 0)] w fun e w'=>e=.returned (.tuple #[])∧w'.heap[z]?=some (.cells (rR u bank A X S Pc Z N true I arg rd) 161 (0,0))∧Wrote (fun b _=>b=z) w w':=by
 have c:=Ag k;have f:=As k
 go_enter Tryz.func214,Tryz.ntmps214
 have HB:=Af (o:=8) (k) (.bool true);simp only [List.setIfInBounds_toArray,List.set_cons_succ,List.set_cons_zero] at HB;have TT:=Ad (Wrote.setCell (b:=z) (o:=8) (R:=fun b _=>b=z) (Wrote.refl (fun b _=>b=z) w) (fun _=>rfl) (.bool true));have HBB:=Ad HB;clear HB;go_wp2
 go_end0
 exact ⟨rfl,HBB.out,TT.out⟩
theorem My (w:World) (z:Nat) (u:Value) (bank A X S Pc:Int) (Z N C I:Bool) (arg rd:Int) (k:w.heap[z]?=some (.cells (rR u bank A X S Pc Z N C I arg rd) 161 (0,0))) :
  Calls Tryz.prog 215 #[(pt z 0)] w fun e w'=>e=.returned (.tuple #[])∧w'.heap[z]?=some (.cells (rR u bank A X S Pc Z N false I arg rd) 161 (0,0))∧Wrote (fun b _=>b=z) w w':=by
 have c:=Ag k;have f:=As k
 go_enter Tryz.func215,Tryz.ntmps215
 have HB:=Af (o:=8) (k) (.bool false);simp only [List.setIfInBounds_toArray,List.set_cons_succ,List.set_cons_zero] at HB;have TT:=Ad (Wrote.setCell (b:=z) (o:=8) (R:=fun b _=>b=z) (Wrote.refl (fun b _=>b=z) w) (fun _=>rfl) (.bool false));have HBB:=Ad HB;clear HB;go_wp2
 go_end0
 exact ⟨rfl,HBB.out,TT.out⟩
theorem Mz (w:World) (z:Nat) (u:Value) (bank A X S Pc:Int) (Z N C I:Bool) (arg rd:Int) (k:w.heap[z]?=some (.cells (rR u bank A X S Pc Z N C I arg rd) 161 (0,0))) :
  Calls Tryz.prog 207 #[(pt z 0)] w fun e w'=>e=.returned (.tuple #[])∧w'.heap[z]?=some (.cells (rR u bank A X S (arg%65536) Z N C I arg rd) 161 (0,0))∧Wrote (fun b _=>b=z) w w':=by
 have c:=Ag k;have f:=As k
 go_enter Tryz.func207,Tryz.ntmps207
 go_wp2_with fail;refine (Gh arg w).mono ?_;rintro e W1 ⟨rfl,hW1⟩;rw [hW1];clear hW1 W1;have HB:=Af (o:=5) (k) (.i (arg%65536));simp only [List.setIfInBounds_toArray,List.set_cons_succ,List.set_cons_zero] at HB;have TT:=Ad (Wrote.setCell (b:=z) (o:=5) (R:=fun b _=>b=z) (Wrote.refl (fun b _=>b=z) w) (fun _=>rfl) (.i (arg%65536)));have HBB:=Ad HB;clear HB;go_wp2
 go_end0
 exact ⟨rfl,HBB.out,TT.out⟩
theorem Jc (w:World) (z:Nat) (u:Value) (bank A X S Pc:Int) (Z N C I:Bool) (arg rd:Int) (so:Bool) (k:w.heap[z]?=some (.cells (rR u bank A X S Pc Z N C I arg rd) 161 (0,0))) :
  Calls Tryz.prog 234 #[(pt z 0),.bool so] w fun e w'=>e=.returned (.tuple #[])∧w'.heap[z]?=some (.cells (rR u bank A X S (if so=true then arg%65536 else Pc) Z N C I arg rd) 161 (0,0))∧Wrote (fun b _=>b=z) w w':=by
 have c:=Ag k;have f:=As k
 go_enter Tryz.func234,Tryz.ntmps234
 cases so
 ·go_wp2
  go_end0
  exact ⟨rfl,k,Wrote.refl _ _⟩
 ·go_wp2_with fail
  refine (Mz w z u bank A X S Pc Z N C I arg rd k).mono ?_;rintro e W1 ⟨rfl,kk,hW⟩;have KK:=Ad kk;have HW:=Ad hW;clear kk hW c f;go_wp2
  go_end0
  exact ⟨rfl,KK.out,HW.out⟩
theorem Kw (w:World) (z:Nat) (u:Value) (bank A X S Pc:Int) (Z N C I:Bool) (arg rd:Int) (k:w.heap[z]?=some (.cells (rR u bank A X S Pc Z N C I arg rd) 161 (0,0))) :
  Calls Tryz.prog 204 #[(pt z 0)] w fun e w'=>e=.returned (.tuple #[])∧w'.heap[z]?=some (.cells (rR u bank A X S (if (!Z)=true then arg%65536 else Pc) Z N C I arg rd) 161 (0,0))∧Wrote (fun b _=>b=z) w w':=by
 obtain ⟨pj,hpj⟩:∃ x:Int,Hid (x=if (!Z)=true then arg%65536 else Pc):=⟨_,rfl⟩
 have HJ:=Ad (Jc w z u bank A X S Pc Z N C I arg rd (!Z) k);rw [← hpj.out] at HJ ⊢;clear hpj;have c:=Ag k;have f:=As k
 go_enter Tryz.func204,Tryz.ntmps204
 go_wp2_with fail;refine HJ.out.mono ?_;rintro e W1 ⟨rfl,kk,hW⟩;have KK:=Ad kk;have HW:=Ad hW;clear kk hW c f;go_wp2
 go_end0
 exact ⟨rfl,KK.out,HW.out⟩
theorem Qm (w:World) (z:Nat) (u:Value) (bank A X S Pc:Int) (Z N C I:Bool) (arg rd:Int) (k:w.heap[z]?=some (.cells (rR u bank A X S Pc Z N C I arg rd) 161 (0,0))) :
  Calls Tryz.prog 205 #[(pt z 0)] w fun e w'=>e=.returned (.tuple #[])∧w'.heap[z]?=some (.cells (rR u bank A X S (if (Z)=true then arg%65536 else Pc) Z N C I arg rd) 161 (0,0))∧Wrote (fun b _=>b=z) w w':=by
 obtain ⟨pj,hpj⟩:∃ x:Int,Hid (x=if (Z)=true then arg%65536 else Pc):=⟨_,rfl⟩
 have HJ:=Ad (Jc w z u bank A X S Pc Z N C I arg rd (Z) k);rw [← hpj.out] at HJ ⊢;clear hpj;have c:=Ag k;have f:=As k
 go_enter Tryz.func205,Tryz.ntmps205
 go_wp2_with fail;refine HJ.out.mono ?_;rintro e W1 ⟨rfl,kk,hW⟩;have KK:=Ad kk;have HW:=Ad hW;clear kk hW c f;go_wp2
 go_end0
 exact ⟨rfl,KK.out,HW.out⟩
theorem N3 (w:World) (z:Nat) (u:Value) (bank A X S Pc:Int) (Z N C I:Bool) (arg rd:Int) (k:w.heap[z]?=some (.cells (rR u bank A X S Pc Z N C I arg rd) 161 (0,0))) :
  Calls Tryz.prog 206 #[(pt z 0)] w fun e w'=>e=.returned (.tuple #[])∧w'.heap[z]?=some (.cells (rR u bank A X S (if (C)=true then arg%65536 else Pc) Z N C I arg rd) 161 (0,0))∧Wrote (fun b _=>b=z) w w':=by
 obtain ⟨pj,hpj⟩:∃ x:Int,Hid (x=if (C)=true then arg%65536 else Pc):=⟨_,rfl⟩
 have HJ:=Ad (Jc w z u bank A X S Pc Z N C I arg rd (C) k);rw [← hpj.out] at HJ ⊢;clear hpj;have c:=Ag k;have f:=As k
 go_enter Tryz.func206,Tryz.ntmps206
 go_wp2_with fail;refine HJ.out.mono ?_;rintro e W1 ⟨rfl,kk,hW⟩;have KK:=Ad kk;have HW:=Ad hW;clear kk hW c f;go_wp2
 go_end0
 exact ⟨rfl,KK.out,HW.out⟩
set_option maxHeartbeats 2000000
def D7 (g:Nat→Int) (S:Int):Int:=g (256+(Eb S).toNat)
theorem Jd {g:Nat→Int} {S v:Int} (h:isRow 512 g 512=true):isRow 512 (B7 g S v) 512=true:=by
 rw [E9 (by rfl)];refine Lh (fun j hj=>?_);have h1:=(Ls h).2 j hj;unfold B7 Fh
 by_cases e:j=256+(S%256).toNat
 ·rw [if_pos e]; unfold Cs; simp; omega
 ·rw [if_neg e]; unfold Cs; simp; omega
theorem Ex {w:World} {lo n:Nat} {v:Value} {f:Nat→Int} (h:Am w lo v n f):Ints .i64 w (fun _ _=>True) v n f:=by
 obtain ⟨a,cap,h1,h2,h3,h4,h5⟩:=h.ex;exact ⟨a,cap,h1,h2,h3,fun _ _ _=>trivial⟩
theorem Dl {w:World} {lo lo' n:Nat} {v:Value} {f:Nat→Int} (h:Am w lo v n f) (hl:lo'≤lo):Am w lo' v n f:=by
 obtain ⟨a,cap,h1,h2,h3,h4,h5⟩:=h.ex;exact ⟨⟨a,cap,h1,h2,h3,h4,fun b o h=>Nat.le_trans hl (h5 b o h)⟩⟩
theorem J3 (w:World) (z:Nat) (u:Value) (bank A X S Pc:Int) (Z N C I:Bool) (arg rd:Int) (G:Nat→Nat→Prop) (g:Nat→Int) (vv:Int) (k:w.heap[z]?=some (.cells (rR u bank A X S Pc Z N C I arg rd) 161 (0,0))) (K:Ints .i64 w G u 512 g) (hb:isRow 512 g 512=true) :
  Calls Tryz.prog 152 #[(pt z 0),.i vv] w fun e w'=>e=.returned (.tuple #[])∧∃ u',w'.heap[z]?=some (.cells (rR u' bank A X (dec8 S) Pc Z N C I arg rd) 161 (0,0))∧Am w' w.heap.size u' 512 (B7 g S vv)∧Wrote (fun b _=>b=z) w w':=by
 have hz:=Ac k
 obtain ⟨sD,hsD⟩:∃ x,Hid (x=dec8 S):=⟨_,rfl⟩
 obtain ⟨gP,hgP⟩:∃ x,Hid (x=B7 g S vv):=⟨_,rfl⟩
 have HP:=Ad (fun W (KW:Ints .i64 W G u 512 g)=>Zm W G u g bank KW hb A X S Pc Z N C I vv);rw [← hsD.out,← hgP.out] at HP;rw [← hsD.out,← hgP.out];clear hsD hgP hb
 go_enter Tryz.func152,Tryz.ntmps152
 go_upto_region 0 with (fail)
 refine Bz [some 5,some 6,some 7,some 8,some 9,some 10,some 11,some 12,some 13,some 14,some 15,some 16,some 4,some 17,some 18,some 19,some 20,none,some 21,some 22,none] (by kernel_rfl) (by kernel_rfl) (by kernel_rfl) (by kernel_rfl) (by first | (simp [slotsOf]; done) | (simp [slotsOf,Act.put]; done)) [(17,20)]
  (fun j b _=>(j=17∧b=z)∨(j=20∧b=z))
  (fun i V W=>match i with
   | 0=>V 0=(pt z 0)
   | 1=>V 1=(pt z 0)
   | 2=>V 2=(pt z 0)
   | 3=>V 3=(pt z 0)
   | 4=>V 4=(pt z 0)
   | 5=>V 5=.agg #[u,.i bank]
   | 6=>V 6=(pt z 0)
   | 7=>V 7=(pt z 0)
   | 8=>V 8=(pt z 2)
   | 9=>V 9=.agg (cR A X S Pc Z N C I)
   | 10=>V 10=.i vv
   | 11=>∃ u',V 11=.tuple #[.agg #[u',.i bank],.agg (cR A X sD Pc Z N C I)]∧Am W w.heap.size u' 512 gP
   | 12=>∃ u',V 12=.tuple #[.agg #[u',.i bank],.agg (cR A X sD Pc Z N C I)]∧Am W w.heap.size u' 512 gP
   | 13=>∃ u',V 13=.agg #[u',.i bank]∧Am W w.heap.size u' 512 gP
   | 14=>V 14=.agg (cR A X sD Pc Z N C I)
   | 15=>V 15=(pt z 0)
   | 16=>V 16=(pt z 0)
   | 17=>∃ u',W.heap[z]?=some (.cells (rR u' bank A X S Pc Z N C I arg rd) 161 (0,0))∧Am W w.heap.size u' 512 gP
   | 18=>V 18=(pt z 0)
   | 19=>V 19=(pt z 2)
   | _=>∃ u',W.heap[z]?=some (.cells (rR u' bank A X sD Pc Z N C I arg rd) 161 (0,0))∧Am W w.heap.size u' 512 gP) ?_ ?_ ?_
 ·intro i j o V x W W' hij ho hnd hW h
  rcases i with _|_|_|_|_|_|_|_|_|_|_|_|_|_|_|_|_|_|_|_|_|i
  all_goals try exact (Ar V x hij).trans h
  ·obtain ⟨u',h1,O⟩:=h
   exact ⟨u',(Ar V x hij).trans h1,O.away hW (fun b' o h1 h2 e=>by omega)⟩
  ·obtain ⟨u',h1,O⟩:=h
   exact ⟨u',(Ar V x hij).trans h1,O.away hW (fun b' o h1 h2 e=>by omega)⟩
  ·obtain ⟨u',h1,O⟩:=h
   exact ⟨u',(Ar V x hij).trans h1,O.away hW (fun b' o h1 h2 e=>by omega)⟩
  ·obtain ⟨u',h1,O⟩:=h
   exact ⟨u',Ak h1 hW (fun o e=>by simp at hnd; omega),O.away hW (fun b' o h1 h2 e=>by omega)⟩
  ·obtain ⟨u',h1,O⟩:=h
   exact ⟨u',Ak h1 hW (fun o e=>by rcases e with ⟨rfl,e⟩ | ⟨rfl,e⟩ <;> first | omega | (simp only [List.getElem?_toArray,List.getElem?_cons_zero,List.getElem?_cons_succ,Option.some.injEq] at ho; subst ho; cases hnd.1.symm.trans (show A0 _ 17=true by kernel_rfl))),O.away hW (fun b' o h1 h2 e=>by omega)⟩
  all_goals simp at ho
 ·intro i o a' W K8 ho F L hw hK
  match i with
  | 0 =>
   cases ho;have t0:=F.get (t:=0) (v:=(pt z 0)) (by decide) rfl;go_simp;exact Hk hK (Ai _ _ _)
  | 1 =>
   cases ho;have t0:=F.get (t:=0) (v:=(pt z 0)) (by decide) rfl;go_simp;exact Hk hK (Ai _ _ _)
  | 2 =>
   cases ho;have t0:=F.get (t:=0) (v:=(pt z 0)) (by decide) rfl;go_simp;exact Hk hK (Ai _ _ _)
  | 3 =>
   cases ho;have q2:tv a' 7=_:=Hq hw 2;go_simp;exact Hk hK (Ai _ _ _)
  | 4 =>
   cases ho;have q3:tv a' 8=_:=Hq hw 3;go_simp;exact Hk hK (Ai _ _ _)
  | 5 =>
   cases ho;have q4:tv a' 9=_:=Hq hw 4;have rB:=Ak k L (fun o ⟨j,oj,hj,hoj,hwj,e⟩=>by rcases e with ⟨rfl,e⟩ | ⟨rfl,e⟩ <;> first | omega | (cases hwj.symm.trans (show Bb _ 6 _ 5=true by kernel_rfl)));have rb:=Ag rB;go_simp;exact Hk hK (Ai _ _ _)
  | 6 =>
   cases ho;have t0:=F.get (t:=0) (v:=(pt z 0)) (by decide) rfl;go_simp;exact Hk hK (Ai _ _ _)
  | 7 =>
   cases ho;have q6:tv a' 11=_:=Hq hw 6;go_simp;exact Hk hK (Ai _ _ _)
  | 8 =>
   cases ho;have q7:tv a' 12=_:=Hq hw 7;go_simp;exact Hk hK (Ai _ _ _)
  | 9 =>
   cases ho;have q8:tv a' 13=_:=Hq hw 8;have rB:=Ak k L (fun o ⟨j,oj,hj,hoj,hwj,e⟩=>by rcases e with ⟨rfl,e⟩ | ⟨rfl,e⟩ <;> first | omega | (cases hwj.symm.trans (show Bb _ 6 _ 9=true by kernel_rfl)));have rb:=Ag rB;go_simp;exact Hk hK (Ai _ _ _)
  | 10 =>
   cases ho;have t1:=F.get (t:=1) (v:=.i vv) (by decide) rfl;go_simp;exact Hk hK (Ai _ _ _)
  | 11 =>
   cases ho;have q5:tv a' 10=_:=Hq hw 5;have q9:tv a' 14=_:=Hq hw 9;have q10:tv a' 15=_:=Hq hw 10;have KW:=K.keep L (fun b o _ ⟨j,oj,hj,hoj,hwj,e⟩=>by rcases e with ⟨rfl,e⟩ | ⟨rfl,e⟩ <;> first | omega | (cases hwj.symm.trans (show Bb _ 6 _ 11=true by kernel_rfl)));go_simp;refine (HP.out W KW).mono ?_;rintro e W' ⟨u',rfl,O,LX⟩;exact hK _ _ (Ab LX _) ⟨u',Ai _ _ _,Dl O L.size⟩
  | 12 =>
   cases ho;have q11:=Hq hw 11;obtain ⟨u',h1,O⟩:=q11;replace h1:a'.tmps[16]?.getD undef=.tuple #[.agg #[u',.i bank],.agg (cR A X sD Pc Z N C I)]:=h1;go_simp;exact Hk hK ⟨u',Ai _ _ _,O⟩
  | 13 =>
   cases ho;have q12:=Hq hw 12;obtain ⟨u',h1,O⟩:=q12;replace h1:a'.tmps[4]?.getD undef=.tuple #[.agg #[u',.i bank],.agg (cR A X sD Pc Z N C I)]:=h1;go_simp;exact Hk hK ⟨u',Ai _ _ _,O⟩
  | 14 =>
   cases ho;have q12:=Hq hw 12;obtain ⟨u',h1,O⟩:=q12;replace h1:a'.tmps[4]?.getD undef=.tuple #[.agg #[u',.i bank],.agg (cR A X sD Pc Z N C I)]:=h1;go_simp;exact Hk hK (Ai _ _ _)
  | 15 =>
   cases ho;have q0:tv a' 5=_:=Hq hw 0;go_simp;exact Hk hK (Ai _ _ _)
  | 16 =>
   cases ho;have q15:tv a' 19=_:=Hq hw 15;go_simp;exact Hk hK (Ai _ _ _)
  | 17 =>
   cases ho;have q16:tv a' 20=_:=Hq hw 16;have q13:=Hq hw 13;have rB:=Ak k L (fun o ⟨j,oj,hj,hoj,hwj,e⟩=>by rcases e with ⟨rfl,e⟩ | ⟨rfl,e⟩ <;> first | omega | (cases hwj.symm.trans (show Bb _ 6 _ 17=true by kernel_rfl)));obtain ⟨u',h1,O⟩:=q13;replace h1:a'.tmps[17]?.getD undef=.agg #[u',.i bank]:=h1;have rb:=Ag rB;have rf:=As rB;have HB:=Af (o:=1) (Af (o:=0) rB u') (.i bank);simp only [List.setIfInBounds_toArray,List.set_cons_succ,List.set_cons_zero] at HB;have TT:Wrote (fun b _=>b=z) W ((W.setCell ⟨z,0,none⟩ u').setCell ⟨z,1,none⟩ (.i bank)):=Wrote.setCell (b:=z) (o:=1) (R:=fun b _=>b=z) (Wrote.setCell (b:=z) (o:=0) (R:=fun b _=>b=z) (Wrote.refl _ W) (fun _=>rfl) _) (fun _=>rfl) _;have HBB:=Ad HB;have HT:=Ad TT;have HO:=Ad (O.away TT (fun b' o h1 h2 e=>by omega))
   clear HB rB TT O
   obtain ⟨xa,xc,hu⟩:∃ a c,u'=.slice a 512 c:=by obtain ⟨a,c,hq,_⟩:=HO.out.ex; exact ⟨a,c,hq⟩
   subst hu;go_simp;exact hK undef _ (HT.out.mono (fun b o _ e=>Or.inl ⟨rfl,e⟩)) ⟨_,HBB.out,HO.out⟩
  | 18 =>
   cases ho;have q1:tv a' 6=_:=Hq hw 1;go_simp;exact Hk hK (Ai _ _ _)
  | 19 =>
   cases ho;have q18:tv a' 21=_:=Hq hw 18;go_simp;exact Hk hK (Ai _ _ _)
  | 20 =>
   cases ho;have q19:tv a' 22=_:=Hq hw 19;have q14:tv a' 18=_:=Hq hw 14;obtain ⟨u',rB,O⟩:=Hq hw 17;have rb:=Ag rB;have rf:=As rB;have HB:=Af (o:=9) (Af (o:=8) (Af (o:=7) (Af (o:=6) (Af (o:=5) (Af (o:=4) (Af (o:=3) (Af (o:=2) (rB) (.i A)) (.i X)) (.i sD)) (.i Pc)) (.bool Z)) (.bool N)) (.bool C)) (.bool I);simp only [List.setIfInBounds_toArray,List.set_cons_succ,List.set_cons_zero] at HB
   have TT:=Wrote.setCell (b:=z) (o:=9) (R:=fun b _=>b=z) (Wrote.setCell (b:=z) (o:=8) (R:=fun b _=>b=z) (Wrote.setCell (b:=z) (o:=7) (R:=fun b _=>b=z) (Wrote.setCell (b:=z) (o:=6) (R:=fun b _=>b=z) (Wrote.setCell (b:=z) (o:=5) (R:=fun b _=>b=z) (Wrote.setCell (b:=z) (o:=4) (R:=fun b _=>b=z) (Wrote.setCell (b:=z) (o:=3) (R:=fun b _=>b=z) (Wrote.setCell (b:=z) (o:=2) (R:=fun b _=>b=z) (Wrote.refl (fun b _=>b=z) W) (fun _=>rfl) (.i A)) (fun _=>rfl) (.i X)) (fun _=>rfl) (.i sD)) (fun _=>rfl) (.i Pc)) (fun _=>rfl) (.bool Z)) (fun _=>rfl) (.bool N)) (fun _=>rfl) (.bool C)) (fun _=>rfl) (.bool I);have HBB:=Ad HB;have HT:=Ad TT;have HO:=Ad (O.away TT (fun b' o h1 h2 e=>by omega));clear HB rB TT O;go_simp
   exact hK undef _ (HT.out.mono (fun b o _ e=>Or.inr ⟨rfl,e⟩)) ⟨_,HBB.out,HO.out⟩
  | _+21=>simp at ho
 ·intro a' W F L hφ
  have p5:a'.tmps[5]?.getD undef=_:=Hf hφ 0;have p6:a'.tmps[6]?.getD undef=_:=Hf hφ 1;have p7:a'.tmps[7]?.getD undef=_:=Hf hφ 2;have p8:a'.tmps[8]?.getD undef=_:=Hf hφ 3;have p9:a'.tmps[9]?.getD undef=_:=Hf hφ 4;have p10:a'.tmps[10]?.getD undef=_:=Hf hφ 5;have p11:a'.tmps[11]?.getD undef=_:=Hf hφ 6;have p12:a'.tmps[12]?.getD undef=_:=Hf hφ 7;have p13:a'.tmps[13]?.getD undef=_:=Hf hφ 8;have p14:a'.tmps[14]?.getD undef=_:=Hf hφ 9;have p15:a'.tmps[15]?.getD undef=_:=Hf hφ 10;have e11:=Hf hφ 11;have e12:=Hf hφ 12;have e13:=Hf hφ 13;have p18:a'.tmps[18]?.getD undef=_:=Hf hφ 14;have p19:a'.tmps[19]?.getD undef=_:=Hf hφ 15;have p20:a'.tmps[20]?.getD undef=_:=Hf hφ 16;have p21:a'.tmps[21]?.getD undef=_:=Hf hφ 18;have p22:a'.tmps[22]?.getD undef=_:=Hf hφ 19;have e20:=Hf hφ 20
  rw [F.same,show slotsOf [some 5,some 6,some 7,some 8,some 9,some 10,some 11,some 12,some 13,some 14,some 15,some 16,some 4,some 17,some 18,some 19,some 20,none,some 21,some 22,none]=[5,6,7,8,9,10,11,12,13,14,15,16,4,17,18,19,20,21,22] from rfl];simp only [List.foldl_cons,List.foldl_nil];obtain ⟨u',kF,OF⟩:=e20;have LF:=L.mono (S:=fun b _=>b=z) (fun b o _ ⟨j,e⟩=>by omega);go_simp;go_wp2
  go_end0
  exact ⟨rfl,u',kF,OF,LF⟩
theorem J4 (w:World) (z:Nat) (u:Value) (bank A X S Pc:Int) (Z N C I:Bool) (arg rd:Int) (G:Nat→Nat→Prop) (g:Nat→Int) (k:w.heap[z]?=some (.cells (rR u bank A X S Pc Z N C I arg rd) 161 (0,0))) (K:Ints .i64 w G u 512 g) (hb:isRow 512 g 512=true) :
  Calls Tryz.prog 235 #[(pt z 0)] w fun e w'=>e=.returned (.i (D7 g S))∧w'.heap[z]?=some (.cells (rR u bank A X (Eb S) Pc Z N C I arg rd) 161 (0,0))∧Wrote (fun b _=>b=z) w w':=by
 have hz:=Ac k
 obtain ⟨sI,hsI⟩:∃ x,Hid (x=Eb S):=⟨_,rfl⟩
 obtain ⟨x8,hx8⟩:∃ x,Hid (x=D7 g S):=⟨_,rfl⟩
 have HP:=Ad (fun W (KW:Ints .i64 W G u 512 g)=>Zn W G u g bank KW hb A X S Pc Z N C I);rw [← hsI.out,show g (256+sI.toNat)=x8 by rw [hx8.out,hsI.out]; rfl] at HP;rw [← hsI.out,← hx8.out];clear hsI hx8 hb
 go_enter Tryz.func235,Tryz.ntmps235
 go_upto_region 1 with (fail);rename_i K1 hK1
 refine Bz [some 6,some 7,some 8,some 9,some 10,some 11,some 12,some 13,some 14,some 5,some 15,some 16,some 3,none,some 4] (by kernel_rfl) (by kernel_rfl) (by kernel_rfl) (by kernel_rfl) (by first | (simp [slotsOf]; done) | (simp [slotsOf,Act.put]; done)) [(12,13)]
  (fun j b _=>(j=13∧w.heap.size≤b))
  (fun i V W=>match i with
   | 0=>V 0=(pt z 0)
   | 1=>V 1=(pt z 0)
   | 2=>V 2=(pt z 0)
   | 3=>V 3=.agg #[u,.i bank]
   | 4=>V 4=(pt z 0)
   | 5=>V 5=(pt z 0)
   | 6=>V 6=(pt z 2)
   | 7=>V 7=.agg (cR A X S Pc Z N C I)
   | 8=>V 8=.tuple #[.agg (cR A X sI Pc Z N C I),.i x8]
   | 9=>V 9=.tuple #[.agg (cR A X sI Pc Z N C I),.i x8]
   | 10=>V 10=.agg (cR A X sI Pc Z N C I)
   | 11=>V 11=.i x8
   | 12=>∃ q,V 12=(pt q 0)∧W.heap[q]?=some (.cells cZ 43 (0,0))∧w.heap.size≤q
   | 13=>∃ q,V 12=(pt q 0)∧W.heap[q]?=some (.cells (cR A X sI Pc Z N C I) 43 (0,0))∧w.heap.size≤q
   | _=>V 14=.i x8) ?_ ?_ ?_
 ·intro i j o V x W W' hij ho hnd hW h
  rcases i with _|_|_|_|_|_|_|_|_|_|_|_|_|_|_|i
  all_goals try exact (Ar V x hij).trans h
  ·obtain ⟨q,h1,h2,h3⟩:=h
   exact ⟨q,(Ar V x hij).trans h1,Ak h2 hW (fun o e=>by simp at hnd; omega),h3⟩
  ·obtain ⟨q,h1,h2,h3⟩:=h
   exact ⟨q,(by rw [Ar V x (fun e=>by subst e; simp only [List.getElem?_toArray,List.getElem?_cons_zero,List.getElem?_cons_succ,Option.some.injEq] at ho; subst ho; cases hnd.1.symm.trans (show A0 _ 12=true by kernel_rfl))]; exact h1),Ak h2 hW (fun o e=>by omega),h3⟩
  all_goals simp at ho
 ·intro i o a' W K8 ho F L hw hK
  match i with
  | 0 =>
   cases ho;have t0:=F.get (t:=0) (v:=(pt z 0)) (by decide) rfl;go_simp;exact Hk hK (Ai _ _ _)
  | 1 =>
   cases ho;have q0:tv a' 6=_:=Hq hw 0;go_simp;exact Hk hK (Ai _ _ _)
  | 2 =>
   cases ho;have q1:tv a' 7=_:=Hq hw 1;go_simp;exact Hk hK (Ai _ _ _)
  | 3 =>
   cases ho;have q2:tv a' 8=_:=Hq hw 2;have rB:=Ak k L (fun o ⟨j,oj,hj,hoj,hwj,e⟩=>by rcases e with ⟨rfl,e⟩ <;> first | omega | (cases hwj.symm.trans (show Bb _ 6 _ 3=true by kernel_rfl)));have rb:=Ag rB;go_simp;exact Hk hK (Ai _ _ _)
  | 4 =>
   cases ho;have t0:=F.get (t:=0) (v:=(pt z 0)) (by decide) rfl;go_simp;exact Hk hK (Ai _ _ _)
  | 5 =>
   cases ho;have q4:tv a' 10=_:=Hq hw 4;go_simp;exact Hk hK (Ai _ _ _)
  | 6 =>
   cases ho;have q5:tv a' 11=_:=Hq hw 5;go_simp;exact Hk hK (Ai _ _ _)
  | 7 =>
   cases ho;have q6:tv a' 12=_:=Hq hw 6;have rB:=Ak k L (fun o ⟨j,oj,hj,hoj,hwj,e⟩=>by rcases e with ⟨rfl,e⟩ <;> first | omega | (cases hwj.symm.trans (show Bb _ 6 _ 7=true by kernel_rfl)));have rb:=Ag rB;go_simp;exact Hk hK (Ai _ _ _)
  | 8 =>
   cases ho;have q3:tv a' 9=_:=Hq hw 3;have q7:tv a' 13=_:=Hq hw 7;have KW:=K.keep L (fun b o _ ⟨j,oj,hj,hoj,hwj,e⟩=>by rcases e with ⟨rfl,e⟩ <;> first | omega | (cases hwj.symm.trans (show Bb _ 6 _ 8=true by kernel_rfl)));go_simp;refine (HP.out W KW).mono ?_;rintro e W' ⟨rfl,LX⟩;exact hK _ _ (Ab LX _) (Ai _ _ _)
  | 9 =>
   cases ho;have q8:tv a' 14=_:=Hq hw 8;go_simp;exact Hk hK (Ai _ _ _)
  | 10 =>
   cases ho;have q9:tv a' 5=_:=Hq hw 9;go_simp;exact Hk hK (Ai _ _ _)
  | 11 =>
   cases ho;have q9:tv a' 5=_:=Hq hw 9;go_simp;exact Hk hK (Ai _ _ _)
  | 12 =>
   cases ho;go_simp;exact hK _ _ ((Wrote.refl _ W).alloc _) ⟨_,Ai _ _ _,Al W _ _,L.size⟩
  | 13 =>
   cases ho;have q12:=Hq hw 12;have q10:tv a' 15=_:=Hq hw 10;obtain ⟨q,h1,rB,h3⟩:=q12;replace h1:a'.tmps[3]?.getD undef=(pt q 0):=h1;refine wp_store_row _ _ _ rfl q (cR A X sI Pc Z N C I) (by simpa [Act.eval] using h1) (by simpa [Act.eval] using q10) _ _ rB Dz rfl (by first | kernel_rfl | simp [Value.oneCell']) ?_;exact hK undef _ ((Bm rB _).mono (fun b o _ (h:b=q)=>⟨rfl,by omega⟩)) ⟨q,(by rw [Ar _ _ (by decide)]; exact h1),setRow_heap _ _ _ _ _ _ rB,h3⟩
  | 14 =>
   cases ho;have q11:tv a' 16=_:=Hq hw 11;go_simp;exact Hk hK (Ai _ _ _)
  | _+15=>simp at ho
 ·intro a' W F L hφ
  have p6:a'.tmps[6]?.getD undef=_:=Hf hφ 0;have p7:a'.tmps[7]?.getD undef=_:=Hf hφ 1;have p8:a'.tmps[8]?.getD undef=_:=Hf hφ 2;have p9:a'.tmps[9]?.getD undef=_:=Hf hφ 3;have p10:a'.tmps[10]?.getD undef=_:=Hf hφ 4;have p11:a'.tmps[11]?.getD undef=_:=Hf hφ 5;have p12:a'.tmps[12]?.getD undef=_:=Hf hφ 6;have p13:a'.tmps[13]?.getD undef=_:=Hf hφ 7;have p14:a'.tmps[14]?.getD undef=_:=Hf hφ 8;have p5:a'.tmps[5]?.getD undef=_:=Hf hφ 9;have p15:a'.tmps[15]?.getD undef=_:=Hf hφ 10;have p16:a'.tmps[16]?.getD undef=_:=Hf hφ 11;have e13:=Hf hφ 13;have p4:a'.tmps[4]?.getD undef=_:=Hf hφ 14;rw [F.same,show slotsOf [some 6,some 7,some 8,some 9,some 10,some 11,some 12,some 13,some 14,some 5,some 15,some 16,some 3,none,some 4]=[6,7,8,9,10,11,12,13,14,5,15,16,3,4] from rfl]
  simp only [List.foldl_cons,List.foldl_nil];obtain ⟨q,e1,kq,hq⟩:=e13;replace e1:a'.tmps[3]?.getD undef=(pt q 0):=e1;have kz:=Ak k L (fun o ⟨j,e⟩=>by omega);have LZ:=L.mono (S:=fun b _=>b=z) (fun b o hb ⟨j,e⟩=>by omega);rw [p6,p7,p8,p9,p10,p11,p12,p13,p14,p5,p15,p16,p4,e1];clear hφ F L e1 p6 p7 p8 p9 p10 p11 p12 p13 p14 p5 p15 p16 p4;refine hK1 _ _ ?_;clear hK1;have c:=Ag kz;have f:=As kz;have cq:=Ag kq;have HB:=Af (o:=9) (Af (o:=8) (Af (o:=7) (Af (o:=6) (Af (o:=5) (Af (o:=4) (Af (o:=3) (Af (o:=2) (kz) (.i A)) (.i X)) (.i sI)) (.i Pc)) (.bool Z)) (.bool N)) (.bool C)) (.bool I);simp only [List.setIfInBounds_toArray,List.set_cons_succ,List.set_cons_zero] at HB
  have TT:=Ad (LZ.trans (Wrote.setCell (b:=z) (o:=9) (R:=fun b _=>b=z) (Wrote.setCell (b:=z) (o:=8) (R:=fun b _=>b=z) (Wrote.setCell (b:=z) (o:=7) (R:=fun b _=>b=z) (Wrote.setCell (b:=z) (o:=6) (R:=fun b _=>b=z) (Wrote.setCell (b:=z) (o:=5) (R:=fun b _=>b=z) (Wrote.setCell (b:=z) (o:=4) (R:=fun b _=>b=z) (Wrote.setCell (b:=z) (o:=3) (R:=fun b _=>b=z) (Wrote.setCell (b:=z) (o:=2) (R:=fun b _=>b=z) (Wrote.refl (fun b _=>b=z) W) (fun _=>rfl) (.i A)) (fun _=>rfl) (.i X)) (fun _=>rfl) (.i sI)) (fun _=>rfl) (.i Pc)) (fun _=>rfl) (.bool Z)) (fun _=>rfl) (.bool N)) (fun _=>rfl) (.bool C)) (fun _=>rfl) (.bool I)));have HBB:=Ad HB;clear HB;go_simp;go_wp2;go_ret;exact ⟨rfl,HBB.out,TT.out⟩
theorem M8 (w:World) (z:Nat) (u:Value) (bank A X S Pc:Int) (Z N C I:Bool) (arg rd:Int) (k:w.heap[z]?=some (.cells (rR u bank A X S Pc Z N C I arg rd) 161 (0,0))) :
  Calls Tryz.prog 191 #[(pt z 0)] w fun e w'=>e=.returned (.tuple #[])∧w'.heap[z]?=some (.cells (rR u bank A X S Pc Z N C I arg rd) 161 (0,0))∧Wrote (fun b _=>b=z) w w':=by
 have hz:=Ac k;have c:=Ag k;have f:=As k
 go_enter Tryz.func191,Tryz.ntmps191
 go_wp2
 go_end0
 exact ⟨rfl,k,Wrote.refl _ _⟩
theorem M9 (w:World) (z:Nat) (u:Value) (bank A X S Pc:Int) (Z N C I:Bool) (arg rd:Int) (G:Nat→Nat→Prop) (g:Nat→Int) (k:w.heap[z]?=some (.cells (rR u bank A X S Pc Z N C I arg rd) 161 (0,0))) (K:Ints .i64 w G u 512 g) (hb:isRow 512 g 512=true) :
  Calls Tryz.prog 151 #[(pt z 0)] w fun e w'=>e=.returned (.tuple #[])∧∃ u',w'.heap[z]?=some (.cells (rR u' bank A X (dec8 (dec8 S)) (Pc) Z N C I arg rd) 161 (0,0))∧Am w' w.heap.size u' 512 (B7 (B7 g S (Pc/256)) (dec8 S) Pc)∧Wrote (fun b _=>b=z) w w':=by
 have hz:=Ac k;have c:=Ag k;have f:=As k
 obtain ⟨d1,hd1⟩:∃ x,Hid (x=dec8 S):=⟨_,rfl⟩
 obtain ⟨g1,hg1⟩:∃ x,Hid (x=B7 g S (Pc/256)):=⟨_,rfl⟩
 have hb1:isRow 512 g1 512=true:=by rw [hg1.out]; exact Jd hb
 have HQ:=Ad (J3 w z u bank A X S Pc Z N C I arg rd G g (Pc/256) k K hb);rw [← hd1.out,← hg1.out] at HQ ⊢
 obtain ⟨d2,hd2⟩:∃ x,Hid (x=dec8 d1):=⟨_,rfl⟩
 obtain ⟨g2,hg2⟩:∃ x,Hid (x=B7 g1 d1 Pc):=⟨_,rfl⟩
 have HR:=Ad (fun W u' (kk:W.heap[z]?=some (.cells (rR u' bank A X d1 Pc Z N C I arg rd) 161 (0,0))) (KK:Ints .i64 W (fun _ _=>True) u' 512 g1)=>J3 W z u' bank A X d1 Pc Z N C I arg rd _ g1 Pc kk KK hb1);rw [← hd2.out,← hg2.out] at HR;rw [← hd2.out,← hg2.out];clear hd1 hd2 hg1 hg2 hb hb1
 go_enter Tryz.func151,Tryz.ntmps151
 go_wp2_with fail;refine HQ.out.mono ?_;rintro e W1 ⟨rfl,u1,k1,O1,L1⟩;clear c f HQ;have c:=Ag k1;have f:=As k1;have K1:=Ex O1;go_wp2_with fail;refine (HR.out W1 u1 k1 K1).mono ?_;rintro e W2 ⟨rfl,u2,k2,O2,L2⟩;clear c f HR;have KK:=Ad k2;have OO:=Ad (Dl O2 L1.size);have LL:=Ad (L1.trans L2);clear k1 k2 O1 O2 L1 L2 K1;go_wp2
 go_end0
 exact ⟨rfl,_,KK.out,OO.out,LL.out⟩
theorem Zo (w:World) (z:Nat) (u:Value) (bank A X S Pc:Int) (Z N C I:Bool) (arg rd:Int) (G:Nat→Nat→Prop) (g:Nat→Int) (k:w.heap[z]?=some (.cells (rR u bank A X S Pc Z N C I arg rd) 161 (0,0))) (K:Ints .i64 w G u 512 g) (hb:isRow 512 g 512=true) :
  Calls Tryz.prog 208 #[(pt z 0)] w fun e w'=>e=.returned (.tuple #[])∧∃ u',w'.heap[z]?=some (.cells (rR u' bank A X (dec8 (dec8 S)) (arg%65536) Z N C I arg rd) 161 (0,0))∧Am w' w.heap.size u' 512 (B7 (B7 g S (Pc/256)) (dec8 S) Pc)∧Wrote (fun b _=>b=z) w w':=by
 have hz:=Ac k;have c:=Ag k;have f:=As k;have HQ:=Ad (M9 w z u bank A X S Pc Z N C I arg rd G g k K hb)
 obtain ⟨d1,hd1⟩:∃ x,Hid (x=dec8 (dec8 S)):=⟨_,rfl⟩
 obtain ⟨g1,hg1⟩:∃ x,Hid (x=B7 (B7 g S (Pc/256)) (dec8 S) Pc):=⟨_,rfl⟩
 rw [← hd1.out,← hg1.out] at HQ ⊢;clear hd1 hg1 hb
 go_enter Tryz.func208,Tryz.ntmps208
 go_wp2_with fail;refine HQ.out.mono ?_;rintro e W1 ⟨rfl,u1,k1,O1,L1⟩;clear c f HQ;have hz1:=Ac k1;go_wp2_with fail;refine (Mz W1 z u1 bank A X d1 Pc Z N C I arg rd k1).mono ?_;rintro e W2 ⟨rfl,k2,L2⟩;have KK:=Ad k2;have OO:=Ad (O1.away L2 (fun b' o h1 h2 e=>by omega));have LL:=Ad (L1.trans L2);clear k1 k2 O1 L1 L2;go_wp2
 go_end0
 exact ⟨rfl,_,KK.out,OO.out,LL.out⟩
theorem Xl (w:World) (z:Nat) (u:Value) (bank A X S Pc:Int) (Z N C I:Bool) (arg rd:Int) (G:Nat→Nat→Prop) (g:Nat→Int) (k:w.heap[z]?=some (.cells (rR u bank A X S Pc Z N C I arg rd) 161 (0,0))) (K:Ints .i64 w G u 512 g) (hb:isRow 512 g 512=true) :
  Calls Tryz.prog 210 #[(pt z 0)] w fun e w'=>e=.returned (.tuple #[])∧∃ u',w'.heap[z]?=some (.cells (rR u' bank A X (dec8 S) (Pc) Z N C I arg rd) 161 (0,0))∧Am w' w.heap.size u' 512 (B7 g S A)∧Wrote (fun b _=>b=z) w w':=by
 have hz:=Ac k;have c:=Ag k;have f:=As k;have HQ:=Ad (J3 w z u bank A X S Pc Z N C I arg rd G g A k K hb)
 obtain ⟨d1,hd1⟩:∃ x,Hid (x=dec8 S):=⟨_,rfl⟩
 obtain ⟨g1,hg1⟩:∃ x,Hid (x=B7 g S A):=⟨_,rfl⟩
 rw [← hd1.out,← hg1.out] at HQ ⊢;clear hd1 hg1 hb
 go_enter Tryz.func210,Tryz.ntmps210
 go_wp2_with fail;refine HQ.out.mono ?_;rintro e W1 ⟨rfl,u1,k1,O1,L1⟩;have KK:=Ad k1;have OO:=Ad O1;have LL:=Ad L1;clear k1 O1 L1 c f HQ;go_wp2
 go_end0
 exact ⟨rfl,_,KK.out,OO.out,LL.out⟩
theorem J5 (w:World) (z:Nat) (u:Value) (bank A X S Pc:Int) (Z N C I:Bool) (arg rd:Int) (G:Nat→Nat→Prop) (g:Nat→Int) (k:w.heap[z]?=some (.cells (rR u bank A X S Pc Z N C I arg rd) 161 (0,0))) (K:Ints .i64 w G u 512 g) (hb:isRow 512 g 512=true) (hG:∀ b o,G b o→b≠z) :
  Calls Tryz.prog 209 #[(pt z 0)] w fun e w'=>e=.returned (.tuple #[])∧w'.heap[z]?=some (.cells (rR u bank A X (Eb (Eb S)) (D7 g S%256+256*(D7 g (Eb S)%256)) Z N C I arg rd) 161 (0,0))∧Wrote (fun b _=>b=z) w w':=by
 have hz:=Ac k;have c:=Ag k;have f:=As k;have HQ:=Ad (J4 w z u bank A X S Pc Z N C I arg rd G g k K hb)
 obtain ⟨d1,hd1⟩:∃ x,Hid (x=Eb S):=⟨_,rfl⟩
 obtain ⟨x1,hx1⟩:∃ x,Hid (x=D7 g S):=⟨_,rfl⟩
 rw [← hd1.out,← hx1.out] at HQ ⊢
 obtain ⟨d2,hd2⟩:∃ x,Hid (x=Eb d1):=⟨_,rfl⟩
 obtain ⟨x2,hx2⟩:∃ x,Hid (x=D7 g d1):=⟨_,rfl⟩
 have HR:=Ad (fun W (kk:W.heap[z]?=some (.cells (rR u bank A X d1 Pc Z N C I arg rd) 161 (0,0))) (KK:Ints .i64 W G u 512 g)=>J4 W z u bank A X d1 Pc Z N C I arg rd G g kk KK hb);rw [← hd2.out,← hx2.out] at HR;rw [← hd2.out,← hx2.out];clear hd1 hd2 hx1 hx2 hb
 go_enter Tryz.func209,Tryz.ntmps209
 go_wp2_with fail;refine HQ.out.mono ?_;rintro e W1 ⟨rfl,k1,L1⟩;clear c f HQ;have K1:=K.keep L1 (fun b o h e=>hG b o h e);go_wp2_with fail;refine (HR.out W1 k1 K1).mono ?_;rintro e W2 ⟨rfl,k2,L2⟩;clear HR;have c:=Ag k2;have f:=As k2;go_wp2_with fail;refine (Hp x1 x2 W2).mono ?_;rintro e W3 ⟨rfl,hW3⟩;rw [hW3];clear hW3 W3;have HB:=Af (o:=5) (k2) (.i (x1%256+256*(x2%256)));simp only [List.setIfInBounds_toArray,List.set_cons_succ,List.set_cons_zero] at HB;have TT:=Ad ((L1.trans L2).trans (Wrote.setCell (b:=z) (o:=5) (R:=fun b _=>b=z) (Wrote.refl (fun b _=>b=z) W2) (fun _=>rfl) (.i (x1%256+256*(x2%256)))));have HBB:=Ad HB;clear HB L1 L2;go_wp2
 go_end0
 exact ⟨rfl,HBB.out,TT.out⟩
theorem Xm (w:World) (z:Nat) (u:Value) (bank A X S Pc:Int) (Z N C I:Bool) (arg rd:Int) (G:Nat→Nat→Prop) (g:Nat→Int) (k:w.heap[z]?=some (.cells (rR u bank A X S Pc Z N C I arg rd) 161 (0,0))) (K:Ints .i64 w G u 512 g) (hb:isRow 512 g 512=true) :
  Calls Tryz.prog 211 #[(pt z 0)] w fun e w'=>e=.returned (.tuple #[])∧w'.heap[z]?=some (.cells (rR u bank ((D7 g S)%256) X (Eb S) Pc ((D7 g S)%256==0) (decide (127<(D7 g S)%256)) C I arg rd) 161 (0,0))∧Wrote (fun b _=>b=z) w w':=by
 have hz:=Ac k;have c:=Ag k;have f:=As k;have HQ:=Ad (J4 w z u bank A X S Pc Z N C I arg rd G g k K hb)
 obtain ⟨d1,hd1⟩:∃ x,Hid (x=Eb S):=⟨_,rfl⟩
 obtain ⟨x1,hx1⟩:∃ x,Hid (x=D7 g S):=⟨_,rfl⟩
 rw [← hd1.out,← hx1.out] at HQ ⊢;clear hd1 hx1 hb
 go_enter Tryz.func211,Tryz.ntmps211
 go_wp2_with fail;refine HQ.out.mono ?_;rintro e W1 ⟨rfl,k1,L1⟩;clear c f HQ;have c:=Ag k1;have f:=As k1;go_wp2_with fail;refine (Er W1 A X d1 Pc Z N C I x1).mono ?_;rintro e W2 ⟨rfl,L2⟩;have k2:=Aa k1 L2 (Ac k1);clear c f;have c:=Ag k2;have f:=As k2;have HB:=Af (o:=9) (Af (o:=8) (Af (o:=7) (Af (o:=6) (Af (o:=5) (Af (o:=4) (Af (o:=3) (Af (o:=2) (k2) (.i (x1%256))) (.i X)) (.i d1)) (.i Pc)) (.bool (x1%256==0))) (.bool (decide (127<x1%256)))) (.bool C)) (.bool I);simp only [List.setIfInBounds_toArray,List.set_cons_succ,List.set_cons_zero] at HB
 have TT:=Ad ((L1.trans (Ab L2 (fun b _=>b=z))).trans (Wrote.setCell (b:=z) (o:=9) (R:=fun b _=>b=z) (Wrote.setCell (b:=z) (o:=8) (R:=fun b _=>b=z) (Wrote.setCell (b:=z) (o:=7) (R:=fun b _=>b=z) (Wrote.setCell (b:=z) (o:=6) (R:=fun b _=>b=z) (Wrote.setCell (b:=z) (o:=5) (R:=fun b _=>b=z) (Wrote.setCell (b:=z) (o:=4) (R:=fun b _=>b=z) (Wrote.setCell (b:=z) (o:=3) (R:=fun b _=>b=z) (Wrote.setCell (b:=z) (o:=2) (R:=fun b _=>b=z) (Wrote.refl (fun b _=>b=z) W2) (fun _=>rfl) (.i (x1%256))) (fun _=>rfl) (.i X)) (fun _=>rfl) (.i d1)) (fun _=>rfl) (.i Pc)) (fun _=>rfl) (.bool (x1%256==0))) (fun _=>rfl) (.bool (decide (127<x1%256)))) (fun _=>rfl) (.bool C)) (fun _=>rfl) (.bool I)));have HBB:=Ad HB;clear HB L1 L2;go_wp2
 go_end0
 exact ⟨rfl,HBB.out,TT.out⟩
theorem Xn (w:World) (z:Nat) (u:Value) (bank A X S Pc:Int) (Z N C I:Bool) (arg rd:Int) (G:Nat→Nat→Prop) (g:Nat→Int) (k:w.heap[z]?=some (.cells (rR u bank A X S Pc Z N C I arg rd) 161 (0,0))) (K:Ints .i64 w G u 512 g) (hb:isRow 512 g 512=true) (hG:∀ b o,G b o→b≠z) :
  Calls Tryz.prog 212 #[(pt z 0)] w fun e w'=>e=.returned (.tuple #[])∧w'.heap[z]?=some (.cells (rR u bank A X (Eb (Eb (Eb S))) (D7 g (Eb S)%256+256*(D7 g (Eb (Eb S))%256)) (hasB (D7 g S) 2) (hasB (D7 g S) 128) (hasB (D7 g S) 1) (hasB (D7 g S) 4) arg rd) 161 (0,0))∧Wrote (fun b _=>b=z) w w':=by
 have hz:=Ac k;have c:=Ag k;have f:=As k;have HQ:=Ad (J4 w z u bank A X S Pc Z N C I arg rd G g k K hb)
 obtain ⟨d1,hd1⟩:∃ x,Hid (x=Eb S):=⟨_,rfl⟩
 obtain ⟨x1,hx1⟩:∃ x,Hid (x=D7 g S):=⟨_,rfl⟩
 rw [← hd1.out,← hx1.out] at HQ ⊢
 obtain ⟨f0,hf0⟩:∃ x,Hid (x=hasB x1 2):=⟨_,rfl⟩
 obtain ⟨f1,hf1⟩:∃ x,Hid (x=hasB x1 128):=⟨_,rfl⟩
 obtain ⟨f2,hf2⟩:∃ x,Hid (x=hasB x1 1):=⟨_,rfl⟩
 obtain ⟨f3,hf3⟩:∃ x,Hid (x=hasB x1 4):=⟨_,rfl⟩
 have HF:=Ad (fun W=>Np W A X d1 Pc Z N C I x1);rw [← hf0.out,← hf1.out,← hf2.out,← hf3.out] at HF;rw [← hf0.out,← hf1.out,← hf2.out,← hf3.out];have HC:=Ad (fun W (kk:W.heap[z]?=some (.cells (rR u bank A X d1 Pc f0 f1 f2 f3 arg rd) 161 (0,0))) (KK:Ints .i64 W G u 512 g)=>J5 W z u bank A X d1 Pc f0 f1 f2 f3 arg rd G g kk KK hb hG)
 obtain ⟨d3,hd3⟩:∃ x,Hid (x=Eb (Eb d1)):=⟨_,rfl⟩
 obtain ⟨p3,hp3⟩:∃ x,Hid (x=D7 g d1%256+256*(D7 g (Eb d1)%256)):=⟨_,rfl⟩
 rw [← hd3.out,← hp3.out] at HC;rw [← hd3.out,← hp3.out];clear hd1 hx1 hb hf0 hf1 hf2 hf3 hd3 hp3
 go_enter Tryz.func212,Tryz.ntmps212
 go_wp2_with fail;refine HQ.out.mono ?_;rintro e W1 ⟨rfl,k1,L1⟩;clear c f HQ;have K1:=K.keep L1 (fun b o h e=>hG b o h e);have c:=Ag k1;have f:=As k1;go_wp2_with fail;refine (HF.out W1).mono ?_;rintro e W2 ⟨rfl,L2⟩;have k2:=Aa k1 L2 (Ac k1);have K2:=K1.keep (Ab L2 Aj) (fun _ _ _ x=>x);clear c f HF;have c:=Ag k2;have f:=As k2;have HB:=Af (o:=9) (Af (o:=8) (Af (o:=7) (Af (o:=6) (Af (o:=5) (Af (o:=4) (Af (o:=3) (Af (o:=2) (k2) (.i A)) (.i X)) (.i d1)) (.i Pc)) (.bool f0)) (.bool f1)) (.bool f2)) (.bool f3);simp only [List.setIfInBounds_toArray,List.set_cons_succ,List.set_cons_zero] at HB
 have T2:=Wrote.setCell (b:=z) (o:=9) (R:=fun b _=>b=z) (Wrote.setCell (b:=z) (o:=8) (R:=fun b _=>b=z) (Wrote.setCell (b:=z) (o:=7) (R:=fun b _=>b=z) (Wrote.setCell (b:=z) (o:=6) (R:=fun b _=>b=z) (Wrote.setCell (b:=z) (o:=5) (R:=fun b _=>b=z) (Wrote.setCell (b:=z) (o:=4) (R:=fun b _=>b=z) (Wrote.setCell (b:=z) (o:=3) (R:=fun b _=>b=z) (Wrote.setCell (b:=z) (o:=2) (R:=fun b _=>b=z) (Wrote.refl (fun b _=>b=z) W2) (fun _=>rfl) (.i A)) (fun _=>rfl) (.i X)) (fun _=>rfl) (.i d1)) (fun _=>rfl) (.i Pc)) (fun _=>rfl) (.bool f0)) (fun _=>rfl) (.bool f1)) (fun _=>rfl) (.bool f2)) (fun _=>rfl) (.bool f3);have K3:=Ad (K2.keep T2 (fun b o h e=>hG b o h e));have TT:=Ad ((L1.trans (Ab L2 (fun b _=>b=z))).trans T2);have HBB:=Ad HB;clear HB L1 L2 T2 K1 K2 k1 K;go_wp2_with fail
 refine (HC.out _ HBB.out K3.out).mono ?_;rintro e W4 ⟨rfl,k4,L4⟩;have KK:=Ad k4;have LL:=Ad (TT.out.trans L4);clear k4 L4 TT K3 HBB c f k2;go_wp2
 go_end0
 exact ⟨rfl,KK.out,LL.out⟩
theorem Na (w:World) (z:Nat) (u:Value) (bank A X S Pc:Int) (Z N C I:Bool) (arg rd:Int) (k:w.heap[z]?=some (.cells (rR u bank A X S Pc Z N C I arg rd) 161 (0,0))) :
  Calls Tryz.prog 199 #[(pt z 0)] w fun e w'=>e=.returned (.tuple #[])∧w'.heap[z]?=some (.cells (rR u bank A X S Pc ((A%256-arg%256-1+Av true)%256%256==0) (decide (127<(A%256-arg%256-1+Av true)%256%256)) (decide (0≤A%256-arg%256-1+Av true)) I arg rd) 161 (0,0))∧Wrote (fun b _=>b=z) w w':=by
 have hz:=Ac k;have c:=Ag k;have f:=As k
 obtain ⟨sm,hsm⟩:∃ x,Hid (x=(A%256-arg%256-1+Av true)%256):=⟨_,rfl⟩
 obtain ⟨ca,hca⟩:∃ x,Hid (x=decide (0≤A%256-arg%256-1+Av true)):=⟨_,rfl⟩
 have HA:=Ad (fun W=>Qt A arg true W);rw [← hsm.out,← hca.out] at HA;rw [← hsm.out,← hca.out]
 obtain ⟨z1,hz1⟩:∃ x,Hid (x=(sm%256==0)):=⟨_,rfl⟩
 obtain ⟨n1,hn1⟩:∃ x,Hid (x=decide (127<sm%256)):=⟨_,rfl⟩
 have HG:=Ad (fun W=>Vj sm W);rw [← hz1.out,← hn1.out] at HG;rw [← hz1.out,← hn1.out];clear c f hsm hca hz1 hn1
 go_enter Tryz.func199,Tryz.ntmps199
 go_upto_region 0 with (fail);rename_i K1 hK1
 refine A8 [some 5,some 6,some 7,some 8,some 9,some 10,some 11,some 12,some 13,some 14,some 4,some 15,some 16,some 2,some 3] (by kernel_rfl) (by kernel_rfl) (by kernel_rfl) (by kernel_rfl) (by first | (simp [slotsOf]; done) | (simp [slotsOf,Act.put]; done))
  (fun j b _=>False)
  (fun i v W=>match i with
   | 0=>v=(pt z 0)
   | 1=>v=(pt z 0)
   | 2=>v=(pt z 2)
   | 3=>v=(pt z 2)
   | 4=>v=.i A
   | 5=>v=(pt z 0)
   | 6=>v=(pt z 0)
   | 7=>v=(pt z 10)
   | 8=>v=.i arg
   | 9=>v=.tuple #[.i sm,.bool ca]
   | 10=>v=.tuple #[.i sm,.bool ca]
   | 11=>v=.i sm
   | 12=>v=.bool ca
   | 13=>v=.i sm
   | _=>v=.bool ca) ?_ ?_ ?_
 ·intro i j o v W W' hij ho _ hW h
  rcases i with _|_|_|_|_|_|_|_|_|_|_|_|_|_|_|i
  all_goals try exact h
  all_goals simp at ho
 ·intro i o a' W K8 ho F L hw hK
  match i with
  | 0 =>
   cases ho;have t0:=F.get (t:=0) (v:=(pt z 0)) (by decide) rfl;go_simp;exact Hk hK rfl
  | 1 =>
   cases ho;have q0:tv a' 5=_:=Hr hw 0;go_simp;exact Hk hK rfl
  | 2 =>
   cases ho;have q1:tv a' 6=_:=Hr hw 1;go_simp;exact Hk hK rfl
  | 3 =>
   cases ho;have q2:tv a' 7=_:=Hr hw 2;go_simp;exact Hk hK rfl
  | 4 =>
   cases ho;have q3:tv a' 8=_:=Hr hw 3;have rB:=Ak k L (fun o ⟨j,oj,hj,hoj,hwj,e⟩=>by exact e);have rb:=Ag rB;go_simp;exact Hk hK rfl
  | 5 =>
   cases ho;have t0:=F.get (t:=0) (v:=(pt z 0)) (by decide) rfl;go_simp;exact Hk hK rfl
  | 6 =>
   cases ho;have q5:tv a' 10=_:=Hr hw 5;go_simp;exact Hk hK rfl
  | 7 =>
   cases ho;have q6:tv a' 11=_:=Hr hw 6;go_simp;exact Hk hK rfl
  | 8 =>
   cases ho;have q7:tv a' 12=_:=Hr hw 7;have rB:=Ak k L (fun o ⟨j,oj,hj,hoj,hwj,e⟩=>by exact e);have rb:=Ag rB;go_simp;exact Hk hK rfl
  | 9 =>
   cases ho;have q4:tv a' 9=_:=Hr hw 4;have q8:tv a' 13=_:=Hr hw 8;go_simp;refine (HA.out W).mono ?_;rintro e W' ⟨rfl,rfl⟩;exact Hk hK rfl
  | 10 =>
   cases ho;have q9:tv a' 14=_:=Hr hw 9;go_simp;exact Hk hK rfl
  | 11 =>
   cases ho;have q10:tv a' 4=_:=Hr hw 10;go_simp;exact Hk hK rfl
  | 12 =>
   cases ho;have q10:tv a' 4=_:=Hr hw 10;go_simp;exact Hk hK rfl
  | 13 =>
   cases ho;have q11:tv a' 15=_:=Hr hw 11;go_simp;exact Hk hK rfl
  | 14 =>
   cases ho;have q12:tv a' 16=_:=Hr hw 12;go_simp;exact Hk hK rfl
  | _+15=>simp at ho
 ·intro a' W F L hφ
  have p5:a'.tmps[5]?.getD undef=_:=Hd hφ 0;have p6:a'.tmps[6]?.getD undef=_:=Hd hφ 1;have p7:a'.tmps[7]?.getD undef=_:=Hd hφ 2;have p8:a'.tmps[8]?.getD undef=_:=Hd hφ 3;have p9:a'.tmps[9]?.getD undef=_:=Hd hφ 4;have p10:a'.tmps[10]?.getD undef=_:=Hd hφ 5;have p11:a'.tmps[11]?.getD undef=_:=Hd hφ 6;have p12:a'.tmps[12]?.getD undef=_:=Hd hφ 7;have p13:a'.tmps[13]?.getD undef=_:=Hd hφ 8;have p14:a'.tmps[14]?.getD undef=_:=Hd hφ 9;have p4:a'.tmps[4]?.getD undef=_:=Hd hφ 10;have p15:a'.tmps[15]?.getD undef=_:=Hd hφ 11;have p16:a'.tmps[16]?.getD undef=_:=Hd hφ 12;have p2:a'.tmps[2]?.getD undef=_:=Hd hφ 13;have p3:a'.tmps[3]?.getD undef=_:=Hd hφ 14
  rw [F.same,show slotsOf [some 5,some 6,some 7,some 8,some 9,some 10,some 11,some 12,some 13,some 14,some 4,some 15,some 16,some 2,some 3]=[5,6,7,8,9,10,11,12,13,14,4,15,16,2,3] from rfl];simp only [List.foldl_cons,List.foldl_nil];have kW:=Ak k L (fun o ⟨j,e⟩=>e);have LW:=L.mono (S:=fun b _=>b=z) (fun b o _ ⟨j,e⟩=>e.elim);rw [p5,p6,p7,p8,p9,p10,p11,p12,p13,p14,p4,p15,p16,p2,p3];clear hφ F L p5 p6 p7 p8 p9 p10 p11 p12 p13 p14 p4 p15 p16 p2 p3;refine hK1 _ _ ?_;clear hK1;have c:=Ag kW;have f:=As kW;have HB:=Af (o:=8) (Af (o:=7) (Af (o:=6) (kW) (.bool z1)) (.bool n1)) (.bool ca);simp only [List.setIfInBounds_toArray,List.set_cons_succ,List.set_cons_zero] at HB
  have TT:=Ad (Wrote.setCell (b:=z) (o:=8) (R:=fun b _=>b=z) (Wrote.setCell (b:=z) (o:=7) (R:=fun b _=>b=z) (Wrote.setCell (b:=z) (o:=6) (R:=fun b _=>b=z) (LW) (fun _=>rfl) (.bool z1)) (fun _=>rfl) (.bool n1)) (fun _=>rfl) (.bool ca));have HBB:=Ad HB;clear HB LW;go_simp;go_wp2_with fail;refine (HG.out W).mono ?_;rintro e W3 ⟨rfl,hW3⟩;rw [hW3];clear hW3 W3;go_wp2
  go_end0
  exact ⟨rfl,HBB.out,TT.out⟩
end Go.Proofs.YtgcmimcalmjaaaaGreatDoor
