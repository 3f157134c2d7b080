import Derived.Test.YtgcmimcalmjaaaaGreatDoorWA
import Derived.Test.YtgcmimcalmjaaaaGreatDoorGR
namespace Go.Proofs.YtgcmimcalmjaaaaGreatDoor
set_option maxHeartbeats 2000000
set_option maxRecDepth 20000
set_option linter.unusedVariables false
set_option linter.unusedSimpArgs false
open Go.ChangeShapes Go.WideShapes Go.ChangeAt Go.RowKit Go.Sort
theorem Cc:(Tryz.prog.info? 43).map (·.size)=some 8:=by kernel_rfl
theorem Ru (w:World) (z:Nat) (u:Value) (bank A X S Pc:Int) (Z N C I:Bool) (arg rd:Int) (k:w.heap[z]?=some (.cells (rR u bank A X S Pc Z N C I arg rd) 161 (0,0))) :
  Calls Tryz.prog 192 #[(pt z 0)] w fun e w'=>e=.returned (.tuple #[])∧w'.heap[z]?=some (.cells (rR u bank (arg%256) X S Pc (arg%256==0) (decide (127<arg%256)) C I arg rd) 161 (0,0))∧Wrote (fun b _=>b=z) w w':=by
 go_enter Tryz.func192,Tryz.ntmps192
 go_upto_region 0 with (fail)
 have cg:=fun d os=>Ag (Aa k (below_regrown w d os) (Ac k))
 refine A6 (n:=12) (by kernel_rfl) (by kernel_rfl) rfl ?_;simp only [List.take_succ_cons,List.take_zero]
 iterate 4 (go_big_quiet_step (fail))
 refine Bp _ _ rfl rfl z 2 (by go_simp) _ _ (cR A X S Pc Z N C I) _ _ k (Gu rfl rfl rfl rfl rfl rfl rfl rfl) Tryz.underlying43 rfl Cc ?_;simp only [Act.put,List.setIfInBounds_toArray,List.set_cons_succ,List.set_cons_zero]
 iterate 4 (go_big_quiet_step (fail))
 go_big_quiet_step ((go_at_call 228; exact Calls.regrown_of (Er _ A X S Pc Z N C I arg)))
 iterate 2 (go_big_quiet_step (fail))
 refine wpQuiet_nil ?_;intro w' hw';obtain ⟨⟨d,os⟩,rfl⟩:=hw';clear cg;have L:=below_regrown w d os;have rB:=Aa k L (Ac k);generalize grow (redrawn w d) os=W at *;refine Bg _ _ _ rfl z 2 (cR (arg%256) X S Pc (arg%256==0) (decide (127<arg%256)) C I) (by go_simp) (by go_simp) _ _ rB Cc (by show (2+8:Nat)≤12; omega) (by first | rfl | simp [Value.oneCell']) ?_;go_wp2
 go_end0
 exact ⟨rfl,setRow_heap _ _ _ _ _ _ rB,(Ab L _).trans (Ce rB _)⟩
theorem J1 (w:World) (z:Nat) (u:Value) (bank A X S Pc:Int) (Z N C I:Bool) (arg rd:Int) (k:w.heap[z]?=some (.cells (rR u bank A X S Pc Z N C I arg rd) 161 (0,0))) :
  Calls Tryz.prog 193 #[(pt z 0)] w fun e w'=>e=.returned (.tuple #[])∧w'.heap[z]?=some (.cells (rR u bank (rd%256) X S Pc (rd%256==0) (decide (127<rd%256)) C I arg rd) 161 (0,0))∧Wrote (fun b _=>b=z) w w':=by
 go_enter Tryz.func193,Tryz.ntmps193
 go_upto_region 0 with (fail)
 have cg:=fun d os=>Ag (Aa k (below_regrown w d os) (Ac k))
 refine A6 (n:=12) (by kernel_rfl) (by kernel_rfl) rfl ?_;simp only [List.take_succ_cons,List.take_zero]
 iterate 4 (go_big_quiet_step (fail))
 refine Bp _ _ rfl rfl z 2 (by go_simp) _ _ (cR A X S Pc Z N C I) _ _ k (Gu rfl rfl rfl rfl rfl rfl rfl rfl) Tryz.underlying43 rfl Cc ?_;simp only [Act.put,List.setIfInBounds_toArray,List.set_cons_succ,List.set_cons_zero]
 iterate 4 (go_big_quiet_step (fail))
 go_big_quiet_step ((go_at_call 228; exact Calls.regrown_of (Er _ A X S Pc Z N C I rd)))
 iterate 2 (go_big_quiet_step (fail))
 refine wpQuiet_nil ?_;intro w' hw';obtain ⟨⟨d,os⟩,rfl⟩:=hw';clear cg;have L:=below_regrown w d os;have rB:=Aa k L (Ac k);generalize grow (redrawn w d) os=W at *;refine Bg _ _ _ rfl z 2 (cR (rd%256) X S Pc (rd%256==0) (decide (127<rd%256)) C I) (by go_simp) (by go_simp) _ _ rB Cc (by show (2+8:Nat)≤12; omega) (by first | rfl | simp [Value.oneCell']) ?_;go_wp2
 go_end0
 exact ⟨rfl,setRow_heap _ _ _ _ _ _ rB,(Ab L _).trans (Ce rB _)⟩
theorem Jb (w:World) (z:Nat) (u:Value) (bank A X S Pc:Int) (Z N C I:Bool) (arg rd:Int) (sum:Int) (carry:Bool) (k:w.heap[z]?=some (.cells (rR u bank A X S Pc Z N C I arg rd) 161 (0,0))) :
  Calls Tryz.prog 229 #[(pt z 0),.i sum,.bool carry] w fun e w'=>e=.returned (.tuple #[])∧w'.heap[z]?=some (.cells (rR u bank (sum%256) X S Pc (sum%256==0) (decide (127<sum%256)) carry I arg rd) 161 (0,0))∧Wrote (fun b _=>b=z) w w':=by
 have c:=Ag k;have f:=As k
 go_enter Tryz.func229,Tryz.ntmps229
 go_wp2_with fail;refine (Er w A X S Pc Z N C I sum).mono ?_;rintro e W1 ⟨rfl,L⟩;have k1:=Aa k L (Ac k);clear c f;have c:=Ag k1;have f:=As k1;have HB:=Af (o:=8) (Af (o:=9) (Af (o:=8) (Af (o:=7) (Af (o:=6) (Af (o:=5) (Af (o:=4) (Af (o:=3) (Af (o:=2) (k1) (.i (sum%256))) (.i X)) (.i S)) (.i Pc)) (.bool (sum%256==0))) (.bool (decide (127<sum%256)))) (.bool C)) (.bool I)) (.bool carry);simp only [List.setIfInBounds_toArray,List.set_cons_succ,List.set_cons_zero] at HB
 have TT:=Ad (Wrote.setCell (b:=z) (o:=8) (R:=fun b _=>b=z) (Wrote.setCell (b:=z) (o:=9) (R:=fun b _=>b=z) (Wrote.setCell (b:=z) (o:=8) (R:=fun b _=>b=z) (Wrote.setCell (b:=z) (o:=7) (R:=fun b _=>b=z) (Wrote.setCell (b:=z) (o:=6) (R:=fun b _=>b=z) (Wrote.setCell (b:=z) (o:=5) (R:=fun b _=>b=z) (Wrote.setCell (b:=z) (o:=4) (R:=fun b _=>b=z) (Wrote.setCell (b:=z) (o:=3) (R:=fun b _=>b=z) (Wrote.setCell (b:=z) (o:=2) (R:=fun b _=>b=z) (Ab L (fun b _=>b=z)) (fun _=>rfl) (.i (sum%256))) (fun _=>rfl) (.i X)) (fun _=>rfl) (.i S)) (fun _=>rfl) (.i Pc)) (fun _=>rfl) (.bool (sum%256==0))) (fun _=>rfl) (.bool (decide (127<sum%256)))) (fun _=>rfl) (.bool C)) (fun _=>rfl) (.bool I)) (fun _=>rfl) (.bool carry));have HBB:=Ad HB;clear HB;go_wp2
 go_end0
 exact ⟨rfl,HBB.out,TT.out⟩
theorem Tv (w:World) (z:Nat) (u:Value) (bank A X S Pc:Int) (Z N C I:Bool) (arg rd:Int) (k:w.heap[z]?=some (.cells (rR u bank A X S Pc Z N C I arg rd) 161 (0,0))) :
  Calls Tryz.prog 194 #[(pt z 0)] w fun e w'=>e=.returned (.tuple #[])∧w'.heap[z]?=some (.cells (rR u bank (((A%256+arg%256+Av C)%256)%256) X S Pc (((A%256+arg%256+Av C)%256)%256==0) (decide (127<((A%256+arg%256+Av C)%256)%256)) (decide (255<A%256+arg%256+Av C)) I arg rd) 161 (0,0))∧Wrote (fun b _=>b=z) w w':=by
 obtain ⟨sm,hsm⟩:∃ x,Hid (x=(A%256+arg%256+Av C)%256):=⟨_,rfl⟩
 obtain ⟨ca,hca⟩:∃ x,Hid (x=decide (255<A%256+arg%256+Av C)):=⟨_,rfl⟩
 have HA:=Ad (fun W=>Qs A arg C W);rw [← hsm.out,← hca.out] at HA;rw [← hsm.out,← hca.out]
 go_enter Tryz.func194,Tryz.ntmps194
 go_upto_region 0 with (fail)
 have cg:=fun d os=>Ag (Aa k (below_regrown w d os) (Ac k))
 refine A6 (n:=18) (by kernel_rfl) (by kernel_rfl) rfl ?_;simp only [List.take_succ_cons,List.take_zero]
 iterate 15 (go_big_quiet_step (fail))
 go_big_quiet_step ((go_at_call 230; exact Calls.regrown_of ((HA.out _).mono fun e w' ⟨h1,h2⟩=>⟨h1,h2 ▸ Below.refl _ _⟩)))
 iterate 2 (go_big_quiet_step (fail))
 refine wpQuiet_nil ?_;intro w' hw';obtain ⟨⟨d,os⟩,rfl⟩:=hw';clear cg;have L:=below_regrown w d os;have rB:=Aa k L (Ac k);generalize grow (redrawn w d) os=W at *;go_simp;refine (Jb W z u bank A X S Pc Z N C I arg rd sm ca rB).mono ?_;rintro e W' ⟨rfl,kk,hW⟩;have KK:=Ad kk;have HW:=Ad ((Ab L _).trans hW);clear kk hW rB L;go_wp2
 go_end0
 exact ⟨rfl,KK.out,HW.out⟩
theorem Rv (w:World) (z:Nat) (u:Value) (bank A X S Pc:Int) (Z N C I:Bool) (arg rd:Int) (k:w.heap[z]?=some (.cells (rR u bank A X S Pc Z N C I arg rd) 161 (0,0))) :
  Calls Tryz.prog 216 #[(pt z 0)] w fun e w'=>e=.returned (.tuple #[])∧w'.heap[z]?=some (.cells (rR u bank (((A%256+rd%256+Av C)%256)%256) X S Pc (((A%256+rd%256+Av C)%256)%256==0) (decide (127<((A%256+rd%256+Av C)%256)%256)) (decide (255<A%256+rd%256+Av C)) I arg rd) 161 (0,0))∧Wrote (fun b _=>b=z) w w':=by
 obtain ⟨sm,hsm⟩:∃ x,Hid (x=(A%256+rd%256+Av C)%256):=⟨_,rfl⟩
 obtain ⟨ca,hca⟩:∃ x,Hid (x=decide (255<A%256+rd%256+Av C)):=⟨_,rfl⟩
 have HA:=Ad (fun W=>Qs A rd C W);rw [← hsm.out,← hca.out] at HA;rw [← hsm.out,← hca.out]
 go_enter Tryz.func216,Tryz.ntmps216
 go_upto_region 0 with (fail)
 have cg:=fun d os=>Ag (Aa k (below_regrown w d os) (Ac k))
 refine A6 (n:=18) (by kernel_rfl) (by kernel_rfl) rfl ?_;simp only [List.take_succ_cons,List.take_zero]
 iterate 15 (go_big_quiet_step (fail))
 go_big_quiet_step ((go_at_call 230; exact Calls.regrown_of ((HA.out _).mono fun e w' ⟨h1,h2⟩=>⟨h1,h2 ▸ Below.refl _ _⟩)))
 iterate 2 (go_big_quiet_step (fail))
 refine wpQuiet_nil ?_;intro w' hw';obtain ⟨⟨d,os⟩,rfl⟩:=hw';clear cg;have L:=below_regrown w d os;have rB:=Aa k L (Ac k);generalize grow (redrawn w d) os=W at *;go_simp;refine (Jb W z u bank A X S Pc Z N C I arg rd sm ca rB).mono ?_;rintro e W' ⟨rfl,kk,hW⟩;have KK:=Ad kk;have HW:=Ad ((Ab L _).trans hW);clear kk hW rB L;go_wp2
 go_end0
 exact ⟨rfl,KK.out,HW.out⟩
theorem Rw (w:World) (z:Nat) (u:Value) (bank A X S Pc:Int) (Z N C I:Bool) (arg rd:Int) (k:w.heap[z]?=some (.cells (rR u bank A X S Pc Z N C I arg rd) 161 (0,0))) :
  Calls Tryz.prog 195 #[(pt z 0)] w fun e w'=>e=.returned (.tuple #[])∧w'.heap[z]?=some (.cells (rR u bank (((A%256-arg%256-1+Av C)%256)%256) X S Pc (((A%256-arg%256-1+Av C)%256)%256==0) (decide (127<((A%256-arg%256-1+Av C)%256)%256)) (decide (0≤A%256-arg%256-1+Av C)) I arg rd) 161 (0,0))∧Wrote (fun b _=>b=z) w w':=by
 obtain ⟨sm,hsm⟩:∃ x,Hid (x=(A%256-arg%256-1+Av C)%256):=⟨_,rfl⟩
 obtain ⟨ca,hca⟩:∃ x,Hid (x=decide (0≤A%256-arg%256-1+Av C)):=⟨_,rfl⟩
 have HA:=Ad (fun W=>Qt A arg C W);rw [← hsm.out,← hca.out] at HA;rw [← hsm.out,← hca.out]
 go_enter Tryz.func195,Tryz.ntmps195
 go_upto_region 0 with (fail)
 have cg:=fun d os=>Ag (Aa k (below_regrown w d os) (Ac k))
 refine A6 (n:=18) (by kernel_rfl) (by kernel_rfl) rfl ?_;simp only [List.take_succ_cons,List.take_zero]
 iterate 15 (go_big_quiet_step (fail))
 go_big_quiet_step ((go_at_call 231; exact Calls.regrown_of ((HA.out _).mono fun e w' ⟨h1,h2⟩=>⟨h1,h2 ▸ Below.refl _ _⟩)))
 iterate 2 (go_big_quiet_step (fail))
 refine wpQuiet_nil ?_;intro w' hw';obtain ⟨⟨d,os⟩,rfl⟩:=hw';clear cg;have L:=below_regrown w d os;have rB:=Aa k L (Ac k);generalize grow (redrawn w d) os=W at *;go_simp;refine (Jb W z u bank A X S Pc Z N C I arg rd sm ca rB).mono ?_;rintro e W' ⟨rfl,kk,hW⟩;have KK:=Ad kk;have HW:=Ad ((Ab L _).trans hW);clear kk hW rB L;go_wp2
 go_end0
 exact ⟨rfl,KK.out,HW.out⟩
theorem Mx (w:World) (z:Nat) (u:Value) (bank A X S Pc:Int) (Z N C I:Bool) (arg rd:Int) (k:w.heap[z]?=some (.cells (rR u bank A X S Pc Z N C I arg rd) 161 (0,0))) :
  Calls Tryz.prog 196 #[(pt z 0)] w fun e w'=>e=.returned (.tuple #[])∧w'.heap[z]?=some (.cells (rR u bank ((bits .and .i64 A arg)%256) X S Pc ((bits .and .i64 A arg)%256==0) (decide (127<(bits .and .i64 A arg)%256)) C I arg rd) 161 (0,0))∧Wrote (fun b _=>b=z) w w':=by
 go_enter Tryz.func196,Tryz.ntmps196
 go_upto_region 0 with (fail)
 have cg:=fun d os=>Ag (Aa k (below_regrown w d os) (Ac k))
 refine A6 (n:=18) (by kernel_rfl) (by kernel_rfl) rfl ?_;simp only [List.take_succ_cons,List.take_zero]
 iterate 4 (go_big_quiet_step (fail))
 refine Bp _ _ rfl rfl z 2 (by go_simp) _ _ (cR A X S Pc Z N C I) _ _ k (Gu rfl rfl rfl rfl rfl rfl rfl rfl) Tryz.underlying43 rfl Cc ?_;simp only [Act.put,List.setIfInBounds_toArray,List.set_cons_succ,List.set_cons_zero]
 iterate 10 (go_big_quiet_step (fail))
 go_big_quiet_step ((go_at_call 228; exact Calls.regrown_of (Er _ A X S Pc Z N C I (bits .and .i64 A arg))))
 iterate 2 (go_big_quiet_step (fail))
 refine wpQuiet_nil ?_;intro w' hw';obtain ⟨⟨d,os⟩,rfl⟩:=hw';clear cg;have L:=below_regrown w d os;have rB:=Aa k L (Ac k);generalize grow (redrawn w d) os=W at *;refine Bg _ _ _ rfl z 2 (cR ((bits .and .i64 A arg)%256) X S Pc ((bits .and .i64 A arg)%256==0) (decide (127<(bits .and .i64 A arg)%256)) C I) (by go_simp) (by go_simp) _ _ rB Cc (by show (2+8:Nat)≤12; omega) (by first | rfl | simp [Value.oneCell']) ?_;go_wp2
 go_end0
 exact ⟨rfl,setRow_heap _ _ _ _ _ _ rB,(Ab L _).trans (Ce rB _)⟩
theorem N1 (w:World) (z:Nat) (u:Value) (bank A X S Pc:Int) (Z N C I:Bool) (arg rd:Int) (k:w.heap[z]?=some (.cells (rR u bank A X S Pc Z N C I arg rd) 161 (0,0))) :
  Calls Tryz.prog 197 #[(pt z 0)] w fun e w'=>e=.returned (.tuple #[])∧w'.heap[z]?=some (.cells (rR u bank ((bits .or .i64 A arg)%256) X S Pc ((bits .or .i64 A arg)%256==0) (decide (127<(bits .or .i64 A arg)%256)) C I arg rd) 161 (0,0))∧Wrote (fun b _=>b=z) w w':=by
 go_enter Tryz.func197,Tryz.ntmps197
 go_upto_region 0 with (fail)
 have cg:=fun d os=>Ag (Aa k (below_regrown w d os) (Ac k))
 refine A6 (n:=18) (by kernel_rfl) (by kernel_rfl) rfl ?_;simp only [List.take_succ_cons,List.take_zero]
 iterate 4 (go_big_quiet_step (fail))
 refine Bp _ _ rfl rfl z 2 (by go_simp) _ _ (cR A X S Pc Z N C I) _ _ k (Gu rfl rfl rfl rfl rfl rfl rfl rfl) Tryz.underlying43 rfl Cc ?_;simp only [Act.put,List.setIfInBounds_toArray,List.set_cons_succ,List.set_cons_zero]
 iterate 10 (go_big_quiet_step (fail))
 go_big_quiet_step ((go_at_call 228; exact Calls.regrown_of (Er _ A X S Pc Z N C I (bits .or .i64 A arg))))
 iterate 2 (go_big_quiet_step (fail))
 refine wpQuiet_nil ?_;intro w' hw';obtain ⟨⟨d,os⟩,rfl⟩:=hw';clear cg;have L:=below_regrown w d os;have rB:=Aa k L (Ac k);generalize grow (redrawn w d) os=W at *;refine Bg _ _ _ rfl z 2 (cR ((bits .or .i64 A arg)%256) X S Pc ((bits .or .i64 A arg)%256==0) (decide (127<(bits .or .i64 A arg)%256)) C I) (by go_simp) (by go_simp) _ _ rB Cc (by show (2+8:Nat)≤12; omega) (by first | rfl | simp [Value.oneCell']) ?_;go_wp2
 go_end0
 exact ⟨rfl,setRow_heap _ _ _ _ _ _ rB,(Ab L _).trans (Ce rB _)⟩
theorem J2 (w:World) (z:Nat) (u:Value) (bank A X S Pc:Int) (Z N C I:Bool) (arg rd:Int) (k:w.heap[z]?=some (.cells (rR u bank A X S Pc Z N C I arg rd) 161 (0,0))) :
  Calls Tryz.prog 198 #[(pt z 0)] w fun e w'=>e=.returned (.tuple #[])∧w'.heap[z]?=some (.cells (rR u bank ((bits .xor .i64 A arg)%256) X S Pc ((bits .xor .i64 A arg)%256==0) (decide (127<(bits .xor .i64 A arg)%256)) C I arg rd) 161 (0,0))∧Wrote (fun b _=>b=z) w w':=by
 go_enter Tryz.func198,Tryz.ntmps198
 go_upto_region 0 with (fail)
 have cg:=fun d os=>Ag (Aa k (below_regrown w d os) (Ac k))
 refine A6 (n:=18) (by kernel_rfl) (by kernel_rfl) rfl ?_;simp only [List.take_succ_cons,List.take_zero]
 iterate 4 (go_big_quiet_step (fail))
 refine Bp _ _ rfl rfl z 2 (by go_simp) _ _ (cR A X S Pc Z N C I) _ _ k (Gu rfl rfl rfl rfl rfl rfl rfl rfl) Tryz.underlying43 rfl Cc ?_;simp only [Act.put,List.setIfInBounds_toArray,List.set_cons_succ,List.set_cons_zero]
 iterate 10 (go_big_quiet_step (fail))
 go_big_quiet_step ((go_at_call 228; exact Calls.regrown_of (Er _ A X S Pc Z N C I (bits .xor .i64 A arg))))
 iterate 2 (go_big_quiet_step (fail))
 refine wpQuiet_nil ?_;intro w' hw';obtain ⟨⟨d,os⟩,rfl⟩:=hw';clear cg;have L:=below_regrown w d os;have rB:=Aa k L (Ac k);generalize grow (redrawn w d) os=W at *;refine Bg _ _ _ rfl z 2 (cR ((bits .xor .i64 A arg)%256) X S Pc ((bits .xor .i64 A arg)%256==0) (decide (127<(bits .xor .i64 A arg)%256)) C I) (by go_simp) (by go_simp) _ _ rB Cc (by show (2+8:Nat)≤12; omega) (by first | rfl | simp [Value.oneCell']) ?_;go_wp2
 go_end0
 exact ⟨rfl,setRow_heap _ _ _ _ _ _ rB,(Ab L _).trans (Ce rB _)⟩
theorem Qh (w:World) (z:Nat) (u:Value) (bank A X S Pc:Int) (Z N C I:Bool) (arg rd:Int) (k:w.heap[z]?=some (.cells (rR u bank A X S Pc Z N C I arg rd) 161 (0,0))) :
  Calls Tryz.prog 200 #[(pt z 0)] w fun e w'=>e=.returned (.tuple #[])∧w'.heap[z]?=some (.cells (rR u bank A (A%256) S Pc (A%256==0) (decide (127<A%256)) C I arg rd) 161 (0,0))∧Wrote (fun b _=>b=z) w w':=by
 go_enter Tryz.func200,Tryz.ntmps200
 go_upto_region 0 with (fail)
 have cg:=fun d os=>Ag (Aa k (below_regrown w d os) (Ac k))
 refine A6 (n:=13) (by kernel_rfl) (by kernel_rfl) rfl ?_;simp only [List.take_succ_cons,List.take_zero]
 iterate 4 (go_big_quiet_step (fail))
 refine Bp _ _ rfl rfl z 2 (by go_simp) _ _ (cR A X S Pc Z N C I) _ _ k (Gu rfl rfl rfl rfl rfl rfl rfl rfl) Tryz.underlying43 rfl Cc ?_;simp only [Act.put,List.setIfInBounds_toArray,List.set_cons_succ,List.set_cons_zero]
 iterate 5 (go_big_quiet_step (fail))
 go_big_quiet_step ((go_at_call 233; exact Calls.regrown_of (Ll _ A X S Pc Z N C I A)))
 iterate 2 (go_big_quiet_step (fail))
 refine wpQuiet_nil ?_;intro w' hw';obtain ⟨⟨d,os⟩,rfl⟩:=hw';clear cg;have L:=below_regrown w d os;have rB:=Aa k L (Ac k);generalize grow (redrawn w d) os=W at *;refine Bg _ _ _ rfl z 2 (cR A (A%256) S Pc (A%256==0) (decide (127<A%256)) C I) (by go_simp) (by go_simp) _ _ rB Cc (by show (2+8:Nat)≤12; omega) (by first | rfl | simp [Value.oneCell']) ?_;go_wp2
 go_end0
 exact ⟨rfl,setRow_heap _ _ _ _ _ _ rB,(Ab L _).trans (Ce rB _)⟩
theorem Qi (w:World) (z:Nat) (u:Value) (bank A X S Pc:Int) (Z N C I:Bool) (arg rd:Int) (k:w.heap[z]?=some (.cells (rR u bank A X S Pc Z N C I arg rd) 161 (0,0))) :
  Calls Tryz.prog 201 #[(pt z 0)] w fun e w'=>e=.returned (.tuple #[])∧w'.heap[z]?=some (.cells (rR u bank (X%256) X S Pc (X%256==0) (decide (127<X%256)) C I arg rd) 161 (0,0))∧Wrote (fun b _=>b=z) w w':=by
 go_enter Tryz.func201,Tryz.ntmps201
 go_upto_region 0 with (fail)
 have cg:=fun d os=>Ag (Aa k (below_regrown w d os) (Ac k))
 refine A6 (n:=13) (by kernel_rfl) (by kernel_rfl) rfl ?_;simp only [List.take_succ_cons,List.take_zero]
 iterate 4 (go_big_quiet_step (fail))
 refine Bp _ _ rfl rfl z 2 (by go_simp) _ _ (cR A X S Pc Z N C I) _ _ k (Gu rfl rfl rfl rfl rfl rfl rfl rfl) Tryz.underlying43 rfl Cc ?_;simp only [Act.put,List.setIfInBounds_toArray,List.set_cons_succ,List.set_cons_zero]
 iterate 5 (go_big_quiet_step (fail))
 go_big_quiet_step ((go_at_call 228; exact Calls.regrown_of (Er _ A X S Pc Z N C I X)))
 iterate 2 (go_big_quiet_step (fail))
 refine wpQuiet_nil ?_;intro w' hw';obtain ⟨⟨d,os⟩,rfl⟩:=hw';clear cg;have L:=below_regrown w d os;have rB:=Aa k L (Ac k);generalize grow (redrawn w d) os=W at *;refine Bg _ _ _ rfl z 2 (cR (X%256) X S Pc (X%256==0) (decide (127<X%256)) C I) (by go_simp) (by go_simp) _ _ rB Cc (by show (2+8:Nat)≤12; omega) (by first | rfl | simp [Value.oneCell']) ?_;go_wp2
 go_end0
 exact ⟨rfl,setRow_heap _ _ _ _ _ _ rB,(Ab L _).trans (Ce rB _)⟩
theorem Qj (w:World) (z:Nat) (u:Value) (bank A X S Pc:Int) (Z N C I:Bool) (arg rd:Int) (k:w.heap[z]?=some (.cells (rR u bank A X S Pc Z N C I arg rd) 161 (0,0))) :
  Calls Tryz.prog 202 #[(pt z 0)] w fun e w'=>e=.returned (.tuple #[])∧w'.heap[z]?=some (.cells (rR u bank A ((IntKind.i64.wrap (X+1))%256) S Pc ((IntKind.i64.wrap (X+1))%256==0) (decide (127<(IntKind.i64.wrap (X+1))%256)) C I arg rd) 161 (0,0))∧Wrote (fun b _=>b=z) w w':=by
 rw [show IntKind.i64.wrap (X+1)=wrap64 (X+1) from IntWalk.i64_left _]
 go_enter Tryz.func202,Tryz.ntmps202
 go_upto_region 0 with (fail)
 have cg:=fun d os=>Ag (Aa k (below_regrown w d os) (Ac k))
 refine A6 (n:=14) (by kernel_rfl) (by kernel_rfl) rfl ?_;simp only [List.take_succ_cons,List.take_zero]
 iterate 4 (go_big_quiet_step (fail))
 refine Bp _ _ rfl rfl z 2 (by go_simp) _ _ (cR A X S Pc Z N C I) _ _ k (Gu rfl rfl rfl rfl rfl rfl rfl rfl) Tryz.underlying43 rfl Cc ?_;simp only [Act.put,List.setIfInBounds_toArray,List.set_cons_succ,List.set_cons_zero]
 iterate 6 (go_big_quiet_step (fail))
 go_big_quiet_step ((go_at_call 233; exact Calls.regrown_of (Ll _ A X S Pc Z N C I _)))
 iterate 2 (go_big_quiet_step (fail))
 refine wpQuiet_nil ?_;intro w' hw';obtain ⟨⟨d,os⟩,rfl⟩:=hw';clear cg;have L:=below_regrown w d os;have rB:=Aa k L (Ac k);generalize grow (redrawn w d) os=W at *;refine Bg _ _ _ rfl z 2 (cR A ((wrap64 (X+1))%256) S Pc ((wrap64 (X+1))%256==0) (decide (127<(wrap64 (X+1))%256)) C I) (by go_simp) (by go_simp) _ _ rB Cc (by show (2+8:Nat)≤12; omega) (by first | rfl | simp [Value.oneCell']) ?_;go_wp2
 go_end0
 exact ⟨rfl,setRow_heap _ _ _ _ _ _ rB,(Ab L _).trans (Ce rB _)⟩
theorem Qk (w:World) (z:Nat) (u:Value) (bank A X S Pc:Int) (Z N C I:Bool) (arg rd:Int) (k:w.heap[z]?=some (.cells (rR u bank A X S Pc Z N C I arg rd) 161 (0,0))) :
  Calls Tryz.prog 203 #[(pt z 0)] w fun e w'=>e=.returned (.tuple #[])∧w'.heap[z]?=some (.cells (rR u bank A ((IntKind.i64.wrap (X-1))%256) S Pc ((IntKind.i64.wrap (X-1))%256==0) (decide (127<(IntKind.i64.wrap (X-1))%256)) C I arg rd) 161 (0,0))∧Wrote (fun b _=>b=z) w w':=by
 rw [show IntKind.i64.wrap (X-1)=wrap64 (X-1) from IntWalk.i64_left _]
 go_enter Tryz.func203,Tryz.ntmps203
 go_upto_region 0 with (fail)
 have cg:=fun d os=>Ag (Aa k (below_regrown w d os) (Ac k))
 refine A6 (n:=14) (by kernel_rfl) (by kernel_rfl) rfl ?_;simp only [List.take_succ_cons,List.take_zero]
 iterate 4 (go_big_quiet_step (fail))
 refine Bp _ _ rfl rfl z 2 (by go_simp) _ _ (cR A X S Pc Z N C I) _ _ k (Gu rfl rfl rfl rfl rfl rfl rfl rfl) Tryz.underlying43 rfl Cc ?_;simp only [Act.put,List.setIfInBounds_toArray,List.set_cons_succ,List.set_cons_zero]
 iterate 6 (go_big_quiet_step (fail))
 go_big_quiet_step ((go_at_call 233; exact Calls.regrown_of (Ll _ A X S Pc Z N C I _)))
 iterate 2 (go_big_quiet_step (fail))
 refine wpQuiet_nil ?_;intro w' hw';obtain ⟨⟨d,os⟩,rfl⟩:=hw';clear cg;have L:=below_regrown w d os;have rB:=Aa k L (Ac k);generalize grow (redrawn w d) os=W at *;refine Bg _ _ _ rfl z 2 (cR A ((wrap64 (X-1))%256) S Pc ((wrap64 (X-1))%256==0) (decide (127<(wrap64 (X-1))%256)) C I) (by go_simp) (by go_simp) _ _ rB Cc (by show (2+8:Nat)≤12; omega) (by first | rfl | simp [Value.oneCell']) ?_;go_wp2
 go_end0
 exact ⟨rfl,setRow_heap _ _ _ _ _ _ rB,(Ab L _).trans (Ce rB _)⟩
theorem Kt (w:World) (z:Nat) (u:Value) (bank A X S Pc:Int) (Z N C I:Bool) (arg rd:Int) (k:w.heap[z]?=some (.cells (rR u bank A X S Pc Z N C I arg rd) 161 (0,0))) :
  Calls Tryz.prog 154 #[(pt z 0)] w fun e w'=>e=.returned (.tuple #[])∧w'.heap[z]?=some (.cells (rR u bank A X S Pc Z N C true arg rd) 161 (0,0))∧Wrote (fun b _=>b=z) w w':=by
 have c:=Ag k;have f:=As k
 go_enter Tryz.func154,Tryz.ntmps154
 have HB:=Af (o:=9) (k) (.bool true);simp only [List.setIfInBounds_toArray,List.set_cons_succ,List.set_cons_zero] at HB;have TT:=Ad (Wrote.setCell (b:=z) (o:=9) (R:=fun b _=>b=z) (Wrote.refl (fun b _=>b=z) w) (fun _=>rfl) (.bool true));have HBB:=Ad HB;clear HB;go_wp2
 go_end0
 exact ⟨rfl,HBB.out,TT.out⟩
theorem N2 (w:World) (z:Nat) (u:Value) (bank A X S Pc:Int) (Z N C I:Bool) (arg rd:Int) (k:w.heap[z]?=some (.cells (rR u bank A X S Pc Z N C I arg rd) 161 (0,0))) :
  Calls Tryz.prog 213 #[(pt z 0)] w fun e w'=>e=.returned (.tuple #[])∧w'.heap[z]?=some (.cells (rR u bank A X S Pc Z N C false arg rd) 161 (0,0))∧Wrote (fun b _=>b=z) w w':=by
 have c:=Ag k;have f:=As k
 go_enter Tryz.func213,Tryz.ntmps213
 have HB:=Af (o:=9) (k) (.bool false);simp only [List.setIfInBounds_toArray,List.set_cons_succ,List.set_cons_zero] at HB;have TT:=Ad (Wrote.setCell (b:=z) (o:=9) (R:=fun b _=>b=z) (Wrote.refl (fun b _=>b=z) w) (fun _=>rfl) (.bool false));have HBB:=Ad HB;clear HB;go_wp2
 go_end0
 exact ⟨rfl,HBB.out,TT.out⟩
theorem Ql (w:World) (z:Nat) (u:Value) (bank A X S Pc:Int) (Z N C I:Bool) (arg rd:Int) (k:w.heap[z]?=some (.cells (rR u bank A X S Pc Z N C I arg rd) 161 (0,0))) :
  Calls Tryz.prog 214 #[(pt z 0)] w fun e w'=>e=.returned (.tuple #[])∧w'.heap[z]?=some (.cells (rR u bank A X S Pc Z N true I arg rd) 161 (0,0))∧Wrote (fun b _=>b=z) w w':=by
 have c:=Ag k;have f:=As k
 go_enter Tryz.func214,Tryz.ntmps214
 have HB:=Af (o:=8) (k) (.bool true);simp only [List.setIfInBounds_toArray,List.set_cons_succ,List.set_cons_zero] at HB;have TT:=Ad (Wrote.setCell (b:=z) (o:=8) (R:=fun b _=>b=z) (Wrote.refl (fun b _=>b=z) w) (fun _=>rfl) (.bool true));have HBB:=Ad HB;clear HB;go_wp2
 go_end0
 exact ⟨rfl,HBB.out,TT.out⟩
theorem My (w:World) (z:Nat) (u:Value) (bank A X S Pc:Int) (Z N C I:Bool) (arg rd:Int) (k:w.heap[z]?=some (.cells (rR u bank A X S Pc Z N C I arg rd) 161 (0,0))) :
  Calls Tryz.prog 215 #[(pt z 0)] w fun e w'=>e=.returned (.tuple #[])∧w'.heap[z]?=some (.cells (rR u bank A X S Pc Z N false I arg rd) 161 (0,0))∧Wrote (fun b _=>b=z) w w':=by
 have c:=Ag k;have f:=As k
 go_enter Tryz.func215,Tryz.ntmps215
 have HB:=Af (o:=8) (k) (.bool false);simp only [List.setIfInBounds_toArray,List.set_cons_succ,List.set_cons_zero] at HB;have TT:=Ad (Wrote.setCell (b:=z) (o:=8) (R:=fun b _=>b=z) (Wrote.refl (fun b _=>b=z) w) (fun _=>rfl) (.bool false));have HBB:=Ad HB;clear HB;go_wp2
 go_end0
 exact ⟨rfl,HBB.out,TT.out⟩
theorem Mz (w:World) (z:Nat) (u:Value) (bank A X S Pc:Int) (Z N C I:Bool) (arg rd:Int) (k:w.heap[z]?=some (.cells (rR u bank A X S Pc Z N C I arg rd) 161 (0,0))) :
  Calls Tryz.prog 207 #[(pt z 0)] w fun e w'=>e=.returned (.tuple #[])∧w'.heap[z]?=some (.cells (rR u bank A X S (arg%65536) Z N C I arg rd) 161 (0,0))∧Wrote (fun b _=>b=z) w w':=by
 have c:=Ag k;have f:=As k
 go_enter Tryz.func207,Tryz.ntmps207
 go_wp2_with fail;refine (Gh arg w).mono ?_;rintro e W1 ⟨rfl,hW1⟩;rw [hW1];clear hW1 W1;have HB:=Af (o:=5) (k) (.i (arg%65536));simp only [List.setIfInBounds_toArray,List.set_cons_succ,List.set_cons_zero] at HB;have TT:=Ad (Wrote.setCell (b:=z) (o:=5) (R:=fun b _=>b=z) (Wrote.refl (fun b _=>b=z) w) (fun _=>rfl) (.i (arg%65536)));have HBB:=Ad HB;clear HB;go_wp2
 go_end0
 exact ⟨rfl,HBB.out,TT.out⟩
theorem Jc (w:World) (z:Nat) (u:Value) (bank A X S Pc:Int) (Z N C I:Bool) (arg rd:Int) (so:Bool) (k:w.heap[z]?=some (.cells (rR u bank A X S Pc Z N C I arg rd) 161 (0,0))) :
  Calls Tryz.prog 234 #[(pt z 0),.bool so] w fun e w'=>e=.returned (.tuple #[])∧w'.heap[z]?=some (.cells (rR u bank A X S (if so=true then arg%65536 else Pc) Z N C I arg rd) 161 (0,0))∧Wrote (fun b _=>b=z) w w':=by
 have c:=Ag k;have f:=As k
 go_enter Tryz.func234,Tryz.ntmps234
 cases so
 ·go_wp2
  go_end0
  exact ⟨rfl,k,Wrote.refl _ _⟩
 ·go_wp2_with fail
  refine (Mz w z u bank A X S Pc Z N C I arg rd k).mono ?_;rintro e W1 ⟨rfl,kk,hW⟩;have KK:=Ad kk;have HW:=Ad hW;clear kk hW c f;go_wp2
  go_end0
  exact ⟨rfl,KK.out,HW.out⟩
theorem Kw (w:World) (z:Nat) (u:Value) (bank A X S Pc:Int) (Z N C I:Bool) (arg rd:Int) (k:w.heap[z]?=some (.cells (rR u bank A X S Pc Z N C I arg rd) 161 (0,0))) :
  Calls Tryz.prog 204 #[(pt z 0)] w fun e w'=>e=.returned (.tuple #[])∧w'.heap[z]?=some (.cells (rR u bank A X S (if (!Z)=true then arg%65536 else Pc) Z N C I arg rd) 161 (0,0))∧Wrote (fun b _=>b=z) w w':=by
 obtain ⟨pj,hpj⟩:∃ x:Int,Hid (x=if (!Z)=true then arg%65536 else Pc):=⟨_,rfl⟩
 have HJ:=Ad (Jc w z u bank A X S Pc Z N C I arg rd (!Z) k);rw [← hpj.out] at HJ ⊢;clear hpj;have c:=Ag k;have f:=As k
 go_enter Tryz.func204,Tryz.ntmps204
 go_wp2_with fail;refine HJ.out.mono ?_;rintro e W1 ⟨rfl,kk,hW⟩;have KK:=Ad kk;have HW:=Ad hW;clear kk hW c f;go_wp2
 go_end0
 exact ⟨rfl,KK.out,HW.out⟩
theorem Qm (w:World) (z:Nat) (u:Value) (bank A X S Pc:Int) (Z N C I:Bool) (arg rd:Int) (k:w.heap[z]?=some (.cells (rR u bank A X S Pc Z N C I arg rd) 161 (0,0))) :
  Calls Tryz.prog 205 #[(pt z 0)] w fun e w'=>e=.returned (.tuple #[])∧w'.heap[z]?=some (.cells (rR u bank A X S (if (Z)=true then arg%65536 else Pc) Z N C I arg rd) 161 (0,0))∧Wrote (fun b _=>b=z) w w':=by
 obtain ⟨pj,hpj⟩:∃ x:Int,Hid (x=if (Z)=true then arg%65536 else Pc):=⟨_,rfl⟩
 have HJ:=Ad (Jc w z u bank A X S Pc Z N C I arg rd (Z) k);rw [← hpj.out] at HJ ⊢;clear hpj;have c:=Ag k;have f:=As k
 go_enter Tryz.func205,Tryz.ntmps205
 go_wp2_with fail;refine HJ.out.mono ?_;rintro e W1 ⟨rfl,kk,hW⟩;have KK:=Ad kk;have HW:=Ad hW;clear kk hW c f;go_wp2
 go_end0
 exact ⟨rfl,KK.out,HW.out⟩
theorem N3 (w:World) (z:Nat) (u:Value) (bank A X S Pc:Int) (Z N C I:Bool) (arg rd:Int) (k:w.heap[z]?=some (.cells (rR u bank A X S Pc Z N C I arg rd) 161 (0,0))) :
  Calls Tryz.prog 206 #[(pt z 0)] w fun e w'=>e=.returned (.tuple #[])∧w'.heap[z]?=some (.cells (rR u bank A X S (if (C)=true then arg%65536 else Pc) Z N C I arg rd) 161 (0,0))∧Wrote (fun b _=>b=z) w w':=by
 obtain ⟨pj,hpj⟩:∃ x:Int,Hid (x=if (C)=true then arg%65536 else Pc):=⟨_,rfl⟩
 have HJ:=Ad (Jc w z u bank A X S Pc Z N C I arg rd (C) k);rw [← hpj.out] at HJ ⊢;clear hpj;have c:=Ag k;have f:=As k
 go_enter Tryz.func206,Tryz.ntmps206
 go_wp2_with fail;refine HJ.out.mono ?_;rintro e W1 ⟨rfl,kk,hW⟩;have KK:=Ad kk;have HW:=Ad hW;clear kk hW c f;go_wp2
 go_end0
 exact ⟨rfl,KK.out,HW.out⟩
end Go.Proofs.YtgcmimcalmjaaaaGreatDoor
