import Derived.Test.YtgcmimcalmjaaaaGreatDoorC5
import Derived.Laws.StructEq
namespace Go.Proofs.YtgcmimcalmjaaaaGreatDoor
set_option linter.unusedVariables false
open Go.ChangeShapes Go.WideShapes Go.ChangeAt Go.RowKit
theorem Jbx (w:World) (d:Nat) (v0 v1 v2 v3 v4 v5 v6 v7:Value):Below d w ((((((((w.setCell ⟨d,0,none⟩ v0).setCell ⟨d,1,none⟩ v1).setCell ⟨d,2,none⟩ v2).setCell ⟨d,3,none⟩ v3).setCell ⟨d,4,none⟩ v4).setCell ⟨d,5,none⟩ v5).setCell ⟨d,6,none⟩ v6).setCell ⟨d,7,none⟩ v7) :=
 ((((((((Below.refl d w).setCell (Nat.le_refl _) _).setCell (Nat.le_refl _) _).setCell (Nat.le_refl _) _).setCell (Nat.le_refl _) _).setCell (Nat.le_refl _) _).setCell (Nat.le_refl _) _).setCell (Nat.le_refl _) _).setCell (Nat.le_refl _) _
theorem Jai (W:World) (A X S Pc A' X' S' Pc':Int) (Z N C I:Bool):(binOp .eql 43 (.agg (cR A' X' S' Pc' Z N C I)) (.agg (cR A X S Pc Z N C I))).run Tryz.prog W=.ok (.bool (A'==A && (X'==X && (S'==S && Pc'==Pc)))) W:=by
 obtain ⟨fs,hfs,hf⟩:∃ fs,Tryz.prog.underlying 43=some (.struct fs)∧Tryz.prog.fieldsOf 43=fs:=⟨_,Tryz.underlying43,by unfold Program.fieldsOf; rw [Tryz.underlying43]⟩
 have hu':Tryz.prog.underlying 43=some (.struct (Tryz.prog.fieldsOf 43)):=by rw [hf,hfs]
 rw [run_eql_struct,show (10000:Nat)=9999+1 from rfl,run_equalIn_agg W 9999 43 _ _ hu' (by kernel_rfl),hf];obtain rfl:=TypeDesc.struct.inj (Option.some.inj (hfs.symm.trans Tryz.underlying43))
 cases hA:A'==A <;> cases hX:X'==X <;> cases hS:S'==S <;> cases hP:Pc'==Pc <;> simp [Op.eqFields,go_sem,Tryz.underlying3,Tryz.underlying4,hA,hX,hS,hP]
theorem Jby (A X S Pc:Int):(A%256==A && (X%256==X && (S%256==S && Pc%65536==Pc)))=It A X S Pc:=by
 have b:∀ x:Int,(x%256==x)=Cs x 0 255:=fun x=>by
  by_cases h:0≤x∧x≤255
  ·rw [Bn h]; exact beq_iff_eq.2 (by omega)
  ·rw [Cu h]; exact beq_eq_false_iff_ne.2 (by omega)
 have p:∀ x:Int,(x%65536==x)=Cs x 0 65535:=fun x=>by
  by_cases h:0≤x∧x≤65535
  ·rw [Bn h]; exact beq_iff_eq.2 (by omega)
  ·rw [Cu h]; exact beq_eq_false_iff_ne.2 (by omega)
 unfold It;rw [b,b,b,p];simp only [Bool.and_assoc]
def Q0 (f m:Int) (on:Bool):Int:=if on then bits .or .u8 f m else bits .andNot .u8 f m
def Hu (f m:Int):Bool:=bits .and .u8 f m != 0
def Jq (f o:Int):Int:=bits .or .u8 (bits .andNot .u8 f 130) (2*Av (o==0)+128*Av (decide (127<o)))
theorem Yn (Z N C I:Bool):Q0 (Q0 (Q0 (Q0 0 1 C) 2 Z) 4 I) 128 N=flagsOf Z N C I:=by
 cases Z <;> cases N <;> cases C <;> cases I <;> decide
theorem Yo (Z N C I:Bool) (o:Int):Hu (Jq (flagsOf Z N C I) o) 1=C:=by
 unfold Jq;generalize (o==0)=a;generalize decide (127<o)=b
 cases Z <;> cases N <;> cases C <;> cases I <;> cases a <;> cases b <;> decide
theorem Yp (Z N C I:Bool) (o:Int):Hu (Jq (flagsOf Z N C I) o) 4=I:=by
 unfold Jq;generalize (o==0)=a;generalize decide (127<o)=b
 cases Z <;> cases N <;> cases C <;> cases I <;> cases a <;> cases b <;> decide
theorem Yq (Z N C I:Bool) (o:Int):Hu (Jq (flagsOf Z N C I) o) 2=(o==0):=by
 unfold Jq;generalize (o==0)=a;generalize decide (127<o)=b
 cases Z <;> cases N <;> cases C <;> cases I <;> cases a <;> cases b <;> decide
theorem Yr (Z N C I:Bool) (o:Int):Hu (Jq (flagsOf Z N C I) o) 128=decide (127<o):=by
 unfold Jq;generalize (o==0)=a;generalize decide (127<o)=b
 cases Z <;> cases N <;> cases C <;> cases I <;> cases a <;> cases b <;> decide
theorem Vu (w:World) (f m:Int) (on:Bool):Calls Tryz.prog 220 #[.int .u8 f,.int .u8 m,.bool on] w fun e w'=>e=.returned (.int .u8 (Q0 f m on))∧w'=w:=by
 cases on <;> (go_enter Tryz.func220,Tryz.ntmps220; go_wp2; go_ret; exact ⟨rfl,rfl⟩)
theorem Vv (w:World) (f m:Int):Calls Tryz.prog 242 #[.int .u8 f,.int .u8 m] w fun e w'=>e=.returned (.bool (Hu f m))∧w'=w:=Jk f m w
theorem Jr (w:World) (f o:Int) (o0:0≤o) (o1:o<256):Calls Tryz.prog 239 #[.int .u8 f,.int .u8 o] w fun e w'=>e=.returned (.int .u8 (Jq f o))∧w'=w:=by
 go_enter Tryz.func239,Tryz.ntmps239
 go_wp2_with (go_at_call 244; refine (Qu _ _ o0 o1).mono ?_; rintro e w' ⟨rfl,rfl⟩);go_ret;exact ⟨rfl,rfl⟩
theorem Jaj (w:World) (x:Int):Calls Tryz.prog 246 #[.i x] w fun e w'=>e=.returned (.int .u8 (x%256))∧w'=w:=by
 go_enter Tryz.func246,Tryz.ntmps246
 go_wp2;go_ret;exact ⟨rfl,rfl⟩
theorem Pr (w:World) (A X S Pc:Int) (Z N C I:Bool):Calls Tryz.prog 178 #[.agg (cR A X S Pc Z N C I)] w
  fun e w'=>e=.returned (.agg #[.int .u8 (flagsOf Z N C I),.i A,.i X,.i S,.i Pc])∧Below w.heap.size w w':=by
 have e:=Ad (Yn Z N C I)
 go_enter Tryz.func178,Tryz.ntmps178
 go_wp2_with (go_at_call 220; refine (Vu _ _ _ _).mono ?_; rintro e w' ⟨rfl,rfl⟩);refine bodyPost_ret (v:=.agg #[.int .u8 (flagsOf Z N C I),.i A,.i X,.i S,.i Pc]) (by simp [results,Tryz.results178,go_sem,An e]) rfl ?_;exact ⟨rfl,(((Below.refl _ _).alloc (Nat.le_refl _) _).alloc (by simp) _).alloc (by simp; omega) _⟩
theorem Ps (w:World) (F A X S Pc:Int):Calls Tryz.prog 240 #[.agg #[.int .u8 (F),.i A,.i X,.i S,.i Pc]] w
  fun e w'=>e=.returned (.agg (cR A X S Pc (Hu F 2) (Hu F 128) (Hu F 1) (Hu F 4)))∧Below w.heap.size w w':=by
 go_enter Tryz.func240,Tryz.ntmps240
 go_wp2_with fail
 go_region_held3 (fun w'=>w'.cell? ⟨w.heap.size,0,none⟩=some (.int .u8 F)∧w'.cell? ⟨w.heap.size,1,none⟩=some (.i A)∧w'.cell? ⟨w.heap.size,2,none⟩=some (.i X)∧w'.cell? ⟨w.heap.size,3,none⟩=some (.i S)∧w'.cell? ⟨w.heap.size,4,none⟩=some (.i Pc)) (first | assumption | go_keep) ((go_at_call 242; refine (Vv _ _ _).mono ?_; rintro e w' ⟨rfl,rfl⟩))
 all_goals (go_wp2; refine bodyPost_ret (v:=.agg (cR A X S Pc (Hu F 2) (Hu F 128) (Hu F 1) (Hu F 4))) (by simp [results,Tryz.results240,go_sem]) rfl ?_)
 all_goals exact ⟨rfl,(((Below.refl _ _).alloc (Nat.le_refl _) _).alloc (by simp) _).drew⟩
theorem Vw (w:World) (A X S Pc:Int) (Z N C I:Bool):Calls Tryz.prog 66 #[.agg (cR A X S Pc Z N C I)] w
  fun e w'=>e=.returned (.bool (It A X S Pc))∧Below w.heap.size w w':=by
 have hq:=fun W=>Jai W A X S Pc (A%256) (X%256) (S%256) (Pc%65536) Z N C I
 have ho:=Ad (Jby A X S Pc)
 go_enter Tryz.func66,Tryz.ntmps66
 go_wp2_with fail
 go_region_held3 (fun w'=>w'.cell? ⟨w.heap.size,0,none⟩=some (.i A)∧w'.cell? ⟨w.heap.size,1,none⟩=some (.i X)∧w'.cell? ⟨w.heap.size,2,none⟩=some (.i S)∧w'.cell? ⟨w.heap.size,3,none⟩=some (.i Pc)) (first | assumption | go_keep) (first | (go_at_call 98; refine (Ck _ _).mono ?_; rintro e w' ⟨rfl,rfl⟩) | (go_at_call 99; refine (Gh _ _).mono ?_; rintro e w' ⟨rfl,rfl⟩))
 all_goals go_wp2
 all_goals go_ret
 all_goals exact ⟨Ap (An ho),(((Below.refl _ _).alloc (Nat.le_refl _) _).alloc (by simp) _).drew⟩
theorem Vx (w:World) (A X S Pc:Int) (Z N C I:Bool):Calls Tryz.prog 153 #[.agg (cR A X S Pc Z N C I)] w
  fun e w'=>e=.returned (.i (flagsOf Z N C I))∧Below w.heap.size w w':=by
 go_enter Tryz.func153,Tryz.ntmps153
 go_wp2_with fail;refine (Pr _ A X S Pc Z N C I).mono ?_;rintro e w1 ⟨rfl,L1⟩
 have b0:0≤flagsOf Z N C I∧flagsOf Z N C I<256:=by cases Z <;> cases N <;> cases C <;> cases I <;> decide
 generalize hF:flagsOf Z N C I=F at *
 have hf:∀ W,(Instr.field 173 (.agg #[.int .u8 F,.i A,.i X,.i S,.i Pc]) 0).run Tryz.prog W=.ok (.int .u8 F) W:=fun W=>by kernel_rfl
 go_wp2;go_ret;exact ⟨Az hF.symm,Ae ((Below.refl _ _).alloc (Nat.le_refl _) _) L1⟩
theorem Er (w:World) (A X S Pc:Int) (Z N C I:Bool) (v:Int):Calls Tryz.prog 228 #[.agg (cR A X S Pc Z N C I),.i v] w
  fun e w'=>e=.returned (.agg (cR (v%256) X S Pc (v%256==0) (decide (127<v%256)) C I))∧Below w.heap.size w w':=by
 have e1:=Ad (Yo Z N C I (v%256));have e2:=Ad (Yq Z N C I (v%256));have e4:=Ad (Yp Z N C I (v%256));have e8:=Ad (Yr Z N C I (v%256))
 go_enter Tryz.func228,Tryz.ntmps228
 go_wp2_with fail;refine (Pr _ A X S Pc Z N C I).mono ?_;rintro e w1 ⟨rfl,L1⟩;have K1:=Aa (Al (w.alloc _) _ _) L1 (by simp);have M1:=((((Below.refl _ _).alloc (Nat.le_refl _) _).alloc (by simp) _)).trans (L1.mono (by simp; omega));simp only [World.size_alloc] at K1;generalize flagsOf Z N C I=F at *;clear L1;go_wp2_with (first | (go_at_call 98; refine (Ck _ _).mono ?_; rintro e w' ⟨rfl,rfl⟩) | (go_at_call 239; refine (Jr _ _ _ (by omega) (by omega)).mono ?_; rintro e w' ⟨rfl,rfl⟩));refine (Ps _ _ _ _ _ _).mono ?_;rintro e w2 ⟨rfl,L2⟩;have K2:=Aa (Ax K1 _) L2 (by have:=Ac K1; simp; omega);have c2:=Ag K2;have f2:=As K2;rw [An e1,An e2,An e4,An e8];go_wp2;refine bodyPost_ret (v:=.agg (cR (v%256) X S Pc (v%256==0) (decide (127<v%256)) C I)) (by simp [results,Tryz.results228,go_sem,c2]) rfl ?_
 exact ⟨rfl,(M1.trans ((((Below.refl _ _).alloc (Nat.le_refl _) _).trans (L2.mono (by simp))).mono M1.size)).trans ((Jbx w2 _ _ _ _ _ _ _ _ _).mono (by omega))⟩
theorem Ll (w:World) (A X S Pc:Int) (Z N C I:Bool) (v:Int):Calls Tryz.prog 233 #[.agg (cR A X S Pc Z N C I),.i v] w
  fun e w'=>e=.returned (.agg (cR A (v%256) S Pc (v%256==0) (decide (127<v%256)) C I))∧Below w.heap.size w w':=by
 have e1:=Ad (Yo Z N C I (v%256));have e2:=Ad (Yq Z N C I (v%256));have e4:=Ad (Yp Z N C I (v%256));have e8:=Ad (Yr Z N C I (v%256))
 go_enter Tryz.func233,Tryz.ntmps233
 go_wp2_with fail;refine (Pr _ A X S Pc Z N C I).mono ?_;rintro e w1 ⟨rfl,L1⟩;have K1:=Aa (Al (w.alloc _) _ _) L1 (by simp);have M1:=((((Below.refl _ _).alloc (Nat.le_refl _) _).alloc (by simp) _)).trans (L1.mono (by simp; omega));simp only [World.size_alloc] at K1;generalize flagsOf Z N C I=F at *;clear L1;go_wp2_with (first | (go_at_call 98; refine (Ck _ _).mono ?_; rintro e w' ⟨rfl,rfl⟩) | (go_at_call 239; refine (Jr _ _ _ (by omega) (by omega)).mono ?_; rintro e w' ⟨rfl,rfl⟩));refine (Ps _ _ _ _ _ _).mono ?_;rintro e w2 ⟨rfl,L2⟩;have K2:=Aa (Ax K1 _) L2 (by have:=Ac K1; simp; omega);have c2:=Ag K2;have f2:=As K2;rw [An e1,An e2,An e4,An e8];go_wp2;refine bodyPost_ret (v:=.agg (cR A (v%256) S Pc (v%256==0) (decide (127<v%256)) C I)) (by simp [results,Tryz.results233,go_sem,c2]) rfl ?_
 exact ⟨rfl,(M1.trans ((((Below.refl _ _).alloc (Nat.le_refl _) _).trans (L2.mono (by simp))).mono M1.size)).trans ((Jbx w2 _ _ _ _ _ _ _ _ _).mono (by omega))⟩
theorem Np (w:World) (A X S Pc:Int) (Z N C I:Bool) (v:Int):Calls Tryz.prog 236 #[.agg (cR A X S Pc Z N C I),.i v] w
  fun e w'=>e=.returned (.agg (cR A X S Pc (hasB v 2) (hasB v 128) (hasB v 1) (hasB v 4)))∧Below w.heap.size w w':=by
 have e1:Hid (Hu (v%256) 1=hasB v 1):=Ad (Pq v 1 (by omega));have e2:Hid (Hu (v%256) 2=hasB v 2):=Ad (Pq v 2 (by omega));have e4:Hid (Hu (v%256) 4=hasB v 4):=Ad (Pq v 4 (by omega));have e8:Hid (Hu (v%256) 128=hasB v 128):=Ad (Pq v 128 (by omega))
 go_enter Tryz.func236,Tryz.ntmps236
 go_wp2_with fail;refine (Pr _ A X S Pc Z N C I).mono ?_;rintro e w1 ⟨rfl,L1⟩;have K1:=Aa (Al (w.alloc _) _ _) L1 (by simp);have M1:=((((Below.refl _ _).alloc (Nat.le_refl _) _).alloc (by simp) _)).trans (L1.mono (by simp; omega));simp only [World.size_alloc] at K1;clear L1;go_wp2_with (go_at_call 246; refine (Jaj _ _).mono ?_; rintro e w' ⟨rfl,rfl⟩);refine (Ps _ _ _ _ _ _).mono ?_;rintro e w2 ⟨rfl,L2⟩;have K2:=Aa (Ax K1 _) L2 (by have:=Ac K1; simp; omega);have c2:=Ag K2;have f2:=As K2;rw [An e1,An e2,An e4,An e8];go_wp2;refine bodyPost_ret (v:=.agg (cR A X S Pc (hasB v 2) (hasB v 128) (hasB v 1) (hasB v 4))) (by simp [results,Tryz.results236,go_sem,c2]) rfl ?_
 exact ⟨rfl,(M1.trans ((((Below.refl _ _).alloc (Nat.le_refl _) _).trans (L2.mono (by simp))).mono M1.size)).trans ((Jbx w2 _ _ _ _ _ _ _ _ _).mono (by omega))⟩
end Go.Proofs.YtgcmimcalmjaaaaGreatDoor
