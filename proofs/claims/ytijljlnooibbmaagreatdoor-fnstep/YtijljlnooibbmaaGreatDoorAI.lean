import Derived.Test.YtijljlnooibbmaaGreatDoorSW
import Derived.Laws.EntriesVeiled
namespace Go.Proofs.YtijljlnooibbmaaGreatDoor
set_option maxHeartbeats 2000000
open Go.Proofs.Tryz
set_option linter.unusedVariables false
set_option linter.unusedSimpArgs false
open Go.ChangeShapes Go.WideShapes Go.ChangeAt Go.RowKit Go.Sort
theorem Db {n:Nat} {u w:World} (h:Below n u w):Below n u w.drew:=⟨h.os,h.tape,h.output,h.size,h.block⟩
theorem Ld (w:World):Calls prog 183 #[] w fun e w'=>e=.returned (.agg #[.func (.func 220) #[] #[],.func (.func 221) #[] #[],.func (.func 222) #[] #[],.func (.func 223) #[] #[]])/\Below w.heap.size w w':=by
 have hmf:∀ (fn:Fn) (first cap:Array Value) (w:World),(Instr.makeFunc fn first cap).run prog w=.ok (.func fn first cap) w:=fun _ _ _ _=>rfl
 have k0:=Ak w #[.nilFunc,.nilFunc,.nilFunc,.nilFunc] 196;have L0:Below w.heap.size w (w.alloc (.cells #[.nilFunc,.nilFunc,.nilFunc,.nilFunc] 196)):=(Below.refl _ _).alloc (Nat.le_refl _) _
 go_enter func183,ntmps183
 go_upto_region 1 with (fail);generalize w.alloc (.cells #[.nilFunc,.nilFunc,.nilFunc,.nilFunc] 196)=W0 at *;have c0:=Af k0;have f0:=Au k0;have k4:=Bv (Bv (Bv (Bv k0 0 (.func (.func 220) #[] #[])) 1 (.func (.func 221) #[] #[])) 2 (.func (.func 222) #[] #[])) 3 (.func (.func 223) #[] #[]);simp only [Sa,Sb,Sc] at k4;have c4:=Af k4;go_wp2;refine bodyPost_ret (v:=.agg #[.func (.func 220) #[] #[],.func (.func 221) #[] #[],.func (.func 222) #[] #[],.func (.func 223) #[] #[]]) (by simp [results,results183,go_sem,c4]) rfl ?_;exact ⟨rfl,(((L0.setCell (Nat.le_refl _) _).setCell (Nat.le_refl _) _).setCell (Nat.le_refl _) _).setCell (Nat.le_refl _) _⟩
theorem Jae (w:World) (z:Nat) (T P C B L:Int) (S Q:Bool) (v:Int) (hb:w.heap[z]?=some (.cells (aR T P C B L S Q) 35 (0,0))) :
  Calls prog 220 #[(pt z 0),.i (v%256)] w fun e w'=>e=.returned (.tuple #[])/\w'.heap[z]?=some (.cells (aR T (v%256) C B L S Q) 35 (0,0))/\Wrote (fun b _=>b=z) w w':=by
 obtain ⟨u,hu⟩:∃ u,Hid (u=v%256):=⟨_,rfl⟩
 have u0:0<=u:=by rw [hu.out]; omega
 have u1:u<256:=by rw [hu.out]; omega
 rw [<- hu.out];have hc:=Af hb;have hf:=Au hb;have hb2:=Bv hb 1 (.i u);simp only [Sa,Sb,Sc] at hb2;have HX:=Ac (And.intro hb2 (Wrote.setCell (R:=fun b _=>b=z) (b:=z) (o:=1) (Wrote.refl _ w) (fun _=>rfl) (.i u)));clear hb2 hb
 go_enter func220,ntmps220
 go_wp2
 ((try simp only [Exit.inBlock,Exit.then]); first | (refine bodyPost_ret (results_none rfl _ _ _) rfl ?_) | (refine bodyPost_end (results_none rfl _ _ _) rfl ?_))
 exact ⟨rfl,HX.out.1,HX.out.2⟩
theorem Jaf (w:World) (z:Nat) (T P C B L:Int) (S Q:Bool) (v:Int) (hb:w.heap[z]?=some (.cells (aR T P C B L S Q) 35 (0,0))) :
  Calls prog 221 #[(pt z 0),.i (v%256)] w fun e w'=>e=.returned (.tuple #[])/\w'.heap[z]?=some (.cells (aR T P C B (v%32) S Q) 35 (0,0))/\Wrote (fun b _=>b=z) w w':=by
 obtain ⟨u,hu⟩:∃ u,Hid (u=v%256):=⟨_,rfl⟩
 have u0:0<=u:=by rw [hu.out]; omega
 have u1:u<256:=by rw [hu.out]; omega
 have HE:Hid (v%32=u%32):=by show _=_; rw [hu.out]; omega
 rw [<- hu.out,HE.out];have tm:u.tmod 32=u%32:=Int.tmod_eq_emod_of_nonneg u0;have hc:=Af hb;have hf:=Au hb;have hb2:=Bv hb 4 (.i (u%32));simp only [Sa,Sb,Sc] at hb2;have HX:=Ac (And.intro hb2 (Wrote.setCell (R:=fun b _=>b=z) (b:=z) (o:=4) (Wrote.refl _ w) (fun _=>rfl) (.i (u%32))));clear hb2 hb
 go_enter func221,ntmps221
 go_wp2
 ((try simp only [Exit.inBlock,Exit.then]); first | (refine bodyPost_ret (results_none rfl _ _ _) rfl ?_) | (refine bodyPost_end (results_none rfl _ _ _) rfl ?_))
 exact ⟨rfl,HX.out.1,HX.out.2⟩
theorem Jep (w:World) (z:Nat) (T P C B L:Int) (S Q:Bool) (v:Int) (hb:w.heap[z]?=some (.cells (aR T P C B L S Q) 35 (0,0))) :
  Calls prog 222 #[(pt z 0),.i (v%256)] w fun e w'=>e=.returned (.tuple #[])/\w'.heap[z]?=some (.cells (aR T P C B L (v%2==1) (Q && (v%2==1))) 35 (0,0))/\Wrote (fun b _=>b=z) w w':=by
 obtain ⟨u,hu⟩:∃ u,Hid (u=v%256):=⟨_,rfl⟩
 have u0:0<=u:=by rw [hu.out]; omega
 have u1:u<256:=by rw [hu.out]; omega
 have tm:u.tmod 2=u%2:=Int.tmod_eq_emod_of_nonneg u0
 obtain ⟨o,ho⟩:∃ o,Hid (o=(v%2==1)):=⟨_,rfl⟩
 have ho2:(u%2 != 0)=o:=by
  rw [ho.out]
  have:u%2=v%2:=by rw [hu.out]; omega
  rw [this]
  rcases Int.emod_two_eq v with h | h <;> rw [h] <;> rfl
 rw [<- hu.out,<- ho.out];clear hu ho;have hc:=Af hb;have hf:=Au hb;have hb1:=Bv hb 5 (.bool o);simp only [Sa,Sb,Sc] at hb1;have hb2:=Bv hb1 6 (.bool (Q && o));simp only [Sa,Sb,Sc] at hb2;have hc1:=Af hb1;have hf1:=Au hb1;have HX:=Ac (And.intro hb2 (Wrote.setCell (b:=z) (o:=6) (Wrote.setCell (R:=fun b _=>b=z) (b:=z) (o:=5) (Wrote.refl _ w) (fun _=>rfl) (.bool o)) (fun _=>rfl) (.bool (Q && o))));clear hb2 hb1 hb;cases Q
 .go_enter func222,ntmps222
  go_wp2
  ((try simp only [Exit.inBlock,Exit.then]); first | (refine bodyPost_ret (results_none rfl _ _ _) rfl ?_) | (refine bodyPost_end (results_none rfl _ _ _) rfl ?_))
  exact ⟨rfl,HX.out.1,HX.out.2⟩
 .go_enter func222,ntmps222
  go_wp2
  ((try simp only [Exit.inBlock,Exit.then]); first | (refine bodyPost_ret (results_none rfl _ _ _) rfl ?_) | (refine bodyPost_end (results_none rfl _ _ _) rfl ?_))
  exact ⟨rfl,HX.out.1,HX.out.2⟩
theorem Jg3 (w:World) (z:Nat) (T P C B L:Int) (S Q:Bool) (v:Int) (hb:w.heap[z]?=some (.cells (aR T P C B L S Q) 35 (0,0))) :
  Calls prog 223 #[(pt z 0),.i (v%256)] w fun e w'=>e=.returned (.tuple #[])/\w'.heap[z]?=some (.cells (aR T P C B L S false) 35 (0,0))/\Wrote (fun b _=>b=z) w w':=by
 generalize v%256=u;have hc:=Af hb;have hf:=Au hb;have hb2:=Bv hb 6 (.bool false);simp only [Sa,Sb,Sc] at hb2;have HX:=Ac (And.intro hb2 (Wrote.setCell (R:=fun b _=>b=z) (b:=z) (o:=6) (Wrote.refl _ w) (fun _=>rfl) (.bool false)));clear hb2 hb
 go_enter func223,ntmps223
 go_wp2
 ((try simp only [Exit.inBlock,Exit.then]); first | (refine bodyPost_ret (results_none rfl _ _ _) rfl ?_) | (refine bodyPost_end (results_none rfl _ _ _) rfl ?_))
 exact ⟨rfl,HX.out.1,HX.out.2⟩
theorem Ss (w:World) (T P C B L:Int) (S Q:Bool) (reg v:Int):Calls prog 158 #[.agg (aR T P C B L S Q),.i reg,.i v] w
  fun e w'=>e=.returned (.agg (aR T (J6 true P reg v) C B (J7 true L reg v) (Lb true S reg v) (Lc true Q reg v)))/\Below w.heap.size w w':=by
 have k0:((w.alloc (.cells (aR T P C B L S Q) 35)).alloc (.cells (aR 0 0 0 0 0 false false) 35)).heap[w.heap.size]?=some (.cells (aR T P C B L S Q) 35 (0,0)):=Az (Ak w (aR T P C B L S Q) 35) _
 have k1:((w.alloc (.cells (aR T P C B L S Q) 35)).alloc (.cells (aR 0 0 0 0 0 false false) 35)).heap[w.heap.size+1]?=some (.cells (aR 0 0 0 0 0 false false) 35 (0,0)):=by simpa using Ak (w.alloc (.cells (aR T P C B L S Q) 35)) (aR 0 0 0 0 0 false false) 35
 have C0:Below w.heap.size w ((w.alloc (.cells (aR T P C B L S Q) 35)).alloc (.cells (aR 0 0 0 0 0 false false) 35)):=((Below.refl _ _).alloc (Nat.le_refl _) _).alloc (by simp) _
 by_cases hr:0<=reg/\reg<4
 .obtain ⟨r0,r4⟩:=hr
  by_cases e0:reg=0
  .subst e0
   have HE:Hid (J6 true P 0 v=v%256/\J7 true L 0 v=L/\Lb true S 0 v=S/\Lc true Q 0 v=Q):=by show _/\_; simp [J6,J7,Lb,Lc]
   rw [HE.out.1,HE.out.2.1,HE.out.2.2.1,HE.out.2.2.2];clear HE;have HS:=Ac (fun W k=>Jae W w.heap.size T P C B L S Q v k);have HY:=Ac (fun W=>Ct v W)
   obtain ⟨u,hu⟩:∃ u,Hid (u=v%256):=⟨_,rfl⟩
   simp only [<- hu.out] at HS HY ⊢;clear hu
   go_enter func158,ntmps158
   go_wp2_with fail;generalize (w.alloc (.cells (aR T P C B L S Q) 35)).alloc (.cells (aR 0 0 0 0 0 false false) 35)=W0 at *;refine (Ld _).mono ?_;rintro e W1 ⟨rfl,L1⟩;replace k0:=Ab k0 L1 (Ad k0);replace k1:=Ab k1 L1 (Ad k1);have C1:=Ah C0 L1;clear C0 L1;go_upto_region 3 with (fail);have kR:=Ak W1 #[.func (.func 220) #[] #[],.func (.func 221) #[] #[],.func (.func 222) #[] #[],.func (.func 223) #[] #[]] 196
   have hz:w.heap.size≠W1.heap.size:=fun e=>by have:=Ad k0; omega
   replace k0:=Az k0 (.cells #[.func (.func 220) #[] #[],.func (.func 221) #[] #[],.func (.func 222) #[] #[],.func (.func 223) #[] #[]] 196);replace k1:=Az k1 (.cells #[.func (.func 220) #[] #[],.func (.func 221) #[] #[],.func (.func 222) #[] #[],.func (.func 223) #[] #[]] 196);replace C1:=Ah C1 ((Below.refl W1.heap.size W1).alloc (Nat.le_refl _) (.cells #[.func (.func 220) #[] #[],.func (.func 221) #[] #[],.func (.func 222) #[] #[],.func (.func 223) #[] #[]] 196))
   obtain ⟨zr,hzr⟩:∃ z,Hid (z=W1.heap.size):=⟨_,rfl⟩
   generalize W1.alloc (.cells #[.func (.func 220) #[] #[],.func (.func 221) #[] #[],.func (.func 222) #[] #[],.func (.func 223) #[] #[]] 196)=W2 at *;rw [<- hzr.out] at kR hz ⊢;clear hzr;have HC:=Ac (HS.out W2.drew k0);clear HS;have hS:∀ j,W2.cell? ⟨zr,j,none⟩=#[.func (.func 220) #[] #[],.func (.func 221) #[] #[],.func (.func 222) #[] #[],.func (.func 223) #[] #[]][j]?:=Af kR;have hSd:∀ j,W2.drew.cell? ⟨zr,j,none⟩=#[.func (.func 220) #[] #[],.func (.func 221) #[] #[],.func (.func 222) #[] #[],.func (.func 223) #[] #[]][j]?:=Af (show W2.drew.heap[zr]?=_ from kR);have HK:=Ac (And.intro kR (And.intro k1 C1));clear kR k1 C1 k0
   go_region_held3 (fun w'=>∀ j,w'.cell? ⟨zr,j,none⟩=#[.func (.func 220) #[] #[],.func (.func 221) #[] #[],.func (.func 222) #[] #[],.func (.func 223) #[] #[]][j]?) (first | (with_reducible assumption) | go_keep) ((first | (go_at_call 62; refine (HY.out _).mono ?_; rintro e w' ⟨rfl,rfl⟩) | (go_at_call 220; refine HC.out.mono ?_; rintro e W3 ⟨rfl,k3,L3⟩; have hS3:∀ j,W3.cell? ⟨zr,j,none⟩=#[.func (.func 220) #[] #[],.func (.func 221) #[] #[],.func (.func 222) #[] #[],.func (.func 223) #[] #[]][j]?:=Af ((L3.block zr (Ad (show W2.drew.heap[zr]?=_ from HK.out.1)) (fun o e=>hz e.symm)).trans HK.out.1); skip)))
   all_goals
    have k4:W3.heap[w.heap.size+1]?=some (.cells (aR 0 0 0 0 0 false false) 35 (0,0)):=(L3.block _ (Ad (show W2.drew.heap[w.heap.size+1]?=_ from HK.out.2.1)) (fun o e=>by omega)).trans HK.out.2.1;have C3:Below w.heap.size w W3:=(Db HK.out.2.2).trans (L3.below (Db HK.out.2.2).size (fun b o hb e=>by omega));have c3:=Af k3;have c4:=Af k4;have f4:=Au k4;clear hS hSd hS3 L3 HC HY HK k3 hz;go_wp2;refine bodyPost_ret (v:=.agg (aR T u C B L S Q)) (by simp [results,results158,go_sem,fun (x0 x1 x2 x3 x4 x5 x6:Value)=>Af (Cy k4 x0 x1 x2 x3 x4 x5 x6)]) rfl ?_;exact ⟨rfl,C3.trans ((Xf W3 _ _ _ _ _ _ _ _).mono (by omega))⟩
  by_cases e1:reg=1
  .subst e1
   have HE:Hid (J6 true P 1 v=P/\J7 true L 1 v=v%32/\Lb true S 1 v=S/\Lc true Q 1 v=Q):=by show _/\_; simp [J6,J7,Lb,Lc]
   rw [HE.out.1,HE.out.2.1,HE.out.2.2.1,HE.out.2.2.2];clear HE;have HS:=Ac (fun W k=>Jaf W w.heap.size T P C B L S Q v k);have HY:=Ac (fun W=>Ct v W)
   obtain ⟨u,hu⟩:∃ u,Hid (u=v%256):=⟨_,rfl⟩
   obtain ⟨l,hl⟩:∃ l,Hid (l=v%32):=⟨_,rfl⟩
   simp only [<- hu.out,<- hl.out] at HS HY ⊢;clear hu hl
   go_enter func158,ntmps158
   go_wp2_with fail;generalize (w.alloc (.cells (aR T P C B L S Q) 35)).alloc (.cells (aR 0 0 0 0 0 false false) 35)=W0 at *;refine (Ld _).mono ?_;rintro e W1 ⟨rfl,L1⟩;replace k0:=Ab k0 L1 (Ad k0);replace k1:=Ab k1 L1 (Ad k1);have C1:=Ah C0 L1;clear C0 L1;go_upto_region 3 with (fail);have kR:=Ak W1 #[.func (.func 220) #[] #[],.func (.func 221) #[] #[],.func (.func 222) #[] #[],.func (.func 223) #[] #[]] 196
   have hz:w.heap.size≠W1.heap.size:=fun e=>by have:=Ad k0; omega
   replace k0:=Az k0 (.cells #[.func (.func 220) #[] #[],.func (.func 221) #[] #[],.func (.func 222) #[] #[],.func (.func 223) #[] #[]] 196);replace k1:=Az k1 (.cells #[.func (.func 220) #[] #[],.func (.func 221) #[] #[],.func (.func 222) #[] #[],.func (.func 223) #[] #[]] 196);replace C1:=Ah C1 ((Below.refl W1.heap.size W1).alloc (Nat.le_refl _) (.cells #[.func (.func 220) #[] #[],.func (.func 221) #[] #[],.func (.func 222) #[] #[],.func (.func 223) #[] #[]] 196))
   obtain ⟨zr,hzr⟩:∃ z,Hid (z=W1.heap.size):=⟨_,rfl⟩
   generalize W1.alloc (.cells #[.func (.func 220) #[] #[],.func (.func 221) #[] #[],.func (.func 222) #[] #[],.func (.func 223) #[] #[]] 196)=W2 at *;rw [<- hzr.out] at kR hz ⊢;clear hzr;have HC:=Ac (HS.out W2.drew k0);clear HS;have hS:∀ j,W2.cell? ⟨zr,j,none⟩=#[.func (.func 220) #[] #[],.func (.func 221) #[] #[],.func (.func 222) #[] #[],.func (.func 223) #[] #[]][j]?:=Af kR;have hSd:∀ j,W2.drew.cell? ⟨zr,j,none⟩=#[.func (.func 220) #[] #[],.func (.func 221) #[] #[],.func (.func 222) #[] #[],.func (.func 223) #[] #[]][j]?:=Af (show W2.drew.heap[zr]?=_ from kR);have HK:=Ac (And.intro kR (And.intro k1 C1));clear kR k1 C1 k0
   go_region_held3 (fun w'=>∀ j,w'.cell? ⟨zr,j,none⟩=#[.func (.func 220) #[] #[],.func (.func 221) #[] #[],.func (.func 222) #[] #[],.func (.func 223) #[] #[]][j]?) (first | (with_reducible assumption) | go_keep) ((first | (go_at_call 62; refine (HY.out _).mono ?_; rintro e w' ⟨rfl,rfl⟩) | (go_at_call 221; refine HC.out.mono ?_; rintro e W3 ⟨rfl,k3,L3⟩; have hS3:∀ j,W3.cell? ⟨zr,j,none⟩=#[.func (.func 220) #[] #[],.func (.func 221) #[] #[],.func (.func 222) #[] #[],.func (.func 223) #[] #[]][j]?:=Af ((L3.block zr (Ad (show W2.drew.heap[zr]?=_ from HK.out.1)) (fun o e=>hz e.symm)).trans HK.out.1); skip)))
   all_goals
    have k4:W3.heap[w.heap.size+1]?=some (.cells (aR 0 0 0 0 0 false false) 35 (0,0)):=(L3.block _ (Ad (show W2.drew.heap[w.heap.size+1]?=_ from HK.out.2.1)) (fun o e=>by omega)).trans HK.out.2.1;have C3:Below w.heap.size w W3:=(Db HK.out.2.2).trans (L3.below (Db HK.out.2.2).size (fun b o hb e=>by omega));have c3:=Af k3;have c4:=Af k4;have f4:=Au k4;clear hS hSd hS3 L3 HC HY HK k3 hz;go_wp2;refine bodyPost_ret (v:=.agg (aR T P C B l S Q)) (by simp [results,results158,go_sem,fun (x0 x1 x2 x3 x4 x5 x6:Value)=>Af (Cy k4 x0 x1 x2 x3 x4 x5 x6)]) rfl ?_;exact ⟨rfl,C3.trans ((Xf W3 _ _ _ _ _ _ _ _).mono (by omega))⟩
  by_cases e2:reg=2
  .subst e2
   have HE:Hid (J6 true P 2 v=P/\J7 true L 2 v=L/\Lb true S 2 v=(v%2==1)/\Lc true Q 2 v=(Q && (v%2==1))):=by show _/\_; simp [J6,J7,Lb,Lc]
   rw [HE.out.1,HE.out.2.1,HE.out.2.2.1,HE.out.2.2.2];clear HE;have HS:=Ac (fun W k=>Jep W w.heap.size T P C B L S Q v k);have HY:=Ac (fun W=>Ct v W)
   obtain ⟨u,hu⟩:∃ u,Hid (u=v%256):=⟨_,rfl⟩
   obtain ⟨o,ho⟩:∃ o,Hid (o=(v%2==1)):=⟨_,rfl⟩
   obtain ⟨q,hq⟩:∃ q,Hid (q=(Q && o)):=⟨_,rfl⟩
   simp only [<- hu.out,<- ho.out,<- hq.out] at HS HY ⊢;clear hu ho hq
   go_enter func158,ntmps158
   go_wp2_with fail;generalize (w.alloc (.cells (aR T P C B L S Q) 35)).alloc (.cells (aR 0 0 0 0 0 false false) 35)=W0 at *;refine (Ld _).mono ?_;rintro e W1 ⟨rfl,L1⟩;replace k0:=Ab k0 L1 (Ad k0);replace k1:=Ab k1 L1 (Ad k1);have C1:=Ah C0 L1;clear C0 L1;go_upto_region 3 with (fail);have kR:=Ak W1 #[.func (.func 220) #[] #[],.func (.func 221) #[] #[],.func (.func 222) #[] #[],.func (.func 223) #[] #[]] 196
   have hz:w.heap.size≠W1.heap.size:=fun e=>by have:=Ad k0; omega
   replace k0:=Az k0 (.cells #[.func (.func 220) #[] #[],.func (.func 221) #[] #[],.func (.func 222) #[] #[],.func (.func 223) #[] #[]] 196);replace k1:=Az k1 (.cells #[.func (.func 220) #[] #[],.func (.func 221) #[] #[],.func (.func 222) #[] #[],.func (.func 223) #[] #[]] 196);replace C1:=Ah C1 ((Below.refl W1.heap.size W1).alloc (Nat.le_refl _) (.cells #[.func (.func 220) #[] #[],.func (.func 221) #[] #[],.func (.func 222) #[] #[],.func (.func 223) #[] #[]] 196))
   obtain ⟨zr,hzr⟩:∃ z,Hid (z=W1.heap.size):=⟨_,rfl⟩
   generalize W1.alloc (.cells #[.func (.func 220) #[] #[],.func (.func 221) #[] #[],.func (.func 222) #[] #[],.func (.func 223) #[] #[]] 196)=W2 at *;rw [<- hzr.out] at kR hz ⊢;clear hzr;have HC:=Ac (HS.out W2.drew k0);clear HS;have hS:∀ j,W2.cell? ⟨zr,j,none⟩=#[.func (.func 220) #[] #[],.func (.func 221) #[] #[],.func (.func 222) #[] #[],.func (.func 223) #[] #[]][j]?:=Af kR;have hSd:∀ j,W2.drew.cell? ⟨zr,j,none⟩=#[.func (.func 220) #[] #[],.func (.func 221) #[] #[],.func (.func 222) #[] #[],.func (.func 223) #[] #[]][j]?:=Af (show W2.drew.heap[zr]?=_ from kR);have HK:=Ac (And.intro kR (And.intro k1 C1));clear kR k1 C1 k0
   go_region_held3 (fun w'=>∀ j,w'.cell? ⟨zr,j,none⟩=#[.func (.func 220) #[] #[],.func (.func 221) #[] #[],.func (.func 222) #[] #[],.func (.func 223) #[] #[]][j]?) (first | (with_reducible assumption) | go_keep) ((first | (go_at_call 62; refine (HY.out _).mono ?_; rintro e w' ⟨rfl,rfl⟩) | (go_at_call 222; refine HC.out.mono ?_; rintro e W3 ⟨rfl,k3,L3⟩; have hS3:∀ j,W3.cell? ⟨zr,j,none⟩=#[.func (.func 220) #[] #[],.func (.func 221) #[] #[],.func (.func 222) #[] #[],.func (.func 223) #[] #[]][j]?:=Af ((L3.block zr (Ad (show W2.drew.heap[zr]?=_ from HK.out.1)) (fun o e=>hz e.symm)).trans HK.out.1); skip)))
   all_goals
    have k4:W3.heap[w.heap.size+1]?=some (.cells (aR 0 0 0 0 0 false false) 35 (0,0)):=(L3.block _ (Ad (show W2.drew.heap[w.heap.size+1]?=_ from HK.out.2.1)) (fun o e=>by omega)).trans HK.out.2.1;have C3:Below w.heap.size w W3:=(Db HK.out.2.2).trans (L3.below (Db HK.out.2.2).size (fun b o hb e=>by omega));have c3:=Af k3;have c4:=Af k4;have f4:=Au k4;clear hS hSd hS3 L3 HC HY HK k3 hz;go_wp2;refine bodyPost_ret (v:=.agg (aR T P C B L o q)) (by simp [results,results158,go_sem,fun (x0 x1 x2 x3 x4 x5 x6:Value)=>Af (Cy k4 x0 x1 x2 x3 x4 x5 x6)]) rfl ?_;exact ⟨rfl,C3.trans ((Xf W3 _ _ _ _ _ _ _ _).mono (by omega))⟩
  by_cases e3:reg=3
  .subst e3
   have HE:Hid (J6 true P 3 v=P/\J7 true L 3 v=L/\Lb true S 3 v=S/\Lc true Q 3 v=false):=by show _/\_; simp [J6,J7,Lb,Lc]
   rw [HE.out.1,HE.out.2.1,HE.out.2.2.1,HE.out.2.2.2];clear HE;have HS:=Ac (fun W k=>Jg3 W w.heap.size T P C B L S Q v k);have HY:=Ac (fun W=>Ct v W)
   obtain ⟨u,hu⟩:∃ u,Hid (u=v%256):=⟨_,rfl⟩
   simp only [<- hu.out] at HS HY ⊢;clear hu
   go_enter func158,ntmps158
   go_wp2_with fail;generalize (w.alloc (.cells (aR T P C B L S Q) 35)).alloc (.cells (aR 0 0 0 0 0 false false) 35)=W0 at *;refine (Ld _).mono ?_;rintro e W1 ⟨rfl,L1⟩;replace k0:=Ab k0 L1 (Ad k0);replace k1:=Ab k1 L1 (Ad k1);have C1:=Ah C0 L1;clear C0 L1;go_upto_region 3 with (fail);have kR:=Ak W1 #[.func (.func 220) #[] #[],.func (.func 221) #[] #[],.func (.func 222) #[] #[],.func (.func 223) #[] #[]] 196
   have hz:w.heap.size≠W1.heap.size:=fun e=>by have:=Ad k0; omega
   replace k0:=Az k0 (.cells #[.func (.func 220) #[] #[],.func (.func 221) #[] #[],.func (.func 222) #[] #[],.func (.func 223) #[] #[]] 196);replace k1:=Az k1 (.cells #[.func (.func 220) #[] #[],.func (.func 221) #[] #[],.func (.func 222) #[] #[],.func (.func 223) #[] #[]] 196);replace C1:=Ah C1 ((Below.refl W1.heap.size W1).alloc (Nat.le_refl _) (.cells #[.func (.func 220) #[] #[],.func (.func 221) #[] #[],.func (.func 222) #[] #[],.func (.func 223) #[] #[]] 196))
   obtain ⟨zr,hzr⟩:∃ z,Hid (z=W1.heap.size):=⟨_,rfl⟩
   generalize W1.alloc (.cells #[.func (.func 220) #[] #[],.func (.func 221) #[] #[],.func (.func 222) #[] #[],.func (.func 223) #[] #[]] 196)=W2 at *;rw [<- hzr.out] at kR hz ⊢;clear hzr;have HC:=Ac (HS.out W2.drew k0);clear HS;have hS:∀ j,W2.cell? ⟨zr,j,none⟩=#[.func (.func 220) #[] #[],.func (.func 221) #[] #[],.func (.func 222) #[] #[],.func (.func 223) #[] #[]][j]?:=Af kR;have hSd:∀ j,W2.drew.cell? ⟨zr,j,none⟩=#[.func (.func 220) #[] #[],.func (.func 221) #[] #[],.func (.func 222) #[] #[],.func (.func 223) #[] #[]][j]?:=Af (show W2.drew.heap[zr]?=_ from kR);have HK:=Ac (And.intro kR (And.intro k1 C1));clear kR k1 C1 k0
   go_region_held3 (fun w'=>∀ j,w'.cell? ⟨zr,j,none⟩=#[.func (.func 220) #[] #[],.func (.func 221) #[] #[],.func (.func 222) #[] #[],.func (.func 223) #[] #[]][j]?) (first | (with_reducible assumption) | go_keep) ((first | (go_at_call 62; refine (HY.out _).mono ?_; rintro e w' ⟨rfl,rfl⟩) | (go_at_call 223; refine HC.out.mono ?_; rintro e W3 ⟨rfl,k3,L3⟩; have hS3:∀ j,W3.cell? ⟨zr,j,none⟩=#[.func (.func 220) #[] #[],.func (.func 221) #[] #[],.func (.func 222) #[] #[],.func (.func 223) #[] #[]][j]?:=Af ((L3.block zr (Ad (show W2.drew.heap[zr]?=_ from HK.out.1)) (fun o e=>hz e.symm)).trans HK.out.1); skip)))
   all_goals
    have k4:W3.heap[w.heap.size+1]?=some (.cells (aR 0 0 0 0 0 false false) 35 (0,0)):=(L3.block _ (Ad (show W2.drew.heap[w.heap.size+1]?=_ from HK.out.2.1)) (fun o e=>by omega)).trans HK.out.2.1;have C3:Below w.heap.size w W3:=(Db HK.out.2.2).trans (L3.below (Db HK.out.2.2).size (fun b o hb e=>by omega));have c3:=Af k3;have c4:=Af k4;have f4:=Au k4;clear hS hSd hS3 L3 HC HY HK k3 hz;go_wp2;refine bodyPost_ret (v:=.agg (aR T P C B L S false)) (by simp [results,results158,go_sem,fun (x0 x1 x2 x3 x4 x5 x6:Value)=>Af (Cy k4 x0 x1 x2 x3 x4 x5 x6)]) rfl ?_;exact ⟨rfl,C3.trans ((Xf W3 _ _ _ _ _ _ _ _).mono (by omega))⟩
  exfalso
  omega
 .have HE:Hid (J6 true P reg v=P/\J7 true L reg v=L/\Lb true S reg v=S/\Lc true Q reg v=Q):=by
   show _/\_
   have n0:¬ reg=0:=by omega
   have n1:¬ reg=1:=by omega
   have n2:¬ reg=2:=by omega
   have n3:¬ reg=3:=by omega
   simp [J6,J7,Lb,Lc,n0,n1,n2,n3]
  rw [HE.out.1,HE.out.2.1,HE.out.2.2.1,HE.out.2.2.2];clear HE
  by_cases r0:0<=reg
  all_goals
   go_enter func158,ntmps158
   go_wp2_with fail;generalize (w.alloc (.cells (aR T P C B L S Q) 35)).alloc (.cells (aR 0 0 0 0 0 false false) 35)=W0 at *;refine (Ld _).mono ?_;rintro e W1 ⟨rfl,L1⟩;replace k0:=Ab k0 L1 (Ad k0);replace k1:=Ab k1 L1 (Ad k1);have C1:=Ah C0 L1;clear C0 L1
   have r4:decide (0<=reg)=true->decide (reg<4)=false:=fun h=>decide_eq_false (fun h'=>hr ⟨of_decide_eq_true h,h'⟩)
   first | (have r4:¬ reg<4:=fun h=>hr ⟨(by omega),h⟩; clear hr; go_upto_region 4 with (fail); skip) | (clear hr; go_upto_region 4 with (fail))
   have kA:=Az k0 (.cells #[.func (.func 220) #[] #[],.func (.func 221) #[] #[],.func (.func 222) #[] #[],.func (.func 223) #[] #[]] 196);have kB:=Az k1 (.cells #[.func (.func 220) #[] #[],.func (.func 221) #[] #[],.func (.func 222) #[] #[],.func (.func 223) #[] #[]] 196);replace C1:=Ah C1 ((Below.refl W1.heap.size W1).alloc (Nat.le_refl _) (.cells #[.func (.func 220) #[] #[],.func (.func 221) #[] #[],.func (.func 222) #[] #[],.func (.func 223) #[] #[]] 196));generalize W1.alloc (.cells #[.func (.func 220) #[] #[],.func (.func 221) #[] #[],.func (.func 222) #[] #[],.func (.func 223) #[] #[]] 196)=W2 at *;have c3:=Af kA;have c4:=Af kB;have f4:=Au kB;clear kA k0 k1;go_wp2;refine bodyPost_ret (v:=.agg (aR T P C B L S Q)) (by simp [results,results158,go_sem,fun (x0 x1 x2 x3 x4 x5 x6:Value)=>Af (Cy kB x0 x1 x2 x3 x4 x5 x6)]) rfl ?_
   exact ⟨rfl,C1.trans ((Xf W2 _ _ _ _ _ _ _ _).mono (by omega))⟩
end Go.Proofs.YtijljlnooibbmaaGreatDoor
