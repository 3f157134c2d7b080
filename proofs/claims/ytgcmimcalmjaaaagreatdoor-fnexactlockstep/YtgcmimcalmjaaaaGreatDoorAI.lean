import Derived.Test.YtgcmimcalmjaaaaGreatDoorAC
namespace Go.Proofs.YtgcmimcalmjaaaaGreatDoor
set_option maxHeartbeats 2000000
set_option linter.unusedVariables false
set_option linter.unusedSimpArgs false
open Go.ChangeShapes Go.WideShapes Go.ChangeAt Go.RowKit Go.Sort
theorem Cw {n:Nat} {u w:World} (h:Below n u w):Below n u w.drew:=⟨h.os,h.tape,h.output,h.size,h.block⟩
theorem Jw (w:World):Calls Tryz.prog 189 #[] w fun e w'=>e=.returned (.agg #[.func (.func 224) #[] #[],.func (.func 225) #[] #[],.func (.func 226) #[] #[],.func (.func 227) #[] #[]])∧Below w.heap.size w w':=by
 have hmf:∀ (fn:Fn) (first cap:Array Value) (w:World),(Instr.makeFunc fn first cap).run Tryz.prog w=.ok (.func fn first cap) w:=fun _ _ _ _=>rfl
 have k0:=Al w #[.nilFunc,.nilFunc,.nilFunc,.nilFunc] 186;have L0:Below w.heap.size w (w.alloc (.cells #[.nilFunc,.nilFunc,.nilFunc,.nilFunc] 186)):=(Below.refl _ _).alloc (Nat.le_refl _) _
 go_enter Tryz.func189,Tryz.ntmps189
 go_upto_region 1 with (fail);generalize w.alloc (.cells #[.nilFunc,.nilFunc,.nilFunc,.nilFunc] 186)=W0 at *;have c0:=Ag k0;have f0:=As k0;have k4:=Bt (Bt (Bt (Bt k0 0 (.func (.func 224) #[] #[])) 1 (.func (.func 225) #[] #[])) 2 (.func (.func 226) #[] #[])) 3 (.func (.func 227) #[] #[]);simp only [List.setIfInBounds_toArray,List.set_cons_succ,List.set_cons_zero] at k4;have c4:=Ag k4;go_wp2;refine bodyPost_ret (v:=.agg #[.func (.func 224) #[] #[],.func (.func 225) #[] #[],.func (.func 226) #[] #[],.func (.func 227) #[] #[]]) (by simp [results,Tryz.results189,go_sem,c4]) rfl ?_;exact ⟨rfl,(((L0.setCell (Nat.le_refl _) _).setCell (Nat.le_refl _) _).setCell (Nat.le_refl _) _).setCell (Nat.le_refl _) _⟩
theorem Wu (w:World) (z:Nat) (T P C B L:Int) (S Q:Bool) (v:Int) (hb:w.heap[z]?=some (.cells (aR T P C B L S Q) 45 (0,0))) :
  Calls Tryz.prog 224 #[(pt z 0),.i (v%256)] w fun e w'=>e=.returned (.tuple #[])∧w'.heap[z]?=some (.cells (aR T (v%256) C B L S Q) 45 (0,0))∧Wrote (fun b _=>b=z) w w':=by
 obtain ⟨u,hu⟩:∃ u,Hid (u=v%256):=⟨_,rfl⟩
 have u0:0≤u:=by rw [hu.out]; omega
 have u1:u<256:=by rw [hu.out]; omega
 rw [← hu.out];have hc:=Ag hb;have hf:=As hb;have hb2:=Bt hb 1 (.i u);simp only [List.setIfInBounds_toArray,List.set_cons_succ,List.set_cons_zero] at hb2;have HX:=Ad (And.intro hb2 (Wrote.setCell (R:=fun b _=>b=z) (b:=z) (o:=1) (Wrote.refl _ w) (fun _=>rfl) (.i u)));clear hb2 hb
 go_enter Tryz.func224,Tryz.ntmps224
 go_wp2
 ((try simp only [Exit.inBlock,Exit.then]); first | (refine bodyPost_ret (results_none rfl _ _ _) rfl ?_) | (refine bodyPost_end (results_none rfl _ _ _) rfl ?_))
 exact ⟨rfl,HX.out.1,HX.out.2⟩
theorem Wv (w:World) (z:Nat) (T P C B L:Int) (S Q:Bool) (v:Int) (hb:w.heap[z]?=some (.cells (aR T P C B L S Q) 45 (0,0))) :
  Calls Tryz.prog 225 #[(pt z 0),.i (v%256)] w fun e w'=>e=.returned (.tuple #[])∧w'.heap[z]?=some (.cells (aR T P C B (v%32) S Q) 45 (0,0))∧Wrote (fun b _=>b=z) w w':=by
 obtain ⟨u,hu⟩:∃ u,Hid (u=v%256):=⟨_,rfl⟩
 have u0:0≤u:=by rw [hu.out]; omega
 have u1:u<256:=by rw [hu.out]; omega
 have HE:Hid (v%32=u%32):=by show _=_; rw [hu.out]; omega
 rw [← hu.out,HE.out];have tm:u.tmod 32=u%32:=Int.tmod_eq_emod_of_nonneg u0;have hc:=Ag hb;have hf:=As hb;have hb2:=Bt hb 4 (.i (u%32));simp only [List.setIfInBounds_toArray,List.set_cons_succ,List.set_cons_zero] at hb2;have HX:=Ad (And.intro hb2 (Wrote.setCell (R:=fun b _=>b=z) (b:=z) (o:=4) (Wrote.refl _ w) (fun _=>rfl) (.i (u%32))));clear hb2 hb
 go_enter Tryz.func225,Tryz.ntmps225
 go_wp2
 ((try simp only [Exit.inBlock,Exit.then]); first | (refine bodyPost_ret (results_none rfl _ _ _) rfl ?_) | (refine bodyPost_end (results_none rfl _ _ _) rfl ?_))
 exact ⟨rfl,HX.out.1,HX.out.2⟩
theorem Jbb (w:World) (z:Nat) (T P C B L:Int) (S Q:Bool) (v:Int) (hb:w.heap[z]?=some (.cells (aR T P C B L S Q) 45 (0,0))) :
  Calls Tryz.prog 226 #[(pt z 0),.i (v%256)] w fun e w'=>e=.returned (.tuple #[])∧w'.heap[z]?=some (.cells (aR T P C B L (v%2==1) (Q && (v%2==1))) 45 (0,0))∧Wrote (fun b _=>b=z) w w':=by
 obtain ⟨u,hu⟩:∃ u,Hid (u=v%256):=⟨_,rfl⟩
 have u0:0≤u:=by rw [hu.out]; omega
 have u1:u<256:=by rw [hu.out]; omega
 have tm:u.tmod 2=u%2:=Int.tmod_eq_emod_of_nonneg u0
 obtain ⟨o,ho⟩:∃ o,Hid (o=(v%2==1)):=⟨_,rfl⟩
 have ho2:(u%2 != 0)=o:=by
  rw [ho.out]
  have:u%2=v%2:=by rw [hu.out]; omega
  rw [this]
  rcases Int.emod_two_eq v with h | h <;> rw [h] <;> rfl
 rw [← hu.out,← ho.out];clear hu ho;have hc:=Ag hb;have hf:=As hb;have hb1:=Bt hb 5 (.bool o);simp only [List.setIfInBounds_toArray,List.set_cons_succ,List.set_cons_zero] at hb1;have hb2:=Bt hb1 6 (.bool (Q && o));simp only [List.setIfInBounds_toArray,List.set_cons_succ,List.set_cons_zero] at hb2;have hc1:=Ag hb1;have hf1:=As hb1;have HX:=Ad (And.intro hb2 (Wrote.setCell (b:=z) (o:=6) (Wrote.setCell (R:=fun b _=>b=z) (b:=z) (o:=5) (Wrote.refl _ w) (fun _=>rfl) (.bool o)) (fun _=>rfl) (.bool (Q && o))));clear hb2 hb1 hb;cases Q
 ·go_enter Tryz.func226,Tryz.ntmps226
  go_wp2
  ((try simp only [Exit.inBlock,Exit.then]); first | (refine bodyPost_ret (results_none rfl _ _ _) rfl ?_) | (refine bodyPost_end (results_none rfl _ _ _) rfl ?_))
  exact ⟨rfl,HX.out.1,HX.out.2⟩
 ·go_enter Tryz.func226,Tryz.ntmps226
  go_wp2
  ((try simp only [Exit.inBlock,Exit.then]); first | (refine bodyPost_ret (results_none rfl _ _ _) rfl ?_) | (refine bodyPost_end (results_none rfl _ _ _) rfl ?_))
  exact ⟨rfl,HX.out.1,HX.out.2⟩
theorem Jdf (w:World) (z:Nat) (T P C B L:Int) (S Q:Bool) (v:Int) (hb:w.heap[z]?=some (.cells (aR T P C B L S Q) 45 (0,0))) :
  Calls Tryz.prog 227 #[(pt z 0),.i (v%256)] w fun e w'=>e=.returned (.tuple #[])∧w'.heap[z]?=some (.cells (aR T P C B L S false) 45 (0,0))∧Wrote (fun b _=>b=z) w w':=by
 generalize v%256=u;have hc:=Ag hb;have hf:=As hb;have hb2:=Bt hb 6 (.bool false);simp only [List.setIfInBounds_toArray,List.set_cons_succ,List.set_cons_zero] at hb2;have HX:=Ad (And.intro hb2 (Wrote.setCell (R:=fun b _=>b=z) (b:=z) (o:=6) (Wrote.refl _ w) (fun _=>rfl) (.bool false)));clear hb2 hb
 go_enter Tryz.func227,Tryz.ntmps227
 go_wp2
 ((try simp only [Exit.inBlock,Exit.then]); first | (refine bodyPost_ret (results_none rfl _ _ _) rfl ?_) | (refine bodyPost_end (results_none rfl _ _ _) rfl ?_))
 exact ⟨rfl,HX.out.1,HX.out.2⟩
theorem P9 (w:World) (T P C B L:Int) (S Q:Bool) (reg v:Int):Calls Tryz.prog 166 #[.agg (aR T P C B L S Q),.i reg,.i v] w
  fun e w'=>e=.returned (.agg (aR T (I8 true P reg v) C B (I9 true L reg v) (Ju true S reg v) (Jv true Q reg v)))∧Below w.heap.size w w':=by
 have k0:((w.alloc (.cells (aR T P C B L S Q) 45)).alloc (.cells (aR 0 0 0 0 0 false false) 45)).heap[w.heap.size]?=some (.cells (aR T P C B L S Q) 45 (0,0)):=Ax (Al w (aR T P C B L S Q) 45) _
 have k1:((w.alloc (.cells (aR T P C B L S Q) 45)).alloc (.cells (aR 0 0 0 0 0 false false) 45)).heap[w.heap.size+1]?=some (.cells (aR 0 0 0 0 0 false false) 45 (0,0)):=by simpa using Al (w.alloc (.cells (aR T P C B L S Q) 45)) (aR 0 0 0 0 0 false false) 45
 have C0:Below w.heap.size w ((w.alloc (.cells (aR T P C B L S Q) 45)).alloc (.cells (aR 0 0 0 0 0 false false) 45)):=((Below.refl _ _).alloc (Nat.le_refl _) _).alloc (by simp) _
 by_cases hr:0≤reg∧reg<4
 ·obtain ⟨r0,r4⟩:=hr
  by_cases e0:reg=0
  ·subst e0
   have HE:Hid (I8 true P 0 v=v%256∧I9 true L 0 v=L∧Ju true S 0 v=S∧Jv true Q 0 v=Q):=by show _∧_; simp [I8,I9,Ju,Jv]
   rw [HE.out.1,HE.out.2.1,HE.out.2.2.1,HE.out.2.2.2];clear HE;have HS:=Ad (fun W k=>Wu W w.heap.size T P C B L S Q v k);have HY:=Ad (fun W=>Ck v W)
   obtain ⟨u,hu⟩:∃ u,Hid (u=v%256):=⟨_,rfl⟩
   simp only [← hu.out] at HS HY ⊢;clear hu
   go_enter Tryz.func166,Tryz.ntmps166
   go_wp2_with fail;generalize (w.alloc (.cells (aR T P C B L S Q) 45)).alloc (.cells (aR 0 0 0 0 0 false false) 45)=W0 at *;refine (Jw _).mono ?_;rintro e W1 ⟨rfl,L1⟩;replace k0:=Aa k0 L1 (Ac k0);replace k1:=Aa k1 L1 (Ac k1);have C1:=Ae C0 L1;clear C0 L1;go_upto_region 3 with (fail);have kR:=Al W1 #[.func (.func 224) #[] #[],.func (.func 225) #[] #[],.func (.func 226) #[] #[],.func (.func 227) #[] #[]] 186
   have hz:w.heap.size≠W1.heap.size:=fun e=>by have:=Ac k0; omega
   replace k0:=Ax k0 (.cells #[.func (.func 224) #[] #[],.func (.func 225) #[] #[],.func (.func 226) #[] #[],.func (.func 227) #[] #[]] 186);replace k1:=Ax k1 (.cells #[.func (.func 224) #[] #[],.func (.func 225) #[] #[],.func (.func 226) #[] #[],.func (.func 227) #[] #[]] 186);replace C1:=Ae C1 ((Below.refl W1.heap.size W1).alloc (Nat.le_refl _) (.cells #[.func (.func 224) #[] #[],.func (.func 225) #[] #[],.func (.func 226) #[] #[],.func (.func 227) #[] #[]] 186))
   obtain ⟨zr,hzr⟩:∃ z,Hid (z=W1.heap.size):=⟨_,rfl⟩
   generalize W1.alloc (.cells #[.func (.func 224) #[] #[],.func (.func 225) #[] #[],.func (.func 226) #[] #[],.func (.func 227) #[] #[]] 186)=W2 at *;rw [← hzr.out] at kR hz ⊢;clear hzr;have HC:=Ad (HS.out W2.drew k0);clear HS;have hS:∀ j,W2.cell? ⟨zr,j,none⟩=#[.func (.func 224) #[] #[],.func (.func 225) #[] #[],.func (.func 226) #[] #[],.func (.func 227) #[] #[]][j]?:=Ag kR;have hSd:∀ j,W2.drew.cell? ⟨zr,j,none⟩=#[.func (.func 224) #[] #[],.func (.func 225) #[] #[],.func (.func 226) #[] #[],.func (.func 227) #[] #[]][j]?:=Ag (show W2.drew.heap[zr]?=_ from kR);have HK:=Ad (And.intro kR (And.intro k1 C1));clear kR k1 C1 k0
   go_region_held3 (fun w'=>∀ j,w'.cell? ⟨zr,j,none⟩=#[.func (.func 224) #[] #[],.func (.func 225) #[] #[],.func (.func 226) #[] #[],.func (.func 227) #[] #[]][j]?) (first | (with_reducible assumption) | go_keep) ((first | (go_at_call 98; refine (HY.out _).mono ?_; rintro e w' ⟨rfl,rfl⟩) | (go_at_call 224; refine HC.out.mono ?_; rintro e W3 ⟨rfl,k3,L3⟩; have hS3:∀ j,W3.cell? ⟨zr,j,none⟩=#[.func (.func 224) #[] #[],.func (.func 225) #[] #[],.func (.func 226) #[] #[],.func (.func 227) #[] #[]][j]?:=Ag ((L3.block zr (Ac (show W2.drew.heap[zr]?=_ from HK.out.1)) (fun o e=>hz e.symm)).trans HK.out.1); skip)))
   all_goals
    have k4:W3.heap[w.heap.size+1]?=some (.cells (aR 0 0 0 0 0 false false) 45 (0,0)):=(L3.block _ (Ac (show W2.drew.heap[w.heap.size+1]?=_ from HK.out.2.1)) (fun o e=>by omega)).trans HK.out.2.1;have C3:Below w.heap.size w W3:=(Cw HK.out.2.2).trans (L3.below (Cw HK.out.2.2).size (fun b o hb e=>by omega));have c3:=Ag k3;have c4:=Ag k4;have f4:=As k4;clear hS hSd hS3 L3 HC HY HK k3 hz;go_wp2;refine bodyPost_ret (v:=.agg (aR T u C B L S Q)) (by simp [results,Tryz.results166,go_sem,fun (x0 x1 x2 x3 x4 x5 x6:Value)=>Ag (Cr k4 x0 x1 x2 x3 x4 x5 x6)]) rfl ?_;exact ⟨rfl,C3.trans ((Ti W3 _ _ _ _ _ _ _ _).mono (by omega))⟩
  by_cases e1:reg=1
  ·subst e1
   have HE:Hid (I8 true P 1 v=P∧I9 true L 1 v=v%32∧Ju true S 1 v=S∧Jv true Q 1 v=Q):=by show _∧_; simp [I8,I9,Ju,Jv]
   rw [HE.out.1,HE.out.2.1,HE.out.2.2.1,HE.out.2.2.2];clear HE;have HS:=Ad (fun W k=>Wv W w.heap.size T P C B L S Q v k);have HY:=Ad (fun W=>Ck v W)
   obtain ⟨u,hu⟩:∃ u,Hid (u=v%256):=⟨_,rfl⟩
   obtain ⟨l,hl⟩:∃ l,Hid (l=v%32):=⟨_,rfl⟩
   simp only [← hu.out,← hl.out] at HS HY ⊢;clear hu hl
   go_enter Tryz.func166,Tryz.ntmps166
   go_wp2_with fail;generalize (w.alloc (.cells (aR T P C B L S Q) 45)).alloc (.cells (aR 0 0 0 0 0 false false) 45)=W0 at *;refine (Jw _).mono ?_;rintro e W1 ⟨rfl,L1⟩;replace k0:=Aa k0 L1 (Ac k0);replace k1:=Aa k1 L1 (Ac k1);have C1:=Ae C0 L1;clear C0 L1;go_upto_region 3 with (fail);have kR:=Al W1 #[.func (.func 224) #[] #[],.func (.func 225) #[] #[],.func (.func 226) #[] #[],.func (.func 227) #[] #[]] 186
   have hz:w.heap.size≠W1.heap.size:=fun e=>by have:=Ac k0; omega
   replace k0:=Ax k0 (.cells #[.func (.func 224) #[] #[],.func (.func 225) #[] #[],.func (.func 226) #[] #[],.func (.func 227) #[] #[]] 186);replace k1:=Ax k1 (.cells #[.func (.func 224) #[] #[],.func (.func 225) #[] #[],.func (.func 226) #[] #[],.func (.func 227) #[] #[]] 186);replace C1:=Ae C1 ((Below.refl W1.heap.size W1).alloc (Nat.le_refl _) (.cells #[.func (.func 224) #[] #[],.func (.func 225) #[] #[],.func (.func 226) #[] #[],.func (.func 227) #[] #[]] 186))
   obtain ⟨zr,hzr⟩:∃ z,Hid (z=W1.heap.size):=⟨_,rfl⟩
   generalize W1.alloc (.cells #[.func (.func 224) #[] #[],.func (.func 225) #[] #[],.func (.func 226) #[] #[],.func (.func 227) #[] #[]] 186)=W2 at *;rw [← hzr.out] at kR hz ⊢;clear hzr;have HC:=Ad (HS.out W2.drew k0);clear HS;have hS:∀ j,W2.cell? ⟨zr,j,none⟩=#[.func (.func 224) #[] #[],.func (.func 225) #[] #[],.func (.func 226) #[] #[],.func (.func 227) #[] #[]][j]?:=Ag kR;have hSd:∀ j,W2.drew.cell? ⟨zr,j,none⟩=#[.func (.func 224) #[] #[],.func (.func 225) #[] #[],.func (.func 226) #[] #[],.func (.func 227) #[] #[]][j]?:=Ag (show W2.drew.heap[zr]?=_ from kR);have HK:=Ad (And.intro kR (And.intro k1 C1));clear kR k1 C1 k0
   go_region_held3 (fun w'=>∀ j,w'.cell? ⟨zr,j,none⟩=#[.func (.func 224) #[] #[],.func (.func 225) #[] #[],.func (.func 226) #[] #[],.func (.func 227) #[] #[]][j]?) (first | (with_reducible assumption) | go_keep) ((first | (go_at_call 98; refine (HY.out _).mono ?_; rintro e w' ⟨rfl,rfl⟩) | (go_at_call 225; refine HC.out.mono ?_; rintro e W3 ⟨rfl,k3,L3⟩; have hS3:∀ j,W3.cell? ⟨zr,j,none⟩=#[.func (.func 224) #[] #[],.func (.func 225) #[] #[],.func (.func 226) #[] #[],.func (.func 227) #[] #[]][j]?:=Ag ((L3.block zr (Ac (show W2.drew.heap[zr]?=_ from HK.out.1)) (fun o e=>hz e.symm)).trans HK.out.1); skip)))
   all_goals
    have k4:W3.heap[w.heap.size+1]?=some (.cells (aR 0 0 0 0 0 false false) 45 (0,0)):=(L3.block _ (Ac (show W2.drew.heap[w.heap.size+1]?=_ from HK.out.2.1)) (fun o e=>by omega)).trans HK.out.2.1;have C3:Below w.heap.size w W3:=(Cw HK.out.2.2).trans (L3.below (Cw HK.out.2.2).size (fun b o hb e=>by omega));have c3:=Ag k3;have c4:=Ag k4;have f4:=As k4;clear hS hSd hS3 L3 HC HY HK k3 hz;go_wp2;refine bodyPost_ret (v:=.agg (aR T P C B l S Q)) (by simp [results,Tryz.results166,go_sem,fun (x0 x1 x2 x3 x4 x5 x6:Value)=>Ag (Cr k4 x0 x1 x2 x3 x4 x5 x6)]) rfl ?_;exact ⟨rfl,C3.trans ((Ti W3 _ _ _ _ _ _ _ _).mono (by omega))⟩
  by_cases e2:reg=2
  ·subst e2
   have HE:Hid (I8 true P 2 v=P∧I9 true L 2 v=L∧Ju true S 2 v=(v%2==1)∧Jv true Q 2 v=(Q && (v%2==1))):=by show _∧_; simp [I8,I9,Ju,Jv]
   rw [HE.out.1,HE.out.2.1,HE.out.2.2.1,HE.out.2.2.2];clear HE;have HS:=Ad (fun W k=>Jbb W w.heap.size T P C B L S Q v k);have HY:=Ad (fun W=>Ck v W)
   obtain ⟨u,hu⟩:∃ u,Hid (u=v%256):=⟨_,rfl⟩
   obtain ⟨o,ho⟩:∃ o,Hid (o=(v%2==1)):=⟨_,rfl⟩
   obtain ⟨q,hq⟩:∃ q,Hid (q=(Q && o)):=⟨_,rfl⟩
   simp only [← hu.out,← ho.out,← hq.out] at HS HY ⊢;clear hu ho hq
   go_enter Tryz.func166,Tryz.ntmps166
   go_wp2_with fail;generalize (w.alloc (.cells (aR T P C B L S Q) 45)).alloc (.cells (aR 0 0 0 0 0 false false) 45)=W0 at *;refine (Jw _).mono ?_;rintro e W1 ⟨rfl,L1⟩;replace k0:=Aa k0 L1 (Ac k0);replace k1:=Aa k1 L1 (Ac k1);have C1:=Ae C0 L1;clear C0 L1;go_upto_region 3 with (fail);have kR:=Al W1 #[.func (.func 224) #[] #[],.func (.func 225) #[] #[],.func (.func 226) #[] #[],.func (.func 227) #[] #[]] 186
   have hz:w.heap.size≠W1.heap.size:=fun e=>by have:=Ac k0; omega
   replace k0:=Ax k0 (.cells #[.func (.func 224) #[] #[],.func (.func 225) #[] #[],.func (.func 226) #[] #[],.func (.func 227) #[] #[]] 186);replace k1:=Ax k1 (.cells #[.func (.func 224) #[] #[],.func (.func 225) #[] #[],.func (.func 226) #[] #[],.func (.func 227) #[] #[]] 186);replace C1:=Ae C1 ((Below.refl W1.heap.size W1).alloc (Nat.le_refl _) (.cells #[.func (.func 224) #[] #[],.func (.func 225) #[] #[],.func (.func 226) #[] #[],.func (.func 227) #[] #[]] 186))
   obtain ⟨zr,hzr⟩:∃ z,Hid (z=W1.heap.size):=⟨_,rfl⟩
   generalize W1.alloc (.cells #[.func (.func 224) #[] #[],.func (.func 225) #[] #[],.func (.func 226) #[] #[],.func (.func 227) #[] #[]] 186)=W2 at *;rw [← hzr.out] at kR hz ⊢;clear hzr;have HC:=Ad (HS.out W2.drew k0);clear HS;have hS:∀ j,W2.cell? ⟨zr,j,none⟩=#[.func (.func 224) #[] #[],.func (.func 225) #[] #[],.func (.func 226) #[] #[],.func (.func 227) #[] #[]][j]?:=Ag kR;have hSd:∀ j,W2.drew.cell? ⟨zr,j,none⟩=#[.func (.func 224) #[] #[],.func (.func 225) #[] #[],.func (.func 226) #[] #[],.func (.func 227) #[] #[]][j]?:=Ag (show W2.drew.heap[zr]?=_ from kR);have HK:=Ad (And.intro kR (And.intro k1 C1));clear kR k1 C1 k0
   go_region_held3 (fun w'=>∀ j,w'.cell? ⟨zr,j,none⟩=#[.func (.func 224) #[] #[],.func (.func 225) #[] #[],.func (.func 226) #[] #[],.func (.func 227) #[] #[]][j]?) (first | (with_reducible assumption) | go_keep) ((first | (go_at_call 98; refine (HY.out _).mono ?_; rintro e w' ⟨rfl,rfl⟩) | (go_at_call 226; refine HC.out.mono ?_; rintro e W3 ⟨rfl,k3,L3⟩; have hS3:∀ j,W3.cell? ⟨zr,j,none⟩=#[.func (.func 224) #[] #[],.func (.func 225) #[] #[],.func (.func 226) #[] #[],.func (.func 227) #[] #[]][j]?:=Ag ((L3.block zr (Ac (show W2.drew.heap[zr]?=_ from HK.out.1)) (fun o e=>hz e.symm)).trans HK.out.1); skip)))
   all_goals
    have k4:W3.heap[w.heap.size+1]?=some (.cells (aR 0 0 0 0 0 false false) 45 (0,0)):=(L3.block _ (Ac (show W2.drew.heap[w.heap.size+1]?=_ from HK.out.2.1)) (fun o e=>by omega)).trans HK.out.2.1;have C3:Below w.heap.size w W3:=(Cw HK.out.2.2).trans (L3.below (Cw HK.out.2.2).size (fun b o hb e=>by omega));have c3:=Ag k3;have c4:=Ag k4;have f4:=As k4;clear hS hSd hS3 L3 HC HY HK k3 hz;go_wp2;refine bodyPost_ret (v:=.agg (aR T P C B L o q)) (by simp [results,Tryz.results166,go_sem,fun (x0 x1 x2 x3 x4 x5 x6:Value)=>Ag (Cr k4 x0 x1 x2 x3 x4 x5 x6)]) rfl ?_;exact ⟨rfl,C3.trans ((Ti W3 _ _ _ _ _ _ _ _).mono (by omega))⟩
  by_cases e3:reg=3
  ·subst e3
   have HE:Hid (I8 true P 3 v=P∧I9 true L 3 v=L∧Ju true S 3 v=S∧Jv true Q 3 v=false):=by show _∧_; simp [I8,I9,Ju,Jv]
   rw [HE.out.1,HE.out.2.1,HE.out.2.2.1,HE.out.2.2.2];clear HE;have HS:=Ad (fun W k=>Jdf W w.heap.size T P C B L S Q v k);have HY:=Ad (fun W=>Ck v W)
   obtain ⟨u,hu⟩:∃ u,Hid (u=v%256):=⟨_,rfl⟩
   simp only [← hu.out] at HS HY ⊢;clear hu
   go_enter Tryz.func166,Tryz.ntmps166
   go_wp2_with fail;generalize (w.alloc (.cells (aR T P C B L S Q) 45)).alloc (.cells (aR 0 0 0 0 0 false false) 45)=W0 at *;refine (Jw _).mono ?_;rintro e W1 ⟨rfl,L1⟩;replace k0:=Aa k0 L1 (Ac k0);replace k1:=Aa k1 L1 (Ac k1);have C1:=Ae C0 L1;clear C0 L1;go_upto_region 3 with (fail);have kR:=Al W1 #[.func (.func 224) #[] #[],.func (.func 225) #[] #[],.func (.func 226) #[] #[],.func (.func 227) #[] #[]] 186
   have hz:w.heap.size≠W1.heap.size:=fun e=>by have:=Ac k0; omega
   replace k0:=Ax k0 (.cells #[.func (.func 224) #[] #[],.func (.func 225) #[] #[],.func (.func 226) #[] #[],.func (.func 227) #[] #[]] 186);replace k1:=Ax k1 (.cells #[.func (.func 224) #[] #[],.func (.func 225) #[] #[],.func (.func 226) #[] #[],.func (.func 227) #[] #[]] 186);replace C1:=Ae C1 ((Below.refl W1.heap.size W1).alloc (Nat.le_refl _) (.cells #[.func (.func 224) #[] #[],.func (.func 225) #[] #[],.func (.func 226) #[] #[],.func (.func 227) #[] #[]] 186))
   obtain ⟨zr,hzr⟩:∃ z,Hid (z=W1.heap.size):=⟨_,rfl⟩
   generalize W1.alloc (.cells #[.func (.func 224) #[] #[],.func (.func 225) #[] #[],.func (.func 226) #[] #[],.func (.func 227) #[] #[]] 186)=W2 at *;rw [← hzr.out] at kR hz ⊢;clear hzr;have HC:=Ad (HS.out W2.drew k0);clear HS;have hS:∀ j,W2.cell? ⟨zr,j,none⟩=#[.func (.func 224) #[] #[],.func (.func 225) #[] #[],.func (.func 226) #[] #[],.func (.func 227) #[] #[]][j]?:=Ag kR;have hSd:∀ j,W2.drew.cell? ⟨zr,j,none⟩=#[.func (.func 224) #[] #[],.func (.func 225) #[] #[],.func (.func 226) #[] #[],.func (.func 227) #[] #[]][j]?:=Ag (show W2.drew.heap[zr]?=_ from kR);have HK:=Ad (And.intro kR (And.intro k1 C1));clear kR k1 C1 k0
   go_region_held3 (fun w'=>∀ j,w'.cell? ⟨zr,j,none⟩=#[.func (.func 224) #[] #[],.func (.func 225) #[] #[],.func (.func 226) #[] #[],.func (.func 227) #[] #[]][j]?) (first | (with_reducible assumption) | go_keep) ((first | (go_at_call 98; refine (HY.out _).mono ?_; rintro e w' ⟨rfl,rfl⟩) | (go_at_call 227; refine HC.out.mono ?_; rintro e W3 ⟨rfl,k3,L3⟩; have hS3:∀ j,W3.cell? ⟨zr,j,none⟩=#[.func (.func 224) #[] #[],.func (.func 225) #[] #[],.func (.func 226) #[] #[],.func (.func 227) #[] #[]][j]?:=Ag ((L3.block zr (Ac (show W2.drew.heap[zr]?=_ from HK.out.1)) (fun o e=>hz e.symm)).trans HK.out.1); skip)))
   all_goals
    have k4:W3.heap[w.heap.size+1]?=some (.cells (aR 0 0 0 0 0 false false) 45 (0,0)):=(L3.block _ (Ac (show W2.drew.heap[w.heap.size+1]?=_ from HK.out.2.1)) (fun o e=>by omega)).trans HK.out.2.1;have C3:Below w.heap.size w W3:=(Cw HK.out.2.2).trans (L3.below (Cw HK.out.2.2).size (fun b o hb e=>by omega));have c3:=Ag k3;have c4:=Ag k4;have f4:=As k4;clear hS hSd hS3 L3 HC HY HK k3 hz;go_wp2;refine bodyPost_ret (v:=.agg (aR T P C B L S false)) (by simp [results,Tryz.results166,go_sem,fun (x0 x1 x2 x3 x4 x5 x6:Value)=>Ag (Cr k4 x0 x1 x2 x3 x4 x5 x6)]) rfl ?_;exact ⟨rfl,C3.trans ((Ti W3 _ _ _ _ _ _ _ _).mono (by omega))⟩
  exfalso
  omega
 ·have HE:Hid (I8 true P reg v=P∧I9 true L reg v=L∧Ju true S reg v=S∧Jv true Q reg v=Q):=by
   show _∧_
   have n0:¬ reg=0:=by omega
   have n1:¬ reg=1:=by omega
   have n2:¬ reg=2:=by omega
   have n3:¬ reg=3:=by omega
   simp [I8,I9,Ju,Jv,n0,n1,n2,n3]
  rw [HE.out.1,HE.out.2.1,HE.out.2.2.1,HE.out.2.2.2];clear HE
  by_cases r0:0≤reg
  all_goals
   go_enter Tryz.func166,Tryz.ntmps166
   go_wp2_with fail;generalize (w.alloc (.cells (aR T P C B L S Q) 45)).alloc (.cells (aR 0 0 0 0 0 false false) 45)=W0 at *;refine (Jw _).mono ?_;rintro e W1 ⟨rfl,L1⟩;replace k0:=Aa k0 L1 (Ac k0);replace k1:=Aa k1 L1 (Ac k1);have C1:=Ae C0 L1;clear C0 L1
   have r4:decide (0≤reg)=true→decide (reg<4)=false:=fun h=>decide_eq_false (fun h'=>hr ⟨of_decide_eq_true h,h'⟩)
   first | (have r4:¬ reg<4:=fun h=>hr ⟨(by omega),h⟩; clear hr; go_upto_region 4 with (fail); skip) | (clear hr; go_upto_region 4 with (fail))
   have kA:=Ax k0 (.cells #[.func (.func 224) #[] #[],.func (.func 225) #[] #[],.func (.func 226) #[] #[],.func (.func 227) #[] #[]] 186);have kB:=Ax k1 (.cells #[.func (.func 224) #[] #[],.func (.func 225) #[] #[],.func (.func 226) #[] #[],.func (.func 227) #[] #[]] 186);replace C1:=Ae C1 ((Below.refl W1.heap.size W1).alloc (Nat.le_refl _) (.cells #[.func (.func 224) #[] #[],.func (.func 225) #[] #[],.func (.func 226) #[] #[],.func (.func 227) #[] #[]] 186));generalize W1.alloc (.cells #[.func (.func 224) #[] #[],.func (.func 225) #[] #[],.func (.func 226) #[] #[],.func (.func 227) #[] #[]] 186)=W2 at *;have c3:=Ag kA;have c4:=Ag kB;have f4:=As kB;clear kA k0 k1;go_wp2
   refine bodyPost_ret (v:=.agg (aR T P C B L S Q)) (by simp [results,Tryz.results166,go_sem,fun (x0 x1 x2 x3 x4 x5 x6:Value)=>Ag (Cr kB x0 x1 x2 x3 x4 x5 x6)]) rfl ?_;exact ⟨rfl,C1.trans ((Ti W2 _ _ _ _ _ _ _ _).mono (by omega))⟩
end Go.Proofs.YtgcmimcalmjaaaaGreatDoor
