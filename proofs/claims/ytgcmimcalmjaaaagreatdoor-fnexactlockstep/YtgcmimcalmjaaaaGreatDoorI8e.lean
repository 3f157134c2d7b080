import Derived.Test.YtgcmimcalmjaaaaGreatDoorI8c
namespace Go.Proofs.YtgcmimcalmjaaaaGreatDoor
set_option maxHeartbeats 2000000
set_option linter.unusedVariables false
set_option linter.unusedSimpArgs false
open Go.ChangeShapes Go.WideShapes Go.ChangeAt Go.RowKit
theorem Q8 (w:World) (z:Nat) (t c s ad pl:Int) (bl:Bool) (u1 u2:Value) (hb:w.heap[z]?=some (.cells (pR t c s ad pl bl u1 u2) 44 (0,0))) (a0:0≤ad) (a1:ad≤15) :
  Calls Tryz.prog 222 #[(pt z 0)] w fun e w'=>e=.returned (.tuple #[])∧w'=w.setCell ⟨z,3,none⟩ (.i ((ad+1)%16)):=by
 have hc:=Ag hb;have hf:=As hb;have t16:(ad+1).tmod 16=(ad+1)%16:=Int.tmod_eq_emod_of_nonneg (by omega)
 go_enter Tryz.func222,Tryz.ntmps222
 go_wp2
 ((try simp only [Exit.inBlock,Exit.then]); first | (refine bodyPost_ret (results_none rfl _ _ _) rfl ?_) | (refine bodyPost_end (results_none rfl _ _ _) rfl ?_))
 exact ⟨rfl,rfl⟩
theorem Y5 (w:World) (z p n x lo:Nat) (t c s ad pl:Int) (bl:Bool) (u2:Value) (f:Nat→Int) (reg v:Int) (hb:w.heap[z]?=some (.cells (pR t c s ad pl bl (.slice (some ⟨p,0,none⟩) n x) u2) 44 (0,0))) (R:Row w lo p n x f) (hzp:z≠p) (h16:n=16) (a0:0≤ad) (a1:ad≤15) :
  Calls Tryz.prog 188 #[(pt z 0),.i reg,.i (v%256)] w fun e w'=>e=.returned (.tuple #[])∧w'.heap[z]?=some (.cells (pR t (Jg true reg v c) (Jh true reg v s) (Ji true reg v ad) (Jj true reg v pl) bl (.slice (some ⟨p,0,none⟩) n x) u2) 44 (0,0))∧Row w' lo p n x (Kh true reg v ad f)∧Wrote (fun b _=>b=z∨b=p) w w':=by
 have hc:=Ag hb;have hf:=As hb
 have KEY:Hid (∀ (k:Nat) (y:Value) (cs:Array Value),w.heap[z]?=some (.cells (pR t c s ad pl bl (.slice (some ⟨p,0,none⟩) n x) u2) 44 (0,0))→(pR t c s ad pl bl (.slice (some ⟨p,0,none⟩) n x) u2).setIfInBounds k y=cs→(w.setCell ⟨z,k,none⟩ y).heap[z]?=some (.cells cs 44 (0,0))∧Row (w.setCell ⟨z,k,none⟩ y) lo p n x f∧Wrote (fun b _=>b=z∨b=p) w (w.setCell ⟨z,k,none⟩ y)):=fun k y cs h e =>
  ⟨e ▸ Af (o:=k) h y,R.keep (Wrote.setCell (R:=fun b _=>b=z) (Wrote.refl _ w) (fun _=>rfl) _) (fun _ h=>hzp h.symm),Wrote.setCell (Wrote.refl _ w) (fun _=>Or.inl rfl) _⟩
 have HB:=Ad hb;clear hb
 obtain ⟨vb,hvb⟩:∃ vb,Hid (vb=v%256):=⟨_,rfl⟩
 have vb0:0≤vb:=by rw [hvb.out]; omega
 have vb1:vb<256:=by rw [hvb.out]; omega
 rw [← hvb.out]
 by_cases e0:reg=0
 ·subst e0
  have HE:Hid (Jg true 0 v c=vb∧Jh true 0 v s=s∧Ji true 0 v ad=ad∧Jj true 0 v pl=pl∧Kh true 0 v ad f=f):=by rw [hvb.out]; exact ⟨rfl,rfl,rfl,rfl,rfl⟩
  go_enter Tryz.func188,Tryz.ntmps188
  go_wp2
  ((try simp only [Exit.inBlock,Exit.then]); first | (refine bodyPost_ret (results_none rfl _ _ _) rfl ?_) | (refine bodyPost_end (results_none rfl _ _ _) rfl ?_))
  rw [HE.out.1,HE.out.2.1,HE.out.2.2.1,HE.out.2.2.2.1,HE.out.2.2.2.2];exact ⟨rfl,KEY.out _ _ _ HB.out rfl⟩
 by_cases e1:reg=1
 ·subst e1
  have HE:Hid (Jg true 1 v c=c∧Jh true 1 v s=vb∧Ji true 1 v ad=ad∧Jj true 1 v pl=pl∧Kh true 1 v ad f=f):=by rw [hvb.out]; exact ⟨rfl,rfl,rfl,rfl,rfl⟩
  go_enter Tryz.func188,Tryz.ntmps188
  go_wp2
  ((try simp only [Exit.inBlock,Exit.then]); first | (refine bodyPost_ret (results_none rfl _ _ _) rfl ?_) | (refine bodyPost_end (results_none rfl _ _ _) rfl ?_))
  rw [HE.out.1,HE.out.2.1,HE.out.2.2.1,HE.out.2.2.2.1,HE.out.2.2.2.2];exact ⟨rfl,KEY.out _ _ _ HB.out rfl⟩
 by_cases e3:reg=3
 ·subst e3
  have HE:Hid (Jg true 3 v c=c∧Jh true 3 v s=s∧Ji true 3 v ad=vb%16∧Jj true 3 v pl=pl∧Kh true 3 v ad f=f):=by rw [hvb.out]; exact ⟨rfl,rfl,rfl,rfl,rfl⟩
  have tm:vb.tmod 16=vb%16:=Int.tmod_eq_emod_of_nonneg vb0
  go_enter Tryz.func188,Tryz.ntmps188
  go_wp2
  ((try simp only [Exit.inBlock,Exit.then]); first | (refine bodyPost_ret (results_none rfl _ _ _) rfl ?_) | (refine bodyPost_end (results_none rfl _ _ _) rfl ?_))
  rw [HE.out.1,HE.out.2.1,HE.out.2.2.1,HE.out.2.2.2.1,HE.out.2.2.2.2];exact ⟨rfl,KEY.out _ _ _ HB.out rfl⟩
 by_cases e5:reg=5
 ·subst e5
  have HE:Hid (Jg true 5 v c=c∧Jh true 5 v s=s∧Ji true 5 v ad=ad∧Jj true 5 v pl=vb%64∧Kh true 5 v ad f=f):=by rw [hvb.out]; exact ⟨rfl,rfl,rfl,rfl,rfl⟩
  have tm:vb.tmod 64=vb%64:=Int.tmod_eq_emod_of_nonneg vb0
  go_enter Tryz.func188,Tryz.ntmps188
  go_wp2
  ((try simp only [Exit.inBlock,Exit.then]); first | (refine bodyPost_ret (results_none rfl _ _ _) rfl ?_) | (refine bodyPost_end (results_none rfl _ _ _) rfl ?_))
  rw [HE.out.1,HE.out.2.1,HE.out.2.2.1,HE.out.2.2.2.1,HE.out.2.2.2.2];exact ⟨rfl,KEY.out _ _ _ HB.out rfl⟩
 by_cases e4:reg=4
 ·subst e4
  obtain ⟨k,rfl⟩:∃ k:Nat,ad=k:=⟨ad.toNat,by omega⟩
  have hk:k<n:=by omega
  have hki:(k:Int)<(n:Int):=by omega
  have HE:Hid (Jg true 4 v c=c∧Jh true 4 v s=s∧Ji true 4 v k=((k:Int)+1)%16∧Jj true 4 v pl=pl∧Kh true 4 v k f=fun i=>if i=k then vb%64 else f i):=by rw [hvb.out]; exact ⟨rfl,rfl,rfl,rfl,rfl⟩
  have t64:vb.tmod 64=vb%64:=Int.tmod_eq_emod_of_nonneg vb0
  have wk:IntKind.i64.wrap (k:Int)=k:=by rw [IntKind.wrap_i64]; omega
  have wv:IntKind.i64.wrap (vb%64)=vb%64:=by rw [IntKind.wrap_i64]; omega
  obtain ⟨bb,oo,ee,hcell⟩:=R.sl.row k hk;simp only [Option.some.injEq,Addr.mk.injEq,and_true] at ee;obtain ⟨rfl,rfl⟩:=ee;rw [Nat.zero_add] at hcell;have hfro:w.frozen? ⟨p,k,none⟩=false:=R.own.frozenAt k
  go_enter Tryz.func188,Tryz.ntmps188
  go_upto_region 8 with (fail);have hS:∀ j,(w.setCell ⟨p,k,none⟩ (.i (vb%64))).drew.cell? ⟨z,j,none⟩=(pR t c s (k:Int) pl bl (.slice (some ⟨p,0,none⟩) n x) u2)[j]?:=Ag (show (w.setCell ⟨p,k,none⟩ (.i (vb%64))).heap[z]?=_ from Bc HB.out hzp)
  have hk0:(0:Int)≤(k:Int):=by omega
  have hb2:(w.setCell ⟨p,k,none⟩ (.i (vb%64))).drew.heap[z]?=some (.cells (pR t c s (k:Int) pl bl (.slice (some ⟨p,0,none⟩) n x) u2) 44 (0,0)):=Bc HB.out hzp;have W1:Wrote (fun b _=>b=z∨b=p) w (w.setCell ⟨p,k,none⟩ (.i (vb%64))).drew:=(Wrote.setCell (Wrote.refl _ w) (fun _=>Or.inr rfl) _).drew;have R1:Row (w.setCell ⟨p,k,none⟩ (.i (vb%64))).drew lo p n x (fun i=>if i=k then vb%64 else f i):=(R.put k hk (vb%64)).block rfl;have HX:=Ad (And.intro hb2 (And.intro W1 R1));clear hb2 W1 R1 h16 KEY
  go_region_held3 (fun w'=>∀ j,w'.cell? ⟨z,j,none⟩=(pR t c s (k:Int) pl bl (.slice (some ⟨p,0,none⟩) n x) u2)[j]?) (first | (with_reducible assumption) | go_keep) (fail)
  all_goals
   go_wp2_with fail;obtain ⟨hb2,W1,R1⟩:=HX.out;generalize (w.setCell ⟨p,k,none⟩ (.i (vb%64))).drew=w2 at *;refine (Q8 _ z t c s k pl bl _ u2 hb2 (by omega) (by omega)).mono ?_;rintro e w3 ⟨rfl,rfl⟩;have hb3:=Af (o:=3) hb2 (.i (((k:Int)+1)%16));simp only [List.setIfInBounds_toArray,List.set_cons_succ,List.set_cons_zero] at hb3;have R3:=R1.keep (Wrote.setCell (b:=z) (o:=3) (R:=fun b _=>b=z) (Wrote.refl _ w2) (fun _=>rfl) (.i (((k:Int)+1)%16))) (fun _ h=>hzp h.symm);have W3:Wrote (fun b _=>b=z∨b=p) w (w2.setCell ⟨z,3,none⟩ (.i (((k:Int)+1)%16))):=W1.setCell (fun _=>Or.inl rfl) _;clear hb2 R1 W1 hS hc hf hcell hfro HX;rename_i hh1;clear hh1;go_wp2
   ((try simp only [Exit.inBlock,Exit.then]); first | (refine bodyPost_ret (results_none rfl _ _ _) rfl ?_) | (refine bodyPost_end (results_none rfl _ _ _) rfl ?_))
   rw [HE.out.1,HE.out.2.1,HE.out.2.2.1,HE.out.2.2.2.1,HE.out.2.2.2.2];exact ⟨rfl,hb3,R3,W3⟩
 ·have HE:Hid (Jg true reg v c=c∧Jh true reg v s=s∧Ji true reg v ad=ad∧Jj true reg v pl=pl∧Kh true reg v ad f=f):=⟨if_neg (by simp [e0]),if_neg (by simp [e1]),(if_neg (by simp [e3])).trans (if_neg (by simp [e4])),if_neg (by simp [e5]),if_neg (by simp [e4])⟩
  have e0':(reg==0)=false:=by simpa using e0
  have e1':(reg==1)=false:=by simpa using e1
  have e3':(reg==3)=false:=by simpa using e3
  have e4':(reg==4)=false:=by simpa using e4
  have e5':(reg==5)=false:=by simpa using e5
  clear e0 e1 e3 e4 e5
  go_enter Tryz.func188,Tryz.ntmps188
  go_wp2
  ((try simp only [Exit.inBlock,Exit.then]); first | (refine bodyPost_ret (results_none rfl _ _ _) rfl ?_) | (refine bodyPost_end (results_none rfl _ _ _) rfl ?_))
  rw [HE.out.1,HE.out.2.1,HE.out.2.2.1,HE.out.2.2.2.1,HE.out.2.2.2.2];exact ⟨rfl,HB.out,R,Wrote.refl _ _⟩
theorem Jba (w:World) (z p n x lo:Nat) (t c s ad pl:Int) (bl:Bool) (u2:Value) (f:Nat→Int) (reg:Int) (hb:w.heap[z]?=some (.cells (pR t c s ad pl bl (.slice (some ⟨p,0,none⟩) n x) u2) 44 (0,0))) (R:Row w lo p n x f) (h16:n=16) (a0:0≤ad) (a1:ad≤15) :
  Calls Tryz.prog 184 #[(pt z 0),.i reg] w fun e w'=>e=.returned (.i (Oo true reg bl ad f))∧w'.heap[z]?=some (.cells (pR t c s (Mb true reg ad) pl (Om true reg bl) (.slice (some ⟨p,0,none⟩) n x) u2) 44 (0,0))∧Wrote (fun b _=>b=z) w w':=by
 have hc:=Ag hb;have hf:=As hb;have HB:=Ad hb;clear hb
 by_cases e2:reg=2
 ·subst e2
  have HE:Hid (Mb true 2 ad=ad∧Om true 2 bl=false∧Oo true 2 bl ad f=128*Av bl):=⟨rfl,rfl,rfl⟩
  have hb3:=Af (o:=5) HB.out (.bool false);simp only [List.setIfInBounds_toArray,List.set_cons_succ,List.set_cons_zero] at hb3;have HX:=Ad hb3;clear hb3;cases bl
  ·go_enter Tryz.func184,Tryz.ntmps184
   go_wp2;go_ret;rw [HE.out.1,HE.out.2.1,HE.out.2.2];exact ⟨rfl,HX.out,Wrote.setCell (R:=fun b _=>b=z) (Wrote.refl _ w) (fun _=>rfl) _⟩
  ·go_enter Tryz.func184,Tryz.ntmps184
   go_wp2;go_ret;rw [HE.out.1,HE.out.2.1,HE.out.2.2];exact ⟨rfl,HX.out,Wrote.setCell (R:=fun b _=>b=z) (Wrote.refl _ w) (fun _=>rfl) _⟩
 ·by_cases e4:reg=4
  ·subst e4
   obtain ⟨k,rfl⟩:∃ k:Nat,ad=k:=⟨ad.toNat,by omega⟩
   have hk:k<n:=by omega
   have hki:(k:Int)<(n:Int):=by omega
   have HE:Hid (Mb true 4 (k:Int)=((k:Int)+1)%16∧Om true 4 bl=bl∧Oo true 4 bl (k:Int) f=f k):=⟨rfl,rfl,rfl⟩
   have wk:IntKind.i64.wrap (k:Int)=k:=by rw [IntKind.wrap_i64]; omega
   obtain ⟨bb,oo,ee,hcell⟩:=R.sl.row k hk;simp only [Option.some.injEq,Addr.mk.injEq,and_true] at ee;obtain ⟨rfl,rfl⟩:=ee;rw [Nat.zero_add] at hcell
   have hk0:(0:Int)≤(k:Int):=by omega
   clear h16
   go_enter Tryz.func184,Tryz.ntmps184
   go_upto_region 8 with (fail)
   go_quiet (fail)
   go_wp2_with fail;have hb2:(w.drewN nq).heap[z]?=_:=HB.out;have W1:Wrote (fun b _=>b=z) w (w.drewN nq):=Ab (below_drewN (Below.refl _ _) _) _;generalize w.drewN nq=w2 at *;refine (Q8 _ z t c s k pl bl _ u2 hb2 (by omega) (by omega)).mono ?_;rintro e w3 ⟨rfl,rfl⟩;have hb3:=Af (o:=3) hb2 (.i (((k:Int)+1)%16));simp only [List.setIfInBounds_toArray,List.set_cons_succ,List.set_cons_zero] at hb3;have W3:Wrote (fun b _=>b=z) w (w2.setCell ⟨z,3,none⟩ (.i (((k:Int)+1)%16))):=W1.setCell (fun _=>rfl) _;clear hb2 W1 hc hf hcell;go_wp2;go_ret;rw [HE.out.1,HE.out.2.1,HE.out.2.2];exact ⟨rfl,hb3,W3⟩
  ·have HE:Hid (Mb true reg ad=ad∧Om true reg bl=bl∧Oo true reg bl ad f=0):=⟨if_neg (by simp [e4]),if_neg (by simp [e2]),(if_neg (by simp [e2])).trans (if_neg (by simp [e4]))⟩
   have e2':(reg==2)=false:=by simpa using e2
   have e4':(reg==4)=false:=by simpa using e4
   clear e2 e4
   go_enter Tryz.func184,Tryz.ntmps184
   go_wp2;go_ret;rw [HE.out.1,HE.out.2.1,HE.out.2.2];exact ⟨rfl,HB.out,Wrote.refl _ _⟩
end Go.Proofs.YtgcmimcalmjaaaaGreatDoor
