import Derived.Test.YtgcmimcalmjaaaaGreatDoorI8a
import Derived.Laws.EntriesVeiled
import Derived.RangeFuncNested
import Derived.RangeFuncBound
import Derived.RangeFuncCalls
import Derived.RangeFuncLeaves
import Derived.Shelf.Abstract
import Derived.OwnWalkIn
import Derived.TacticsInMore
import Derived.LoopNIn
import Derived.LoopIn
namespace Go.Proofs.YtgcmimcalmjaaaaGreatDoor
set_option maxHeartbeats 1000000
set_option linter.unusedVariables false
set_option linter.unusedSimpArgs false
open Go.ChangeShapes Go.WideShapes Go.ChangeAt Go.RowKit
theorem Y4 (w:World) (x y:Int):Calls Tryz.prog 237 #[.i x,.i y] w fun e w'=>e=.returned (.i 0)∧w'=w:=by
 go_enter Tryz.func237,Tryz.ntmps237
 go_wp2;go_ret;exact ⟨rfl,rfl⟩
theorem Ja8 (w:World) (b:Nat) (t c s ad pl:Int) (bl:Bool) (ua:Option Addr) (ux:Nat) (v':Value) (f:Nat→Int) (a:Int) (hb:w.heap[b]?=some (.cells (pR t c s ad pl bl (.slice ua 16 ux) v') 44 (0,0))) (hr:Be .i64 w ua 16 f) (s0:0≤s) (s1:s≤255) (a0:0≤a) (a1:a<48) :
  Calls Tryz.prog 238 #[.i (a/8),.i (a%8),(pt b 0)] w fun e w'=>e=.returned (.i (Hn f s pl a))∧Below w.heap.size w w':=by
 have hc:=Ag hb;have m16:(a%8+s+a/8).tmod 16=(a%8+s+a/8)%16:=Int.tmod_eq_emod_of_nonneg (by omega)
 obtain ⟨k,hk⟩:∃ k:Nat,(a%8+s+a/8)%16=k:=⟨((a%8+s+a/8)%16).toNat,by omega⟩
 have hk16:k<16:=by omega
 have HE:Hid (Hn f s pl a=bits .xor .i64 (f k) pl):=by show _=_; unfold Hn; rw [hk]; rfl
 rw [hk] at m16;obtain ⟨b',off,rfl,hcell⟩:=hr k hk16
 have hk':(k:Int)<16:=by omega
 have w1:IntKind.i64.wrap (a%8+s)=a%8+s:=by rw [IntKind.wrap_i64]; omega
 have w2:IntKind.i64.wrap (a%8+s+a/8)=a%8+s+a/8:=by rw [IntKind.wrap_i64]; omega
 clear hr hb hk
 go_enter Tryz.func238,Tryz.ntmps238
 go_upto_region 1 with (fail)
 go_quiet (fail)
 go_wp2;go_ret;exact ⟨Az HE.out.symm,below_drewN (Below.refl _ _) _⟩
theorem Jci (w:World) (F G:Nat→Nat→Prop) (t c s ad pl:Int) (bl:Bool) (ua:Option Addr) (ux:Nat) (va:Option Addr) (vx:Nat) (n:Nat) (f:Nat→Int) (m:Nat) (g:Nat→Int) (H:Ints .i64 w F (.slice ua n ux) n f) (K:Ints .i64 w G (.slice va m vx) m g) :
  Calls Tryz.prog 217 #[.agg (pR t c s ad pl bl (.slice ua n ux) (.slice va m vx))] w fun e w'=>(A1 t c s ad pl n f m g=false→e=.returned (.agg #[.func (.func 237) #[] #[]]))∧(A1 t c s ad pl n f m g=true→e=.returned (.agg #[.func (.func 238) #[] #[(pt w.heap.size 0)]]))∧w'.heap[w.heap.size]?=some (.cells (pR t c s ad pl bl (.slice ua n ux) (.slice va m vx)) 44 (0,0))∧Below w.heap.size w w':=by
 have hmf:∀ (fn:Fn) (first cap:Array Value) (w:World),(Instr.makeFunc fn first cap).run Tryz.prog w=.ok (.func fn first cap) w:=fun _ _ _ _=>rfl
 have L0:Below w.heap.size w ((w.alloc (.cells (pR t c s ad pl bl (.slice ua n ux) (.slice va m vx)) 44)).alloc (.cells #[.nilFunc] 192)):=((Below.refl _ _).alloc (Nat.le_refl _) _).alloc (by simp) _;have k0:((w.alloc (.cells (pR t c s ad pl bl (.slice ua n ux) (.slice va m vx)) 44)).alloc (.cells #[.nilFunc] 192)).heap[w.heap.size]?=some (.cells (pR t c s ad pl bl (.slice ua n ux) (.slice va m vx)) 44 (0,0)):=Ax (Al w _ _) _
 have k1:((w.alloc (.cells (pR t c s ad pl bl (.slice ua n ux) (.slice va m vx)) 44)).alloc (.cells #[.nilFunc] 192)).heap[w.heap.size+1]?=some (.cells #[.nilFunc] 192 (0,0)):=by simpa using Al (w.alloc (.cells (pR t c s ad pl bl (.slice ua n ux) (.slice va m vx)) 44)) #[.nilFunc] 192
 go_enter Tryz.func217,Tryz.ntmps217
 go_wp2_with fail;generalize ((w.alloc (.cells (pR t c s ad pl bl (.slice ua n ux) (.slice va m vx)) 44)).alloc (.cells #[.nilFunc] 192))=W0 at *;refine (Iq _ F G t c s ad pl bl _ _ n f m g (H.keep (Ab L0 Aj) (fun _ _ _ x=>x)) (K.keep (Ab L0 Aj) (fun _ _ _ x=>x))).mono ?_;rintro e W1 ⟨rfl,L1⟩;have C1:=Ae L0 L1;replace k0:=Aa k0 L1 (Ac k0);replace k1:=Aa k1 L1 (Ac k1);have c1:=Ag k1;have f1:=As k1;clear L0 L1 H K;cases hok:A1 t c s ad pl n f m g
 ·go_wp2
  refine bodyPost_ret (v:=.agg #[.func (.func 237) #[] #[]]) (by simp [results,Tryz.results217,go_sem,c1]) rfl ?_;exact ⟨fun _=>rfl,fun h=>absurd (hok.symm.trans h) (by decide),Bc k0 (by omega),C1.setCell (by simp) _⟩
 ·go_wp2
  refine bodyPost_ret (v:=.agg #[.func (.func 238) #[] #[(pt w.heap.size 0)]]) (by simp [results,Tryz.results217,go_sem,c1]) rfl ?_;exact ⟨fun h=>absurd (h.symm.trans hok) (by decide),fun _=>rfl,Bc k0 (by omega),C1.setCell (by simp) _⟩
theorem Ja9 (w:World) (F G:Nat→Nat→Prop) (t c s ad pl:Int) (bl:Bool) (u u':Value) (n:Nat) (f:Nat→Int) (m:Nat) (g:Nat→Int) (a:Int) (H:Ints .i64 w F u n f) (K:Ints .i64 w G u' m g) :
  Calls Tryz.prog 171 #[.agg (pR t c s ad pl bl u u'),.i a] w fun e w'=>e=.returned (.i (U7 (A1 t c s ad pl n f m g) f s pl a))∧Below w.heap.size w w':=by
 obtain ⟨ua,ux,rfl,un,hr,hF⟩:=H;obtain ⟨va,vx,rfl,vn,hr',hF'⟩:=K
 have H:Ints .i64 w F (.slice ua n ux) n f:=⟨_,_,rfl,un,hr,hF⟩
 have K:Ints .i64 w G (.slice va m vx) m g:=⟨_,_,rfl,vn,hr',hF'⟩
 clear hF hr' hF';have L0:Below w.heap.size w (w.alloc (.cells (pR t c s ad pl bl (.slice ua n ux) (.slice va m vx)) 44)):=(Below.refl _ _).alloc (Nat.le_refl _) _;have k0:=Al w (pR t c s ad pl bl (.slice ua n ux) (.slice va m vx)) 44
 by_cases hA:0≤a∧a≤47
 ·obtain ⟨a0,a47⟩:=hA
  have a1:a<48:=by omega
  have n1:¬ a<0:=by omega
  have n2:¬ 48≤a:=by omega
  have m8:a.tmod 8=a%8:=Int.tmod_eq_emod_of_nonneg a0;have d8:a.tdiv 8=a/8:=Int.tdiv_eq_ediv_of_nonneg a0
  go_enter Tryz.func171,Tryz.ntmps171
  go_wp2_with fail;generalize w.alloc (.cells (pR t c s ad pl bl (.slice ua n ux) (.slice va m vx)) 44)=W0 at *;refine (Jci _ F G t c s ad pl bl ua ux va vx n f m g (H.keep (Ab L0 Aj) (fun _ _ _ x=>x)) (K.keep (Ab L0 Aj) (fun _ _ _ x=>x))).mono ?_;rintro e W1 ⟨hno,hyes,kb,L1⟩;have C1:=Ae L0 L1;cases hok:A1 t c s ad pl n f m g
  ·obtain rfl:=hno hok
   have HE:Hid (U7 false f s pl a=0):=if_neg (by simp)
   have hfd:∀ w,(Instr.field 192 (.agg #[.func (.func 237) #[] #[]]) 0).run Tryz.prog w=.ok (.func (.func 237) #[] #[]) w:=fun _=>by kernel_rfl
   clear hno hyes;go_wp2_with fail;refine (Y4 _ _ _).mono ?_;rintro e W2 ⟨rfl,rfl⟩;go_wp2;go_ret;exact ⟨Az (by rw [hok]; exact HE.out.symm),C1⟩
  ·obtain rfl:=hyes hok
   have HE:Hid (U7 true f s pl a=Hn f s pl a):=if_pos ⟨rfl,a0,a47⟩
   have hfd:∀ w,(Instr.field 192 (.agg #[.func (.func 238) #[] #[(pt W0.heap.size 0)]]) 0).run Tryz.prog w=.ok (.func (.func 238) #[] #[(pt W0.heap.size 0)]) w:=fun _=>by kernel_rfl
   clear hno hyes;go_wp2_with fail;have IP:=Ev hok;have s0:=IP.s0;have s1:=IP.s1;obtain rfl:=IP.n16;refine (Ja8 _ W0.heap.size t c s ad pl bl ua ux (.slice va m vx) f a kb (hr.keep (Ab C1 Aj) (fun _ _ _ x=>x)) s0 s1 a0 a1).mono ?_;rintro e W2 ⟨rfl,L2⟩;have C2:=Ae C1 L2;clear IP s0 s1 hr;go_wp2;go_ret;exact ⟨Az (by rw [hok]; exact HE.out.symm),C2⟩
 ·have HE:Hid (U7 (A1 t c s ad pl n f m g) f s pl a=0):=if_neg (fun h=>hA h.2)
  by_cases h0:a<0
  ·go_enter Tryz.func171,Tryz.ntmps171
   go_wp2;go_ret;exact ⟨Az HE.out.symm,L0⟩
  ·have h1:48≤a:=by omega
   go_enter Tryz.func171,Tryz.ntmps171
   go_wp2;go_ret;exact ⟨Az HE.out.symm,L0⟩
set_option maxHeartbeats 2000000
theorem Q8 (w:World) (z:Nat) (t c s ad pl:Int) (bl:Bool) (u1 u2:Value) (hb:w.heap[z]?=some (.cells (pR t c s ad pl bl u1 u2) 44 (0,0))) (a0:0≤ad) (a1:ad≤15) :
  Calls Tryz.prog 222 #[(pt z 0)] w fun e w'=>e=.returned (.tuple #[])∧w'=w.setCell ⟨z,3,none⟩ (.i ((ad+1)%16)):=by
 have hc:=Ag hb;have hf:=As hb;have t16:(ad+1).tmod 16=(ad+1)%16:=Int.tmod_eq_emod_of_nonneg (by omega)
 go_enter Tryz.func222,Tryz.ntmps222
 go_wp2
 ((try simp only [Exit.inBlock,Exit.then]); first | (refine bodyPost_ret (results_none rfl _ _ _) rfl ?_) | (refine bodyPost_end (results_none rfl _ _ _) rfl ?_))
 exact ⟨rfl,rfl⟩
theorem Y5 (w:World) (z p n x lo:Nat) (t c s ad pl:Int) (bl:Bool) (u2:Value) (f:Nat→Int) (reg v:Int) (hb:w.heap[z]?=some (.cells (pR t c s ad pl bl (.slice (some ⟨p,0,none⟩) n x) u2) 44 (0,0))) (R:Row w lo p n x f) (hzp:z≠p) (h16:n=16) (a0:0≤ad) (a1:ad≤15) :
  Calls Tryz.prog 188 #[(pt z 0),.i reg,.i (v%256)] w fun e w'=>e=.returned (.tuple #[])∧w'.heap[z]?=some (.cells (pR t (Jg true reg v c) (Jh true reg v s) (Ji true reg v ad) (Jj true reg v pl) bl (.slice (some ⟨p,0,none⟩) n x) u2) 44 (0,0))∧Row w' lo p n x (Kh true reg v ad f)∧Wrote (fun b _=>b=z∨b=p) w w':=by
 have hc:=Ag hb;have hf:=As hb
 have KEY:Hid (∀ (k:Nat) (y:Value) (cs:Array Value),w.heap[z]?=some (.cells (pR t c s ad pl bl (.slice (some ⟨p,0,none⟩) n x) u2) 44 (0,0))→(pR t c s ad pl bl (.slice (some ⟨p,0,none⟩) n x) u2).setIfInBounds k y=cs→(w.setCell ⟨z,k,none⟩ y).heap[z]?=some (.cells cs 44 (0,0))∧Row (w.setCell ⟨z,k,none⟩ y) lo p n x f∧Wrote (fun b _=>b=z∨b=p) w (w.setCell ⟨z,k,none⟩ y)):=fun k y cs h e =>
  ⟨e ▸ Af (o:=k) h y,R.keep (Wrote.setCell (R:=fun b _=>b=z) (Wrote.refl _ w) (fun _=>rfl) _) (fun _ h=>hzp h.symm),Wrote.setCell (Wrote.refl _ w) (fun _=>Or.inl rfl) _⟩
 have HB:=Ad hb;clear hb
 obtain ⟨vb,hvb⟩:∃ vb,Hid (vb=v%256):=⟨_,rfl⟩
 have vb0:0≤vb:=by rw [hvb.out]; omega
 have vb1:vb<256:=by rw [hvb.out]; omega
 rw [← hvb.out]
 by_cases e0:reg=0
 ·subst e0
  have HE:Hid (Jg true 0 v c=vb∧Jh true 0 v s=s∧Ji true 0 v ad=ad∧Jj true 0 v pl=pl∧Kh true 0 v ad f=f):=by rw [hvb.out]; exact ⟨rfl,rfl,rfl,rfl,rfl⟩
  go_enter Tryz.func188,Tryz.ntmps188
  go_wp2
  ((try simp only [Exit.inBlock,Exit.then]); first | (refine bodyPost_ret (results_none rfl _ _ _) rfl ?_) | (refine bodyPost_end (results_none rfl _ _ _) rfl ?_))
  rw [HE.out.1,HE.out.2.1,HE.out.2.2.1,HE.out.2.2.2.1,HE.out.2.2.2.2];exact ⟨rfl,KEY.out _ _ _ HB.out rfl⟩
 by_cases e1:reg=1
 ·subst e1
  have HE:Hid (Jg true 1 v c=c∧Jh true 1 v s=vb∧Ji true 1 v ad=ad∧Jj true 1 v pl=pl∧Kh true 1 v ad f=f):=by rw [hvb.out]; exact ⟨rfl,rfl,rfl,rfl,rfl⟩
  go_enter Tryz.func188,Tryz.ntmps188
  go_wp2
  ((try simp only [Exit.inBlock,Exit.then]); first | (refine bodyPost_ret (results_none rfl _ _ _) rfl ?_) | (refine bodyPost_end (results_none rfl _ _ _) rfl ?_))
  rw [HE.out.1,HE.out.2.1,HE.out.2.2.1,HE.out.2.2.2.1,HE.out.2.2.2.2];exact ⟨rfl,KEY.out _ _ _ HB.out rfl⟩
 by_cases e3:reg=3
 ·subst e3
  have HE:Hid (Jg true 3 v c=c∧Jh true 3 v s=s∧Ji true 3 v ad=vb%16∧Jj true 3 v pl=pl∧Kh true 3 v ad f=f):=by rw [hvb.out]; exact ⟨rfl,rfl,rfl,rfl,rfl⟩
  have tm:vb.tmod 16=vb%16:=Int.tmod_eq_emod_of_nonneg vb0
  go_enter Tryz.func188,Tryz.ntmps188
  go_wp2
  ((try simp only [Exit.inBlock,Exit.then]); first | (refine bodyPost_ret (results_none rfl _ _ _) rfl ?_) | (refine bodyPost_end (results_none rfl _ _ _) rfl ?_))
  rw [HE.out.1,HE.out.2.1,HE.out.2.2.1,HE.out.2.2.2.1,HE.out.2.2.2.2];exact ⟨rfl,KEY.out _ _ _ HB.out rfl⟩
 by_cases e5:reg=5
 ·subst e5
  have HE:Hid (Jg true 5 v c=c∧Jh true 5 v s=s∧Ji true 5 v ad=ad∧Jj true 5 v pl=vb%64∧Kh true 5 v ad f=f):=by rw [hvb.out]; exact ⟨rfl,rfl,rfl,rfl,rfl⟩
  have tm:vb.tmod 64=vb%64:=Int.tmod_eq_emod_of_nonneg vb0
  go_enter Tryz.func188,Tryz.ntmps188
  go_wp2
  ((try simp only [Exit.inBlock,Exit.then]); first | (refine bodyPost_ret (results_none rfl _ _ _) rfl ?_) | (refine bodyPost_end (results_none rfl _ _ _) rfl ?_))
  rw [HE.out.1,HE.out.2.1,HE.out.2.2.1,HE.out.2.2.2.1,HE.out.2.2.2.2];exact ⟨rfl,KEY.out _ _ _ HB.out rfl⟩
 by_cases e4:reg=4
 ·subst e4
  obtain ⟨k,rfl⟩:∃ k:Nat,ad=k:=⟨ad.toNat,by omega⟩
  have hk:k<n:=by omega
  have hki:(k:Int)<(n:Int):=by omega
  have HE:Hid (Jg true 4 v c=c∧Jh true 4 v s=s∧Ji true 4 v k=((k:Int)+1)%16∧Jj true 4 v pl=pl∧Kh true 4 v k f=fun i=>if i=k then vb%64 else f i):=by rw [hvb.out]; exact ⟨rfl,rfl,rfl,rfl,rfl⟩
  have t64:vb.tmod 64=vb%64:=Int.tmod_eq_emod_of_nonneg vb0
  have wk:IntKind.i64.wrap (k:Int)=k:=by rw [IntKind.wrap_i64]; omega
  have wv:IntKind.i64.wrap (vb%64)=vb%64:=by rw [IntKind.wrap_i64]; omega
  obtain ⟨bb,oo,ee,hcell⟩:=R.sl.row k hk;simp only [Option.some.injEq,Addr.mk.injEq,and_true] at ee;obtain ⟨rfl,rfl⟩:=ee;rw [Nat.zero_add] at hcell;have hfro:w.frozen? ⟨p,k,none⟩=false:=R.own.frozenAt k
  go_enter Tryz.func188,Tryz.ntmps188
  go_upto_region 8 with (fail);have hS:∀ j,(w.setCell ⟨p,k,none⟩ (.i (vb%64))).drew.cell? ⟨z,j,none⟩=(pR t c s (k:Int) pl bl (.slice (some ⟨p,0,none⟩) n x) u2)[j]?:=Ag (show (w.setCell ⟨p,k,none⟩ (.i (vb%64))).heap[z]?=_ from Bc HB.out hzp)
  have hk0:(0:Int)≤(k:Int):=by omega
  have hb2:(w.setCell ⟨p,k,none⟩ (.i (vb%64))).drew.heap[z]?=some (.cells (pR t c s (k:Int) pl bl (.slice (some ⟨p,0,none⟩) n x) u2) 44 (0,0)):=Bc HB.out hzp;have W1:Wrote (fun b _=>b=z∨b=p) w (w.setCell ⟨p,k,none⟩ (.i (vb%64))).drew:=(Wrote.setCell (Wrote.refl _ w) (fun _=>Or.inr rfl) _).drew;have R1:Row (w.setCell ⟨p,k,none⟩ (.i (vb%64))).drew lo p n x (fun i=>if i=k then vb%64 else f i):=(R.put k hk (vb%64)).block rfl;have HX:=Ad (And.intro hb2 (And.intro W1 R1));clear hb2 W1 R1 h16 KEY
  go_region_held3 (fun w'=>∀ j,w'.cell? ⟨z,j,none⟩=(pR t c s (k:Int) pl bl (.slice (some ⟨p,0,none⟩) n x) u2)[j]?) (first | (with_reducible assumption) | go_keep) (fail)
  all_goals
   go_wp2_with fail;obtain ⟨hb2,W1,R1⟩:=HX.out;generalize (w.setCell ⟨p,k,none⟩ (.i (vb%64))).drew=w2 at *;refine (Q8 _ z t c s k pl bl _ u2 hb2 (by omega) (by omega)).mono ?_;rintro e w3 ⟨rfl,rfl⟩;have hb3:=Af (o:=3) hb2 (.i (((k:Int)+1)%16));simp only [List.setIfInBounds_toArray,List.set_cons_succ,List.set_cons_zero] at hb3;have R3:=R1.keep (Wrote.setCell (b:=z) (o:=3) (R:=fun b _=>b=z) (Wrote.refl _ w2) (fun _=>rfl) (.i (((k:Int)+1)%16))) (fun _ h=>hzp h.symm);have W3:Wrote (fun b _=>b=z∨b=p) w (w2.setCell ⟨z,3,none⟩ (.i (((k:Int)+1)%16))):=W1.setCell (fun _=>Or.inl rfl) _;clear hb2 R1 W1 hS hc hf hcell hfro HX;rename_i hh1;clear hh1;go_wp2
   ((try simp only [Exit.inBlock,Exit.then]); first | (refine bodyPost_ret (results_none rfl _ _ _) rfl ?_) | (refine bodyPost_end (results_none rfl _ _ _) rfl ?_))
   rw [HE.out.1,HE.out.2.1,HE.out.2.2.1,HE.out.2.2.2.1,HE.out.2.2.2.2];exact ⟨rfl,hb3,R3,W3⟩
 ·have HE:Hid (Jg true reg v c=c∧Jh true reg v s=s∧Ji true reg v ad=ad∧Jj true reg v pl=pl∧Kh true reg v ad f=f):=⟨if_neg (by simp [e0]),if_neg (by simp [e1]),(if_neg (by simp [e3])).trans (if_neg (by simp [e4])),if_neg (by simp [e5]),if_neg (by simp [e4])⟩
  have e0':(reg==0)=false:=by simpa using e0
  have e1':(reg==1)=false:=by simpa using e1
  have e3':(reg==3)=false:=by simpa using e3
  have e4':(reg==4)=false:=by simpa using e4
  have e5':(reg==5)=false:=by simpa using e5
  clear e0 e1 e3 e4 e5
  go_enter Tryz.func188,Tryz.ntmps188
  go_wp2
  ((try simp only [Exit.inBlock,Exit.then]); first | (refine bodyPost_ret (results_none rfl _ _ _) rfl ?_) | (refine bodyPost_end (results_none rfl _ _ _) rfl ?_))
  rw [HE.out.1,HE.out.2.1,HE.out.2.2.1,HE.out.2.2.2.1,HE.out.2.2.2.2];exact ⟨rfl,HB.out,R,Wrote.refl _ _⟩
theorem Jba (w:World) (z p n x lo:Nat) (t c s ad pl:Int) (bl:Bool) (u2:Value) (f:Nat→Int) (reg:Int) (hb:w.heap[z]?=some (.cells (pR t c s ad pl bl (.slice (some ⟨p,0,none⟩) n x) u2) 44 (0,0))) (R:Row w lo p n x f) (h16:n=16) (a0:0≤ad) (a1:ad≤15) :
  Calls Tryz.prog 184 #[(pt z 0),.i reg] w fun e w'=>e=.returned (.i (Oo true reg bl ad f))∧w'.heap[z]?=some (.cells (pR t c s (Mb true reg ad) pl (Om true reg bl) (.slice (some ⟨p,0,none⟩) n x) u2) 44 (0,0))∧Wrote (fun b _=>b=z) w w':=by
 have hc:=Ag hb;have hf:=As hb;have HB:=Ad hb;clear hb
 by_cases e2:reg=2
 ·subst e2
  have HE:Hid (Mb true 2 ad=ad∧Om true 2 bl=false∧Oo true 2 bl ad f=128*Av bl):=⟨rfl,rfl,rfl⟩
  have hb3:=Af (o:=5) HB.out (.bool false);simp only [List.setIfInBounds_toArray,List.set_cons_succ,List.set_cons_zero] at hb3;have HX:=Ad hb3;clear hb3;cases bl
  ·go_enter Tryz.func184,Tryz.ntmps184
   go_wp2;go_ret;rw [HE.out.1,HE.out.2.1,HE.out.2.2];exact ⟨rfl,HX.out,Wrote.setCell (R:=fun b _=>b=z) (Wrote.refl _ w) (fun _=>rfl) _⟩
  ·go_enter Tryz.func184,Tryz.ntmps184
   go_wp2;go_ret;rw [HE.out.1,HE.out.2.1,HE.out.2.2];exact ⟨rfl,HX.out,Wrote.setCell (R:=fun b _=>b=z) (Wrote.refl _ w) (fun _=>rfl) _⟩
 ·by_cases e4:reg=4
  ·subst e4
   obtain ⟨k,rfl⟩:∃ k:Nat,ad=k:=⟨ad.toNat,by omega⟩
   have hk:k<n:=by omega
   have hki:(k:Int)<(n:Int):=by omega
   have HE:Hid (Mb true 4 (k:Int)=((k:Int)+1)%16∧Om true 4 bl=bl∧Oo true 4 bl (k:Int) f=f k):=⟨rfl,rfl,rfl⟩
   have wk:IntKind.i64.wrap (k:Int)=k:=by rw [IntKind.wrap_i64]; omega
   obtain ⟨bb,oo,ee,hcell⟩:=R.sl.row k hk;simp only [Option.some.injEq,Addr.mk.injEq,and_true] at ee;obtain ⟨rfl,rfl⟩:=ee;rw [Nat.zero_add] at hcell
   have hk0:(0:Int)≤(k:Int):=by omega
   clear h16
   go_enter Tryz.func184,Tryz.ntmps184
   go_upto_region 8 with (fail)
   go_quiet (fail)
   go_wp2_with fail;have hb2:(w.drewN nq).heap[z]?=_:=HB.out;have W1:Wrote (fun b _=>b=z) w (w.drewN nq):=Ab (below_drewN (Below.refl _ _) _) _;generalize w.drewN nq=w2 at *;refine (Q8 _ z t c s k pl bl _ u2 hb2 (by omega) (by omega)).mono ?_;rintro e w3 ⟨rfl,rfl⟩;have hb3:=Af (o:=3) hb2 (.i (((k:Int)+1)%16));simp only [List.setIfInBounds_toArray,List.set_cons_succ,List.set_cons_zero] at hb3;have W3:Wrote (fun b _=>b=z) w (w2.setCell ⟨z,3,none⟩ (.i (((k:Int)+1)%16))):=W1.setCell (fun _=>rfl) _;clear hb2 W1 hc hf hcell;go_wp2;go_ret;rw [HE.out.1,HE.out.2.1,HE.out.2.2];exact ⟨rfl,hb3,W3⟩
  ·have HE:Hid (Mb true reg ad=ad∧Om true reg bl=bl∧Oo true reg bl ad f=0):=⟨if_neg (by simp [e4]),if_neg (by simp [e2]),(if_neg (by simp [e2])).trans (if_neg (by simp [e4]))⟩
   have e2':(reg==2)=false:=by simpa using e2
   have e4':(reg==4)=false:=by simpa using e4
   clear e2 e4
   go_enter Tryz.func184,Tryz.ntmps184
   go_wp2;go_ret;rw [HE.out.1,HE.out.2.1,HE.out.2.2];exact ⟨rfl,HB.out,Wrote.refl _ _⟩
structure TB (w W:World) (lo z:Nat) (o1 o2:Option Nat) (u1 tv:Value) (t c s ad pl:Int) (bl:Bool) (n:Nat) (f:Nat→Int) (m:Nat) (g:Nat→Int) (k:Nat) (h:Nat→Int):Prop where
 ex:∃ o2' u2' o3,W.heap[z]?=some (.cells (pR t c s ad pl bl u1 u2') 44 (0,0))∧A5 W lo o1 u1 n f∧A5 W lo o2' u2' m g∧A5 W lo o3 tv k h∧Pz o1 o2'∧Pz o1 o3∧Pz o2' o3∧(∀ q,(o1=some q∨o2'=some q∨o3=some q)→q≠z)∧Wrote (fun b _=>b=z∨o2=some b) w W
theorem TB.up {w W:World} {lo z:Nat} {o1 o2:Option Nat} {u1 tv:Value} {t c s ad pl:Int} {bl:Bool} {n:Nat} {f:Nat→Int} {m:Nat} {g:Nat→Int} {k:Nat} {h:Nat→Int} (H:TB w W lo z o1 o2 u1 tv t c s ad pl bl n f m g k h) (t':Int) :
  TB w (W.setCell ⟨z,0,none⟩ (.i t')) lo z o1 o2 u1 tv t' c s ad pl bl n f m g k h:=by
 obtain ⟨o2',u2',o3,hb,r1,r2,r3,h1,h2,h3,hz,hw⟩:=H;have WS:Wrote (fun b _=>b=z) W (W.setCell ⟨z,0,none⟩ (.i t')):=Wrote.setCell (R:=fun b _=>b=z) (Wrote.refl _ W) (fun _=>rfl) _;exact ⟨o2',u2',o3,Af hb _,r1.keep WS (fun q e _ _ _ x=>hz q (Or.inl e) x),r2.keep WS (fun q e _ _ _ x=>hz q (Or.inr (Or.inl e)) x),r3.keep WS (fun q e _ _ _ x=>hz q (Or.inr (Or.inr e)) x),h1,h2,h3,hz,hw.setCell (fun _=>Or.inl rfl) _⟩
theorem TB.box {w W:World} {lo z:Nat} {o1 o2:Option Nat} {u1 tv:Value} {t c s ad pl:Int} {bl:Bool} {n:Nat} {f:Nat→Int} {m:Nat} {g:Nat→Int} {k:Nat} {h:Nat→Int} (H:TB w W lo z o1 o2 u1 tv t c s ad pl bl n f m g k h):∃ u2' a x,tv=.slice a k x∧W.heap[z]?=some (.cells (pR t c s ad pl bl u1 u2') 44 (0,0)):=by
 obtain ⟨o2',u2',o3,hb,r1,r2,r3,h1,h2,h3,hz,hw⟩:=H;obtain ⟨a,x,e⟩:=r3.form;exact ⟨u2',a,x,e,hb⟩
set_option maxHeartbeats 2000000
structure Ct (W:World) (lo:Nat) (D:Nat→Prop) (v:Value) (t c s ad pl:Int) (bl:Bool) (n:Nat) (f:Nat→Int) (m:Nat) (g:Nat→Int):Prop where
 ex:∃ u u' o o',v=.agg (pR t c s ad pl bl u u')∧A5 W lo o u n f∧A5 W lo o' u' m g∧Pz o o'∧∀ b,(o=some b∨o'=some b)→D b
section
variable {R:Nat→Nat→Prop} {W W':World} {lo lo':Nat} {D E:Nat→Prop} {v:Value} {t c s ad pl:Int} {bl:Bool} {n m:Nat} {f g:Nat→Int}
theorem Ct.on (h:Ct W lo D v t c s ad pl bl n f m g):Cf W D v t c s ad pl bl n f m g:=by
 obtain ⟨u,u',o,o',rfl,h1,h2,h3,h4⟩:=h;exact (Yz h1 h2 h3).mono (fun b _ h=>h4 b h)
theorem Ct.keep (h:Ct W lo D v t c s ad pl bl n f m g) (hw:Wrote R W W') (hd:∀ b o,D b→b<W.heap.size→¬ R b o):Ct W' lo D v t c s ad pl bl n f m g:=by
 obtain ⟨u,u',o,o',e,h1,h2,h3,h4⟩:=h;exact ⟨u,u',o,o',e,h1.keep hw (fun q hq _ hl k=>hd q k (h4 q (Or.inl hq)) hl),h2.keep hw (fun q hq _ hl k=>hd q k (h4 q (Or.inr hq)) hl),h3,h4⟩
theorem Ct.below (h:Ct W lo D v t c s ad pl bl n f m g) (L:Below W.heap.size W W'):Ct W' lo D v t c s ad pl bl n f m g:=h.keep (Ab L Aj) (fun _ _ _ _ x=>x)
theorem Ct.mono (h:Ct W lo D v t c s ad pl bl n f m g) (hd:∀ b,b<W.heap.size→D b→E b):Ct W lo E v t c s ad pl bl n f m g:=by
 obtain ⟨u,u',o,o',e,h1,h2,h3,h4⟩:=h;refine ⟨u,u',o,o',e,h1,h2,h3,fun b hb=>hd b ?_ (h4 b hb)⟩
 rcases hb with rfl | rfl
 ·exact h1.lt.2
 ·exact h2.lt.2
theorem Ct.lower (h:Ct W lo D v t c s ad pl bl n f m g) (hl:lo'≤lo):Ct W lo' D v t c s ad pl bl n f m g:=by
 obtain ⟨u,u',o,o',e,h1,h2,h3,h4⟩:=h;exact ⟨u,u',o,o',e,h1.mono hl,h2.mono hl,h3,h4⟩
theorem Ct.two (h:Ct W lo D v t c s ad pl bl n f m g):∃ a x b y,v=.agg (pR t c s ad pl bl (.slice a n x) (.slice b m y)):=h.on.two
theorem Ct.ints (h:Ct W lo D v t c s ad pl bl n f m g):∃ u u',v=.agg (pR t c s ad pl bl u u')∧Ints .i64 W (On D) u n f∧Ints .i64 W (On D) u' m g:=h.on.ints
theorem Ie {o o':Option Nat} {u u':Value} (h1:A5 W lo o u n f) (h2:A5 W lo o' u' m g) (h3:Pz o o') (hl:lo'≤lo):Ct W lo' (fun b=>lo'≤b) (.agg (pR t c s ad pl bl u u')) t c s ad pl bl n f m g :=
 ⟨u,u',o,o',rfl,h1.mono hl,h2.mono hl,h3,fun b hb=>Nat.le_trans hl (Jdc h1 h2 b hb)⟩
end
theorem Ny (w:World) (F G:Nat→Nat→Prop) (t c s ad pl:Int) (bl:Bool) (u u':Value) (n:Nat) (f:Nat→Int) (m:Nat) (g:Nat→Int) (reg v:Int) (H:Ints .i64 w F u n f) (K:Ints .i64 w G u' m g) :
  Calls Tryz.prog 165 #[.agg (pR t c s ad pl bl u u'),.i reg,.i v] w fun e w'=>∃ v',e=.returned v'∧Ct w' w.heap.size (fun b=>w.heap.size≤b) v' t (Jg (A1 t c s ad pl n f m g) reg v c) (Jh (A1 t c s ad pl n f m g) reg v s) (Ji (A1 t c s ad pl n f m g) reg v ad) (Jj (A1 t c s ad pl n f m g) reg v pl) bl n (Kh (A1 t c s ad pl n f m g) reg v ad f) m g∧Below w.heap.size w w':=by
 obtain ⟨ua,ux,rfl,un,hr,hF⟩:=H;obtain ⟨va,vx,rfl,vn,hr',hF'⟩:=K
 have H:Ints .i64 w F (.slice ua n ux) n f:=⟨_,_,rfl,un,hr,hF⟩
 have K:Ints .i64 w G (.slice va m vx) m g:=⟨_,_,rfl,vn,hr',hF'⟩
 clear hr hF hr' hF';have L0:Below w.heap.size w ((w.alloc (.cells (pR t c s ad pl bl (.slice ua n ux) (.slice va m vx)) 44)).alloc (.cells (pR 0 0 0 0 0 false (.slice none 0 0) (.slice none 0 0)) 44)):=((Below.refl _ _).alloc (Nat.le_refl _) _).alloc (by simp) _;have k0:((w.alloc (.cells (pR t c s ad pl bl (.slice ua n ux) (.slice va m vx)) 44)).alloc (.cells (pR 0 0 0 0 0 false (.slice none 0 0) (.slice none 0 0)) 44)).heap[w.heap.size]?=some (.cells (pR t c s ad pl bl (.slice ua n ux) (.slice va m vx)) 44 (0,0)):=Ax (Al w _ _) _
 have k1:((w.alloc (.cells (pR t c s ad pl bl (.slice ua n ux) (.slice va m vx)) 44)).alloc (.cells (pR 0 0 0 0 0 false (.slice none 0 0) (.slice none 0 0)) 44)).heap[w.heap.size+1]?=some (.cells (pR 0 0 0 0 0 false (.slice none 0 0) (.slice none 0 0)) 44 (0,0)):=by simpa using Al (w.alloc (.cells (pR t c s ad pl bl (.slice ua n ux) (.slice va m vx)) 44)) (pR 0 0 0 0 0 false (.slice none 0 0) (.slice none 0 0)) 44
 go_enter Tryz.func165,Tryz.ntmps165
 go_wp2_with fail;generalize ((w.alloc (.cells (pR t c s ad pl bl (.slice ua n ux) (.slice va m vx)) 44)).alloc (.cells (pR 0 0 0 0 0 false (.slice none 0 0) (.slice none 0 0)) 44))=W0 at *;refine (P0 _ F G t c s ad pl bl _ _ n f m g (H.keep (Ab L0 Aj) (fun _ _ _ x=>x)) (K.keep (Ab L0 Aj) (fun _ _ _ x=>x))).mono ?_;rintro e W1 ⟨v1,v2,o1,o2,rfl,R1,R2,h12,L1⟩;have hz0:=Ac k1;have sz:=L1.size;have C1:=Ae L0 L1;obtain ⟨pa,px,rfl⟩:=R1.form;obtain ⟨qa,qx,rfl⟩:=R2.form;have x0:=Ax (Aa k0 L1 (Ac k0)) (.cells (pR t c s ad pl bl (.slice pa n px) (.slice qa m qx)) 44);have x1:=Ax (Aa k1 L1 (Ac k1)) (.cells (pR t c s ad pl bl (.slice pa n px) (.slice qa m qx)) 44);have x2:=Al W1 (pR t c s ad pl bl (.slice pa n px) (.slice qa m qx)) 44
 have LA:Below W1.heap.size W1 (W1.alloc (.cells (pR t c s ad pl bl (.slice pa n px) (.slice qa m qx)) 44)):=(Below.refl _ _).alloc (Nat.le_refl _) _;have C2:=Ae C1 LA;have HS1:=Ad (R1.below LA);have HS2:=Ad (R2.below LA)
 have HP:Hid ((∀ q,o1=some q→W0.heap.size≤q∧q<W1.heap.size)∧(∀ q,o2=some q→W0.heap.size≤q∧q<W1.heap.size)):=⟨fun q e=>by subst e; exact R1.lt,fun q e=>by subst e; exact R2.lt⟩
 have c0:=Ag x0;go_wp2_with fail;clear c0 k0 k1 L0 L1 C1 R1 R2 LA
 obtain ⟨z,hz⟩:∃ z,Hid (z=W1.heap.size):=⟨_,rfl⟩
 generalize W1.alloc (.cells (pR t c s ad pl bl (.slice pa n px) (.slice qa m qx)) 44)=W2 at *;rw [← hz.out] at x2 HP ⊢
 have hzw:w.heap.size+1<z:=by rw [hz.out]; omega
 have z0w:w.heap.size+1<W0.heap.size:=hz0;clear hz sz hz0;refine (Iq _ F G t c s ad pl bl _ _ n f m g (H.keep (Ab C2 Aj) (fun _ _ _ x=>x)) (K.keep (Ab C2 Aj) (fun _ _ _ x=>x))).mono ?_;rintro e W3 ⟨rfl,L⟩;replace x0:=Aa x0 L (Ac x0);replace x1:=Aa x1 L (Ac x1);replace x2:=Aa x2 L (Ac x2);have S1:=HS1.out.below L;have S2:=HS2.out.below L;have C3:=Ae C2 L;clear L C2 HS1 HS2 H K;have c1:=Ag x1;have c2:=Ag x2;have f1:=As x1;cases hok:A1 t c s ad pl n f m g
 ·have HE:Hid (Jg false reg v c=c∧Jh false reg v s=s∧Ji false reg v ad=ad∧Jj false reg v pl=pl∧Kh false reg v ad f=f):=⟨if_neg (by simp),if_neg (by simp),(if_neg (by simp)).trans (if_neg (by simp)),if_neg (by simp),if_neg (by simp)⟩
  have KEY:Hid (∀ W5,Wrote (fun b _=>b=w.heap.size+1) W3 W5→Ct W5 w.heap.size (fun b=>w.heap.size≤b) (.agg (pR t c s ad pl bl (.slice pa n px) (.slice qa m qx))) t c s ad pl bl n f m g∧Below w.heap.size w W5):=fun W5 WW=>by
   have T1:=S1.keep WW (fun q e _ _ _ h=>by have:=HP.out.1 q e; omega);have T2:=S2.keep WW (fun q e _ _ _ h=>by have:=HP.out.2 q e; omega);exact ⟨Ie T1 T2 h12 (by omega),C3.trans (WW.below C3.size (fun b o hb h=>by omega))⟩
  have HO:=Ad hok;clear hok S1 S2 C3 x0 x1 x2;go_wp2;refine bodyPost_ret (v:=.agg (pR t c s ad pl bl (.slice pa n px) (.slice qa m qx))) (by simp [results,Tryz.results165,go_sem,c1]) rfl ?_;rw [HO.out,HE.out.1,HE.out.2.1,HE.out.2.2.1,HE.out.2.2.2.1,HE.out.2.2.2.2];refine ⟨_,rfl,KEY.out _ ?_⟩
  iterate 8 (refine Wrote.setCell ?_ (fun _=>by omega) _)
  exact Wrote.refl _ _
 ·have IP:=Ev hok
  have a0:=IP.a0;have a1:=IP.a1;have h16:=IP.n16
  obtain ⟨p,rfl⟩:∃ p,o1=some p:=by
   cases o1 with
   | none=>obtain ⟨-,e⟩:=S1; omega
   | some p=>exact ⟨p,rfl⟩
  obtain ⟨y,e,R⟩:=S1;cases e;have hp:=HP.out.1 p rfl;have HO:=Ad hok;clear hok IP;go_wp2_with fail;refine (Ck _ _).mono ?_;rintro e W' ⟨rfl,rfl⟩;go_wp2_with fail;refine (Y5 _ z p n px _ t c s ad pl bl (.slice qa m qx) f reg v x2 R (by omega) h16 a0 a1).mono ?_;rintro e W4 ⟨rfl,y2,R4,WR⟩;have y1:=Ah x1 WR (fun o h=>by omega);have S4:=S2.keep WR (fun q e _ _ _ h=>by have:=HP.out.2 q e; rcases h with h | h; omega; subst h; exact h12 q rfl e);have C4:=C3.trans (WR.below C3.size (fun b o hb h=>by omega));have d1:=Ag y1;have d2:=Ag y2;have g1:=As y1
  have HE:Hid (∀ W5,Wrote (fun b _=>b=w.heap.size+1) W4 W5→Ct W5 w.heap.size (fun b=>w.heap.size≤b) (.agg (pR t (Jg true reg v c) (Jh true reg v s) (Ji true reg v ad) (Jj true reg v pl) bl (.slice (some ⟨p,0,none⟩) n px) (.slice qa m qx))) t (Jg true reg v c) (Jh true reg v s) (Ji true reg v ad) (Jj true reg v pl) bl n (Kh true reg v ad f) m g∧Below w.heap.size w W5):=fun W5 WW=>by
   have T1:A5 W5 W0.heap.size (some p) (.slice (some ⟨p,0,none⟩) n px) n (Kh true reg v ad f):=⟨_,rfl,R4.keep WW (fun _ h=>by omega)⟩
   have T2:=S4.keep WW (fun q e _ _ _ h=>by have:=HP.out.2 q e; omega);exact ⟨Ie T1 T2 h12 (by omega),C4.trans (WW.below C4.size (fun b o hb h=>by omega))⟩
  clear c1 c2 f1 R R4 S2 S4 C3 C4 x0 x1 x2 y1 y2 WR;clear h16;go_wp2;refine bodyPost_ret (v:=.agg (pR t (Jg true reg v c) (Jh true reg v s) (Ji true reg v ad) (Jj true reg v pl) bl (.slice (some ⟨p,0,none⟩) n px) (.slice qa m qx))) (by simp [results,Tryz.results165,go_sem,d1]) rfl ?_;rw [HO.out];refine ⟨_,rfl,HE.out _ ?_⟩
  iterate 8 (refine Wrote.setCell ?_ (fun _=>by omega) _)
  exact Wrote.refl _ _
theorem P6 (w:World) (F G:Nat→Nat→Prop) (t c s ad pl:Int) (bl:Bool) (u u':Value) (n:Nat) (f:Nat→Int) (m:Nat) (g:Nat→Int) (reg:Int) (H:Ints .i64 w F u n f) (K:Ints .i64 w G u' m g) :
  Calls Tryz.prog 162 #[.agg (pR t c s ad pl bl u u'),.i reg] w fun e w'=>∃ v',e=.returned (.tuple #[v',.i (Oo (A1 t c s ad pl n f m g) reg bl ad f)])∧Ct w' w.heap.size (fun b=>w.heap.size≤b) v' t c s (Mb (A1 t c s ad pl n f m g) reg ad) pl (Om (A1 t c s ad pl n f m g) reg bl) n f m g∧Below w.heap.size w w':=by
 obtain ⟨ua,ux,rfl,un,hr,hF⟩:=H;obtain ⟨va,vx,rfl,vn,hr',hF'⟩:=K
 have H:Ints .i64 w F (.slice ua n ux) n f:=⟨_,_,rfl,un,hr,hF⟩
 have K:Ints .i64 w G (.slice va m vx) m g:=⟨_,_,rfl,vn,hr',hF'⟩
 clear hr hF hr' hF';have L0:Below w.heap.size w ((w.alloc (.cells (pR t c s ad pl bl (.slice ua n ux) (.slice va m vx)) 44)).alloc (.cells (pR 0 0 0 0 0 false (.slice none 0 0) (.slice none 0 0)) 44)):=((Below.refl _ _).alloc (Nat.le_refl _) _).alloc (by simp) _;have k0:((w.alloc (.cells (pR t c s ad pl bl (.slice ua n ux) (.slice va m vx)) 44)).alloc (.cells (pR 0 0 0 0 0 false (.slice none 0 0) (.slice none 0 0)) 44)).heap[w.heap.size]?=some (.cells (pR t c s ad pl bl (.slice ua n ux) (.slice va m vx)) 44 (0,0)):=Ax (Al w _ _) _
 have k1:((w.alloc (.cells (pR t c s ad pl bl (.slice ua n ux) (.slice va m vx)) 44)).alloc (.cells (pR 0 0 0 0 0 false (.slice none 0 0) (.slice none 0 0)) 44)).heap[w.heap.size+1]?=some (.cells (pR 0 0 0 0 0 false (.slice none 0 0) (.slice none 0 0)) 44 (0,0)):=by simpa using Al (w.alloc (.cells (pR t c s ad pl bl (.slice ua n ux) (.slice va m vx)) 44)) (pR 0 0 0 0 0 false (.slice none 0 0) (.slice none 0 0)) 44
 go_enter Tryz.func162,Tryz.ntmps162
 go_wp2_with fail;generalize ((w.alloc (.cells (pR t c s ad pl bl (.slice ua n ux) (.slice va m vx)) 44)).alloc (.cells (pR 0 0 0 0 0 false (.slice none 0 0) (.slice none 0 0)) 44))=W0 at *;refine (P0 _ F G t c s ad pl bl _ _ n f m g (H.keep (Ab L0 Aj) (fun _ _ _ x=>x)) (K.keep (Ab L0 Aj) (fun _ _ _ x=>x))).mono ?_;rintro e W1 ⟨v1,v2,o1,o2,rfl,R1,R2,h12,L1⟩;have hz0:=Ac k1;have sz:=L1.size;have C1:=Ae L0 L1;obtain ⟨pa,px,rfl⟩:=R1.form;obtain ⟨qa,qx,rfl⟩:=R2.form;have x0:=Ax (Aa k0 L1 (Ac k0)) (.cells (pR t c s ad pl bl (.slice pa n px) (.slice qa m qx)) 44);have x1:=Ax (Aa k1 L1 (Ac k1)) (.cells (pR t c s ad pl bl (.slice pa n px) (.slice qa m qx)) 44);have x2:=Al W1 (pR t c s ad pl bl (.slice pa n px) (.slice qa m qx)) 44
 have LA:Below W1.heap.size W1 (W1.alloc (.cells (pR t c s ad pl bl (.slice pa n px) (.slice qa m qx)) 44)):=(Below.refl _ _).alloc (Nat.le_refl _) _;have C2:=Ae C1 LA;have HS1:=Ad (R1.below LA);have HS2:=Ad (R2.below LA)
 have HP:Hid ((∀ q,o1=some q→W0.heap.size≤q∧q<W1.heap.size)∧(∀ q,o2=some q→W0.heap.size≤q∧q<W1.heap.size)):=⟨fun q e=>by subst e; exact R1.lt,fun q e=>by subst e; exact R2.lt⟩
 have c0:=Ag x0;go_wp2_with fail;clear c0 k0 k1 L0 L1 C1 R1 R2 LA
 obtain ⟨z,hz⟩:∃ z,Hid (z=W1.heap.size):=⟨_,rfl⟩
 generalize W1.alloc (.cells (pR t c s ad pl bl (.slice pa n px) (.slice qa m qx)) 44)=W2 at *;rw [← hz.out] at x2 HP ⊢
 have hzw:w.heap.size+1<z:=by rw [hz.out]; omega
 have z0w:w.heap.size+1<W0.heap.size:=hz0;clear hz sz hz0;refine (Iq _ F G t c s ad pl bl _ _ n f m g (H.keep (Ab C2 Aj) (fun _ _ _ x=>x)) (K.keep (Ab C2 Aj) (fun _ _ _ x=>x))).mono ?_;rintro e W3 ⟨rfl,L⟩;replace x0:=Aa x0 L (Ac x0);replace x1:=Aa x1 L (Ac x1);replace x2:=Aa x2 L (Ac x2);have S1:=HS1.out.below L;have S2:=HS2.out.below L;have C3:=Ae C2 L;clear L C2 HS1 HS2 H K;have c1:=Ag x1;have c2:=Ag x2;have f1:=As x1;cases hok:A1 t c s ad pl n f m g
 ·have HE:Hid (Mb false reg ad=ad∧Om false reg bl=bl∧Oo false reg bl ad f=0):=⟨if_neg (by simp),if_neg (by simp),(if_neg (by simp)).trans (if_neg (by simp))⟩
  have KEY:Hid (∀ W5,Wrote (fun b _=>b=w.heap.size+1) W3 W5→Ct W5 w.heap.size (fun b=>w.heap.size≤b) (.agg (pR t c s ad pl bl (.slice pa n px) (.slice qa m qx))) t c s ad pl bl n f m g∧Below w.heap.size w W5):=fun W5 WW=>by
   have T1:=S1.keep WW (fun q e _ _ _ h=>by have:=HP.out.1 q e; omega);have T2:=S2.keep WW (fun q e _ _ _ h=>by have:=HP.out.2 q e; omega);exact ⟨Ie T1 T2 h12 (by omega),C3.trans (WW.below C3.size (fun b o hb h=>by omega))⟩
  have HO:=Ad hok;clear hok S1 S2 C3 x0 x1 x2;go_wp2;refine bodyPost_ret (v:=.tuple #[.agg (pR t c s ad pl bl (.slice pa n px) (.slice qa m qx)),.i 0]) (by simp [results,Tryz.results162,go_sem,c1]) rfl ?_;rw [HO.out,HE.out.1,HE.out.2.1,HE.out.2.2];refine ⟨_,rfl,KEY.out _ ?_⟩
  iterate 8 (refine Wrote.setCell ?_ (fun _=>by omega) _)
  exact Wrote.refl _ _
 ·have IP:=Ev hok
  have a0:=IP.a0;have a1:=IP.a1;have h16:=IP.n16
  obtain ⟨p,rfl⟩:∃ p,o1=some p:=by
   cases o1 with
   | none=>obtain ⟨-,e⟩:=S1; omega
   | some p=>exact ⟨p,rfl⟩
  obtain ⟨y,e,R⟩:=S1;cases e;have hp:=HP.out.1 p rfl;have HO:=Ad hok;clear hok IP;go_wp2_with fail;refine (Jba _ z p n px _ t c s ad pl bl (.slice qa m qx) f reg x2 R h16 a0 a1).mono ?_;rintro e W4 ⟨rfl,y2,WR⟩;have y1:=Ah x1 WR (fun o h=>by omega);have R4:=R.keep WR (fun _ h=>by omega);have S4:=S2.keep WR (fun q e _ _ _ h=>by have:=HP.out.2 q e; omega);have C4:=C3.trans (WR.below C3.size (fun b o hb h=>by omega));have d1:=Ag y1;have d2:=Ag y2;have g1:=As y1
  have HE:Hid (∀ W5,Wrote (fun b _=>b=w.heap.size+1) W4 W5→Ct W5 w.heap.size (fun b=>w.heap.size≤b) (.agg (pR t c s (Mb true reg ad) pl (Om true reg bl) (.slice (some ⟨p,0,none⟩) n px) (.slice qa m qx))) t c s (Mb true reg ad) pl (Om true reg bl) n f m g∧Below w.heap.size w W5):=fun W5 WW=>by
   have T1:A5 W5 W0.heap.size (some p) (.slice (some ⟨p,0,none⟩) n px) n f:=⟨_,rfl,R4.keep WW (fun _ h=>by omega)⟩
   have T2:=S4.keep WW (fun q e _ _ _ h=>by have:=HP.out.2 q e; omega);exact ⟨Ie T1 T2 h12 (by omega),C4.trans (WW.below C4.size (fun b o hb h=>by omega))⟩
  clear c1 c2 f1 R R4 S2 S4 C3 C4 x0 x1 x2 y1 y2 WR;clear h16;go_wp2;refine bodyPost_ret (v:=.tuple #[.agg (pR t c s (Mb true reg ad) pl (Om true reg bl) (.slice (some ⟨p,0,none⟩) n px) (.slice qa m qx)),.i (Oo true reg bl ad f)]) (by simp [results,Tryz.results162,go_sem,d1]) rfl ?_;rw [HO.out];refine ⟨_,rfl,HE.out _ ?_⟩
  iterate 8 (refine Wrote.setCell ?_ (fun _=>by omega) _)
  exact Wrote.refl _ _
theorem Jd4 (w:World) (a b:Int):Calls Tryz.prog 218 #[.i a,.i b] w fun e w'=>e=.returned (.i (max a b))∧w'=w:=by
 by_cases h:b<a
 ·have HE:Hid (max a b=a):=by show _=_; omega
  go_enter Tryz.func218,Tryz.ntmps218
  go_wp2;go_ret;exact ⟨Az HE.out.symm,rfl⟩
 ·have HE:Hid (max a b=b):=by show _=_; omega
  go_enter Tryz.func218,Tryz.ntmps218
  go_wp2;go_ret;exact ⟨Az HE.out.symm,rfl⟩
theorem Q9 (w:World) (t:Int) (h:t≤9223372036854775807):Calls Tryz.prog 175 #[.i t] w fun e w'=>e=.returned (.i (max t 0/64))∧w'=w:=by
 have f0:0≤max t 0:=by omega
 have f1:max t 0≤9223372036854775807:=by omega
 have M:=Ad (Jd4 w t 0);generalize max t 0=f at *;have d64:f.tdiv 64=f/64:=Int.tdiv_eq_ediv_of_nonneg f0
 go_enter Tryz.func175,Tryz.ntmps175
 go_wp2_with fail;refine (An M).mono ?_;rintro e w1 ⟨rfl,rfl⟩;go_wp2;go_ret;exact ⟨rfl,rfl⟩
open Go.Shelf
attribute [local go_sem] Oper.semAt_some
theorem Kp (w:World) (t:Int) (h:t≤9223372036854775807):Calls Tryz.prog 134 #[.i t] w fun e w'=>e=.returned (.i (max t 0/64))∧w'=w:=by
 by_cases ht:0≤t
 ·have d64:t.tdiv 64=t/64:=Int.tdiv_eq_ediv_of_nonneg ht
  go_enter Tryz.func134,Tryz.ntmps134
  go_wp2
  all_goals (go_ret; exact ⟨Az (by omega),rfl⟩)
 ·go_enter Tryz.func134,Tryz.ntmps134
  go_wp2
  all_goals (go_ret; exact ⟨Az (by omega),rfl⟩)
def Ci (T P C B L:Int):Bool:=Cs T 0 20000 && Cs P 0 255 && Cs C 0 255 && Cs B 0 1 && Cs L 0 31
structure If (T P C B L:Int):Prop where
  t0:0≤T
  t1:T≤20000
  p0:0≤P
  p1:P≤255
  c0:0≤C
  c1:C≤255
  b0:0≤B
  b1:B≤1
  l0:0≤L
  l1:L≤31
theorem Kk (T P C B L:Int):Ci T P C B L=true ↔ If T P C B L:=by
  unfold Ci Cs;simp only [Bool.and_eq_true,decide_eq_true_eq]
  constructor
  · rintro ⟨⟨⟨⟨h1,h2⟩,h3⟩,h4⟩,h5⟩
    exact ⟨by omega,by omega,by omega,by omega,by omega,by omega,by omega,by omega,by omega,by omega⟩
  · intro h
    have:=h.t0; have:=h.t1; have:=h.p0; have:=h.p1; have:=h.c0; have:=h.c1; have:=h.b0; have:=h.b1; have:=h.l0; have:=h.l1
    omega
def Ft (P C:Int):Int:=if C=0 then P else C-1
def Fa (C B L:Int):Int:=if C=0∧0<L then 1-B else B
def Fu (T L:Int):Int:=if T%32=0∧0<L then L-1 else L
def Gq (T L:Int) (S Q:Bool):Bool:=if T%32=0∧0<L then Q || (decide (L-1=0) && S) else Q
def Dx (T:Int):Bool:=decide (T%16=15)
def Kq (T C B L:Int):Int:=if T%16=15∧0<Fu T L then 8*Fa C B L else 0
def Ou (T P C B L:Int) (S Q:Bool):Value :=
  if Ci T P C B L=true then
    if T=20000 then .tuple #[.agg (aR T P C B L S Q),.i 0,.bool false]
    else .tuple #[.agg (aR (T+1) P (Ft P C) (Fa C B L) (Fu T L) S (Gq T L S Q)),.i (Kq T C B L),.bool (Dx T)]
  else .tuple #[.agg (aR 0 0 0 0 0 false false),.i 0,.bool false]
theorem Jde (w:World) (T P C B L:Int) (S Q:Bool):Calls Tryz.prog 24 #[.agg (aR T P C B L S Q)] w
    fun e w'=>e=.returned (.agg (aR T P C B L S Q))∧Below w.heap.size w w':=by
  go_enter Tryz.func24,Tryz.ntmps24
  go_wp2;refine bodyPost_ret (v:=.agg (aR T P C B L S Q)) (by simp [results,Tryz.results24,go_sem]) rfl ?_;exact ⟨rfl,(((Below.refl _ _).alloc (Nat.le_refl _) _).alloc (by simp) _).alloc (by simp; omega) _⟩
theorem Tg (w:World) (T P C B L:Int) (S Q:Bool):Calls Tryz.prog 35 #[.agg (aR T P C B L S Q),.agg (aR T P C B L S Q)] w
    fun e w'=>e=.returned (.bool true)∧Below w.heap.size w w':=by
  go_enter Tryz.func35,Tryz.ntmps35
  go_wp2;go_ret;exact ⟨rfl,((Below.refl _ _).alloc (Nat.le_refl _) _).alloc (by simp) _⟩
theorem Dd (w:World) (T P C B L:Int) (S Q:Bool):Calls Tryz.prog 53 #[.agg (aR T P C B L S Q)] w
    fun e w'=>e=.returned (.bool (Ci T P C B L))∧Below w.heap.size w w':=by
  unfold Ci
  go_enter Tryz.func53,Tryz.ntmps53
  generalize hT:Cs T 0 20000=bT;generalize hP:Cs P 0 255=bP;generalize hC:Cs C 0 255=bC;generalize hB:Cs B 0 1=bB;generalize hL:Cs L 0 31=bL
  have L0:∀ o,Below w.heap.size w (w.alloc o):=fun o=>(Below.refl _ _).alloc (Nat.le_refl _) _
  cases bT <;> cases bP <;> cases bC <;> cases bB <;> cases bL <;>
    (go_wp2_with (first | (go_at_call 54; refine (Ha _ _).mono ?_; rintro e w' ⟨rfl,rfl⟩; first | rw [hP] | rw [hC]) | (go_at_call 55; refine (Gj _ _ _ _).mono ?_; rintro e w' ⟨rfl,rfl⟩; first | rw [hT] | rw [hB] | rw [hL]))
     go_ret
     exact ⟨rfl,L0 _⟩)
set_option maxHeartbeats 4000000
theorem Wq {T P C B L:Int} (h:If T P C B L) (hT:T=20000) (S Q:Bool):Ou T P C B L S Q=.tuple #[.agg (aR T P C B L S Q),.i 0,.bool false]:=by
  unfold Ou;rw [if_pos ((Kk _ _ _ _ _).2 h),if_pos hT]
theorem Ra {T P C B L:Int} (h:If T P C B L) (hT:T≠20000) (S Q:Bool):Ou T P C B L S Q=.tuple #[.agg (aR (T+1) P (Ft P C) (Fa C B L) (Fu T L) S (Gq T L S Q)),.i (Kq T C B L),.bool (Dx T)]:=by
  unfold Ou;rw [if_pos ((Kk _ _ _ _ _).2 h),if_neg hT]
theorem Rb (w:World) (T P C B L:Int) (S Q:Bool) (h:If T P C B L):Calls Tryz.prog 94 #[.agg (aR T P C B L S Q)] w
    fun e w'=>e=.returned (Ou T P C B L S Q)∧Below w.heap.size w w':=by
  have L0:∀ (o o2:Obj),Below w.heap.size w ((w.alloc o).alloc o2):=fun o o2=>((Below.refl _ _).alloc (Nat.le_refl _) _).alloc (by simp) _
  by_cases hT:T=20000
  · have HT:=Ad (Wq h hT S Q)
    subst hT;rw [HT.out];clear HT h
    go_enter Tryz.func94,Tryz.ntmps94
    go_wp2;refine bodyPost_ret (v:=.tuple #[.agg (aR 20000 P C B L S Q),.i 0,.bool false]) (by simp [results,Tryz.results94,go_sem]) rfl ?_;exact ⟨rfl,L0 _ _⟩
  · have HT:=Ad (Ra h hT S Q)
    obtain ⟨v,hv⟩:∃ v,Hid (Ou T P C B L S Q=v):=⟨_,rfl⟩
    rw [hv.out] at HT ⊢;clear hv;have t0:=h.t0;have t1:=h.t1;have c0:=h.c0;have c1:=h.c1;have b0:=h.b0;have b1:=h.b1;have l0:=h.l0;have l1:=h.l1;have m32:T.tmod 32=T%32:=Int.tmod_eq_emod_of_nonneg t0;have m16:T.tmod 16=T%16:=Int.tmod_eq_emod_of_nonneg t0;clear h
    by_cases hC:C=0 <;> by_cases hL:0<L <;> by_cases hb:T%32=0 <;> by_cases ht:T%16=15
    all_goals first
      | (exfalso; omega)
      | (go_enter Tryz.func94,Tryz.ntmps94
         go_wp2
         all_goals (refine bodyPost_ret (v:=.tuple #[.agg (aR (T+1) P (Ft P C) (Fa C B L) (Fu T L) S (Gq T L S Q)),.i (Kq T C B L),.bool (Dx T)]) (by first | (have hL':0<L:=(by omega); simp [results,Tryz.results94,go_sem,Ft,Fa,Fu,Gq,Kq,Dx, *]) | (have hL':¬ 0<L:=(by omega); simp [results,Tryz.results94,go_sem,Ft,Fa,Fu,Gq,Kq,Dx, *])) rfl ?_
                    exact ⟨by rw [HT.out],L0 _ _⟩))
end Go.Proofs.YtgcmimcalmjaaaaGreatDoor
