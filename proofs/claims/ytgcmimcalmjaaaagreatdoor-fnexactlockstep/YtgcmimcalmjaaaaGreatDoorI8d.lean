import Derived.Test.YtgcmimcalmjaaaaGreatDoorI8b
import Derived.Test.YtgcmimcalmjaaaaGreatDoorI8e
import Derived.Test.YtgcmimcalmjaaaaGreatDoorKL
import Derived.Test.YtgcmimcalmjaaaaGreatDoorAB
import Derived.Laws.EntriesVeiled
namespace Go.Proofs.YtgcmimcalmjaaaaGreatDoor
set_option maxHeartbeats 1000000
set_option linter.unusedVariables false
set_option linter.unusedSimpArgs false
open Go.ChangeShapes Go.WideShapes Go.ChangeAt Go.RowKit
theorem Y4 (w:World) (x y:Int):Calls Tryz.prog 237 #[.i x,.i y] w fun e w'=>e=.returned (.i 0)∧w'=w:=by
 go_enter Tryz.func237,Tryz.ntmps237
 go_wp2;go_ret;exact ⟨rfl,rfl⟩
theorem Ja8 (w:World) (b:Nat) (t c s ad pl:Int) (bl:Bool) (ua:Option Addr) (ux:Nat) (v':Value) (f:Nat→Int) (a:Int) (hb:w.heap[b]?=some (.cells (pR t c s ad pl bl (.slice ua 16 ux) v') 44 (0,0))) (hr:Be .i64 w ua 16 f) (s0:0≤s) (s1:s≤255) (a0:0≤a) (a1:a<48) :
  Calls Tryz.prog 238 #[.i (a/8),.i (a%8),(pt b 0)] w fun e w'=>e=.returned (.i (Hn f s pl a))∧Below w.heap.size w w':=by
 have hc:=Ag hb;have m16:(a%8+s+a/8).tmod 16=(a%8+s+a/8)%16:=Int.tmod_eq_emod_of_nonneg (by omega)
 obtain ⟨k,hk⟩:∃ k:Nat,(a%8+s+a/8)%16=k:=⟨((a%8+s+a/8)%16).toNat,by omega⟩
 have hk16:k<16:=by omega
 have HE:Hid (Hn f s pl a=bits .xor .i64 (f k) pl):=by show _=_; unfold Hn; rw [hk]; rfl
 rw [hk] at m16;obtain ⟨b',off,rfl,hcell⟩:=hr k hk16
 have hk':(k:Int)<16:=by omega
 have w1:IntKind.i64.wrap (a%8+s)=a%8+s:=by rw [IntKind.wrap_i64]; omega
 have w2:IntKind.i64.wrap (a%8+s+a/8)=a%8+s+a/8:=by rw [IntKind.wrap_i64]; omega
 clear hr hb hk
 go_enter Tryz.func238,Tryz.ntmps238
 go_upto_region 1 with (fail)
 go_quiet (fail)
 go_wp2;go_ret;exact ⟨Az HE.out.symm,below_drewN (Below.refl _ _) _⟩
theorem Jci (w:World) (F G:Nat→Nat→Prop) (t c s ad pl:Int) (bl:Bool) (ua:Option Addr) (ux:Nat) (va:Option Addr) (vx:Nat) (n:Nat) (f:Nat→Int) (m:Nat) (g:Nat→Int) (H:Ints .i64 w F (.slice ua n ux) n f) (K:Ints .i64 w G (.slice va m vx) m g) :
  Calls Tryz.prog 217 #[.agg (pR t c s ad pl bl (.slice ua n ux) (.slice va m vx))] w fun e w'=>(A1 t c s ad pl n f m g=false→e=.returned (.agg #[.func (.func 237) #[] #[]]))∧(A1 t c s ad pl n f m g=true→e=.returned (.agg #[.func (.func 238) #[] #[(pt w.heap.size 0)]]))∧w'.heap[w.heap.size]?=some (.cells (pR t c s ad pl bl (.slice ua n ux) (.slice va m vx)) 44 (0,0))∧Below w.heap.size w w':=by
 have hmf:∀ (fn:Fn) (first cap:Array Value) (w:World),(Instr.makeFunc fn first cap).run Tryz.prog w=.ok (.func fn first cap) w:=fun _ _ _ _=>rfl
 have L0:Below w.heap.size w ((w.alloc (.cells (pR t c s ad pl bl (.slice ua n ux) (.slice va m vx)) 44)).alloc (.cells #[.nilFunc] 192)):=((Below.refl _ _).alloc (Nat.le_refl _) _).alloc (by simp) _;have k0:((w.alloc (.cells (pR t c s ad pl bl (.slice ua n ux) (.slice va m vx)) 44)).alloc (.cells #[.nilFunc] 192)).heap[w.heap.size]?=some (.cells (pR t c s ad pl bl (.slice ua n ux) (.slice va m vx)) 44 (0,0)):=Ax (Al w _ _) _
 have k1:((w.alloc (.cells (pR t c s ad pl bl (.slice ua n ux) (.slice va m vx)) 44)).alloc (.cells #[.nilFunc] 192)).heap[w.heap.size+1]?=some (.cells #[.nilFunc] 192 (0,0)):=by simpa using Al (w.alloc (.cells (pR t c s ad pl bl (.slice ua n ux) (.slice va m vx)) 44)) #[.nilFunc] 192
 go_enter Tryz.func217,Tryz.ntmps217
 go_wp2_with fail;generalize ((w.alloc (.cells (pR t c s ad pl bl (.slice ua n ux) (.slice va m vx)) 44)).alloc (.cells #[.nilFunc] 192))=W0 at *;refine (Iq _ F G t c s ad pl bl _ _ n f m g (H.keep (Ab L0 Aj) (fun _ _ _ x=>x)) (K.keep (Ab L0 Aj) (fun _ _ _ x=>x))).mono ?_;rintro e W1 ⟨rfl,L1⟩;have C1:=Ae L0 L1;replace k0:=Aa k0 L1 (Ac k0);replace k1:=Aa k1 L1 (Ac k1);have c1:=Ag k1;have f1:=As k1;clear L0 L1 H K;cases hok:A1 t c s ad pl n f m g
 ·go_wp2
  refine bodyPost_ret (v:=.agg #[.func (.func 237) #[] #[]]) (by simp [results,Tryz.results217,go_sem,c1]) rfl ?_;exact ⟨fun _=>rfl,fun h=>absurd (hok.symm.trans h) (by decide),Bc k0 (by omega),C1.setCell (by simp) _⟩
 ·go_wp2
  refine bodyPost_ret (v:=.agg #[.func (.func 238) #[] #[(pt w.heap.size 0)]]) (by simp [results,Tryz.results217,go_sem,c1]) rfl ?_;exact ⟨fun h=>absurd (h.symm.trans hok) (by decide),fun _=>rfl,Bc k0 (by omega),C1.setCell (by simp) _⟩
theorem Ja9 (w:World) (F G:Nat→Nat→Prop) (t c s ad pl:Int) (bl:Bool) (u u':Value) (n:Nat) (f:Nat→Int) (m:Nat) (g:Nat→Int) (a:Int) (H:Ints .i64 w F u n f) (K:Ints .i64 w G u' m g) :
  Calls Tryz.prog 171 #[.agg (pR t c s ad pl bl u u'),.i a] w fun e w'=>e=.returned (.i (U7 (A1 t c s ad pl n f m g) f s pl a))∧Below w.heap.size w w':=by
 obtain ⟨ua,ux,rfl,un,hr,hF⟩:=H;obtain ⟨va,vx,rfl,vn,hr',hF'⟩:=K
 have H:Ints .i64 w F (.slice ua n ux) n f:=⟨_,_,rfl,un,hr,hF⟩
 have K:Ints .i64 w G (.slice va m vx) m g:=⟨_,_,rfl,vn,hr',hF'⟩
 clear hF hr' hF';have L0:Below w.heap.size w (w.alloc (.cells (pR t c s ad pl bl (.slice ua n ux) (.slice va m vx)) 44)):=(Below.refl _ _).alloc (Nat.le_refl _) _;have k0:=Al w (pR t c s ad pl bl (.slice ua n ux) (.slice va m vx)) 44
 by_cases hA:0≤a∧a≤47
 ·obtain ⟨a0,a47⟩:=hA
  have a1:a<48:=by omega
  have n1:¬ a<0:=by omega
  have n2:¬ 48≤a:=by omega
  have m8:a.tmod 8=a%8:=Int.tmod_eq_emod_of_nonneg a0;have d8:a.tdiv 8=a/8:=Int.tdiv_eq_ediv_of_nonneg a0
  go_enter Tryz.func171,Tryz.ntmps171
  go_wp2_with fail;generalize w.alloc (.cells (pR t c s ad pl bl (.slice ua n ux) (.slice va m vx)) 44)=W0 at *;refine (Jci _ F G t c s ad pl bl ua ux va vx n f m g (H.keep (Ab L0 Aj) (fun _ _ _ x=>x)) (K.keep (Ab L0 Aj) (fun _ _ _ x=>x))).mono ?_;rintro e W1 ⟨hno,hyes,kb,L1⟩;have C1:=Ae L0 L1;cases hok:A1 t c s ad pl n f m g
  ·obtain rfl:=hno hok
   have HE:Hid (U7 false f s pl a=0):=if_neg (by simp)
   have hfd:∀ w,(Instr.field 192 (.agg #[.func (.func 237) #[] #[]]) 0).run Tryz.prog w=.ok (.func (.func 237) #[] #[]) w:=fun _=>by kernel_rfl
   clear hno hyes;go_wp2_with fail;refine (Y4 _ _ _).mono ?_;rintro e W2 ⟨rfl,rfl⟩;go_wp2;go_ret;exact ⟨Az (by rw [hok]; exact HE.out.symm),C1⟩
  ·obtain rfl:=hyes hok
   have HE:Hid (U7 true f s pl a=Hn f s pl a):=if_pos ⟨rfl,a0,a47⟩
   have hfd:∀ w,(Instr.field 192 (.agg #[.func (.func 238) #[] #[(pt W0.heap.size 0)]]) 0).run Tryz.prog w=.ok (.func (.func 238) #[] #[(pt W0.heap.size 0)]) w:=fun _=>by kernel_rfl
   clear hno hyes;go_wp2_with fail;have IP:=Ev hok;have s0:=IP.s0;have s1:=IP.s1;obtain rfl:=IP.n16;refine (Ja8 _ W0.heap.size t c s ad pl bl ua ux (.slice va m vx) f a kb (hr.keep (Ab C1 Aj) (fun _ _ _ x=>x)) s0 s1 a0 a1).mono ?_;rintro e W2 ⟨rfl,L2⟩;have C2:=Ae C1 L2;clear IP s0 s1 hr;go_wp2;go_ret;exact ⟨Az (by rw [hok]; exact HE.out.symm),C2⟩
 ·have HE:Hid (U7 (A1 t c s ad pl n f m g) f s pl a=0):=if_neg (fun h=>hA h.2)
  by_cases h0:a<0
  ·go_enter Tryz.func171,Tryz.ntmps171
   go_wp2;go_ret;exact ⟨Az HE.out.symm,L0⟩
  ·have h1:48≤a:=by omega
   go_enter Tryz.func171,Tryz.ntmps171
   go_wp2;go_ret;exact ⟨Az HE.out.symm,L0⟩
structure TB (w W:World) (lo z:Nat) (o1 o2:Option Nat) (u1 tv:Value) (t c s ad pl:Int) (bl:Bool) (n:Nat) (f:Nat→Int) (m:Nat) (g:Nat→Int) (k:Nat) (h:Nat→Int):Prop where
 ex:∃ o2' u2' o3,W.heap[z]?=some (.cells (pR t c s ad pl bl u1 u2') 44 (0,0))∧A5 W lo o1 u1 n f∧A5 W lo o2' u2' m g∧A5 W lo o3 tv k h∧Pz o1 o2'∧Pz o1 o3∧Pz o2' o3∧(∀ q,(o1=some q∨o2'=some q∨o3=some q)→q≠z)∧Wrote (fun b _=>b=z∨o2=some b) w W
theorem TB.up {w W:World} {lo z:Nat} {o1 o2:Option Nat} {u1 tv:Value} {t c s ad pl:Int} {bl:Bool} {n:Nat} {f:Nat→Int} {m:Nat} {g:Nat→Int} {k:Nat} {h:Nat→Int} (H:TB w W lo z o1 o2 u1 tv t c s ad pl bl n f m g k h) (t':Int) :
  TB w (W.setCell ⟨z,0,none⟩ (.i t')) lo z o1 o2 u1 tv t' c s ad pl bl n f m g k h:=by
 obtain ⟨o2',u2',o3,hb,r1,r2,r3,h1,h2,h3,hz,hw⟩:=H;have WS:Wrote (fun b _=>b=z) W (W.setCell ⟨z,0,none⟩ (.i t')):=Wrote.setCell (R:=fun b _=>b=z) (Wrote.refl _ W) (fun _=>rfl) _;exact ⟨o2',u2',o3,Af hb _,r1.keep WS (fun q e _ _ _ x=>hz q (Or.inl e) x),r2.keep WS (fun q e _ _ _ x=>hz q (Or.inr (Or.inl e)) x),r3.keep WS (fun q e _ _ _ x=>hz q (Or.inr (Or.inr e)) x),h1,h2,h3,hz,hw.setCell (fun _=>Or.inl rfl) _⟩
theorem TB.box {w W:World} {lo z:Nat} {o1 o2:Option Nat} {u1 tv:Value} {t c s ad pl:Int} {bl:Bool} {n:Nat} {f:Nat→Int} {m:Nat} {g:Nat→Int} {k:Nat} {h:Nat→Int} (H:TB w W lo z o1 o2 u1 tv t c s ad pl bl n f m g k h):∃ u2' a x,tv=.slice a k x∧W.heap[z]?=some (.cells (pR t c s ad pl bl u1 u2') 44 (0,0)):=by
 obtain ⟨o2',u2',o3,hb,r1,r2,r3,h1,h2,h3,hz,hw⟩:=H;obtain ⟨a,x,e⟩:=r3.form;exact ⟨u2',a,x,e,hb⟩
def Va (t:Int):Int:=(t+15)/64
def Kv (m:Nat) (ln:Nat→Nat) (t:Int):Bool:=decide ((∀ i,i<m→ln i=48)∧(m:Int)=Va t)
theorem Vb {m:Nat} {ln:Nat→Nat} {t:Int} {i:Nat} (hi:i<m) (h:¬ ln i=48):Kv m ln t=false:=decide_eq_false (fun x=>h (x.1 i hi))
theorem Rp {m:Nat} {ln:Nat→Nat} {t:Int} (h:∀ i,i<m→ln i=48):Kv m ln t=((m:Int)==Va t):=by
 by_cases e:(m:Int)=Va t
 ·rw [Kv,decide_eq_true ⟨h,e⟩]; exact (beq_iff_eq.2 e).symm
 ·rw [Kv,decide_eq_false (fun x=>e x.2)]; exact (beq_eq_false_iff_ne.2 e).symm
theorem Ec {t c s ad pl:Int} {n:Nat} {f:Nat→Int} {m:Nat} {g:Nat→Int} (h:A1 t c s ad pl n f m g=true):0≤t∧t≤20000:=by
 unfold A1 at h;rw [Bool.and_eq_true] at h;exact (Dn _ _ _).1 h.1
def Cd (d:Aq):Bool:=Dr d.np d.p && (B6 d.m d.ln d.f d.nr d.g d.bank && (It d.A d.X d.S d.Pc && (A1 d.t d.c d.s d.ad d.pl d.nt d.tb d.nd d.dt && (Ci d.T d.P d.K d.B d.L && (Cs d.sh 0 255 && ((d.t==d.T) && (Cs d.st 0 d.t && (Kv d.mf d.lf d.t && ((d.ns:Int)==d.t/16)))))))))
end Go.Proofs.YtgcmimcalmjaaaaGreatDoor
