import Derived.Test.YtgcmimcalmjaaaaGreatDoorA8
namespace Go.Proofs.YtgcmimcalmjaaaaGreatDoor
set_option maxHeartbeats 1000000
set_option linter.unusedVariables false
open Go.ChangeShapes Go.WideShapes Go.ChangeAt Go.RowKit
theorem Pv (w:World) (F G:Nat→Nat→Prop) (t c s ad pl:Int) (bl:Bool) (u u':Value) (n:Nat) (f:Nat→Int) (m:Nat) (g:Nat→Int) (H:Ints .i64 w F u n f) (K:Ints .i64 w G u' m g) :
  Calls Tryz.prog 61 #[.agg (pR t c s ad pl bl u u')] w fun e w'=>∃ p x q y,e=.returned (.agg (pR t c s ad pl bl (.slice (some ⟨p,0,none⟩) n x) (.slice (some ⟨q,0,none⟩) m y)))∧Row w' w.heap.size p n x f∧Row w' w.heap.size q m y g∧p≠q∧Below w.heap.size w w':=by
 obtain ⟨ua,ux,rfl,un,hr,hF⟩:=H;obtain ⟨va,vx,rfl,vn,hr',hF'⟩:=K
 have H:Ints .i64 w F (.slice ua n ux) n f:=⟨_,_,rfl,un,hr,hF⟩
 have K:Ints .i64 w G (.slice va m vx) m g:=⟨_,_,rfl,vn,hr',hF'⟩
 clear hr hF hr' hF';have L1:Below w.heap.size w (((w.alloc (.cells (pR t c s ad pl bl (.slice ua n ux) (.slice va m vx)) 44)).alloc (.cells (pR 0 0 0 0 0 false (.slice none 0 0) (.slice none 0 0)) 44)).alloc (.cells #[] 3)):=(((Below.refl _ _).alloc (Nat.le_refl _) _).alloc (by simp) _).alloc (by simp; omega) _;have k0:(((w.alloc (.cells (pR t c s ad pl bl (.slice ua n ux) (.slice va m vx)) 44)).alloc (.cells (pR 0 0 0 0 0 false (.slice none 0 0) (.slice none 0 0)) 44)).alloc (.cells #[] 3)).heap[w.heap.size]?=some (.cells (pR t c s ad pl bl (.slice ua n ux) (.slice va m vx)) 44 (0,0)):=Ax (Ax (Al w _ _) _) _
 have k1:(((w.alloc (.cells (pR t c s ad pl bl (.slice ua n ux) (.slice va m vx)) 44)).alloc (.cells (pR 0 0 0 0 0 false (.slice none 0 0) (.slice none 0 0)) 44)).alloc (.cells #[] 3)).heap[w.heap.size+1]?=some (.cells (pR 0 0 0 0 0 false (.slice none 0 0) (.slice none 0 0)) 44 (0,0)):=by simpa using Ax (Al (w.alloc (.cells (pR t c s ad pl bl (.slice ua n ux) (.slice va m vx)) 44)) _ _) (.cells #[] 3)
 have k2:(((w.alloc (.cells (pR t c s ad pl bl (.slice ua n ux) (.slice va m vx)) 44)).alloc (.cells (pR 0 0 0 0 0 false (.slice none 0 0) (.slice none 0 0)) 44)).alloc (.cells #[] 3)).heap[w.heap.size+1+1]?=some (.cells #[] 3 (0,0)):=by simpa using Al ((w.alloc (.cells (pR t c s ad pl bl (.slice ua n ux) (.slice va m vx)) 44)).alloc (.cells (pR 0 0 0 0 0 false (.slice none 0 0) (.slice none 0 0)) 44)) #[] 3
 have HZ:Hid ((((w.alloc (.cells (pR t c s ad pl bl (.slice ua n ux) (.slice va m vx)) 44)).alloc (.cells (pR 0 0 0 0 0 false (.slice none 0 0) (.slice none 0 0)) 44)).alloc (.cells #[] 3)).heap.size=w.heap.size+1+1+1):=by show _=_; simp
 go_enter Tryz.func61,Tryz.ntmps61
 go_wp2_with (at_builtin; refine Eu _ rfl _ _ rfl (w.heap.size+1+1) rfl k2 (w.heap.size+1+1) (Nat.le_refl _) F (.slice ua n ux) n f rfl (H.keep (Ab L1 Aj) (fun _ _ _ x=>x)) ?_);generalize (((w.alloc (.cells (pR t c s ad pl bl (.slice ua n ux) (.slice va m vx)) 44)).alloc (.cells (pR 0 0 0 0 0 false (.slice none 0 0) (.slice none 0 0)) 44)).alloc (.cells #[] 3))=W1 at *;rintro p x W2 R2 L2 hp;have z1:W1.heap.size=w.heap.size+1+1+1:=An HZ;have j0:=Aa k0 L2 (by omega);have j1:=Aa k1 L2 (by omega);have hps:=R2.parts;have L3:=L1.trans (L2.mono (by omega));have c0:=Ag j0;have f0:=As j0
 have hzz:w.heap.size+1+1+1≤W2.heap.size:=by have:=L2.size; omega
 have m0:((W2.setCell ⟨w.heap.size,6,none⟩ (.slice (some ⟨p,0,none⟩) n x)).alloc (.cells #[] 3)).heap[w.heap.size]?=some (.cells (pR t c s ad pl bl (.slice (some ⟨p,0,none⟩) n x) (.slice va m vx)) 44 (0,0)):=Ax (Af j0 _) _;have m1:((W2.setCell ⟨w.heap.size,6,none⟩ (.slice (some ⟨p,0,none⟩) n x)).alloc (.cells #[] 3)).heap[w.heap.size+1]?=some (.cells (pR 0 0 0 0 0 false (.slice none 0 0) (.slice none 0 0)) 44 (0,0)):=Ax (Bc j1 (by omega)) _
 have m2:((W2.setCell ⟨w.heap.size,6,none⟩ (.slice (some ⟨p,0,none⟩) n x)).alloc (.cells #[] 3)).heap[W2.heap.size]?=some (.cells #[] 3 (0,0)):=by simpa using Al (W2.setCell ⟨w.heap.size,6,none⟩ (.slice (some ⟨p,0,none⟩) n x)) #[] 3
 have LV:Below w.heap.size w ((W2.setCell ⟨w.heap.size,6,none⟩ (.slice (some ⟨p,0,none⟩) n x)).alloc (.cells #[] 3)):=(L3.setCell (Nat.le_refl _) _).alloc (by simp; have:=L3.size; omega) _;have WV:Wrote (fun b _=>b=w.heap.size) W2 ((W2.setCell ⟨w.heap.size,6,none⟩ (.slice (some ⟨p,0,none⟩) n x)).alloc (.cells #[] 3)):=(Wrote.setCell (R:=fun b _=>b=w.heap.size) (Wrote.refl _ W2) (fun _=>rfl) _).alloc _;have RV:=R2.keep WV (fun _ h=>by omega)
 have zV:((W2.setCell ⟨w.heap.size,6,none⟩ (.slice (some ⟨p,0,none⟩) n x)).alloc (.cells #[] 3)).heap.size=W2.heap.size+1:=by simp
 have HX:=Ad (And.intro m0 (And.intro m1 (And.intro m2 (And.intro LV (And.intro RV zV)))));have cm:=Ag m0;clear k0 k1 k2 L1 L2 L3 j0 j1 R2 z1 m0 m1 LV WV RV;go_wp2_with (at_builtin; refine Eu _ rfl _ _ rfl W2.heap.size rfl m2 W2.heap.size (Nat.le_refl _) G (.slice va m vx) m g rfl (K.keep (Ab HX.out.2.2.2.1 Aj) (fun _ _ _ x=>x)) ?_);clear m2 c0 f0 cm;generalize ((W2.setCell ⟨w.heap.size,6,none⟩ (.slice (some ⟨p,0,none⟩) n x)).alloc (.cells #[] 3))=W3 at *;rintro q y W4 R4 L4 hq;obtain ⟨m0,m1,-,LV,RV,zV⟩:=HX.out
 replace L4:Below W3.heap.size W3 W4:=by rw [zV]; exact L4
 have hqs:=R4.parts;have RP:=RV.below L4;have j0:=Aa m0 L4 (Ac m0);have j1:=Aa m1 L4 (Ac m1);have L5:=Ae LV L4;have c0:=Ag j0;have f0:=As j0;have c1:=Ag j1;have f1:=As j1;have HY:=Ad (And.intro RP (And.intro R4 L5));clear HX HZ m0 m1 LV RV L4 R4 RP j0 j1 L5 zV;go_wp2;refine bodyPost_ret (v:=.agg (pR t c s ad pl bl (.slice (some ⟨p,0,none⟩) n x) (.slice (some ⟨q,0,none⟩) m y))) (by simp [results,Tryz.results61,go_sem,c1]) rfl ?_;have hw:=hqs.2.1
 have key:∀ W5,Wrote (fun b _=>b=w.heap.size∨b=w.heap.size+1) W4 W5→Row W5 w.heap.size p n x f∧Row W5 w.heap.size q m y g∧p≠q∧Below w.heap.size w W5:=fun W5 WW =>
  ⟨(HY.out.1.keep WW (fun _ h=>by omega)).mono (by omega),(HY.out.2.1.keep WW (fun _ h=>by omega)).mono (by omega),by omega,HY.out.2.2.trans (WW.below HY.out.2.2.size (fun b o hb h=>by omega))⟩
 refine ⟨_,_,_,_,rfl,key _ ?_⟩
 iterate 9 (refine Wrote.setCell ?_ (fun _=>by omega) _)
 exact Wrote.refl _ _
def Hn (f:Nat→Int) (s pl a:Int):Int:=bits .xor .i64 (f ((a%8+s+a/8)%16).toNat) pl
theorem Jda (w:World) (F:Nat→Nat→Prop) (t c s ad pl:Int) (bl:Bool) (u u':Value) (f:Nat→Int) (a:Int) (H:Ints .i64 w F u 16 f) (s0:0≤s) (s1:s≤255) (a0:0≤a) (a1:a<48) :
  Calls Tryz.prog 131 #[.agg (pR t c s ad pl bl u u'),.i a] w fun e w'=>e=.returned (.i (Hn f s pl a))∧Below w.heap.size w w':=by
 obtain ⟨ua,ux,rfl,un,hr,-⟩:=H;have L0:Below w.heap.size w (w.alloc (.cells (pR t c s ad pl bl (.slice ua 16 ux) u') 44)):=(Below.refl _ _).alloc (Nat.le_refl _) _
 obtain ⟨k,hk,hk16⟩:∃ k:Nat,(a%8+s+a/8)%16=(k:Int)∧k<16:=⟨((a%8+s+a/8)%16).toNat,by omega,by omega⟩
 have HE:Hid (Hn f s pl a=bits .xor .i64 (f k) pl):=by show _=_; unfold Hn; rw [hk,Int.toNat_natCast]
 have m8:a.tmod 8=a%8:=Int.tmod_eq_emod_of_nonneg a0;have d8:a.tdiv 8=a/8:=Int.tdiv_eq_ediv_of_nonneg a0
 have m16:(a%8+s+a/8).tmod 16=(k:Int):=by rw [Int.tmod_eq_emod_of_nonneg (by omega)]; exact hk
 obtain ⟨b,off,rfl,hc⟩:=(hr.keep (Ab L0 Aj) (fun _ _ _ x=>x)) k hk16
 go_enter Tryz.func131,Tryz.ntmps131
 go_upto_region 1 with (fail)
 have w1:IntKind.i64.wrap (a%8+s)=a%8+s:=by rw [IntKind.wrap_i64]; omega
 have w2:IntKind.i64.wrap (a%8+s+a/8)=a%8+s+a/8:=by rw [IntKind.wrap_i64]; omega
 have w3:IntKind.i64.wrap (a%8)=a%8:=by rw [IntKind.wrap_i64]; omega
 have w4:IntKind.i64.wrap (a/8)=a/8:=by rw [IntKind.wrap_i64]; omega
 have w5:IntKind.i64.wrap (k:Int)=k:=by rw [IntKind.wrap_i64]; omega
 go_quiet (fail)
 go_wp2;go_ret;exact ⟨Az HE.out.symm,below_drewN L0 _⟩
def U7 (ok:Bool) (f:Nat→Int) (s pl a:Int):Int:=if ok=true∧0≤a∧a≤47 then Hn f s pl a else 0
set_option maxHeartbeats 2000000
def Jg (ok:Bool) (reg v c:Int):Int:=if ok=true∧reg=0 then v%256 else c
def Jh (ok:Bool) (reg v s:Int):Int:=if ok=true∧reg=1 then v%256 else s
def Ji (ok:Bool) (reg v ad:Int):Int:=if ok=true∧reg=3 then v%256%16 else if ok=true∧reg=4 then (ad+1)%16 else ad
def Jj (ok:Bool) (reg v pl:Int):Int:=if ok=true∧reg=5 then v%256%64 else pl
def Kh (ok:Bool) (reg v ad:Int) (f:Nat→Int):Nat→Int:=if ok=true∧reg=4 then (fun i=>if i=ad.toNat then v%256%64 else f i) else f
theorem Pw (w:World) (F G:Nat→Nat→Prop) (t c s ad pl:Int) (bl:Bool) (u u':Value) (n:Nat) (f:Nat→Int) (m:Nat) (g:Nat→Int) (reg v:Int) (H:Ints .i64 w F u n f) (K:Ints .i64 w G u' m g) :
  Calls Tryz.prog 122 #[.agg (pR t c s ad pl bl u u'),.i reg,.i v] w fun e w'=>∃ p x q y,e=.returned (.agg (pR t (Jg (A1 t c s ad pl n f m g) reg v c) (Jh (A1 t c s ad pl n f m g) reg v s) (Ji (A1 t c s ad pl n f m g) reg v ad) (Jj (A1 t c s ad pl n f m g) reg v pl) bl (.slice (some ⟨p,0,none⟩) n x) (.slice (some ⟨q,0,none⟩) m y)))∧Row w' w.heap.size p n x (Kh (A1 t c s ad pl n f m g) reg v ad f)∧Row w' w.heap.size q m y g∧p≠q∧Below w.heap.size w w':=by
 obtain ⟨ua,ux,rfl,un,hr,hF⟩:=H;obtain ⟨va,vx,rfl,vn,hr',hF'⟩:=K
 have H:Ints .i64 w F (.slice ua n ux) n f:=⟨_,_,rfl,un,hr,hF⟩
 have K:Ints .i64 w G (.slice va m vx) m g:=⟨_,_,rfl,vn,hr',hF'⟩
 clear hr hF hr' hF';have L0:Below w.heap.size w ((w.alloc (.cells (pR t c s ad pl bl (.slice ua n ux) (.slice va m vx)) 44)).alloc (.cells (pR 0 0 0 0 0 false (.slice none 0 0) (.slice none 0 0)) 44)):=((Below.refl _ _).alloc (Nat.le_refl _) _).alloc (by simp) _;have k0:((w.alloc (.cells (pR t c s ad pl bl (.slice ua n ux) (.slice va m vx)) 44)).alloc (.cells (pR 0 0 0 0 0 false (.slice none 0 0) (.slice none 0 0)) 44)).heap[w.heap.size]?=some (.cells (pR t c s ad pl bl (.slice ua n ux) (.slice va m vx)) 44 (0,0)):=Ax (Al w _ _) _
 have k1:((w.alloc (.cells (pR t c s ad pl bl (.slice ua n ux) (.slice va m vx)) 44)).alloc (.cells (pR 0 0 0 0 0 false (.slice none 0 0) (.slice none 0 0)) 44)).heap[w.heap.size+1]?=some (.cells (pR 0 0 0 0 0 false (.slice none 0 0) (.slice none 0 0)) 44 (0,0)):=by simpa using Al (w.alloc (.cells (pR t c s ad pl bl (.slice ua n ux) (.slice va m vx)) 44)) (pR 0 0 0 0 0 false (.slice none 0 0) (.slice none 0 0)) 44
 go_enter Tryz.func122,Tryz.ntmps122
 go_wp2_with fail;generalize ((w.alloc (.cells (pR t c s ad pl bl (.slice ua n ux) (.slice va m vx)) 44)).alloc (.cells (pR 0 0 0 0 0 false (.slice none 0 0) (.slice none 0 0)) 44))=W0 at *;refine (Pv _ F G t c s ad pl bl _ _ n f m g (H.keep (Ab L0 Aj) (fun _ _ _ x=>x)) (K.keep (Ab L0 Aj) (fun _ _ _ x=>x))).mono ?_;rintro e W1 ⟨p,x,q,y,rfl,R1,R2,hpq,L1⟩;have hp:=R1.parts;have hq:=R2.parts;have sz:=L1.size;have hz0:=Ac k1;have C1:=Ae L0 L1;have x0:=Ax (Aa k0 L1 (Ac k0)) (.cells (pR t c s ad pl bl (.slice (some ⟨p,0,none⟩) n x) (.slice (some ⟨q,0,none⟩) m y)) 44);have x1:=Ax (Aa k1 L1 (Ac k1)) (.cells (pR t c s ad pl bl (.slice (some ⟨p,0,none⟩) n x) (.slice (some ⟨q,0,none⟩) m y)) 44)
 have x2:=Al W1 (pR t c s ad pl bl (.slice (some ⟨p,0,none⟩) n x) (.slice (some ⟨q,0,none⟩) m y)) 44;have LA:Below W1.heap.size W1 (W1.alloc (.cells (pR t c s ad pl bl (.slice (some ⟨p,0,none⟩) n x) (.slice (some ⟨q,0,none⟩) m y)) 44)):=(Below.refl _ _).alloc (Nat.le_refl _) _;have C2:=Ae C1 LA;have S1:=(R1.below LA).mono (lo':=w.heap.size) L0.size;have S2:=(R2.below LA).mono (lo':=w.heap.size) L0.size;have c0:=Ag x0;go_wp2_with fail;clear c0 k0 k1 L0 L1 C1 R1 R2 LA
 obtain ⟨z,hz⟩:∃ z,Hid (z=W1.heap.size):=⟨_,rfl⟩
 generalize W1.alloc (.cells (pR t c s ad pl bl (.slice (some ⟨p,0,none⟩) n x) (.slice (some ⟨q,0,none⟩) m y)) 44)=W2 at *;rw [← hz.out] at x2 ⊢
 have hzp:p<z∧q<z∧w.heap.size+1<p∧w.heap.size+1<q:=by rw [hz.out]; exact ⟨hp.2.1,hq.2.1,by omega,by omega⟩
 clear hz hp hq sz hz0;refine (Kg _ F G t c s ad pl bl _ _ n f m g (H.keep (Ab C2 Aj) (fun _ _ _ x=>x)) (K.keep (Ab C2 Aj) (fun _ _ _ x=>x))).mono ?_;rintro e W3 ⟨rfl,L⟩;replace x0:=Aa x0 L (Ac x0);replace x1:=Aa x1 L (Ac x1);replace x2:=Aa x2 L (Ac x2);replace S1:=S1.below L;replace S2:=S2.below L;have C3:=Ae C2 L;clear L C2;have c0:=Ag x0;have c1:=Ag x1;have c2:=Ag x2;have f1:=As x1;have f2:=As x2
 have key:∀ W5,Wrote (fun b _=>b=w.heap.size+1∨b=z) W3 W5→Row W5 w.heap.size p n x f∧Row W5 w.heap.size q m y g∧p≠q∧Below w.heap.size w W5:=fun W5 WW =>
  ⟨S1.keep WW (fun _ h=>by omega),S2.keep WW (fun _ h=>by omega),hpq,C3.trans (WW.below C3.size (fun b o hb h=>by omega))⟩
 have KEY:=Ad key;have HP:Hid (A1 t c s ad pl n f m g=true→Iv t c s ad pl n f m g):=Ev;clear key x0 x1 x2;cases hok:A1 t c s ad pl n f m g
 ·have HE:Hid (Jg false reg v c=c∧Jh false reg v s=s∧Ji false reg v ad=ad∧Jj false reg v pl=pl∧Kh false reg v ad f=f):=⟨if_neg (by simp),if_neg (by simp),(if_neg (by simp)).trans (if_neg (by simp)),if_neg (by simp),if_neg (by simp)⟩
  have HO:=Ad hok;clear hok;go_wp2;refine bodyPost_ret (v:=.agg (pR t (c) (s) (ad) (pl) bl (.slice (some ⟨p,0,none⟩) n x) (.slice (some ⟨q,0,none⟩) m y))) (by simp [results,Tryz.results122,go_sem,c1]) rfl ?_;rw [HO.out,HE.out.1,HE.out.2.1,HE.out.2.2.1,HE.out.2.2.2.1,HE.out.2.2.2.2];refine ⟨p,x,q,y,rfl,KEY.out _ ?_⟩
  iterate 8 (refine Wrote.setCell ?_ (fun _=>by omega) _)
  exact Wrote.refl _ _
 ·have HO:=Ad hok
  have IP:=HP.out hok;clear hok HP;have a0:=IP.a0;have a1:=IP.a1;have N16:=Ad IP.n16;clear IP;go_wp2_with fail;refine (Bs _ _).mono ?_;rintro e W' ⟨rfl,rfl⟩
  obtain ⟨vb,hvb⟩:∃ vb,Hid (vb=v%256):=⟨_,rfl⟩
  have vb0:0≤vb:=by rw [hvb.out]; omega
  have vb1:vb<256:=by rw [hvb.out]; omega
  rw [← hvb.out]
  by_cases e0:reg=0
  ·subst e0
   have HE:Hid (Jg true 0 v c=vb∧Jh true 0 v s=s∧Ji true 0 v ad=ad∧Jj true 0 v pl=pl∧Kh true 0 v ad f=f):=by rw [hvb.out]; exact ⟨rfl,rfl,rfl,rfl,rfl⟩
   go_wp2;refine bodyPost_ret (v:=.agg (pR t (vb) (s) (ad) (pl) bl (.slice (some ⟨p,0,none⟩) n x) (.slice (some ⟨q,0,none⟩) m y))) (by simp [results,Tryz.results122,go_sem,c1]) rfl ?_;rw [HO.out,HE.out.1,HE.out.2.1,HE.out.2.2.1,HE.out.2.2.2.1,HE.out.2.2.2.2];refine ⟨p,x,q,y,rfl,KEY.out _ ?_⟩
   iterate 9 (refine Wrote.setCell ?_ (fun _=>by omega) _)
   exact Wrote.refl _ _
  by_cases e1:reg=1
  ·subst e1
   have HE:Hid (Jg true 1 v c=c∧Jh true 1 v s=vb∧Ji true 1 v ad=ad∧Jj true 1 v pl=pl∧Kh true 1 v ad f=f):=by rw [hvb.out]; exact ⟨rfl,rfl,rfl,rfl,rfl⟩
   go_wp2;refine bodyPost_ret (v:=.agg (pR t (c) (vb) (ad) (pl) bl (.slice (some ⟨p,0,none⟩) n x) (.slice (some ⟨q,0,none⟩) m y))) (by simp [results,Tryz.results122,go_sem,c1]) rfl ?_;rw [HO.out,HE.out.1,HE.out.2.1,HE.out.2.2.1,HE.out.2.2.2.1,HE.out.2.2.2.2];refine ⟨p,x,q,y,rfl,KEY.out _ ?_⟩
   iterate 9 (refine Wrote.setCell ?_ (fun _=>by omega) _)
   exact Wrote.refl _ _
  by_cases e3:reg=3
  ·subst e3
   have HE:Hid (Jg true 3 v c=c∧Jh true 3 v s=s∧Ji true 3 v ad=vb%16∧Jj true 3 v pl=pl∧Kh true 3 v ad f=f):=by rw [hvb.out]; exact ⟨rfl,rfl,rfl,rfl,rfl⟩
   have t16:vb.tmod 16=vb%16:=Int.tmod_eq_emod_of_nonneg vb0;go_wp2;refine bodyPost_ret (v:=.agg (pR t (c) (s) (vb%16) (pl) bl (.slice (some ⟨p,0,none⟩) n x) (.slice (some ⟨q,0,none⟩) m y))) (by simp [results,Tryz.results122,go_sem,c1]) rfl ?_;rw [HO.out,HE.out.1,HE.out.2.1,HE.out.2.2.1,HE.out.2.2.2.1,HE.out.2.2.2.2];refine ⟨p,x,q,y,rfl,KEY.out _ ?_⟩
   iterate 9 (refine Wrote.setCell ?_ (fun _=>by omega) _)
   exact Wrote.refl _ _
  by_cases e5:reg=5
  ·subst e5
   have HE:Hid (Jg true 5 v c=c∧Jh true 5 v s=s∧Ji true 5 v ad=ad∧Jj true 5 v pl=vb%64∧Kh true 5 v ad f=f):=by rw [hvb.out]; exact ⟨rfl,rfl,rfl,rfl,rfl⟩
   have t64:vb.tmod 64=vb%64:=Int.tmod_eq_emod_of_nonneg vb0;go_wp2;refine bodyPost_ret (v:=.agg (pR t (c) (s) (ad) (vb%64) bl (.slice (some ⟨p,0,none⟩) n x) (.slice (some ⟨q,0,none⟩) m y))) (by simp [results,Tryz.results122,go_sem,c1]) rfl ?_;rw [HO.out,HE.out.1,HE.out.2.1,HE.out.2.2.1,HE.out.2.2.2.1,HE.out.2.2.2.2];refine ⟨p,x,q,y,rfl,KEY.out _ ?_⟩
   iterate 9 (refine Wrote.setCell ?_ (fun _=>by omega) _)
   exact Wrote.refl _ _
  by_cases e4:reg=4
  ·subst e4
   obtain ⟨k,rfl⟩:∃ k:Nat,ad=k:=⟨ad.toNat,by omega⟩
   have hk:k<n:=by have:=N16.out; omega
   have hki:(k:Int)<(n:Int):=by omega
   have HE:Hid (Jg true 4 v c=c∧Jh true 4 v s=s∧Ji true 4 v k=((k:Int)+1)%16∧Jj true 4 v pl=pl∧Kh true 4 v k f=fun i=>if i=k then vb%64 else f i):=by rw [hvb.out]; exact ⟨rfl,rfl,rfl,rfl,rfl⟩
   have t64:vb.tmod 64=vb%64:=Int.tmod_eq_emod_of_nonneg vb0;have t16:((k:Int)+1).tmod 16=((k:Int)+1)%16:=Int.tmod_eq_emod_of_nonneg (by omega);obtain ⟨bb,oo,ee,hcell⟩:=S1.sl.row k hk;simp only [Option.some.injEq,Addr.mk.injEq,and_true] at ee;obtain ⟨rfl,rfl⟩:=ee;rw [Nat.zero_add] at hcell;have hfro:W'.frozen? ⟨p,k,none⟩=false:=S1.own.frozenAt k
   have key:∀ W5,Wrote (fun b _=>b=w.heap.size+1∨b=z) (W'.setCell ⟨p,k,none⟩ (.i (vb%64))) W5→Row W5 w.heap.size p n x (fun i=>if i=k then vb%64 else f i)∧Row W5 w.heap.size q m y g∧p≠q∧Below w.heap.size w W5:=fun W5 WW =>
    have Cp:=C3.setCell (p:=⟨p,k,none⟩) (by show w.heap.size≤p; omega) (.i (vb%64))
    ⟨(S1.put k hk (vb%64)).keep WW (fun _ h=>by omega),(S2.keep (Wrote.setCell (R:=fun b _=>b=p) (Wrote.refl _ W') (fun _=>rfl) _) (fun _ h=>hpq h.symm)).keep WW (fun _ h=>by omega),hpq,Cp.trans (WW.below Cp.size (fun b o hb h=>by omega))⟩
   have KEY4:=Ad key;clear key
   have hzp1:¬ z=p:=by omega
   have hzp2:¬ w.heap.size+1=p:=by omega
   go_wp2;refine bodyPost_ret (v:=.agg (pR t (c) (s) (((k:Int)+1)%16) (pl) bl (.slice (some ⟨p,0,none⟩) n x) (.slice (some ⟨q,0,none⟩) m y))) (by simp [results,Tryz.results122,go_sem,c1]) rfl ?_;rw [HO.out,HE.out.1,HE.out.2.1,HE.out.2.2.1,HE.out.2.2.2.1,HE.out.2.2.2.2];refine ⟨p,x,q,y,rfl,KEY4.out _ ?_⟩
   iterate 9 (refine Wrote.setCell ?_ (fun _=>by omega) _)
   exact Wrote.refl _ _
  ·have HE:Hid (Jg true reg v c=c∧Jh true reg v s=s∧Ji true reg v ad=ad∧Jj true reg v pl=pl∧Kh true reg v ad f=f):=⟨if_neg (by simp [e0]),if_neg (by simp [e1]),(if_neg (by simp [e3])).trans (if_neg (by simp [e4])),if_neg (by simp [e5]),if_neg (by simp [e4])⟩
   have e0':(reg==0)=false:=by simpa using e0
   have e1':(reg==1)=false:=by simpa using e1
   have e3':(reg==3)=false:=by simpa using e3
   have e4':(reg==4)=false:=by simpa using e4
   have e5':(reg==5)=false:=by simpa using e5
   clear e0 e1 e3 e4 e5;go_wp2;refine bodyPost_ret (v:=.agg (pR t (c) (s) (ad) (pl) bl (.slice (some ⟨p,0,none⟩) n x) (.slice (some ⟨q,0,none⟩) m y))) (by simp [results,Tryz.results122,go_sem,c1]) rfl ?_;rw [HO.out,HE.out.1,HE.out.2.1,HE.out.2.2.1,HE.out.2.2.2.1,HE.out.2.2.2.2];refine ⟨p,x,q,y,rfl,KEY.out _ ?_⟩
   iterate 8 (refine Wrote.setCell ?_ (fun _=>by omega) _)
   exact Wrote.refl _ _
set_option maxHeartbeats 8000000
set_option linter.unusedSimpArgs false
theorem Ma (W:World) (d:Nat) (v0 v1 v2 v3 v4 v5 v6 v7:Value):Wrote (fun b _=>b=d) W ((((((((W.setCell ⟨d,0,none⟩ v0).setCell ⟨d,1,none⟩ v1).setCell ⟨d,2,none⟩ v2).setCell ⟨d,3,none⟩ v3).setCell ⟨d,4,none⟩ v4).setCell ⟨d,5,none⟩ v5).setCell ⟨d,6,none⟩ v6).setCell ⟨d,7,none⟩ v7) :=
 Wrote.setCell (Wrote.setCell (Wrote.setCell (Wrote.setCell (Wrote.setCell (Wrote.setCell (Wrote.setCell (Wrote.setCell (Wrote.refl (fun b _=>b=d) W) (fun _=>rfl) _) (fun _=>rfl) _) (fun _=>rfl) _) (fun _=>rfl) _) (fun _=>rfl) _) (fun _=>rfl) _) (fun _=>rfl) _) (fun _=>rfl) _
theorem Q4 {W:World} {d:Nat} {T:TypeId} {u0 u1 u2 u3 u4 u5 u6 u7:Value} (h:W.heap[d]?=some (.cells #[u0,u1,u2,u3,u4,u5,u6,u7] T (0,0))) (v0 v1 v2 v3 v4 v5 v6 v7:Value):((((((((W.setCell ⟨d,0,none⟩ v0).setCell ⟨d,1,none⟩ v1).setCell ⟨d,2,none⟩ v2).setCell ⟨d,3,none⟩ v3).setCell ⟨d,4,none⟩ v4).setCell ⟨d,5,none⟩ v5).setCell ⟨d,6,none⟩ v6).setCell ⟨d,7,none⟩ v7).heap[d]?=some (.cells #[v0,v1,v2,v3,v4,v5,v6,v7] T (0,0)):=by
 have h0:=Af (o:=0) h v0;simp only [List.setIfInBounds_toArray,List.set_cons_zero,List.set_cons_succ] at h0;have h1:=Af (o:=1) h0 v1;simp only [List.setIfInBounds_toArray,List.set_cons_zero,List.set_cons_succ] at h1;have h2:=Af (o:=2) h1 v2;simp only [List.setIfInBounds_toArray,List.set_cons_zero,List.set_cons_succ] at h2;have h3:=Af (o:=3) h2 v3;simp only [List.setIfInBounds_toArray,List.set_cons_zero,List.set_cons_succ] at h3;have h4:=Af (o:=4) h3 v4;simp only [List.setIfInBounds_toArray,List.set_cons_zero,List.set_cons_succ] at h4;have h5:=Af (o:=5) h4 v5;simp only [List.setIfInBounds_toArray,List.set_cons_zero,List.set_cons_succ] at h5;have h6:=Af (o:=6) h5 v6;simp only [List.setIfInBounds_toArray,List.set_cons_zero,List.set_cons_succ] at h6;have h7:=Af (o:=7) h6 v7
 simp only [List.setIfInBounds_toArray,List.set_cons_zero,List.set_cons_succ] at h7;exact h7
def Mb (ok:Bool) (reg ad:Int):Int:=if ok=true∧reg=4 then (ad+1)%16 else ad
def Om (ok:Bool) (reg:Int) (bl:Bool):Bool:=if ok=true∧reg=2 then false else bl
def Oo (ok:Bool) (reg:Int) (bl:Bool) (ad:Int) (f:Nat→Int):Int:=if ok=true∧reg=2 then 128*Av bl else if ok=true∧reg=4 then f ad.toNat else 0
theorem Q5 (w:World) (F G:Nat→Nat→Prop) (t c s ad pl:Int) (bl:Bool) (u u':Value) (n:Nat) (f:Nat→Int) (m:Nat) (g:Nat→Int) (reg:Int) (H:Ints .i64 w F u n f) (K:Ints .i64 w G u' m g) :
  Calls Tryz.prog 118 #[.agg (pR t c s ad pl bl u u'),.i reg] w fun e w'=>∃ p x q y,e=.returned (.tuple #[.agg (pR t c s (Mb (A1 t c s ad pl n f m g) reg ad) pl (Om (A1 t c s ad pl n f m g) reg bl) (.slice (some ⟨p,0,none⟩) n x) (.slice (some ⟨q,0,none⟩) m y)),.i (Oo (A1 t c s ad pl n f m g) reg bl ad f)])∧Row w' w.heap.size p n x f∧Row w' w.heap.size q m y g∧p≠q∧Below w.heap.size w w':=by
 obtain ⟨ua,ux,rfl,un,hr,hF⟩:=H;obtain ⟨va,vx,rfl,vn,hr',hF'⟩:=K
 have H:Ints .i64 w F (.slice ua n ux) n f:=⟨_,_,rfl,un,hr,hF⟩
 have K:Ints .i64 w G (.slice va m vx) m g:=⟨_,_,rfl,vn,hr',hF'⟩
 clear hr hF hr' hF';have L0:Below w.heap.size w ((w.alloc (.cells (pR t c s ad pl bl (.slice ua n ux) (.slice va m vx)) 44)).alloc (.cells (pR 0 0 0 0 0 false (.slice none 0 0) (.slice none 0 0)) 44)):=((Below.refl _ _).alloc (Nat.le_refl _) _).alloc (by simp) _;have k0:((w.alloc (.cells (pR t c s ad pl bl (.slice ua n ux) (.slice va m vx)) 44)).alloc (.cells (pR 0 0 0 0 0 false (.slice none 0 0) (.slice none 0 0)) 44)).heap[w.heap.size]?=some (.cells (pR t c s ad pl bl (.slice ua n ux) (.slice va m vx)) 44 (0,0)):=Ax (Al w _ _) _
 have k1:((w.alloc (.cells (pR t c s ad pl bl (.slice ua n ux) (.slice va m vx)) 44)).alloc (.cells (pR 0 0 0 0 0 false (.slice none 0 0) (.slice none 0 0)) 44)).heap[w.heap.size+1]?=some (.cells (pR 0 0 0 0 0 false (.slice none 0 0) (.slice none 0 0)) 44 (0,0)):=by simpa using Al (w.alloc (.cells (pR t c s ad pl bl (.slice ua n ux) (.slice va m vx)) 44)) (pR 0 0 0 0 0 false (.slice none 0 0) (.slice none 0 0)) 44
 go_enter Tryz.func118,Tryz.ntmps118
 go_wp2_with fail;generalize ((w.alloc (.cells (pR t c s ad pl bl (.slice ua n ux) (.slice va m vx)) 44)).alloc (.cells (pR 0 0 0 0 0 false (.slice none 0 0) (.slice none 0 0)) 44))=W0 at *;refine (Pv _ F G t c s ad pl bl _ _ n f m g (H.keep (Ab L0 Aj) (fun _ _ _ x=>x)) (K.keep (Ab L0 Aj) (fun _ _ _ x=>x))).mono ?_;rintro e W1 ⟨p,x,q,y,rfl,R1,R2,hpq,L1⟩;have hp:=R1.parts;have hq:=R2.parts;have sz:=L1.size;have hz0:=Ac k1;have C1:=Ae L0 L1;have x0:=Ax (Aa k0 L1 (Ac k0)) (.cells (pR t c s ad pl bl (.slice (some ⟨p,0,none⟩) n x) (.slice (some ⟨q,0,none⟩) m y)) 44);have x1:=Ax (Aa k1 L1 (Ac k1)) (.cells (pR t c s ad pl bl (.slice (some ⟨p,0,none⟩) n x) (.slice (some ⟨q,0,none⟩) m y)) 44)
 have x2:=Al W1 (pR t c s ad pl bl (.slice (some ⟨p,0,none⟩) n x) (.slice (some ⟨q,0,none⟩) m y)) 44;have LA:Below W1.heap.size W1 (W1.alloc (.cells (pR t c s ad pl bl (.slice (some ⟨p,0,none⟩) n x) (.slice (some ⟨q,0,none⟩) m y)) 44)):=(Below.refl _ _).alloc (Nat.le_refl _) _;have C2:=Ae C1 LA;have S1:=(R1.below LA).mono (lo':=w.heap.size) L0.size;have S2:=(R2.below LA).mono (lo':=w.heap.size) L0.size;have c0:=Ag x0;go_wp2_with fail;clear c0 k0 k1 L0 L1 C1 R1 R2 LA
 obtain ⟨z,hz⟩:∃ z,Hid (z=W1.heap.size):=⟨_,rfl⟩
 generalize W1.alloc (.cells (pR t c s ad pl bl (.slice (some ⟨p,0,none⟩) n x) (.slice (some ⟨q,0,none⟩) m y)) 44)=W2 at *;rw [← hz.out] at x2 ⊢
 have hzp:p<z∧q<z∧w.heap.size+1<p∧w.heap.size+1<q:=by rw [hz.out]; exact ⟨hp.2.1,hq.2.1,by omega,by omega⟩
 clear hz hp hq sz hz0;refine (Kg _ F G t c s ad pl bl _ _ n f m g (H.keep (Ab C2 Aj) (fun _ _ _ x=>x)) (K.keep (Ab C2 Aj) (fun _ _ _ x=>x))).mono ?_;rintro e W3 ⟨rfl,L⟩;replace x0:=Aa x0 L (Ac x0);replace x1:=Aa x1 L (Ac x1);replace x2:=Aa x2 L (Ac x2);replace S1:=S1.below L;replace S2:=S2.below L;have C3:=Ae C2 L;clear L C2;have c0:=Ag x0;have c1:=Ag x1;have c2:=Ag x2;have f1:=As x1;have f2:=As x2
 have key:∀ W5,Wrote (fun b _=>b=w.heap.size+1∨b=z) W3 W5→Row W5 w.heap.size p n x f∧Row W5 w.heap.size q m y g∧p≠q∧Below w.heap.size w W5:=fun W5 WW =>
  ⟨S1.keep WW (fun _ h=>by omega),S2.keep WW (fun _ h=>by omega),hpq,C3.trans (WW.below C3.size (fun b o hb h=>by omega))⟩
 have KEY:=Ad key;have HX:=Ad (And.intro x0 (And.intro x1 x2));have HP:Hid (A1 t c s ad pl n f m g=true→Iv t c s ad pl n f m g):=Ev;clear key x0 x1 x2;cases hok:A1 t c s ad pl n f m g
 ·have HE:Hid (Mb false reg ad=ad∧Om false reg bl=bl∧Oo false reg bl ad f=0):=⟨if_neg (by simp),if_neg (by simp),(if_neg (by simp)).trans (if_neg (by simp))⟩
  have HO:=Ad hok;clear hok;go_wp2;refine bodyPost_ret (v:=.tuple #[.agg (pR t c s (ad) pl bl (.slice (some ⟨p,0,none⟩) n x) (.slice (some ⟨q,0,none⟩) m y)),.i (0)]) (by simp [results,Tryz.results118,go_sem,c1]) rfl ?_;rw [HO.out,HE.out.1,HE.out.2.1,HE.out.2.2];refine ⟨p,x,q,y,rfl,KEY.out _ ?_⟩
  iterate 8 (refine Wrote.setCell ?_ (fun _=>by omega) _)
  exact Wrote.refl _ _
 ·have HO:=Ad hok
  have IP:=HP.out hok;clear hok HP;have a0:=IP.a0;have a1:=IP.a1;have N16:=Ad IP.n16;clear IP
  by_cases e2:reg=2
  ·subst e2
   have HE:Hid (Mb true 2 ad=ad∧Om true 2 bl=false∧Oo true 2 bl ad f=128*Av bl):=⟨rfl,rfl,rfl⟩
   have hb:0≤Av bl∧Av bl≤1:=by cases bl <;> decide
   have wb:IntKind.i64.wrap (128*Av bl)=128*Av bl:=by rw [IntKind.wrap_i64]; omega
   go_upto_region 7 with (fail)
   go_region_with (go_at_call 145; refine (Qr _ _).mono ?_; rintro e W' ⟨rfl,rfl⟩)
   all_goals
    go_wp2;refine bodyPost_ret (v:=.tuple #[.agg (pR t c s (ad) pl false (.slice (some ⟨p,0,none⟩) n x) (.slice (some ⟨q,0,none⟩) m y)),.i (128*Av bl)]) (by simp [results,Tryz.results118,go_sem,c1]) rfl ?_;rw [HO.out,HE.out.1,HE.out.2.1,HE.out.2.2];refine ⟨p,x,q,y,rfl,KEY.out _ ?_⟩
    repeat (first | with_reducible exact Wrote.refl _ _ | with_reducible refine Wrote.drew ?_ | with_reducible refine Wrote.setCell ?_ (fun _=>by omega) _)
  ·by_cases e4:reg=4
   ·subst e4
    obtain ⟨k,rfl⟩:∃ k:Nat,ad=k:=⟨ad.toNat,by omega⟩
    have hk:k<n:=by have:=N16.out; omega
    have hki:(k:Int)<(n:Int):=by omega
    have HE:Hid (Mb true 4 (k:Int)=((k:Int)+1)%16∧Om true 4 bl=bl∧Oo true 4 bl (k:Int) f=f k):=⟨rfl,rfl,rfl⟩
    have t16:((k:Int)+1).tmod 16=((k:Int)+1)%16:=Int.tmod_eq_emod_of_nonneg (by omega);obtain ⟨hb,ho,hu,-,hr,-⟩:=H.keep (Ab C3 Aj) (fun _ _ _ x=>x);simp only [Value.slice.injEq,true_and] at hu;obtain ⟨rfl,rfl⟩:=hu;obtain ⟨b,off,rfl,hcell⟩:=hr k hk;clear hr
    have wk:IntKind.i64.wrap (k:Int)=k:=by rw [IntKind.wrap_i64]; omega
    have wk1:IntKind.i64.wrap ((k:Int)+1)=(k:Int)+1:=by rw [IntKind.wrap_i64]; omega
    have LB:=C3.size
    have hbw:b<w.heap.size:=by obtain ⟨a',c',e',-,hr',-⟩:=id H; simp only [Value.slice.injEq,true_and] at e'; obtain ⟨rfl,rfl⟩:=e'; exact hr'.lt (Ep hk)
    have hbz:b≠z:=by omega
    have hbr:b≠w.heap.size+1:=by omega
    go_upto_region 10 with (fail);rename_i K1 g1 K2 g2;clear c0 c1 c2 f1 f2;have y0:(W3.setCell ⟨z,3,none⟩ (.i (((k:Int)+1)%16))).heap[w.heap.size]?=some (.cells (pR t c s (k:Int) pl bl (.slice (some ⟨b,off,none⟩) n ux) (.slice va m vx)) 44 (0,0)):=Bc HX.out.1 (by omega);have y1:(W3.setCell ⟨z,3,none⟩ (.i (((k:Int)+1)%16))).heap[w.heap.size+1]?=some (.cells (pR 0 0 0 0 0 false (.slice none 0 0) (.slice none 0 0)) 44 (0,0)):=Bc HX.out.2.1 (by omega);have y2:(W3.setCell ⟨z,3,none⟩ (.i (((k:Int)+1)%16))).heap[z]?=some (.cells (pR t c s (((k:Int)+1)%16) pl bl (.slice (some ⟨p,0,none⟩) n x) (.slice (some ⟨q,0,none⟩) m y)) 44 (0,0)):=Af HX.out.2.2 _
    have y3:(W3.setCell ⟨z,3,none⟩ (.i (((k:Int)+1)%16))).cell? ⟨b,off+k,none⟩=some (.i (f k)):=(World.cell?_setCell_other _ _ _ _ (fun e=>hbz (congrArg Addr.block e).symm)).trans hcell
    have KE4:Hid (∀ W5,Wrote (fun b _=>b=w.heap.size+1∨b=z) (W3.setCell ⟨z,3,none⟩ (.i (((k:Int)+1)%16))) W5→Row W5 w.heap.size p n x f∧Row W5 w.heap.size q m y g∧p≠q∧Below w.heap.size w W5):=fun W5 WW=>KEY.out W5 ((Wrote.setCell (R:=fun b _=>b=w.heap.size+1∨b=z) (Wrote.refl _ W3) (fun _=>Or.inr rfl) _).trans WW)
    clear hcell;generalize (W3.setCell ⟨z,3,none⟩ (.i (((k:Int)+1)%16)))=W4 at *
    refine A8 [some 29,some 30,some 31,some 32,some 33,some 34,some 35,none,some 5] (by kernel_rfl) (by kernel_rfl) (by kernel_rfl) (by kernel_rfl) (by simp [slotsOf])
     (fun j b _=>j=7∧b=w.heap.size+1)
     (fun i v W=>match i with
      | 0=>v=.agg (pR t c s (((k:Int)+1)%16) pl bl (.slice (some ⟨p,0,none⟩) n x) (.slice (some ⟨q,0,none⟩) m y))
      | 1=>v=(pt w.heap.size 6)
      | 2=>v=.slice (some ⟨b,off,none⟩) n ux
      | 3=>v=(pt w.heap.size 3)
      | 4=>v=.i (k:Int)
      | 5=>v=.pointer (some ⟨b,off+k,none⟩)
      | 6=>v=.i (f k)
      | 7=>W.heap[w.heap.size+1]?=some (.cells (pR t c s (((k:Int)+1)%16) pl bl (.slice (some ⟨p,0,none⟩) n x) (.slice (some ⟨q,0,none⟩) m y)) 44 (0,0))
      | _=>v=.i (f k)) ?_ ?_ ?_
    ·intro i j o v W W' hij _ _ hW h
     match i,hij,h with
     | 7,hij,h=>exact Ah h hW (fun o e=>hij e.1.symm)
     | 0,_,h=>exact h
     | 1,_,h=>exact h
     | 2,_,h=>exact h
     | 3,_,h=>exact h
     | 4,_,h=>exact h
     | 5,_,h=>exact h
     | 6,_,h=>exact h
     | _+8,_,h=>exact h
    ·intro i o a' W K ho F L hw hK
     have r0:=Ag (Ah y0 L (fun o ⟨j,_,_,_,_,_,e⟩=>by omega));have r2:=Ag (Ah y2 L (fun o ⟨j,_,_,_,_,_,e⟩=>by omega));have r3:W.cell? ⟨b,off+k,none⟩=some (.i (f k)):=(L.cell b (off+k) (block_lt_of_cell y3) (fun ⟨j,_,_,_,_,_,e⟩=>hbr e)).trans y3;have t2:=F.get (t:=2) (v:=(pt w.heap.size 0)) (by decide) rfl;have t4:=F.get (t:=4) (v:=(pt (w.heap.size+1) 0)) (by decide) rfl;have t6:=F.get (t:=6) (v:=(pt z 0)) (by decide) rfl
     match i with
     | 0 =>
      cases ho;go_simp;exact Hk hK rfl
     | 1 =>
      cases ho;go_simp;exact Hk hK rfl
     | 2 =>
      cases ho;have q1:tv a' 30=_:=Hr hw 1;go_simp;exact Hk hK rfl
     | 3 =>
      cases ho;go_simp;exact Hk hK rfl
     | 4 =>
      cases ho;have q1:tv a' 32=_:=Hr hw 3;go_simp;exact Hk hK rfl
     | 5 =>
      cases ho;have q1:tv a' 31=_:=Hr hw 2;have q2:tv a' 33=_:=Hr hw 4;go_simp;exact Hk hK rfl
     | 6 =>
      cases ho;have q1:tv a' 34=_:=Hr hw 5;go_simp;exact Hk hK rfl
     | 7 =>
      cases ho;have q1:tv a' 29=_:=Hr hw 0;have r1:=Ah y1 L (fun o ⟨j,_,h1,_,_,h2,e⟩=>h1 h2);have rc:=Ag r1;have rf:=As r1;go_simp;exact hK undef _ ((Ma _ _ _ _ _ _ _ _ _ _).mono (fun b o _ e=>⟨rfl,e⟩)) (Q4 r1 _ _ _ _ _ _ _ _)
     | 8 =>
      cases ho;have q1:tv a' 35=_:=Hr hw 6;go_simp;exact Hk hK rfl
     | _+9=>simp at ho
    ·intro a' W F L hφ
     have e5:a'.tmps[5]?.getD undef=.i (f k):=Hd hφ 8;have eb:=Ag (show W.heap[w.heap.size+1]?=some (.cells (pR t c s (((k:Int)+1)%16) pl bl (.slice (some ⟨p,0,none⟩) n x) (.slice (some ⟨q,0,none⟩) m y)) 44 (0,0)) from Hd hφ 7);have LW:=KE4.out W (L.mono (fun b o _ ⟨j,_,e⟩=>Or.inl e));clear hφ L;refine g2 _ _ ?_;rw [F.same,show slotsOf [some 29,some 30,some 31,some 32,some 33,some 34,some 35,none,some 5]=[29,30,31,32,33,34,35,5] from rfl];simp only [List.foldl_cons,List.foldl_nil];rw [e5];generalize a'.tmps[29]?.getD undef=s29;generalize a'.tmps[30]?.getD undef=s30;generalize a'.tmps[31]?.getD undef=s31;generalize a'.tmps[32]?.getD undef=s32;generalize a'.tmps[33]?.getD undef=s33;generalize a'.tmps[34]?.getD undef=s34;generalize a'.tmps[35]?.getD undef=s35;go_simp;go_wp2
     refine bodyPost_ret (v:=.tuple #[.agg (pR t c s (((k:Int)+1)%16) pl bl (.slice (some ⟨p,0,none⟩) n x) (.slice (some ⟨q,0,none⟩) m y)),.i (f k)]) (by simp [results,Tryz.results118,go_sem,eb]) rfl ?_;rw [HO.out,HE.out.1,HE.out.2.1,HE.out.2.2];exact ⟨p,x,q,y,rfl,LW⟩
   ·have HE:Hid (Mb true reg ad=ad∧Om true reg bl=bl∧Oo true reg bl ad f=0):=⟨if_neg (by simp [e4]),if_neg (by simp [e2]),(if_neg (by simp [e2])).trans (if_neg (by simp [e4]))⟩
    have e2':(reg==2)=false:=by simpa using e2
    have e4':(reg==4)=false:=by simpa using e4
    clear e2 e4;go_wp2
    all_goals
     refine bodyPost_ret (v:=.tuple #[.agg (pR t c s (ad) pl bl (.slice (some ⟨p,0,none⟩) n x) (.slice (some ⟨q,0,none⟩) m y)),.i (0)]) (by simp [results,Tryz.results118,go_sem,c1]) rfl ?_;rw [HO.out,HE.out.1,HE.out.2.1,HE.out.2.2];refine ⟨p,x,q,y,rfl,KEY.out _ ?_⟩
     repeat (first | with_reducible exact Wrote.refl _ _ | with_reducible refine Wrote.drew ?_ | with_reducible refine Wrote.setCell ?_ (fun _=>by omega) _)
end Go.Proofs.YtgcmimcalmjaaaaGreatDoor
