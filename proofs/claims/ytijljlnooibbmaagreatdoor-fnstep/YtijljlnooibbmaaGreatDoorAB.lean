import Derived.Test.YtijljlnooibbmaaGreatDoorU0
namespace Go.Proofs.YtijljlnooibbmaaGreatDoor
set_option maxHeartbeats 4000000
open Go.Proofs.Tryz
set_option linter.unusedVariables false
set_option linter.unusedSimpArgs false
open Go.ChangeShapes Go.WideShapes Go.ChangeAt Go.RowKit
theorem Jab {T P C B L:Int} (h:Hz T P C B L) (hT:T=20000) (S Q:Bool):Qz T P C B L S Q=.tuple #[.agg (aR T P C B L S Q),.i 0,.bool false]:=by
  unfold Qz;rw [if_pos ((Jt _ _ _ _ _).2 h),if_pos hT]
theorem Uu {T P C B L:Int} (h:Hz T P C B L) (hT:T≠20000) (S Q:Bool):Qz T P C B L S Q=.tuple #[.agg (aR (T+1) P (Qb P C) (Ni C B L) (Qc T L) S (Ut T L S Q)),.i (tvA T C B L),.bool (Eb T)]:=by
  unfold Qz;rw [if_pos ((Jt _ _ _ _ _).2 h),if_neg hT]
theorem Uv (w:World) (T P C B L:Int) (S Q:Bool) (h:Hz T P C B L):Calls prog 96 #[.agg (aR T P C B L S Q)] w
    fun e w'=>e=.returned (Qz T P C B L S Q)/\Below w.heap.size w w':=by
  have L0:∀ (o o2:Obj),Below w.heap.size w ((w.alloc o).alloc o2):=fun o o2=>((Below.refl _ _).alloc (Nat.le_refl _) _).alloc (by simp) _
  by_cases hT:T=20000
  . have HT:=Ac (Jab h hT S Q)
    subst hT;rw [HT.out];clear HT h
    go_enter func96,ntmps96
    go_wp2;refine bodyPost_ret (v:=.tuple #[.agg (aR 20000 P C B L S Q),.i 0,.bool false]) (by simp [results,results96,go_sem]) rfl ?_;exact ⟨rfl,L0 _ _⟩
  . have HT:=Ac (Uu h hT S Q)
    obtain ⟨v,hv⟩:∃ v,Hid (Qz T P C B L S Q=v):=⟨_,rfl⟩
    rw [hv.out] at HT ⊢;clear hv;have t0:=h.t0;have t1:=h.t1;have c0:=h.c0;have c1:=h.c1;have b0:=h.b0;have b1:=h.b1;have l0:=h.l0;have l1:=h.l1;have m32:T.tmod 32=T%32:=Int.tmod_eq_emod_of_nonneg t0;have m16:T.tmod 16=T%16:=Int.tmod_eq_emod_of_nonneg t0;clear h
    by_cases hC:C=0 <;> by_cases hL:0<L <;> by_cases hb:T%32=0 <;> by_cases ht:T%16=15
    all_goals first
      | (exfalso; omega)
      | (go_enter func96,ntmps96
         go_wp2
         all_goals (refine bodyPost_ret (v:=.tuple #[.agg (aR (T+1) P (Qb P C) (Ni C B L) (Qc T L) S (Ut T L S Q)),.i (tvA T C B L),.bool (Eb T)]) (by first | (have hL':0<L:=(by omega); simp [results,results96,go_sem,Qb,Ni,Qc,Ut,tvA,Eb, *]) | (have hL':¬ 0<L:=(by omega); simp [results,results96,go_sem,Qb,Ni,Qc,Ut,tvA,Eb, *])) rfl ?_
                    exact ⟨by rw [HT.out],L0 _ _⟩))
set_option maxHeartbeats 2000000
theorem Bv {W:World} {b:Nat} {cs:Array Value} {t:TypeId} {fr:Nat × Nat} (h:W.heap[b]?=some (.cells cs t fr)) (o:Nat) (x:Value):(W.setCell ⟨b,o,none⟩ x).heap[b]?=some (.cells (cs.setIfInBounds o x) t fr):=by
 simp [World.setCell,Array.getElem?_modify,h]
theorem Gw {w:World} {b d:Nat} {ob:Obj} (h:w.heap[b]?=some ob) (hd:b≠d) (o:Nat) (x:Value):(w.setCell ⟨d,o,none⟩ x).heap[b]?=some ob:=by
 simp [World.setCell,Array.getElem?_modify,h,Ne.symm hd]
theorem Cy {W:World} {d:Nat} {T:TypeId} {u0 u1 u2 u3 u4 u5 u6:Value} (h:W.heap[d]?=some (.cells #[u0,u1,u2,u3,u4,u5,u6] T (0,0))) (v0 v1 v2 v3 v4 v5 v6:Value):(((((((W.setCell ⟨d,0,none⟩ v0).setCell ⟨d,1,none⟩ v1).setCell ⟨d,2,none⟩ v2).setCell ⟨d,3,none⟩ v3).setCell ⟨d,4,none⟩ v4).setCell ⟨d,5,none⟩ v5).setCell ⟨d,6,none⟩ v6).heap[d]?=some (.cells #[v0,v1,v2,v3,v4,v5,v6] T (0,0)):=by
 have h0:=Bv h 0 v0;simp only [Sa,Sc,Sb] at h0;have h1:=Bv h0 1 v1;simp only [Sa,Sc,Sb] at h1;have h2:=Bv h1 2 v2;simp only [Sa,Sc,Sb] at h2;have h3:=Bv h2 3 v3;simp only [Sa,Sc,Sb] at h3;have h4:=Bv h3 4 v4;simp only [Sa,Sc,Sb] at h4;have h5:=Bv h4 5 v5;simp only [Sa,Sc,Sb] at h5;have h6:=Bv h5 6 v6;simp only [Sa,Sc,Sb] at h6;exact h6
theorem Xf (w:World) (d:Nat) (v0 v1 v2 v3 v4 v5 v6:Value):Below d w (((((((w.setCell ⟨d,0,none⟩ v0).setCell ⟨d,1,none⟩ v1).setCell ⟨d,2,none⟩ v2).setCell ⟨d,3,none⟩ v3).setCell ⟨d,4,none⟩ v4).setCell ⟨d,5,none⟩ v5).setCell ⟨d,6,none⟩ v6) :=
 ((((((((Below.refl d w).setCell (Nat.le_refl _) _).setCell (Nat.le_refl _) _).setCell (Nat.le_refl _) _).setCell (Nat.le_refl _) _).setCell (Nat.le_refl _) _).setCell (Nat.le_refl _) _).setCell (Nat.le_refl _) _)
def J6 (ok:Bool) (P reg v:Int):Int:=if ok=true/\reg=0 then v%256 else P
def J7 (ok:Bool) (L reg v:Int):Int:=if ok=true/\reg=1 then v%32 else L
def Lb (ok:Bool) (S:Bool) (reg v:Int):Bool:=if ok=true/\reg=2 then v%2==1 else S
def Lc (ok:Bool) (Q:Bool) (reg v:Int):Bool:=if ok=true/\reg=2 then Q && (v%2==1) else if ok=true/\reg=3 then false else Q
def rqA (ok:Bool) (Q:Bool) (reg:Int):Bool:=if ok=true/\reg=2 then false else Q
def Y0 (ok:Bool) (L:Int) (Q:Bool) (reg:Int):Int:=if ok=true/\reg=2 then 128*Av Q+Av (decide (0<L)) else 0
theorem Jcr {T P C B L:Int} (h:Ck T P C B L=true):Hz T P C B L:=(Jt _ _ _ _ _).1 h
theorem Jcs {T P C B L:Int} (h:Hz T P C B L):Ck T P C B L=true:=(Jt _ _ _ _ _).2 h
theorem Sq (w:World) (T P C B L:Int) (S Q:Bool) (reg v:Int):Calls prog 135 #[.agg (aR T P C B L S Q),.i reg,.i v] w
  fun e w'=>e=.returned (.agg (aR T (J6 (Ck T P C B L) P reg v) C B (J7 (Ck T P C B L) L reg v) (Lb (Ck T P C B L) S reg v) (Lc (Ck T P C B L) Q reg v)))/\Below w.heap.size w w':=by
 have k0:((w.alloc (.cells (aR T P C B L S Q) 35)).alloc (.cells (aR 0 0 0 0 0 false false) 35)).heap[w.heap.size]?=some (.cells (aR T P C B L S Q) 35 (0,0)):=Az (Ak w (aR T P C B L S Q) 35) _
 have k1:((w.alloc (.cells (aR T P C B L S Q) 35)).alloc (.cells (aR 0 0 0 0 0 false false) 35)).heap[w.heap.size+1]?=some (.cells (aR 0 0 0 0 0 false false) 35 (0,0)):=by simpa using Ak (w.alloc (.cells (aR T P C B L S Q) 35)) (aR 0 0 0 0 0 false false) 35
 have C0:Below w.heap.size w ((w.alloc (.cells (aR T P C B L S Q) 35)).alloc (.cells (aR 0 0 0 0 0 false false) 35)):=((Below.refl _ _).alloc (Nat.le_refl _) _).alloc (by simp) _
 have FIN:∀ (W1:World) (x0 x1 x2 x3 x4 x5 x6:Value),Below w.heap.size w W1->Below w.heap.size w (((((((W1.sc (w.heap.size+1) 0 x0).sc (w.heap.size+1) 1 x1).sc (w.heap.size+1) 2 x2).sc (w.heap.size+1) 3 x3).sc (w.heap.size+1) 4 x4).sc (w.heap.size+1) 5 x5).sc (w.heap.size+1) 6 x6):=fun W1 x0 x1 x2 x3 x4 x5 x6 h=>h.trans ((Xf W1 _ _ _ _ _ _ _ _).mono (by omega))
 cases hok:Ck T P C B L
 .have HV:Hid (J6 false P reg v=P/\J7 false L reg v=L/\Lb false S reg v=S/\Lc false Q reg v=Q):=by
   show _/\_
   simp [J6,J7,Lb,Lc]
  rw [HV.out.1,HV.out.2.1,HV.out.2.2.1,HV.out.2.2.2];clear HV
  go_enter func135,ntmps135
  go_wp2_with fail;generalize (w.alloc (.cells (aR T P C B L S Q) 35)).alloc (.cells (aR 0 0 0 0 0 false false) 35)=W0 at *;refine (Dn _ T P C B L S Q).mono ?_;rintro e W1 ⟨rfl,L1⟩;rw [hok];replace k0:=Ab k0 L1 (Ad k0);replace k1:=Ab k1 L1 (Ad k1);have C1:=Ah C0 L1;have c0:=Af k0;have c1:=Af k1;have f1:=Au k1;go_wp2;have r1:=Af (Cy k1 (.i T) (.i P) (.i C) (.i B) (.i L) (.bool S) (.bool Q));refine bodyPost_ret (v:=.agg (aR T P C B L S Q)) (by simp [results,results135,go_sem,r1]) rfl ?_;exact ⟨rfl,FIN _ _ _ _ _ _ _ _ C1⟩
 .have m32:(v%256).tmod 32=v%32:=by rw [Int.tmod_eq_emod_of_nonneg (by omega)]; omega
  have m2:(v%256).tmod 2=v%2:=by rw [Int.tmod_eq_emod_of_nonneg (by omega)]; omega
  have hne:w.heap.size+1≠w.heap.size:=by omega
  have HB:=Ac (fun W=>Bo v W)
  by_cases h0:reg=0
  .have HV:Hid (J6 true P reg v=v%256/\J7 true L reg v=L/\Lb true S reg v=S/\Lc true Q reg v=Q):=by
    show _/\_
    simp [J6,J7,Lb,Lc,h0]
   rw [HV.out.1,HV.out.2.1,HV.out.2.2.1,HV.out.2.2.2];clear HV;subst h0
   go_enter func135,ntmps135
   go_wp2_with fail;generalize (w.alloc (.cells (aR T P C B L S Q) 35)).alloc (.cells (aR 0 0 0 0 0 false false) 35)=W0 at *;refine (Dn _ T P C B L S Q).mono ?_;rintro e W1 ⟨rfl,L1⟩;rw [hok];replace k0:=Ab k0 L1 (Ad k0);replace k1:=Ab k1 L1 (Ad k1);have C1:=Ah C0 L1;have c0:=Af k0;have f0:=Au k0;have c1:=Af k1;have f1:=Au k1;go_wp2_with (go_at_call 128; refine (Ae HB _).mono ?_; rintro e w' ⟨rfl,rfl⟩)
   all_goals (
    refine bodyPost_ret (v:=.agg (aR T (v%256) C B (L) (S) (Q))) (by simp [results,results135,go_sem,fun (o:Nat) (x x0 x1 x2 x3 x4 x5 x6:Value)=>Af (Cy (Gw k1 hne o x) x0 x1 x2 x3 x4 x5 x6)]) rfl ?_
    exact ⟨rfl,FIN _ _ _ _ _ _ _ _ (C1.setCell (p:=⟨w.heap.size,_,none⟩) (Nat.le_refl _) _)⟩)
  by_cases h1:reg=1
  .have HV:Hid (J6 true P reg v=P/\J7 true L reg v=v%32/\Lb true S reg v=S/\Lc true Q reg v=Q):=by
    show _/\_
    simp [J6,J7,Lb,Lc,h1]
   rw [HV.out.1,HV.out.2.1,HV.out.2.2.1,HV.out.2.2.2];clear HV;subst h1; clear h0
   go_enter func135,ntmps135
   go_wp2_with fail;generalize (w.alloc (.cells (aR T P C B L S Q) 35)).alloc (.cells (aR 0 0 0 0 0 false false) 35)=W0 at *;refine (Dn _ T P C B L S Q).mono ?_;rintro e W1 ⟨rfl,L1⟩;rw [hok];replace k0:=Ab k0 L1 (Ad k0);replace k1:=Ab k1 L1 (Ad k1);have C1:=Ah C0 L1;have c0:=Af k0;have f0:=Au k0;have c1:=Af k1;have f1:=Au k1;go_wp2_with (go_at_call 128; refine (Ae HB _).mono ?_; rintro e w' ⟨rfl,rfl⟩)
   all_goals (
    refine bodyPost_ret (v:=.agg (aR T (P) C B (v%32) (S) (Q))) (by simp [results,results135,go_sem,fun (o:Nat) (x x0 x1 x2 x3 x4 x5 x6:Value)=>Af (Cy (Gw k1 hne o x) x0 x1 x2 x3 x4 x5 x6)]) rfl ?_
    exact ⟨rfl,FIN _ _ _ _ _ _ _ _ (C1.setCell (p:=⟨w.heap.size,_,none⟩) (Nat.le_refl _) _)⟩)
  by_cases h2:reg=2
  .have HV:Hid (J6 true P reg v=P/\J7 true L reg v=L/\Lb true S reg v=(v%2==1)/\Lc true Q reg v=(Q && (v%2==1))):=by
    show _/\_
    simp [J6,J7,Lb,Lc,h2]
   rw [HV.out.1,HV.out.2.1,HV.out.2.2.1,HV.out.2.2.2];clear HV;subst h2; clear h0 h1;cases Q
   .go_enter func135,ntmps135
    go_wp2_with fail;generalize (w.alloc (.cells (aR T P C B L S false) 35)).alloc (.cells (aR 0 0 0 0 0 false false) 35)=W0 at *;refine (Dn _ T P C B L S false).mono ?_;rintro e W1 ⟨rfl,L1⟩;rw [hok];replace k0:=Ab k0 L1 (Ad k0);replace k1:=Ab k1 L1 (Ad k1);have C1:=Ah C0 L1;have c0:=Af k0;have f0:=Au k0;have c1:=Af k1;have f1:=Au k1;go_wp2_with (go_at_call 128; refine (Ae HB _).mono ?_; rintro e w' ⟨rfl,rfl⟩)
    all_goals (
     refine bodyPost_ret (v:=.agg (aR T (P) C B (L) (v%2==1) (false))) (by simp [results,results135,go_sem,fun (o o2:Nat) (x y x0 x1 x2 x3 x4 x5 x6:Value)=>Af (Cy (Gw (Gw k1 hne o x) hne o2 y) x0 x1 x2 x3 x4 x5 x6)]) rfl ?_
     exact ⟨rfl,FIN _ _ _ _ _ _ _ _ ((C1.setCell (p:=⟨w.heap.size,_,none⟩) (Nat.le_refl _) _).setCell (p:=⟨w.heap.size,_,none⟩) (Nat.le_refl _) _)⟩)
   .go_enter func135,ntmps135
    go_wp2_with fail;generalize (w.alloc (.cells (aR T P C B L S true) 35)).alloc (.cells (aR 0 0 0 0 0 false false) 35)=W0 at *;refine (Dn _ T P C B L S true).mono ?_;rintro e W1 ⟨rfl,L1⟩;rw [hok];replace k0:=Ab k0 L1 (Ad k0);replace k1:=Ab k1 L1 (Ad k1);have C1:=Ah C0 L1;have c0:=Af k0;have f0:=Au k0;have c1:=Af k1;have f1:=Au k1;go_wp2_with (go_at_call 128; refine (Ae HB _).mono ?_; rintro e w' ⟨rfl,rfl⟩)
    all_goals (
     refine bodyPost_ret (v:=.agg (aR T (P) C B (L) (v%2==1) (v%2==1))) (by simp [results,results135,go_sem,fun (o o2:Nat) (x y x0 x1 x2 x3 x4 x5 x6:Value)=>Af (Cy (Gw (Gw k1 hne o x) hne o2 y) x0 x1 x2 x3 x4 x5 x6)]) rfl ?_
     exact ⟨rfl,FIN _ _ _ _ _ _ _ _ ((C1.setCell (p:=⟨w.heap.size,_,none⟩) (Nat.le_refl _) _).setCell (p:=⟨w.heap.size,_,none⟩) (Nat.le_refl _) _)⟩)
  by_cases h3:reg=3
  .have HV:Hid (J6 true P reg v=P/\J7 true L reg v=L/\Lb true S reg v=S/\Lc true Q reg v=false):=by
    show _/\_
    simp [J6,J7,Lb,Lc,h3]
   rw [HV.out.1,HV.out.2.1,HV.out.2.2.1,HV.out.2.2.2];clear HV;subst h3; clear h0 h1 h2
   go_enter func135,ntmps135
   go_wp2_with fail;generalize (w.alloc (.cells (aR T P C B L S Q) 35)).alloc (.cells (aR 0 0 0 0 0 false false) 35)=W0 at *;refine (Dn _ T P C B L S Q).mono ?_;rintro e W1 ⟨rfl,L1⟩;rw [hok];replace k0:=Ab k0 L1 (Ad k0);replace k1:=Ab k1 L1 (Ad k1);have C1:=Ah C0 L1;have c0:=Af k0;have f0:=Au k0;have c1:=Af k1;have f1:=Au k1;go_wp2_with (go_at_call 128; refine (Ae HB _).mono ?_; rintro e w' ⟨rfl,rfl⟩)
   all_goals (
    refine bodyPost_ret (v:=.agg (aR T (P) C B (L) (S) (false))) (by simp [results,results135,go_sem,fun (o:Nat) (x x0 x1 x2 x3 x4 x5 x6:Value)=>Af (Cy (Gw k1 hne o x) x0 x1 x2 x3 x4 x5 x6)]) rfl ?_
    exact ⟨rfl,FIN _ _ _ _ _ _ _ _ (C1.setCell (p:=⟨w.heap.size,_,none⟩) (Nat.le_refl _) _)⟩)
  .have HV:Hid (J6 true P reg v=P/\J7 true L reg v=L/\Lb true S reg v=S/\Lc true Q reg v=Q):=by
    show _/\_
    simp [J6,J7,Lb,Lc,h0,h1,h2,h3]
   rw [HV.out.1,HV.out.2.1,HV.out.2.2.1,HV.out.2.2.2];clear HV
   go_enter func135,ntmps135
   go_wp2_with fail;generalize (w.alloc (.cells (aR T P C B L S Q) 35)).alloc (.cells (aR 0 0 0 0 0 false false) 35)=W0 at *;refine (Dn _ T P C B L S Q).mono ?_;rintro e W1 ⟨rfl,L1⟩;rw [hok];replace k0:=Ab k0 L1 (Ad k0);replace k1:=Ab k1 L1 (Ad k1);have C1:=Ah C0 L1;have c0:=Af k0;have f0:=Au k0;have c1:=Af k1;have f1:=Au k1;go_wp2_with (go_at_call 128; refine (Ae HB _).mono ?_; rintro e w' ⟨rfl,rfl⟩)
   all_goals (
    refine bodyPost_ret (v:=.agg (aR T (P) C B (L) (S) (Q))) (by simp [results,results135,go_sem,fun (x0 x1 x2 x3 x4 x5 x6:Value)=>Af (Cy k1 x0 x1 x2 x3 x4 x5 x6)]) rfl ?_
    exact ⟨rfl,FIN _ _ _ _ _ _ _ _ C1⟩)
theorem Uw (w:World) (T P C B L:Int) (S Q:Bool) (reg:Int):Calls prog 131 #[.agg (aR T P C B L S Q),.i reg] w
  fun e w'=>e=.returned (.tuple #[.agg (aR T P C B L S (rqA (Ck T P C B L) Q reg)),.i (Y0 (Ck T P C B L) L Q reg)])/\Below w.heap.size w w':=by
 have k0:((w.alloc (.cells (aR T P C B L S Q) 35)).alloc (.cells (aR 0 0 0 0 0 false false) 35)).heap[w.heap.size]?=some (.cells (aR T P C B L S Q) 35 (0,0)):=Az (Ak w (aR T P C B L S Q) 35) _
 have k1:((w.alloc (.cells (aR T P C B L S Q) 35)).alloc (.cells (aR 0 0 0 0 0 false false) 35)).heap[w.heap.size+1]?=some (.cells (aR 0 0 0 0 0 false false) 35 (0,0)):=by simpa using Ak (w.alloc (.cells (aR T P C B L S Q) 35)) (aR 0 0 0 0 0 false false) 35
 have C0:Below w.heap.size w ((w.alloc (.cells (aR T P C B L S Q) 35)).alloc (.cells (aR 0 0 0 0 0 false false) 35)):=((Below.refl _ _).alloc (Nat.le_refl _) _).alloc (by simp) _
 have FIN:∀ (W1:World) (x0 x1 x2 x3 x4 x5 x6:Value),Below w.heap.size w W1->Below w.heap.size w (((((((W1.sc (w.heap.size+1) 0 x0).sc (w.heap.size+1) 1 x1).sc (w.heap.size+1) 2 x2).sc (w.heap.size+1) 3 x3).sc (w.heap.size+1) 4 x4).sc (w.heap.size+1) 5 x5).sc (w.heap.size+1) 6 x6):=fun W1 x0 x1 x2 x3 x4 x5 x6 h=>h.trans ((Xf W1 _ _ _ _ _ _ _ _).mono (by omega))
 have hne:w.heap.size+1≠w.heap.size:=by omega
 by_cases hr:Ck T P C B L=true/\reg=2
 .obtain ⟨hok,rfl⟩:=hr
  have HV:Hid (rqA true Q 2=false/\Y0 true L Q 2=128*Av Q+Av (decide (0<L))):=by
   show _/\_
   simp [rqA,Y0]
  rw [hok,HV.out.1,HV.out.2];clear HV
  have hz:0<=Av Q/\Av Q<=1:=by cases Q <;> decide
  have hn:0<=Av (decide (0<L))/\Av (decide (0<L))<=1:=by cases decide (0<L) <;> decide
  go_enter func131,ntmps131
  go_wp2_with fail;generalize (w.alloc (.cells (aR T P C B L S Q) 35)).alloc (.cells (aR 0 0 0 0 0 false false) 35)=W0 at *;refine (Dn _ T P C B L S Q).mono ?_;rintro e W1 ⟨rfl,L1⟩;rw [hok];replace k0:=Ab k0 L1 (Ad k0);replace k1:=Ab k1 L1 (Ad k1);have C1:=Ah C0 L1;have c0:=Af k0;have f0:=Au k0;have c1:=Af k1;have f1:=Au k1;clear L1 C0;go_wp2_with fail
  go_quiet ((go_at_call 166; exact Calls.quiet_of (Jb4 (Tr _ _))))
  rename_i nq
  have D1:Below W1.heap.size W1 (W1.drewN nq):=⟨rfl,rfl,rfl,Nat.le_refl _,fun _ _=>rfl⟩
  replace k0:=Ab k0 D1 (Ad k0);replace k1:=Ab k1 D1 (Ad k1);replace C1:=Ah C1 D1;clear c0 f0 c1 f1 D1;generalize W1.drewN nq=W2 at *;have c0:=Af k0;have f0:=Au k0;have c1:=Af k1;have f1:=Au k1;go_wp2;refine bodyPost_ret (v:=.tuple #[.agg (aR T P C B L S false),.i (128*Av Q+Av (decide (0<L)))]) (by simp [results,results131,go_sem,fun (o:Nat) (x x0 x1 x2 x3 x4 x5 x6:Value)=>Af (Cy (Gw k1 hne o x) x0 x1 x2 x3 x4 x5 x6)]) rfl ?_;exact ⟨rfl,FIN _ _ _ _ _ _ _ _ (C1.setCell (p:=⟨w.heap.size,_,none⟩) (Nat.le_refl _) _)⟩
 .have HV:Hid (rqA (Ck T P C B L) Q reg=Q/\Y0 (Ck T P C B L) L Q reg=0):=by
   show _/\_
   rw [rqA,Y0,if_neg hr,if_neg hr];exact ⟨rfl,rfl⟩
  rw [HV.out.1,HV.out.2];clear HV;generalize hok:Ck T P C B L=ok at *
  have hr':ok=true->(reg==2)=false:=fun e=>beq_eq_false_iff_ne.2 (fun e2=>hr ⟨e,e2⟩)
  clear hr;cases ok
  .go_enter func131,ntmps131
   go_wp2_with fail;generalize (w.alloc (.cells (aR T P C B L S Q) 35)).alloc (.cells (aR 0 0 0 0 0 false false) 35)=W0 at *;refine (Dn _ T P C B L S Q).mono ?_;rintro e W1 ⟨rfl,L1⟩;rw [hok];replace k0:=Ab k0 L1 (Ad k0);replace k1:=Ab k1 L1 (Ad k1);have C1:=Ah C0 L1;have c0:=Af k0;have c1:=Af k1;have f1:=Au k1;go_wp2;refine bodyPost_ret (v:=.tuple #[.agg (aR T P C B L S Q),.i 0]) (by simp [results,results131,go_sem,fun (x0 x1 x2 x3 x4 x5 x6:Value)=>Af (Cy k1 x0 x1 x2 x3 x4 x5 x6)]) rfl ?_;exact ⟨rfl,FIN _ _ _ _ _ _ _ _ C1⟩
  .have hr2:reg≠2:=fun e=>by have:=hr' rfl; simp [e] at this
   go_enter func131,ntmps131
   go_wp2_with fail;generalize (w.alloc (.cells (aR T P C B L S Q) 35)).alloc (.cells (aR 0 0 0 0 0 false false) 35)=W0 at *;refine (Dn _ T P C B L S Q).mono ?_;rintro e W1 ⟨rfl,L1⟩;rw [hok];replace k0:=Ab k0 L1 (Ad k0);replace k1:=Ab k1 L1 (Ad k1);have C1:=Ah C0 L1;have c0:=Af k0;have c1:=Af k1;have f1:=Au k1;go_wp2;refine bodyPost_ret (v:=.tuple #[.agg (aR T P C B L S Q),.i 0]) (by simp [results,results131,go_sem,fun (x0 x1 x2 x3 x4 x5 x6:Value)=>Af (Cy k1 x0 x1 x2 x3 x4 x5 x6)]) rfl ?_;exact ⟨rfl,FIN _ _ _ _ _ _ _ _ C1⟩
end Go.Proofs.YtijljlnooibbmaaGreatDoor
