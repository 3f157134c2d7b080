import Derived.Test.YtfjieibndedngaaGreatAB
namespace Go.Proofs.YtfjieibndedngaaGreat
set_option maxHeartbeats 2000000
set_option linter.unusedVariables false
set_option linter.unusedSimpArgs false
open Go.ChangeShapes Go.WideShapes Go.ChangeAt Go.RowKit
theorem Eu {W:World} {b:Nat} {cs:Array Value} {t:TypeId} {fr:Nat × Nat} (h:W.heap[b]?=some (.cells cs t fr)) (o:Nat) (x:Value):(W.setCell ⟨b,o,none⟩ x).heap[b]?=some (.cells (cs.setIfInBounds o x) t fr):=by
 simp [World.setCell,Array.getElem?_modify,h]
theorem E7 {w:World} {b d:Nat} {ob:Obj} (h:w.heap[b]?=some ob) (hd:b≠d) (o:Nat) (x:Value):(w.setCell ⟨d,o,none⟩ x).heap[b]?=some ob:=by
 simp [World.setCell,Array.getElem?_modify,h,Ne.symm hd]
theorem Df {W:World} {d:Nat} {T:TypeId} {u0 u1 u2 u3 u4 u5 u6:Value} (h:W.heap[d]?=some (.cells #[u0,u1,u2,u3,u4,u5,u6] T (0,0))) (v0 v1 v2 v3 v4 v5 v6:Value):(((((((W.setCell ⟨d,0,none⟩ v0).setCell ⟨d,1,none⟩ v1).setCell ⟨d,2,none⟩ v2).setCell ⟨d,3,none⟩ v3).setCell ⟨d,4,none⟩ v4).setCell ⟨d,5,none⟩ v5).setCell ⟨d,6,none⟩ v6).heap[d]?=some (.cells #[v0,v1,v2,v3,v4,v5,v6] T (0,0)):=by
 have h0:=Eu h 0 v0;simp only [List.setIfInBounds_toArray,List.set_cons_zero,List.set_cons_succ] at h0;have h1:=Eu h0 1 v1;simp only [List.setIfInBounds_toArray,List.set_cons_zero,List.set_cons_succ] at h1;have h2:=Eu h1 2 v2;simp only [List.setIfInBounds_toArray,List.set_cons_zero,List.set_cons_succ] at h2;have h3:=Eu h2 3 v3;simp only [List.setIfInBounds_toArray,List.set_cons_zero,List.set_cons_succ] at h3;have h4:=Eu h3 4 v4;simp only [List.setIfInBounds_toArray,List.set_cons_zero,List.set_cons_succ] at h4;have h5:=Eu h4 5 v5;simp only [List.setIfInBounds_toArray,List.set_cons_zero,List.set_cons_succ] at h5;have h6:=Eu h5 6 v6;simp only [List.setIfInBounds_toArray,List.set_cons_zero,List.set_cons_succ] at h6;exact h6
theorem Wc (w:World) (d:Nat) (v0 v1 v2 v3 v4 v5 v6:Value):Below d w (((((((w.setCell ⟨d,0,none⟩ v0).setCell ⟨d,1,none⟩ v1).setCell ⟨d,2,none⟩ v2).setCell ⟨d,3,none⟩ v3).setCell ⟨d,4,none⟩ v4).setCell ⟨d,5,none⟩ v5).setCell ⟨d,6,none⟩ v6) :=
 ((((((((Below.refl d w).setCell (Nat.le_refl _) _).setCell (Nat.le_refl _) _).setCell (Nat.le_refl _) _).setCell (Nat.le_refl _) _).setCell (Nat.le_refl _) _).setCell (Nat.le_refl _) _).setCell (Nat.le_refl _) _)
def Nc (ok:Bool) (P reg v:Int):Int:=if ok=true∧reg=0 then v%256 else P
def Nf (ok:Bool) (L reg v:Int):Int:=if ok=true∧reg=1 then v%32 else L
def Pm (ok:Bool) (S:Bool) (reg v:Int):Bool:=if ok=true∧reg=2 then v%2==1 else S
def Pn (ok:Bool) (Q:Bool) (reg v:Int):Bool:=if ok=true∧reg=2 then Q && (v%2==1) else if ok=true∧reg=3 then false else Q
def Va (ok:Bool) (Q:Bool) (reg:Int):Bool:=if ok=true∧reg=2 then false else Q
def Ut (ok:Bool) (L:Int) (Q:Bool) (reg:Int):Int:=if ok=true∧reg=2 then 128*Bc Q+Bc (decide (0<L)) else 0
theorem Tj {T P C B L:Int} (h:Dl T P C B L=true):Gx T P C B L:=(Il _ _ _ _ _).1 h
theorem Mp (w:World) (T P C B L:Int) (S Q:Bool) (reg v:Int):Calls Tryz.prog 94 #[.agg (aR T P C B L S Q),.i reg,.i v] w
  fun e w'=>e=.returned (.agg (aR T (Nc (Dl T P C B L) P reg v) C B (Nf (Dl T P C B L) L reg v) (Pm (Dl T P C B L) S reg v) (Pn (Dl T P C B L) Q reg v)))∧Below w.heap.size w w':=by
 have k0:((w.alloc (.cells (aR T P C B L S Q) 40)).alloc (.cells (aR 0 0 0 0 0 false false) 40)).heap[w.heap.size]?=some (.cells (aR T P C B L S Q) 40 (0,0)):=A9 (Ak w (aR T P C B L S Q) 40) _
 have k1:((w.alloc (.cells (aR T P C B L S Q) 40)).alloc (.cells (aR 0 0 0 0 0 false false) 40)).heap[w.heap.size+1]?=some (.cells (aR 0 0 0 0 0 false false) 40 (0,0)):=by simpa using Ak (w.alloc (.cells (aR T P C B L S Q) 40)) (aR 0 0 0 0 0 false false) 40
 have C0:Below w.heap.size w ((w.alloc (.cells (aR T P C B L S Q) 40)).alloc (.cells (aR 0 0 0 0 0 false false) 40)):=((Below.refl _ _).alloc (Nat.le_refl _) _).alloc (by simp) _
 have FIN:∀ (W1:World) (x0 x1 x2 x3 x4 x5 x6:Value),Below w.heap.size w W1→Below w.heap.size w (((((((W1.setCell ⟨(w.heap.size+1),0,none⟩ x0).setCell ⟨(w.heap.size+1),1,none⟩ x1).setCell ⟨(w.heap.size+1),2,none⟩ x2).setCell ⟨(w.heap.size+1),3,none⟩ x3).setCell ⟨(w.heap.size+1),4,none⟩ x4).setCell ⟨(w.heap.size+1),5,none⟩ x5).setCell ⟨(w.heap.size+1),6,none⟩ x6):=fun W1 x0 x1 x2 x3 x4 x5 x6 h=>h.trans ((Wc W1 _ _ _ _ _ _ _ _).mono (by omega))
 cases hok:Dl T P C B L
 ·have HV:Hid (Nc false P reg v=P∧Nf false L reg v=L∧Pm false S reg v=S∧Pn false Q reg v=Q):=by
   show _∧_
   simp [Nc,Nf,Pm,Pn]
  rw [HV.out.1,HV.out.2.1,HV.out.2.2.1,HV.out.2.2.2];clear HV
  go_enter Tryz.func94,Tryz.ntmps94
  go_wp2_with fail;generalize (w.alloc (.cells (aR T P C B L S Q) 40)).alloc (.cells (aR 0 0 0 0 0 false false) 40)=W0 at *;refine (Cm _ T P C B L S Q).mono ?_;rintro e W1 ⟨rfl,L1⟩;rw [hok];replace k0:=Ac k0 L1 (Af k0);replace k1:=Ac k1 L1 (Af k1);have C1:=Ai C0 L1;have c0:=Aj k0;have c1:=Aj k1;have f1:=Ax k1;go_wp2;have r1:=Aj (Df k1 (.i T) (.i P) (.i C) (.i B) (.i L) (.bool S) (.bool Q));refine bodyPost_ret (v:=.agg (aR T P C B L S Q)) (by simp [results,Tryz.results94,go_sem,r1]) rfl ?_;exact ⟨rfl,FIN _ _ _ _ _ _ _ _ C1⟩
 ·have m32:(v%256).tmod 32=v%32:=by rw [Int.tmod_eq_emod_of_nonneg (by omega)]; omega
  have m2:(v%256).tmod 2=v%2:=by rw [Int.tmod_eq_emod_of_nonneg (by omega)]; omega
  have hne:w.heap.size+1≠w.heap.size:=by omega
  have HB:=Ad (fun W=>Ba v W)
  by_cases h0:reg=0
  ·have HV:Hid (Nc true P reg v=v%256∧Nf true L reg v=L∧Pm true S reg v=S∧Pn true Q reg v=Q):=by
    show _∧_
    simp [Nc,Nf,Pm,Pn,h0]
   rw [HV.out.1,HV.out.2.1,HV.out.2.2.1,HV.out.2.2.2];clear HV;subst h0
   go_enter Tryz.func94,Tryz.ntmps94
   go_wp2_with fail;generalize (w.alloc (.cells (aR T P C B L S Q) 40)).alloc (.cells (aR 0 0 0 0 0 false false) 40)=W0 at *;refine (Cm _ T P C B L S Q).mono ?_;rintro e W1 ⟨rfl,L1⟩;rw [hok];replace k0:=Ac k0 L1 (Af k0);replace k1:=Ac k1 L1 (Af k1);have C1:=Ai C0 L1;have c0:=Aj k0;have f0:=Ax k0;have c1:=Aj k1;have f1:=Ax k1;go_wp2_with (go_at_call 70; refine (Ab HB _).mono ?_; rintro e w' ⟨rfl,rfl⟩)
   all_goals (
    refine bodyPost_ret (v:=.agg (aR T (v%256) C B (L) (S) (Q))) (by simp [results,Tryz.results94,go_sem,fun (o:Nat) (x x0 x1 x2 x3 x4 x5 x6:Value)=>Aj (Df (E7 k1 hne o x) x0 x1 x2 x3 x4 x5 x6)]) rfl ?_
    exact ⟨rfl,FIN _ _ _ _ _ _ _ _ (C1.setCell (p:=⟨w.heap.size,_,none⟩) (Nat.le_refl _) _)⟩)
  by_cases h1:reg=1
  ·have HV:Hid (Nc true P reg v=P∧Nf true L reg v=v%32∧Pm true S reg v=S∧Pn true Q reg v=Q):=by
    show _∧_
    simp [Nc,Nf,Pm,Pn,h1]
   rw [HV.out.1,HV.out.2.1,HV.out.2.2.1,HV.out.2.2.2];clear HV;subst h1; clear h0
   go_enter Tryz.func94,Tryz.ntmps94
   go_wp2_with fail;generalize (w.alloc (.cells (aR T P C B L S Q) 40)).alloc (.cells (aR 0 0 0 0 0 false false) 40)=W0 at *;refine (Cm _ T P C B L S Q).mono ?_;rintro e W1 ⟨rfl,L1⟩;rw [hok];replace k0:=Ac k0 L1 (Af k0);replace k1:=Ac k1 L1 (Af k1);have C1:=Ai C0 L1;have c0:=Aj k0;have f0:=Ax k0;have c1:=Aj k1;have f1:=Ax k1;go_wp2_with (go_at_call 70; refine (Ab HB _).mono ?_; rintro e w' ⟨rfl,rfl⟩)
   all_goals (
    refine bodyPost_ret (v:=.agg (aR T (P) C B (v%32) (S) (Q))) (by simp [results,Tryz.results94,go_sem,fun (o:Nat) (x x0 x1 x2 x3 x4 x5 x6:Value)=>Aj (Df (E7 k1 hne o x) x0 x1 x2 x3 x4 x5 x6)]) rfl ?_
    exact ⟨rfl,FIN _ _ _ _ _ _ _ _ (C1.setCell (p:=⟨w.heap.size,_,none⟩) (Nat.le_refl _) _)⟩)
  by_cases h2:reg=2
  ·have HV:Hid (Nc true P reg v=P∧Nf true L reg v=L∧Pm true S reg v=(v%2==1)∧Pn true Q reg v=(Q && (v%2==1))):=by
    show _∧_
    simp [Nc,Nf,Pm,Pn,h2]
   rw [HV.out.1,HV.out.2.1,HV.out.2.2.1,HV.out.2.2.2];clear HV;subst h2; clear h0 h1;cases Q
   ·go_enter Tryz.func94,Tryz.ntmps94
    go_wp2_with fail;generalize (w.alloc (.cells (aR T P C B L S false) 40)).alloc (.cells (aR 0 0 0 0 0 false false) 40)=W0 at *;refine (Cm _ T P C B L S false).mono ?_;rintro e W1 ⟨rfl,L1⟩;rw [hok];replace k0:=Ac k0 L1 (Af k0);replace k1:=Ac k1 L1 (Af k1);have C1:=Ai C0 L1;have c0:=Aj k0;have f0:=Ax k0;have c1:=Aj k1;have f1:=Ax k1;go_wp2_with (go_at_call 70; refine (Ab HB _).mono ?_; rintro e w' ⟨rfl,rfl⟩)
    all_goals (
     refine bodyPost_ret (v:=.agg (aR T (P) C B (L) (v%2==1) (false))) (by simp [results,Tryz.results94,go_sem,fun (o o2:Nat) (x y x0 x1 x2 x3 x4 x5 x6:Value)=>Aj (Df (E7 (E7 k1 hne o x) hne o2 y) x0 x1 x2 x3 x4 x5 x6)]) rfl ?_
     exact ⟨rfl,FIN _ _ _ _ _ _ _ _ ((C1.setCell (p:=⟨w.heap.size,_,none⟩) (Nat.le_refl _) _).setCell (p:=⟨w.heap.size,_,none⟩) (Nat.le_refl _) _)⟩)
   ·go_enter Tryz.func94,Tryz.ntmps94
    go_wp2_with fail;generalize (w.alloc (.cells (aR T P C B L S true) 40)).alloc (.cells (aR 0 0 0 0 0 false false) 40)=W0 at *;refine (Cm _ T P C B L S true).mono ?_;rintro e W1 ⟨rfl,L1⟩;rw [hok];replace k0:=Ac k0 L1 (Af k0);replace k1:=Ac k1 L1 (Af k1);have C1:=Ai C0 L1;have c0:=Aj k0;have f0:=Ax k0;have c1:=Aj k1;have f1:=Ax k1;go_wp2_with (go_at_call 70; refine (Ab HB _).mono ?_; rintro e w' ⟨rfl,rfl⟩)
    all_goals (
     refine bodyPost_ret (v:=.agg (aR T (P) C B (L) (v%2==1) (v%2==1))) (by simp [results,Tryz.results94,go_sem,fun (o o2:Nat) (x y x0 x1 x2 x3 x4 x5 x6:Value)=>Aj (Df (E7 (E7 k1 hne o x) hne o2 y) x0 x1 x2 x3 x4 x5 x6)]) rfl ?_
     exact ⟨rfl,FIN _ _ _ _ _ _ _ _ ((C1.setCell (p:=⟨w.heap.size,_,none⟩) (Nat.le_refl _) _).setCell (p:=⟨w.heap.size,_,none⟩) (Nat.le_refl _) _)⟩)
  by_cases h3:reg=3
  ·have HV:Hid (Nc true P reg v=P∧Nf true L reg v=L∧Pm true S reg v=S∧Pn true Q reg v=false):=by
    show _∧_
    simp [Nc,Nf,Pm,Pn,h3]
   rw [HV.out.1,HV.out.2.1,HV.out.2.2.1,HV.out.2.2.2];clear HV;subst h3; clear h0 h1 h2
   go_enter Tryz.func94,Tryz.ntmps94
   go_wp2_with fail;generalize (w.alloc (.cells (aR T P C B L S Q) 40)).alloc (.cells (aR 0 0 0 0 0 false false) 40)=W0 at *;refine (Cm _ T P C B L S Q).mono ?_;rintro e W1 ⟨rfl,L1⟩;rw [hok];replace k0:=Ac k0 L1 (Af k0);replace k1:=Ac k1 L1 (Af k1);have C1:=Ai C0 L1;have c0:=Aj k0;have f0:=Ax k0;have c1:=Aj k1;have f1:=Ax k1;go_wp2_with (go_at_call 70; refine (Ab HB _).mono ?_; rintro e w' ⟨rfl,rfl⟩)
   all_goals (
    refine bodyPost_ret (v:=.agg (aR T (P) C B (L) (S) (false))) (by simp [results,Tryz.results94,go_sem,fun (o:Nat) (x x0 x1 x2 x3 x4 x5 x6:Value)=>Aj (Df (E7 k1 hne o x) x0 x1 x2 x3 x4 x5 x6)]) rfl ?_
    exact ⟨rfl,FIN _ _ _ _ _ _ _ _ (C1.setCell (p:=⟨w.heap.size,_,none⟩) (Nat.le_refl _) _)⟩)
  ·have HV:Hid (Nc true P reg v=P∧Nf true L reg v=L∧Pm true S reg v=S∧Pn true Q reg v=Q):=by
    show _∧_
    simp [Nc,Nf,Pm,Pn,h0,h1,h2,h3]
   rw [HV.out.1,HV.out.2.1,HV.out.2.2.1,HV.out.2.2.2];clear HV
   go_enter Tryz.func94,Tryz.ntmps94
   go_wp2_with fail;generalize (w.alloc (.cells (aR T P C B L S Q) 40)).alloc (.cells (aR 0 0 0 0 0 false false) 40)=W0 at *;refine (Cm _ T P C B L S Q).mono ?_;rintro e W1 ⟨rfl,L1⟩;rw [hok];replace k0:=Ac k0 L1 (Af k0);replace k1:=Ac k1 L1 (Af k1);have C1:=Ai C0 L1;have c0:=Aj k0;have f0:=Ax k0;have c1:=Aj k1;have f1:=Ax k1;go_wp2_with (go_at_call 70; refine (Ab HB _).mono ?_; rintro e w' ⟨rfl,rfl⟩)
   all_goals (
    refine bodyPost_ret (v:=.agg (aR T (P) C B (L) (S) (Q))) (by simp [results,Tryz.results94,go_sem,fun (x0 x1 x2 x3 x4 x5 x6:Value)=>Aj (Df k1 x0 x1 x2 x3 x4 x5 x6)]) rfl ?_
    exact ⟨rfl,FIN _ _ _ _ _ _ _ _ C1⟩)
theorem Oe (w:World) (T P C B L:Int) (S Q:Bool) (reg:Int):Calls Tryz.prog 91 #[.agg (aR T P C B L S Q),.i reg] w
  fun e w'=>e=.returned (.tuple #[.agg (aR T P C B L S (Va (Dl T P C B L) Q reg)),.i (Ut (Dl T P C B L) L Q reg)])∧Below w.heap.size w w':=by
 have k0:((w.alloc (.cells (aR T P C B L S Q) 40)).alloc (.cells (aR 0 0 0 0 0 false false) 40)).heap[w.heap.size]?=some (.cells (aR T P C B L S Q) 40 (0,0)):=A9 (Ak w (aR T P C B L S Q) 40) _
 have k1:((w.alloc (.cells (aR T P C B L S Q) 40)).alloc (.cells (aR 0 0 0 0 0 false false) 40)).heap[w.heap.size+1]?=some (.cells (aR 0 0 0 0 0 false false) 40 (0,0)):=by simpa using Ak (w.alloc (.cells (aR T P C B L S Q) 40)) (aR 0 0 0 0 0 false false) 40
 have C0:Below w.heap.size w ((w.alloc (.cells (aR T P C B L S Q) 40)).alloc (.cells (aR 0 0 0 0 0 false false) 40)):=((Below.refl _ _).alloc (Nat.le_refl _) _).alloc (by simp) _
 have FIN:∀ (W1:World) (x0 x1 x2 x3 x4 x5 x6:Value),Below w.heap.size w W1→Below w.heap.size w (((((((W1.setCell ⟨(w.heap.size+1),0,none⟩ x0).setCell ⟨(w.heap.size+1),1,none⟩ x1).setCell ⟨(w.heap.size+1),2,none⟩ x2).setCell ⟨(w.heap.size+1),3,none⟩ x3).setCell ⟨(w.heap.size+1),4,none⟩ x4).setCell ⟨(w.heap.size+1),5,none⟩ x5).setCell ⟨(w.heap.size+1),6,none⟩ x6):=fun W1 x0 x1 x2 x3 x4 x5 x6 h=>h.trans ((Wc W1 _ _ _ _ _ _ _ _).mono (by omega))
 have hne:w.heap.size+1≠w.heap.size:=by omega
 by_cases hr:Dl T P C B L=true∧reg=2
 ·obtain ⟨hok,rfl⟩:=hr
  have HV:Hid (Va true Q 2=false∧Ut true L Q 2=128*Bc Q+Bc (decide (0<L))):=by
   show _∧_
   simp [Va,Ut]
  rw [hok,HV.out.1,HV.out.2];clear HV
  have hz:0≤Bc Q∧Bc Q≤1:=by cases Q <;> decide
  have hn:0≤Bc (decide (0<L))∧Bc (decide (0<L))≤1:=by cases decide (0<L) <;> decide
  go_enter Tryz.func91,Tryz.ntmps91
  go_wp2_with fail;generalize (w.alloc (.cells (aR T P C B L S Q) 40)).alloc (.cells (aR 0 0 0 0 0 false false) 40)=W0 at *;refine (Cm _ T P C B L S Q).mono ?_;rintro e W1 ⟨rfl,L1⟩;rw [hok];replace k0:=Ac k0 L1 (Af k0);replace k1:=Ac k1 L1 (Af k1);have C1:=Ai C0 L1;have c0:=Aj k0;have f0:=Ax k0;have c1:=Aj k1;have f1:=Ax k1;clear L1 C0;go_wp2_with fail
  go_quiet ((go_at_call 104; exact Calls.quiet_of (Sy (Nh _ _))))
  rename_i nq
  have D1:Below W1.heap.size W1 (W1.drewN nq):=⟨rfl,rfl,rfl,Nat.le_refl _,fun _ _=>rfl⟩
  replace k0:=Ac k0 D1 (Af k0);replace k1:=Ac k1 D1 (Af k1);replace C1:=Ai C1 D1;clear c0 f0 c1 f1 D1;generalize W1.drewN nq=W2 at *;have c0:=Aj k0;have f0:=Ax k0;have c1:=Aj k1;have f1:=Ax k1;go_wp2;refine bodyPost_ret (v:=.tuple #[.agg (aR T P C B L S false),.i (128*Bc Q+Bc (decide (0<L)))]) (by simp [results,Tryz.results91,go_sem,fun (o:Nat) (x x0 x1 x2 x3 x4 x5 x6:Value)=>Aj (Df (E7 k1 hne o x) x0 x1 x2 x3 x4 x5 x6)]) rfl ?_;exact ⟨rfl,FIN _ _ _ _ _ _ _ _ (C1.setCell (p:=⟨w.heap.size,_,none⟩) (Nat.le_refl _) _)⟩
 ·have HV:Hid (Va (Dl T P C B L) Q reg=Q∧Ut (Dl T P C B L) L Q reg=0):=by
   show _∧_
   rw [Va,Ut,if_neg hr,if_neg hr];exact ⟨rfl,rfl⟩
  rw [HV.out.1,HV.out.2];clear HV;generalize hok:Dl T P C B L=ok at *
  have hr':ok=true→(reg==2)=false:=fun e=>beq_eq_false_iff_ne.2 (fun e2=>hr ⟨e,e2⟩)
  clear hr;cases ok
  ·go_enter Tryz.func91,Tryz.ntmps91
   go_wp2_with fail;generalize (w.alloc (.cells (aR T P C B L S Q) 40)).alloc (.cells (aR 0 0 0 0 0 false false) 40)=W0 at *;refine (Cm _ T P C B L S Q).mono ?_;rintro e W1 ⟨rfl,L1⟩;rw [hok];replace k0:=Ac k0 L1 (Af k0);replace k1:=Ac k1 L1 (Af k1);have C1:=Ai C0 L1;have c0:=Aj k0;have c1:=Aj k1;have f1:=Ax k1;go_wp2;refine bodyPost_ret (v:=.tuple #[.agg (aR T P C B L S Q),.i 0]) (by simp [results,Tryz.results91,go_sem,fun (x0 x1 x2 x3 x4 x5 x6:Value)=>Aj (Df k1 x0 x1 x2 x3 x4 x5 x6)]) rfl ?_;exact ⟨rfl,FIN _ _ _ _ _ _ _ _ C1⟩
  ·have hr2:reg≠2:=fun e=>by have:=hr' rfl; simp [e] at this
   go_enter Tryz.func91,Tryz.ntmps91
   go_wp2_with fail;generalize (w.alloc (.cells (aR T P C B L S Q) 40)).alloc (.cells (aR 0 0 0 0 0 false false) 40)=W0 at *;refine (Cm _ T P C B L S Q).mono ?_;rintro e W1 ⟨rfl,L1⟩;rw [hok];replace k0:=Ac k0 L1 (Af k0);replace k1:=Ac k1 L1 (Af k1);have C1:=Ai C0 L1;have c0:=Aj k0;have c1:=Aj k1;have f1:=Ax k1;go_wp2;refine bodyPost_ret (v:=.tuple #[.agg (aR T P C B L S Q),.i 0]) (by simp [results,Tryz.results91,go_sem,fun (x0 x1 x2 x3 x4 x5 x6:Value)=>Aj (Df k1 x0 x1 x2 x3 x4 x5 x6)]) rfl ?_;exact ⟨rfl,FIN _ _ _ _ _ _ _ _ C1⟩
end Go.Proofs.YtfjieibndedngaaGreat
