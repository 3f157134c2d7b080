import Derived.Test.YtgcmimcalmjaaaaGreatDoorI8d
namespace Go.Proofs.YtgcmimcalmjaaaaGreatDoor
set_option maxHeartbeats 2000000
set_option linter.unusedVariables false
set_option linter.unusedSimpArgs false
open Go.ChangeShapes Go.WideShapes Go.ChangeAt Go.RowKit
theorem Bt {W:World} {b:Nat} {cs:Array Value} {t:TypeId} {fr:Nat × Nat} (h:W.heap[b]?=some (.cells cs t fr)) (o:Nat) (x:Value):(W.setCell ⟨b,o,none⟩ x).heap[b]?=some (.cells (cs.setIfInBounds o x) t fr):=by
 simp [World.setCell,Array.getElem?_modify,h]
theorem Gb {w:World} {b d:Nat} {ob:Obj} (h:w.heap[b]?=some ob) (hd:b≠d) (o:Nat) (x:Value):(w.setCell ⟨d,o,none⟩ x).heap[b]?=some ob:=by
 simp [World.setCell,Array.getElem?_modify,h,Ne.symm hd]
theorem Cr {W:World} {d:Nat} {T:TypeId} {u0 u1 u2 u3 u4 u5 u6:Value} (h:W.heap[d]?=some (.cells #[u0,u1,u2,u3,u4,u5,u6] T (0,0))) (v0 v1 v2 v3 v4 v5 v6:Value):(((((((W.setCell ⟨d,0,none⟩ v0).setCell ⟨d,1,none⟩ v1).setCell ⟨d,2,none⟩ v2).setCell ⟨d,3,none⟩ v3).setCell ⟨d,4,none⟩ v4).setCell ⟨d,5,none⟩ v5).setCell ⟨d,6,none⟩ v6).heap[d]?=some (.cells #[v0,v1,v2,v3,v4,v5,v6] T (0,0)):=by
 have h0:=Bt h 0 v0;simp only [List.setIfInBounds_toArray,List.set_cons_zero,List.set_cons_succ] at h0;have h1:=Bt h0 1 v1;simp only [List.setIfInBounds_toArray,List.set_cons_zero,List.set_cons_succ] at h1;have h2:=Bt h1 2 v2;simp only [List.setIfInBounds_toArray,List.set_cons_zero,List.set_cons_succ] at h2;have h3:=Bt h2 3 v3;simp only [List.setIfInBounds_toArray,List.set_cons_zero,List.set_cons_succ] at h3;have h4:=Bt h3 4 v4;simp only [List.setIfInBounds_toArray,List.set_cons_zero,List.set_cons_succ] at h4;have h5:=Bt h4 5 v5;simp only [List.setIfInBounds_toArray,List.set_cons_zero,List.set_cons_succ] at h5;have h6:=Bt h5 6 v6;simp only [List.setIfInBounds_toArray,List.set_cons_zero,List.set_cons_succ] at h6;exact h6
theorem Ti (w:World) (d:Nat) (v0 v1 v2 v3 v4 v5 v6:Value):Below d w (((((((w.setCell ⟨d,0,none⟩ v0).setCell ⟨d,1,none⟩ v1).setCell ⟨d,2,none⟩ v2).setCell ⟨d,3,none⟩ v3).setCell ⟨d,4,none⟩ v4).setCell ⟨d,5,none⟩ v5).setCell ⟨d,6,none⟩ v6) :=
 ((((((((Below.refl d w).setCell (Nat.le_refl _) _).setCell (Nat.le_refl _) _).setCell (Nat.le_refl _) _).setCell (Nat.le_refl _) _).setCell (Nat.le_refl _) _).setCell (Nat.le_refl _) _).setCell (Nat.le_refl _) _)
def I8 (ok:Bool) (P reg v:Int):Int:=if ok=true∧reg=0 then v%256 else P
def I9 (ok:Bool) (L reg v:Int):Int:=if ok=true∧reg=1 then v%32 else L
def Ju (ok:Bool) (S:Bool) (reg v:Int):Bool:=if ok=true∧reg=2 then v%2==1 else S
def Jv (ok:Bool) (Q:Bool) (reg v:Int):Bool:=if ok=true∧reg=2 then Q && (v%2==1) else if ok=true∧reg=3 then false else Q
def Wr (ok:Bool) (Q:Bool) (reg:Int):Bool:=if ok=true∧reg=2 then false else Q
def Tj (ok:Bool) (L:Int) (Q:Bool) (reg:Int):Int:=if ok=true∧reg=2 then 128*Av Q+Av (decide (0<L)) else 0
theorem Y6 {T P C B L:Int} (h:Ci T P C B L=true):If T P C B L:=(Kk _ _ _ _ _).1 h
theorem P7 (w:World) (T P C B L:Int) (S Q:Bool) (reg v:Int):Calls Tryz.prog 123 #[.agg (aR T P C B L S Q),.i reg,.i v] w
  fun e w'=>e=.returned (.agg (aR T (I8 (Ci T P C B L) P reg v) C B (I9 (Ci T P C B L) L reg v) (Ju (Ci T P C B L) S reg v) (Jv (Ci T P C B L) Q reg v)))∧Below w.heap.size w w':=by
 have k0:((w.alloc (.cells (aR T P C B L S Q) 45)).alloc (.cells (aR 0 0 0 0 0 false false) 45)).heap[w.heap.size]?=some (.cells (aR T P C B L S Q) 45 (0,0)):=Ax (Al w (aR T P C B L S Q) 45) _
 have k1:((w.alloc (.cells (aR T P C B L S Q) 45)).alloc (.cells (aR 0 0 0 0 0 false false) 45)).heap[w.heap.size+1]?=some (.cells (aR 0 0 0 0 0 false false) 45 (0,0)):=by simpa using Al (w.alloc (.cells (aR T P C B L S Q) 45)) (aR 0 0 0 0 0 false false) 45
 have C0:Below w.heap.size w ((w.alloc (.cells (aR T P C B L S Q) 45)).alloc (.cells (aR 0 0 0 0 0 false false) 45)):=((Below.refl _ _).alloc (Nat.le_refl _) _).alloc (by simp) _
 have FIN:∀ (W1:World) (x0 x1 x2 x3 x4 x5 x6:Value),Below w.heap.size w W1→Below w.heap.size w (((((((W1.setCell ⟨(w.heap.size+1),0,none⟩ x0).setCell ⟨(w.heap.size+1),1,none⟩ x1).setCell ⟨(w.heap.size+1),2,none⟩ x2).setCell ⟨(w.heap.size+1),3,none⟩ x3).setCell ⟨(w.heap.size+1),4,none⟩ x4).setCell ⟨(w.heap.size+1),5,none⟩ x5).setCell ⟨(w.heap.size+1),6,none⟩ x6):=fun W1 x0 x1 x2 x3 x4 x5 x6 h=>h.trans ((Ti W1 _ _ _ _ _ _ _ _).mono (by omega))
 cases hok:Ci T P C B L
 ·have HV:Hid (I8 false P reg v=P∧I9 false L reg v=L∧Ju false S reg v=S∧Jv false Q reg v=Q):=by
   show _∧_
   simp [I8,I9,Ju,Jv]
  rw [HV.out.1,HV.out.2.1,HV.out.2.2.1,HV.out.2.2.2];clear HV
  go_enter Tryz.func123,Tryz.ntmps123
  go_wp2_with fail;generalize (w.alloc (.cells (aR T P C B L S Q) 45)).alloc (.cells (aR 0 0 0 0 0 false false) 45)=W0 at *;refine (Dd _ T P C B L S Q).mono ?_;rintro e W1 ⟨rfl,L1⟩;rw [hok];replace k0:=Aa k0 L1 (Ac k0);replace k1:=Aa k1 L1 (Ac k1);have C1:=Ae C0 L1;have c0:=Ag k0;have c1:=Ag k1;have f1:=As k1;go_wp2;have r1:=Ag (Cr k1 (.i T) (.i P) (.i C) (.i B) (.i L) (.bool S) (.bool Q));refine bodyPost_ret (v:=.agg (aR T P C B L S Q)) (by simp [results,Tryz.results123,go_sem,r1]) rfl ?_;exact ⟨rfl,FIN _ _ _ _ _ _ _ _ C1⟩
 ·have m32:(v%256).tmod 32=v%32:=by rw [Int.tmod_eq_emod_of_nonneg (by omega)]; omega
  have m2:(v%256).tmod 2=v%2:=by rw [Int.tmod_eq_emod_of_nonneg (by omega)]; omega
  have hne:w.heap.size+1≠w.heap.size:=by omega
  have HB:=Ad (fun W=>Bs v W)
  by_cases h0:reg=0
  ·have HV:Hid (I8 true P reg v=v%256∧I9 true L reg v=L∧Ju true S reg v=S∧Jv true Q reg v=Q):=by
    show _∧_
    simp [I8,I9,Ju,Jv,h0]
   rw [HV.out.1,HV.out.2.1,HV.out.2.2.1,HV.out.2.2.2];clear HV;subst h0
   go_enter Tryz.func123,Tryz.ntmps123
   go_wp2_with fail;generalize (w.alloc (.cells (aR T P C B L S Q) 45)).alloc (.cells (aR 0 0 0 0 0 false false) 45)=W0 at *;refine (Dd _ T P C B L S Q).mono ?_;rintro e W1 ⟨rfl,L1⟩;rw [hok];replace k0:=Aa k0 L1 (Ac k0);replace k1:=Aa k1 L1 (Ac k1);have C1:=Ae C0 L1;have c0:=Ag k0;have f0:=As k0;have c1:=Ag k1;have f1:=As k1;go_wp2_with (go_at_call 116; refine (An HB _).mono ?_; rintro e w' ⟨rfl,rfl⟩)
   all_goals (
    refine bodyPost_ret (v:=.agg (aR T (v%256) C B (L) (S) (Q))) (by simp [results,Tryz.results123,go_sem,fun (o:Nat) (x x0 x1 x2 x3 x4 x5 x6:Value)=>Ag (Cr (Gb k1 hne o x) x0 x1 x2 x3 x4 x5 x6)]) rfl ?_
    exact ⟨rfl,FIN _ _ _ _ _ _ _ _ (C1.setCell (p:=⟨w.heap.size,_,none⟩) (Nat.le_refl _) _)⟩)
  by_cases h1:reg=1
  ·have HV:Hid (I8 true P reg v=P∧I9 true L reg v=v%32∧Ju true S reg v=S∧Jv true Q reg v=Q):=by
    show _∧_
    simp [I8,I9,Ju,Jv,h1]
   rw [HV.out.1,HV.out.2.1,HV.out.2.2.1,HV.out.2.2.2];clear HV;subst h1; clear h0
   go_enter Tryz.func123,Tryz.ntmps123
   go_wp2_with fail;generalize (w.alloc (.cells (aR T P C B L S Q) 45)).alloc (.cells (aR 0 0 0 0 0 false false) 45)=W0 at *;refine (Dd _ T P C B L S Q).mono ?_;rintro e W1 ⟨rfl,L1⟩;rw [hok];replace k0:=Aa k0 L1 (Ac k0);replace k1:=Aa k1 L1 (Ac k1);have C1:=Ae C0 L1;have c0:=Ag k0;have f0:=As k0;have c1:=Ag k1;have f1:=As k1;go_wp2_with (go_at_call 116; refine (An HB _).mono ?_; rintro e w' ⟨rfl,rfl⟩)
   all_goals (
    refine bodyPost_ret (v:=.agg (aR T (P) C B (v%32) (S) (Q))) (by simp [results,Tryz.results123,go_sem,fun (o:Nat) (x x0 x1 x2 x3 x4 x5 x6:Value)=>Ag (Cr (Gb k1 hne o x) x0 x1 x2 x3 x4 x5 x6)]) rfl ?_
    exact ⟨rfl,FIN _ _ _ _ _ _ _ _ (C1.setCell (p:=⟨w.heap.size,_,none⟩) (Nat.le_refl _) _)⟩)
  by_cases h2:reg=2
  ·have HV:Hid (I8 true P reg v=P∧I9 true L reg v=L∧Ju true S reg v=(v%2==1)∧Jv true Q reg v=(Q && (v%2==1))):=by
    show _∧_
    simp [I8,I9,Ju,Jv,h2]
   rw [HV.out.1,HV.out.2.1,HV.out.2.2.1,HV.out.2.2.2];clear HV;subst h2; clear h0 h1;cases Q
   ·go_enter Tryz.func123,Tryz.ntmps123
    go_wp2_with fail;generalize (w.alloc (.cells (aR T P C B L S false) 45)).alloc (.cells (aR 0 0 0 0 0 false false) 45)=W0 at *;refine (Dd _ T P C B L S false).mono ?_;rintro e W1 ⟨rfl,L1⟩;rw [hok];replace k0:=Aa k0 L1 (Ac k0);replace k1:=Aa k1 L1 (Ac k1);have C1:=Ae C0 L1;have c0:=Ag k0;have f0:=As k0;have c1:=Ag k1;have f1:=As k1;go_wp2_with (go_at_call 116; refine (An HB _).mono ?_; rintro e w' ⟨rfl,rfl⟩)
    all_goals (
     refine bodyPost_ret (v:=.agg (aR T (P) C B (L) (v%2==1) (false))) (by simp [results,Tryz.results123,go_sem,fun (o o2:Nat) (x y x0 x1 x2 x3 x4 x5 x6:Value)=>Ag (Cr (Gb (Gb k1 hne o x) hne o2 y) x0 x1 x2 x3 x4 x5 x6)]) rfl ?_
     exact ⟨rfl,FIN _ _ _ _ _ _ _ _ ((C1.setCell (p:=⟨w.heap.size,_,none⟩) (Nat.le_refl _) _).setCell (p:=⟨w.heap.size,_,none⟩) (Nat.le_refl _) _)⟩)
   ·go_enter Tryz.func123,Tryz.ntmps123
    go_wp2_with fail;generalize (w.alloc (.cells (aR T P C B L S true) 45)).alloc (.cells (aR 0 0 0 0 0 false false) 45)=W0 at *;refine (Dd _ T P C B L S true).mono ?_;rintro e W1 ⟨rfl,L1⟩;rw [hok];replace k0:=Aa k0 L1 (Ac k0);replace k1:=Aa k1 L1 (Ac k1);have C1:=Ae C0 L1;have c0:=Ag k0;have f0:=As k0;have c1:=Ag k1;have f1:=As k1;go_wp2_with (go_at_call 116; refine (An HB _).mono ?_; rintro e w' ⟨rfl,rfl⟩)
    all_goals (
     refine bodyPost_ret (v:=.agg (aR T (P) C B (L) (v%2==1) (v%2==1))) (by simp [results,Tryz.results123,go_sem,fun (o o2:Nat) (x y x0 x1 x2 x3 x4 x5 x6:Value)=>Ag (Cr (Gb (Gb k1 hne o x) hne o2 y) x0 x1 x2 x3 x4 x5 x6)]) rfl ?_
     exact ⟨rfl,FIN _ _ _ _ _ _ _ _ ((C1.setCell (p:=⟨w.heap.size,_,none⟩) (Nat.le_refl _) _).setCell (p:=⟨w.heap.size,_,none⟩) (Nat.le_refl _) _)⟩)
  by_cases h3:reg=3
  ·have HV:Hid (I8 true P reg v=P∧I9 true L reg v=L∧Ju true S reg v=S∧Jv true Q reg v=false):=by
    show _∧_
    simp [I8,I9,Ju,Jv,h3]
   rw [HV.out.1,HV.out.2.1,HV.out.2.2.1,HV.out.2.2.2];clear HV;subst h3; clear h0 h1 h2
   go_enter Tryz.func123,Tryz.ntmps123
   go_wp2_with fail;generalize (w.alloc (.cells (aR T P C B L S Q) 45)).alloc (.cells (aR 0 0 0 0 0 false false) 45)=W0 at *;refine (Dd _ T P C B L S Q).mono ?_;rintro e W1 ⟨rfl,L1⟩;rw [hok];replace k0:=Aa k0 L1 (Ac k0);replace k1:=Aa k1 L1 (Ac k1);have C1:=Ae C0 L1;have c0:=Ag k0;have f0:=As k0;have c1:=Ag k1;have f1:=As k1;go_wp2_with (go_at_call 116; refine (An HB _).mono ?_; rintro e w' ⟨rfl,rfl⟩)
   all_goals (
    refine bodyPost_ret (v:=.agg (aR T (P) C B (L) (S) (false))) (by simp [results,Tryz.results123,go_sem,fun (o:Nat) (x x0 x1 x2 x3 x4 x5 x6:Value)=>Ag (Cr (Gb k1 hne o x) x0 x1 x2 x3 x4 x5 x6)]) rfl ?_
    exact ⟨rfl,FIN _ _ _ _ _ _ _ _ (C1.setCell (p:=⟨w.heap.size,_,none⟩) (Nat.le_refl _) _)⟩)
  ·have HV:Hid (I8 true P reg v=P∧I9 true L reg v=L∧Ju true S reg v=S∧Jv true Q reg v=Q):=by
    show _∧_
    simp [I8,I9,Ju,Jv,h0,h1,h2,h3]
   rw [HV.out.1,HV.out.2.1,HV.out.2.2.1,HV.out.2.2.2];clear HV
   go_enter Tryz.func123,Tryz.ntmps123
   go_wp2_with fail;generalize (w.alloc (.cells (aR T P C B L S Q) 45)).alloc (.cells (aR 0 0 0 0 0 false false) 45)=W0 at *;refine (Dd _ T P C B L S Q).mono ?_;rintro e W1 ⟨rfl,L1⟩;rw [hok];replace k0:=Aa k0 L1 (Ac k0);replace k1:=Aa k1 L1 (Ac k1);have C1:=Ae C0 L1;have c0:=Ag k0;have f0:=As k0;have c1:=Ag k1;have f1:=As k1;go_wp2_with (go_at_call 116; refine (An HB _).mono ?_; rintro e w' ⟨rfl,rfl⟩)
   all_goals (
    refine bodyPost_ret (v:=.agg (aR T (P) C B (L) (S) (Q))) (by simp [results,Tryz.results123,go_sem,fun (x0 x1 x2 x3 x4 x5 x6:Value)=>Ag (Cr k1 x0 x1 x2 x3 x4 x5 x6)]) rfl ?_
    exact ⟨rfl,FIN _ _ _ _ _ _ _ _ C1⟩)
theorem Rc (w:World) (T P C B L:Int) (S Q:Bool) (reg:Int):Calls Tryz.prog 119 #[.agg (aR T P C B L S Q),.i reg] w
  fun e w'=>e=.returned (.tuple #[.agg (aR T P C B L S (Wr (Ci T P C B L) Q reg)),.i (Tj (Ci T P C B L) L Q reg)])∧Below w.heap.size w w':=by
 have k0:((w.alloc (.cells (aR T P C B L S Q) 45)).alloc (.cells (aR 0 0 0 0 0 false false) 45)).heap[w.heap.size]?=some (.cells (aR T P C B L S Q) 45 (0,0)):=Ax (Al w (aR T P C B L S Q) 45) _
 have k1:((w.alloc (.cells (aR T P C B L S Q) 45)).alloc (.cells (aR 0 0 0 0 0 false false) 45)).heap[w.heap.size+1]?=some (.cells (aR 0 0 0 0 0 false false) 45 (0,0)):=by simpa using Al (w.alloc (.cells (aR T P C B L S Q) 45)) (aR 0 0 0 0 0 false false) 45
 have C0:Below w.heap.size w ((w.alloc (.cells (aR T P C B L S Q) 45)).alloc (.cells (aR 0 0 0 0 0 false false) 45)):=((Below.refl _ _).alloc (Nat.le_refl _) _).alloc (by simp) _
 have FIN:∀ (W1:World) (x0 x1 x2 x3 x4 x5 x6:Value),Below w.heap.size w W1→Below w.heap.size w (((((((W1.setCell ⟨(w.heap.size+1),0,none⟩ x0).setCell ⟨(w.heap.size+1),1,none⟩ x1).setCell ⟨(w.heap.size+1),2,none⟩ x2).setCell ⟨(w.heap.size+1),3,none⟩ x3).setCell ⟨(w.heap.size+1),4,none⟩ x4).setCell ⟨(w.heap.size+1),5,none⟩ x5).setCell ⟨(w.heap.size+1),6,none⟩ x6):=fun W1 x0 x1 x2 x3 x4 x5 x6 h=>h.trans ((Ti W1 _ _ _ _ _ _ _ _).mono (by omega))
 have hne:w.heap.size+1≠w.heap.size:=by omega
 by_cases hr:Ci T P C B L=true∧reg=2
 ·obtain ⟨hok,rfl⟩:=hr
  have HV:Hid (Wr true Q 2=false∧Tj true L Q 2=128*Av Q+Av (decide (0<L))):=by
   show _∧_
   simp [Wr,Tj]
  rw [hok,HV.out.1,HV.out.2];clear HV
  have hz:0≤Av Q∧Av Q≤1:=by cases Q <;> decide
  have hn:0≤Av (decide (0<L))∧Av (decide (0<L))≤1:=by cases decide (0<L) <;> decide
  go_enter Tryz.func119,Tryz.ntmps119
  go_wp2_with fail;generalize (w.alloc (.cells (aR T P C B L S Q) 45)).alloc (.cells (aR 0 0 0 0 0 false false) 45)=W0 at *;refine (Dd _ T P C B L S Q).mono ?_;rintro e W1 ⟨rfl,L1⟩;rw [hok];replace k0:=Aa k0 L1 (Ac k0);replace k1:=Aa k1 L1 (Ac k1);have C1:=Ae C0 L1;have c0:=Ag k0;have f0:=As k0;have c1:=Ag k1;have f1:=As k1;clear L1 C0;go_wp2_with fail
  go_quiet ((go_at_call 145; exact Calls.quiet_of (Yk (Qr _ _))))
  rename_i nq
  have D1:Below W1.heap.size W1 (W1.drewN nq):=⟨rfl,rfl,rfl,Nat.le_refl _,fun _ _=>rfl⟩
  replace k0:=Aa k0 D1 (Ac k0);replace k1:=Aa k1 D1 (Ac k1);replace C1:=Ae C1 D1;clear c0 f0 c1 f1 D1;generalize W1.drewN nq=W2 at *;have c0:=Ag k0;have f0:=As k0;have c1:=Ag k1;have f1:=As k1;go_wp2;refine bodyPost_ret (v:=.tuple #[.agg (aR T P C B L S false),.i (128*Av Q+Av (decide (0<L)))]) (by simp [results,Tryz.results119,go_sem,fun (o:Nat) (x x0 x1 x2 x3 x4 x5 x6:Value)=>Ag (Cr (Gb k1 hne o x) x0 x1 x2 x3 x4 x5 x6)]) rfl ?_;exact ⟨rfl,FIN _ _ _ _ _ _ _ _ (C1.setCell (p:=⟨w.heap.size,_,none⟩) (Nat.le_refl _) _)⟩
 ·have HV:Hid (Wr (Ci T P C B L) Q reg=Q∧Tj (Ci T P C B L) L Q reg=0):=by
   show _∧_
   rw [Wr,Tj,if_neg hr,if_neg hr];exact ⟨rfl,rfl⟩
  rw [HV.out.1,HV.out.2];clear HV;generalize hok:Ci T P C B L=ok at *
  have hr':ok=true→(reg==2)=false:=fun e=>beq_eq_false_iff_ne.2 (fun e2=>hr ⟨e,e2⟩)
  clear hr;cases ok
  ·go_enter Tryz.func119,Tryz.ntmps119
   go_wp2_with fail;generalize (w.alloc (.cells (aR T P C B L S Q) 45)).alloc (.cells (aR 0 0 0 0 0 false false) 45)=W0 at *;refine (Dd _ T P C B L S Q).mono ?_;rintro e W1 ⟨rfl,L1⟩;rw [hok];replace k0:=Aa k0 L1 (Ac k0);replace k1:=Aa k1 L1 (Ac k1);have C1:=Ae C0 L1;have c0:=Ag k0;have c1:=Ag k1;have f1:=As k1;go_wp2;refine bodyPost_ret (v:=.tuple #[.agg (aR T P C B L S Q),.i 0]) (by simp [results,Tryz.results119,go_sem,fun (x0 x1 x2 x3 x4 x5 x6:Value)=>Ag (Cr k1 x0 x1 x2 x3 x4 x5 x6)]) rfl ?_;exact ⟨rfl,FIN _ _ _ _ _ _ _ _ C1⟩
  ·have hr2:reg≠2:=fun e=>by have:=hr' rfl; simp [e] at this
   go_enter Tryz.func119,Tryz.ntmps119
   go_wp2_with fail;generalize (w.alloc (.cells (aR T P C B L S Q) 45)).alloc (.cells (aR 0 0 0 0 0 false false) 45)=W0 at *;refine (Dd _ T P C B L S Q).mono ?_;rintro e W1 ⟨rfl,L1⟩;rw [hok];replace k0:=Aa k0 L1 (Ac k0);replace k1:=Aa k1 L1 (Ac k1);have C1:=Ae C0 L1;have c0:=Ag k0;have c1:=Ag k1;have f1:=As k1;go_wp2;refine bodyPost_ret (v:=.tuple #[.agg (aR T P C B L S Q),.i 0]) (by simp [results,Tryz.results119,go_sem,fun (x0 x1 x2 x3 x4 x5 x6:Value)=>Ag (Cr k1 x0 x1 x2 x3 x4 x5 x6)]) rfl ?_;exact ⟨rfl,FIN _ _ _ _ _ _ _ _ C1⟩
set_option maxHeartbeats 4000000
open Go.Sort
theorem P8 (x m:Int) (hm:0<m):(x.tmod m<0→x.tmod m+m=x%m)∧(¬ x.tmod m<0→x.tmod m=x%m)∧-m<x.tmod m∧x.tmod m<m:=by
 have h1:=Int.emod_nonneg x (show m≠0 by omega);have h2:=Int.emod_lt_of_pos x hm
 rcases Int.le_total 0 x with h | h
 ·have e:=Int.tmod_eq_emod_of_nonneg (b:=m) h
  rw [e];exact ⟨fun _=>by omega,fun _=>rfl,by omega,by omega⟩
 ·have e:x.tmod m=-((-x)%m):=by
   have:=Int.neg_tmod (-x) m;rw [Int.neg_neg] at this;rw [this,Int.tmod_eq_emod_of_nonneg (by omega)]
  have k1:=Int.emod_nonneg (-x) (show m≠0 by omega);have k2:=Int.emod_lt_of_pos (-x) hm;have d1:=Int.emod_add_mul_ediv x m;have d2:=Int.emod_add_mul_ediv (-x) m;rw [e]
  have key:(-x)%m=0∧x%m=0∨(-x)%m=m-x%m:=by
   by_cases z:x%m=0
   ·left
    refine ⟨?_,z⟩;have:m ∣ x:=Int.dvd_of_emod_eq_zero z;exact Int.emod_eq_zero_of_dvd (Int.dvd_neg.2 this)
   ·right
    rw [Int.neg_emod]
    have hn:¬ m ∣ x:=fun hd=>z (Int.emod_eq_zero_of_dvd hd)
    rw [if_neg hn]
    omega
  rcases key with ⟨k,z⟩ | k
  ·exact ⟨fun h=>by omega,fun _=>by omega,by omega,by omega⟩
  ·by_cases z:(-x)%m=0
   ·exact ⟨fun h=>by omega,fun _=>by omega,by omega,by omega⟩
   ·exact ⟨fun h=>by omega,fun h=>by omega,by omega,by omega⟩
theorem Y7 (x:Int):(x==x%32)=Cs x 0 31:=by
 by_cases h:0≤x∧x≤31
 ·rw [Bn h]; exact beq_iff_eq.2 (by omega)
 ·rw [Cu h]; exact beq_eq_false_iff_ne.2 (by omega)
theorem Jd5 {W:World} {b:Nat} {cs:Array Value} {T:TypeId} (h:W.heap[b]?=some (.cells cs T (0,0))) (d:Nat) (os:Array Obj) (j:Nat):(grow (redrawn W d) os).cell? ⟨b,j,none⟩=cs[j]?:=Ag (((below_regrown W d os).block _ (Ac h)).trans h) j
theorem Jcj (x:Int) (w:World):Calls Tryz.prog 100 #[.i x,.i 32] w fun e w'=>e=.returned (.i (x%32))∧w'=w:=by
 obtain ⟨h1,h2,h3,h4⟩:=P8 x 32 (by omega);have HQ:=Ad (And.intro h1 h2);clear h1 h2
 by_cases hn:x.tmod 32<0
 ·go_enter Tryz.func100,Tryz.ntmps100
  go_wp2;go_ret;exact ⟨Az ((An HQ).1 hn),rfl⟩
 ·go_enter Tryz.func100,Tryz.ntmps100
  go_wp2;go_ret;exact ⟨Az ((An HQ).2 (by omega)),rfl⟩
theorem Ws (w:World) (T P C B L:Int) (S Q:Bool):Calls Tryz.prog 68 #[.agg (aR T P C B L S Q)] w
  fun e w'=>e=.returned (.bool (Ci T P C B L))∧Below w.heap.size w w':=by
 have L0:Below w.heap.size w (w.alloc (.cells (aR T P C B L S Q) 45)):=(Below.refl _ _).alloc (Nat.le_refl _) _;have k0:=Jd5 (Al w (aR T P C B L S Q) 45)
 obtain ⟨b0,h0⟩:∃ b,b=decide (0≤T):=⟨_,rfl⟩
 obtain ⟨b1,h1⟩:∃ b,b=decide (T≤20000):=⟨_,rfl⟩
 obtain ⟨b2,h2⟩:∃ b,b=Cs P 0 255:=⟨_,rfl⟩
 have C2:∀ W:World,Calls Tryz.prog 69 #[.i P] W fun e w'=>e=.returned (.bool b2)∧Below W.heap.size W w':=fun W=>(isByte P W).mono (fun e w' ⟨he,hw⟩=>⟨by rw [he,h2],by rw [hw]; exact Below.refl _ _⟩)
 obtain ⟨b3,h3⟩:∃ b,b=Cs C 0 255:=⟨_,rfl⟩
 have C3:∀ W:World,Calls Tryz.prog 69 #[.i C] W fun e w'=>e=.returned (.bool b3)∧Below W.heap.size W w':=fun W=>(isByte C W).mono (fun e w' ⟨he,hw⟩=>⟨by rw [he,h3],by rw [hw]; exact Below.refl _ _⟩)
 obtain ⟨b4,h4⟩:∃ b,b=(B==0):=⟨_,rfl⟩
 obtain ⟨b5,h5⟩:∃ b,b=(B==1):=⟨_,rfl⟩
 obtain ⟨b6,h6⟩:∃ b,b=Cs L 0 31:=⟨_,rfl⟩
 have C4:∀ W:World,Calls Tryz.prog 100 #[.i L,.i 32] W fun e w'=>e=.returned (.i (L%32))∧Below W.heap.size W w':=fun W=>(Jcj L W).mono (fun e w' ⟨he,hw⟩=>⟨he,by rw [hw]; exact Below.refl _ _⟩)
 have q6:(L==L%32)=b6:=by rw [h6,Y7]
 generalize L%32=l32 at *
 obtain ⟨W0,hW0⟩:∃ W0,W0=w.alloc (.cells (aR T P C B L S Q) 45):=⟨_,rfl⟩
 rw [← hW0] at L0 k0
 have OK:Ci T P C B L=(b0 && (b1 && (b2 && (b3 && ((b4 || b5) && b6))))):=by
  unfold Ci
  have e1:Cs T 0 20000=(decide (0≤T) && decide (T≤20000)):=by
   by_cases h:0≤T∧T≤20000
   ·rw [Bn h,decide_eq_true h.1,decide_eq_true h.2]; rfl
   ·rw [Cu h]
    by_cases h':0≤T
    ·rw [decide_eq_true h',decide_eq_false (fun x=>h ⟨h',x⟩)]; rfl
    ·rw [decide_eq_false h']; rfl
  have e2:Cs B 0 1=((B==0) || (B==1)):=by
   by_cases h:B=0
   ·rw [h]; rfl
   ·by_cases h':B=1
    ·rw [h']; rfl
    ·rw [Cu (by omega),beq_eq_false_iff_ne.2 h,beq_eq_false_iff_ne.2 h']; rfl
  rw [e1,e2,h0,h1,h2,h3,h4,h5,h6]
  cases decide (0≤T) <;> cases decide (T≤20000) <;> cases Cs P 0 255 <;> cases Cs C 0 255 <;> cases (B==0) <;> cases (B==1) <;> cases Cs L 0 31 <;> rfl
 have HOK:=Ad OK;have g0:decide (0≤T)=b0:=h0.symm;have g1:decide (T≤20000)=b1:=h1.symm;have g4:(B==0)=b4:=h4.symm;have g5:(B==1)=b5:=h5.symm;clear h0 h1 h2 h3 h4 h5 h6 OK;cases b0
 ·skip
  have HE:Hid (Ci T P C B L=false):=by rw [HOK.out]; rfl
  go_enter Tryz.func68,Tryz.ntmps68
  go_upto_region 1 with (fail);rw [← hW0];clear hW0;refine wp_region_quiet_below (by kernel_rfl) (by kernel_rfl) ?_
  repeat (go_big_quiet_step (first | (go_at_call 69; first | with_reducible exact Calls.regrown_of (C2 _) | with_reducible exact Calls.regrown_of (C3 _)) | (go_at_call 100; exact Calls.regrown_of (C4 _))))
  refine wpQuiet_nil ?_;intro _ hw';obtain ⟨⟨dq,osq⟩,hw''⟩:=hw';subst hw'';have LQ:=L0.trans ((below_regrown W0 dq osq).mono L0.size);generalize Go.Sort.grow (redrawn W0 dq) osq=w4 at *;go_wp2;go_ret;exact ⟨Ap HE.out.symm,LQ⟩
 cases b1
 ·skip
  have HE:Hid (Ci T P C B L=false):=by rw [HOK.out]; rfl
  go_enter Tryz.func68,Tryz.ntmps68
  go_upto_region 1 with (fail);rw [← hW0];clear hW0;refine wp_region_quiet_below (by kernel_rfl) (by kernel_rfl) ?_
  repeat (go_big_quiet_step (first | (go_at_call 69; first | with_reducible exact Calls.regrown_of (C2 _) | with_reducible exact Calls.regrown_of (C3 _)) | (go_at_call 100; exact Calls.regrown_of (C4 _))))
  refine wpQuiet_nil ?_;intro _ hw';obtain ⟨⟨dq,osq⟩,hw''⟩:=hw';subst hw'';have LQ:=L0.trans ((below_regrown W0 dq osq).mono L0.size);generalize Go.Sort.grow (redrawn W0 dq) osq=w4 at *;go_wp2;go_ret;exact ⟨Ap HE.out.symm,LQ⟩
 cases b2
 ·skip
  have HE:Hid (Ci T P C B L=false):=by rw [HOK.out]; rfl
  go_enter Tryz.func68,Tryz.ntmps68
  go_upto_region 1 with (fail);rw [← hW0];clear hW0;refine wp_region_quiet_below (by kernel_rfl) (by kernel_rfl) ?_
  repeat (go_big_quiet_step (first | (go_at_call 69; first | with_reducible exact Calls.regrown_of (C2 _) | with_reducible exact Calls.regrown_of (C3 _)) | (go_at_call 100; exact Calls.regrown_of (C4 _))))
  refine wpQuiet_nil ?_;intro _ hw';obtain ⟨⟨dq,osq⟩,hw''⟩:=hw';subst hw'';have LQ:=L0.trans ((below_regrown W0 dq osq).mono L0.size);generalize Go.Sort.grow (redrawn W0 dq) osq=w4 at *;go_wp2;go_ret;exact ⟨Ap HE.out.symm,LQ⟩
 cases b3
 ·skip
  have HE:Hid (Ci T P C B L=false):=by rw [HOK.out]; rfl
  go_enter Tryz.func68,Tryz.ntmps68
  go_upto_region 1 with (fail);rw [← hW0];clear hW0;refine wp_region_quiet_below (by kernel_rfl) (by kernel_rfl) ?_
  repeat (go_big_quiet_step (first | (go_at_call 69; first | with_reducible exact Calls.regrown_of (C2 _) | with_reducible exact Calls.regrown_of (C3 _)) | (go_at_call 100; exact Calls.regrown_of (C4 _))))
  refine wpQuiet_nil ?_;intro _ hw';obtain ⟨⟨dq,osq⟩,hw''⟩:=hw';subst hw'';have LQ:=L0.trans ((below_regrown W0 dq osq).mono L0.size);generalize Go.Sort.grow (redrawn W0 dq) osq=w4 at *;go_wp2;go_ret;exact ⟨Ap HE.out.symm,LQ⟩
 cases b6
 ·cases b4
  ·cases b5
   ·skip
    have HE:Hid (Ci T P C B L=false):=by rw [HOK.out]; rfl
    go_enter Tryz.func68,Tryz.ntmps68
    go_upto_region 1 with (fail);rw [← hW0];clear hW0;refine wp_region_quiet_below (by kernel_rfl) (by kernel_rfl) ?_
    repeat (go_big_quiet_step (first | (go_at_call 69; first | with_reducible exact Calls.regrown_of (C2 _) | with_reducible exact Calls.regrown_of (C3 _)) | (go_at_call 100; exact Calls.regrown_of (C4 _))))
    refine wpQuiet_nil ?_;intro _ hw';obtain ⟨⟨dq,osq⟩,hw''⟩:=hw';subst hw'';have LQ:=L0.trans ((below_regrown W0 dq osq).mono L0.size);generalize Go.Sort.grow (redrawn W0 dq) osq=w4 at *;go_wp2;go_ret;exact ⟨Ap HE.out.symm,LQ⟩
   ·skip
    have HE:Hid (Ci T P C B L=false):=by rw [HOK.out]; rfl
    go_enter Tryz.func68,Tryz.ntmps68
    go_upto_region 1 with (fail);rw [← hW0];clear hW0;refine wp_region_quiet_below (by kernel_rfl) (by kernel_rfl) ?_
    repeat (go_big_quiet_step (first | (go_at_call 69; first | with_reducible exact Calls.regrown_of (C2 _) | with_reducible exact Calls.regrown_of (C3 _)) | (go_at_call 100; exact Calls.regrown_of (C4 _))))
    refine wpQuiet_nil ?_;intro _ hw';obtain ⟨⟨dq,osq⟩,hw''⟩:=hw';subst hw'';have LQ:=L0.trans ((below_regrown W0 dq osq).mono L0.size);generalize Go.Sort.grow (redrawn W0 dq) osq=w4 at *;go_wp2;go_ret;exact ⟨Ap HE.out.symm,LQ⟩
  ·skip
   have HE:Hid (Ci T P C B L=false):=by rw [HOK.out]; rfl
   go_enter Tryz.func68,Tryz.ntmps68
   go_upto_region 1 with (fail);rw [← hW0];clear hW0;refine wp_region_quiet_below (by kernel_rfl) (by kernel_rfl) ?_
   repeat (go_big_quiet_step (first | (go_at_call 69; first | with_reducible exact Calls.regrown_of (C2 _) | with_reducible exact Calls.regrown_of (C3 _)) | (go_at_call 100; exact Calls.regrown_of (C4 _))))
   refine wpQuiet_nil ?_;intro _ hw';obtain ⟨⟨dq,osq⟩,hw''⟩:=hw';subst hw'';have LQ:=L0.trans ((below_regrown W0 dq osq).mono L0.size);generalize Go.Sort.grow (redrawn W0 dq) osq=w4 at *;go_wp2;go_ret;exact ⟨Ap HE.out.symm,LQ⟩
 ·cases b4
  ·cases b5
   ·skip
    have HE:Hid (Ci T P C B L=false):=by rw [HOK.out]; rfl
    go_enter Tryz.func68,Tryz.ntmps68
    go_upto_region 1 with (fail);rw [← hW0];clear hW0;refine wp_region_quiet_below (by kernel_rfl) (by kernel_rfl) ?_
    repeat (go_big_quiet_step (first | (go_at_call 69; first | with_reducible exact Calls.regrown_of (C2 _) | with_reducible exact Calls.regrown_of (C3 _)) | (go_at_call 100; exact Calls.regrown_of (C4 _))))
    refine wpQuiet_nil ?_;intro _ hw';obtain ⟨⟨dq,osq⟩,hw''⟩:=hw';subst hw'';have LQ:=L0.trans ((below_regrown W0 dq osq).mono L0.size);generalize Go.Sort.grow (redrawn W0 dq) osq=w4 at *;go_wp2;go_ret;exact ⟨Ap HE.out.symm,LQ⟩
   ·skip
    have HE:Hid (Ci T P C B L=true):=by rw [HOK.out]; rfl
    go_enter Tryz.func68,Tryz.ntmps68
    go_upto_region 1 with (fail);rw [← hW0];clear hW0;refine wp_region_quiet_below (by kernel_rfl) (by kernel_rfl) ?_
    repeat (go_big_quiet_step (first | (go_at_call 69; first | with_reducible exact Calls.regrown_of (C2 _) | with_reducible exact Calls.regrown_of (C3 _)) | (go_at_call 100; exact Calls.regrown_of (C4 _))))
    refine wpQuiet_nil ?_;intro _ hw';obtain ⟨⟨dq,osq⟩,hw''⟩:=hw';subst hw'';have LQ:=L0.trans ((below_regrown W0 dq osq).mono L0.size);generalize Go.Sort.grow (redrawn W0 dq) osq=w4 at *;go_wp2;go_ret;exact ⟨Ap HE.out.symm,LQ⟩
  ·skip
   have HE:Hid (Ci T P C B L=true):=by rw [HOK.out]; rfl
   go_enter Tryz.func68,Tryz.ntmps68
   go_upto_region 1 with (fail);rw [← hW0];clear hW0;refine wp_region_quiet_below (by kernel_rfl) (by kernel_rfl) ?_
   repeat (go_big_quiet_step (first | (go_at_call 69; first | with_reducible exact Calls.regrown_of (C2 _) | with_reducible exact Calls.regrown_of (C3 _)) | (go_at_call 100; exact Calls.regrown_of (C4 _))))
   refine wpQuiet_nil ?_;intro _ hw';obtain ⟨⟨dq,osq⟩,hw''⟩:=hw';subst hw'';have LQ:=L0.trans ((below_regrown W0 dq osq).mono L0.size);generalize Go.Sort.grow (redrawn W0 dq) osq=w4 at *;go_wp2;go_ret;exact ⟨Ap HE.out.symm,LQ⟩
theorem Wt (w:World) (z:Nat) (T P C B L:Int) (S Q:Bool) (hb:w.heap[z]?=some (.cells (aR T P C B L S Q) 45 (0,0))) (b:Bool) (h:decide (0<L)=b):Calls Tryz.prog 185 #[(pt z 0)] w fun e w'=>e=.returned (.bool b)∧w'=w:=by
 have hc:=Ag hb;have HH:=Ad h;clear h hb
 go_enter Tryz.func185,Tryz.ntmps185
 go_wp2;go_ret;exact ⟨Ap HH.out,rfl⟩
def Re (L:Int):Int:=if 0<L then L-1 else L
def Rf (L:Int) (S Q:Bool):Bool:=if 0<L then Q || (decide (L-1=0) && S) else Q
set_option maxHeartbeats 2000000
theorem Rh (w:World) (T P C B L:Int) (S Q:Bool) (reg:Int):Calls Tryz.prog 163 #[.agg (aR T P C B L S Q),.i reg] w
  fun e w'=>e=.returned (.tuple #[.agg (aR T P C B L S (Wr true Q reg)),.i (Tj true L Q reg)])∧Below w.heap.size w w':=by
 have k0:((w.alloc (.cells (aR T P C B L S Q) 45)).alloc (.cells (aR 0 0 0 0 0 false false) 45)).heap[w.heap.size]?=some (.cells (aR T P C B L S Q) 45 (0,0)):=Ax (Al w _ _) _
 have k1:((w.alloc (.cells (aR T P C B L S Q) 45)).alloc (.cells (aR 0 0 0 0 0 false false) 45)).heap[w.heap.size+1]?=some (.cells (aR 0 0 0 0 0 false false) 45 (0,0)):=by simpa using Al (w.alloc (.cells (aR T P C B L S Q) 45)) (aR 0 0 0 0 0 false false) 45
 have L0:Below w.heap.size w ((w.alloc (.cells (aR T P C B L S Q) 45)).alloc (.cells (aR 0 0 0 0 0 false false) 45)):=((Below.refl _ _).alloc (Nat.le_refl _) _).alloc (by simp) _
 by_cases hr:reg=2
 ·subst hr
  have HQ':Hid (Wr true Q 2=false):=if_pos ⟨rfl,rfl⟩
  obtain ⟨b,hb⟩:∃ b,Hid (decide (0<L)=b):=⟨_,rfl⟩
  have HV:Hid (Tj true L Q 2=128*Av Q+Av b):=by rw [← hb.out]; exact if_pos ⟨rfl,rfl⟩
  rw [HQ'.out,HV.out];clear HQ' HV;have HS:=Ad (fun W h=>Wt W w.heap.size T P C B L S Q h b hb.out)
  cases Q <;> cases b
  all_goals
   go_enter Tryz.func163,Tryz.ntmps163
   go_wp2_with fail;generalize ((w.alloc (.cells (aR T P C B L S _) 45)).alloc (.cells (aR 0 0 0 0 0 false false) 45))=W0 at *;have c0:=Ag k0;have c1:=Ag k1;have f0:=As k0;have f1:=As k1;go_wp2_with fail;refine (HS.out _ k0).mono ?_;rintro e W1 ⟨rfl,rfl⟩;go_wp2;refine bodyPost_ret (v:=.tuple #[.agg (aR T P C B L S false),_]) (by simp [results,Tryz.results163,go_sem,c1]; rfl) rfl ?_;refine ⟨by simp [Av],?_⟩;have hz0:=Ac k1
   have fin:∀ W5,Wrote (fun b _=>b=w.heap.size∨b=w.heap.size+1) W1 W5→Below w.heap.size w W5:=fun W5 h=>L0.trans (h.below L0.size (fun b o hb e=>by omega))
   refine fin _ ?_
   repeat (first | with_reducible exact Wrote.refl _ _ | with_reducible refine Wrote.drew ?_ | with_reducible refine Wrote.setCell ?_ (fun _=>by omega) _)
 ·have HQ':Hid (Wr true Q reg=Q):=if_neg (fun h=>hr h.2)
  have HV:Hid (Tj true L Q reg=0):=if_neg (fun h=>hr h.2);rw [HQ'.out,HV.out]
  have hr':(reg != 2)=true:=by simpa using hr
  clear hr
  go_enter Tryz.func163,Tryz.ntmps163
  go_wp2;refine bodyPost_ret (v:=.tuple #[.agg (aR T P C B L S Q),.i 0]) (by simp [results,Tryz.results163,go_sem]) rfl ?_;exact ⟨rfl,((Below.refl _ _).alloc (Nat.le_refl _) _).alloc (by simp) _⟩
theorem Tk (T C L:Int) (B:Int) (S Q:Bool):Fu T L=(if T%32=0 then Re L else L)∧Gq T L S Q=(if T%32=0 then Rf L S Q else Q):=by
 unfold Fu Gq Re Rf
 by_cases h:T%32=0 <;> by_cases hL:0<L <;> simp [h,hL]
end Go.Proofs.YtgcmimcalmjaaaaGreatDoor
