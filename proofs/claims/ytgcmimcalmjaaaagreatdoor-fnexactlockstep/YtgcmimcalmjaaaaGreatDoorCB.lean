import Derived.Test.YtgcmimcalmjaaaaGreatDoorC9
import Derived.Test.YtgcmimcalmjaaaaGreatDoorC3
namespace Go.Proofs.YtgcmimcalmjaaaaGreatDoor
set_option maxHeartbeats 4000000
set_option maxRecDepth 20000
set_option linter.unusedVariables false
open Go.ChangeShapes Go.WideShapes Go.ChangeAt Go.RowKit
theorem Ay {w:World} {b d o:Nat} {ob:Obj} {x:Value} (h:w.heap[b]?=some ob) (hd:b≠d):(w.setCell ⟨d,o,none⟩ x).heap[b]?=some ob :=
 ((Wrote.setCell (R:=fun b' _=>b'=d) (Wrote.refl _ w) (fun _=>rfl) x).block b (Ac h) (fun _ e=>hd e)).trans h
def opLn (x:Int):Int:=if 0≤x∧x≤29 then Gz.getD x.toNat 1 else 1
def Ib (P:Int→Int) (x:Int):Int:=if opLn (P x)=2 then P (x+1) else if opLn (P x)=3 then P (x+1)%256+256*(P (x+2)%256) else 0
theorem I5 (m:Nat) (ln:Nat→Nat) (f:Nat→Nat→Int) (n:Nat) (g:Nat→Int) (bank x:Int):peekV m ln f n g bank (wrap64 x)=peekV m ln f n g bank x:=by
 have e:wrap64 x%65536=x%65536:=by unfold wrap64; omega
 unfold peekV;rw [e]
theorem F8 (m:Nat) (ln:Nat→Nat) (f:Nat→Nat→Int) (n:Nat) (g:Nat→Int) (bank x:Int):peekV m ln f n g bank (IntKind.i64.wrap x)=peekV m ln f n g bank x:=by
 have e:IntKind.i64.wrap x%65536=x%65536:=by rw [IntKind.wrap_i64]; omega
 unfold peekV;rw [e]
def F9 (op arg X:Int):Int:=if B9 op=0 then 0 else (if op=14∨op=15 then arg+X else arg)%65536
def Lt (op A:Int):Int:=if B9 op=2 then A%256 else 0
structure FA (w W:World) (p:Nat) (ia:Option Addr) (m icap:Nat) (ua:Option Addr) (n ucap:Nat) (bank op arg:Int):Prop where
 img:W.heap[w.heap.size]?=some (.cells #[.slice ia m icap] 41 (0,0))
 mem:W.heap[w.heap.size+1]?=some (.cells #[.slice ua n ucap,.i bank] 42 (0,0))
 res:W.heap[w.heap.size+1+1]?=some (.cells #[.i 0,.i 0] 109 (0,0))
 out:W.heap[p]?=some (.cells #[.i op,.i arg] 109 (0,0))
 far:w.heap.size+1+1<p
 low:Below w.heap.size w W
section
variable {w W W':World} {p:Nat} {ia:Option Addr} {m icap:Nat} {ua:Option Addr} {n ucap:Nat} {bank op arg:Int}
theorem FA.below (D:FA w W p ia m icap ua n ucap bank op arg) (L:Below W.heap.size W W'):FA w W' p ia m icap ua n ucap bank op arg :=
 ⟨Aa D.img L (Ac D.img),Aa D.mem L (Ac D.mem),Aa D.res L (Ac D.res),Aa D.out L (Ac D.out),D.far,Ae D.low L⟩
theorem FA.put (D:FA w W p ia m icap ua n ucap bank op arg) (x:Int):FA w (W.setCell ⟨p,1,none⟩ (.i x)) p ia m icap ua n ucap bank op x:=by
 have hf:=D.far;exact ⟨Ay D.img (by omega),Ay D.mem (by omega),Ay D.res (by omega),Af D.out _,hf,D.low.setCell (by show w.heap.size≤p; omega) _⟩
theorem FA.cells (D:FA w W p ia m icap ua n ucap bank op arg):W.cell? ⟨w.heap.size,0,none⟩=some (.slice ia m icap)∧W.cell? ⟨w.heap.size+1,0,none⟩=some (.slice ua n ucap)∧W.cell? ⟨w.heap.size+1,1,none⟩=some (.i bank)∧W.cell? ⟨p,0,none⟩=some (.i op)∧W.cell? ⟨p,1,none⟩=some (.i arg)∧W.frozen? ⟨p,1,none⟩=false :=
 ⟨Ag D.img 0,Ag D.mem 0,Ag D.mem 1,Ag D.out 0,Ag D.out 1,As D.out 1⟩
end
theorem Wi (w:World) (F G:Nat→Nat→Prop) (v u:Value) (m:Nat) (ln:Nat→Nat) (f:Nat→Nat→Int) (n:Nat) (g:Nat→Int) (bank x:Int) (H:Ba .i64 w F v m ln f) (K:Ints .i64 w G u n g) :
  Calls Tryz.prog 87 #[.agg #[v],.agg #[u,.i bank],.i x] w fun e w'=>e=.returned (.agg #[.i (peekV m ln f n g bank x),.i (Ib (peekV m ln f n g bank) x)])∧Below w.heap.size w w':=by
 obtain ⟨ia,icap,rfl,im,iF,iR⟩:=H;obtain ⟨ua,ucap,rfl,un,uR,uF⟩:=K
 have H:Ba .i64 w F (.slice ia m icap) m ln f:=⟨ia,icap,rfl,im,iF,iR⟩
 have K:Ints .i64 w G (.slice ua n ucap) n g:=⟨ua,ucap,rfl,un,uR,uF⟩
 clear iF iR uR uF;have C0:Below w.heap.size w (((w.alloc (.cells #[.slice ia m icap] 41)).alloc (.cells #[.slice ua n ucap,.i bank] 42)).alloc (.cells #[.i 0,.i 0] 109)):=(((Below.refl _ _).alloc (Nat.le_refl _) _).alloc (by simp) _).alloc (by simp; omega) _;have k0:=Ax (Ax (Al w #[.slice ia m icap] 41) (.cells #[.slice ua n ucap,.i bank] 42)) (.cells #[.i 0,.i 0] 109)
 have k1:(((w.alloc (.cells #[.slice ia m icap] 41)).alloc (.cells #[.slice ua n ucap,.i bank] 42)).alloc (.cells #[.i 0,.i 0] 109)).heap[w.heap.size+1]?=some (.cells #[.slice ua n ucap,.i bank] 42 (0,0)):=by simpa using Ax (Al (w.alloc (.cells #[.slice ia m icap] 41)) #[.slice ua n ucap,.i bank] 42) (.cells #[.i 0,.i 0] 109)
 have k2:(((w.alloc (.cells #[.slice ia m icap] 41)).alloc (.cells #[.slice ua n ucap,.i bank] 42)).alloc (.cells #[.i 0,.i 0] 109)).heap[w.heap.size+1+1]?=some (.cells #[.i 0,.i 0] 109 (0,0)):=by simpa using Al ((w.alloc (.cells #[.slice ia m icap] 41)).alloc (.cells #[.slice ua n ucap,.i bank] 42)) #[.i 0,.i 0] 109
 have HP1:=Ad (I5 m ln f n g bank (x+1));have HQ1:=Ad (F8 m ln f n g bank (x+1));have HQ2:=Ad (F8 m ln f n g bank (x+2))
 go_enter Tryz.func87,Tryz.ntmps87
 go_wp2_with fail;generalize (((w.alloc (.cells #[.slice ia m icap] 41)).alloc (.cells #[.slice ua n ucap,.i bank] 42)).alloc (.cells #[.i 0,.i 0] 109))=W0 at *;refine (Hw _ F G _ _ m ln f n g bank x (H.keep (Ab C0 Aj) (fun _ _ _ x=>x)) (K.keep (Ab C0 Aj) (fun _ _ _ x=>x))).mono ?_;rintro e W1 ⟨rfl,L⟩
 have D1:FA w (W1.alloc (.cells #[.i (peekV m ln f n g bank x),.i 0] 109)) W1.heap.size ia m icap ua n ucap bank (peekV m ln f n g bank x) 0:=by
  have C1:=Ae C0 L;exact ⟨Ax (Aa k0 L (Ac k0)) _,Ax (Aa k1 L (Ac k1)) _,Ax (Aa k2 L (Ac k2)) _,Al _ _ _,by have:=Ac (Aa k2 L (Ac k2)); omega,C1.alloc C1.size _⟩
 have HFA:Hid (∀ t,(opLn (peekV m ln f n g bank x)=2→t=peekV m ln f n g bank (x+1))→(opLn (peekV m ln f n g bank x)=3→t=peekV m ln f n g bank (x+1)%256+256*(peekV m ln f n g bank (x+2)%256))→(¬ opLn (peekV m ln f n g bank x)=2→¬ opLn (peekV m ln f n g bank x)=3→t=0)→Ib (peekV m ln f n g bank) x=t):=by
  intro t h1 h2 h3;unfold Ib
  by_cases e2:opLn (peekV m ln f n g bank x)=2
  ·rw [if_pos e2,h1 e2]
  ·by_cases e3:opLn (peekV m ln f n g bank x)=3
   ·rw [if_neg e2,if_pos e3,h2 e3]
   ·rw [if_neg e2,if_neg e3,h3 e2 e3]
 clear C0 k0 k1 k2 L;obtain ⟨c1,c2,c3,c4,c5,c6⟩:=D1.cells;go_wp2_with fail;clear c1 c2 c3 c4 c5 c6;generalize hp:W1.heap.size=p at *;generalize (W1.alloc (.cells #[.i (peekV m ln f n g bank x),.i 0] 109))=W2 at *;clear hp;have HOP:=Ad (fun W=>Ob W (peekV m ln f n g bank x));generalize hop:peekV m ln f n g bank x=op at *;have HOE:=Ad hop;clear hop;refine (show Calls Tryz.prog 113 #[.i op] W2 (fun e w'=>e=.returned (.i (opLn op))∧Below W2.heap.size W2 w') from An HOP W2).mono ?_;rintro e W3 ⟨rfl,L⟩;have D3:=D1.below L;clear D1 L HOP;generalize opLn op=len at *;have hf:=D3.far
 have hpn:p≠w.heap.size+1+1:=by omega
 by_cases e2:len=2
 ·have HE:=Ad (HFA.out _ (fun _=>rfl) (fun h=>absurd h (by omega)) (fun h=>absurd e2 h))
  clear HFA;subst e2;obtain ⟨c1,c2,c3,c4,c5,c6⟩:=D3.cells;go_wp2_with fail;refine (Hw _ F G _ _ m ln f n g bank _ (H.keep (Ab D3.low Aj) (fun _ _ _ x=>x)) (K.keep (Ab D3.low Aj) (fun _ _ _ x=>x))).mono ?_;rintro e W4 ⟨rfl,L⟩;rw [HP1.out];clear c1 c2 c3 c4 c5 c6;have D4:=D3.below L;have D5:=D4.put (peekV m ln f n g bank (x+1));obtain ⟨c1,c2,c3,c4,c5,c6⟩:=D4.cells;clear L D3;go_upto_region 7 with (fail);generalize W4.setCell ⟨p,1,none⟩ (.i (peekV m ln f n g bank (x+1)))=W5 at *;clear c1 c2 c3 c4 c5 c6 D4;have d1:=Ag D5.res;have d2:=Ag D5.out;have d3:=As D5.res;go_wp2;refine bodyPost_ret (v:=.agg #[.i op,.i (peekV m ln f n g bank (x+1))]) (by simp [results,Tryz.results87,go_sem,d1]) rfl ?_;exact ⟨by rw [HE.out,HOE.out],(D5.low.setCell (by simp; omega) _).setCell (by simp; omega) _⟩
 ·have e2':(len==2)=false:=by simpa using e2
  by_cases e3:len=3
  ·have HE:=Ad (HFA.out _ (fun h=>absurd h (by omega)) (fun _=>rfl) (fun _ h=>absurd e3 h))
   clear HFA;subst e3;obtain ⟨c1,c2,c3,c4,c5,c6⟩:=D3.cells;have H3:=H.keep (Ab D3.low Aj) (fun _ _ _ x=>x);have K3:=K.keep (Ab D3.low Aj) (fun _ _ _ x=>x);have HH:=Ad (show Ba .i64 W3.drew F _ m ln f from H3);have HK:=Ad (show Ints .i64 W3.drew G _ n g from K3);clear H3 K3;have HD:=Ad D3;clear D3;go_upto_region 6 with (fail)
   go_region_held3 (fun w'=>w'.cell? ⟨w.heap.size,0,none⟩=some (.slice ia m icap)∧w'.cell? ⟨w.heap.size+1,0,none⟩=some (.slice ua n ucap)∧w'.cell? ⟨w.heap.size+1,1,none⟩=some (.i bank)) (first | assumption | go_keep) (first
    | (go_at_call 111; refine (Lb _ _ _).mono ?_; rintro e W5 ⟨rfl,rfl⟩)
    | (go_at_call 112; refine (Hw _ F G _ _ m ln f n g bank (IntKind.i64.wrap (x+2)) (An HH4) (An HK4)).mono ?_; rintro e W5 ⟨rfl,L5⟩; rw [HQ2.out]; have D5:=(An HD).below (Ae L4 L5); obtain ⟨q1,q2,q3,q4,q5,q6⟩:=D5.cells; have D6:=D5.put (peekV m ln f n g bank (x+1)%256+256*(peekV m ln f n g bank (x+2)%256)); obtain ⟨r1,r2,r3,r4,r5,r6⟩:=D6.cells; have HD6:=Ad D6; clear D5 D6 L5)
    | (go_at_call 112; refine (Hw _ F G _ _ m ln f n g bank (IntKind.i64.wrap (x+1)) (An HH) (An HK)).mono ?_; rintro e W4 ⟨rfl,L4'⟩; rw [HQ1.out]; have L4:Below W3.heap.size W3 W4:=Below.trans (⟨rfl,rfl,rfl,Nat.le_refl _,fun _ _=>rfl⟩:Below W3.heap.size W3 W3.drew) L4'; have D4:=(An HD).below L4; obtain ⟨k1,k2,k3,k4,k5,k6⟩:=D4.cells; have HH4:=Ad ((An HH).keep (Ab L4' Aj) (fun _ _ _ x=>x)); have HK4:=Ad ((An HK).keep (Ab L4' Aj) (fun _ _ _ x=>x)); clear L4' D4))
   all_goals
    have D6:=An HD6;generalize W5.setCell ⟨p,1,none⟩ (.i (peekV m ln f n g bank (x+1)%256+256*(peekV m ln f n g bank (x+2)%256)))=W6 at *;have d1:=Ag D6.res;have d2:=Ag D6.out;have d3:=As D6.res;go_wp2;refine bodyPost_ret (v:=.agg #[.i op,.i (peekV m ln f n g bank (x+1)%256+256*(peekV m ln f n g bank (x+2)%256))]) (by simp [results,Tryz.results87,go_sem,d1]) rfl ?_;exact ⟨by rw [HE.out,HOE.out],(D6.low.setCell (by simp; omega) _).setCell (by simp; omega) _⟩
  ·have e3':(len==3)=false:=by simpa using e3
   have HE:=Ad (HFA.out 0 (fun h=>absurd h e2) (fun h=>absurd h e3) (fun _ _=>rfl));clear e2 e3 HFA;have d1:=Ag D3.res;have d2:=Ag D3.out;have d3:=As D3.res;go_wp2;refine bodyPost_ret (v:=.agg #[.i op,.i 0]) (by simp [results,Tryz.results87,go_sem,d1]) rfl ?_;exact ⟨by rw [HE.out,HOE.out],(D3.low.setCell (by simp; omega) _).setCell (by simp; omega) _⟩
theorem S8 (w:World) (op arg A X S Pc:Int) (Z N C I:Bool):Calls Tryz.prog 88 #[.agg #[.i op,.i arg],.agg (cR A X S Pc Z N C I)] w
  fun e w'=>e=.returned (.tuple #[.i (B9 op),.i (F9 op arg X),.i (Lt op A)])∧Below w.heap.size w w':=by
 have L0:Below w.heap.size w ((w.alloc (.cells #[.i op,.i arg] 109)).alloc (.cells (cR A X S Pc Z N C I) 43)):=((Below.refl _ _).alloc (Nat.le_refl _) _).alloc (by simp) _
 have LD:∀ d,Below w.heap.size w (((w.alloc (.cells #[.i op,.i arg] 109)).alloc (.cells (cR A X S Pc Z N C I) 43)).drewN d):=fun d=>L0.trans ⟨rfl,rfl,rfl,Nat.le_refl _,fun _ _=>rfl⟩
 have hw:wrap64 (arg+X)%65536=(arg+X)%65536:=by unfold wrap64; omega
 have HW:=Ad hw;clear hw
 by_cases h2:op=2
 ·subst h2
  go_enter Tryz.func88,Tryz.ntmps88
  go_wp2_with (first | (go_at_call 114; refine (Dw _ _).mono ?_; rintro e w' ⟨rfl,rfl⟩; rw [show B9 2=1 from rfl]) | (go_at_call 115; refine (Cq _ _).mono ?_; rintro e w' ⟨rfl,rfl⟩))
  go_ret3
  exact ⟨rfl,L0⟩
 ·by_cases h14:op=14
  ·subst h14
   go_enter Tryz.func88,Tryz.ntmps88
   go_wp2_with (first | (go_at_call 114; refine (Dw _ _).mono ?_; rintro e w' ⟨rfl,rfl⟩; rw [show B9 14=1 from rfl]) | (go_at_call 115; refine (Cq _ _).mono ?_; rintro e w' ⟨rfl,rfl⟩; rw [HW.out]))
   go_ret3
   exact ⟨rfl,L0⟩
  ·by_cases h29:op=29
   ·subst h29
    go_enter Tryz.func88,Tryz.ntmps88
    go_wp2_with (first | (go_at_call 114; refine (Dw _ _).mono ?_; rintro e w' ⟨rfl,rfl⟩; rw [show B9 29=1 from rfl]) | (go_at_call 115; refine (Cq _ _).mono ?_; rintro e w' ⟨rfl,rfl⟩))
    go_ret3
    exact ⟨rfl,L0⟩
   ·by_cases h3:op=3
    ·subst h3
     go_enter Tryz.func88,Tryz.ntmps88
     go_wp2_with (go_at_call 114; refine (Dw _ _).mono ?_; rintro e w' ⟨rfl,rfl⟩; rw [show B9 3=2 from rfl])
     go_quiet (first | (go_at_call 115; exact Calls.quiet_of_same (Cq _ _)) | (go_at_call 116; exact Calls.quiet_of_same (Bs _ _)))
     go_wp2
     go_ret3
     exact ⟨rfl,LD _⟩
    ·by_cases h15:op=15
     ·subst h15
      go_enter Tryz.func88,Tryz.ntmps88
      go_wp2_with (go_at_call 114; refine (Dw _ _).mono ?_; rintro e w' ⟨rfl,rfl⟩; rw [show B9 15=2 from rfl])
      go_quiet (first | (go_at_call 115; exact Calls.quiet_of_same (Cq _ _)) | (go_at_call 116; exact Calls.quiet_of_same (Bs _ _)))
      go_wp2
      go_ret3
      exact ⟨by rw [HW.out]; rfl,LD _⟩
     ·have h0:B9 op=0:=by unfold B9; rw [if_neg (by omega),if_neg (by omega)]
      have HA:Hid (F9 op arg X=0∧Lt op A=0):=by show _∧_; unfold F9 Lt; rw [h0]; exact ⟨rfl,rfl⟩
      go_enter Tryz.func88,Tryz.ntmps88
      go_wp2_with (go_at_call 114; refine (Dw _ _).mono ?_; rintro e w' ⟨rfl,rfl⟩; rw [h0])
      go_ret3
      exact ⟨by rw [h0,HA.out.1,HA.out.2]; rfl,L0⟩
set_option maxHeartbeats 2000000
set_option maxRecDepth 20000
set_option linter.unusedSimpArgs false
def B7 (g:Nat→Int) (S v:Int):Nat→Int:=Fh g (256+(S%256).toNat) (v%256)
theorem Lu {W:World} {d:Nat} {T:TypeId} {u0 u1:Value} (h:W.heap[d]?=some (.cells #[u0,u1] T (0,0))) (v0 v1:Value):((W.setCell ⟨d,0,none⟩ v0).setCell ⟨d,1,none⟩ v1).heap[d]?=some (.cells #[v0,v1] T (0,0)):=by
 simp [World.setCell,Array.getElem?_modify,h]
theorem Ke {W:World} {d:Nat} {T:TypeId} {u0 u1 u2 u3 u4 u5 u6 u7:Value} (h:W.heap[d]?=some (.cells #[u0,u1,u2,u3,u4,u5,u6,u7] T (0,0))) (v0 v1 v2 v3 v4 v5 v6 v7:Value):((((((((W.setCell ⟨d,0,none⟩ v0).setCell ⟨d,1,none⟩ v1).setCell ⟨d,2,none⟩ v2).setCell ⟨d,3,none⟩ v3).setCell ⟨d,4,none⟩ v4).setCell ⟨d,5,none⟩ v5).setCell ⟨d,6,none⟩ v6).setCell ⟨d,7,none⟩ v7).heap[d]?=some (.cells #[v0,v1,v2,v3,v4,v5,v6,v7] T (0,0)):=by
 simp [World.setCell,Array.getElem?_modify,h]
theorem Gn {w:World} {b d:Nat} {ob:Obj} (h:w.heap[b]?=some ob) (hd:b≠d) (v0 v1 v2 v3 v4 v5 v6 v7:Value):((((((((w.setCell ⟨d,0,none⟩ v0).setCell ⟨d,1,none⟩ v1).setCell ⟨d,2,none⟩ v2).setCell ⟨d,3,none⟩ v3).setCell ⟨d,4,none⟩ v4).setCell ⟨d,5,none⟩ v5).setCell ⟨d,6,none⟩ v6).setCell ⟨d,7,none⟩ v7).heap[b]?=some ob :=
 Ay (Ay (Ay (Ay (Ay (Ay (Ay (Ay h hd) hd) hd) hd) hd) hd) hd) hd
theorem Et (W:World):Below W.heap.size W W.drew:=⟨rfl,rfl,rfl,Nat.le_refl _,fun _ _=>rfl⟩
theorem E4 (w:World) (G:Nat→Nat→Prop) (u:Value) (g:Nat→Int) (bank:Int) (K:Ints .i64 w G u 512 g) (A X S Pc:Int) (Z N C I:Bool) (v:Int) :
  Calls Tryz.prog 110 #[.agg #[u,.i bank],.agg (cR A X S Pc Z N C I),.i v] w fun e w'=>∃ q,e=.returned (.tuple #[.agg #[q,.i bank],.agg (cR A X ((S-1)%256) Pc Z N C I)])∧Am w' w.heap.size q 512 (B7 g S v)∧Below w.heap.size w w':=by
 have L0:∀ ua ucap,Below w.heap.size w ((((w.alloc (.cells #[.slice ua 512 ucap,.i bank] 42)).alloc (.cells (cR A X S Pc Z N C I) 43)).alloc (.cells mZ 42)).alloc (.cells cZ 43)):=fun ua ucap=>((((Below.refl _ _).alloc (Nat.le_refl _) _).alloc (by simp) _).alloc (by simp; omega) _).alloc (by simp; omega) _
 obtain ⟨ua,ucap,rfl,un,hrow,-⟩:=K;replace L0:=L0 ua ucap;have hrow0:=hrow.keep (Ab L0 Aj) (fun _ _ _ x=>x);have k3:((((w.alloc (.cells #[.slice ua 512 ucap,.i bank] 42)).alloc (.cells (cR A X S Pc Z N C I) 43)).alloc (.cells mZ 42)).alloc (.cells cZ 43)).heap[w.heap.size]?=some (.cells #[.slice ua 512 ucap,.i bank] 42 (0,0)):=Ax (Ax (Ax (Al w _ _) _) _) _
 have k4:((((w.alloc (.cells #[.slice ua 512 ucap,.i bank] 42)).alloc (.cells (cR A X S Pc Z N C I) 43)).alloc (.cells mZ 42)).alloc (.cells cZ 43)).heap[w.heap.size+1]?=some (.cells (cR A X S Pc Z N C I) 43 (0,0)):=by simpa using Ax (Ax (Al (w.alloc (.cells #[.slice ua 512 ucap,.i bank] 42)) (cR A X S Pc Z N C I) 43) (.cells mZ 42)) (.cells cZ 43)
 have k6:((((w.alloc (.cells #[.slice ua 512 ucap,.i bank] 42)).alloc (.cells (cR A X S Pc Z N C I) 43)).alloc (.cells mZ 42)).alloc (.cells cZ 43)).heap[w.heap.size+1+1]?=some (.cells mZ 42 (0,0)):=by simpa using Ax (Al ((w.alloc (.cells #[.slice ua 512 ucap,.i bank] 42)).alloc (.cells (cR A X S Pc Z N C I) 43)) mZ 42) (.cells cZ 43)
 have k7:((((w.alloc (.cells #[.slice ua 512 ucap,.i bank] 42)).alloc (.cells (cR A X S Pc Z N C I) 43)).alloc (.cells mZ 42)).alloc (.cells cZ 43)).heap[w.heap.size+1+1+1]?=some (.cells cZ 43 (0,0)):=by simpa using Al (((w.alloc (.cells #[.slice ua 512 ucap,.i bank] 42)).alloc (.cells (cR A X S Pc Z N C I) 43)).alloc (.cells mZ 42)) cZ 43
 go_enter Tryz.func110,Tryz.ntmps110
 go_wp2_with fail;generalize ((((w.alloc (.cells #[.slice ua 512 ucap,.i bank] 42)).alloc (.cells (cR A X S Pc Z N C I) 43)).alloc (.cells mZ 42)).alloc (.cells cZ 43))=W0 at *;refine (Lo _ (fun _ _=>True) (.slice ua 512 ucap) 512 g bank ⟨_,_,rfl,by omega,hrow0,fun _ _ _=>trivial⟩).mono ?_;rintro e W1 ⟨q,rfl,O1,L1⟩;obtain ⟨qa,qc,rfl,-,hq,hF,hlo⟩:=O1;obtain ⟨b,o,rfl,-⟩:=hq 0 (by omega)
 have O1:Am W1 W0.heap.size (.slice (some ⟨b,o,none⟩) 512 qc) 512 g:=⟨_,_,rfl,by omega,hq,hF,hlo⟩
 have LA:Below W1.heap.size W1 (W1.alloc (.cells #[.slice (some ⟨b,o,none⟩) 512 qc,.i bank] 42)):=(Below.refl _ _).alloc (Nat.le_refl _) _;have L2:=L1.trans (LA.mono L1.size);have k8:=Al W1 #[.slice (some ⟨b,o,none⟩) 512 qc,.i bank] 42;have hb:=O1.cellAt 0 (by omega)
 have hb8:b≠W1.heap.size:=by omega
 have hW0:w.heap.size+1+1+1<W0.heap.size:=Ac k7;have h1z:=L1.size;have h7:=Ac k7;replace O1:=O1.keepL LA;replace k3:=Aa k3 L2 (Ac k3);replace k4:=Aa k4 L2 (Ac k4);replace k6:=Aa k6 L2 (Ac k6);replace k7:=Aa k7 L2 (Ac k7);have C2:=Ae L0 L2
 have hz8:w.heap.size+1+1+1<W1.heap.size:=by omega
 have hbl:w.heap.size+1+1+1<b:=by omega
 clear L1 L2 LA hrow hrow0 hq hF hlo L0 h1z h7 hb;have c3:=Ag k3;go_upto_region 4 with (fail)
 obtain ⟨z,hz⟩:∃ z,Hid (z=W1.heap.size):=⟨_,rfl⟩
 generalize W1.alloc (.cells #[.slice (some ⟨b,o,none⟩) 512 qc,.i bank] 42)=W2 at *;rw [← hz.out] at k8 hb8 hz8 ⊢;clear hz c3
 have D2:Below W2.heap.size W2 W2.drew:=⟨rfl,rfl,rfl,Nat.le_refl _,fun _ _=>rfl⟩
 replace k4:=Aa k4 D2 (Ac k4);replace k6:=Aa k6 D2 (Ac k6);replace k7:=Aa k7 D2 (Ac k7);replace k8:=Aa k8 D2 (Ac k8);replace O1:=O1.keepL D2;replace C2:=Ae C2 D2
 obtain ⟨i,hi⟩:∃ i:Nat,S%256=i:=⟨(S%256).toNat,by omega⟩
 obtain ⟨k,hk⟩:∃ k:Nat,k=256+i:=⟨_,rfl⟩
 have hks:(256:Int)+(i:Int)=(k:Int):=by omega
 have hkl:(k:Int)<512:=by omega
 have hwk:IntKind.i64.wrap (k:Int)=(k:Int):=by rw [IntKind.wrap_i64]; omega
 have HP:Hid (B7 g S v=Fh g k (v%256)):=by
  show _=_
  unfold B7;rw [show 256+(S%256).toNat=k by omega]
 have hcell:=O1.cellAt k (by omega);have cb:=hcell.1;have fb:=hcell.2.1;have OP:=Ad (O1.put k (by omega) (v%256));have c4:=Ag k4;have c8:=Ag k8;have HS:=Ad (fun W=>Bs S W);have HV:=Ad (fun W=>Bs v W);rw [hi] at HS;clear hi hk hcell
 go_cut [22] (fun sl WX=>WX=(W2.setCell ⟨b,o+k,none⟩ (.i (v%256))).drew)
 case first =>
  go_region_with (first | (go_at_call 116; refine (An HS _).mono ?_; rintro e w1 ⟨rfl,rfl⟩) | (go_at_call 116; refine (An HV _).mono ?_; rintro e w1 ⟨rfl,rfl⟩))
  all_goals (
   go_wp2_with fail
   go_meet
   exact rfl)
 case rest =>
 subst hcut;have O3:Am ((W2.setCell ⟨b,o+k,none⟩ (.i (v%256))).drew) W0.heap.size (.slice (some ⟨b,o,none⟩) 512 qc) 512 (Fh g k (v%256)):=OP.out;have j4:((W2.setCell ⟨b,o+k,none⟩ (.i (v%256))).drew).heap[w.heap.size+1]?=_:=Ay k4 (by omega);have j6:((W2.setCell ⟨b,o+k,none⟩ (.i (v%256))).drew).heap[w.heap.size+1+1]?=_:=Ay k6 (by omega);have j7:((W2.setCell ⟨b,o+k,none⟩ (.i (v%256))).drew).heap[w.heap.size+1+1+1]?=_:=Ay k7 (by omega);have j8:((W2.setCell ⟨b,o+k,none⟩ (.i (v%256))).drew).heap[z]?=_:=Ay k8 (Ne.symm hb8)
 have C3:Below w.heap.size w ((W2.setCell ⟨b,o+k,none⟩ (.i (v%256))).drew):=(C2.setCell (p:=⟨b,o+k,none⟩) (by simp; omega) (.i (v%256)))
 clear OP k4 k6 k7 k8 C2 O1 cb fb c4 c8 HS HV;generalize (W2.setCell ⟨b,o+k,none⟩ (.i (v%256))).drew=W3 at *;have hw:=Oh (S-1);have c4:=Ag j4;have f4:=As j4;go_wp2_with fail;refine (Bs _ _).mono ?_;rintro e w4 ⟨rfl,rfl⟩;rw [hw];go_upto_region 6 with (fail);clear c4 f4 hw
 obtain ⟨s',hs'⟩:∃ s',Hid (s'=(S-1)%256):=⟨_,rfl⟩
 rw [← hs'.out]
 have i4:(w4.setCell ⟨w.heap.size+1,2,none⟩ (.i s')).heap[w.heap.size+1]?=some (.cells (cR A X s' Pc Z N C I) 43 (0,0)):=by simpa using Af (o:=2) j4 (.i s')
 have i6:(w4.setCell ⟨w.heap.size+1,2,none⟩ (.i s')).heap[w.heap.size+1+1]?=_:=Ay j6 (by omega);have i7:(w4.setCell ⟨w.heap.size+1,2,none⟩ (.i s')).heap[w.heap.size+1+1+1]?=_:=Ay j7 (by omega);have i8:(w4.setCell ⟨w.heap.size+1,2,none⟩ (.i s')).heap[z]?=_:=Ay j8 (by omega);have hl0:w.heap.size+1+1+1<W0.heap.size:=hW0;have O4:=O3.setLow (d:=w.heap.size+1) (o:=2) (by omega) (.i s');have C4:Below w.heap.size w (w4.setCell ⟨w.heap.size+1,2,none⟩ (.i s')):=C3.setCell (p:=⟨w.heap.size+1,2,none⟩) (by simp) (.i s');generalize w4.setCell ⟨w.heap.size+1,2,none⟩ (.i s')=W5 at *;clear j4 j6 j7 j8 O3 C3
 have r6:=fun (x0 x1 y0 y1 y2 y3 y4 y5 y6 y7:Value)=>Ag (Gn (Lu i6 x0 x1) (show w.heap.size+1+1≠w.heap.size+1+1+1 by omega) y0 y1 y2 y3 y4 y5 y6 y7)
 have r7:=fun (x0 x1 y0 y1 y2 y3 y4 y5 y6 y7:Value)=>Ag (Ke (Ay (Ay (x:=x0) (o:=0) i7 (show w.heap.size+1+1+1≠w.heap.size+1+1 by omega)) (x:=x1) (o:=1) (show w.heap.size+1+1+1≠w.heap.size+1+1 by omega)) y0 y1 y2 y3 y4 y5 y6 y7)
 have c4:=Ag i4;have c8:=Ag i8;have c6:=Ag i6;have c7:=Ag i7;have f6:=As i6;have f7:=As i7
 have FIN:∀ (x0 x1 y0 y1 y2 y3 y4 y5 y6 y7:Value),Am (((((((((((W5.setCell ⟨w.heap.size+1+1,0,none⟩ x0).setCell ⟨w.heap.size+1+1,1,none⟩ x1).setCell ⟨w.heap.size+1+1+1,0,none⟩ y0).setCell ⟨w.heap.size+1+1+1,1,none⟩ y1).setCell ⟨w.heap.size+1+1+1,2,none⟩ y2).setCell ⟨w.heap.size+1+1+1,3,none⟩ y3).setCell ⟨w.heap.size+1+1+1,4,none⟩ y4).setCell ⟨w.heap.size+1+1+1,5,none⟩ y5).setCell ⟨w.heap.size+1+1+1,6,none⟩ y6).setCell ⟨w.heap.size+1+1+1,7,none⟩ y7).drew) w.heap.size (.slice (some ⟨b,o,none⟩) 512 qc) 512 (Fh g k (v%256))∧Below w.heap.size w (((((((((((W5.setCell ⟨w.heap.size+1+1,0,none⟩ x0).setCell ⟨w.heap.size+1+1,1,none⟩ x1).setCell ⟨w.heap.size+1+1+1,0,none⟩ y0).setCell ⟨w.heap.size+1+1+1,1,none⟩ y1).setCell ⟨w.heap.size+1+1+1,2,none⟩ y2).setCell ⟨w.heap.size+1+1+1,3,none⟩ y3).setCell ⟨w.heap.size+1+1+1,4,none⟩ y4).setCell ⟨w.heap.size+1+1+1,5,none⟩ y5).setCell ⟨w.heap.size+1+1+1,6,none⟩ y6).setCell ⟨w.heap.size+1+1+1,7,none⟩ y7).drew):=fun x0 x1 y0 y1 y2 y3 y4 y5 y6 y7=>⟨((show Am ((((((((((W5.setCell ⟨w.heap.size+1+1,0,none⟩ x0).setCell ⟨w.heap.size+1+1,1,none⟩ x1).setCell ⟨w.heap.size+1+1+1,0,none⟩ y0).setCell ⟨w.heap.size+1+1+1,1,none⟩ y1).setCell ⟨w.heap.size+1+1+1,2,none⟩ y2).setCell ⟨w.heap.size+1+1+1,3,none⟩ y3).setCell ⟨w.heap.size+1+1+1,4,none⟩ y4).setCell ⟨w.heap.size+1+1+1,5,none⟩ y5).setCell ⟨w.heap.size+1+1+1,6,none⟩ y6).setCell ⟨w.heap.size+1+1+1,7,none⟩ y7) W0.heap.size _ _ _ from ((((((((((O4.setLow (by omega) _).setLow (by omega) _).setLow (by omega) _).setLow (by omega) _).setLow (by omega) _).setLow (by omega) _).setLow (by omega) _).setLow (by omega) _).setLow (by omega) _).setLow (by omega) _)).mono (by omega)).keepL (Et _),Ae (C4.trans ((((Below.refl _ _).setCell (p:=⟨w.heap.size+1+1,0,none⟩) (by simp; omega) _).setCell (p:=⟨w.heap.size+1+1,1,none⟩) (by simp; omega) _).trans ((Lp _ (w.heap.size+1+1+1) _ _ _ _ _ _ _ _).mono (by omega)))) (Et _)⟩
 have HF:=Ad FIN;clear O4 C4 FIN i4 i6 i7 i8
 go_region
 all_goals (
  go_wp2;refine bodyPost_ret (v:=.tuple #[.agg #[.slice (some ⟨b,o,none⟩) 512 qc,.i bank],.agg (cR A X s' Pc Z N C I)]) (by simp [results,Tryz.results110,go_sem,r6,r7]) rfl ?_;refine ⟨_,by rw [hs'.out],?_⟩;rw [HP.out]
  with_reducible exact HF.out _ _ _ _ _ _ _ _ _ _)
end Go.Proofs.YtgcmimcalmjaaaaGreatDoor
