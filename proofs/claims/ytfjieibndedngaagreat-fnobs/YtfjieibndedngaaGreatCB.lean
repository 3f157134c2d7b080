import Derived.Test.YtfjieibndedngaaGreatCA
import Derived.Test.YtfjieibndedngaaGreatC9
namespace Go.Proofs.YtfjieibndedngaaGreat
set_option maxHeartbeats 4000000
set_option maxRecDepth 20000
set_option linter.unusedVariables false
open Go.ChangeShapes Go.WideShapes Go.ChangeAt Go.RowKit
theorem Ar {w:World} {b d o:Nat} {ob:Obj} {x:Value} (h:w.heap[b]?=some ob) (hd:b≠d):(w.setCell ⟨d,o,none⟩ x).heap[b]?=some ob :=
 ((Wrote.setCell (R:=fun b' _=>b'=d) (Wrote.refl _ w) (fun _=>rfl) x).block b (Af h) (fun _ e=>hd e)).trans h
def opLn (x:Int):Int:=if 0≤x∧x≤29 then Dd.getD x.toNat 1 else 1
def Jk (P:Int→Int) (x:Int):Int:=if opLn (P x)=2 then P (x+1) else if opLn (P x)=3 then P (x+1)%256+256*(P (x+2)%256) else 0
theorem Px (m:Nat) (ln:Nat→Nat) (f:Nat→Nat→Int) (n:Nat) (g:Nat→Int) (bank x:Int):peekV m ln f n g bank (wrap64 x)=peekV m ln f n g bank x:=by
 have e:wrap64 x%65536=x%65536:=by unfold wrap64; omega
 unfold peekV;rw [e]
theorem Ga (m:Nat) (ln:Nat→Nat) (f:Nat→Nat→Int) (n:Nat) (g:Nat→Int) (bank x:Int):peekV m ln f n g bank (IntKind.i64.wrap x)=peekV m ln f n g bank x:=by
 have e:IntKind.i64.wrap x%65536=x%65536:=by rw [IntKind.wrap_i64]; omega
 unfold peekV;rw [e]
def Ho (op arg X:Int):Int:=if Di op=0 then 0 else (if op=14∨op=15 then arg+X else arg)%65536
def Rp (op A:Int):Int:=if Di op=2 then A%256 else 0
def N1 (m:Nat) (ln:Nat→Nat) (f:Nat→Nat→Int):Int:=peekV m ln f 512 (fun _=>0) 0 65532%256+256*(peekV m ln f 512 (fun _=>0) 0 65533%256)
structure FA (w W:World) (p:Nat) (ia:Option Addr) (m icap:Nat) (ua:Option Addr) (n ucap:Nat) (bank op arg:Int):Prop where
 img:W.heap[w.heap.size]?=some (.cells #[.slice ia m icap] 32 (0,0))
 mem:W.heap[w.heap.size+1]?=some (.cells #[.slice ua n ucap,.i bank] 34 (0,0))
 res:W.heap[w.heap.size+1+1]?=some (.cells #[.i 0,.i 0] 106 (0,0))
 out:W.heap[p]?=some (.cells #[.i op,.i arg] 106 (0,0))
 far:w.heap.size+1+1<p
 low:Below w.heap.size w W
section
variable {w W W':World} {p:Nat} {ia:Option Addr} {m icap:Nat} {ua:Option Addr} {n ucap:Nat} {bank op arg:Int}
theorem FA.below (D:FA w W p ia m icap ua n ucap bank op arg) (L:Below W.heap.size W W'):FA w W' p ia m icap ua n ucap bank op arg :=
 ⟨Ac D.img L (Af D.img),Ac D.mem L (Af D.mem),Ac D.res L (Af D.res),Ac D.out L (Af D.out),D.far,Ai D.low L⟩
theorem FA.put (D:FA w W p ia m icap ua n ucap bank op arg) (x:Int):FA w (W.setCell ⟨p,1,none⟩ (.i x)) p ia m icap ua n ucap bank op x:=by
 have hf:=D.far;exact ⟨Ar D.img (by omega),Ar D.mem (by omega),Ar D.res (by omega),An D.out _,hf,D.low.setCell (by show w.heap.size≤p; omega) _⟩
theorem FA.cells (D:FA w W p ia m icap ua n ucap bank op arg):W.cell? ⟨w.heap.size,0,none⟩=some (.slice ia m icap)∧W.cell? ⟨w.heap.size+1,0,none⟩=some (.slice ua n ucap)∧W.cell? ⟨w.heap.size+1,1,none⟩=some (.i bank)∧W.cell? ⟨p,0,none⟩=some (.i op)∧W.cell? ⟨p,1,none⟩=some (.i arg)∧W.frozen? ⟨p,1,none⟩=false :=
 ⟨Aj D.img 0,Aj D.mem 0,Aj D.mem 1,Aj D.out 0,Aj D.out 1,Ax D.out 1⟩
end
theorem Rq (w:World) (F G:Nat→Nat→Prop) (v u:Value) (m:Nat) (ln:Nat→Nat) (f:Nat→Nat→Int) (n:Nat) (g:Nat→Int) (bank x:Int) (H:Bm .i64 w F v m ln f) (K:Ints .i64 w G u n g) :
  Calls Tryz.prog 73 #[.agg #[v],.agg #[u,.i bank],.i x] w fun e w'=>e=.returned (.agg #[.i (peekV m ln f n g bank x),.i (Jk (peekV m ln f n g bank) x)])∧Below w.heap.size w w':=by
 obtain ⟨ia,icap,rfl,im,iF,iR⟩:=H;obtain ⟨ua,ucap,rfl,un,uR,uF⟩:=K
 have H:Bm .i64 w F (.slice ia m icap) m ln f:=⟨ia,icap,rfl,im,iF,iR⟩
 have K:Ints .i64 w G (.slice ua n ucap) n g:=⟨ua,ucap,rfl,un,uR,uF⟩
 clear iF iR uR uF;have C0:Below w.heap.size w (((w.alloc (.cells #[.slice ia m icap] 32)).alloc (.cells #[.slice ua n ucap,.i bank] 34)).alloc (.cells #[.i 0,.i 0] 106)):=(((Below.refl _ _).alloc (Nat.le_refl _) _).alloc (by simp) _).alloc (by simp; omega) _;have k0:=A9 (A9 (Ak w #[.slice ia m icap] 32) (.cells #[.slice ua n ucap,.i bank] 34)) (.cells #[.i 0,.i 0] 106)
 have k1:(((w.alloc (.cells #[.slice ia m icap] 32)).alloc (.cells #[.slice ua n ucap,.i bank] 34)).alloc (.cells #[.i 0,.i 0] 106)).heap[w.heap.size+1]?=some (.cells #[.slice ua n ucap,.i bank] 34 (0,0)):=by simpa using A9 (Ak (w.alloc (.cells #[.slice ia m icap] 32)) #[.slice ua n ucap,.i bank] 34) (.cells #[.i 0,.i 0] 106)
 have k2:(((w.alloc (.cells #[.slice ia m icap] 32)).alloc (.cells #[.slice ua n ucap,.i bank] 34)).alloc (.cells #[.i 0,.i 0] 106)).heap[w.heap.size+1+1]?=some (.cells #[.i 0,.i 0] 106 (0,0)):=by simpa using Ak ((w.alloc (.cells #[.slice ia m icap] 32)).alloc (.cells #[.slice ua n ucap,.i bank] 34)) #[.i 0,.i 0] 106
 have HP1:=Ad (Px m ln f n g bank (x+1));have HQ1:=Ad (Ga m ln f n g bank (x+1));have HQ2:=Ad (Ga m ln f n g bank (x+2))
 go_enter Tryz.func73,Tryz.ntmps73
 go_wp2_with fail;generalize (((w.alloc (.cells #[.slice ia m icap] 32)).alloc (.cells #[.slice ua n ucap,.i bank] 34)).alloc (.cells #[.i 0,.i 0] 106))=W0 at *;refine (Es _ F G _ _ m ln f n g bank x (H.keep (Aa C0 Ah) (fun _ _ _ x=>x)) (K.keep (Aa C0 Ah) (fun _ _ _ x=>x))).mono ?_;rintro e W1 ⟨rfl,L⟩
 have D1:FA w (W1.alloc (.cells #[.i (peekV m ln f n g bank x),.i 0] 106)) W1.heap.size ia m icap ua n ucap bank (peekV m ln f n g bank x) 0:=by
  have C1:=Ai C0 L;exact ⟨A9 (Ac k0 L (Af k0)) _,A9 (Ac k1 L (Af k1)) _,A9 (Ac k2 L (Af k2)) _,Ak _ _ _,by have:=Af (Ac k2 L (Af k2)); omega,C1.alloc C1.size _⟩
 have HFA:Hid (∀ t,(opLn (peekV m ln f n g bank x)=2→t=peekV m ln f n g bank (x+1))→(opLn (peekV m ln f n g bank x)=3→t=peekV m ln f n g bank (x+1)%256+256*(peekV m ln f n g bank (x+2)%256))→(¬ opLn (peekV m ln f n g bank x)=2→¬ opLn (peekV m ln f n g bank x)=3→t=0)→Jk (peekV m ln f n g bank) x=t):=by
  intro t h1 h2 h3;unfold Jk
  by_cases e2:opLn (peekV m ln f n g bank x)=2
  ·rw [if_pos e2,h1 e2]
  ·by_cases e3:opLn (peekV m ln f n g bank x)=3
   ·rw [if_neg e2,if_pos e3,h2 e3]
   ·rw [if_neg e2,if_neg e3,h3 e2 e3]
 clear C0 k0 k1 k2 L;obtain ⟨c1,c2,c3,c4,c5,c6⟩:=D1.cells;go_wp2_with fail;clear c1 c2 c3 c4 c5 c6;generalize hp:W1.heap.size=p at *;generalize (W1.alloc (.cells #[.i (peekV m ln f n g bank x),.i 0] 106))=W2 at *;clear hp;have HOP:=Ad (fun W=>Ig W (peekV m ln f n g bank x));generalize hop:peekV m ln f n g bank x=op at *;have HOE:=Ad hop;clear hop;refine (show Calls Tryz.prog 84 #[.i op] W2 (fun e w'=>e=.returned (.i (opLn op))∧Below W2.heap.size W2 w') from Ab HOP W2).mono ?_;rintro e W3 ⟨rfl,L⟩;have D3:=D1.below L;clear D1 L HOP;generalize opLn op=len at *;have hf:=D3.far
 have hpn:p≠w.heap.size+1+1:=by omega
 by_cases e2:len=2
 ·have HE:=Ad (HFA.out _ (fun _=>rfl) (fun h=>absurd h (by omega)) (fun h=>absurd e2 h))
  clear HFA;subst e2;obtain ⟨c1,c2,c3,c4,c5,c6⟩:=D3.cells;go_wp2_with fail;refine (Es _ F G _ _ m ln f n g bank _ (H.keep (Aa D3.low Ah) (fun _ _ _ x=>x)) (K.keep (Aa D3.low Ah) (fun _ _ _ x=>x))).mono ?_;rintro e W4 ⟨rfl,L⟩;rw [HP1.out];clear c1 c2 c3 c4 c5 c6;have D4:=D3.below L;have D5:=D4.put (peekV m ln f n g bank (x+1));obtain ⟨c1,c2,c3,c4,c5,c6⟩:=D4.cells;clear L D3;go_upto_region 7 with (fail);generalize W4.setCell ⟨p,1,none⟩ (.i (peekV m ln f n g bank (x+1)))=W5 at *;clear c1 c2 c3 c4 c5 c6 D4;have d1:=Aj D5.res;have d2:=Aj D5.out;have d3:=Ax D5.res;go_wp2;refine bodyPost_ret (v:=.agg #[.i op,.i (peekV m ln f n g bank (x+1))]) (by simp [results,Tryz.results73,go_sem,d1]) rfl ?_;exact ⟨by rw [HE.out,HOE.out],(D5.low.setCell (by simp; omega) _).setCell (by simp; omega) _⟩
 ·have e2':(len==2)=false:=by simpa using e2
  by_cases e3:len=3
  ·have HE:=Ad (HFA.out _ (fun h=>absurd h (by omega)) (fun _=>rfl) (fun _ h=>absurd e3 h))
   clear HFA;subst e3;obtain ⟨c1,c2,c3,c4,c5,c6⟩:=D3.cells;have H3:=H.keep (Aa D3.low Ah) (fun _ _ _ x=>x);have K3:=K.keep (Aa D3.low Ah) (fun _ _ _ x=>x);have HH:=Ad (show Bm .i64 W3.drew F _ m ln f from H3);have HK:=Ad (show Ints .i64 W3.drew G _ n g from K3);clear H3 K3;have HD:=Ad D3;clear D3;go_upto_region 6 with (fail)
   go_region_held3 (fun w'=>w'.cell? ⟨w.heap.size,0,none⟩=some (.slice ia m icap)∧w'.cell? ⟨w.heap.size+1,0,none⟩=some (.slice ua n ucap)∧w'.cell? ⟨w.heap.size+1,1,none⟩=some (.i bank)) (first | assumption | go_keep) (first
    | (go_at_call 67; refine (Hh _ _ _).mono ?_; rintro e W5 ⟨rfl,rfl⟩)
    | (go_at_call 68; refine (Es _ F G _ _ m ln f n g bank (IntKind.i64.wrap (x+2)) (Ab HH4) (Ab HK4)).mono ?_; rintro e W5 ⟨rfl,L5⟩; rw [HQ2.out]; have D5:=(Ab HD).below (Ai L4 L5); obtain ⟨q1,q2,q3,q4,q5,q6⟩:=D5.cells; have D6:=D5.put (peekV m ln f n g bank (x+1)%256+256*(peekV m ln f n g bank (x+2)%256)); obtain ⟨r1,r2,r3,r4,r5,r6⟩:=D6.cells; have HD6:=Ad D6; clear D5 D6 L5)
    | (go_at_call 68; refine (Es _ F G _ _ m ln f n g bank (IntKind.i64.wrap (x+1)) (Ab HH) (Ab HK)).mono ?_; rintro e W4 ⟨rfl,L4'⟩; rw [HQ1.out]; have L4:Below W3.heap.size W3 W4:=Below.trans (⟨rfl,rfl,rfl,Nat.le_refl _,fun _ _=>rfl⟩:Below W3.heap.size W3 W3.drew) L4'; have D4:=(Ab HD).below L4; obtain ⟨k1,k2,k3,k4,k5,k6⟩:=D4.cells; have HH4:=Ad ((Ab HH).keep (Aa L4' Ah) (fun _ _ _ x=>x)); have HK4:=Ad ((Ab HK).keep (Aa L4' Ah) (fun _ _ _ x=>x)); clear L4' D4))
   all_goals
    have D6:=Ab HD6;generalize W5.setCell ⟨p,1,none⟩ (.i (peekV m ln f n g bank (x+1)%256+256*(peekV m ln f n g bank (x+2)%256)))=W6 at *;have d1:=Aj D6.res;have d2:=Aj D6.out;have d3:=Ax D6.res;go_wp2;refine bodyPost_ret (v:=.agg #[.i op,.i (peekV m ln f n g bank (x+1)%256+256*(peekV m ln f n g bank (x+2)%256))]) (by simp [results,Tryz.results73,go_sem,d1]) rfl ?_;exact ⟨by rw [HE.out,HOE.out],(D6.low.setCell (by simp; omega) _).setCell (by simp; omega) _⟩
  ·have e3':(len==3)=false:=by simpa using e3
   have HE:=Ad (HFA.out 0 (fun h=>absurd h e2) (fun h=>absurd h e3) (fun _ _=>rfl));clear e2 e3 HFA;have d1:=Aj D3.res;have d2:=Aj D3.out;have d3:=Ax D3.res;go_wp2;refine bodyPost_ret (v:=.agg #[.i op,.i 0]) (by simp [results,Tryz.results73,go_sem,d1]) rfl ?_;exact ⟨by rw [HE.out,HOE.out],(D3.low.setCell (by simp; omega) _).setCell (by simp; omega) _⟩
theorem Py (w:World) (op arg A X S Pc:Int) (Z N C I:Bool):Calls Tryz.prog 74 #[.agg #[.i op,.i arg],.agg (cR A X S Pc Z N C I)] w
  fun e w'=>e=.returned (.tuple #[.i (Di op),.i (Ho op arg X),.i (Rp op A)])∧Below w.heap.size w w':=by
 have L0:Below w.heap.size w ((w.alloc (.cells #[.i op,.i arg] 106)).alloc (.cells (cR A X S Pc Z N C I) 36)):=((Below.refl _ _).alloc (Nat.le_refl _) _).alloc (by simp) _
 have LD:∀ d,Below w.heap.size w (((w.alloc (.cells #[.i op,.i arg] 106)).alloc (.cells (cR A X S Pc Z N C I) 36)).drewN d):=fun d=>L0.trans ⟨rfl,rfl,rfl,Nat.le_refl _,fun _ _=>rfl⟩
 have hw:wrap64 (arg+X)%65536=(arg+X)%65536:=by unfold wrap64; omega
 have HW:=Ad hw;clear hw
 by_cases h2:op=2
 ·subst h2
  go_enter Tryz.func74,Tryz.ntmps74
  go_wp2_with (first | (go_at_call 87; refine (C8 _ _).mono ?_; rintro e w' ⟨rfl,rfl⟩; rw [show Di 2=1 from rfl]) | (go_at_call 88; refine (B8 _ _).mono ?_; rintro e w' ⟨rfl,rfl⟩))
  go_ret3
  exact ⟨rfl,L0⟩
 ·by_cases h14:op=14
  ·subst h14
   go_enter Tryz.func74,Tryz.ntmps74
   go_wp2_with (first | (go_at_call 87; refine (C8 _ _).mono ?_; rintro e w' ⟨rfl,rfl⟩; rw [show Di 14=1 from rfl]) | (go_at_call 88; refine (B8 _ _).mono ?_; rintro e w' ⟨rfl,rfl⟩; rw [HW.out]))
   go_ret3
   exact ⟨rfl,L0⟩
  ·by_cases h29:op=29
   ·subst h29
    go_enter Tryz.func74,Tryz.ntmps74
    go_wp2_with (first | (go_at_call 87; refine (C8 _ _).mono ?_; rintro e w' ⟨rfl,rfl⟩; rw [show Di 29=1 from rfl]) | (go_at_call 88; refine (B8 _ _).mono ?_; rintro e w' ⟨rfl,rfl⟩))
    go_ret3
    exact ⟨rfl,L0⟩
   ·by_cases h3:op=3
    ·subst h3
     go_enter Tryz.func74,Tryz.ntmps74
     go_wp2_with (go_at_call 87; refine (C8 _ _).mono ?_; rintro e w' ⟨rfl,rfl⟩; rw [show Di 3=2 from rfl])
     go_quiet (first | (go_at_call 88; exact Calls.quiet_of_same (B8 _ _)) | (go_at_call 70; exact Calls.quiet_of_same (Ba _ _)))
     go_wp2
     go_ret3
     exact ⟨rfl,LD _⟩
    ·by_cases h15:op=15
     ·subst h15
      go_enter Tryz.func74,Tryz.ntmps74
      go_wp2_with (go_at_call 87; refine (C8 _ _).mono ?_; rintro e w' ⟨rfl,rfl⟩; rw [show Di 15=2 from rfl])
      go_quiet (first | (go_at_call 88; exact Calls.quiet_of_same (B8 _ _)) | (go_at_call 70; exact Calls.quiet_of_same (Ba _ _)))
      go_wp2
      go_ret3
      exact ⟨by rw [HW.out]; rfl,LD _⟩
     ·have h0:Di op=0:=by unfold Di; rw [if_neg (by omega),if_neg (by omega)]
      have HA:Hid (Ho op arg X=0∧Rp op A=0):=by show _∧_; unfold Ho Rp; rw [h0]; exact ⟨rfl,rfl⟩
      go_enter Tryz.func74,Tryz.ntmps74
      go_wp2_with (go_at_call 87; refine (C8 _ _).mono ?_; rintro e w' ⟨rfl,rfl⟩; rw [h0])
      go_ret3
      exact ⟨by rw [h0,HA.out.1,HA.out.2]; rfl,L0⟩
theorem Mi (w:World) (d:Nat) (v0 v1 v2 v3 v4 v5 v6 v7:Value) {b o:Nat} (h:b≠d):((((((((w.setCell ⟨d,0,none⟩ (v0)).setCell ⟨d,1,none⟩ (v1)).setCell ⟨d,2,none⟩ (v2)).setCell ⟨d,3,none⟩ (v3)).setCell ⟨d,4,none⟩ (v4)).setCell ⟨d,5,none⟩ (v5)).setCell ⟨d,6,none⟩ (v6)).setCell ⟨d,7,none⟩ (v7)).cell? ⟨b,o,none⟩=w.cell? ⟨b,o,none⟩:=by
 have e:∀ (W:World) (k:Nat) (v:Value),(W.setCell ⟨d,k,none⟩ v).cell? ⟨b,o,none⟩=W.cell? ⟨b,o,none⟩:=fun W k v=>World.cell?_setCell_other _ _ _ _ (fun e=>h (congrArg Addr.block e).symm)
 rw [e,e,e,e,e,e,e,e]
theorem Pz (w:World) (F:Nat→Nat→Prop) (v:Value) (m:Nat) (ln:Nat→Nat) (f:Nat→Nat→Int) (H:Bm .i64 w F v m ln f) :
  Calls Tryz.prog 55 #[.agg #[v]] w fun e w'=>e=.returned (.agg (cR 0 0 255 (N1 m ln f) false false false true))∧Below w.heap.size w w':=by
 obtain ⟨ia,icap,rfl,im,iF,iR⟩:=H
 have H:Bm .i64 w F (.slice ia m icap) m ln f:=⟨ia,icap,rfl,im,iF,iR⟩
 clear iF iR;have C0:Below w.heap.size w ((w.alloc (.cells #[.slice ia m icap] 32)).alloc (.cells cZ 36)):=((Below.refl _ _).alloc (Nat.le_refl _) _).alloc (by simp) _;have k0:((w.alloc (.cells #[.slice ia m icap] 32)).alloc (.cells cZ 36)).heap[w.heap.size]?=some (.cells #[.slice ia m icap] 32 (0,0)):=A9 (Ak w _ _) _
 have k1:((w.alloc (.cells #[.slice ia m icap] 32)).alloc (.cells cZ 36)).heap[w.heap.size+1]?=some (.cells cZ 36 (0,0)):=by simpa using Ak (w.alloc (.cells #[.slice ia m icap] 32)) cZ 36
 have HPC:Hid (N1 m ln f=(peekV m ln f 512 (fun _=>0) 0 65532%256+256*(peekV m ln f 512 (fun _=>0) 0 65533%256))):=rfl
 go_enter Tryz.func55,Tryz.ntmps55
 go_wp2_with fail;generalize ((w.alloc (.cells #[.slice ia m icap] 32)).alloc (.cells cZ 36))=W0 at *;refine (Jj _).mono ?_;rintro e W1 ⟨q,rfl,O1,L⟩;obtain ⟨qa,qc,hq,-,qr,-,-⟩:=id O1;subst hq;have LB:Below W1.heap.size W1 (W1.alloc (.cells #[.slice qa 512 qc,.i 0] 34)):=(Below.refl _ _).alloc (Nat.le_refl _) _;have C1:=Ai C0 L;have C2:=Ai C1 LB
 have B2:(W1.alloc (.cells #[.slice qa 512 qc,.i 0] 34)).heap[w.heap.size]?=some (.cells #[.slice ia m icap] 32 (0,0))∧(W1.alloc (.cells #[.slice qa 512 qc,.i 0] 34)).heap[w.heap.size+1]?=some (.cells cZ 36 (0,0))∧(W1.alloc (.cells #[.slice qa 512 qc,.i 0] 34)).heap[W1.heap.size]?=some (.cells #[.slice qa 512 qc,.i 0] 34 (0,0)) :=
  ⟨A9 (Ac k0 L (Af k0)) _,A9 (Ac k1 L (Af k1)) _,Ak _ _ _⟩
 have hf:w.heap.size+1<W1.heap.size:=Af (Ac k1 L (Af k1));have H2:=H.keep (Aa C2 Ah) (fun _ _ _ x=>x);have K2:Ints .i64 (W1.alloc (.cells #[.slice qa 512 qc,.i 0] 34)) (fun _ _=>True) (.slice qa 512 qc) 512 (fun _=>0):=Ints.keep (F:=fun _ _=>True) ⟨_,_,rfl,by omega,qr,fun _ _ _=>trivial⟩ (Aa LB Ah) (fun _ _ _ x=>x);clear C0 k0 k1 O1 L LB C1 qr;go_upto_region 2 with (fail);generalize hp:W1.heap.size=p at *;generalize (W1.alloc (.cells #[.slice qa 512 qc,.i 0] 34))=W3 at *;clear hp;have HH:=Ad (show Bm .i64 W3.drew F _ m ln f from H2);have HK:=Ad (show Ints .i64 W3.drew (fun _ _=>True) _ 512 (fun _=>0) from K2);have HT1:=Ad (Es W3.drew F (fun _ _=>True) (.slice ia m icap) (.slice qa 512 qc) m ln f 512 (fun _=>0) 0 65532 (Ab HH) (Ab HK))
 have c1:W3.cell? ⟨w.heap.size,0,none⟩=some (.slice ia m icap):=Aj B2.1 0;have c2:W3.cell? ⟨p,0,none⟩=some (.slice qa 512 qc):=Aj B2.2.2 0;have c3:W3.cell? ⟨p,1,none⟩=some (.i 0):=Aj B2.2.2 1;have HB:=Ad B2;clear H2 K2 B2
 go_region_held3 (fun w'=>w'.cell? ⟨w.heap.size,0,none⟩=some (.slice ia m icap)∧w'.cell? ⟨p,0,none⟩=some (.slice qa 512 qc)∧w'.cell? ⟨p,1,none⟩=some (.i 0)) (first | (with_reducible assumption) | (refine ⟨?_,?_,?_⟩ <;> with_reducible assumption) | go_keep) (first
  | (go_at_call 67; refine (Hh _ _ _).mono ?_; rintro e W5 ⟨rfl,rfl⟩)
  | (go_at_call 68; refine (Ab HT2).mono ?_; rintro e W5 ⟨rfl,L5⟩; have C5:=Ai L4 L5; have B5:W5.heap[w.heap.size]?=some (.cells #[.slice ia m icap] 32 (0,0))∧W5.heap[w.heap.size+1]?=some (.cells cZ 36 (0,0))∧W5.heap[p]?=some (.cells #[.slice qa 512 qc,.i 0] 34 (0,0)):=⟨Ac (Ab HB).1 C5 (Af (Ab HB).1),Ac (Ab HB).2.1 C5 (Af (Ab HB).2.1),Ac (Ab HB).2.2 C5 (Af (Ab HB).2.2)⟩; have r1:=Aj B5.2.1; have rf:=Ax B5.2.1; have g1:W5.cell? ⟨w.heap.size,0,none⟩=some (.slice ia m icap):=Aj B5.1 0; have g1':((((((((W5.setCell ⟨w.heap.size+1,0,none⟩ (.i 0)).setCell ⟨w.heap.size+1,1,none⟩ (.i 0)).setCell ⟨w.heap.size+1,2,none⟩ (.i 255)).setCell ⟨w.heap.size+1,3,none⟩ (.i (peekV m ln f 512 (fun _=>0) 0 65532%256+256*(peekV m ln f 512 (fun _=>0) 0 65533%256)))).setCell ⟨w.heap.size+1,4,none⟩ (.bool false)).setCell ⟨w.heap.size+1,5,none⟩ (.bool false)).setCell ⟨w.heap.size+1,6,none⟩ (.bool false)).setCell ⟨w.heap.size+1,7,none⟩ (.bool true)).cell? ⟨w.heap.size,0,none⟩=some (.slice ia m icap):=(Mi W5 (w.heap.size+1) _ _ _ _ _ _ _ _ (by omega)).trans g1; have g2:W5.cell? ⟨p,0,none⟩=some (.slice qa 512 qc):=Aj B5.2.2 0; have g2':((((((((W5.setCell ⟨w.heap.size+1,0,none⟩ (.i 0)).setCell ⟨w.heap.size+1,1,none⟩ (.i 0)).setCell ⟨w.heap.size+1,2,none⟩ (.i 255)).setCell ⟨w.heap.size+1,3,none⟩ (.i (peekV m ln f 512 (fun _=>0) 0 65532%256+256*(peekV m ln f 512 (fun _=>0) 0 65533%256)))).setCell ⟨w.heap.size+1,4,none⟩ (.bool false)).setCell ⟨w.heap.size+1,5,none⟩ (.bool false)).setCell ⟨w.heap.size+1,6,none⟩ (.bool false)).setCell ⟨w.heap.size+1,7,none⟩ (.bool true)).cell? ⟨p,0,none⟩=some (.slice qa 512 qc):=(Mi W5 (w.heap.size+1) _ _ _ _ _ _ _ _ (by omega)).trans g2; have g3:W5.cell? ⟨p,1,none⟩=some (.i 0):=Aj B5.2.2 1; have g3':((((((((W5.setCell ⟨w.heap.size+1,0,none⟩ (.i 0)).setCell ⟨w.heap.size+1,1,none⟩ (.i 0)).setCell ⟨w.heap.size+1,2,none⟩ (.i 255)).setCell ⟨w.heap.size+1,3,none⟩ (.i (peekV m ln f 512 (fun _=>0) 0 65532%256+256*(peekV m ln f 512 (fun _=>0) 0 65533%256)))).setCell ⟨w.heap.size+1,4,none⟩ (.bool false)).setCell ⟨w.heap.size+1,5,none⟩ (.bool false)).setCell ⟨w.heap.size+1,6,none⟩ (.bool false)).setCell ⟨w.heap.size+1,7,none⟩ (.bool true)).cell? ⟨p,1,none⟩=some (.i 0):=(Mi W5 (w.heap.size+1) _ _ _ _ _ _ _ _ (by omega)).trans g3; clear B5 L5)
  | (go_at_call 68; refine (Ab HT1).mono ?_; rintro e W4 ⟨rfl,L4'⟩; have L4:Below W3.heap.size W3 W4:=Below.trans (⟨rfl,rfl,rfl,Nat.le_refl _,fun _ _=>rfl⟩:Below W3.heap.size W3 W3.drew) L4'; have k1:W4.cell? ⟨w.heap.size,0,none⟩=some (.slice ia m icap):=Aj (Ac (Ab HB).1 L4 (Af (Ab HB).1)) 0; have k2:W4.cell? ⟨p,0,none⟩=some (.slice qa 512 qc):=Aj (Ac (Ab HB).2.2 L4 (Af (Ab HB).2.2)) 0; have k3:W4.cell? ⟨p,1,none⟩=some (.i 0):=Aj (Ac (Ab HB).2.2 L4 (Af (Ab HB).2.2)) 1; have HH4:=Ad ((Ab HH).keep (Aa L4' Ah) (fun _ _ _ x=>x)); have HK4:=Ad ((Ab HK).keep (Aa L4' Ah) (fun _ _ _ x=>x)); have HT2:=Ad (Es W4 F (fun _ _=>True) (.slice ia m icap) (.slice qa 512 qc) m ln f 512 (fun _=>0) 0 65533 (Ab HH4) (Ab HK4)); clear L4'))
 all_goals
  go_wp2;refine bodyPost_ret (v:=.agg (cR 0 0 255 (peekV m ln f 512 (fun _=>0) 0 65532%256+256*(peekV m ln f 512 (fun _=>0) 0 65533%256)) false false false true)) (by simp [results,Tryz.results55,go_sem,r1]) rfl ?_;exact ⟨by rw [HPC.out],(C2.trans (C5.mono C2.size)).trans ((Ii W5 (w.heap.size+1) _ _ _ _ _ _ _ _).mono (by omega))⟩
end Go.Proofs.YtfjieibndedngaaGreat
