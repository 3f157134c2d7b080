import Derived.Test.YtijljlnooibbmaaGreatDoorI2
import Derived.Test.YtijljlnooibbmaaGreatDoorC9
import Derived.Test.YtijljlnooibbmaaGreatDoorC3
namespace Go.Proofs.YtijljlnooibbmaaGreatDoor
set_option maxHeartbeats 4000000
set_option maxRecDepth 20000
open Go.Proofs.Tryz
set_option linter.unusedVariables false
open Go.ChangeShapes Go.WideShapes Go.ChangeAt Go.RowKit
theorem Ay {w:World} {b d o:Nat} {ob:Obj} {x:Value} (h:w.heap[b]?=some ob) (hd:b≠d):(w.setCell ⟨d,o,none⟩ x).heap[b]?=some ob :=
 ((Wrote.setCell (R:=fun b' _=>b'=d) (Wrote.refl _ w) (fun _=>rfl) x).block b (Ad h) (fun _ e=>hd e)).trans h
def opLn (x:Int):Int:=if 0<=x/\x<=29 then Dm.getD x.toNat 1 else 1
def Jf (P:Int->Int) (x:Int):Int:=if opLn (P x)=2 then P (x+1) else if opLn (P x)=3 then P (x+1)%256+256*(P (x+2)%256) else 0
theorem J4 (m:Nat) (ln:Nat->Nat) (f:Nat->Nat->Int) (n:Nat) (g:Nat->Int) (bank x:Int):peekV m ln f n g bank (wrap64 x)=peekV m ln f n g bank x:=by
 have e:wrap64 x%65536=x%65536:=by unfold wrap64; omega
 unfold peekV;rw [e]
theorem Gu (m:Nat) (ln:Nat->Nat) (f:Nat->Nat->Int) (n:Nat) (g:Nat->Int) (bank x:Int):peekV m ln f n g bank (IntKind.i64.wrap x)=peekV m ln f n g bank x:=by
 have e:IntKind.i64.wrap x%65536=x%65536:=by rw [IntKind.wrap_i64]; omega
 unfold peekV;rw [e]
def Gv (op arg X:Int):Int:=if Ch op=0 then 0 else (if op=14\/op=15 then arg+X else arg)%65536
def N1 (op A:Int):Int:=if Ch op=2 then A%256 else 0
def Uk (m:Nat) (ln:Nat->Nat) (f:Nat->Nat->Int):Int:=peekV m ln f 512 (fun _=>0) 0 65532%256+256*(peekV m ln f 512 (fun _=>0) 0 65533%256)
structure FA (w W:World) (p:Nat) (ia:Option Addr) (m icap:Nat) (ua:Option Addr) (n ucap:Nat) (bank op arg:Int):Prop where
 img:W.heap[w.heap.size]?=some (.cells #[.slice ia m icap] 26 (0,0))
 mem:W.heap[w.heap.size+1]?=some (.cells #[.slice ua n ucap,.i bank] 29 (0,0))
 res:W.heap[w.heap.size+1+1]?=some (.cells #[.i 0,.i 0] 49 (0,0))
 out:W.heap[p]?=some (.cells #[.i op,.i arg] 49 (0,0))
 far:w.heap.size+1+1<p
 low:Below w.heap.size w W
section
variable {w W W':World} {p:Nat} {ia:Option Addr} {m icap:Nat} {ua:Option Addr} {n ucap:Nat} {bank op arg:Int}
theorem FA.below (D:FA w W p ia m icap ua n ucap bank op arg) (L:Below W.heap.size W W'):FA w W' p ia m icap ua n ucap bank op arg :=
 ⟨Ab D.img L (Ad D.img),Ab D.mem L (Ad D.mem),Ab D.res L (Ad D.res),Ab D.out L (Ad D.out),D.far,Ah D.low L⟩
theorem FA.put (D:FA w W p ia m icap ua n ucap bank op arg) (x:Int):FA w (W.setCell ⟨p,1,none⟩ (.i x)) p ia m icap ua n ucap bank op x:=by
 have hf:=D.far;exact ⟨Ay D.img (by omega),Ay D.mem (by omega),Ay D.res (by omega),Am D.out _,hf,D.low.setCell (by show w.heap.size<=p; omega) _⟩
theorem FA.cells (D:FA w W p ia m icap ua n ucap bank op arg):W.cell? ⟨w.heap.size,0,none⟩=some (.slice ia m icap)/\W.cell? ⟨w.heap.size+1,0,none⟩=some (.slice ua n ucap)/\W.cell? ⟨w.heap.size+1,1,none⟩=some (.i bank)/\W.cell? ⟨p,0,none⟩=some (.i op)/\W.cell? ⟨p,1,none⟩=some (.i arg)/\W.frozen? ⟨p,1,none⟩=false :=
 ⟨Af D.img 0,Af D.mem 0,Af D.mem 1,Af D.out 0,Af D.out 1,Au D.out 1⟩
end
theorem Z8 (w:World) (F G:Nat->Nat->Prop) (v u:Value) (m:Nat) (ln:Nat->Nat) (f:Nat->Nat->Int) (n:Nat) (g:Nat->Int) (bank x:Int) (H:Bg .i64 w F v m ln f) (K:Ints .i64 w G u n g) :
  Calls prog 89 #[.agg #[v],.agg #[u,.i bank],.i x] w fun e w'=>e=.returned (.agg #[.i (peekV m ln f n g bank x),.i (Jf (peekV m ln f n g bank) x)])/\Below w.heap.size w w':=by
 obtain ⟨ia,icap,rfl,im,iF,iR⟩:=H;obtain ⟨ua,ucap,rfl,un,uR,uF⟩:=K
 have H:Bg .i64 w F (.slice ia m icap) m ln f:=⟨ia,icap,rfl,im,iF,iR⟩
 have K:Ints .i64 w G (.slice ua n ucap) n g:=⟨ua,ucap,rfl,un,uR,uF⟩
 clear iF iR uR uF;have C0:Below w.heap.size w (((w.alloc (.cells #[.slice ia m icap] 26)).alloc (.cells #[.slice ua n ucap,.i bank] 29)).alloc (.cells #[.i 0,.i 0] 49)):=(((Below.refl _ _).alloc (Nat.le_refl _) _).alloc (by simp) _).alloc (by simp; omega) _;have k0:=Az (Az (Ak w #[.slice ia m icap] 26) (.cells #[.slice ua n ucap,.i bank] 29)) (.cells #[.i 0,.i 0] 49)
 have k1:(((w.alloc (.cells #[.slice ia m icap] 26)).alloc (.cells #[.slice ua n ucap,.i bank] 29)).alloc (.cells #[.i 0,.i 0] 49)).heap[w.heap.size+1]?=some (.cells #[.slice ua n ucap,.i bank] 29 (0,0)):=by simpa using Az (Ak (w.alloc (.cells #[.slice ia m icap] 26)) #[.slice ua n ucap,.i bank] 29) (.cells #[.i 0,.i 0] 49)
 have k2:(((w.alloc (.cells #[.slice ia m icap] 26)).alloc (.cells #[.slice ua n ucap,.i bank] 29)).alloc (.cells #[.i 0,.i 0] 49)).heap[w.heap.size+1+1]?=some (.cells #[.i 0,.i 0] 49 (0,0)):=by simpa using Ak ((w.alloc (.cells #[.slice ia m icap] 26)).alloc (.cells #[.slice ua n ucap,.i bank] 29)) #[.i 0,.i 0] 49
 have HP1:=Ac (J4 m ln f n g bank (x+1));have HQ1:=Ac (Gu m ln f n g bank (x+1));have HQ2:=Ac (Gu m ln f n g bank (x+2))
 go_enter func89,ntmps89
 go_wp2_with fail;generalize (((w.alloc (.cells #[.slice ia m icap] 26)).alloc (.cells #[.slice ua n ucap,.i bank] 29)).alloc (.cells #[.i 0,.i 0] 49))=W0 at *;refine (Gh _ F G _ _ m ln f n g bank x (H.keep (Aa C0 Aj) (fun _ _ _ x=>x)) (K.keep (Aa C0 Aj) (fun _ _ _ x=>x))).mono ?_;rintro e W1 ⟨rfl,L⟩
 have D1:FA w (W1.alloc (.cells #[.i (peekV m ln f n g bank x),.i 0] 49)) W1.heap.size ia m icap ua n ucap bank (peekV m ln f n g bank x) 0:=by
  have C1:=Ah C0 L;exact ⟨Az (Ab k0 L (Ad k0)) _,Az (Ab k1 L (Ad k1)) _,Az (Ab k2 L (Ad k2)) _,Ak _ _ _,by have:=Ad (Ab k2 L (Ad k2)); omega,C1.alloc C1.size _⟩
 have HFA:Hid (∀ t,(opLn (peekV m ln f n g bank x)=2->t=peekV m ln f n g bank (x+1))->(opLn (peekV m ln f n g bank x)=3->t=peekV m ln f n g bank (x+1)%256+256*(peekV m ln f n g bank (x+2)%256))->(¬ opLn (peekV m ln f n g bank x)=2->¬ opLn (peekV m ln f n g bank x)=3->t=0)->Jf (peekV m ln f n g bank) x=t):=by
  intro t h1 h2 h3;unfold Jf
  by_cases e2:opLn (peekV m ln f n g bank x)=2
  .rw [if_pos e2,h1 e2]
  .by_cases e3:opLn (peekV m ln f n g bank x)=3
   .rw [if_neg e2,if_pos e3,h2 e3]
   .rw [if_neg e2,if_neg e3,h3 e2 e3]
 clear C0 k0 k1 k2 L;obtain ⟨c1,c2,c3,c4,c5,c6⟩:=D1.cells;go_wp2_with fail;clear c1 c2 c3 c4 c5 c6;generalize hp:W1.heap.size=p at *;generalize (W1.alloc (.cells #[.i (peekV m ln f n g bank x),.i 0] 49))=W2 at *;clear hp;have HOP:=Ac (fun W=>Md W (peekV m ln f n g bank x));generalize hop:peekV m ln f n g bank x=op at *;have HOE:=Ac hop;clear hop;refine (show Calls prog 125 #[.i op] W2 (fun e w'=>e=.returned (.i (opLn op))/\Below W2.heap.size W2 w') from Ae HOP W2).mono ?_;rintro e W3 ⟨rfl,L⟩;have D3:=D1.below L;clear D1 L HOP;generalize opLn op=len at *;have hf:=D3.far
 have hpn:p≠w.heap.size+1+1:=by omega
 by_cases e2:len=2
 .have HE:=Ac (HFA.out _ (fun _=>rfl) (fun h=>absurd h (by omega)) (fun h=>absurd e2 h))
  clear HFA;subst e2;obtain ⟨c1,c2,c3,c4,c5,c6⟩:=D3.cells;go_wp2_with fail;refine (Gh _ F G _ _ m ln f n g bank _ (H.keep (Aa D3.low Aj) (fun _ _ _ x=>x)) (K.keep (Aa D3.low Aj) (fun _ _ _ x=>x))).mono ?_;rintro e W4 ⟨rfl,L⟩;rw [HP1.out];clear c1 c2 c3 c4 c5 c6;have D4:=D3.below L;have D5:=D4.put (peekV m ln f n g bank (x+1));obtain ⟨c1,c2,c3,c4,c5,c6⟩:=D4.cells;clear L D3;go_upto_region 7 with (fail);generalize W4.sc p 1 (.i (peekV m ln f n g bank (x+1)))=W5 at *;clear c1 c2 c3 c4 c5 c6 D4;have d1:=Af D5.res;have d2:=Af D5.out;have d3:=Au D5.res;go_wp2;refine bodyPost_ret (v:=.agg #[.i op,.i (peekV m ln f n g bank (x+1))]) (by simp [results,results89,go_sem,d1]) rfl ?_;exact ⟨by rw [HE.out,HOE.out],(D5.low.setCell (by simp; omega) _).setCell (by simp; omega) _⟩
 .have e2':(len==2)=false:=by simpa using e2
  by_cases e3:len=3
  .have HE:=Ac (HFA.out _ (fun h=>absurd h (by omega)) (fun _=>rfl) (fun _ h=>absurd e3 h))
   clear HFA;subst e3;obtain ⟨c1,c2,c3,c4,c5,c6⟩:=D3.cells;have H3:=H.keep (Aa D3.low Aj) (fun _ _ _ x=>x);have K3:=K.keep (Aa D3.low Aj) (fun _ _ _ x=>x);have HH:=Ac (show Bg .i64 W3.drew F _ m ln f from H3);have HK:=Ac (show Ints .i64 W3.drew G _ n g from K3);clear H3 K3;have HD:=Ac D3;clear D3;go_upto_region 6 with (fail)
   go_region_held3 (fun w'=>w'.cell? ⟨w.heap.size,0,none⟩=some (.slice ia m icap)/\w'.cell? ⟨w.heap.size+1,0,none⟩=some (.slice ua n ucap)/\w'.cell? ⟨w.heap.size+1,1,none⟩=some (.i bank)) (first | assumption | go_keep) (first
    | (go_at_call 123; refine (Kj _ _ _).mono ?_; rintro e W5 ⟨rfl,rfl⟩)
    | (go_at_call 124; refine (Gh _ F G _ _ m ln f n g bank (IntKind.i64.wrap (x+2)) (Ae HH4) (Ae HK4)).mono ?_; rintro e W5 ⟨rfl,L5⟩; rw [HQ2.out]; have D5:=(Ae HD).below (Ah L4 L5); obtain ⟨q1,q2,q3,q4,q5,q6⟩:=D5.cells; have D6:=D5.put (peekV m ln f n g bank (x+1)%256+256*(peekV m ln f n g bank (x+2)%256)); obtain ⟨r1,r2,r3,r4,r5,r6⟩:=D6.cells; have HD6:=Ac D6; clear D5 D6 L5)
    | (go_at_call 124; refine (Gh _ F G _ _ m ln f n g bank (IntKind.i64.wrap (x+1)) (Ae HH) (Ae HK)).mono ?_; rintro e W4 ⟨rfl,L4'⟩; rw [HQ1.out]; have L4:Below W3.heap.size W3 W4:=Below.trans (⟨rfl,rfl,rfl,Nat.le_refl _,fun _ _=>rfl⟩:Below W3.heap.size W3 W3.drew) L4'; have D4:=(Ae HD).below L4; obtain ⟨k1,k2,k3,k4,k5,k6⟩:=D4.cells; have HH4:=Ac ((Ae HH).keep (Aa L4' Aj) (fun _ _ _ x=>x)); have HK4:=Ac ((Ae HK).keep (Aa L4' Aj) (fun _ _ _ x=>x)); clear L4' D4))
   all_goals
    have D6:=Ae HD6;generalize W5.sc p 1 (.i (peekV m ln f n g bank (x+1)%256+256*(peekV m ln f n g bank (x+2)%256)))=W6 at *;have d1:=Af D6.res;have d2:=Af D6.out;have d3:=Au D6.res;go_wp2;refine bodyPost_ret (v:=.agg #[.i op,.i (peekV m ln f n g bank (x+1)%256+256*(peekV m ln f n g bank (x+2)%256))]) (by simp [results,results89,go_sem,d1]) rfl ?_;exact ⟨by rw [HE.out,HOE.out],(D6.low.setCell (by simp; omega) _).setCell (by simp; omega) _⟩
  .have e3':(len==3)=false:=by simpa using e3
   have HE:=Ac (HFA.out 0 (fun h=>absurd h e2) (fun h=>absurd h e3) (fun _ _=>rfl));clear e2 e3 HFA;have d1:=Af D3.res;have d2:=Af D3.out;have d3:=Au D3.res;go_wp2;refine bodyPost_ret (v:=.agg #[.i op,.i 0]) (by simp [results,results89,go_sem,d1]) rfl ?_;exact ⟨by rw [HE.out,HOE.out],(D3.low.setCell (by simp; omega) _).setCell (by simp; omega) _⟩
theorem Wv (w:World) (op arg A X S Pc:Int) (Z N C I:Bool):Calls prog 90 #[.agg #[.i op,.i arg],.agg (cR A X S Pc Z N C I)] w
  fun e w'=>e=.returned (.tuple #[.i (Ch op),.i (Gv op arg X),.i (N1 op A)])/\Below w.heap.size w w':=by
 have L0:Below w.heap.size w ((w.alloc (.cells #[.i op,.i arg] 49)).alloc (.cells (cR A X S Pc Z N C I) 31)):=((Below.refl _ _).alloc (Nat.le_refl _) _).alloc (by simp) _
 have LD:∀ d,Below w.heap.size w (((w.alloc (.cells #[.i op,.i arg] 49)).alloc (.cells (cR A X S Pc Z N C I) 31)).drewN d):=fun d=>L0.trans ⟨rfl,rfl,rfl,Nat.le_refl _,fun _ _=>rfl⟩
 have hw:wrap64 (arg+X)%65536=(arg+X)%65536:=by unfold wrap64; omega
 have HW:=Ac hw;clear hw
 by_cases h2:op=2
 .subst h2
  go_enter func90,ntmps90
  go_wp2_with (first | (go_at_call 126; refine (Eh _ _).mono ?_; rintro e w' ⟨rfl,rfl⟩; rw [show Ch 2=1 from rfl]) | (go_at_call 127; refine (Cv _ _).mono ?_; rintro e w' ⟨rfl,rfl⟩))
  go_ret3
  exact ⟨rfl,L0⟩
 .by_cases h14:op=14
  .subst h14
   go_enter func90,ntmps90
   go_wp2_with (first | (go_at_call 126; refine (Eh _ _).mono ?_; rintro e w' ⟨rfl,rfl⟩; rw [show Ch 14=1 from rfl]) | (go_at_call 127; refine (Cv _ _).mono ?_; rintro e w' ⟨rfl,rfl⟩; rw [HW.out]))
   go_ret3
   exact ⟨rfl,L0⟩
  .by_cases h29:op=29
   .subst h29
    go_enter func90,ntmps90
    go_wp2_with (first | (go_at_call 126; refine (Eh _ _).mono ?_; rintro e w' ⟨rfl,rfl⟩; rw [show Ch 29=1 from rfl]) | (go_at_call 127; refine (Cv _ _).mono ?_; rintro e w' ⟨rfl,rfl⟩))
    go_ret3
    exact ⟨rfl,L0⟩
   .by_cases h3:op=3
    .subst h3
     go_enter func90,ntmps90
     go_wp2_with (go_at_call 126; refine (Eh _ _).mono ?_; rintro e w' ⟨rfl,rfl⟩; rw [show Ch 3=2 from rfl])
     go_quiet (first | (go_at_call 127; exact Calls.quiet_of_same (Cv _ _)) | (go_at_call 128; exact Calls.quiet_of_same (Bo _ _)))
     go_wp2
     go_ret3
     exact ⟨rfl,LD _⟩
    .by_cases h15:op=15
     .subst h15
      go_enter func90,ntmps90
      go_wp2_with (go_at_call 126; refine (Eh _ _).mono ?_; rintro e w' ⟨rfl,rfl⟩; rw [show Ch 15=2 from rfl])
      go_quiet (first | (go_at_call 127; exact Calls.quiet_of_same (Cv _ _)) | (go_at_call 128; exact Calls.quiet_of_same (Bo _ _)))
      go_wp2
      go_ret3
      exact ⟨by rw [HW.out]; rfl,LD _⟩
     .have h0:Ch op=0:=by unfold Ch; rw [if_neg (by omega),if_neg (by omega)]
      have HA:Hid (Gv op arg X=0/\N1 op A=0):=by show _/\_; unfold Gv N1; rw [h0]; exact ⟨rfl,rfl⟩
      go_enter func90,ntmps90
      go_wp2_with (go_at_call 126; refine (Eh _ _).mono ?_; rintro e w' ⟨rfl,rfl⟩; rw [h0])
      go_ret3
      exact ⟨by rw [h0,HA.out.1,HA.out.2]; rfl,L0⟩
theorem Rw (w:World) (d:Nat) (v0 v1 v2 v3 v4 v5 v6 v7:Value) {b o:Nat} (h:b≠d):((((((((w.setCell ⟨d,0,none⟩ (v0)).setCell ⟨d,1,none⟩ (v1)).setCell ⟨d,2,none⟩ (v2)).setCell ⟨d,3,none⟩ (v3)).setCell ⟨d,4,none⟩ (v4)).setCell ⟨d,5,none⟩ (v5)).setCell ⟨d,6,none⟩ (v6)).setCell ⟨d,7,none⟩ (v7)).cell? ⟨b,o,none⟩=w.cell? ⟨b,o,none⟩:=by
 have e:∀ (W:World) (k:Nat) (v:Value),(W.sc d k v).cell? ⟨b,o,none⟩=W.cell? ⟨b,o,none⟩:=fun W k v=>World.cell?_setCell_other _ _ _ _ (fun e=>h (congrArg Addr.block e).symm)
 rw [e,e,e,e,e,e,e,e]
theorem Ww (w:World) (F:Nat->Nat->Prop) (v:Value) (m:Nat) (ln:Nat->Nat) (f:Nat->Nat->Int) (H:Bg .i64 w F v m ln f) :
  Calls prog 105 #[.agg #[v]] w fun e w'=>e=.returned (.agg (cR 0 0 255 (Uk m ln f) false false false true))/\Below w.heap.size w w':=by
 obtain ⟨ia,icap,rfl,im,iF,iR⟩:=H
 have H:Bg .i64 w F (.slice ia m icap) m ln f:=⟨ia,icap,rfl,im,iF,iR⟩
 clear iF iR;have C0:Below w.heap.size w ((w.alloc (.cells #[.slice ia m icap] 26)).alloc (.cells cZ 31)):=((Below.refl _ _).alloc (Nat.le_refl _) _).alloc (by simp) _;have k0:((w.alloc (.cells #[.slice ia m icap] 26)).alloc (.cells cZ 31)).heap[w.heap.size]?=some (.cells #[.slice ia m icap] 26 (0,0)):=Az (Ak w _ _) _
 have k1:((w.alloc (.cells #[.slice ia m icap] 26)).alloc (.cells cZ 31)).heap[w.heap.size+1]?=some (.cells cZ 31 (0,0)):=by simpa using Ak (w.alloc (.cells #[.slice ia m icap] 26)) cZ 31
 have HPC:Hid (Uk m ln f=(peekV m ln f 512 (fun _=>0) 0 65532%256+256*(peekV m ln f 512 (fun _=>0) 0 65533%256))):=rfl
 go_enter func105,ntmps105
 go_wp2_with fail;generalize ((w.alloc (.cells #[.slice ia m icap] 26)).alloc (.cells cZ 31))=W0 at *;refine (Nw _).mono ?_;rintro e W1 ⟨q,rfl,O1,L⟩;obtain ⟨qa,qc,hq,-,qr,-,-⟩:=id O1;subst hq;have LB:Below W1.heap.size W1 (W1.alloc (.cells #[.slice qa 512 qc,.i 0] 29)):=(Below.refl _ _).alloc (Nat.le_refl _) _;have C1:=Ah C0 L;have C2:=Ah C1 LB
 have B2:(W1.alloc (.cells #[.slice qa 512 qc,.i 0] 29)).heap[w.heap.size]?=some (.cells #[.slice ia m icap] 26 (0,0))/\(W1.alloc (.cells #[.slice qa 512 qc,.i 0] 29)).heap[w.heap.size+1]?=some (.cells cZ 31 (0,0))/\(W1.alloc (.cells #[.slice qa 512 qc,.i 0] 29)).heap[W1.heap.size]?=some (.cells #[.slice qa 512 qc,.i 0] 29 (0,0)) :=
  ⟨Az (Ab k0 L (Ad k0)) _,Az (Ab k1 L (Ad k1)) _,Ak _ _ _⟩
 have hf:w.heap.size+1<W1.heap.size:=Ad (Ab k1 L (Ad k1));have H2:=H.keep (Aa C2 Aj) (fun _ _ _ x=>x);have K2:Ints .i64 (W1.alloc (.cells #[.slice qa 512 qc,.i 0] 29)) (fun _ _=>True) (.slice qa 512 qc) 512 (fun _=>0):=Ints.keep (F:=fun _ _=>True) ⟨_,_,rfl,by omega,qr,fun _ _ _=>trivial⟩ (Aa LB Aj) (fun _ _ _ x=>x);clear C0 k0 k1 O1 L LB C1 qr;go_upto_region 2 with (fail);generalize hp:W1.heap.size=p at *;generalize (W1.alloc (.cells #[.slice qa 512 qc,.i 0] 29))=W3 at *;clear hp;have HH:=Ac (show Bg .i64 W3.drew F _ m ln f from H2);have HK:=Ac (show Ints .i64 W3.drew (fun _ _=>True) _ 512 (fun _=>0) from K2);have HT1:=Ac (Gh W3.drew F (fun _ _=>True) (.slice ia m icap) (.slice qa 512 qc) m ln f 512 (fun _=>0) 0 65532 (Ae HH) (Ae HK))
 have c1:W3.cell? ⟨w.heap.size,0,none⟩=some (.slice ia m icap):=Af B2.1 0;have c2:W3.cell? ⟨p,0,none⟩=some (.slice qa 512 qc):=Af B2.2.2 0;have c3:W3.cell? ⟨p,1,none⟩=some (.i 0):=Af B2.2.2 1;have HB:=Ac B2;clear H2 K2 B2
 go_region_held3 (fun w'=>w'.cell? ⟨w.heap.size,0,none⟩=some (.slice ia m icap)/\w'.cell? ⟨p,0,none⟩=some (.slice qa 512 qc)/\w'.cell? ⟨p,1,none⟩=some (.i 0)) (first | (with_reducible assumption) | (refine ⟨?_,?_,?_⟩ <;> with_reducible assumption) | go_keep) (first
  | (go_at_call 123; refine (Kj _ _ _).mono ?_; rintro e W5 ⟨rfl,rfl⟩)
  | (go_at_call 124; refine (Ae HT2).mono ?_; rintro e W5 ⟨rfl,L5⟩; have C5:=Ah L4 L5; have B5:W5.heap[w.heap.size]?=some (.cells #[.slice ia m icap] 26 (0,0))/\W5.heap[w.heap.size+1]?=some (.cells cZ 31 (0,0))/\W5.heap[p]?=some (.cells #[.slice qa 512 qc,.i 0] 29 (0,0)):=⟨Ab (Ae HB).1 C5 (Ad (Ae HB).1),Ab (Ae HB).2.1 C5 (Ad (Ae HB).2.1),Ab (Ae HB).2.2 C5 (Ad (Ae HB).2.2)⟩; have r1:=Af B5.2.1; have rf:=Au B5.2.1; have g1:W5.cell? ⟨w.heap.size,0,none⟩=some (.slice ia m icap):=Af B5.1 0; have g1':((((((((W5.sc (w.heap.size+1) 0 (.i 0)).sc (w.heap.size+1) 1 (.i 0)).sc (w.heap.size+1) 2 (.i 255)).sc (w.heap.size+1) 3 (.i (peekV m ln f 512 (fun _=>0) 0 65532%256+256*(peekV m ln f 512 (fun _=>0) 0 65533%256)))).sc (w.heap.size+1) 4 (.bool false)).sc (w.heap.size+1) 5 (.bool false)).sc (w.heap.size+1) 6 (.bool false)).sc (w.heap.size+1) 7 (.bool true)).cell? ⟨w.heap.size,0,none⟩=some (.slice ia m icap):=(Rw W5 (w.heap.size+1) _ _ _ _ _ _ _ _ (by omega)).trans g1; have g2:W5.cell? ⟨p,0,none⟩=some (.slice qa 512 qc):=Af B5.2.2 0; have g2':((((((((W5.sc (w.heap.size+1) 0 (.i 0)).sc (w.heap.size+1) 1 (.i 0)).sc (w.heap.size+1) 2 (.i 255)).sc (w.heap.size+1) 3 (.i (peekV m ln f 512 (fun _=>0) 0 65532%256+256*(peekV m ln f 512 (fun _=>0) 0 65533%256)))).sc (w.heap.size+1) 4 (.bool false)).sc (w.heap.size+1) 5 (.bool false)).sc (w.heap.size+1) 6 (.bool false)).sc (w.heap.size+1) 7 (.bool true)).cell? ⟨p,0,none⟩=some (.slice qa 512 qc):=(Rw W5 (w.heap.size+1) _ _ _ _ _ _ _ _ (by omega)).trans g2; have g3:W5.cell? ⟨p,1,none⟩=some (.i 0):=Af B5.2.2 1; have g3':((((((((W5.sc (w.heap.size+1) 0 (.i 0)).sc (w.heap.size+1) 1 (.i 0)).sc (w.heap.size+1) 2 (.i 255)).sc (w.heap.size+1) 3 (.i (peekV m ln f 512 (fun _=>0) 0 65532%256+256*(peekV m ln f 512 (fun _=>0) 0 65533%256)))).sc (w.heap.size+1) 4 (.bool false)).sc (w.heap.size+1) 5 (.bool false)).sc (w.heap.size+1) 6 (.bool false)).sc (w.heap.size+1) 7 (.bool true)).cell? ⟨p,1,none⟩=some (.i 0):=(Rw W5 (w.heap.size+1) _ _ _ _ _ _ _ _ (by omega)).trans g3; clear B5 L5)
  | (go_at_call 124; refine (Ae HT1).mono ?_; rintro e W4 ⟨rfl,L4'⟩; have L4:Below W3.heap.size W3 W4:=Below.trans (⟨rfl,rfl,rfl,Nat.le_refl _,fun _ _=>rfl⟩:Below W3.heap.size W3 W3.drew) L4'; have k1:W4.cell? ⟨w.heap.size,0,none⟩=some (.slice ia m icap):=Af (Ab (Ae HB).1 L4 (Ad (Ae HB).1)) 0; have k2:W4.cell? ⟨p,0,none⟩=some (.slice qa 512 qc):=Af (Ab (Ae HB).2.2 L4 (Ad (Ae HB).2.2)) 0; have k3:W4.cell? ⟨p,1,none⟩=some (.i 0):=Af (Ab (Ae HB).2.2 L4 (Ad (Ae HB).2.2)) 1; have HH4:=Ac ((Ae HH).keep (Aa L4' Aj) (fun _ _ _ x=>x)); have HK4:=Ac ((Ae HK).keep (Aa L4' Aj) (fun _ _ _ x=>x)); have HT2:=Ac (Gh W4 F (fun _ _=>True) (.slice ia m icap) (.slice qa 512 qc) m ln f 512 (fun _=>0) 0 65533 (Ae HH4) (Ae HK4)); clear L4'))
 all_goals
  go_wp2;refine bodyPost_ret (v:=.agg (cR 0 0 255 (peekV m ln f 512 (fun _=>0) 0 65532%256+256*(peekV m ln f 512 (fun _=>0) 0 65533%256)) false false false true)) (by simp [results,results105,go_sem,r1]) rfl ?_;exact ⟨by rw [HPC.out],(C2.trans (C5.mono C2.size)).trans ((Mg W5 (w.heap.size+1) _ _ _ _ _ _ _ _).mono (by omega))⟩
set_option maxHeartbeats 2000000
set_option maxRecDepth 20000
set_option linter.unusedSimpArgs false
def B4 (g:Nat->Int) (S v:Int):Nat->Int:=Fq g (256+(S%256).toNat) (v%256)
theorem N2 {W:World} {d:Nat} {T:TypeId} {u0 u1:Value} (h:W.heap[d]?=some (.cells #[u0,u1] T (0,0))) (v0 v1:Value):((W.setCell ⟨d,0,none⟩ v0).setCell ⟨d,1,none⟩ v1).heap[d]?=some (.cells #[v0,v1] T (0,0)):=by
 simp [World.setCell,Array.getElem?_modify,h]
theorem Mi {W:World} {d:Nat} {T:TypeId} {u0 u1 u2 u3 u4 u5 u6 u7:Value} (h:W.heap[d]?=some (.cells #[u0,u1,u2,u3,u4,u5,u6,u7] T (0,0))) (v0 v1 v2 v3 v4 v5 v6 v7:Value):((((((((W.setCell ⟨d,0,none⟩ v0).setCell ⟨d,1,none⟩ v1).setCell ⟨d,2,none⟩ v2).setCell ⟨d,3,none⟩ v3).setCell ⟨d,4,none⟩ v4).setCell ⟨d,5,none⟩ v5).setCell ⟨d,6,none⟩ v6).setCell ⟨d,7,none⟩ v7).heap[d]?=some (.cells #[v0,v1,v2,v3,v4,v5,v6,v7] T (0,0)):=by
 simp [World.setCell,Array.getElem?_modify,h]
theorem Hw {w:World} {b d:Nat} {ob:Obj} (h:w.heap[b]?=some ob) (hd:b≠d) (v0 v1 v2 v3 v4 v5 v6 v7:Value):((((((((w.setCell ⟨d,0,none⟩ v0).setCell ⟨d,1,none⟩ v1).setCell ⟨d,2,none⟩ v2).setCell ⟨d,3,none⟩ v3).setCell ⟨d,4,none⟩ v4).setCell ⟨d,5,none⟩ v5).setCell ⟨d,6,none⟩ v6).setCell ⟨d,7,none⟩ v7).heap[b]?=some ob :=
 Ay (Ay (Ay (Ay (Ay (Ay (Ay (Ay h hd) hd) hd) hd) hd) hd) hd) hd
theorem Fc (W:World):Below W.heap.size W W.drew:=⟨rfl,rfl,rfl,Nat.le_refl _,fun _ _=>rfl⟩
theorem Fv (w:World) (G:Nat->Nat->Prop) (u:Value) (g:Nat->Int) (bank:Int) (K:Ints .i64 w G u 512 g) (A X S Pc:Int) (Z N C I:Bool) (v:Int) :
  Calls prog 122 #[.agg #[u,.i bank],.agg (cR A X S Pc Z N C I),.i v] w fun e w'=>∃ q,e=.returned (.tuple #[.agg #[q,.i bank],.agg (cR A X ((S-1)%256) Pc Z N C I)])/\Ao w' w.heap.size q 512 (B4 g S v)/\Below w.heap.size w w':=by
 have L0:∀ ua ucap,Below w.heap.size w ((((w.alloc (.cells #[.slice ua 512 ucap,.i bank] 29)).alloc (.cells (cR A X S Pc Z N C I) 31)).alloc (.cells mZ 29)).alloc (.cells cZ 31)):=fun ua ucap=>((((Below.refl _ _).alloc (Nat.le_refl _) _).alloc (by simp) _).alloc (by simp; omega) _).alloc (by simp; omega) _
 obtain ⟨ua,ucap,rfl,un,hrow,-⟩:=K;replace L0:=L0 ua ucap;have hrow0:=hrow.keep (Aa L0 Aj) (fun _ _ _ x=>x);have k3:((((w.alloc (.cells #[.slice ua 512 ucap,.i bank] 29)).alloc (.cells (cR A X S Pc Z N C I) 31)).alloc (.cells mZ 29)).alloc (.cells cZ 31)).heap[w.heap.size]?=some (.cells #[.slice ua 512 ucap,.i bank] 29 (0,0)):=Az (Az (Az (Ak w _ _) _) _) _
 have k4:((((w.alloc (.cells #[.slice ua 512 ucap,.i bank] 29)).alloc (.cells (cR A X S Pc Z N C I) 31)).alloc (.cells mZ 29)).alloc (.cells cZ 31)).heap[w.heap.size+1]?=some (.cells (cR A X S Pc Z N C I) 31 (0,0)):=by simpa using Az (Az (Ak (w.alloc (.cells #[.slice ua 512 ucap,.i bank] 29)) (cR A X S Pc Z N C I) 31) (.cells mZ 29)) (.cells cZ 31)
 have k6:((((w.alloc (.cells #[.slice ua 512 ucap,.i bank] 29)).alloc (.cells (cR A X S Pc Z N C I) 31)).alloc (.cells mZ 29)).alloc (.cells cZ 31)).heap[w.heap.size+1+1]?=some (.cells mZ 29 (0,0)):=by simpa using Az (Ak ((w.alloc (.cells #[.slice ua 512 ucap,.i bank] 29)).alloc (.cells (cR A X S Pc Z N C I) 31)) mZ 29) (.cells cZ 31)
 have k7:((((w.alloc (.cells #[.slice ua 512 ucap,.i bank] 29)).alloc (.cells (cR A X S Pc Z N C I) 31)).alloc (.cells mZ 29)).alloc (.cells cZ 31)).heap[w.heap.size+1+1+1]?=some (.cells cZ 31 (0,0)):=by simpa using Ak (((w.alloc (.cells #[.slice ua 512 ucap,.i bank] 29)).alloc (.cells (cR A X S Pc Z N C I) 31)).alloc (.cells mZ 29)) cZ 31
 go_enter func122,ntmps122
 go_wp2_with fail;generalize ((((w.alloc (.cells #[.slice ua 512 ucap,.i bank] 29)).alloc (.cells (cR A X S Pc Z N C I) 31)).alloc (.cells mZ 29)).alloc (.cells cZ 31))=W0 at *;refine (Nv _ (fun _ _=>True) (.slice ua 512 ucap) 512 g bank ⟨_,_,rfl,by omega,hrow0,fun _ _ _=>trivial⟩).mono ?_;rintro e W1 ⟨q,rfl,O1,L1⟩;obtain ⟨qa,qc,rfl,-,hq,hF,hlo⟩:=O1;obtain ⟨b,o,rfl,-⟩:=hq 0 (by omega)
 have O1:Ao W1 W0.heap.size (.slice (some ⟨b,o,none⟩) 512 qc) 512 g:=⟨_,_,rfl,by omega,hq,hF,hlo⟩
 have LA:Below W1.heap.size W1 (W1.alloc (.cells #[.slice (some ⟨b,o,none⟩) 512 qc,.i bank] 29)):=(Below.refl _ _).alloc (Nat.le_refl _) _;have L2:=L1.trans (LA.mono L1.size);have k8:=Ak W1 #[.slice (some ⟨b,o,none⟩) 512 qc,.i bank] 29;have hb:=O1.cellAt 0 (by omega)
 have hb8:b≠W1.heap.size:=by omega
 have hW0:w.heap.size+1+1+1<W0.heap.size:=Ad k7;have h1z:=L1.size;have h7:=Ad k7;replace O1:=O1.keepL LA;replace k3:=Ab k3 L2 (Ad k3);replace k4:=Ab k4 L2 (Ad k4);replace k6:=Ab k6 L2 (Ad k6);replace k7:=Ab k7 L2 (Ad k7);have C2:=Ah L0 L2
 have hz8:w.heap.size+1+1+1<W1.heap.size:=by omega
 have hbl:w.heap.size+1+1+1<b:=by omega
 clear L1 L2 LA hrow hrow0 hq hF hlo L0 h1z h7 hb;have c3:=Af k3;go_upto_region 4 with (fail)
 obtain ⟨z,hz⟩:∃ z,Hid (z=W1.heap.size):=⟨_,rfl⟩
 generalize W1.alloc (.cells #[.slice (some ⟨b,o,none⟩) 512 qc,.i bank] 29)=W2 at *;rw [<- hz.out] at k8 hb8 hz8 ⊢;clear hz c3
 have D2:Below W2.heap.size W2 W2.drew:=⟨rfl,rfl,rfl,Nat.le_refl _,fun _ _=>rfl⟩
 replace k4:=Ab k4 D2 (Ad k4);replace k6:=Ab k6 D2 (Ad k6);replace k7:=Ab k7 D2 (Ad k7);replace k8:=Ab k8 D2 (Ad k8);replace O1:=O1.keepL D2;replace C2:=Ah C2 D2
 obtain ⟨i,hi⟩:∃ i:Nat,S%256=i:=⟨(S%256).toNat,by omega⟩
 obtain ⟨k,hk⟩:∃ k:Nat,k=256+i:=⟨_,rfl⟩
 have hks:(256:Int)+(i:Int)=(k:Int):=by omega
 have hkl:(k:Int)<512:=by omega
 have hwk:IntKind.i64.wrap (k:Int)=(k:Int):=by rw [IntKind.wrap_i64]; omega
 have HP:Hid (B4 g S v=Fq g k (v%256)):=by
  show _=_
  unfold B4;rw [show 256+(S%256).toNat=k by omega]
 have hcell:=O1.cellAt k (by omega);have cb:=hcell.1;have fb:=hcell.2.1;have OP:=Ac (O1.put k (by omega) (v%256));have c4:=Af k4;have c8:=Af k8;have HS:=Ac (fun W=>Bo S W);have HV:=Ac (fun W=>Bo v W);rw [hi] at HS;clear hi hk hcell
 go_cut [22] (fun sl WX=>WX=(W2.setCell ⟨b,o+k,none⟩ (.i (v%256))).drew)
 case first =>
  go_region_with (first | (go_at_call 128; refine (Ae HS _).mono ?_; rintro e w1 ⟨rfl,rfl⟩) | (go_at_call 128; refine (Ae HV _).mono ?_; rintro e w1 ⟨rfl,rfl⟩))
  all_goals (
   go_wp2_with fail
   go_meet
   exact rfl)
 case rest =>
 subst hcut;have O3:Ao ((W2.setCell ⟨b,o+k,none⟩ (.i (v%256))).drew) W0.heap.size (.slice (some ⟨b,o,none⟩) 512 qc) 512 (Fq g k (v%256)):=OP.out;have j4:((W2.setCell ⟨b,o+k,none⟩ (.i (v%256))).drew).heap[w.heap.size+1]?=_:=Ay k4 (by omega);have j6:((W2.setCell ⟨b,o+k,none⟩ (.i (v%256))).drew).heap[w.heap.size+1+1]?=_:=Ay k6 (by omega);have j7:((W2.setCell ⟨b,o+k,none⟩ (.i (v%256))).drew).heap[w.heap.size+1+1+1]?=_:=Ay k7 (by omega);have j8:((W2.setCell ⟨b,o+k,none⟩ (.i (v%256))).drew).heap[z]?=_:=Ay k8 (Ne.symm hb8)
 have C3:Below w.heap.size w ((W2.setCell ⟨b,o+k,none⟩ (.i (v%256))).drew):=(C2.setCell (p:=⟨b,o+k,none⟩) (by simp; omega) (.i (v%256)))
 clear OP k4 k6 k7 k8 C2 O1 cb fb c4 c8 HS HV;generalize (W2.setCell ⟨b,o+k,none⟩ (.i (v%256))).drew=W3 at *;have hw:=Qs (S-1);have c4:=Af j4;have f4:=Au j4;go_wp2_with fail;refine (Bo _ _).mono ?_;rintro e w4 ⟨rfl,rfl⟩;rw [hw];go_upto_region 6 with (fail);clear c4 f4 hw
 obtain ⟨s',hs'⟩:∃ s',Hid (s'=(S-1)%256):=⟨_,rfl⟩
 rw [<- hs'.out]
 have i4:(w4.setCell ⟨w.heap.size+1,2,none⟩ (.i s')).heap[w.heap.size+1]?=some (.cells (cR A X s' Pc Z N C I) 31 (0,0)):=by simpa using Am (o:=2) j4 (.i s')
 have i6:(w4.setCell ⟨w.heap.size+1,2,none⟩ (.i s')).heap[w.heap.size+1+1]?=_:=Ay j6 (by omega);have i7:(w4.setCell ⟨w.heap.size+1,2,none⟩ (.i s')).heap[w.heap.size+1+1+1]?=_:=Ay j7 (by omega);have i8:(w4.setCell ⟨w.heap.size+1,2,none⟩ (.i s')).heap[z]?=_:=Ay j8 (by omega);have hl0:w.heap.size+1+1+1<W0.heap.size:=hW0;have O4:=O3.setLow (d:=w.heap.size+1) (o:=2) (by omega) (.i s');have C4:Below w.heap.size w (w4.setCell ⟨w.heap.size+1,2,none⟩ (.i s')):=C3.setCell (p:=⟨w.heap.size+1,2,none⟩) (by simp) (.i s');generalize w4.setCell ⟨w.heap.size+1,2,none⟩ (.i s')=W5 at *;clear j4 j6 j7 j8 O3 C3
 have r6:=fun (x0 x1 y0 y1 y2 y3 y4 y5 y6 y7:Value)=>Af (Hw (N2 i6 x0 x1) (show w.heap.size+1+1≠w.heap.size+1+1+1 by omega) y0 y1 y2 y3 y4 y5 y6 y7)
 have r7:=fun (x0 x1 y0 y1 y2 y3 y4 y5 y6 y7:Value)=>Af (Mi (Ay (Ay (x:=x0) (o:=0) i7 (show w.heap.size+1+1+1≠w.heap.size+1+1 by omega)) (x:=x1) (o:=1) (show w.heap.size+1+1+1≠w.heap.size+1+1 by omega)) y0 y1 y2 y3 y4 y5 y6 y7)
 have c4:=Af i4;have c8:=Af i8;have c6:=Af i6;have c7:=Af i7;have f6:=Au i6;have f7:=Au i7
 have FIN:∀ (x0 x1 y0 y1 y2 y3 y4 y5 y6 y7:Value),Ao (((((((((((W5.setCell ⟨w.heap.size+1+1,0,none⟩ x0).setCell ⟨w.heap.size+1+1,1,none⟩ x1).setCell ⟨w.heap.size+1+1+1,0,none⟩ y0).setCell ⟨w.heap.size+1+1+1,1,none⟩ y1).setCell ⟨w.heap.size+1+1+1,2,none⟩ y2).setCell ⟨w.heap.size+1+1+1,3,none⟩ y3).setCell ⟨w.heap.size+1+1+1,4,none⟩ y4).setCell ⟨w.heap.size+1+1+1,5,none⟩ y5).setCell ⟨w.heap.size+1+1+1,6,none⟩ y6).setCell ⟨w.heap.size+1+1+1,7,none⟩ y7).drew) w.heap.size (.slice (some ⟨b,o,none⟩) 512 qc) 512 (Fq g k (v%256))/\Below w.heap.size w (((((((((((W5.setCell ⟨w.heap.size+1+1,0,none⟩ x0).setCell ⟨w.heap.size+1+1,1,none⟩ x1).setCell ⟨w.heap.size+1+1+1,0,none⟩ y0).setCell ⟨w.heap.size+1+1+1,1,none⟩ y1).setCell ⟨w.heap.size+1+1+1,2,none⟩ y2).setCell ⟨w.heap.size+1+1+1,3,none⟩ y3).setCell ⟨w.heap.size+1+1+1,4,none⟩ y4).setCell ⟨w.heap.size+1+1+1,5,none⟩ y5).setCell ⟨w.heap.size+1+1+1,6,none⟩ y6).setCell ⟨w.heap.size+1+1+1,7,none⟩ y7).drew):=fun x0 x1 y0 y1 y2 y3 y4 y5 y6 y7=>⟨((show Ao ((((((((((W5.setCell ⟨w.heap.size+1+1,0,none⟩ x0).setCell ⟨w.heap.size+1+1,1,none⟩ x1).setCell ⟨w.heap.size+1+1+1,0,none⟩ y0).setCell ⟨w.heap.size+1+1+1,1,none⟩ y1).setCell ⟨w.heap.size+1+1+1,2,none⟩ y2).setCell ⟨w.heap.size+1+1+1,3,none⟩ y3).setCell ⟨w.heap.size+1+1+1,4,none⟩ y4).setCell ⟨w.heap.size+1+1+1,5,none⟩ y5).setCell ⟨w.heap.size+1+1+1,6,none⟩ y6).setCell ⟨w.heap.size+1+1+1,7,none⟩ y7) W0.heap.size _ _ _ from ((((((((((O4.setLow (by omega) _).setLow (by omega) _).setLow (by omega) _).setLow (by omega) _).setLow (by omega) _).setLow (by omega) _).setLow (by omega) _).setLow (by omega) _).setLow (by omega) _).setLow (by omega) _)).mono (by omega)).keepL (Fc _),Ah (C4.trans ((((Below.refl _ _).setCell (p:=⟨w.heap.size+1+1,0,none⟩) (by simp; omega) _).setCell (p:=⟨w.heap.size+1+1,1,none⟩) (by simp; omega) _).trans ((Mg _ (w.heap.size+1+1+1) _ _ _ _ _ _ _ _).mono (by omega)))) (Fc _)⟩
 have HF:=Ac FIN;clear O4 C4 FIN i4 i6 i7 i8
 go_region
 all_goals (
  go_wp2;refine bodyPost_ret (v:=.tuple #[.agg #[.slice (some ⟨b,o,none⟩) 512 qc,.i bank],.agg (cR A X s' Pc Z N C I)]) (by simp [results,results122,go_sem,r6,r7]) rfl ?_;refine ⟨_,by rw [hs'.out],?_⟩;rw [HP.out]
  with_reducible exact HF.out _ _ _ _ _ _ _ _ _ _)
set_option maxHeartbeats 4000000
set_option maxRecDepth 20000
def dec8 (S:Int):Int:=(S-1)%256
def enterG (g:Nat->Int) (S Pc:Int) (Z N C I:Bool):Nat->Int:=B4 (B4 (B4 g S (Pc/256)) (dec8 S) Pc) (dec8 (dec8 S)) (flagsOf Z N C I)
def E7 (m:Nat) (ln:Nat->Nat) (f:Nat->Nat->Int) (g:Nat->Int) (bank x:Int):Int:=peekV m ln f 512 g bank x%256+256*(peekV m ln f 512 g bank (x+1)%256)
structure EN (w V:World) (z:Nat) (iv:Value) (lo:Nat) (qa:Option Addr) (qc:Nat) (g:Nat->Int) (bank A X S Pc:Int) (Z N C I:Bool):Prop where
 img:V.heap[w.heap.size]?=some (.cells #[iv] 26 (0,0))
 cpu:V.heap[w.heap.size+1+1]?=some (.cells (cR A X S Pc Z N C I) 31 (0,0))
 rm:V.heap[w.heap.size+1+1+1]?=some (.cells mZ 29 (0,0))
 rc:V.heap[w.heap.size+1+1+1+1]?=some (.cells cZ 31 (0,0))
 out:V.heap[z]?=some (.cells #[.slice qa 512 qc,.i bank] 29 (0,0))
 far:w.heap.size+1+1+1+1<z
 own:Ao V lo (.slice qa 512 qc) 512 g
 bel:Below w.heap.size w V
section
variable {w V V':World} {z:Nat} {iv:Value} {lo:Nat} {qa:Option Addr} {qc:Nat} {g:Nat->Int} {bank A X S Pc:Int} {Z N C I:Bool}
theorem EN.below (h:EN w V z iv lo qa qc g bank A X S Pc Z N C I) (L:Below V.heap.size V V'):EN w V' z iv lo qa qc g bank A X S Pc Z N C I :=
 ⟨Ab h.img L (Ad h.img),Ab h.cpu L (Ad h.cpu),Ab h.rm L (Ad h.rm),Ab h.rc L (Ad h.rc),Ab h.out L (Ad h.out),h.far,h.own.keepL L,Ah h.bel L⟩
theorem EN.ints (h:EN w V z iv lo qa qc g bank A X S Pc Z N C I):Ints .i64 V (fun _ _=>True) (.slice qa 512 qc) 512 g:=by
 obtain ⟨a,c,e,hn,hr,_,_⟩:=h.own;simp only [Value.slice.injEq,true_and] at e;obtain ⟨rfl,rfl⟩:=e;exact ⟨_,_,rfl,hn,hr,fun _ _ _=>trivial⟩
theorem EN.setI (h:EN w V z iv lo qa qc g bank A X S Pc Z N C I) (hl:w.heap.size+1+1<lo) (I':Bool):EN w (V.setCell ⟨w.heap.size+1+1,7,none⟩ (.bool I')) z iv lo qa qc g bank A X S Pc Z N C I':=by
 have hf:=h.far;exact ⟨Ay h.img (by omega),by simpa using Am (o:=7) h.cpu (.bool I'),Ay h.rm (by omega),Ay h.rc (by omega),Ay h.out (by omega),hf,h.own.setLow hl _,h.bel.setCell (p:=⟨w.heap.size+1+1,7,none⟩) (by simp; omega) _⟩
theorem EN.setPc (h:EN w V z iv lo qa qc g bank A X S Pc Z N C I) (hl:w.heap.size+1+1<lo) (P':Int):EN w (V.setCell ⟨w.heap.size+1+1,3,none⟩ (.i P')) z iv lo qa qc g bank A X S P' Z N C I:=by
 have hf:=h.far;exact ⟨Ay h.img (by omega),by simpa using Am (o:=3) h.cpu (.i P'),Ay h.rm (by omega),Ay h.rc (by omega),Ay h.out (by omega),hf,h.own.setLow hl _,h.bel.setCell (p:=⟨w.heap.size+1+1,3,none⟩) (by simp; omega) _⟩
theorem EN.pushed (h:EN w V z iv lo qa qc g bank A X S Pc Z N C I) {qa':Option Addr} {qc':Nat} {g':Nat->Int} (O:Ao V' V.heap.size (.slice qa' 512 qc') 512 g') (L:Below V.heap.size V V') (S':Int) :
  EN w ((((((((((V'.setCell ⟨z,0,none⟩ (.slice qa' 512 qc')).setCell ⟨z,1,none⟩ (.i bank)).setCell ⟨w.heap.size+1+1,0,none⟩ (.i A)).setCell ⟨w.heap.size+1+1,1,none⟩ (.i X)).setCell ⟨w.heap.size+1+1,2,none⟩ (.i S')).setCell ⟨w.heap.size+1+1,3,none⟩ (.i Pc)).setCell ⟨w.heap.size+1+1,4,none⟩ (.bool Z)).setCell ⟨w.heap.size+1+1,5,none⟩ (.bool N)).setCell ⟨w.heap.size+1+1,6,none⟩ (.bool C)).setCell ⟨w.heap.size+1+1,7,none⟩ (.bool I)) z iv V.heap.size qa' qc' g' bank A X S' Pc Z N C I:=by
 have m:=h.below L;have hf:=h.far;have hz:=Ad h.out
 have h2:z≠w.heap.size+1+1:=by omega
 refine ⟨Hw (Ay (Ay m.img (by omega)) (by omega)) (by omega) _ _ _ _ _ _ _ _,Mi (Ay (Ay m.cpu (by omega)) (by omega)) _ _ _ _ _ _ _ _,Hw (Ay (Ay m.rm (by omega)) (by omega)) (by omega) _ _ _ _ _ _ _ _,Hw (Ay (Ay m.rc (by omega)) (by omega)) (by omega) _ _ _ _ _ _ _ _,Hw (N2 m.out _ _) h2 _ _ _ _ _ _ _ _,hf,?_,?_⟩
 .exact ((((((((((O.setLow (by omega) _).setLow (by omega) _).setLow (by omega) _).setLow (by omega) _).setLow (by omega) _).setLow (by omega) _).setLow (by omega) _).setLow (by omega) _).setLow (by omega) _).setLow (by omega) _)
 .exact m.bel.trans ((((Below.refl w.heap.size V').setCell (p:=⟨z,0,none⟩) (by simp; omega) _).setCell (p:=⟨z,1,none⟩) (by simp; omega) _).trans ((Mg _ (w.heap.size+1+1) _ _ _ _ _ _ _ _).mono (by omega)))
end
theorem Jz (w:World) (F G:Nat->Nat->Prop) (iv u:Value) (m:Nat) (ln:Nat->Nat) (f:Nat->Nat->Int) (g:Nat->Int) (bank:Int) (H:Bg .i64 w F iv m ln f) (K:Ints .i64 w G u 512 g) (A X S Pc:Int) (Z N C I:Bool) (vec:Int) :
  Calls prog 88 #[.agg #[iv],.agg #[u,.i bank],.agg (cR A X S Pc Z N C I),.i vec] w fun e w'=>∃ q,e=.returned (.tuple #[.agg #[q,.i bank],.agg (cR A X (dec8 (dec8 (dec8 S))) (E7 m ln f (enterG g S Pc Z N C I) bank vec) Z N C true)])/\Ao w' w.heap.size q 512 (enterG g S Pc Z N C I)/\Below w.heap.size w w':=by
 have L0:∀ ua ucap,Below w.heap.size w (((((w.alloc (.cells #[iv] 26)).alloc (.cells #[.slice ua 512 ucap,.i bank] 29)).alloc (.cells (cR A X S Pc Z N C I) 31)).alloc (.cells mZ 29)).alloc (.cells cZ 31)):=fun ua ucap=>(((((Below.refl _ _).alloc (Nat.le_refl _) _).alloc (by simp) _).alloc (by simp; omega) _).alloc (by simp; omega) _).alloc (by simp; omega) _
 obtain ⟨ua,ucap,rfl,un,hrow,-⟩:=K;replace L0:=L0 ua ucap;have hrow0:=hrow.keep (Aa L0 Aj) (fun _ _ _ x=>x)
 have k4:(((((w.alloc (.cells #[iv] 26)).alloc (.cells #[.slice ua 512 ucap,.i bank] 29)).alloc (.cells (cR A X S Pc Z N C I) 31)).alloc (.cells mZ 29)).alloc (.cells cZ 31)).heap[w.heap.size]?=some (.cells #[iv] 26 (0,0)):=by simpa using Az (Az (Az (Az (Ak w #[iv] 26) (.cells #[.slice ua 512 ucap,.i bank] 29)) (.cells (cR A X S Pc Z N C I) 31)) (.cells mZ 29)) (.cells cZ 31)
 have k5:(((((w.alloc (.cells #[iv] 26)).alloc (.cells #[.slice ua 512 ucap,.i bank] 29)).alloc (.cells (cR A X S Pc Z N C I) 31)).alloc (.cells mZ 29)).alloc (.cells cZ 31)).heap[w.heap.size+1]?=some (.cells #[.slice ua 512 ucap,.i bank] 29 (0,0)):=by simpa using Az (Az (Az (Ak (w.alloc (.cells #[iv] 26)) #[.slice ua 512 ucap,.i bank] 29) (.cells (cR A X S Pc Z N C I) 31)) (.cells mZ 29)) (.cells cZ 31)
 have k6:(((((w.alloc (.cells #[iv] 26)).alloc (.cells #[.slice ua 512 ucap,.i bank] 29)).alloc (.cells (cR A X S Pc Z N C I) 31)).alloc (.cells mZ 29)).alloc (.cells cZ 31)).heap[w.heap.size+1+1]?=some (.cells (cR A X S Pc Z N C I) 31 (0,0)):=by simpa using Az (Az (Ak ((w.alloc (.cells #[iv] 26)).alloc (.cells #[.slice ua 512 ucap,.i bank] 29)) (cR A X S Pc Z N C I) 31) (.cells mZ 29)) (.cells cZ 31)
 have k8:(((((w.alloc (.cells #[iv] 26)).alloc (.cells #[.slice ua 512 ucap,.i bank] 29)).alloc (.cells (cR A X S Pc Z N C I) 31)).alloc (.cells mZ 29)).alloc (.cells cZ 31)).heap[w.heap.size+1+1+1]?=some (.cells mZ 29 (0,0)):=by simpa using Az (Ak (((w.alloc (.cells #[iv] 26)).alloc (.cells #[.slice ua 512 ucap,.i bank] 29)).alloc (.cells (cR A X S Pc Z N C I) 31)) mZ 29) (.cells cZ 31)
 have k9:(((((w.alloc (.cells #[iv] 26)).alloc (.cells #[.slice ua 512 ucap,.i bank] 29)).alloc (.cells (cR A X S Pc Z N C I) 31)).alloc (.cells mZ 29)).alloc (.cells cZ 31)).heap[w.heap.size+1+1+1+1]?=some (.cells cZ 31 (0,0)):=by simpa using Ak ((((w.alloc (.cells #[iv] 26)).alloc (.cells #[.slice ua 512 ucap,.i bank] 29)).alloc (.cells (cR A X S Pc Z N C I) 31)).alloc (.cells mZ 29)) cZ 31
 go_enter func88,ntmps88
 go_wp2_with fail;generalize (((((w.alloc (.cells #[iv] 26)).alloc (.cells #[.slice ua 512 ucap,.i bank] 29)).alloc (.cells (cR A X S Pc Z N C I) 31)).alloc (.cells mZ 29)).alloc (.cells cZ 31))=W0 at *;have hW:=Ad k9;refine (Nv _ (fun _ _=>True) (.slice ua 512 ucap) 512 g bank ⟨_,_,rfl,by omega,hrow0,fun _ _ _=>trivial⟩).mono ?_;rintro e W1 ⟨q,rfl,O1,L1⟩
 obtain ⟨q1,c1,rfl⟩:∃ q1 c1,q=.slice q1 512 c1:=by obtain ⟨a,c,e,_⟩:=O1; exact ⟨a,c,e⟩
 have LA:Below W1.heap.size W1 (W1.alloc (.cells #[.slice q1 512 c1,.i bank] 29)):=(Below.refl _ _).alloc (Nat.le_refl _) _;have L2:=L1.trans (LA.mono L1.size)
 have M1:EN w (W1.alloc (.cells #[.slice q1 512 c1,.i bank] 29)) W1.heap.size iv W0.heap.size q1 c1 g bank A X S Pc Z N C I:=⟨Ab k4 L2 (Ad k4),Ab k6 L2 (Ad k6),Ab k8 L2 (Ad k8),Ab k9 L2 (Ad k9),Ak _ _ _,by have:=L1.size; omega,O1.keepL LA,Ah L0 L2⟩
 clear hrow hrow0 k4 k5 k6 k8 k9 O1 L1 LA L2 L0 hW;go_upto_region 2 with (fail)
 obtain ⟨z,hz⟩:∃ z,Hid (z=W1.heap.size):=⟨_,rfl⟩
 generalize W1.alloc (.cells #[.slice q1 512 c1,.i bank] 29)=V1 at *;rw [<- hz.out] at M1 ⊢;clear hz;have c6:=Af M1.cpu;go_wp2_with fail;clear c6;refine (Zt _ A X S Pc Z N C I).mono ?_;rintro e V2 ⟨rfl,L2⟩;have M2:=M1.below L2;clear M1 L2
 obtain ⟨fl,hfl⟩:∃ fl,Hid (fl=flagsOf Z N C I):=⟨_,rfl⟩
 rw [<- hfl.out];have c6:=Af M2.cpu;have c10:=Af M2.out;go_wp2_with fail;clear c6 c10;refine (Fv _ _ _ g bank M2.ints A X S Pc Z N C I (Pc/256)).mono ?_;rintro e U3 ⟨q,rfl,O,L⟩
 obtain ⟨q3,c3,rfl⟩:∃ qa qc,q=.slice qa 512 qc:=by obtain ⟨a,c,e,_⟩:=O; exact ⟨a,c,e⟩
 have M3:=M2.pushed O L (dec8 S);have d6:=Af (M2.below L).cpu;have e6:=Au (M2.below L).cpu;have d10:=Af (M2.below L).out;have e10:=Au (M2.below L).out
 have hf6:z≠w.heap.size+1+1:=by have:=M2.far; omega
 have hlo3:z<V2.heap.size:=Ad M2.out;have HM:=Ac M3;clear M3 M2 O L;rw [show (S-1)%256=dec8 S from rfl];go_upto_region 4 with (fail);clear d6 e6 d10 e10 hf6;have M3:=Ae HM;clear HM;generalize ((((((((((U3.setCell ⟨z,0,none⟩ (.slice q3 512 c3)).setCell ⟨z,1,none⟩ (.i bank)).setCell ⟨w.heap.size+1+1,0,none⟩ (.i A)).setCell ⟨w.heap.size+1+1,1,none⟩ (.i X)).setCell ⟨w.heap.size+1+1,2,none⟩ (.i (dec8 S))).setCell ⟨w.heap.size+1+1,3,none⟩ (.i Pc)).setCell ⟨w.heap.size+1+1,4,none⟩ (.bool Z)).setCell ⟨w.heap.size+1+1,5,none⟩ (.bool N)).setCell ⟨w.heap.size+1+1,6,none⟩ (.bool C)).setCell ⟨w.heap.size+1+1,7,none⟩ (.bool I))=V3 at *;have c6:=Af M3.cpu;have c10:=Af M3.out;go_wp2_with fail;clear c6 c10;refine (Fv _ _ _ (B4 g S (Pc/256)) bank M3.ints A X (dec8 S) Pc Z N C I Pc).mono ?_
 rintro e U4 ⟨q,rfl,O,L⟩
 obtain ⟨q4,c4,rfl⟩:∃ qa qc,q=.slice qa 512 qc:=by obtain ⟨a,c,e,_⟩:=O; exact ⟨a,c,e⟩
 have M4:=M3.pushed O L (dec8 (dec8 S));have d6:=Af (M3.below L).cpu;have e6:=Au (M3.below L).cpu;have d10:=Af (M3.below L).out;have e10:=Au (M3.below L).out
 have hf6:z≠w.heap.size+1+1:=by have:=M3.far; omega
 have hlo4:z<V3.heap.size:=Ad M3.out;have HM:=Ac M4;clear M4 M3 O L;rw [show ((dec8 S)-1)%256=dec8 (dec8 S) from rfl];go_upto_region 5 with (fail);clear d6 e6 d10 e10 hf6;have M4:=Ae HM;clear HM;generalize ((((((((((U4.setCell ⟨z,0,none⟩ (.slice q4 512 c4)).setCell ⟨z,1,none⟩ (.i bank)).setCell ⟨w.heap.size+1+1,0,none⟩ (.i A)).setCell ⟨w.heap.size+1+1,1,none⟩ (.i X)).setCell ⟨w.heap.size+1+1,2,none⟩ (.i (dec8 (dec8 S)))).setCell ⟨w.heap.size+1+1,3,none⟩ (.i Pc)).setCell ⟨w.heap.size+1+1,4,none⟩ (.bool Z)).setCell ⟨w.heap.size+1+1,5,none⟩ (.bool N)).setCell ⟨w.heap.size+1+1,6,none⟩ (.bool C)).setCell ⟨w.heap.size+1+1,7,none⟩ (.bool I))=V4 at *;have c6:=Af M4.cpu;have c10:=Af M4.out;go_wp2_with fail;clear c6 c10
 refine (Fv _ _ _ (B4 (B4 g S (Pc/256)) (dec8 S) Pc) bank M4.ints A X (dec8 (dec8 S)) Pc Z N C I fl).mono ?_;rintro e U5 ⟨q,rfl,O,L⟩
 obtain ⟨q5,c5,rfl⟩:∃ qa qc,q=.slice qa 512 qc:=by obtain ⟨a,c,e,_⟩:=O; exact ⟨a,c,e⟩
 have M5:=M4.pushed O L (dec8 (dec8 (dec8 S)));have d6:=Af (M4.below L).cpu;have e6:=Au (M4.below L).cpu;have d10:=Af (M4.below L).out;have e10:=Au (M4.below L).out
 have hf6:z≠w.heap.size+1+1:=by have:=M4.far; omega
 have hlo5:z<V4.heap.size:=Ad M4.out;have HM:=Ac M5;clear M5 M4 O L;rw [show ((dec8 (dec8 S))-1)%256=dec8 (dec8 (dec8 S)) from rfl];go_upto_region 6 with (fail);clear d6 e6 d10 e10 hf6;have M5:=Ae HM;clear HM;generalize ((((((((((U5.setCell ⟨z,0,none⟩ (.slice q5 512 c5)).setCell ⟨z,1,none⟩ (.i bank)).setCell ⟨w.heap.size+1+1,0,none⟩ (.i A)).setCell ⟨w.heap.size+1+1,1,none⟩ (.i X)).setCell ⟨w.heap.size+1+1,2,none⟩ (.i (dec8 (dec8 (dec8 S))))).setCell ⟨w.heap.size+1+1,3,none⟩ (.i Pc)).setCell ⟨w.heap.size+1+1,4,none⟩ (.bool Z)).setCell ⟨w.heap.size+1+1,5,none⟩ (.bool N)).setCell ⟨w.heap.size+1+1,6,none⟩ (.bool C)).setCell ⟨w.heap.size+1+1,7,none⟩ (.bool I))=V5 at *
 have h2lo:w.heap.size+1+1<V4.heap.size:=by have:=M5.far; omega
 have M6:=M5.setI h2lo true;have c6:=Af M5.cpu;have f6:=Au M5.cpu;have HM:=Ac M6;have hf5:=M5.far;clear M5 M6;go_upto_region 7 with (fail);have M6:=Ae HM;clear HM c6 f6;generalize V5.setCell ⟨w.heap.size+1+1,7,none⟩ (.bool true)=V6 at *;rw [hfl.out] at M6;clear hfl;rw [show B4 (B4 (B4 g S (Pc/256)) (dec8 S) Pc) (dec8 (dec8 S)) (flagsOf Z N C I)=enterG g S Pc Z N C I from rfl] at M6
 obtain ⟨G',hG⟩:∃ G',Hid (G'=enterG g S Pc Z N C I):=⟨_,rfl⟩
 rw [<- hG.out] at M6;have D6:Below V6.heap.size V6 V6.drew:=Fc V6;have HPk:=Ac (fun (V':World) (L:Below V6.heap.size V6 V') (x:Int)=>Gh V' _ _ iv (.slice q5 512 c5) m ln f 512 G' bank x (H.keep (Aa (Ah M6.bel L) Aj) (fun _ _ _ x=>x)) (M6.below L).ints);have a1:V6.cell? ⟨w.heap.size,0,none⟩=some iv:=Af M6.img 0;have a2:V6.cell? ⟨z,0,none⟩=some (.slice q5 512 c5):=Af M6.out 0;have a3:V6.cell? ⟨z,1,none⟩=some (.i bank):=Af M6.out 1;have HM:=Ac M6;clear M6;have HT1:=Ac ((Ae HPk) V6.drew D6 vec)
 obtain ⟨pc,hpc⟩:∃ pc,Hid (pc=E7 m ln f G' bank vec):=⟨_,rfl⟩
 obtain ⟨x1,hx1⟩:∃ x1,Hid (x1=peekV m ln f 512 G' bank vec):=⟨_,rfl⟩
 obtain ⟨x2,hx2⟩:∃ x2,Hid (x2=peekV m ln f 512 G' bank (vec+1)):=⟨_,rfl⟩
 have HJ:=Ac (fun W=>Kj x1 x2 W);rw [show x1%256+256*(x2%256)=pc by rw [hx1.out,hx2.out,hpc.out]; rfl] at HJ;rw [<- hx1.out] at HT1
 have HP2:Hid (∀ V',Below V6.heap.size V6 V'->∀ y,Hid (y=IntKind.i64.wrap (vec+1))->CB 124 #[.agg #[iv],.agg #[.slice q5 512 c5,.i bank],.i y] V' (.i x2)):=fun V' L y hy=>by
  have h:=(Ae HPk) V' L y;rw [hy.out,Gu,<- hx2.out,<- hy.out] at h;exact h
 go_cut [50] (fun sl WX=>∃ V':World,Below V6.heap.size V6 V'/\WX=V'.setCell ⟨w.heap.size+1+1,3,none⟩ (.i pc))
 case first =>
  go_region_held3 (fun w'=>w'.cell? ⟨w.heap.size,0,none⟩=some iv/\w'.cell? ⟨z,0,none⟩=some (.slice q5 512 c5)/\w'.cell? ⟨z,1,none⟩=some (.i bank)) (first | (with_reducible assumption) | (refine ⟨?_,?_,?_⟩ <;> with_reducible assumption) | go_keep) (first
   | (go_at_call 123; refine (Ae HJ _).mono ?_; rintro e P3 ⟨rfl,rfl⟩)
   | (go_at_call 124; refine (Ae HP2 _ C1 _ rfl).mono ?_; rintro e P2 ⟨rfl,L2⟩; have C2:=Ah C1 L2; have M2x:=(Ae HM).below C2; have d6:=Af M2x.cpu; have f6:=Au M2x.cpu; have b1:P2.cell? ⟨w.heap.size,0,none⟩=some iv:=Af M2x.img 0; have b2:P2.cell? ⟨z,0,none⟩=some (.slice q5 512 c5):=Af M2x.out 0; have b3:P2.cell? ⟨z,1,none⟩=some (.i bank):=Af M2x.out 1; have g1:(P2.setCell ⟨w.heap.size+1+1,3,none⟩ (.i pc)).cell? ⟨w.heap.size,0,none⟩=some iv:=Af (M2x.setPc h2lo pc).img 0; have g2:(P2.setCell ⟨w.heap.size+1+1,3,none⟩ (.i pc)).cell? ⟨z,0,none⟩=some (.slice q5 512 c5):=Af (M2x.setPc h2lo pc).out 0; have g3:(P2.setCell ⟨w.heap.size+1+1,3,none⟩ (.i pc)).cell? ⟨z,1,none⟩=some (.i bank):=Af (M2x.setPc h2lo pc).out 1; clear M2x L2)
   | (go_at_call 124; refine (Ae HT1).mono ?_; rintro e P1 ⟨rfl,L1⟩; have C1:=Ah D6 L1; have M1x:=(Ae HM).below C1; have e1:P1.cell? ⟨w.heap.size,0,none⟩=some iv:=Af M1x.img 0; have e2:P1.cell? ⟨z,0,none⟩=some (.slice q5 512 c5):=Af M1x.out 0; have e3:P1.cell? ⟨z,1,none⟩=some (.i bank):=Af M1x.out 1; clear M1x L1))
  all_goals (
   go_wp2_with fail
   go_meet
   exact ⟨_,C2,rfl⟩)
 case rest =>
 obtain ⟨V',LV,rfl⟩:=hcut;have M7:=((Ae HM).below LV).setPc h2lo pc;clear HM LV a1 a2 a3 HT1 HP2 HPk HJ hx1 hx2 D6;generalize V'.setCell ⟨w.heap.size+1+1,3,none⟩ (.i pc)=V7 at *;go_upto_region 8 with (fail);have c6:=Af M7.cpu;have c10:=Af M7.out;have c8:=Af M7.rm;have f8:=Au M7.rm;have c9:=Af M7.rc;have f9:=Au M7.rc
 have r8:=fun (x0 x1 y0 y1 y2 y3 y4 y5 y6 y7:Value)=>Af (Hw (N2 M7.rm x0 x1) (show w.heap.size+1+1+1≠w.heap.size+1+1+1+1 by omega) y0 y1 y2 y3 y4 y5 y6 y7)
 have r9:=fun (x0 x1 y0 y1 y2 y3 y4 y5 y6 y7:Value)=>Af (Mi (Ay (Ay (x:=x0) (o:=0) M7.rc (show w.heap.size+1+1+1+1≠w.heap.size+1+1+1 by omega)) (x:=x1) (o:=1) (show w.heap.size+1+1+1+1≠w.heap.size+1+1+1 by omega)) y0 y1 y2 y3 y4 y5 y6 y7)
 have hlo9:w.heap.size+1+1+1+1<V4.heap.size:=by have:=M7.far; omega
 have hw4:w.heap.size<=V4.heap.size:=by omega
 have HF:Hid (∀ (x0 x1 y0 y1 y2 y3 y4 y5 y6 y7:Value),Ao (((((((((((V7.setCell ⟨w.heap.size+1+1+1,0,none⟩ x0).setCell ⟨w.heap.size+1+1+1,1,none⟩ x1).setCell ⟨w.heap.size+1+1+1+1,0,none⟩ y0).setCell ⟨w.heap.size+1+1+1+1,1,none⟩ y1).setCell ⟨w.heap.size+1+1+1+1,2,none⟩ y2).setCell ⟨w.heap.size+1+1+1+1,3,none⟩ y3).setCell ⟨w.heap.size+1+1+1+1,4,none⟩ y4).setCell ⟨w.heap.size+1+1+1+1,5,none⟩ y5).setCell ⟨w.heap.size+1+1+1+1,6,none⟩ y6).setCell ⟨w.heap.size+1+1+1+1,7,none⟩ y7).drew) w.heap.size (.slice q5 512 c5) 512 G'/\Below w.heap.size w (((((((((((V7.setCell ⟨w.heap.size+1+1+1,0,none⟩ x0).setCell ⟨w.heap.size+1+1+1,1,none⟩ x1).setCell ⟨w.heap.size+1+1+1+1,0,none⟩ y0).setCell ⟨w.heap.size+1+1+1+1,1,none⟩ y1).setCell ⟨w.heap.size+1+1+1+1,2,none⟩ y2).setCell ⟨w.heap.size+1+1+1+1,3,none⟩ y3).setCell ⟨w.heap.size+1+1+1+1,4,none⟩ y4).setCell ⟨w.heap.size+1+1+1+1,5,none⟩ y5).setCell ⟨w.heap.size+1+1+1+1,6,none⟩ y6).setCell ⟨w.heap.size+1+1+1+1,7,none⟩ y7).drew)):=fun x0 x1 y0 y1 y2 y3 y4 y5 y6 y7=>⟨((show Ao ((((((((((V7.setCell ⟨w.heap.size+1+1+1,0,none⟩ x0).setCell ⟨w.heap.size+1+1+1,1,none⟩ x1).setCell ⟨w.heap.size+1+1+1+1,0,none⟩ y0).setCell ⟨w.heap.size+1+1+1+1,1,none⟩ y1).setCell ⟨w.heap.size+1+1+1+1,2,none⟩ y2).setCell ⟨w.heap.size+1+1+1+1,3,none⟩ y3).setCell ⟨w.heap.size+1+1+1+1,4,none⟩ y4).setCell ⟨w.heap.size+1+1+1+1,5,none⟩ y5).setCell ⟨w.heap.size+1+1+1+1,6,none⟩ y6).setCell ⟨w.heap.size+1+1+1+1,7,none⟩ y7) V4.heap.size _ _ _ from ((((((((((M7.own.setLow (by omega) _).setLow (by omega) _).setLow (by omega) _).setLow (by omega) _).setLow (by omega) _).setLow (by omega) _).setLow (by omega) _).setLow (by omega) _).setLow (by omega) _).setLow (by omega) _)).mono hw4).keepL (Fc _),Ah (M7.bel.trans ((((Below.refl _ _).setCell (p:=⟨w.heap.size+1+1+1,0,none⟩) (by simp; omega) _).setCell (p:=⟨w.heap.size+1+1+1,1,none⟩) (by simp; omega) _).trans ((Mg _ (w.heap.size+1+1+1+1) _ _ _ _ _ _ _ _).mono (by omega)))) (Fc _)⟩
 have hfar:=M7.far;clear M7
 go_region
 all_goals (
  go_wp2;refine bodyPost_ret (v:=.tuple #[.agg #[.slice q5 512 c5,.i bank],.agg (cR A X (dec8 (dec8 (dec8 S))) pc Z N C true)]) (by simp [results,results88,go_sem,r8,r9]) rfl ?_;refine ⟨_,by rw [hpc.out,hG.out],?_⟩;rw [<- hG.out]
  with_reducible exact HF.out _ _ _ _ _ _ _ _ _ _)
end Go.Proofs.YtijljlnooibbmaaGreatDoor
