import Derived.Test.YtgcmimcalmjaaaaGreatDoorC9
import Derived.Test.YtgcmimcalmjaaaaGreatDoorI2
import Derived.ArgAppend
namespace Go.Proofs.YtgcmimcalmjaaaaGreatDoor
set_option maxHeartbeats 1000000
set_option linter.unusedVariables false
open Go.ChangeShapes Go.WideShapes Go.ChangeAt Go.RowKit
theorem Wa {m:Nat} {ln:Nat→Nat} {f:Nat→Nat→Int} {n:Nat} {g:Nat→Int} {bank:Int} (h:isRow n g 512=false):B6 m ln f n g bank=false:=by
 by_cases hn:n=512
 ·subst hn
  rw [E9 (by rfl)] at h;have h':U6 512 g=false:=h;unfold B6;rw [h']
  simp
 ·exact Of hn
theorem Ls {n:Nat} {g:Nat→Int} (h:isRow n g 512=true):n=512∧∀ j,j<512→0≤g j∧g j≤255:=by
 by_cases hn:n=512
 ·subst hn
  rw [E9 (by rfl)] at h;exact ⟨rfl,fun j hj=>(Dn _ _ _).1 (of_decide_eq_true h j hj)⟩
 ·rw [Li (by omega)] at h
  cases h
theorem Kd (w:World) (F G:Nat→Nat→Prop) (v u:Value) (m:Nat) (ln:Nat→Nat) (f:Nat→Nat→Int) (n:Nat) (g:Nat→Int) (bank:Int) (H:Ba .i64 w F v m ln f) (K:Ints .i64 w G u n g) :
  Calls Tryz.prog 64 #[.agg #[v],.agg #[u,.i bank]] w fun e w'=>e=.returned (.bool (B6 m ln f n g bank))∧Below w.heap.size w w':=by
 have L0:Below w.heap.size w ((w.alloc (.cells #[v] 41)).alloc (.cells #[u,.i bank] 42)):=((Below.refl _ _).alloc (Nat.le_refl _) _).alloc (by simp) _;have H0:=H.keep (Ab L0 Aj) (fun _ _ _ x=>x);have K0:=K.keep (Ab L0 Aj) (fun _ _ _ x=>x);obtain ⟨ia,icap,rfl,im,-,-⟩:=H;obtain ⟨ua,ucap,rfl,un,-,-⟩:=K
 go_enter Tryz.func64,Tryz.ntmps64
 go_wp2_with fail;refine (Qz _ F _ m ln f H0).mono ?_;rintro e w1 ⟨rfl,L1⟩;have c1:w1.cell? ⟨w.heap.size,0,none⟩=some (.slice ia m icap):=(L1.cell (by simp; omega)).trans (by go_simp);have c2:w1.cell? ⟨w.heap.size+1,0,none⟩=some (.slice ua n ucap):=(L1.cell (by simp)).trans (by go_simp);have c3:w1.cell? ⟨w.heap.size+1,1,none⟩=some (.i bank):=(L1.cell (by simp)).trans (by go_simp);have C1:=L0.trans (L1.mono L0.size);have K1:=K0.keep (Ab L1 Aj) (fun _ _ _ x=>x);clear L1 L0 H0 K0;cases hI:Fx m ln f
 ·have HE:=Ad (Oe (n:=n) (g:=g) (bank:=bank) hI)
  clear hI;go_wp2;go_ret;exact ⟨Ap HE.out.symm,C1⟩
 ·have HI:=Ad hI
  clear hI;cases hR:isRow n g 512
  ·have HE:=Ad (Wa (m:=m) (ln:=ln) (f:=f) (bank:=bank) hR)
   go_wp2_with fail;refine (isBytes _ G _ n g 512 K1).mono ?_;rintro e wx ⟨rfl,rfl⟩;rw [hR];go_wp2;go_ret;exact ⟨Ap HE.out.symm,C1⟩
  ·obtain ⟨hn,hb⟩:=Ls hR
   have HN:=Ad hn;have HB:=Ad hb;clear hn hb
   by_cases b0:0≤bank
   ·by_cases b1:bank<(m:Int)
    ·have HE:=Ad (Og (bank:=bank) (An HI) (An HN) (Bn ⟨b0,by omega⟩) (An HB))
     go_wp2_with fail;refine (isBytes _ G _ n g 512 K1).mono ?_;rintro e wx ⟨rfl,rfl⟩;rw [hR];go_wp2;go_ret;exact ⟨Ap HE.out.symm,C1⟩
    ·have HE:=Ad (Iz (m:=m) (ln:=ln) (f:=f) (n:=n) (g:=g) (Cu (x:=bank) (lo:=0) (hi:=(m:Int)-1) (by omega)))
     go_wp2_with fail;refine (isBytes _ G _ n g 512 K1).mono ?_;rintro e wx ⟨rfl,rfl⟩;rw [hR];go_wp2;go_ret;exact ⟨Ap ((decide_eq_false (by omega)).trans HE.out.symm),C1⟩
   ·have b0':decide (0≤bank)=false:=decide_eq_false b0
    have HE:=Ad (Iz (m:=m) (ln:=ln) (f:=f) (n:=n) (g:=g) (Cu (x:=bank) (lo:=0) (hi:=(m:Int)-1) (by omega)));go_wp2_with fail;refine (isBytes _ G _ n g 512 K1).mono ?_;rintro e wx ⟨rfl,rfl⟩;rw [hR];go_wp2;go_ret;exact ⟨Ap HE.out.symm,C1⟩
theorem Jcb (w:World) (F G:Nat→Nat→Prop) (v u:Value) (m:Nat) (ln:Nat→Nat) (f:Nat→Nat→Int) (n:Nat) (g:Nat→Int) (bank a:Int) (a0:0≤a) (a1:a<65536) (H:Ba .i64 w F v m ln f) (K:Ints .i64 w G u n g) (ok:B6 m ln f n g bank=true) :
  Calls Tryz.prog 179 #[.agg #[v],.agg #[u,.i bank],Ia (rgN a) (rgP a)] w fun e w'=>e=.returned (.i (Em m f g bank a))∧Below w.heap.size w w':=by
 obtain ⟨hI,hn,⟨hb0,hb1⟩,hr⟩:=Fg ok;subst hn;obtain ⟨hbk,hm1,hm8⟩:=Gk hI;have L0:Below w.heap.size w ((w.alloc (.cells #[v] 41)).alloc (.cells #[u,.i bank] 42)):=((Below.refl _ _).alloc (Nat.le_refl _) _).alloc (by simp) _
 have LD:∀ d,Below w.heap.size w (((w.alloc (.cells #[v] 41)).alloc (.cells #[u,.i bank] 42)).drewN d):=fun d=>L0.trans ⟨rfl,rfl,rfl,Nat.le_refl _,fun _ _=>rfl⟩
 have H0:=H.keep (Ab L0 Aj) (fun _ _ _ x=>x);have K0:=K.keep (Ab L0 Aj) (fun _ _ _ x=>x);obtain ⟨ia,icap,rfl,im,-,hrows⟩:=H0;obtain ⟨ua,ucap,rfl,un,hrow,-⟩:=K0
 obtain ⟨bk,rfl⟩:∃ bk:Nat,bank=bk:=⟨bank.toNat,by omega⟩
 have hcs:=Hv _ a0 a1;have HC:=Oi _ a0 a1
 have hbm:bk<m:=by omega
 unfold Em;rw [Int.toNat_natCast];generalize rgN a=rn at *;generalize rgP a=rp at *;clear a0 a1 ok hI hr
 rcases hcs with ⟨rfl,p0,p1⟩ | ⟨rfl,p0,p1⟩ | ⟨rfl,p0,p1⟩ | hrest
 ·clear HC
  obtain ⟨k,rfl⟩:∃ k:Nat,rp=k:=⟨rp.toNat,by omega⟩
  obtain ⟨b,off,rfl,hc⟩:=hrow k (by omega)
  have hk:(k:Int)<512:=by omega
  rw [if_pos rfl,Int.toNat_natCast,Jao];have v1:=Jc7 (k:Int);have q1:=Jbz (k:Int)
  go_enter Tryz.func179,Tryz.ntmps179
  go_wp2
  go_quiet ((go_at_call 262; exact Calls.quiet_of_same (partOf _ _)))
  go_wp2;go_ret;exact ⟨rfl,LD _⟩
 ·clear HC
  obtain ⟨k,rfl⟩:∃ k:Nat,rp=k:=⟨rp.toNat,by omega⟩
  obtain ⟨b,off,y,rfl,hc,a',cap',rfl,hn',hrw,-⟩:=hrows bk hbm;have hl:ln bk=256:=(Gi (hbk bk hbm)).1;obtain ⟨b',off',rfl,hc'⟩:=hrw k (by omega)
  have hk:(k:Int)<(ln bk:Int):=by omega
  have hbm':(bk:Int)<(m:Int):=by omega
  rw [if_neg (by decide),if_pos rfl,Int.toNat_natCast,Jas];have v1:=Jd1 (k:Int);have q1:=Jb3 (k:Int);have q5:=Jb4 (k:Int);clear hl
  go_enter Tryz.func179,Tryz.ntmps179
  go_wp2
  go_quiet ((go_at_call 262; exact Calls.quiet_of_same (partOf _ _)))
  go_wp2;go_ret;exact ⟨rfl,LD _⟩
 ·clear HC
  obtain ⟨k,rfl⟩:∃ k:Nat,rp=k:=⟨rp.toNat,by omega⟩
  obtain ⟨q,rfl⟩:∃ q:Nat,m=q+1:=⟨m-1,by omega⟩
  obtain ⟨b,off,y,rfl,hc,a',cap',rfl,hn',hrw,-⟩:=hrows q (by omega);have hl:ln q=256:=(Gi (hbk q (by omega))).1;obtain ⟨b',off',rfl,hc'⟩:=hrw k (by omega)
  have hk:(k:Int)<(ln q:Int):=by omega
  rw [if_neg (by decide),if_neg (by decide),if_pos rfl,Int.toNat_natCast,Nat.add_sub_cancel,Jat];have v1:=Jd2 (k:Int);have q1:=Jb5 (k:Int);have q5:=Jb6 (k:Int);have q6:=Jb7 (k:Int);clear hl
  go_enter Tryz.func179,Tryz.ntmps179
  go_wp2
  go_quiet ((go_at_call 262; exact Calls.quiet_of_same (partOf _ _)))
  go_wp2;go_ret;exact ⟨rfl,LD _⟩
 ·rw [if_neg (by omega),if_neg (by omega),if_neg (by omega)]
  rcases hrest with rfl | rfl | rfl | rfl
  ·rw [Jap]
   have q1:=Jb0 rp;have q5:=Jc1 rp;have q6:=Jc2 rp
   go_enter Tryz.func179,Tryz.ntmps179
   go_wp2;go_ret;exact ⟨rfl,L0⟩
  ·rw [Jaq]
   have q1:=Jb1 rp;have q5:=Jc3 rp;have q6:=Jc4 rp
   go_enter Tryz.func179,Tryz.ntmps179
   go_wp2;go_ret;exact ⟨rfl,L0⟩
  ·rw [Jar]
   have q1:=Jb2 rp;have q5:=Jc5 rp;have q6:=Jc6 rp
   go_enter Tryz.func179,Tryz.ntmps179
   go_wp2;go_ret;exact ⟨rfl,L0⟩
  ·rw [Jau]
   have q1:=Jb8 rp;have q5:=Jb9 rp;have q6:=Jca rp
   go_enter Tryz.func179,Tryz.ntmps179
   go_wp2;go_ret;exact ⟨rfl,L0⟩
set_option maxHeartbeats 1000000
theorem Gm (w:World) (F G:Nat→Nat→Prop) (v u:Value) (m:Nat) (ln:Nat→Nat) (f:Nat→Nat→Int) (n:Nat) (g:Nat→Int) (bank x:Int) (H:Ba .i64 w F v m ln f) (K:Ints .i64 w G u n g) :
  Calls Tryz.prog 156 #[.agg #[v],.agg #[u,.i bank],.i x] w fun e w'=>e=.returned (.i (peekV m ln f n g bank x))∧Below w.heap.size w w':=by
 have L0:Below w.heap.size w ((w.alloc (.cells #[v] 41)).alloc (.cells #[u,.i bank] 42)):=((Below.refl _ _).alloc (Nat.le_refl _) _).alloc (by simp) _;have H0:=H.keep (Ab L0 Aj) (fun _ _ _ x=>x);have K0:=K.keep (Ab L0 Aj) (fun _ _ _ x=>x);obtain ⟨ia,icap,rfl,im,-,-⟩:=H;obtain ⟨ua,ucap,rfl,un,-,-⟩:=K
 have a0:0≤x%65536:=by omega
 have a1:x%65536<65536:=by omega
 go_enter Tryz.func156,Tryz.ntmps156
 go_wp2_with fail;refine (Kd _ F G _ _ m ln f n g bank H0 K0).mono ?_;rintro e w1 ⟨rfl,L1⟩;have c1:w1.cell? ⟨w.heap.size,0,none⟩=some (.slice ia m icap):=(L1.cell (by simp; omega)).trans (by go_simp);have c2:w1.cell? ⟨w.heap.size+1,0,none⟩=some (.slice ua n ucap):=(L1.cell (by simp)).trans (by go_simp);have c3:w1.cell? ⟨w.heap.size+1,1,none⟩=some (.i bank):=(L1.cell (by simp)).trans (by go_simp)
 have hz:w.heap.size+2≤w1.heap.size:=by have:=L1.size; simp at this; omega
 have C1:=L0.trans (L1.mono L0.size);have H1:=H0.keep (Ab L1 Aj) (fun _ _ _ x=>x);have K1:=K0.keep (Ab L1 Aj) (fun _ _ _ x=>x);clear L1 L0 H0 K0;cases hO:B6 m ln f n g bank
 ·have HE:Hid (peekV m ln f n g bank x=0):=by show _=_; unfold peekV; rw [hO]; rfl
  clear hO;go_wp2;go_ret;exact ⟨Az HE.out.symm,C1⟩
 ·have HE:Hid (peekV m ln f n g bank x=Em m f g bank (x%65536)):=by show _=_; unfold peekV; rw [hO]; rfl
  have HO:=Ad hO;clear hO;have HH:=Ad (show Ba .i64 w1.drew F _ m ln f from H1);have HK:=Ad (show Ints .i64 w1.drew G _ n g from K1);clear H1 K1;go_wp2_with fail
  go_region_held3 (fun w'=>w'.cell? ⟨w.heap.size,0,none⟩=some (.slice ia m icap)∧w'.cell? ⟨w.heap.size+1,0,none⟩=some (.slice ua n ucap)∧w'.cell? ⟨w.heap.size+1,1,none⟩=some (.i bank)) (first | assumption | go_keep) (first | (go_at_call 180; refine (Lq _ _ a0 a1).mono ?_; rintro e w' ⟨rfl,rfl⟩) | (go_at_call 179; refine (Jcb _ F G _ _ m ln f n g bank _ a0 a1 (An HH) (An HK) (An HO)).mono ?_; rintro e w2 ⟨rfl,L2⟩; have d1:=(L2.cell (p:=⟨w.heap.size,0,none⟩) (show w.heap.size<w1.heap.size by omega)).trans c1; have d2:=(L2.cell (p:=⟨w.heap.size+1,0,none⟩) (show w.heap.size+1<w1.heap.size by omega)).trans c2; have d3:=(L2.cell (p:=⟨w.heap.size+1,1,none⟩) (show w.heap.size+1<w1.heap.size by omega)).trans c3))
  all_goals
   go_wp2;go_ret;exact ⟨Az HE.out.symm,C1.trans (Below.trans (⟨rfl,rfl,rfl,Nat.le_refl _,fun _ _=>rfl⟩:Below w.heap.size w1 w1.drew) (L2.mono C1.size))⟩
theorem Q1 {w:World} {lo:Nat} {a:Option Addr} {c:Nat} (g:Nat→Int):Am w lo (.slice a 0 c) 0 g:=⟨_,_,rfl,by omega,fun i hi=>absurd hi (Nat.not_lt_zero _),fun b o hF=>absurd hF (Bo _ _ _),fun b o hF=>absurd hF (Bo _ _ _)⟩
theorem Wc (w:World) (G:Nat→Nat→Prop) (u:Value) (n:Nat) (g:Nat→Int) (K:Ints .i64 w G u n g) :
  Calls Tryz.prog 73 #[u] w fun e w'=>∃ v,e=.returned v∧Am w' w.heap.size v n g∧Below w.heap.size w w':=by
 obtain ⟨ua,ucap,rfl,un,hrow,-⟩:=K
 have hq:∀ W:World,(binOp .eql 25 (.slice ua n ucap) (.slice none 0 0)).run Tryz.prog W=.ok (.bool ua.isNone) W:=fun W=>Lib.run_eql_slice_nil W 25 3 ua n ucap 0 0 Tryz.underlying25
 cases ua with
 | none =>
  have hq':∀ W:World,(binOp .eql 25 (.slice none n ucap) (.slice none 0 0)).run Tryz.prog W=.ok (.bool true) W:=hq;clear hq
  have hn:n=0:=by
   rcases Nat.eq_zero_or_pos n with h | h
   ·exact h
   ·obtain ⟨b,off,e,-⟩:=hrow 0 h
    cases e
  subst hn;clear hrow
  go_enter Tryz.func73,Tryz.ntmps73
  go_wp2;go_ret;exact ⟨_,rfl,Q1 g,Below.refl _ _⟩
 | some ad =>
  have hq':∀ W:World,(binOp .eql 25 (.slice (some ad) n ucap) (.slice none 0 0)).run Tryz.prog W=.ok (.bool false) W:=hq;clear hq;obtain ⟨i0,hi,hz0,hz1,hz2⟩:=info_parts Is
  by_cases h0:n=0
  ·subst h0
   have hl0:∀ (W:World) (ad:Addr),(loadCells ad 0).run Tryz.prog W=.ok #[] W:=fun W ad=>by
    simpa using run_loadCells_list (P:=Tryz.prog) W ad [] (fun j v h=>by simp at h)
   clear hrow
   go_enter Tryz.func73,Tryz.ntmps73
   go_wp2;go_ret;exact ⟨_,rfl,Q1 g,(Below.refl _ _).alloc (Nat.le_refl _) _⟩
  ·obtain ⟨rb,ro,e,-⟩:=hrow 0 (by omega)
   cases e;have L0:Below w.heap.size w (w.alloc (.cells #[] 3)):=(Below.refl _ _).alloc (Nat.le_refl _) _;have HR:=Ad (hrow.keep (Ab L0 Aj) (fun _ _ _ x=>x));clear hrow
   go_enter Tryz.func73,Tryz.ntmps73
   go_wp2_with (at_builtin; refine wpList_append_grows _ rfl (.tmp 5) (.tmp 6) 25 rfl 3 i0 (.i 0) 1 8 Tryz.underlying25 hi hz0 hz1 hz2 rfl (by decide) (some ⟨w.heap.size,0,none⟩) 0 0 [] rfl (fun h=>by cases h) rfl (fun b hb j u h=>by simp at h) ⟨rb,ro,none⟩ n ucap (rowVals n g) rfl (by rw [A2,Nat.mul_one]) (Cy HR.out) (Fy _ _) (by omega) (by unfold maxLen; omega) (by omega) ?_);intro v' w2 hown hgrow;have LL:Below w.heap.size w w2:=L0.grown hgrow (by simp) (fun _ e=>by cases e)
   have hon:w2.ownsRow (w.alloc (.cells #[] 3)).heap.size 3 1 v' n (rowVals n g):=by simpa using hown
   obtain ⟨g',cap2,rfl,hg,hlt⟩:=hon.form (by omega);have O2:Am w2 w.heap.size (.slice (some ⟨g',0,none⟩) n cap2) n g:=Ph hon (by simp at hg; omega) hlt un;clear hown hon hgrow;go_wp2;go_ret;exact ⟨_,rfl,O2,LL⟩
theorem Js (w:World) (G:Nat→Nat→Prop) (u:Value) (n:Nat) (g:Nat→Int) (bank:Int) (K:Ints .i64 w G u n g) :
  Calls Tryz.prog 74 #[.agg #[u,.i bank]] w fun e w'=>∃ v,e=.returned (.agg #[v,.i bank])∧Am w' w.heap.size v n g∧Below w.heap.size w w':=by
 have L0:Below w.heap.size w ((w.alloc (.cells #[u,.i bank] 42)).alloc (.cells mZ 42)):=((Below.refl _ _).alloc (Nat.le_refl _) _).alloc (by simp) _;have K0:=K.keep (Ab L0 Aj) (fun _ _ _ x=>x);obtain ⟨ua,ucap,rfl,un,-,-⟩:=K;have b1:((w.alloc (.cells #[.slice ua n ucap,.i bank] 42)).alloc (.cells mZ 42)).heap[w.heap.size]?=some (.cells #[.slice ua n ucap,.i bank] 42 (0,0)):=Ax (Al w _ _) _
 have r1:((w.alloc (.cells #[.slice ua n ucap,.i bank] 42)).alloc (.cells mZ 42)).heap[w.heap.size+1]?=some (.cells mZ 42 (0,0)):=by simpa using Al (w.alloc (.cells #[.slice ua n ucap,.i bank] 42)) mZ 42
 go_enter Tryz.func74,Tryz.ntmps74
 go_wp2_with fail;generalize ((w.alloc (.cells #[.slice ua n ucap,.i bank] 42)).alloc (.cells mZ 42))=w1 at *;have cb:=Ag b1;have HK:=Ad (show Ints .i64 w1.drew G _ n g from K0);have hr1:=Ac r1;clear K0
 go_region_with (go_at_call 73; refine (Wc _ G _ n g (An HK)).mono ?_; rintro e w2 ⟨q,rfl,O2,L2'⟩; obtain ⟨qa,qc,rfl,-,-,-,-⟩:=id O2; have L2:Below w1.heap.size w1 w2:=Below.trans (⟨rfl,rfl,rfl,Nat.le_refl _,fun _ _=>rfl⟩:Below w1.heap.size w1 w1.drew) L2'; have cb2:=Ag (Aa b1 L2 (Ac b1)); have cr2:=Ag (Aa r1 L2 (Ac r1)); have fr2:=As (Aa r1 L2 (Ac r1)); clear L2')
 all_goals
  go_wp2;refine bodyPost_ret (v:=.agg #[.slice qa n qc,.i bank]) (by simp [results,Tryz.results74,go_sem,cr2]) rfl ?_;exact ⟨_,rfl,(((O2.mono (show w.heap.size+2≤w1.heap.size by omega)).setLow (by omega) _).setLow (by omega) _).mono (by omega),((L0.trans (L2.mono L0.size)).setCell (by simp) _).setCell (by simp) _⟩
theorem Wd (w:World) (p b off c k:Nat) (bank x:Int) (m:Nat) (hk:k<512) (hb:w.heap[p]?=some (.cells #[.slice (some ⟨b,off,none⟩) 512 c,.i bank] 42 (0,0))) {z:Value} (hc:w.cell? ⟨b,off+k,none⟩=some z) (hf:w.frozen? ⟨b,off+k,none⟩=false) :
  Calls Tryz.prog 190 #[(pt p 0),Ia 1 (k:Int),.i x,.i m] w fun e w'=>e=.returned (.tuple #[])∧w'=(w.setCell ⟨b,off+k,none⟩ (.i x)).drew:=by
 rw [Jao];have cb:=Ag hb;have q1:=Jbz (k:Int);have v1:=Jc7 (k:Int)
 have hk':(k:Int)<512:=by omega
 go_enter Tryz.func190,Tryz.ntmps190
 go_wp2_with fail
 go_region_with (go_at_call 262; refine (partOf _ _).mono ?_; rintro e w' ⟨rfl,rfl⟩)
 all_goals
  go_wp2
  go_returns
  exact ⟨rfl,rfl⟩
theorem We (w:World) (p:Nat) (oa:Option Addr) (n c:Nat) (bank rp x:Int) (m:Nat) (x0:0≤x) (x1:x<256) (hm:1≤m) (hm8:m≤8) (hb:w.heap[p]?=some (.cells #[.slice oa n c,.i bank] 42 (0,0))) :
  Calls Tryz.prog 190 #[(pt p 0),Ia 5 rp,.i x,.i m] w fun e w'=>e=.returned (.tuple #[])∧w'=w.setCell ⟨p,1,none⟩ (.i (x%(m:Int))):=by
 rw [Jas];have cb:=Ag hb;have fb:=As hb;have q1:=Jb3 rp;have q5:=Jb4 rp;have q6:=Jdu rp
 have hmi:(m:Int)≠0:=by omega
 have hmb:((m:Int)==0)=false:=by simp; omega
 have htm:x.tmod (m:Int)=x%(m:Int):=Int.tmod_eq_emod_of_nonneg x0;have y0:0≤x%(m:Int):=Int.emod_nonneg _ hmi;have y1:x%(m:Int)<9:=Int.lt_of_lt_of_le (Int.emod_lt_of_pos _ (by omega)) (by omega)
 go_enter Tryz.func190,Tryz.ntmps190
 go_wp2
 go_returns
 exact ⟨rfl,rfl⟩
theorem Wg (w:World) (p:Nat) (oa:Option Addr) (n c:Nat) (bank rp x:Int) (m:Nat) (x0:0≤x) (x1:x<256) (hm:1≤m) (hm8:m≤8) (hb:w.heap[p]?=some (.cells #[.slice oa n c,.i bank] 42 (0,0))) :
  Calls Tryz.prog 190 #[(pt p 0),Ia 6 rp,.i x,.i m] w fun e w'=>e=.returned (.tuple #[])∧w'=w.setCell ⟨p,1,none⟩ (.i (x%(m:Int))):=by
 rw [Jat];have cb:=Ag hb;have fb:=As hb;have q1:=Jb5 rp;have q5:=Jb6 rp;have q6:=Jb7 rp
 have hmi:(m:Int)≠0:=by omega
 have hmb:((m:Int)==0)=false:=by simp; omega
 have htm:x.tmod (m:Int)=x%(m:Int):=Int.tmod_eq_emod_of_nonneg x0;have y0:0≤x%(m:Int):=Int.emod_nonneg _ hmi;have y1:x%(m:Int)<9:=Int.lt_of_lt_of_le (Int.emod_lt_of_pos _ (by omega)) (by omega)
 go_enter Tryz.func190,Tryz.ntmps190
 go_wp2
 go_returns
 exact ⟨rfl,rfl⟩
theorem Wh (w:World) (p:Nat) (rn rp x:Int) (m:Nat) (h:rn=2∨rn=3∨rn=4∨rn=7) :
  Calls Tryz.prog 190 #[(pt p 0),Ia rn rp,.i x,.i m] w fun e w'=>e=.returned (.tuple #[])∧w'=w:=by
 rcases h with rfl | rfl | rfl | rfl
 ·rw [Jap]
  have q1:=Jb0 rp;have q5:=Jc1 rp;have q6:=Jc2 rp
  go_enter Tryz.func190,Tryz.ntmps190
  go_wp2
  go_returns
  exact ⟨rfl,rfl⟩
 ·rw [Jaq]
  have q1:=Jb1 rp;have q5:=Jc3 rp;have q6:=Jc4 rp
  go_enter Tryz.func190,Tryz.ntmps190
  go_wp2
  go_returns
  exact ⟨rfl,rfl⟩
 ·rw [Jar]
  have q1:=Jb2 rp;have q5:=Jc5 rp;have q6:=Jc6 rp
  go_enter Tryz.func190,Tryz.ntmps190
  go_wp2
  go_returns
  exact ⟨rfl,rfl⟩
 ·rw [Jau]
  have q1:=Jb8 rp;have q5:=Jb9 rp;have q6:=Jca rp
  go_enter Tryz.func190,Tryz.ntmps190
  go_wp2
  go_returns
  exact ⟨rfl,rfl⟩
end Go.Proofs.YtgcmimcalmjaaaaGreatDoor
