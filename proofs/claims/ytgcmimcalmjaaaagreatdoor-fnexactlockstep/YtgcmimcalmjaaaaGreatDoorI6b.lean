import Derived.Test.YtgcmimcalmjaaaaGreatDoorC9
import Derived.ArgAppend
namespace Go.Proofs.YtgcmimcalmjaaaaGreatDoor
set_option maxHeartbeats 1000000
set_option linter.unusedVariables false
open Go.ChangeShapes Go.WideShapes Go.ChangeAt Go.RowKit
theorem Wa {m:Nat} {ln:Nat→Nat} {f:Nat→Nat→Int} {n:Nat} {g:Nat→Int} {bank:Int} (h:isRow n g 512=false):B6 m ln f n g bank=false:=by
 by_cases hn:n=512
 ·subst hn
  rw [E9 (by rfl)] at h;have h':U6 512 g=false:=h;unfold B6;rw [h']
  simp
 ·exact Of hn
theorem Ls {n:Nat} {g:Nat→Int} (h:isRow n g 512=true):n=512∧∀ j,j<512→0≤g j∧g j≤255:=by
 by_cases hn:n=512
 ·subst hn
  rw [E9 (by rfl)] at h;exact ⟨rfl,fun j hj=>(Dn _ _ _).1 (of_decide_eq_true h j hj)⟩
 ·rw [Li (by omega)] at h
  cases h
theorem Kd (w:World) (F G:Nat→Nat→Prop) (v u:Value) (m:Nat) (ln:Nat→Nat) (f:Nat→Nat→Int) (n:Nat) (g:Nat→Int) (bank:Int) (H:Ba .i64 w F v m ln f) (K:Ints .i64 w G u n g) :
  Calls Tryz.prog 64 #[.agg #[v],.agg #[u,.i bank]] w fun e w'=>e=.returned (.bool (B6 m ln f n g bank))∧Below w.heap.size w w':=by
 have L0:Below w.heap.size w ((w.alloc (.cells #[v] 41)).alloc (.cells #[u,.i bank] 42)):=((Below.refl _ _).alloc (Nat.le_refl _) _).alloc (by simp) _;have H0:=H.keep (Ab L0 Aj) (fun _ _ _ x=>x);have K0:=K.keep (Ab L0 Aj) (fun _ _ _ x=>x);obtain ⟨ia,icap,rfl,im,-,-⟩:=H;obtain ⟨ua,ucap,rfl,un,-,-⟩:=K
 go_enter Tryz.func64,Tryz.ntmps64
 go_wp2_with fail;refine (Qz _ F _ m ln f H0).mono ?_;rintro e w1 ⟨rfl,L1⟩;have c1:w1.cell? ⟨w.heap.size,0,none⟩=some (.slice ia m icap):=(L1.cell (by simp; omega)).trans (by go_simp);have c2:w1.cell? ⟨w.heap.size+1,0,none⟩=some (.slice ua n ucap):=(L1.cell (by simp)).trans (by go_simp);have c3:w1.cell? ⟨w.heap.size+1,1,none⟩=some (.i bank):=(L1.cell (by simp)).trans (by go_simp);have C1:=L0.trans (L1.mono L0.size);have K1:=K0.keep (Ab L1 Aj) (fun _ _ _ x=>x);clear L1 L0 H0 K0;cases hI:Fx m ln f
 ·have HE:=Ad (Oe (n:=n) (g:=g) (bank:=bank) hI)
  clear hI;go_wp2;go_ret;exact ⟨Ap HE.out.symm,C1⟩
 ·have HI:=Ad hI
  clear hI;cases hR:isRow n g 512
  ·have HE:=Ad (Wa (m:=m) (ln:=ln) (f:=f) (bank:=bank) hR)
   go_wp2_with fail;refine (isBytes _ G _ n g 512 K1).mono ?_;rintro e wx ⟨rfl,rfl⟩;rw [hR];go_wp2;go_ret;exact ⟨Ap HE.out.symm,C1⟩
  ·obtain ⟨hn,hb⟩:=Ls hR
   have HN:=Ad hn;have HB:=Ad hb;clear hn hb
   by_cases b0:0≤bank
   ·by_cases b1:bank<(m:Int)
    ·have HE:=Ad (Og (bank:=bank) (An HI) (An HN) (Bn ⟨b0,by omega⟩) (An HB))
     go_wp2_with fail;refine (isBytes _ G _ n g 512 K1).mono ?_;rintro e wx ⟨rfl,rfl⟩;rw [hR];go_wp2;go_ret;exact ⟨Ap HE.out.symm,C1⟩
    ·have HE:=Ad (Iz (m:=m) (ln:=ln) (f:=f) (n:=n) (g:=g) (Cu (x:=bank) (lo:=0) (hi:=(m:Int)-1) (by omega)))
     go_wp2_with fail;refine (isBytes _ G _ n g 512 K1).mono ?_;rintro e wx ⟨rfl,rfl⟩;rw [hR];go_wp2;go_ret;exact ⟨Ap ((decide_eq_false (by omega)).trans HE.out.symm),C1⟩
   ·have b0':decide (0≤bank)=false:=decide_eq_false b0
    have HE:=Ad (Iz (m:=m) (ln:=ln) (f:=f) (n:=n) (g:=g) (Cu (x:=bank) (lo:=0) (hi:=(m:Int)-1) (by omega)));go_wp2_with fail;refine (isBytes _ G _ n g 512 K1).mono ?_;rintro e wx ⟨rfl,rfl⟩;rw [hR];go_wp2;go_ret;exact ⟨Ap HE.out.symm,C1⟩
theorem Jcb (w:World) (F G:Nat→Nat→Prop) (v u:Value) (m:Nat) (ln:Nat→Nat) (f:Nat→Nat→Int) (n:Nat) (g:Nat→Int) (bank a:Int) (a0:0≤a) (a1:a<65536) (H:Ba .i64 w F v m ln f) (K:Ints .i64 w G u n g) (ok:B6 m ln f n g bank=true) :
  Calls Tryz.prog 179 #[.agg #[v],.agg #[u,.i bank],Ia (rgN a) (rgP a)] w fun e w'=>e=.returned (.i (Em m f g bank a))∧Below w.heap.size w w':=by
 obtain ⟨hI,hn,⟨hb0,hb1⟩,hr⟩:=Fg ok;subst hn;obtain ⟨hbk,hm1,hm8⟩:=Gk hI;have L0:Below w.heap.size w ((w.alloc (.cells #[v] 41)).alloc (.cells #[u,.i bank] 42)):=((Below.refl _ _).alloc (Nat.le_refl _) _).alloc (by simp) _
 have LD:∀ d,Below w.heap.size w (((w.alloc (.cells #[v] 41)).alloc (.cells #[u,.i bank] 42)).drewN d):=fun d=>L0.trans ⟨rfl,rfl,rfl,Nat.le_refl _,fun _ _=>rfl⟩
 have H0:=H.keep (Ab L0 Aj) (fun _ _ _ x=>x);have K0:=K.keep (Ab L0 Aj) (fun _ _ _ x=>x);obtain ⟨ia,icap,rfl,im,-,hrows⟩:=H0;obtain ⟨ua,ucap,rfl,un,hrow,-⟩:=K0
 obtain ⟨bk,rfl⟩:∃ bk:Nat,bank=bk:=⟨bank.toNat,by omega⟩
 have hcs:=Hv _ a0 a1;have HC:=Oi _ a0 a1
 have hbm:bk<m:=by omega
 unfold Em;rw [Int.toNat_natCast];generalize rgN a=rn at *;generalize rgP a=rp at *;clear a0 a1 ok hI hr
 rcases hcs with ⟨rfl,p0,p1⟩ | ⟨rfl,p0,p1⟩ | ⟨rfl,p0,p1⟩ | hrest
 ·clear HC
  obtain ⟨k,rfl⟩:∃ k:Nat,rp=k:=⟨rp.toNat,by omega⟩
  obtain ⟨b,off,rfl,hc⟩:=hrow k (by omega)
  have hk:(k:Int)<512:=by omega
  rw [if_pos rfl,Int.toNat_natCast,Jao];have v1:=Jc7 (k:Int);have q1:=Jbz (k:Int)
  go_enter Tryz.func179,Tryz.ntmps179
  go_wp2
  go_quiet ((go_at_call 262; exact Calls.quiet_of_same (partOf _ _)))
  go_wp2;go_ret;exact ⟨rfl,LD _⟩
 ·clear HC
  obtain ⟨k,rfl⟩:∃ k:Nat,rp=k:=⟨rp.toNat,by omega⟩
  obtain ⟨b,off,y,rfl,hc,a',cap',rfl,hn',hrw,-⟩:=hrows bk hbm;have hl:ln bk=256:=(Gi (hbk bk hbm)).1;obtain ⟨b',off',rfl,hc'⟩:=hrw k (by omega)
  have hk:(k:Int)<(ln bk:Int):=by omega
  have hbm':(bk:Int)<(m:Int):=by omega
  rw [if_neg (by decide),if_pos rfl,Int.toNat_natCast,Jas];have v1:=Jd1 (k:Int);have q1:=Jb3 (k:Int);have q5:=Jb4 (k:Int);clear hl
  go_enter Tryz.func179,Tryz.ntmps179
  go_wp2
  go_quiet ((go_at_call 262; exact Calls.quiet_of_same (partOf _ _)))
  go_wp2;go_ret;exact ⟨rfl,LD _⟩
 ·clear HC
  obtain ⟨k,rfl⟩:∃ k:Nat,rp=k:=⟨rp.toNat,by omega⟩
  obtain ⟨q,rfl⟩:∃ q:Nat,m=q+1:=⟨m-1,by omega⟩
  obtain ⟨b,off,y,rfl,hc,a',cap',rfl,hn',hrw,-⟩:=hrows q (by omega);have hl:ln q=256:=(Gi (hbk q (by omega))).1;obtain ⟨b',off',rfl,hc'⟩:=hrw k (by omega)
  have hk:(k:Int)<(ln q:Int):=by omega
  rw [if_neg (by decide),if_neg (by decide),if_pos rfl,Int.toNat_natCast,Nat.add_sub_cancel,Jat];have v1:=Jd2 (k:Int);have q1:=Jb5 (k:Int);have q5:=Jb6 (k:Int);have q6:=Jb7 (k:Int);clear hl
  go_enter Tryz.func179,Tryz.ntmps179
  go_wp2
  go_quiet ((go_at_call 262; exact Calls.quiet_of_same (partOf _ _)))
  go_wp2;go_ret;exact ⟨rfl,LD _⟩
 ·rw [if_neg (by omega),if_neg (by omega),if_neg (by omega)]
  rcases hrest with rfl | rfl | rfl | rfl
  ·rw [Jap]
   have q1:=Jb0 rp;have q5:=Jc1 rp;have q6:=Jc2 rp
   go_enter Tryz.func179,Tryz.ntmps179
   go_wp2;go_ret;exact ⟨rfl,L0⟩
  ·rw [Jaq]
   have q1:=Jb1 rp;have q5:=Jc3 rp;have q6:=Jc4 rp
   go_enter Tryz.func179,Tryz.ntmps179
   go_wp2;go_ret;exact ⟨rfl,L0⟩
  ·rw [Jar]
   have q1:=Jb2 rp;have q5:=Jc5 rp;have q6:=Jc6 rp
   go_enter Tryz.func179,Tryz.ntmps179
   go_wp2;go_ret;exact ⟨rfl,L0⟩
  ·rw [Jau]
   have q1:=Jb8 rp;have q5:=Jb9 rp;have q6:=Jca rp
   go_enter Tryz.func179,Tryz.ntmps179
   go_wp2;go_ret;exact ⟨rfl,L0⟩
set_option maxHeartbeats 1000000
theorem Gm (w:World) (F G:Nat→Nat→Prop) (v u:Value) (m:Nat) (ln:Nat→Nat) (f:Nat→Nat→Int) (n:Nat) (g:Nat→Int) (bank x:Int) (H:Ba .i64 w F v m ln f) (K:Ints .i64 w G u n g) :
  Calls Tryz.prog 156 #[.agg #[v],.agg #[u,.i bank],.i x] w fun e w'=>e=.returned (.i (peekV m ln f n g bank x))∧Below w.heap.size w w':=by
 have L0:Below w.heap.size w ((w.alloc (.cells #[v] 41)).alloc (.cells #[u,.i bank] 42)):=((Below.refl _ _).alloc (Nat.le_refl _) _).alloc (by simp) _;have H0:=H.keep (Ab L0 Aj) (fun _ _ _ x=>x);have K0:=K.keep (Ab L0 Aj) (fun _ _ _ x=>x);obtain ⟨ia,icap,rfl,im,-,-⟩:=H;obtain ⟨ua,ucap,rfl,un,-,-⟩:=K
 have a0:0≤x%65536:=by omega
 have a1:x%65536<65536:=by omega
 go_enter Tryz.func156,Tryz.ntmps156
 go_wp2_with fail;refine (Kd _ F G _ _ m ln f n g bank H0 K0).mono ?_;rintro e w1 ⟨rfl,L1⟩;have c1:w1.cell? ⟨w.heap.size,0,none⟩=some (.slice ia m icap):=(L1.cell (by simp; omega)).trans (by go_simp);have c2:w1.cell? ⟨w.heap.size+1,0,none⟩=some (.slice ua n ucap):=(L1.cell (by simp)).trans (by go_simp);have c3:w1.cell? ⟨w.heap.size+1,1,none⟩=some (.i bank):=(L1.cell (by simp)).trans (by go_simp)
 have hz:w.heap.size+2≤w1.heap.size:=by have:=L1.size; simp at this; omega
 have C1:=L0.trans (L1.mono L0.size);have H1:=H0.keep (Ab L1 Aj) (fun _ _ _ x=>x);have K1:=K0.keep (Ab L1 Aj) (fun _ _ _ x=>x);clear L1 L0 H0 K0;cases hO:B6 m ln f n g bank
 ·have HE:Hid (peekV m ln f n g bank x=0):=by show _=_; unfold peekV; rw [hO]; rfl
  clear hO;go_wp2;go_ret;exact ⟨Az HE.out.symm,C1⟩
 ·have HE:Hid (peekV m ln f n g bank x=Em m f g bank (x%65536)):=by show _=_; unfold peekV; rw [hO]; rfl
  have HO:=Ad hO;clear hO;have HH:=Ad (show Ba .i64 w1.drew F _ m ln f from H1);have HK:=Ad (show Ints .i64 w1.drew G _ n g from K1);clear H1 K1;go_wp2_with fail
  go_region_held3 (fun w'=>w'.cell? ⟨w.heap.size,0,none⟩=some (.slice ia m icap)∧w'.cell? ⟨w.heap.size+1,0,none⟩=some (.slice ua n ucap)∧w'.cell? ⟨w.heap.size+1,1,none⟩=some (.i bank)) (first | assumption | go_keep) (first | (go_at_call 180; refine (Lq _ _ a0 a1).mono ?_; rintro e w' ⟨rfl,rfl⟩) | (go_at_call 179; refine (Jcb _ F G _ _ m ln f n g bank _ a0 a1 (An HH) (An HK) (An HO)).mono ?_; rintro e w2 ⟨rfl,L2⟩; have d1:=(L2.cell (p:=⟨w.heap.size,0,none⟩) (show w.heap.size<w1.heap.size by omega)).trans c1; have d2:=(L2.cell (p:=⟨w.heap.size+1,0,none⟩) (show w.heap.size+1<w1.heap.size by omega)).trans c2; have d3:=(L2.cell (p:=⟨w.heap.size+1,1,none⟩) (show w.heap.size+1<w1.heap.size by omega)).trans c3))
  all_goals
   go_wp2;go_ret;exact ⟨Az HE.out.symm,C1.trans (Below.trans (⟨rfl,rfl,rfl,Nat.le_refl _,fun _ _=>rfl⟩:Below w.heap.size w1 w1.drew) (L2.mono C1.size))⟩
theorem Q1 {w:World} {lo:Nat} {a:Option Addr} {c:Nat} (g:Nat→Int):Am w lo (.slice a 0 c) 0 g:=⟨_,_,rfl,by omega,fun i hi=>absurd hi (Nat.not_lt_zero _),fun b o hF=>absurd hF (Bo _ _ _),fun b o hF=>absurd hF (Bo _ _ _)⟩
theorem Wc (w:World) (G:Nat→Nat→Prop) (u:Value) (n:Nat) (g:Nat→Int) (K:Ints .i64 w G u n g) :
  Calls Tryz.prog 73 #[u] w fun e w'=>∃ v,e=.returned v∧Am w' w.heap.size v n g∧Below w.heap.size w w':=by
 obtain ⟨ua,ucap,rfl,un,hrow,-⟩:=K
 have hq:∀ W:World,(binOp .eql 25 (.slice ua n ucap) (.slice none 0 0)).run Tryz.prog W=.ok (.bool ua.isNone) W:=fun W=>Lib.run_eql_slice_nil W 25 3 ua n ucap 0 0 Tryz.underlying25
 cases ua with
 | none =>
  have hq':∀ W:World,(binOp .eql 25 (.slice none n ucap) (.slice none 0 0)).run Tryz.prog W=.ok (.bool true) W:=hq;clear hq
  have hn:n=0:=by
   rcases Nat.eq_zero_or_pos n with h | h
   ·exact h
   ·obtain ⟨b,off,e,-⟩:=hrow 0 h
    cases e
  subst hn;clear hrow
  go_enter Tryz.func73,Tryz.ntmps73
  go_wp2;go_ret;exact ⟨_,rfl,Q1 g,Below.refl _ _⟩
 | some ad =>
  have hq':∀ W:World,(binOp .eql 25 (.slice (some ad) n ucap) (.slice none 0 0)).run Tryz.prog W=.ok (.bool false) W:=hq;clear hq;obtain ⟨i0,hi,hz0,hz1,hz2⟩:=info_parts Is
  by_cases h0:n=0
  ·subst h0
   have hl0:∀ (W:World) (ad:Addr),(loadCells ad 0).run Tryz.prog W=.ok #[] W:=fun W ad=>by
    simpa using run_loadCells_list (P:=Tryz.prog) W ad [] (fun j v h=>by simp at h)
   clear hrow
   go_enter Tryz.func73,Tryz.ntmps73
   go_wp2;go_ret;exact ⟨_,rfl,Q1 g,(Below.refl _ _).alloc (Nat.le_refl _) _⟩
  ·obtain ⟨rb,ro,e,-⟩:=hrow 0 (by omega)
   cases e;have L0:Below w.heap.size w (w.alloc (.cells #[] 3)):=(Below.refl _ _).alloc (Nat.le_refl _) _;have HR:=Ad (hrow.keep (Ab L0 Aj) (fun _ _ _ x=>x));clear hrow
   go_enter Tryz.func73,Tryz.ntmps73
   go_wp2_with (at_builtin; refine wpList_append_grows _ rfl (.tmp 5) (.tmp 6) 25 rfl 3 i0 (.i 0) 1 8 Tryz.underlying25 hi hz0 hz1 hz2 rfl (by decide) (some ⟨w.heap.size,0,none⟩) 0 0 [] rfl (fun h=>by cases h) rfl (fun b hb j u h=>by simp at h) ⟨rb,ro,none⟩ n ucap (rowVals n g) rfl (by rw [A2,Nat.mul_one]) (Cy HR.out) (Fy _ _) (by omega) (by unfold maxLen; omega) (by omega) ?_);intro v' w2 hown hgrow;have LL:Below w.heap.size w w2:=L0.grown hgrow (by simp) (fun _ e=>by cases e)
   have hon:w2.ownsRow (w.alloc (.cells #[] 3)).heap.size 3 1 v' n (rowVals n g):=by simpa using hown
   obtain ⟨g',cap2,rfl,hg,hlt⟩:=hon.form (by omega);have O2:Am w2 w.heap.size (.slice (some ⟨g',0,none⟩) n cap2) n g:=Ph hon (by simp at hg; omega) hlt un;clear hown hon hgrow;go_wp2;go_ret;exact ⟨_,rfl,O2,LL⟩
theorem Js (w:World) (G:Nat→Nat→Prop) (u:Value) (n:Nat) (g:Nat→Int) (bank:Int) (K:Ints .i64 w G u n g) :
  Calls Tryz.prog 74 #[.agg #[u,.i bank]] w fun e w'=>∃ v,e=.returned (.agg #[v,.i bank])∧Am w' w.heap.size v n g∧Below w.heap.size w w':=by
 have L0:Below w.heap.size w ((w.alloc (.cells #[u,.i bank] 42)).alloc (.cells mZ 42)):=((Below.refl _ _).alloc (Nat.le_refl _) _).alloc (by simp) _;have K0:=K.keep (Ab L0 Aj) (fun _ _ _ x=>x);obtain ⟨ua,ucap,rfl,un,-,-⟩:=K;have b1:((w.alloc (.cells #[.slice ua n ucap,.i bank] 42)).alloc (.cells mZ 42)).heap[w.heap.size]?=some (.cells #[.slice ua n ucap,.i bank] 42 (0,0)):=Ax (Al w _ _) _
 have r1:((w.alloc (.cells #[.slice ua n ucap,.i bank] 42)).alloc (.cells mZ 42)).heap[w.heap.size+1]?=some (.cells mZ 42 (0,0)):=by simpa using Al (w.alloc (.cells #[.slice ua n ucap,.i bank] 42)) mZ 42
 go_enter Tryz.func74,Tryz.ntmps74
 go_wp2_with fail;generalize ((w.alloc (.cells #[.slice ua n ucap,.i bank] 42)).alloc (.cells mZ 42))=w1 at *;have cb:=Ag b1;have HK:=Ad (show Ints .i64 w1.drew G _ n g from K0);have hr1:=Ac r1;clear K0
 go_region_with (go_at_call 73; refine (Wc _ G _ n g (An HK)).mono ?_; rintro e w2 ⟨q,rfl,O2,L2'⟩; obtain ⟨qa,qc,rfl,-,-,-,-⟩:=id O2; have L2:Below w1.heap.size w1 w2:=Below.trans (⟨rfl,rfl,rfl,Nat.le_refl _,fun _ _=>rfl⟩:Below w1.heap.size w1 w1.drew) L2'; have cb2:=Ag (Aa b1 L2 (Ac b1)); have cr2:=Ag (Aa r1 L2 (Ac r1)); have fr2:=As (Aa r1 L2 (Ac r1)); clear L2')
 all_goals
  go_wp2;refine bodyPost_ret (v:=.agg #[.slice qa n qc,.i bank]) (by simp [results,Tryz.results74,go_sem,cr2]) rfl ?_;exact ⟨_,rfl,(((O2.mono (show w.heap.size+2≤w1.heap.size by omega)).setLow (by omega) _).setLow (by omega) _).mono (by omega),((L0.trans (L2.mono L0.size)).setCell (by simp) _).setCell (by simp) _⟩
theorem Wd (w:World) (p b off c k:Nat) (bank x:Int) (m:Nat) (hk:k<512) (hb:w.heap[p]?=some (.cells #[.slice (some ⟨b,off,none⟩) 512 c,.i bank] 42 (0,0))) {z:Value} (hc:w.cell? ⟨b,off+k,none⟩=some z) (hf:w.frozen? ⟨b,off+k,none⟩=false) :
  Calls Tryz.prog 190 #[(pt p 0),Ia 1 (k:Int),.i x,.i m] w fun e w'=>e=.returned (.tuple #[])∧w'=(w.setCell ⟨b,off+k,none⟩ (.i x)).drew:=by
 rw [Jao];have cb:=Ag hb;have q1:=Jbz (k:Int);have v1:=Jc7 (k:Int)
 have hk':(k:Int)<512:=by omega
 go_enter Tryz.func190,Tryz.ntmps190
 go_wp2_with fail
 go_region_with (go_at_call 262; refine (partOf _ _).mono ?_; rintro e w' ⟨rfl,rfl⟩)
 all_goals
  go_wp2
  go_returns
  exact ⟨rfl,rfl⟩
theorem We (w:World) (p:Nat) (oa:Option Addr) (n c:Nat) (bank rp x:Int) (m:Nat) (x0:0≤x) (x1:x<256) (hm:1≤m) (hm8:m≤8) (hb:w.heap[p]?=some (.cells #[.slice oa n c,.i bank] 42 (0,0))) :
  Calls Tryz.prog 190 #[(pt p 0),Ia 5 rp,.i x,.i m] w fun e w'=>e=.returned (.tuple #[])∧w'=w.setCell ⟨p,1,none⟩ (.i (x%(m:Int))):=by
 rw [Jas];have cb:=Ag hb;have fb:=As hb;have q1:=Jb3 rp;have q5:=Jb4 rp;have q6:=Jdu rp
 have hmi:(m:Int)≠0:=by omega
 have hmb:((m:Int)==0)=false:=by simp; omega
 have htm:x.tmod (m:Int)=x%(m:Int):=Int.tmod_eq_emod_of_nonneg x0;have y0:0≤x%(m:Int):=Int.emod_nonneg _ hmi;have y1:x%(m:Int)<9:=Int.lt_of_lt_of_le (Int.emod_lt_of_pos _ (by omega)) (by omega)
 go_enter Tryz.func190,Tryz.ntmps190
 go_wp2
 go_returns
 exact ⟨rfl,rfl⟩
theorem Wg (w:World) (p:Nat) (oa:Option Addr) (n c:Nat) (bank rp x:Int) (m:Nat) (x0:0≤x) (x1:x<256) (hm:1≤m) (hm8:m≤8) (hb:w.heap[p]?=some (.cells #[.slice oa n c,.i bank] 42 (0,0))) :
  Calls Tryz.prog 190 #[(pt p 0),Ia 6 rp,.i x,.i m] w fun e w'=>e=.returned (.tuple #[])∧w'=w.setCell ⟨p,1,none⟩ (.i (x%(m:Int))):=by
 rw [Jat];have cb:=Ag hb;have fb:=As hb;have q1:=Jb5 rp;have q5:=Jb6 rp;have q6:=Jb7 rp
 have hmi:(m:Int)≠0:=by omega
 have hmb:((m:Int)==0)=false:=by simp; omega
 have htm:x.tmod (m:Int)=x%(m:Int):=Int.tmod_eq_emod_of_nonneg x0;have y0:0≤x%(m:Int):=Int.emod_nonneg _ hmi;have y1:x%(m:Int)<9:=Int.lt_of_lt_of_le (Int.emod_lt_of_pos _ (by omega)) (by omega)
 go_enter Tryz.func190,Tryz.ntmps190
 go_wp2
 go_returns
 exact ⟨rfl,rfl⟩
theorem Wh (w:World) (p:Nat) (rn rp x:Int) (m:Nat) (h:rn=2∨rn=3∨rn=4∨rn=7) :
  Calls Tryz.prog 190 #[(pt p 0),Ia rn rp,.i x,.i m] w fun e w'=>e=.returned (.tuple #[])∧w'=w:=by
 rcases h with rfl | rfl | rfl | rfl
 ·rw [Jap]
  have q1:=Jb0 rp;have q5:=Jc1 rp;have q6:=Jc2 rp
  go_enter Tryz.func190,Tryz.ntmps190
  go_wp2
  go_returns
  exact ⟨rfl,rfl⟩
 ·rw [Jaq]
  have q1:=Jb1 rp;have q5:=Jc3 rp;have q6:=Jc4 rp
  go_enter Tryz.func190,Tryz.ntmps190
  go_wp2
  go_returns
  exact ⟨rfl,rfl⟩
 ·rw [Jar]
  have q1:=Jb2 rp;have q5:=Jc5 rp;have q6:=Jc6 rp
  go_enter Tryz.func190,Tryz.ntmps190
  go_wp2
  go_returns
  exact ⟨rfl,rfl⟩
 ·rw [Jau]
  have q1:=Jb8 rp;have q5:=Jb9 rp;have q6:=Jca rp
  go_enter Tryz.func190,Tryz.ntmps190
  go_wp2
  go_returns
  exact ⟨rfl,rfl⟩
set_option maxHeartbeats 4000000
set_option maxRecDepth 20000
theorem Yv (w:World) (F G:Nat→Nat→Prop) (v u:Value) (m:Nat) (ln:Nat→Nat) (f:Nat→Nat→Int) (n:Nat) (g:Nat→Int) (bank x y:Int) (H:Ba .i64 w F v m ln f) (K:Ints .i64 w G u n g) :
  Calls Tryz.prog 168 #[.agg #[v],.agg #[u,.i bank],.i x,.i y] w fun e w'=>∃ q,e=.returned (.agg #[q,.i (Gl (B6 m ln f n g bank) m bank (x%65536) y)])∧Am w' w.heap.size q n (E3 (B6 m ln f n g bank) g (x%65536) y)∧Below w.heap.size w w':=by
 obtain ⟨ia,icap,rfl,im,iF,iR⟩:=H;obtain ⟨ua,ucap,rfl,un,uR,uF⟩:=K
 have H:Ba .i64 w F (.slice ia m icap) m ln f:=⟨ia,icap,rfl,im,iF,iR⟩
 have K:Ints .i64 w G (.slice ua n ucap) n g:=⟨ua,ucap,rfl,un,uR,uF⟩
 clear iF iR uR uF;have C0:Below w.heap.size w (((w.alloc (.cells #[.slice ia m icap] 41)).alloc (.cells #[.slice ua n ucap,.i bank] 42)).alloc (.cells mZ 42)):=(((Below.refl _ _).alloc (Nat.le_refl _) _).alloc (by simp) _).alloc (by simp; omega) _;have k0:=Ax (Ax (Al w #[.slice ia m icap] 41) (.cells #[.slice ua n ucap,.i bank] 42)) (.cells mZ 42)
 have k1:(((w.alloc (.cells #[.slice ia m icap] 41)).alloc (.cells #[.slice ua n ucap,.i bank] 42)).alloc (.cells mZ 42)).heap[w.heap.size+1]?=some (.cells #[.slice ua n ucap,.i bank] 42 (0,0)):=by simpa using Ax (Al (w.alloc (.cells #[.slice ia m icap] 41)) #[.slice ua n ucap,.i bank] 42) (.cells mZ 42)
 have k2:(((w.alloc (.cells #[.slice ia m icap] 41)).alloc (.cells #[.slice ua n ucap,.i bank] 42)).alloc (.cells mZ 42)).heap[w.heap.size+1+1]?=some (.cells mZ 42 (0,0)):=by simpa using Al ((w.alloc (.cells #[.slice ia m icap] 41)).alloc (.cells #[.slice ua n ucap,.i bank] 42)) mZ 42
 go_enter Tryz.func168,Tryz.ntmps168
 go_wp2_with fail;generalize (((w.alloc (.cells #[.slice ia m icap] 41)).alloc (.cells #[.slice ua n ucap,.i bank] 42)).alloc (.cells mZ 42))=W0 at *;refine (Js _ G _ n g bank (K.keep (Ab C0 Aj) (fun _ _ _ x=>x))).mono ?_;rintro e W1 ⟨q,rfl,O1,L⟩;have z2:=Ac k2;replace O1:=O1.mono (show w.heap.size+3≤W0.heap.size by omega);obtain ⟨oa,oc,rfl,-,-,oF,-⟩:=id O1;have C1:=Ae C0 L;replace k0:=Aa k0 L (Ac k0);replace k1:=Aa k1 L (Ac k1);replace k2:=Aa k2 L (Ac k2);clear L C0;have hxl:=Ac k2;have x1:=Al W1 #[.slice oa n oc,.i bank] 42;replace C1:=C1.alloc C1.size (.cells #[.slice oa n oc,.i bank] 42);replace k0:=Ax k0 (.cells #[.slice oa n oc,.i bank] 42);replace k1:=Ax k1 (.cells #[.slice oa n oc,.i bank] 42);replace k2:=Ax k2 (.cells #[.slice oa n oc,.i bank] 42)
 replace O1:=O1.keepL ((Below.refl _ W1).alloc (Nat.le_refl _) (.cells #[.slice oa n oc,.i bank] 42))
 have oL:∀ b o,Da oa n b o→b<W1.heap.size:=fun b o h=>(oF b o h).1
 clear oF z2;have c0:=Ag k0;have c1:=Ag k1;go_wp2_with fail;clear c0 c1;generalize hp:W1.heap.size=p at *;generalize (W1.alloc (.cells #[.slice oa n oc,.i bank] 42))=W2 at *;refine (Kd _ F G _ _ m ln f n g bank (H.keep (Ab C1 Aj) (fun _ _ _ x=>x)) (K.keep (Ab C1 Aj) (fun _ _ _ x=>x))).mono ?_;rintro e W3 ⟨rfl,L⟩
 have Z:En w W3 p ia m icap oa n oc bank g:=⟨Aa k0 L (Ac k0),Aa k2 L (Ac k2),Aa x1 L (Ac x1),hxl,O1.keepL L,oL,Ae C1 L⟩
 clear L C1 k0 k1 k2 x1 O1 oL hxl hp;cases hO:B6 m ln f n g bank
 ·have HB:Hid (Gl (B6 m ln f n g bank) m bank (x%65536) y=bank):=by show _=_; rw [hO]; exact if_neg (by simp)
  have HG:Hid (E3 (B6 m ln f n g bank) g (x%65536) y=g):=by show _=_; rw [hO]; exact if_neg (by simp)
  clear hO;have d1:=Ag Z.res;have d2:=Ag Z.out;have d3:=As Z.res;have hf:=Z.far
  have hpn:p≠w.heap.size+1+1:=by omega
  go_wp2;refine bodyPost_ret (v:=.agg #[.slice oa n oc,.i bank]) (by simp [results,Tryz.results168,go_sem,d1]) rfl ?_;exact ⟨_,by rw [HB.out],by rw [HG.out]; exact Z.end _ _⟩
 ·obtain ⟨hI,hn,-,-⟩:=Fg hO
  have hm1:=(Gk hI).2.1;have hm8:=(Gk hI).2.2;subst hn
  have a0:0≤x%65536:=by omega
  have a1:x%65536<65536:=by omega
  have hcs:=Hv _ a0 a1
  have HB:Hid (∀ t,(rgN (x%65536)=5∨rgN (x%65536)=6→t=y%256%(m:Int))→(¬ (rgN (x%65536)=5∨rgN (x%65536)=6)→t=bank)→Gl (B6 m ln f 512 g bank) m bank (x%65536) y=t):=by
   intro t h1 h2;rw [hO];unfold Gl
   by_cases h:rgN (x%65536)=5∨rgN (x%65536)=6
   ·rw [if_pos ⟨rfl,h⟩,h1 h]
   ·rw [if_neg (fun e=>h e.2),h2 h]
  have HG:Hid (∀ t,(rgN (x%65536)=1→t=Fh g (rgP (x%65536)).toNat (y%256))→(¬ rgN (x%65536)=1→t=g)→E3 (B6 m ln f 512 g bank) g (x%65536) y=t):=by
   intro t h1 h2;rw [hO];unfold E3
   by_cases h:rgN (x%65536)=1
   ·rw [if_pos ⟨rfl,h⟩,h1 h]
   ·rw [if_neg (fun e=>h e.2),h2 h]
  clear hO hI;generalize hrn:rgN (x%65536)=rn at *;generalize hrp:rgP (x%65536)=rp at *;have HREG:=Ad (show Calls Tryz.prog 180 #[.int .u16 (x%65536)] W3.drew fun e w'=>e=.returned (Ia rn rp)∧w'=W3.drew from hrn ▸ hrp ▸ Lq W3.drew _ a0 a1);clear a0 a1 hrn hrp
  rcases hcs with ⟨rfl,p0,p1⟩ | ⟨rfl,p0,p1⟩ | ⟨rfl,p0,p1⟩ | hrest
  ·obtain ⟨k,rfl⟩:∃ k:Nat,rp=k:=⟨rp.toNat,by omega⟩
   obtain ⟨a',c',e',-,hr,-,-⟩:=id Z.own;simp only [Value.slice.injEq] at e';obtain ⟨rfl,-,rfl⟩:=e';obtain ⟨b,off,rfl,-⟩:=hr k (by omega);clear hr;obtain ⟨q1,q2,-,-⟩:=Z.own.cellAt k (by omega);have HW:=Ad (Wd W3.drew p b off oc k bank (y%256) m (by omega) Z.drew.out q1 q2);go_upto_region 3 with (fail);have d0:=Ag Z.img;clear q1 q2
   go_region_with (first | (go_at_call 180; refine (An HREG).mono ?_; rintro e w' ⟨rfl,rfl⟩) | (go_at_call 98; refine (Ck _ _).mono ?_; rintro e w' ⟨rfl,rfl⟩) | (go_at_call 190; refine (An HW).mono ?_; rintro e w' ⟨rfl,rfl⟩))
   all_goals
    have Z5:=((Z.ram k (by omega) (y%256)).drew).drew;clear d0;generalize ((W3.setCell ⟨b,off+k,none⟩ (.i (y%256))).drew).drew=W5 at *;have d1:=Ag Z5.res;have d2:=Ag Z5.out;have d3:=As Z5.res;have hf:=Z5.far
    have hpn:p≠w.heap.size+1+1:=by omega
    go_wp2;refine bodyPost_ret (v:=.agg #[.slice (some ⟨b,off,none⟩) 512 oc,.i bank]) (by simp [results,Tryz.results168,go_sem,d1]) rfl ?_;exact ⟨_,by rw [HB.out bank (fun h=>absurd h (by decide)) (fun _=>rfl)],by rw [HG.out (Fh g k (y%256)) (fun _=>by rw [Int.toNat_natCast]) (fun h=>by simp at h)]; exact Z5.end _ _⟩
  ·have y0:0≤y%256:=by omega
   have y1:y%256<256:=by omega
   have HW:=Ad (We W3.drew p oa 512 oc bank rp (y%256) m y0 y1 hm1 hm8 Z.drew.out);clear p0 p1;go_upto_region 3 with (fail);have d0:=Ag Z.img
   go_region_with (first | (go_at_call 180; refine (An HREG).mono ?_; rintro e w' ⟨rfl,rfl⟩) | (go_at_call 98; refine (Ck _ _).mono ?_; rintro e w' ⟨rfl,rfl⟩) | (go_at_call 190; refine (An HW).mono ?_; rintro e w' ⟨rfl,rfl⟩))
   all_goals
    have Z5:=(Z.bank (y%256%(m:Int))).drew;clear d0;generalize (W3.setCell ⟨p,1,none⟩ (.i (y%256%(m:Int)))).drew=W5 at *;have d1:=Ag Z5.res;have d2:=Ag Z5.out;have d3:=As Z5.res;have hf:=Z5.far
    have hpn:p≠w.heap.size+1+1:=by omega
    go_wp2;refine bodyPost_ret (v:=.agg #[.slice oa 512 oc,.i (y%256%(m:Int))]) (by simp [results,Tryz.results168,go_sem,d1]) rfl ?_;exact ⟨_,by rw [HB.out (y%256%(m:Int)) (fun _=>rfl) (fun h=>absurd (by decide) h)],by rw [HG.out g (fun h=>absurd h (by decide)) (fun _=>rfl)]; exact Z5.end _ _⟩
  ·have y0:0≤y%256:=by omega
   have y1:y%256<256:=by omega
   have HW:=Ad (Wg W3.drew p oa 512 oc bank rp (y%256) m y0 y1 hm1 hm8 Z.drew.out);clear p0 p1;go_upto_region 3 with (fail);have d0:=Ag Z.img
   go_region_with (first | (go_at_call 180; refine (An HREG).mono ?_; rintro e w' ⟨rfl,rfl⟩) | (go_at_call 98; refine (Ck _ _).mono ?_; rintro e w' ⟨rfl,rfl⟩) | (go_at_call 190; refine (An HW).mono ?_; rintro e w' ⟨rfl,rfl⟩))
   all_goals
    have Z5:=(Z.bank (y%256%(m:Int))).drew;clear d0;generalize (W3.setCell ⟨p,1,none⟩ (.i (y%256%(m:Int)))).drew=W5 at *;have d1:=Ag Z5.res;have d2:=Ag Z5.out;have d3:=As Z5.res;have hf:=Z5.far
    have hpn:p≠w.heap.size+1+1:=by omega
    go_wp2;refine bodyPost_ret (v:=.agg #[.slice oa 512 oc,.i (y%256%(m:Int))]) (by simp [results,Tryz.results168,go_sem,d1]) rfl ?_;exact ⟨_,by rw [HB.out (y%256%(m:Int)) (fun _=>rfl) (fun h=>absurd (by decide) h)],by rw [HG.out g (fun h=>absurd h (by decide)) (fun _=>rfl)]; exact Z5.end _ _⟩
  ·have HW:=Ad (Wh W3.drew p rn rp (y%256) m hrest)
   have HR1:=Ad (show ¬ rn=1 by omega);have HR2:=Ad (show ¬ (rn=5∨rn=6) by omega);clear hrest;go_upto_region 3 with (fail);have d0:=Ag Z.img
   go_region_with (first | (go_at_call 180; refine (An HREG).mono ?_; rintro e w' ⟨rfl,rfl⟩) | (go_at_call 98; refine (Ck _ _).mono ?_; rintro e w' ⟨rfl,rfl⟩) | (go_at_call 190; refine (An HW).mono ?_; rintro e w' ⟨rfl,rfl⟩))
   all_goals
    have Z5:=Z.drew;clear d0;generalize W3.drew=W5 at *;have d1:=Ag Z5.res;have d2:=Ag Z5.out;have d3:=As Z5.res;have hf:=Z5.far
    have hpn:p≠w.heap.size+1+1:=by omega
    go_wp2;refine bodyPost_ret (v:=.agg #[.slice oa 512 oc,.i bank]) (by simp [results,Tryz.results168,go_sem,d1]) rfl ?_;exact ⟨_,by rw [HB.out bank (fun h=>absurd h HR2.out) (fun _=>rfl)],by rw [HG.out g (fun h=>absurd h HR1.out) (fun _=>rfl)]; exact Z5.end _ _⟩
set_option maxHeartbeats 4000000
set_option maxRecDepth 20000
theorem Ay {w:World} {b d o:Nat} {ob:Obj} {x:Value} (h:w.heap[b]?=some ob) (hd:b≠d):(w.setCell ⟨d,o,none⟩ x).heap[b]?=some ob :=
 ((Wrote.setCell (R:=fun b' _=>b'=d) (Wrote.refl _ w) (fun _=>rfl) x).block b (Ac h) (fun _ e=>hd e)).trans h
def opLn (x:Int):Int:=if 0≤x∧x≤29 then Gz.getD x.toNat 1 else 1
def Ib (P:Int→Int) (x:Int):Int:=if opLn (P x)=2 then P (x+1) else if opLn (P x)=3 then P (x+1)%256+256*(P (x+2)%256) else 0
theorem I5 (m:Nat) (ln:Nat→Nat) (f:Nat→Nat→Int) (n:Nat) (g:Nat→Int) (bank x:Int):peekV m ln f n g bank (wrap64 x)=peekV m ln f n g bank x:=by
 have e:wrap64 x%65536=x%65536:=by unfold wrap64; omega
 unfold peekV;rw [e]
theorem F8 (m:Nat) (ln:Nat→Nat) (f:Nat→Nat→Int) (n:Nat) (g:Nat→Int) (bank x:Int):peekV m ln f n g bank (IntKind.i64.wrap x)=peekV m ln f n g bank x:=by
 have e:IntKind.i64.wrap x%65536=x%65536:=by rw [IntKind.wrap_i64]; omega
 unfold peekV;rw [e]
def F9 (op arg X:Int):Int:=if B9 op=0 then 0 else (if op=14∨op=15 then arg+X else arg)%65536
def Lt (op A:Int):Int:=if B9 op=2 then A%256 else 0
structure FA (w W:World) (p:Nat) (ia:Option Addr) (m icap:Nat) (ua:Option Addr) (n ucap:Nat) (bank op arg:Int):Prop where
 img:W.heap[w.heap.size]?=some (.cells #[.slice ia m icap] 41 (0,0))
 mem:W.heap[w.heap.size+1]?=some (.cells #[.slice ua n ucap,.i bank] 42 (0,0))
 res:W.heap[w.heap.size+1+1]?=some (.cells #[.i 0,.i 0] 109 (0,0))
 out:W.heap[p]?=some (.cells #[.i op,.i arg] 109 (0,0))
 far:w.heap.size+1+1<p
 low:Below w.heap.size w W
section
variable {w W W':World} {p:Nat} {ia:Option Addr} {m icap:Nat} {ua:Option Addr} {n ucap:Nat} {bank op arg:Int}
theorem FA.below (D:FA w W p ia m icap ua n ucap bank op arg) (L:Below W.heap.size W W'):FA w W' p ia m icap ua n ucap bank op arg :=
 ⟨Aa D.img L (Ac D.img),Aa D.mem L (Ac D.mem),Aa D.res L (Ac D.res),Aa D.out L (Ac D.out),D.far,Ae D.low L⟩
theorem FA.put (D:FA w W p ia m icap ua n ucap bank op arg) (x:Int):FA w (W.setCell ⟨p,1,none⟩ (.i x)) p ia m icap ua n ucap bank op x:=by
 have hf:=D.far;exact ⟨Ay D.img (by omega),Ay D.mem (by omega),Ay D.res (by omega),Af D.out _,hf,D.low.setCell (by show w.heap.size≤p; omega) _⟩
theorem FA.cells (D:FA w W p ia m icap ua n ucap bank op arg):W.cell? ⟨w.heap.size,0,none⟩=some (.slice ia m icap)∧W.cell? ⟨w.heap.size+1,0,none⟩=some (.slice ua n ucap)∧W.cell? ⟨w.heap.size+1,1,none⟩=some (.i bank)∧W.cell? ⟨p,0,none⟩=some (.i op)∧W.cell? ⟨p,1,none⟩=some (.i arg)∧W.frozen? ⟨p,1,none⟩=false :=
 ⟨Ag D.img 0,Ag D.mem 0,Ag D.mem 1,Ag D.out 0,Ag D.out 1,As D.out 1⟩
end
theorem Wi (w:World) (F G:Nat→Nat→Prop) (v u:Value) (m:Nat) (ln:Nat→Nat) (f:Nat→Nat→Int) (n:Nat) (g:Nat→Int) (bank x:Int) (H:Ba .i64 w F v m ln f) (K:Ints .i64 w G u n g) :
  Calls Tryz.prog 87 #[.agg #[v],.agg #[u,.i bank],.i x] w fun e w'=>e=.returned (.agg #[.i (peekV m ln f n g bank x),.i (Ib (peekV m ln f n g bank) x)])∧Below w.heap.size w w':=by
 obtain ⟨ia,icap,rfl,im,iF,iR⟩:=H;obtain ⟨ua,ucap,rfl,un,uR,uF⟩:=K
 have H:Ba .i64 w F (.slice ia m icap) m ln f:=⟨ia,icap,rfl,im,iF,iR⟩
 have K:Ints .i64 w G (.slice ua n ucap) n g:=⟨ua,ucap,rfl,un,uR,uF⟩
 clear iF iR uR uF;have C0:Below w.heap.size w (((w.alloc (.cells #[.slice ia m icap] 41)).alloc (.cells #[.slice ua n ucap,.i bank] 42)).alloc (.cells #[.i 0,.i 0] 109)):=(((Below.refl _ _).alloc (Nat.le_refl _) _).alloc (by simp) _).alloc (by simp; omega) _;have k0:=Ax (Ax (Al w #[.slice ia m icap] 41) (.cells #[.slice ua n ucap,.i bank] 42)) (.cells #[.i 0,.i 0] 109)
 have k1:(((w.alloc (.cells #[.slice ia m icap] 41)).alloc (.cells #[.slice ua n ucap,.i bank] 42)).alloc (.cells #[.i 0,.i 0] 109)).heap[w.heap.size+1]?=some (.cells #[.slice ua n ucap,.i bank] 42 (0,0)):=by simpa using Ax (Al (w.alloc (.cells #[.slice ia m icap] 41)) #[.slice ua n ucap,.i bank] 42) (.cells #[.i 0,.i 0] 109)
 have k2:(((w.alloc (.cells #[.slice ia m icap] 41)).alloc (.cells #[.slice ua n ucap,.i bank] 42)).alloc (.cells #[.i 0,.i 0] 109)).heap[w.heap.size+1+1]?=some (.cells #[.i 0,.i 0] 109 (0,0)):=by simpa using Al ((w.alloc (.cells #[.slice ia m icap] 41)).alloc (.cells #[.slice ua n ucap,.i bank] 42)) #[.i 0,.i 0] 109
 have HP1:=Ad (I5 m ln f n g bank (x+1));have HQ1:=Ad (F8 m ln f n g bank (x+1));have HQ2:=Ad (F8 m ln f n g bank (x+2))
 go_enter Tryz.func87,Tryz.ntmps87
 go_wp2_with fail;generalize (((w.alloc (.cells #[.slice ia m icap] 41)).alloc (.cells #[.slice ua n ucap,.i bank] 42)).alloc (.cells #[.i 0,.i 0] 109))=W0 at *;refine (Hw _ F G _ _ m ln f n g bank x (H.keep (Ab C0 Aj) (fun _ _ _ x=>x)) (K.keep (Ab C0 Aj) (fun _ _ _ x=>x))).mono ?_;rintro e W1 ⟨rfl,L⟩
 have D1:FA w (W1.alloc (.cells #[.i (peekV m ln f n g bank x),.i 0] 109)) W1.heap.size ia m icap ua n ucap bank (peekV m ln f n g bank x) 0:=by
  have C1:=Ae C0 L;exact ⟨Ax (Aa k0 L (Ac k0)) _,Ax (Aa k1 L (Ac k1)) _,Ax (Aa k2 L (Ac k2)) _,Al _ _ _,by have:=Ac (Aa k2 L (Ac k2)); omega,C1.alloc C1.size _⟩
 have HFA:Hid (∀ t,(opLn (peekV m ln f n g bank x)=2→t=peekV m ln f n g bank (x+1))→(opLn (peekV m ln f n g bank x)=3→t=peekV m ln f n g bank (x+1)%256+256*(peekV m ln f n g bank (x+2)%256))→(¬ opLn (peekV m ln f n g bank x)=2→¬ opLn (peekV m ln f n g bank x)=3→t=0)→Ib (peekV m ln f n g bank) x=t):=by
  intro t h1 h2 h3;unfold Ib
  by_cases e2:opLn (peekV m ln f n g bank x)=2
  ·rw [if_pos e2,h1 e2]
  ·by_cases e3:opLn (peekV m ln f n g bank x)=3
   ·rw [if_neg e2,if_pos e3,h2 e3]
   ·rw [if_neg e2,if_neg e3,h3 e2 e3]
 clear C0 k0 k1 k2 L;obtain ⟨c1,c2,c3,c4,c5,c6⟩:=D1.cells;go_wp2_with fail;clear c1 c2 c3 c4 c5 c6;generalize hp:W1.heap.size=p at *;generalize (W1.alloc (.cells #[.i (peekV m ln f n g bank x),.i 0] 109))=W2 at *;clear hp;have HOP:=Ad (fun W=>Ob W (peekV m ln f n g bank x));generalize hop:peekV m ln f n g bank x=op at *;have HOE:=Ad hop;clear hop;refine (show Calls Tryz.prog 113 #[.i op] W2 (fun e w'=>e=.returned (.i (opLn op))∧Below W2.heap.size W2 w') from An HOP W2).mono ?_;rintro e W3 ⟨rfl,L⟩;have D3:=D1.below L;clear D1 L HOP;generalize opLn op=len at *;have hf:=D3.far
 have hpn:p≠w.heap.size+1+1:=by omega
 by_cases e2:len=2
 ·have HE:=Ad (HFA.out _ (fun _=>rfl) (fun h=>absurd h (by omega)) (fun h=>absurd e2 h))
  clear HFA;subst e2;obtain ⟨c1,c2,c3,c4,c5,c6⟩:=D3.cells;go_wp2_with fail;refine (Hw _ F G _ _ m ln f n g bank _ (H.keep (Ab D3.low Aj) (fun _ _ _ x=>x)) (K.keep (Ab D3.low Aj) (fun _ _ _ x=>x))).mono ?_;rintro e W4 ⟨rfl,L⟩;rw [HP1.out];clear c1 c2 c3 c4 c5 c6;have D4:=D3.below L;have D5:=D4.put (peekV m ln f n g bank (x+1));obtain ⟨c1,c2,c3,c4,c5,c6⟩:=D4.cells;clear L D3;go_upto_region 7 with (fail);generalize W4.setCell ⟨p,1,none⟩ (.i (peekV m ln f n g bank (x+1)))=W5 at *;clear c1 c2 c3 c4 c5 c6 D4;have d1:=Ag D5.res;have d2:=Ag D5.out;have d3:=As D5.res;go_wp2;refine bodyPost_ret (v:=.agg #[.i op,.i (peekV m ln f n g bank (x+1))]) (by simp [results,Tryz.results87,go_sem,d1]) rfl ?_;exact ⟨by rw [HE.out,HOE.out],(D5.low.setCell (by simp; omega) _).setCell (by simp; omega) _⟩
 ·have e2':(len==2)=false:=by simpa using e2
  by_cases e3:len=3
  ·have HE:=Ad (HFA.out _ (fun h=>absurd h (by omega)) (fun _=>rfl) (fun _ h=>absurd e3 h))
   clear HFA;subst e3;obtain ⟨c1,c2,c3,c4,c5,c6⟩:=D3.cells;have H3:=H.keep (Ab D3.low Aj) (fun _ _ _ x=>x);have K3:=K.keep (Ab D3.low Aj) (fun _ _ _ x=>x);have HH:=Ad (show Ba .i64 W3.drew F _ m ln f from H3);have HK:=Ad (show Ints .i64 W3.drew G _ n g from K3);clear H3 K3;have HD:=Ad D3;clear D3;go_upto_region 6 with (fail)
   go_region_held3 (fun w'=>w'.cell? ⟨w.heap.size,0,none⟩=some (.slice ia m icap)∧w'.cell? ⟨w.heap.size+1,0,none⟩=some (.slice ua n ucap)∧w'.cell? ⟨w.heap.size+1,1,none⟩=some (.i bank)) (first | assumption | go_keep) (first
    | (go_at_call 111; refine (Lb _ _ _).mono ?_; rintro e W5 ⟨rfl,rfl⟩)
    | (go_at_call 112; refine (Hw _ F G _ _ m ln f n g bank (IntKind.i64.wrap (x+2)) (An HH4) (An HK4)).mono ?_; rintro e W5 ⟨rfl,L5⟩; rw [HQ2.out]; have D5:=(An HD).below (Ae L4 L5); obtain ⟨q1,q2,q3,q4,q5,q6⟩:=D5.cells; have D6:=D5.put (peekV m ln f n g bank (x+1)%256+256*(peekV m ln f n g bank (x+2)%256)); obtain ⟨r1,r2,r3,r4,r5,r6⟩:=D6.cells; have HD6:=Ad D6; clear D5 D6 L5)
    | (go_at_call 112; refine (Hw _ F G _ _ m ln f n g bank (IntKind.i64.wrap (x+1)) (An HH) (An HK)).mono ?_; rintro e W4 ⟨rfl,L4'⟩; rw [HQ1.out]; have L4:Below W3.heap.size W3 W4:=Below.trans (⟨rfl,rfl,rfl,Nat.le_refl _,fun _ _=>rfl⟩:Below W3.heap.size W3 W3.drew) L4'; have D4:=(An HD).below L4; obtain ⟨k1,k2,k3,k4,k5,k6⟩:=D4.cells; have HH4:=Ad ((An HH).keep (Ab L4' Aj) (fun _ _ _ x=>x)); have HK4:=Ad ((An HK).keep (Ab L4' Aj) (fun _ _ _ x=>x)); clear L4' D4))
   all_goals
    have D6:=An HD6;generalize W5.setCell ⟨p,1,none⟩ (.i (peekV m ln f n g bank (x+1)%256+256*(peekV m ln f n g bank (x+2)%256)))=W6 at *;have d1:=Ag D6.res;have d2:=Ag D6.out;have d3:=As D6.res;go_wp2;refine bodyPost_ret (v:=.agg #[.i op,.i (peekV m ln f n g bank (x+1)%256+256*(peekV m ln f n g bank (x+2)%256))]) (by simp [results,Tryz.results87,go_sem,d1]) rfl ?_;exact ⟨by rw [HE.out,HOE.out],(D6.low.setCell (by simp; omega) _).setCell (by simp; omega) _⟩
  ·have e3':(len==3)=false:=by simpa using e3
   have HE:=Ad (HFA.out 0 (fun h=>absurd h e2) (fun h=>absurd h e3) (fun _ _=>rfl));clear e2 e3 HFA;have d1:=Ag D3.res;have d2:=Ag D3.out;have d3:=As D3.res;go_wp2;refine bodyPost_ret (v:=.agg #[.i op,.i 0]) (by simp [results,Tryz.results87,go_sem,d1]) rfl ?_;exact ⟨by rw [HE.out,HOE.out],(D3.low.setCell (by simp; omega) _).setCell (by simp; omega) _⟩
theorem S8 (w:World) (op arg A X S Pc:Int) (Z N C I:Bool):Calls Tryz.prog 88 #[.agg #[.i op,.i arg],.agg (cR A X S Pc Z N C I)] w
  fun e w'=>e=.returned (.tuple #[.i (B9 op),.i (F9 op arg X),.i (Lt op A)])∧Below w.heap.size w w':=by
 have L0:Below w.heap.size w ((w.alloc (.cells #[.i op,.i arg] 109)).alloc (.cells (cR A X S Pc Z N C I) 43)):=((Below.refl _ _).alloc (Nat.le_refl _) _).alloc (by simp) _
 have LD:∀ d,Below w.heap.size w (((w.alloc (.cells #[.i op,.i arg] 109)).alloc (.cells (cR A X S Pc Z N C I) 43)).drewN d):=fun d=>L0.trans ⟨rfl,rfl,rfl,Nat.le_refl _,fun _ _=>rfl⟩
 have hw:wrap64 (arg+X)%65536=(arg+X)%65536:=by unfold wrap64; omega
 have HW:=Ad hw;clear hw
 by_cases h2:op=2
 ·subst h2
  go_enter Tryz.func88,Tryz.ntmps88
  go_wp2_with (first | (go_at_call 114; refine (Dw _ _).mono ?_; rintro e w' ⟨rfl,rfl⟩; rw [show B9 2=1 from rfl]) | (go_at_call 115; refine (Cq _ _).mono ?_; rintro e w' ⟨rfl,rfl⟩))
  go_ret3
  exact ⟨rfl,L0⟩
 ·by_cases h14:op=14
  ·subst h14
   go_enter Tryz.func88,Tryz.ntmps88
   go_wp2_with (first | (go_at_call 114; refine (Dw _ _).mono ?_; rintro e w' ⟨rfl,rfl⟩; rw [show B9 14=1 from rfl]) | (go_at_call 115; refine (Cq _ _).mono ?_; rintro e w' ⟨rfl,rfl⟩; rw [HW.out]))
   go_ret3
   exact ⟨rfl,L0⟩
  ·by_cases h29:op=29
   ·subst h29
    go_enter Tryz.func88,Tryz.ntmps88
    go_wp2_with (first | (go_at_call 114; refine (Dw _ _).mono ?_; rintro e w' ⟨rfl,rfl⟩; rw [show B9 29=1 from rfl]) | (go_at_call 115; refine (Cq _ _).mono ?_; rintro e w' ⟨rfl,rfl⟩))
    go_ret3
    exact ⟨rfl,L0⟩
   ·by_cases h3:op=3
    ·subst h3
     go_enter Tryz.func88,Tryz.ntmps88
     go_wp2_with (go_at_call 114; refine (Dw _ _).mono ?_; rintro e w' ⟨rfl,rfl⟩; rw [show B9 3=2 from rfl])
     go_quiet (first | (go_at_call 115; exact Calls.quiet_of_same (Cq _ _)) | (go_at_call 116; exact Calls.quiet_of_same (Bs _ _)))
     go_wp2
     go_ret3
     exact ⟨rfl,LD _⟩
    ·by_cases h15:op=15
     ·subst h15
      go_enter Tryz.func88,Tryz.ntmps88
      go_wp2_with (go_at_call 114; refine (Dw _ _).mono ?_; rintro e w' ⟨rfl,rfl⟩; rw [show B9 15=2 from rfl])
      go_quiet (first | (go_at_call 115; exact Calls.quiet_of_same (Cq _ _)) | (go_at_call 116; exact Calls.quiet_of_same (Bs _ _)))
      go_wp2
      go_ret3
      exact ⟨by rw [HW.out]; rfl,LD _⟩
     ·have h0:B9 op=0:=by unfold B9; rw [if_neg (by omega),if_neg (by omega)]
      have HA:Hid (F9 op arg X=0∧Lt op A=0):=by show _∧_; unfold F9 Lt; rw [h0]; exact ⟨rfl,rfl⟩
      go_enter Tryz.func88,Tryz.ntmps88
      go_wp2_with (go_at_call 114; refine (Dw _ _).mono ?_; rintro e w' ⟨rfl,rfl⟩; rw [h0])
      go_ret3
      exact ⟨by rw [h0,HA.out.1,HA.out.2]; rfl,L0⟩
end Go.Proofs.YtgcmimcalmjaaaaGreatDoor
