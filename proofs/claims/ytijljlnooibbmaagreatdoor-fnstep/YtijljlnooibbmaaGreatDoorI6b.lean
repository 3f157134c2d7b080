import Derived.Test.YtijljlnooibbmaaGreatDoorC9
import Derived.Test.YtijljlnooibbmaaGreatDoorI2
import Derived.ArgAppend
namespace Go.Proofs.YtijljlnooibbmaaGreatDoor
set_option maxHeartbeats 1000000
open Go.Proofs.Tryz
set_option linter.unusedVariables false
open Go.ChangeShapes Go.WideShapes Go.ChangeAt Go.RowKit
theorem Z1 {m:Nat} {ln:Nat->Nat} {f:Nat->Nat->Int} {n:Nat} {g:Nat->Int} {bank:Int} (h:isRow n g 512=false):B9 m ln f n g bank=false:=by
 by_cases hn:n=512
 .subst hn
  rw [Gb (by rfl)] at h;have h':Yw 512 g=false:=h;unfold B9;rw [h']
  simp
 .exact Qr hn
theorem Nz {n:Nat} {g:Nat->Int} (h:isRow n g 512=true):n=512/\∀ j,j<512->0<=g j/\g j<=255:=by
 by_cases hn:n=512
 .subst hn
  rw [Gb (by rfl)] at h;exact ⟨rfl,fun j hj=>(Dj _ _ _).1 (of_decide_eq_true h j hj)⟩
 .rw [No (by omega)] at h
  cases h
theorem Mh (w:World) (F G:Nat->Nat->Prop) (v u:Value) (m:Nat) (ln:Nat->Nat) (f:Nat->Nat->Int) (n:Nat) (g:Nat->Int) (bank:Int) (H:Bg .i64 w F v m ln f) (K:Ints .i64 w G u n g) :
  Calls prog 19 #[.agg #[v],.agg #[u,.i bank]] w fun e w'=>e=.returned (.bool (B9 m ln f n g bank))/\Below w.heap.size w w':=by
 have L0:Below w.heap.size w ((w.al #[v] 26).al #[u,.i bank] 29):=((Below.refl _ _).alloc (Nat.le_refl _) _).alloc (by simp) _;have H0:=H.keep (Aa L0 Aj) (fun _ _ _ x=>x);have K0:=K.keep (Aa L0 Aj) (fun _ _ _ x=>x);obtain ⟨ia,icap,rfl,im,-,-⟩:=H;obtain ⟨ua,ucap,rfl,un,-,-⟩:=K
 go_enter func19,ntmps19
 go_wp2_with fail;refine (T7 _ F _ m ln f H0).mono ?_;rintro e w1 ⟨rfl,L1⟩;have c1:w1.cell? ⟨w.heap.size,0,none⟩=some (.slice ia m icap):=(L1.cell (by simp; omega)).trans (by go_simp);have c2:w1.cell? ⟨w.heap.size+1,0,none⟩=some (.slice ua n ucap):=(L1.cell (by simp)).trans (by go_simp);have c3:w1.cell? ⟨w.heap.size+1,1,none⟩=some (.i bank):=(L1.cell (by simp)).trans (by go_simp);have C1:=L0.trans (L1.mono L0.size);have K1:=K0.keep (Aa L1 Aj) (fun _ _ _ x=>x);clear L1 L0 H0 K0;cases hI:Fp m ln f
 .have HE:=Ac (Qq (n:=n) (g:=g) (bank:=bank) hI)
  clear hI;go_wp2;go_ret;exact ⟨Ap HE.out.symm,C1⟩
 .have HI:=Ac hI
  clear hI;cases hR:isRow n g 512
  .have HE:=Ac (Z1 (m:=m) (ln:=ln) (f:=f) (bank:=bank) hR)
   go_wp2_with fail;refine (isBytes _ G _ n g 512 K1).mono ?_;rintro e wx ⟨rfl,rfl⟩;rw [hR];go_wp2;go_ret;exact ⟨Ap HE.out.symm,C1⟩
  .obtain ⟨hn,hb⟩:=Nz hR
   have HN:=Ac hn;have HB:=Ac hb;clear hn hb
   by_cases b0:0<=bank
   .by_cases b1:bank<(m:Int)
    .have HE:=Ac (Me (bank:=bank) (Ae HI) (Ae HN) (Bh ⟨b0,by omega⟩) (Ae HB))
     go_wp2_with fail;refine (isBytes _ G _ n g 512 K1).mono ?_;rintro e wx ⟨rfl,rfl⟩;rw [hR];go_wp2;go_ret;exact ⟨Ap HE.out.symm,C1⟩
    .have HE:=Ac (J3 (m:=m) (ln:=ln) (f:=f) (n:=n) (g:=g) (C9 (x:=bank) (lo:=0) (hi:=(m:Int)-1) (by omega)))
     go_wp2_with fail;refine (isBytes _ G _ n g 512 K1).mono ?_;rintro e wx ⟨rfl,rfl⟩;rw [hR];go_wp2;go_ret;exact ⟨Ap ((decide_eq_false (by omega)).trans HE.out.symm),C1⟩
   .have b0':decide (0<=bank)=false:=decide_eq_false b0
    have HE:=Ac (J3 (m:=m) (ln:=ln) (f:=f) (n:=n) (g:=g) (C9 (x:=bank) (lo:=0) (hi:=(m:Int)-1) (by omega)));go_wp2_with fail;refine (isBytes _ G _ n g 512 K1).mono ?_;rintro e wx ⟨rfl,rfl⟩;rw [hR];go_wp2;go_ret;exact ⟨Ap HE.out.symm,C1⟩
theorem Jf2 (w:World) (F G:Nat->Nat->Prop) (v u:Value) (m:Nat) (ln:Nat->Nat) (f:Nat->Nat->Int) (n:Nat) (g:Nat->Int) (bank a:Int) (a0:0<=a) (a1:a<65536) (H:Bg .i64 w F v m ln f) (K:Ints .i64 w G u n g) (ok:B9 m ln f n g bank=true) :
  Calls prog 74 #[.agg #[v],.agg #[u,.i bank],Je (rgN a) (rgP a)] w fun e w'=>e=.returned (.i (peekOf m f g bank a))/\Below w.heap.size w w':=by
 obtain ⟨hI,hn,⟨hb0,hb1⟩,hr⟩:=Hs ok;subst hn;obtain ⟨hbk,hm1,hm8⟩:=Hm hI;have L0:Below w.heap.size w ((w.al #[v] 26).al #[u,.i bank] 29):=((Below.refl _ _).alloc (Nat.le_refl _) _).alloc (by simp) _
 have LD:∀ d,Below w.heap.size w (((w.al #[v] 26).al #[u,.i bank] 29).drewN d):=fun d=>L0.trans ⟨rfl,rfl,rfl,Nat.le_refl _,fun _ _=>rfl⟩
 have H0:=H.keep (Aa L0 Aj) (fun _ _ _ x=>x);have K0:=K.keep (Aa L0 Aj) (fun _ _ _ x=>x);obtain ⟨ia,icap,rfl,im,-,hrows⟩:=H0;obtain ⟨ua,ucap,rfl,un,hrow,-⟩:=K0
 obtain ⟨bk,rfl⟩:∃ bk:Nat,bank=bk:=⟨bank.toNat,by omega⟩
 have hcs:=Jb _ a0 a1;have HC:=Qt _ a0 a1
 have hbm:bk<m:=by omega
 unfold peekOf;rw [Int.toNat_natCast];generalize rgN a=rn at *;generalize rgP a=rp at *;clear a0 a1 ok hI hr
 rcases hcs with ⟨rfl,p0,p1⟩ | ⟨rfl,p0,p1⟩ | ⟨rfl,p0,p1⟩ | hrest
 .clear HC
  obtain ⟨k,rfl⟩:∃ k:Nat,rp=k:=⟨rp.toNat,by omega⟩
  obtain ⟨b,off,rfl,hc⟩:=hrow k (by omega)
  have hk:(k:Int)<512:=by omega
  rw [if_pos rfl,Int.toNat_natCast,Jd4];have v1:=Jgx (k:Int);have q1:=Jfq (k:Int)
  go_enter func74,ntmps74
  go_wp2
  go_quiet ((go_at_call 260; exact Calls.quiet_of_same (partOf _ _)))
  go_wp2;go_ret;exact ⟨rfl,LD _⟩
 .clear HC
  obtain ⟨k,rfl⟩:∃ k:Nat,rp=k:=⟨rp.toNat,by omega⟩
  obtain ⟨b,off,y,rfl,hc,a',cap',rfl,hn',hrw,-⟩:=hrows bk hbm;have hl:ln bk=256:=(Hl (hbk bk hbm)).1;obtain ⟨b',off',rfl,hc'⟩:=hrw k (by omega)
  have hk:(k:Int)<(ln bk:Int):=by omega
  have hbm':(bk:Int)<(m:Int):=by omega
  rw [if_neg (by decide),if_pos rfl,Int.toNat_natCast,Jd8];have v1:=Jhq (k:Int);have q1:=Jfu (k:Int);have q5:=Jfv (k:Int);clear hl
  go_enter func74,ntmps74
  go_wp2
  go_quiet ((go_at_call 260; exact Calls.quiet_of_same (partOf _ _)))
  go_wp2;go_ret;exact ⟨rfl,LD _⟩
 .clear HC
  obtain ⟨k,rfl⟩:∃ k:Nat,rp=k:=⟨rp.toNat,by omega⟩
  obtain ⟨q,rfl⟩:∃ q:Nat,m=q+1:=⟨m-1,by omega⟩
  obtain ⟨b,off,y,rfl,hc,a',cap',rfl,hn',hrw,-⟩:=hrows q (by omega);have hl:ln q=256:=(Hl (hbk q (by omega))).1;obtain ⟨b',off',rfl,hc'⟩:=hrw k (by omega)
  have hk:(k:Int)<(ln q:Int):=by omega
  rw [if_neg (by decide),if_neg (by decide),if_pos rfl,Int.toNat_natCast,Nat.add_sub_cancel,Jd9];have v1:=Jhr (k:Int);have q1:=Jfw (k:Int);have q5:=Jfx (k:Int);have q6:=Jfy (k:Int);clear hl
  go_enter func74,ntmps74
  go_wp2
  go_quiet ((go_at_call 260; exact Calls.quiet_of_same (partOf _ _)))
  go_wp2;go_ret;exact ⟨rfl,LD _⟩
 .rw [if_neg (by omega),if_neg (by omega),if_neg (by omega)]
  rcases hrest with rfl | rfl | rfl | rfl
  .rw [Jd5]
   have q1:=Jfr rp;have q5:=Jgr rp;have q6:=Jgs rp
   go_enter func74,ntmps74
   go_wp2;go_ret;exact ⟨rfl,L0⟩
  .rw [Jd6]
   have q1:=Jfs rp;have q5:=Jgt rp;have q6:=Jgu rp
   go_enter func74,ntmps74
   go_wp2;go_ret;exact ⟨rfl,L0⟩
  .rw [Jd7]
   have q1:=Jft rp;have q5:=Jgv rp;have q6:=Jgw rp
   go_enter func74,ntmps74
   go_wp2;go_ret;exact ⟨rfl,L0⟩
  .rw [Jea]
   have q1:=Jfz rp;have q5:=Jf0 rp;have q6:=Jf1 rp
   go_enter func74,ntmps74
   go_wp2;go_ret;exact ⟨rfl,L0⟩
set_option maxHeartbeats 1000000
theorem Hv (w:World) (F G:Nat->Nat->Prop) (v u:Value) (m:Nat) (ln:Nat->Nat) (f:Nat->Nat->Int) (n:Nat) (g:Nat->Int) (bank x:Int) (H:Bg .i64 w F v m ln f) (K:Ints .i64 w G u n g) :
  Calls prog 39 #[.agg #[v],.agg #[u,.i bank],.i x] w fun e w'=>e=.returned (.i (peekV m ln f n g bank x))/\Below w.heap.size w w':=by
 have L0:Below w.heap.size w ((w.alloc (.cells #[v] 26)).alloc (.cells #[u,.i bank] 29)):=((Below.refl _ _).alloc (Nat.le_refl _) _).alloc (by simp) _;have H0:=H.keep (Aa L0 Aj) (fun _ _ _ x=>x);have K0:=K.keep (Aa L0 Aj) (fun _ _ _ x=>x);obtain ⟨ia,icap,rfl,im,-,-⟩:=H;obtain ⟨ua,ucap,rfl,un,-,-⟩:=K
 have a0:0<=x%65536:=by omega
 have a1:x%65536<65536:=by omega
 go_enter func39,ntmps39
 go_wp2_with fail;refine (Mh _ F G _ _ m ln f n g bank H0 K0).mono ?_;rintro e w1 ⟨rfl,L1⟩;have c1:w1.cell? ⟨w.heap.size,0,none⟩=some (.slice ia m icap):=(L1.cell (by simp; omega)).trans (by go_simp);have c2:w1.cell? ⟨w.heap.size+1,0,none⟩=some (.slice ua n ucap):=(L1.cell (by simp)).trans (by go_simp);have c3:w1.cell? ⟨w.heap.size+1,1,none⟩=some (.i bank):=(L1.cell (by simp)).trans (by go_simp)
 have hz:w.heap.size+2<=w1.heap.size:=by have:=L1.size; simp at this; omega
 have C1:=L0.trans (L1.mono L0.size);have H1:=H0.keep (Aa L1 Aj) (fun _ _ _ x=>x);have K1:=K0.keep (Aa L1 Aj) (fun _ _ _ x=>x);clear L1 L0 H0 K0;cases hO:B9 m ln f n g bank
 .have HE:Hid (peekV m ln f n g bank x=0):=by show _=_; unfold peekV; rw [hO]; rfl
  clear hO;go_wp2;go_ret;exact ⟨A5 HE.out.symm,C1⟩
 .have HE:Hid (peekV m ln f n g bank x=peekOf m f g bank (x%65536)):=by show _=_; unfold peekV; rw [hO]; rfl
  have HO:=Ac hO;clear hO;have HH:=Ac (show Bg .i64 w1.drew F _ m ln f from H1);have HK:=Ac (show Ints .i64 w1.drew G _ n g from K1);clear H1 K1;go_wp2_with fail
  go_region_held3 (fun w'=>w'.cell? ⟨w.heap.size,0,none⟩=some (.slice ia m icap)/\w'.cell? ⟨w.heap.size+1,0,none⟩=some (.slice ua n ucap)/\w'.cell? ⟨w.heap.size+1,1,none⟩=some (.i bank)) (first | assumption | go_keep) (first | (go_at_call 75; refine (Nx _ _ a0 a1).mono ?_; rintro e w' ⟨rfl,rfl⟩) | (go_at_call 74; refine (Jf2 _ F G _ _ m ln f n g bank _ a0 a1 (Ae HH) (Ae HK) (Ae HO)).mono ?_; rintro e w2 ⟨rfl,L2⟩; have d1:=(L2.cell (p:=⟨w.heap.size,0,none⟩) (show w.heap.size<w1.heap.size by omega)).trans c1; have d2:=(L2.cell (p:=⟨w.heap.size+1,0,none⟩) (show w.heap.size+1<w1.heap.size by omega)).trans c2; have d3:=(L2.cell (p:=⟨w.heap.size+1,1,none⟩) (show w.heap.size+1<w1.heap.size by omega)).trans c3))
  all_goals
   go_wp2;go_ret;exact ⟨A5 HE.out.symm,C1.trans (Below.trans (⟨rfl,rfl,rfl,Nat.le_refl _,fun _ _=>rfl⟩:Below w.heap.size w1 w1.drew) (L2.mono C1.size))⟩
theorem Uj {w:World} {lo:Nat} {a:Option Addr} {c:Nat} (g:Nat->Int):Ao w lo (.slice a 0 c) 0 g:=⟨_,_,rfl,by omega,fun i hi=>absurd hi (Nat.not_lt_zero _),fun b o hF=>absurd hF (A4 _ _ _),fun b o hF=>absurd hF (A4 _ _ _)⟩
theorem Z2 (w:World) (G:Nat->Nat->Prop) (u:Value) (n:Nat) (g:Nat->Int) (K:Ints .i64 w G u n g) :
  Calls prog 46 #[u] w fun e w'=>∃ v,e=.returned v/\Ao w' w.heap.size v n g/\Below w.heap.size w w':=by
 obtain ⟨ua,ucap,rfl,un,hrow,-⟩:=K
 have hq:∀ W:World,(binOp .eql 27 (.slice ua n ucap) (.slice none 0 0)).run prog W=.ok (.bool ua.isNone) W:=fun W=>Lib.run_eql_slice_nil W 27 3 ua n ucap 0 0 underlying27
 cases ua with
 | none =>
  have hq':∀ W:World,(binOp .eql 27 (.slice none n ucap) (.slice none 0 0)).run prog W=.ok (.bool true) W:=hq;clear hq
  have hn:n=0:=by
   rcases Nat.eq_zero_or_pos n with h | h
   .exact h
   .obtain ⟨b,off,e,-⟩:=hrow 0 h
    cases e
  subst hn;clear hrow
  go_enter func46,ntmps46
  go_wp2;go_ret;exact ⟨_,rfl,Uj g,Below.refl _ _⟩
 | some ad =>
  have hq':∀ W:World,(binOp .eql 27 (.slice (some ad) n ucap) (.slice none 0 0)).run prog W=.ok (.bool false) W:=hq;clear hq;obtain ⟨i0,hi,hz0,hz1,hz2⟩:=info_parts Gp
  by_cases h0:n=0
  .subst h0
   have hl0:∀ (W:World) (ad:Addr),(loadCells ad 0).run prog W=.ok #[] W:=fun W ad=>by
    simpa using run_loadCells_list (P:=prog) W ad [] (fun j v h=>by simp at h)
   clear hrow
   go_enter func46,ntmps46
   go_wp2;go_ret;exact ⟨_,rfl,Uj g,(Below.refl _ _).alloc (Nat.le_refl _) _⟩
  .obtain ⟨rb,ro,e,-⟩:=hrow 0 (by omega)
   cases e;have L0:Below w.heap.size w (w.alloc (.cells #[] 3)):=(Below.refl _ _).alloc (Nat.le_refl _) _;have HR:=Ac (hrow.keep (Aa L0 Aj) (fun _ _ _ x=>x));clear hrow
   go_enter func46,ntmps46
   go_wp2_with (at_builtin; refine wpList_append_grows _ rfl (.tmp 5) (.tmp 6) 27 rfl 3 i0 (.i 0) 1 8 underlying27 hi hz0 hz1 hz2 rfl (by decide) (some ⟨w.heap.size,0,none⟩) 0 0 [] rfl (fun h=>by cases h) rfl (fun b hb j u h=>by simp at h) ⟨rb,ro,none⟩ n ucap (rowVals n g) rfl (by rw [A6,Nat.mul_one]) (Dd HR.out) (Gq _ _) (by omega) (by unfold maxLen; omega) (by omega) ?_);intro v' w2 hown hgrow;have LL:Below w.heap.size w w2:=L0.grown hgrow (by simp) (fun _ e=>by cases e)
   have hon:w2.ownsRow (w.alloc (.cells #[] 3)).heap.size 3 1 v' n (rowVals n g):=by simpa using hown
   obtain ⟨g',cap2,rfl,hg,hlt⟩:=hon.form (by omega);have O2:Ao w2 w.heap.size (.sl g' 0 n cap2) n g:=Rc hon (by simp at hg; omega) hlt un;clear hown hon hgrow;go_wp2;go_ret;exact ⟨_,rfl,O2,LL⟩
theorem Kv (w:World) (G:Nat->Nat->Prop) (u:Value) (n:Nat) (g:Nat->Int) (bank:Int) (K:Ints .i64 w G u n g) :
  Calls prog 47 #[.agg #[u,.i bank]] w fun e w'=>∃ v,e=.returned (.agg #[v,.i bank])/\Ao w' w.heap.size v n g/\Below w.heap.size w w':=by
 have L0:Below w.heap.size w ((w.alloc (.cells #[u,.i bank] 29)).alloc (.cells mZ 29)):=((Below.refl _ _).alloc (Nat.le_refl _) _).alloc (by simp) _;have K0:=K.keep (Aa L0 Aj) (fun _ _ _ x=>x);obtain ⟨ua,ucap,rfl,un,-,-⟩:=K;have b1:((w.alloc (.cells #[.slice ua n ucap,.i bank] 29)).alloc (.cells mZ 29)).heap[w.heap.size]?=some (.cells #[.slice ua n ucap,.i bank] 29 (0,0)):=Az (Ak w _ _) _
 have r1:((w.alloc (.cells #[.slice ua n ucap,.i bank] 29)).alloc (.cells mZ 29)).heap[w.heap.size+1]?=some (.cells mZ 29 (0,0)):=by simpa using Ak (w.alloc (.cells #[.slice ua n ucap,.i bank] 29)) mZ 29
 go_enter func47,ntmps47
 go_wp2_with fail;generalize ((w.alloc (.cells #[.slice ua n ucap,.i bank] 29)).alloc (.cells mZ 29))=w1 at *;have cb:=Af b1;have HK:=Ac (show Ints .i64 w1.drew G _ n g from K0);have hr1:=Ad r1;clear K0
 go_region_with (go_at_call 46; refine (Z2 _ G _ n g (Ae HK)).mono ?_; rintro e w2 ⟨q,rfl,O2,L2'⟩; obtain ⟨qa,qc,rfl,-,-,-,-⟩:=id O2; have L2:Below w1.heap.size w1 w2:=Below.trans (⟨rfl,rfl,rfl,Nat.le_refl _,fun _ _=>rfl⟩:Below w1.heap.size w1 w1.drew) L2'; have cb2:=Af (Ab b1 L2 (Ad b1)); have cr2:=Af (Ab r1 L2 (Ad r1)); have fr2:=Au (Ab r1 L2 (Ad r1)); clear L2')
 all_goals
  go_wp2;refine bodyPost_ret (v:=.agg #[.slice qa n qc,.i bank]) (by simp [results,results47,go_sem,cr2]) rfl ?_;exact ⟨_,rfl,(((O2.mono (show w.heap.size+2<=w1.heap.size by omega)).setLow (by omega) _).setLow (by omega) _).mono (by omega),((L0.trans (L2.mono L0.size)).setCell (by simp) _).setCell (by simp) _⟩
theorem Z3 (w:World) (p b off c k:Nat) (bank x:Int) (m:Nat) (hk:k<512) (hb:w.heap[p]?=some (.cells #[.slice (some ⟨b,off,none⟩) 512 c,.i bank] 29 (0,0))) {z:Value} (hc:w.cell? ⟨b,off+k,none⟩=some z) (hf:w.frozen? ⟨b,off+k,none⟩=false) :
  Calls prog 184 #[(pt p 0),Je 1 (k:Int),.i x,.i m] w fun e w'=>e=.returned (.tuple #[])/\w'=(w.setCell ⟨b,off+k,none⟩ (.i x)).drew:=by
 rw [Jd4];have cb:=Af hb;have q1:=Jfq (k:Int);have v1:=Jgx (k:Int)
 have hk':(k:Int)<512:=by omega
 go_enter func184,ntmps184
 go_wp2_with fail
 go_region_with (go_at_call 260; refine (partOf _ _).mono ?_; rintro e w' ⟨rfl,rfl⟩)
 all_goals
  go_wp2
  go_returns
  exact ⟨rfl,rfl⟩
theorem Z4 (w:World) (p:Nat) (oa:Option Addr) (n c:Nat) (bank rp x:Int) (m:Nat) (x0:0<=x) (x1:x<256) (hm:1<=m) (hm8:m<=8) (hb:w.heap[p]?=some (.cells #[.slice oa n c,.i bank] 29 (0,0))) :
  Calls prog 184 #[(pt p 0),Je 5 rp,.i x,.i m] w fun e w'=>e=.returned (.tuple #[])/\w'=w.setCell ⟨p,1,none⟩ (.i (x%(m:Int))):=by
 rw [Jd8];have cb:=Af hb;have fb:=Au hb;have q1:=Jfu rp;have q5:=Jfv rp;have q6:=Jhj rp
 have hmi:(m:Int)≠0:=by omega
 have hmb:((m:Int)==0)=false:=by simp; omega
 have htm:x.tmod (m:Int)=x%(m:Int):=Int.tmod_eq_emod_of_nonneg x0;have y0:0<=x%(m:Int):=Int.emod_nonneg _ hmi;have y1:x%(m:Int)<9:=Int.lt_of_lt_of_le (Int.emod_lt_of_pos _ (by omega)) (by omega)
 go_enter func184,ntmps184
 go_wp2
 go_returns
 exact ⟨rfl,rfl⟩
theorem Z6 (w:World) (p:Nat) (oa:Option Addr) (n c:Nat) (bank rp x:Int) (m:Nat) (x0:0<=x) (x1:x<256) (hm:1<=m) (hm8:m<=8) (hb:w.heap[p]?=some (.cells #[.slice oa n c,.i bank] 29 (0,0))) :
  Calls prog 184 #[(pt p 0),Je 6 rp,.i x,.i m] w fun e w'=>e=.returned (.tuple #[])/\w'=w.setCell ⟨p,1,none⟩ (.i (x%(m:Int))):=by
 rw [Jd9];have cb:=Af hb;have fb:=Au hb;have q1:=Jfw rp;have q5:=Jfx rp;have q6:=Jfy rp
 have hmi:(m:Int)≠0:=by omega
 have hmb:((m:Int)==0)=false:=by simp; omega
 have htm:x.tmod (m:Int)=x%(m:Int):=Int.tmod_eq_emod_of_nonneg x0;have y0:0<=x%(m:Int):=Int.emod_nonneg _ hmi;have y1:x%(m:Int)<9:=Int.lt_of_lt_of_le (Int.emod_lt_of_pos _ (by omega)) (by omega)
 go_enter func184,ntmps184
 go_wp2
 go_returns
 exact ⟨rfl,rfl⟩
theorem Z7 (w:World) (p:Nat) (rn rp x:Int) (m:Nat) (h:rn=2\/rn=3\/rn=4\/rn=7) :
  Calls prog 184 #[(pt p 0),Je rn rp,.i x,.i m] w fun e w'=>e=.returned (.tuple #[])/\w'=w:=by
 rcases h with rfl | rfl | rfl | rfl
 .rw [Jd5]
  have q1:=Jfr rp;have q5:=Jgr rp;have q6:=Jgs rp
  go_enter func184,ntmps184
  go_wp2
  go_returns
  exact ⟨rfl,rfl⟩
 .rw [Jd6]
  have q1:=Jfs rp;have q5:=Jgt rp;have q6:=Jgu rp
  go_enter func184,ntmps184
  go_wp2
  go_returns
  exact ⟨rfl,rfl⟩
 .rw [Jd7]
  have q1:=Jft rp;have q5:=Jgv rp;have q6:=Jgw rp
  go_enter func184,ntmps184
  go_wp2
  go_returns
  exact ⟨rfl,rfl⟩
 .rw [Jea]
  have q1:=Jfz rp;have q5:=Jf0 rp;have q6:=Jf1 rp
  go_enter func184,ntmps184
  go_wp2
  go_returns
  exact ⟨rfl,rfl⟩
end Go.Proofs.YtijljlnooibbmaaGreatDoor
