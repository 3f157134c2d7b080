import Derived.Test.YtgcmimcalmjaaaaGreatDoorV0
import Derived.Deep.RegionLaw
namespace Go.Proofs.YtgcmimcalmjaaaaGreatDoor
set_option maxHeartbeats 1000000
set_option linter.unusedVariables false
open Go.ChangeShapes Go.WideShapes Go.ChangeAt Go.RowKit
def U6 (n:Nat) (g:Nat→Int):Bool:=decide (∀ i,i<n→Cs (g i) 0 255=true)
def B6 (m:Nat) (ln:Nat→Nat) (f:Nat→Nat→Int) (n:Nat) (g:Nat→Int) (bank:Int):Bool:=Fx m ln f && (decide (n=512) && (Cs bank 0 ((m:Int)-1) && U6 n g))
theorem Oe {m:Nat} {ln:Nat→Nat} {f:Nat→Nat→Int} {n:Nat} {g:Nat→Int} {bank:Int} (h:Fx m ln f=false):B6 m ln f n g bank=false:=by unfold B6; rw [h]; rfl
theorem Of {m:Nat} {ln:Nat→Nat} {f:Nat→Nat→Int} {n:Nat} {g:Nat→Int} {bank:Int} (h:¬ n=512):B6 m ln f n g bank=false:=by unfold B6; rw [decide_eq_false h]; simp
theorem Iz {m:Nat} {ln:Nat→Nat} {f:Nat→Nat→Int} {n:Nat} {g:Nat→Int} {bank:Int} (h:Cs bank 0 ((m:Int)-1)=false):B6 m ln f n g bank=false:=by unfold B6; rw [h]; simp
theorem V0 {m:Nat} {ln:Nat→Nat} {f:Nat→Nat→Int} {n:Nat} {g:Nat→Int} {bank:Int} {j:Nat} (hj:j<n) (h:¬ (0≤g j∧g j≤255)):B6 m ln f n g bank=false:=by
 have:U6 n g=false:=decide_eq_false (fun x=>h ((Dn _ _ _).1 (x j hj)));unfold B6;rw [this]
 simp
theorem Og {m:Nat} {ln:Nat→Nat} {f:Nat→Nat→Int} {n:Nat} {g:Nat→Int} {bank:Int} (h1:Fx m ln f=true) (h2:n=512) (h3:Cs bank 0 ((m:Int)-1)=true) (h4:∀ j,j<512→0≤g j∧g j≤255):B6 m ln f n g bank=true:=by
 have:U6 n g=true:=decide_eq_true (fun i hi=>Bn (h4 i (by omega)));unfold B6;rw [h1,decide_eq_true h2,h3,this]
 rfl
theorem Fg {m:Nat} {ln:Nat→Nat} {f:Nat→Nat→Int} {n:Nat} {g:Nat→Int} {bank:Int} (h:B6 m ln f n g bank=true):Fx m ln f=true∧n=512∧(0≤bank∧bank≤(m:Int)-1)∧∀ j,j<512→0≤g j∧g j≤255:=by
 unfold B6 at h;rw [Bool.and_eq_true,Bool.and_eq_true,Bool.and_eq_true] at h;have hn:n=512:=of_decide_eq_true h.2.1;have hr:∀ i,i<n→Cs (g i) 0 255=true:=of_decide_eq_true h.2.2.2;exact ⟨h.1,hn,(Dn _ _ _).1 h.2.2.1,fun j hj=>(Dn _ _ _).1 (hr j (by omega))⟩
theorem Kc (w:World) (F G:Nat→Nat→Prop) (v u:Value) (m:Nat) (ln:Nat→Nat) (f:Nat→Nat→Int) (n:Nat) (g:Nat→Int) (bank:Int) (H:Ba .i64 w F v m ln f) (K:Ints .i64 w G u n g) :
  Calls Tryz.prog 50 #[.agg #[v],.agg #[u,.i bank]] w fun e w'=>e=.returned (.bool (B6 m ln f n g bank))∧Below w.heap.size w w':=by
 have L0:Below w.heap.size w ((w.alloc (.cells #[v] 41)).alloc (.cells #[u,.i bank] 42)):=((Below.refl _ _).alloc (Nat.le_refl _) _).alloc (by simp) _;have H0:=H.keep (Ab L0 Aj) (fun _ _ _ x=>x);have K0:=K.keep (Ab L0 Aj) (fun _ _ _ x=>x);obtain ⟨ia,icap,rfl,im,-,-⟩:=H;obtain ⟨ua,ucap,rfl,un,-,-⟩:=K
 go_enter Tryz.func50,Tryz.ntmps50
 go_wp2_with fail;refine (Qx _ F _ m ln f H0).mono ?_;rintro e w1 ⟨rfl,L1⟩;have c1:w1.cell? ⟨w.heap.size,0,none⟩=some (.slice ia m icap):=(L1.cell (by simp; omega)).trans (by go_simp);have c2:w1.cell? ⟨w.heap.size+1,0,none⟩=some (.slice ua n ucap):=(L1.cell (by simp)).trans (by go_simp);have c3:w1.cell? ⟨w.heap.size+1,1,none⟩=some (.i bank):=(L1.cell (by simp)).trans (by go_simp);have C1:=L0.trans (L1.mono L0.size);have K1:=K0.keep (Ab L1 Aj) (fun _ _ _ x=>x);clear L1 L0 H0 K0;cases hI:Fx m ln f
 ·have HE:=Ad (Oe (n:=n) (g:=g) (bank:=bank) hI)
  clear hI;go_wp2;go_ret;exact ⟨Ap HE.out.symm,C1⟩
 ·have HI:=Ad hI
  clear hI
  by_cases hn:n=512
  ·have hn':((n:Int) != 512)=false:=by simp; omega
   have HN:=Ad hn
   have hn5:512≤n:=by omega
   clear hn;cases hB:Cs bank 0 ((m:Int)-1)
   ·have HE:=Ad (Iz (ln:=ln) (f:=f) (n:=n) (g:=g) hB)
    go_wp2_with fail;refine (Gj _ _ _ _).mono ?_;rintro e wx ⟨rfl,rfl⟩;rw [hB];go_wp2;go_ret;exact ⟨Ap HE.out.symm,C1⟩
   ·have HB:=Ad hB
    go_wp2_with fail;refine (Gj _ _ _ _).mono ?_;rintro e wx ⟨rfl,rfl⟩;rw [hB];clear hB;obtain ⟨a',cap',e',hn',hrow,-⟩:=K1;simp only [Value.slice.injEq] at e';obtain ⟨rfl,-,rfl⟩:=e';go_wp2
    go_loop [5] (fun j=>∃ r:Nat,r≤512∧j=.i r∧∀ i,i<r→0≤g i∧g i≤255) (fun i=>512-(intOf i).toNat)
    case atStart=>exact ⟨0,Nat.zero_le _,rfl,fun i hi=>absurd hi (Nat.not_lt_zero _)⟩
    case round =>
     obtain ⟨r,hr,rfl,hby⟩:=hrel;have HY:=Ad hby;clear hby
     by_cases hrt:r<512
     ·obtain ⟨b',off',rfl,hcell'⟩:=hrow r (by omega)
      have hrt':(r:Int)<512:=by omega
      have hrl:(r:Int)<(n:Int):=by omega
      by_cases hin:0≤g r∧g r≤255
      ·have hin':=Bn hin
       have HX:=Ad hin;clear hin;go_wp2_with fail;refine (Ha _ _).mono ?_;rintro e w1 ⟨rfl,rfl⟩;go_wp2
       go_round
       case rel =>
        refine ⟨r+1,by omega,by go_num,fun i hi=>?_⟩
        by_cases e:i=r
        ·rw [e]; exact An HX
        ·exact An HY i (by omega)
       case measure=>simp [intOf]; omega
      ·have hin':=Cu hin
       have HE:=Ad (V0 (m:=m) (ln:=ln) (f:=f) (n:=n) (bank:=bank) (show r<n by omega) hin);clear hin;go_wp2_with fail;refine (Ha _ _).mono ?_;rintro e w1 ⟨rfl,rfl⟩;go_wp2;go_ret;exact ⟨Ap HE.out.symm,C1⟩
     ·have hrt':¬ (r:Int)<512:=by omega
      have HE:=Ad (Og (An HI) (An HN) (An HB) (fun j hj=>An HY j (by omega)));go_wp2;go_ret;exact ⟨Ap HE.out.symm,C1⟩
  ·have hn':((n:Int) != 512)=true:=by simp; omega
   have HE:=Ad (Of (m:=m) (ln:=ln) (f:=f) (g:=g) (bank:=bank) hn);clear hn;go_wp2;go_ret;exact ⟨Ap HE.out.symm,C1⟩
def Em (m:Nat) (f:Nat→Nat→Int) (g:Nat→Int) (bank a:Int):Int:=if rgN a=1 then g (rgP a).toNat else if rgN a=5 then f bank.toNat (rgP a).toNat else if rgN a=6 then f (m-1) (rgP a).toNat else 0
theorem Hv (a:Int) (h0:0≤a) (h1:a<65536):(rgN a=1∧0≤rgP a∧rgP a<512)∨(rgN a=5∧0≤rgP a∧rgP a<256)∨(rgN a=6∧0≤rgP a∧rgP a<256)∨(rgN a=2∨rgN a=3∨rgN a=4∨rgN a=7):=by
 unfold rgN rgP
 repeat' split
 all_goals omega
theorem Ys (w:World) (F G:Nat→Nat→Prop) (v u:Value) (m:Nat) (ln:Nat→Nat) (f:Nat→Nat→Int) (n:Nat) (g:Nat→Int) (bank x:Int) (H:Ba .i64 w F v m ln f) (K:Ints .i64 w G u n g) (ok:B6 m ln f n g bank=true) :
  Calls Tryz.prog 121 #[.agg #[v],.agg #[u,.i bank],.i x] w fun e w'=>e=.returned (.i (Em m f g bank (x%65536)))∧Below w.heap.size w w':=by
 obtain ⟨hI,hn,⟨hb0,hb1⟩,hr⟩:=Fg ok;subst hn;obtain ⟨hbk,hm1,hm8⟩:=Gk hI;have L0:Below w.heap.size w ((w.alloc (.cells #[v] 41)).alloc (.cells #[u,.i bank] 42)):=((Below.refl _ _).alloc (Nat.le_refl _) _).alloc (by simp) _;have H0:=H.keep (Ab L0 Aj) (fun _ _ _ x=>x);have K0:=K.keep (Ab L0 Aj) (fun _ _ _ x=>x);obtain ⟨ia,icap,rfl,im,-,hrows⟩:=H0;obtain ⟨ua,ucap,rfl,un,hrow,-⟩:=K0
 have a0:0≤x%65536:=by omega
 have a1:x%65536<65536:=by omega
 obtain ⟨bk,rfl⟩:∃ bk:Nat,bank=bk:=⟨bank.toNat,by omega⟩
 have hcs:=Hv _ a0 a1
 have hbm:bk<m:=by omega
 have hreg:=Hb ((w.alloc (.cells #[.slice ia m icap] 41)).alloc (.cells #[.slice ua 512 ucap,.i (bk:Int)] 42)) x;unfold Em;rw [Int.toNat_natCast];generalize rgN (x%65536)=rn at *;generalize rgP (x%65536)=rp at *;have HREG:=Ad hreg;clear hreg a0 a1 ok hI hr
 rcases hcs with ⟨rfl,p0,p1⟩ | ⟨rfl,p0,p1⟩ | ⟨rfl,p0,p1⟩ | hrest
 ·obtain ⟨k,rfl⟩:∃ k:Nat,rp=k:=⟨rp.toNat,by omega⟩
  obtain ⟨b,off,rfl,hc⟩:=hrow k (by omega)
  have hk:(k:Int)<512:=by omega
  rw [if_pos rfl,Int.toNat_natCast]
  go_enter Tryz.func121,Tryz.ntmps121
  go_wp2_with fail;refine (An HREG).mono ?_;rintro e w1 ⟨rfl,hw1⟩;rw [hw1];go_wp2;go_ret;exact ⟨rfl,L0⟩
 ·obtain ⟨k,rfl⟩:∃ k:Nat,rp=k:=⟨rp.toNat,by omega⟩
  obtain ⟨b,off,y,rfl,hc,a',cap',rfl,hn',hrw,-⟩:=hrows bk hbm;have hl:ln bk=256:=(Gi (hbk bk hbm)).1;obtain ⟨b',off',rfl,hc'⟩:=hrw k (by omega)
  have hk:(k:Int)<(ln bk:Int):=by omega
  have hbm':(bk:Int)<(m:Int):=by omega
  rw [if_neg (by decide),if_pos rfl,Int.toNat_natCast]
  go_enter Tryz.func121,Tryz.ntmps121
  go_wp2_with fail;refine (An HREG).mono ?_;rintro e w1 ⟨rfl,hw1⟩;rw [hw1];clear hl;go_wp2;go_ret;exact ⟨rfl,L0⟩
 ·obtain ⟨k,rfl⟩:∃ k:Nat,rp=k:=⟨rp.toNat,by omega⟩
  obtain ⟨q,rfl⟩:∃ q:Nat,m=q+1:=⟨m-1,by omega⟩
  obtain ⟨b,off,y,rfl,hc,a',cap',rfl,hn',hrw,-⟩:=hrows q (by omega);have hl:ln q=256:=(Gi (hbk q (by omega))).1;obtain ⟨b',off',rfl,hc'⟩:=hrw k (by omega)
  have hk:(k:Int)<(ln q:Int):=by omega
  rw [if_neg (by decide),if_neg (by decide),if_pos rfl,Int.toNat_natCast,Nat.add_sub_cancel]
  go_enter Tryz.func121,Tryz.ntmps121
  go_wp2_with fail;refine (An HREG).mono ?_;rintro e w1 ⟨rfl,hw1⟩;rw [hw1];clear hl;go_wp2;go_ret;exact ⟨rfl,L0⟩
 ·rw [if_neg (by omega),if_neg (by omega),if_neg (by omega)]
  have e1:(rn==1)=false:=by simp; omega
  have e5:(rn==5)=false:=by simp; omega
  have e6:(rn==6)=false:=by simp; omega
  clear hrest
  go_enter Tryz.func121,Tryz.ntmps121
  go_wp2_with fail;refine (An HREG).mono ?_;rintro e w1 ⟨rfl,hw1⟩;rw [hw1];go_wp2;go_ret;exact ⟨rfl,L0⟩
def peekV (m:Nat) (ln:Nat→Nat) (f:Nat→Nat→Int) (n:Nat) (g:Nat→Int) (bank x:Int):Int:=if B6 m ln f n g bank then Em m f g bank (x%65536) else 0
theorem Hw (w:World) (F G:Nat→Nat→Prop) (v u:Value) (m:Nat) (ln:Nat→Nat) (f:Nat→Nat→Int) (n:Nat) (g:Nat→Int) (bank x:Int) (H:Ba .i64 w F v m ln f) (K:Ints .i64 w G u n g) :
  Calls Tryz.prog 112 #[.agg #[v],.agg #[u,.i bank],.i x] w fun e w'=>e=.returned (.i (peekV m ln f n g bank x))∧Below w.heap.size w w':=by
 have L0:Below w.heap.size w ((w.alloc (.cells #[v] 41)).alloc (.cells #[u,.i bank] 42)):=((Below.refl _ _).alloc (Nat.le_refl _) _).alloc (by simp) _;have H0:=H.keep (Ab L0 Aj) (fun _ _ _ x=>x);have K0:=K.keep (Ab L0 Aj) (fun _ _ _ x=>x);obtain ⟨ia,icap,rfl,im,-,-⟩:=H;obtain ⟨ua,ucap,rfl,un,-,-⟩:=K
 go_enter Tryz.func112,Tryz.ntmps112
 go_wp2_with fail;refine (Kc _ F G _ _ m ln f n g bank H0 K0).mono ?_;rintro e w1 ⟨rfl,L1⟩;have c1:w1.cell? ⟨w.heap.size,0,none⟩=some (.slice ia m icap):=(L1.cell (by simp; omega)).trans (by go_simp);have c2:w1.cell? ⟨w.heap.size+1,0,none⟩=some (.slice ua n ucap):=(L1.cell (by simp)).trans (by go_simp);have c3:w1.cell? ⟨w.heap.size+1,1,none⟩=some (.i bank):=(L1.cell (by simp)).trans (by go_simp);have C1:=L0.trans (L1.mono L0.size);have H1:=H0.keep (Ab L1 Aj) (fun _ _ _ x=>x);have K1:=K0.keep (Ab L1 Aj) (fun _ _ _ x=>x);clear L1 L0 H0 K0;cases hO:B6 m ln f n g bank
 ·have HE:Hid (peekV m ln f n g bank x=0):=by show _=_; unfold peekV; rw [hO]; rfl
  clear hO;go_wp2;go_ret;exact ⟨Az HE.out.symm,C1⟩
 ·have HE:Hid (peekV m ln f n g bank x=Em m f g bank (x%65536)):=by show _=_; unfold peekV; rw [hO]; rfl
  have HO:=Ad hO;clear hO;go_wp2_with fail;refine (Ys _ F G _ _ m ln f n g bank x H1 K1 (An HO)).mono ?_;rintro e w2 ⟨rfl,L2⟩;go_wp2;go_ret;exact ⟨Az HE.out.symm,C1.trans (L2.mono C1.size)⟩
set_option maxHeartbeats 2000000
set_option maxRecDepth 20000
theorem Am.setLow {w:World} {lo:Nat} {v:Value} {n:Nat} {f:Nat→Int} (h:Am w lo v n f) {d o:Nat} (hd:d<lo) (x:Value):Am (w.setCell ⟨d,o,none⟩ x) lo v n f:=by
 obtain ⟨a,cap,hv,hn,hR,hF,hL⟩:=h;have W1:Wrote (fun b _=>b=d) w (w.setCell ⟨d,o,none⟩ x):=Wrote.setCell (R:=fun b _=>b=d) (Wrote.refl _ w) (fun _=>rfl) x;exact ⟨a,cap,hv,hn,hR.keep W1 (fun b o h e=>by have:=hL b o h; omega),hF.keep W1,hL⟩
theorem Am.mono {w:World} {lo lo':Nat} {v:Value} {n:Nat} {f:Nat→Int} (h:Am w lo v n f) (hl:lo'≤lo):Am w lo' v n f:=by
 obtain ⟨a,cap,hv,hn,hR,hF,hL⟩:=h;exact ⟨a,cap,hv,hn,hR,hF,fun b o h=>Nat.le_trans hl (hL b o h)⟩
theorem Lo (w:World) (G:Nat→Nat→Prop) (u:Value) (n:Nat) (g:Nat→Int) (bank:Int) (K:Ints .i64 w G u n g) :
  Calls Tryz.prog 60 #[.agg #[u,.i bank]] w fun e w'=>∃ v,e=.returned (.agg #[v,.i bank])∧Am w' w.heap.size v n g∧Below w.heap.size w w':=by
 have L0:Below w.heap.size w ((w.alloc (.cells #[u,.i bank] 42)).alloc (.cells mZ 42)):=((Below.refl _ _).alloc (Nat.le_refl _) _).alloc (by simp) _;have K0:=K.keep (Ab L0 Aj) (fun _ _ _ x=>x);obtain ⟨ua,ucap,rfl,un,hrow,-⟩:=K0;have b1:((w.alloc (.cells #[.slice ua n ucap,.i bank] 42)).alloc (.cells mZ 42)).heap[w.heap.size]?=some (.cells #[.slice ua n ucap,.i bank] 42 (0,0)):=Ax (Al w _ _) _
 have r1:((w.alloc (.cells #[.slice ua n ucap,.i bank] 42)).alloc (.cells mZ 42)).heap[w.heap.size+1]?=some (.cells mZ 42 (0,0)):=by simpa using Al (w.alloc (.cells #[.slice ua n ucap,.i bank] 42)) mZ 42
 go_enter Tryz.func60,Tryz.ntmps60
 go_wp2_with fail;generalize ((w.alloc (.cells #[.slice ua n ucap,.i bank] 42)).alloc (.cells mZ 42))=w1 at *;have cb:=Ag b1;have cr:=Ag r1;have fr:=As r1;obtain ⟨i0,hi,hz0,hz1,hz2⟩:=info_parts Is
 by_cases h0:n=0
 ·subst h0
  have hl0:∀ (W:World) (ad:Addr),(loadCells ad 0).run Tryz.prog W=.ok #[] W:=fun W ad=>by
   simpa using run_loadCells_list (P:=Tryz.prog) W ad [] (fun j v h=>by simp at h)
  have cb':=Ag (Ax b1 (.cells #[] 3));have cr':=Ag (Ax r1 (.cells #[] 3));have fr':=As (Ax r1 (.cells #[] 3))
  cases ua with
  | none =>
   go_region
   all_goals
    go_wp2;refine bodyPost_ret (v:=.agg #[.slice (some ⟨w1.heap.size,0,none⟩) 0 0,.i bank]) (by simp [results,Tryz.results60,go_sem,cr']) rfl ?_;exact ⟨_,rfl,⟨_,_,rfl,by omega,fun i hi=>absurd hi (Nat.not_lt_zero _),fun b o hF=>absurd hF (Bo _ _ _),fun b o hF=>absurd hF (Bo _ _ _)⟩,(((L0.alloc L0.size _).drew.setCell (by simp) _).setCell (by simp) _)⟩
  | some ad =>
   go_region
   all_goals
    go_wp2;refine bodyPost_ret (v:=.agg #[.slice (some ⟨w1.heap.size,0,none⟩) 0 0,.i bank]) (by simp [results,Tryz.results60,go_sem,cr']) rfl ?_;exact ⟨_,rfl,⟨_,_,rfl,by omega,fun i hi=>absurd hi (Nat.not_lt_zero _),fun b o hF=>absurd hF (Bo _ _ _),fun b o hF=>absurd hF (Bo _ _ _)⟩,(((L0.alloc L0.size _).drew.setCell (by simp) _).setCell (by simp) _)⟩
 ·obtain ⟨rb,ro,rfl,-⟩:=hrow 0 (by omega)
  have HR:=Ad hrow
  have hgb:∀ {w':World},((w1.alloc (.cells #[] 3)).drew).grownBy w' none→Below w1.heap.size w1 w':=fun h=>((Below.refl _ w1).alloc (Nat.le_refl _) _).drew.grown h (by simp) (fun _ e=>by cases e)
  have HRr:Hid (Be .i64 (w1.alloc (.cells #[] 3)).drew (some ⟨rb,ro,none⟩) n g):=hrow.keep (Ab (((Below.refl _ w1).alloc (Nat.le_refl _) _).drew) Aj) (fun _ _ _ x=>x);have cb':=Ag (Ax b1 (.cells #[] 3));have cr':=Ag (Ax r1 (.cells #[] 3));have fr':=As (Ax r1 (.cells #[] 3));clear hrow
  go_region_law (first | (
   refine step_append_grows rfl (.tmp 3) (.tmp 5) 25 rfl 3 i0 (.i 0) 1 8 Tryz.underlying25 hi hz0 hz1 hz2 rfl (by decide) (some ⟨w1.heap.size,0,none⟩) 0 0 [] (by simp [Act.eval]) (fun _=>⟨rfl,rfl⟩) rfl (fun _ _ j u h=>by simp at h) ⟨rb,ro,none⟩ n ucap (rowVals n g) (by simp [Act.eval]) (by rw [A2,Nat.mul_one]) (Cy HRr.out) (Fy _ _) (by omega) (by unfold maxLen; omega) (by omega) ?_;intro v' w2 hown hgrow;have LL:=hgb hgrow
   have hon:w2.ownsRow (w1.alloc (.cells #[] 3)).drew.heap.size 3 1 v' n (rowVals n g):=by simpa using hown
   obtain ⟨g',cap2,rfl,hg,hlt⟩:=hon.form (by omega);have cb2:=Ag (Aa b1 LL (Ac b1));have cr2:=Ag (Aa r1 LL (Ac r1))
   have fr2:=As (Aa r1 LL (Ac r1))))
  all_goals
   go_wp2
   have hg2:w1.heap.size+1≤g':=by simpa using hg
   have hr1:=Ac r1;have O2:Am w2 (w.heap.size+2) (.slice (some ⟨g',0,none⟩) n cap2) n g:=Ph hon (by omega) hlt un;refine bodyPost_ret (v:=.agg #[.slice (some ⟨g',0,none⟩) n cap2,.i bank]) (by simp [results,Tryz.results60,go_sem,cr2]) rfl ?_;exact ⟨_,rfl,((O2.setLow (by omega) _).setLow (by omega) _).mono (by omega),((L0.trans (LL.mono L0.size)).setCell (by simp) _).setCell (by simp) _⟩
theorem Oh (x:Int):wrap64 x%256=x%256:=by
 unfold wrap64
 omega
theorem Lp (w:World) (d:Nat) (v0 v1 v2 v3 v4 v5 v6 v7:Value):Below d w ((((((((w.setCell ⟨d,0,none⟩ v0).setCell ⟨d,1,none⟩ v1).setCell ⟨d,2,none⟩ v2).setCell ⟨d,3,none⟩ v3).setCell ⟨d,4,none⟩ v4).setCell ⟨d,5,none⟩ v5).setCell ⟨d,6,none⟩ v6).setCell ⟨d,7,none⟩ v7) :=
 ((((((((Below.refl d w).setCell (Nat.le_refl _) _).setCell (Nat.le_refl _) _).setCell (Nat.le_refl _) _).setCell (Nat.le_refl _) _).setCell (Nat.le_refl _) _).setCell (Nat.le_refl _) _).setCell (Nat.le_refl _) _).setCell (Nat.le_refl _) _
theorem Pt (w:World) (G:Nat→Nat→Prop) (u:Value) (g:Nat→Int) (bank:Int) (K:Ints .i64 w G u 512 g) (A X S Pc:Int) (Z N C I:Bool) :
  Calls Tryz.prog 128 #[.agg #[u,.i bank],.agg (cR A X S Pc Z N C I)] w
   fun e w'=>e=.returned (.tuple #[.agg (cR A X ((S+1)%256) Pc Z N C I),.i (g (256+(S+1)%256).toNat%256)])∧Below w.heap.size w w':=by
 obtain ⟨ua,ucap,rfl,un,hrow,-⟩:=K
 have s0:0≤(S+1)%256:=by omega
 have s1:(S+1)%256<256:=by omega
 have hw:=Oh (S+1)
 obtain ⟨s,hs⟩:∃ s:Nat,(S+1)%256=s:=⟨((S+1)%256).toNat,by omega⟩
 rw [hs] at s0 s1 hw ⊢
 obtain ⟨k,hk⟩:∃ k:Nat,k=256+s:=⟨_,rfl⟩
 have hks:(256:Int)+(s:Int)=(k:Int):=by omega
 have hkl:(k:Int)<512:=by omega
 have hwk:IntKind.i64.wrap (k:Int)=(k:Int):=by rw [IntKind.wrap_i64]; omega
 obtain ⟨b,off,rfl,hc⟩:=hrow k (by omega)
 have ht:((256:Int)+(s:Int)).toNat=k:=by omega
 rw [ht];have HS:=Ad hs;have L0:Below w.heap.size w (((w.alloc (.cells #[.slice (some ⟨b,off,none⟩) 512 ucap,.i bank] 42)).alloc (.cells (cR A X s Pc Z N C I) 43)).alloc (.cells cZ 43)):=(((Below.refl _ _).alloc (Nat.le_refl _) _).alloc (by simp) _).alloc (by simp; omega) _;have hc3:=(L0.cell (block_lt_of_cell hc)).trans hc;have b0:=Ax (Ax (Al w #[.slice (some ⟨b,off,none⟩) 512 ucap,.i bank] 42) (.cells (cR A X s Pc Z N C I) 43)) (.cells cZ 43)
 have b1:(((w.alloc (.cells #[.slice (some ⟨b,off,none⟩) 512 ucap,.i bank] 42)).alloc (.cells (cR A X s Pc Z N C I) 43)).alloc (.cells cZ 43)).heap[w.heap.size+1]?=some (.cells (cR A X s Pc Z N C I) 43 (0,0)):=by simpa using Ax (Al (w.alloc (.cells #[.slice (some ⟨b,off,none⟩) 512 ucap,.i bank] 42)) (cR A X s Pc Z N C I) 43) (.cells cZ 43)
 have b2:(((w.alloc (.cells #[.slice (some ⟨b,off,none⟩) 512 ucap,.i bank] 42)).alloc (.cells (cR A X s Pc Z N C I) 43)).alloc (.cells cZ 43)).heap[w.heap.size+1+1]?=some (.cells cZ 43 (0,0)):=by simpa using Al ((w.alloc (.cells #[.slice (some ⟨b,off,none⟩) 512 ucap,.i bank] 42)).alloc (.cells (cR A X s Pc Z N C I) 43)) cZ 43
 clear hs ht hk hrow hc
 go_enter Tryz.func128,Tryz.ntmps128
 go_wp2_with fail;refine (Bs _ _).mono ?_;rintro e w1 ⟨rfl,rfl⟩;rw [hw];go_upto_region 4 with (fail);generalize (((w.alloc (.cells #[.slice (some ⟨b,off,none⟩) 512 ucap,.i bank] 42)).alloc (.cells (cR A X s Pc Z N C I) 43)).alloc (.cells cZ 43))=w3 at *;have c0:=Ag b0;have c1:=Ag b1;have c2:=Ag b2;have f2:=As b2
 go_region_with (go_at_call 116; refine (Bs _ _).mono ?_; rintro e w2 ⟨rfl,rfl⟩)
 all_goals
  go_wp2;refine bodyPost_ret (v:=.tuple #[.agg (cR A X s Pc Z N C I),.i (g k%256)]) (by simp [results,Tryz.results128,go_sem,c2]) rfl ?_
  first | with_reducible exact ⟨rfl,(L0.trans ((Lp w3 _ _ _ _ _ _ _ _ _).mono (by omega))).drew⟩ | with_reducible exact ⟨rfl,L0.drew.trans ((Lp _ _ _ _ _ _ _ _ _ _).mono (by omega))⟩
abbrev On (D:Nat→Prop):Nat→Nat→Prop:=fun b _=>D b
theorem Ah {R:Nat→Nat→Prop} {w w':World} {b:Nat} {o:Obj} (h:w.heap[b]?=some o) (hw:Wrote R w w') (hd:∀ o,¬ R b o):w'.heap[b]?=some o:=(hw.block b (Ac h) hd).trans h
theorem Af {w:World} {b o:Nat} {cs:Array Value} {t:TypeId} {fr:Nat × Nat} (h:w.heap[b]?=some (.cells cs t fr)) (x:Value):(w.setCell ⟨b,o,none⟩ x).heap[b]?=some (.cells (cs.setIfInBounds o x) t fr):=by
 simp [World.setCell,Array.getElem?_modify,h]
structure Bw (W:World) (D:Nat→Prop) (v:Value) (n:Nat) (g:Nat→Int) (bank:Int):Prop where
 ex:∃ a cap,v=.agg #[.slice a n cap,.i bank]∧n≤1048576∧Be .i64 W a n g∧Pd W (Da a n)∧∀ b o,Da a n b o→D b
theorem Bw.keep {R:Nat→Nat→Prop} {W W':World} {D:Nat→Prop} {v:Value} {n:Nat} {g:Nat→Int} {bank:Int} (h:Bw W D v n g bank) (hw:Wrote R W W') (hd:∀ b o,D b→b<W.heap.size→¬ R b o):Bw W' D v n g bank:=by
 obtain ⟨a,cap,e,hn,hr,hF,hD⟩:=h;exact ⟨a,cap,e,hn,hr.keep hw (fun b o hf=>hd b o (hD b o hf) (hF b o hf).1),hF.keep hw,hD⟩
theorem Bw.below {W W':World} {D:Nat→Prop} {v:Value} {n:Nat} {g:Nat→Int} {bank:Int} (h:Bw W D v n g bank) (L:Below W.heap.size W W'):Bw W' D v n g bank:=h.keep (Ab L Aj) (fun _ _ _ _ x=>x)
theorem Bw.mono {W:World} {D E:Nat→Prop} {v:Value} {n:Nat} {g:Nat→Int} {bank:Int} (h:Bw W D v n g bank) (hd:∀ b,b<W.heap.size→D b→E b):Bw W E v n g bank:=by
 obtain ⟨a,cap,e,hn,hr,hF,hD⟩:=h;exact ⟨a,cap,e,hn,hr,hF,fun b o hf=>hd b (hF b o hf).1 (hD b o hf)⟩
theorem Bw.ints {W:World} {D:Nat→Prop} {v:Value} {n:Nat} {g:Nat→Int} {bank:Int} (h:Bw W D v n g bank):∃ u,v=.agg #[u,.i bank]∧Ints .i64 W (On D) u n g:=by
 obtain ⟨a,cap,e,hn,hr,hF,hD⟩:=h;exact ⟨_,e,a,cap,rfl,hn,hr,hD⟩
theorem Bw.size {W:World} {D:Nat→Prop} {v:Value} {n:Nat} {g:Nat→Int} {bank:Int} (h:Bw W D v n g bank):n≤1048576:=by
 obtain ⟨a,cap,e,hn,hr,hF,hD⟩:=h;exact hn
theorem Bw.two {W:World} {D:Nat→Prop} {v:Value} {n:Nat} {g:Nat→Int} {bank:Int} (h:Bw W D v n g bank):∃ a c,v=.agg #[.slice a n c,.i bank]:=by
 obtain ⟨a,c,e,_⟩:=h;exact ⟨a,c,e⟩
theorem Bw.own {W:World} {lo n:Nat} {u:Value} {g:Nat→Int} {bank:Int} (h:Am W lo u n g):Bw W (fun b=>lo≤b) (.agg #[u,.i bank]) n g bank:=by
 obtain ⟨a,cap,rfl,hn,hr,hF,hD⟩:=h;exact ⟨a,cap,rfl,hn,hr,hF,hD⟩
structure Hy (W:World) (D:Nat→Prop) (v:Value) (m:Nat) (ln:Nat→Nat) (f:Nat→Nat→Int):Prop where
 ex:∃ p,v=.agg #[.slice (some ⟨p,0,none⟩) m m]∧m+psum ln m≤1048576∧Fw W p m ln f∧p+1+m≤W.heap.size∧∀ b,p≤b→b<p+1+m→D b
theorem Hy.keep {R:Nat→Nat→Prop} {W W':World} {D:Nat→Prop} {v:Value} {m:Nat} {ln:Nat→Nat} {f:Nat→Nat→Int} (h:Hy W D v m ln f) (hw:Wrote R W W') (hd:∀ b o,D b→b<W.heap.size→¬ R b o):Hy W' D v m ln f:=by
 obtain ⟨p,e,hm,hr,hs,hD⟩:=h;exact ⟨p,e,hm,hr.keep hw (fun b o h1 h2=>hd b o (hD b h1 h2) (by omega)),Nat.le_trans hs hw.size,hD⟩
theorem Hy.below {W W':World} {D:Nat→Prop} {v:Value} {m:Nat} {ln:Nat→Nat} {f:Nat→Nat→Int} (h:Hy W D v m ln f) (L:Below W.heap.size W W'):Hy W' D v m ln f:=h.keep (Ab L Aj) (fun _ _ _ _ x=>x)
theorem Hy.mono {W:World} {D E:Nat→Prop} {v:Value} {m:Nat} {ln:Nat→Nat} {f:Nat→Nat→Int} (h:Hy W D v m ln f) (hd:∀ b,b<W.heap.size→D b→E b):Hy W E v m ln f:=by
 obtain ⟨p,e,hm,hr,hs,hD⟩:=h;exact ⟨p,e,hm,hr,hs,fun b h1 h2=>hd b (by omega) (hD b h1 h2)⟩
theorem Hy.ints {W:World} {D:Nat→Prop} {v:Value} {m:Nat} {ln:Nat→Nat} {f:Nat→Nat→Int} (h:Hy W D v m ln f):∃ u F,v=.agg #[u]∧Ba .i64 W F u m ln f:=by
 obtain ⟨p,e,hm,hr,hs,hD⟩:=h;exact ⟨_,_,e,hr.ints hm⟩
theorem Jam (w:World) (F:Nat→Nat→Prop) (u:Value) (n:Nat) (f:Nat→Int) (bank:Int) (H:Ints .i64 w F u n f) (hn:n≤1048576) :
  Calls Tryz.prog 21 #[.agg #[u,.i bank]] w fun e w'=>∃ v,e=.returned v∧Bw w' (fun b=>w.heap.size≤b) v n f bank∧Below w.heap.size w w' :=
 (Jc0 w F u n f bank H).mono (by
  rintro e w' ⟨p,hp,rfl,hr,L⟩;refine ⟨_,rfl,⟨_,_,rfl,hn,Od hr,fun b o ⟨off,e,_,_⟩=>?_,fun b o ⟨off,e,_,_⟩=>?_⟩,L⟩
  ·simp only [Option.some.injEq,Addr.mk.injEq] at e
   obtain ⟨rfl,-,-⟩:=e;exact ⟨hr.lt,hr.frozen _⟩
  ·simp only [Option.some.injEq,Addr.mk.injEq] at e
   obtain ⟨rfl,-,-⟩:=e
   exact hp)
theorem Jan (w:World) (D E:Nat→Prop) (v u:Value) (n:Nat) (f:Nat→Int) (bank:Int) (H:Bw w D v n f bank) (K:Bw w E u n f bank) :
  Calls Tryz.prog 32 #[v,u] w fun e w'=>e=.returned (.bool true)∧Below w.heap.size w w':=by
 obtain ⟨v',rfl,hv⟩:=H.ints;obtain ⟨u',rfl,hu⟩:=K.ints;exact Sz w _ _ v' u' n f bank hv hu
theorem V8 (w:World) (D:Nat→Prop) (v:Value) (n:Nat) (f:Nat→Int) (bank k:Int) (H:Bw w D v n f bank) (k0:0≤k) (k1:k≤1099511627776) :
  Calls Tryz.prog 40 #[v,.i k] w fun e w'=>e=.returned (.i (k+n))∧Bw w' D v n (fun i=>k+i) bank∧Wrote (On D) w w':=by
 obtain ⟨a,cap,rfl,hn,hr,hF,hD⟩:=H;refine (Jak w a n cap f bank k hr hF k0 (by omega)).mono ?_;rintro e w' ⟨rfl,hr',hw⟩;exact ⟨rfl,⟨a,cap,rfl,hn,hr',hF.keep hw,hD⟩,hw.mono (fun b o _ h=>hD b o h)⟩
theorem V9 (w:World) (D:Nat→Prop) (v:Value) (n:Nat) (bank k:Int) (H:Bw w D v n (fun i=>k+i) bank) (k0:0≤k) (k1:k≤1099511627776) :
  Calls Tryz.prog 45 #[v,.i k] w fun e w'=>e=.returned (.i (k+n))∧Below w.heap.size w w':=by
 obtain ⟨a,cap,rfl,hn,hr,hF,hD⟩:=H;exact Jal w a n cap bank k hr k0 (by omega)
end Go.Proofs.YtgcmimcalmjaaaaGreatDoor
