import Derived.Test.YtijljlnooibbmaaGreatDoorC5
import Derived.Test.YtijljlnooibbmaaGreatDoorO
import Derived.Deep.DeepCutAuto
namespace Go.Proofs.YtijljlnooibbmaaGreatDoor
open Go.Proofs.Tryz
set_option linter.unusedVariables false
open Go.ChangeShapes Go.WideShapes Go.ChangeAt Go.RowKit
def rgN (a:Int):Int:=if a<8192 then 1 else if a<16384 then 2 else if a<16388 then 3 else if a=16406 then 4 else if a<32768 then 7 else if a<49152 then 5 else 6
def rgP (a:Int):Int:=if a<8192 then a%512 else if a<16384 then a%8 else if a<16388 then a%4 else if a=16406 then 0 else if a<32768 then 0 else a%256
theorem Ij (w:World) (x:Int):Calls prog 129 #[.i x] w fun e w'=>e=.returned (.tuple #[.i (rgN (x%65536)),.i (rgP (x%65536))])/\w'=w:=by
 have h0:0<=x%65536:=by omega
 have h1:x%65536<65536:=by omega
 have key:∀ a:Int,0<=a->a<65536->Hid (rgN a=rgN a):=fun a _ _=>rfl
 generalize hx:x%65536=a at *;have HX:=Ac hx;clear hx key
 rcases (by omega:a<8192\/(8192<=a/\a<16384)\/(16384<=a/\a<16388)\/a=16406\/(16388<=a/\a<32768/\a≠16406)\/(32768<=a/\a<49152)\/49152<=a) with h | h | h | h | h | h | h
 .have HN:Hid (rgN a=1/\rgP a=a%512):=⟨if_pos h,if_pos h⟩
  go_enter func129,ntmps129
  go_wp2_with fail;refine (Cv _ _).mono ?_;rintro e w1 ⟨rfl,rfl⟩;rw [HX.out];go_wp2;go_ret2;exact ⟨by rw [HN.out.1,HN.out.2]; rfl,rfl⟩
 .have HN:Hid (rgN a=2/\rgP a=a%8):=by
   show _/\_
   unfold rgN rgP;rw [if_neg (by omega),if_pos (by omega),if_neg (by omega),if_pos (by omega)];exact ⟨rfl,rfl⟩
  have h2:¬ a<8192:=by omega
  have h3:a<16384:=h.2
  go_enter func129,ntmps129
  go_wp2_with fail;refine (Cv _ _).mono ?_;rintro e w1 ⟨rfl,rfl⟩;rw [HX.out];go_wp2;go_ret2;exact ⟨by rw [HN.out.1,HN.out.2]; rfl,rfl⟩
 .have HN:Hid (rgN a=3/\rgP a=a%4):=by
   show _/\_
   unfold rgN rgP;rw [if_neg (by omega),if_neg (by omega),if_pos (by omega),if_neg (by omega),if_neg (by omega),if_pos (by omega)];exact ⟨rfl,rfl⟩
  have h2:¬ a<8192:=by omega
  have h3:¬ a<16384:=by omega
  have h4:a<16388:=h.2
  go_enter func129,ntmps129
  go_wp2_with fail;refine (Cv _ _).mono ?_;rintro e w1 ⟨rfl,rfl⟩;rw [HX.out];go_wp2;go_ret2;exact ⟨by rw [HN.out.1,HN.out.2]; rfl,rfl⟩
 .have HN:Hid (rgN a=4/\rgP a=0):=by
   show _/\_
   subst h;exact ⟨rfl,rfl⟩
  have h2:¬ a<8192:=by omega
  have h3:¬ a<16384:=by omega
  have h4:¬ a<16388:=by omega
  have h5:(a==16406)=true:=by simpa using h
  clear h
  go_enter func129,ntmps129
  go_wp2_with fail;refine (Cv _ _).mono ?_;rintro e w1 ⟨rfl,rfl⟩;rw [HX.out];go_wp2;go_ret2;exact ⟨by rw [HN.out.1,HN.out.2]; rfl,rfl⟩
 .have HN:Hid (rgN a=7/\rgP a=0):=by
   show _/\_
   unfold rgN rgP;rw [if_neg (by omega),if_neg (by omega),if_neg (by omega),if_neg (by omega),if_pos (by omega),if_neg (by omega),if_neg (by omega),if_neg (by omega),if_neg (by omega),if_pos (by omega)];exact ⟨rfl,rfl⟩
  have h2:¬ a<8192:=by omega
  have h3:¬ a<16384:=by omega
  have h4:¬ a<16388:=by omega
  have h5:(a==16406)=false:=by simp; omega
  have h6:a<32768:=h.2.1;clear h
  go_enter func129,ntmps129
  go_wp2_with fail;refine (Cv _ _).mono ?_;rintro e w1 ⟨rfl,rfl⟩;rw [HX.out];go_wp2;go_ret2;exact ⟨by rw [HN.out.1,HN.out.2]; rfl,rfl⟩
 .have HN:Hid (rgN a=5/\rgP a=a%256):=by
   show _/\_
   unfold rgN rgP;rw [if_neg (by omega),if_neg (by omega),if_neg (by omega),if_neg (by omega),if_neg (by omega),if_pos (by omega),if_neg (by omega),if_neg (by omega),if_neg (by omega),if_neg (by omega),if_neg (by omega)];exact ⟨rfl,rfl⟩
  have h2:¬ a<8192:=by omega
  have h3:¬ a<16384:=by omega
  have h4:¬ a<16388:=by omega
  have h5:(a==16406)=false:=by simp; omega
  have h6:¬ a<32768:=by omega
  have h7:a<49152:=h.2;clear h
  go_enter func129,ntmps129
  go_wp2_with fail;refine (Cv _ _).mono ?_;rintro e w1 ⟨rfl,rfl⟩;rw [HX.out];go_wp2;go_ret2;exact ⟨by rw [HN.out.1,HN.out.2]; rfl,rfl⟩
 .have HN:Hid (rgN a=6/\rgP a=a%256):=by
   show _/\_
   unfold rgN rgP;rw [if_neg (by omega),if_neg (by omega),if_neg (by omega),if_neg (by omega),if_neg (by omega),if_neg (by omega),if_neg (by omega),if_neg (by omega),if_neg (by omega),if_neg (by omega),if_neg (by omega)];exact ⟨rfl,rfl⟩
  have h2:¬ a<8192:=by omega
  have h3:¬ a<16384:=by omega
  have h4:¬ a<16388:=by omega
  have h5:(a==16406)=false:=by simp; omega
  have h6:¬ a<32768:=by omega
  have h7:¬ a<49152:=by omega
  clear h
  go_enter func129,ntmps129
  go_wp2_with fail;refine (Cv _ _).mono ?_;rintro e w1 ⟨rfl,rfl⟩;rw [HX.out];go_wp2;go_ret2;exact ⟨by rw [HN.out.1,HN.out.2]; rfl,rfl⟩
set_option maxHeartbeats 1000000
def Yw (n:Nat) (g:Nat->Int):Bool:=decide (∀ i,i<n->Cr (g i) 0 255=true)
def B9 (m:Nat) (ln:Nat->Nat) (f:Nat->Nat->Int) (n:Nat) (g:Nat->Int) (bank:Int):Bool:=Fp m ln f && (decide (n=512) && (Cr bank 0 ((m:Int)-1) && Yw n g))
theorem Qq {m:Nat} {ln:Nat->Nat} {f:Nat->Nat->Int} {n:Nat} {g:Nat->Int} {bank:Int} (h:Fp m ln f=false):B9 m ln f n g bank=false:=by unfold B9; rw [h]; rfl
theorem Qr {m:Nat} {ln:Nat->Nat} {f:Nat->Nat->Int} {n:Nat} {g:Nat->Int} {bank:Int} (h:¬ n=512):B9 m ln f n g bank=false:=by unfold B9; rw [decide_eq_false h]; simp
theorem J3 {m:Nat} {ln:Nat->Nat} {f:Nat->Nat->Int} {n:Nat} {g:Nat->Int} {bank:Int} (h:Cr bank 0 ((m:Int)-1)=false):B9 m ln f n g bank=false:=by unfold B9; rw [h]; simp
theorem Z0 {m:Nat} {ln:Nat->Nat} {f:Nat->Nat->Int} {n:Nat} {g:Nat->Int} {bank:Int} {j:Nat} (hj:j<n) (h:¬ (0<=g j/\g j<=255)):B9 m ln f n g bank=false:=by
 have:Yw n g=false:=decide_eq_false (fun x=>h ((Dj _ _ _).1 (x j hj)));unfold B9;rw [this]
 simp
theorem Me {m:Nat} {ln:Nat->Nat} {f:Nat->Nat->Int} {n:Nat} {g:Nat->Int} {bank:Int} (h1:Fp m ln f=true) (h2:n=512) (h3:Cr bank 0 ((m:Int)-1)=true) (h4:∀ j,j<512->0<=g j/\g j<=255):B9 m ln f n g bank=true:=by
 have:Yw n g=true:=decide_eq_true (fun i hi=>Bh (h4 i (by omega)));unfold B9;rw [h1,decide_eq_true h2,h3,this]
 rfl
theorem Hs {m:Nat} {ln:Nat->Nat} {f:Nat->Nat->Int} {n:Nat} {g:Nat->Int} {bank:Int} (h:B9 m ln f n g bank=true):Fp m ln f=true/\n=512/\(0<=bank/\bank<=(m:Int)-1)/\∀ j,j<512->0<=g j/\g j<=255:=by
 unfold B9 at h;rw [Bool.and_eq_true,Bool.and_eq_true,Bool.and_eq_true] at h;have hn:n=512:=of_decide_eq_true h.2.1;have hr:∀ i,i<n->Cr (g i) 0 255=true:=of_decide_eq_true h.2.2.2;exact ⟨h.1,hn,(Dj _ _ _).1 h.2.2.1,fun j hj=>(Dj _ _ _).1 (hr j (by omega))⟩
theorem Mf (w:World) (F G:Nat->Nat->Prop) (v u:Value) (m:Nat) (ln:Nat->Nat) (f:Nat->Nat->Int) (n:Nat) (g:Nat->Int) (bank:Int) (H:Bg .i64 w F v m ln f) (K:Ints .i64 w G u n g) :
  Calls prog 28 #[.agg #[v],.agg #[u,.i bank]] w fun e w'=>e=.returned (.bool (B9 m ln f n g bank))/\Below w.heap.size w w':=by
 have L0:Below w.heap.size w ((w.al #[v] 26).al #[u,.i bank] 29):=((Below.refl _ _).alloc (Nat.le_refl _) _).alloc (by simp) _;have H0:=H.keep (Aa L0 Aj) (fun _ _ _ x=>x);have K0:=K.keep (Aa L0 Aj) (fun _ _ _ x=>x);obtain ⟨ia,icap,rfl,im,-,-⟩:=H;obtain ⟨ua,ucap,rfl,un,-,-⟩:=K
 go_enter func28,ntmps28
 go_wp2_with fail;refine (Ty _ F _ m ln f H0).mono ?_;rintro e w1 ⟨rfl,L1⟩;have c1:w1.cell? ⟨w.heap.size,0,none⟩=some (.slice ia m icap):=(L1.cell (by simp; omega)).trans (by go_simp);have c2:w1.cell? ⟨w.heap.size+1,0,none⟩=some (.slice ua n ucap):=(L1.cell (by simp)).trans (by go_simp);have c3:w1.cell? ⟨w.heap.size+1,1,none⟩=some (.i bank):=(L1.cell (by simp)).trans (by go_simp);have C1:=L0.trans (L1.mono L0.size);have K1:=K0.keep (Aa L1 Aj) (fun _ _ _ x=>x);clear L1 L0 H0 K0;cases hI:Fp m ln f
 .have HE:=Ac (Qq (n:=n) (g:=g) (bank:=bank) hI)
  clear hI;go_wp2;go_ret;exact ⟨Ap HE.out.symm,C1⟩
 .have HI:=Ac hI
  clear hI
  by_cases hn:n=512
  .have hn':((n:Int) != 512)=false:=by simp; omega
   have HN:=Ac hn
   have hn5:512<=n:=by omega
   clear hn;cases hB:Cr bank 0 ((m:Int)-1)
   .have HE:=Ac (J3 (ln:=ln) (f:=f) (n:=n) (g:=g) hB)
    go_wp2_with fail;refine (E8 _ _ _ _).mono ?_;rintro e wx ⟨rfl,rfl⟩;rw [hB];go_wp2;go_ret;exact ⟨Ap HE.out.symm,C1⟩
   .have HB:=Ac hB
    go_wp2_with fail;refine (E8 _ _ _ _).mono ?_;rintro e wx ⟨rfl,rfl⟩;rw [hB];clear hB;obtain ⟨a',cap',e',hn',hrow,-⟩:=K1;simp only [Value.slice.injEq] at e';obtain ⟨rfl,-,rfl⟩:=e';go_wp2
    go_loop [5] (fun j=>∃ r:Nat,r<=512/\j=.i r/\∀ i,i<r->0<=g i/\g i<=255) (fun i=>512-(intOf i).toNat)
    case atStart=>exact ⟨0,Nat.zero_le _,rfl,fun i hi=>absurd hi (Nat.not_lt_zero _)⟩
    case round =>
     obtain ⟨r,hr,rfl,hby⟩:=hrel;have HY:=Ac hby;clear hby
     by_cases hrt:r<512
     .obtain ⟨b',off',rfl,hcell'⟩:=hrow r (by omega)
      have hrt':(r:Int)<512:=by omega
      have hrl:(r:Int)<(n:Int):=by omega
      by_cases hin:0<=g r/\g r<=255
      .have hin':=Bh hin
       have HX:=Ac hin;clear hin;go_wp2_with fail;refine (Ih _ _).mono ?_;rintro e w1 ⟨rfl,rfl⟩;go_wp2
       go_round
       case rel =>
        refine ⟨r+1,by omega,by go_num,fun i hi=>?_⟩
        by_cases e:i=r
        .rw [e]; exact Ae HX
        .exact Ae HY i (by omega)
       case measure=>simp [intOf]; omega
      .have hin':=C9 hin
       have HE:=Ac (Z0 (m:=m) (ln:=ln) (f:=f) (n:=n) (bank:=bank) (show r<n by omega) hin);clear hin;go_wp2_with fail;refine (Ih _ _).mono ?_;rintro e w1 ⟨rfl,rfl⟩;go_wp2;go_ret;exact ⟨Ap HE.out.symm,C1⟩
     .have hrt':¬ (r:Int)<512:=by omega
      have HE:=Ac (Me (Ae HI) (Ae HN) (Ae HB) (fun j hj=>Ae HY j (by omega)));go_wp2;go_ret;exact ⟨Ap HE.out.symm,C1⟩
  .have hn':((n:Int) != 512)=true:=by simp; omega
   have HE:=Ac (Qr (m:=m) (ln:=ln) (f:=f) (g:=g) (bank:=bank) hn);clear hn;go_wp2;go_ret;exact ⟨Ap HE.out.symm,C1⟩
def peekOf (m:Nat) (f:Nat->Nat->Int) (g:Nat->Int) (bank a:Int):Int:=if rgN a=1 then g (rgP a).toNat else if rgN a=5 then f bank.toNat (rgP a).toNat else if rgN a=6 then f (m-1) (rgP a).toNat else 0
theorem Jb (a:Int) (h0:0<=a) (h1:a<65536):(rgN a=1/\0<=rgP a/\rgP a<512)\/(rgN a=5/\0<=rgP a/\rgP a<256)\/(rgN a=6/\0<=rgP a/\rgP a<256)\/(rgN a=2\/rgN a=3\/rgN a=4\/rgN a=7):=by
 unfold rgN rgP
 repeat' split
 all_goals omega
theorem Jcd (w:World) (F G:Nat->Nat->Prop) (v u:Value) (m:Nat) (ln:Nat->Nat) (f:Nat->Nat->Int) (n:Nat) (g:Nat->Int) (bank x:Int) (H:Bg .i64 w F v m ln f) (K:Ints .i64 w G u n g) (ok:B9 m ln f n g bank=true) :
  Calls prog 133 #[.agg #[v],.agg #[u,.i bank],.i x] w fun e w'=>e=.returned (.i (peekOf m f g bank (x%65536)))/\Below w.heap.size w w':=by
 obtain ⟨hI,hn,⟨hb0,hb1⟩,hr⟩:=Hs ok;subst hn;obtain ⟨hbk,hm1,hm8⟩:=Hm hI;have L0:Below w.heap.size w ((w.al #[v] 26).al #[u,.i bank] 29):=((Below.refl _ _).alloc (Nat.le_refl _) _).alloc (by simp) _;have H0:=H.keep (Aa L0 Aj) (fun _ _ _ x=>x);have K0:=K.keep (Aa L0 Aj) (fun _ _ _ x=>x);obtain ⟨ia,icap,rfl,im,-,hrows⟩:=H0;obtain ⟨ua,ucap,rfl,un,hrow,-⟩:=K0
 have a0:0<=x%65536:=by omega
 have a1:x%65536<65536:=by omega
 obtain ⟨bk,rfl⟩:∃ bk:Nat,bank=bk:=⟨bank.toNat,by omega⟩
 have hcs:=Jb _ a0 a1
 have hbm:bk<m:=by omega
 have hreg:=Ij ((w.al #[.slice ia m icap] 26).al #[.slice ua 512 ucap,.i (bk:Int)] 29) x;unfold peekOf;rw [Int.toNat_natCast];generalize rgN (x%65536)=rn at *;generalize rgP (x%65536)=rp at *;have HREG:=Ac hreg;clear hreg a0 a1 ok hI hr
 rcases hcs with ⟨rfl,p0,p1⟩ | ⟨rfl,p0,p1⟩ | ⟨rfl,p0,p1⟩ | hrest
 .obtain ⟨k,rfl⟩:∃ k:Nat,rp=k:=⟨rp.toNat,by omega⟩
  obtain ⟨b,off,rfl,hc⟩:=hrow k (by omega)
  have hk:(k:Int)<512:=by omega
  rw [if_pos rfl,Int.toNat_natCast]
  go_enter func133,ntmps133
  go_wp2_with fail;refine (Ae HREG).mono ?_;rintro e w1 ⟨rfl,hw1⟩;rw [hw1];go_wp2;go_ret;exact ⟨rfl,L0⟩
 .obtain ⟨k,rfl⟩:∃ k:Nat,rp=k:=⟨rp.toNat,by omega⟩
  obtain ⟨b,off,y,rfl,hc,a',cap',rfl,hn',hrw,-⟩:=hrows bk hbm;have hl:ln bk=256:=(Hl (hbk bk hbm)).1;obtain ⟨b',off',rfl,hc'⟩:=hrw k (by omega)
  have hk:(k:Int)<(ln bk:Int):=by omega
  have hbm':(bk:Int)<(m:Int):=by omega
  rw [if_neg (by decide),if_pos rfl,Int.toNat_natCast]
  go_enter func133,ntmps133
  go_wp2_with fail;refine (Ae HREG).mono ?_;rintro e w1 ⟨rfl,hw1⟩;rw [hw1];clear hl;go_wp2;go_ret;exact ⟨rfl,L0⟩
 .obtain ⟨k,rfl⟩:∃ k:Nat,rp=k:=⟨rp.toNat,by omega⟩
  obtain ⟨q,rfl⟩:∃ q:Nat,m=q+1:=⟨m-1,by omega⟩
  obtain ⟨b,off,y,rfl,hc,a',cap',rfl,hn',hrw,-⟩:=hrows q (by omega);have hl:ln q=256:=(Hl (hbk q (by omega))).1;obtain ⟨b',off',rfl,hc'⟩:=hrw k (by omega)
  have hk:(k:Int)<(ln q:Int):=by omega
  rw [if_neg (by decide),if_neg (by decide),if_pos rfl,Int.toNat_natCast,Nat.add_sub_cancel]
  go_enter func133,ntmps133
  go_wp2_with fail;refine (Ae HREG).mono ?_;rintro e w1 ⟨rfl,hw1⟩;rw [hw1];clear hl;go_wp2;go_ret;exact ⟨rfl,L0⟩
 .rw [if_neg (by omega),if_neg (by omega),if_neg (by omega)]
  have e1:(rn==1)=false:=by simp; omega
  have e5:(rn==5)=false:=by simp; omega
  have e6:(rn==6)=false:=by simp; omega
  clear hrest
  go_enter func133,ntmps133
  go_wp2_with fail;refine (Ae HREG).mono ?_;rintro e w1 ⟨rfl,hw1⟩;rw [hw1];go_wp2;go_ret;exact ⟨rfl,L0⟩
def peekV (m:Nat) (ln:Nat->Nat) (f:Nat->Nat->Int) (n:Nat) (g:Nat->Int) (bank x:Int):Int:=if B9 m ln f n g bank then peekOf m f g bank (x%65536) else 0
theorem Gh (w:World) (F G:Nat->Nat->Prop) (v u:Value) (m:Nat) (ln:Nat->Nat) (f:Nat->Nat->Int) (n:Nat) (g:Nat->Int) (bank x:Int) (H:Bg .i64 w F v m ln f) (K:Ints .i64 w G u n g) :
  Calls prog 124 #[.agg #[v],.agg #[u,.i bank],.i x] w fun e w'=>e=.returned (.i (peekV m ln f n g bank x))/\Below w.heap.size w w':=by
 have L0:Below w.heap.size w ((w.al #[v] 26).al #[u,.i bank] 29):=((Below.refl _ _).alloc (Nat.le_refl _) _).alloc (by simp) _;have H0:=H.keep (Aa L0 Aj) (fun _ _ _ x=>x);have K0:=K.keep (Aa L0 Aj) (fun _ _ _ x=>x);obtain ⟨ia,icap,rfl,im,-,-⟩:=H;obtain ⟨ua,ucap,rfl,un,-,-⟩:=K
 go_enter func124,ntmps124
 go_wp2_with fail;refine (Mf _ F G _ _ m ln f n g bank H0 K0).mono ?_;rintro e w1 ⟨rfl,L1⟩;have c1:w1.cell? ⟨w.heap.size,0,none⟩=some (.slice ia m icap):=(L1.cell (by simp; omega)).trans (by go_simp);have c2:w1.cell? ⟨w.heap.size+1,0,none⟩=some (.slice ua n ucap):=(L1.cell (by simp)).trans (by go_simp);have c3:w1.cell? ⟨w.heap.size+1,1,none⟩=some (.i bank):=(L1.cell (by simp)).trans (by go_simp);have C1:=L0.trans (L1.mono L0.size);have H1:=H0.keep (Aa L1 Aj) (fun _ _ _ x=>x);have K1:=K0.keep (Aa L1 Aj) (fun _ _ _ x=>x);clear L1 L0 H0 K0;cases hO:B9 m ln f n g bank
 .have HE:Hid (peekV m ln f n g bank x=0):=by show _=_; unfold peekV; rw [hO]; rfl
  clear hO;go_wp2;go_ret;exact ⟨A5 HE.out.symm,C1⟩
 .have HE:Hid (peekV m ln f n g bank x=peekOf m f g bank (x%65536)):=by show _=_; unfold peekV; rw [hO]; rfl
  have HO:=Ac hO;clear hO;go_wp2_with fail;refine (Jcd _ F G _ _ m ln f n g bank x H1 K1 (Ae HO)).mono ?_;rintro e w2 ⟨rfl,L2⟩;go_wp2;go_ret;exact ⟨A5 HE.out.symm,C1.trans (L2.mono C1.size)⟩
end Go.Proofs.YtijljlnooibbmaaGreatDoor
