import Derived.Test.YtijljlnooibbmaaGreatDoorU0
namespace Go.Proofs.YtijljlnooibbmaaGreatDoor
set_option maxHeartbeats 2000000
open Go.Proofs.Tryz
set_option linter.unusedVariables false
open Go.ChangeShapes Go.WideShapes Go.ChangeAt Go.RowKit
def Ea (t:Int):Int:=if 48<t%64 then 0 else t%64
def allIn (n:Nat) (f:Nat->Int) (lo hi:Int):Bool:=decide (∀ i,i<n->Cr (f i) lo hi=true)
def A1 (t c s ad pl:Int) (n:Nat) (f:Nat->Int) (m:Nat) (g:Nat->Int):Bool:=Cr t 0 20000 && (Cr c 0 255 && (Cr s 0 255 && (Cr ad 0 15 && (Cr pl 0 63 && (decide (n=16) && (decide ((m:Int)=Ea t) && (allIn n f 0 63 && allIn m g 0 63)))))))
section
variable {t c s ad pl:Int} {n:Nat} {f:Nat->Int} {m:Nat} {g:Nat->Int}
theorem Un {n:Nat} {f:Nat->Int} {lo hi:Int} {j:Nat} (hj:j<n) (h:¬ (lo<=f j/\f j<=hi)):allIn n f lo hi=false:=decide_eq_false (fun x=>h ((Dj _ _ _).1 (x j hj)))
theorem Mj {n:Nat} {f:Nat->Int} {lo hi:Int} (h:∀ j,j<n->lo<=f j/\f j<=hi):allIn n f lo hi=true:=decide_eq_true (fun i hi=>Bh (h i hi))
theorem N7 {n:Nat} {f:Nat->Int} {lo hi:Int} (h:allIn n f lo hi=true):∀ j,j<n->lo<=f j/\f j<=hi:=fun j hj=>(Dj _ _ _).1 ((of_decide_eq_true h) j hj)
theorem Jeb (h:Cr t 0 20000=false):A1 t c s ad pl n f m g=false:=by unfold A1; rw [h]; rfl
theorem Jec (h:Cr c 0 255=false):A1 t c s ad pl n f m g=false:=by unfold A1; rw [h]; simp
theorem Jed (h:Cr s 0 255=false):A1 t c s ad pl n f m g=false:=by unfold A1; rw [h]; simp
theorem Jci (h:Cr ad 0 15=false):A1 t c s ad pl n f m g=false:=by unfold A1; rw [h]; simp
theorem Jcj (h:Cr pl 0 63=false):A1 t c s ad pl n f m g=false:=by unfold A1; rw [h]; simp
theorem Jee (h:¬ n=16):A1 t c s ad pl n f m g=false:=by unfold A1; rw [decide_eq_false h]; simp
theorem Jef (h:¬ (m:Int)=Ea t):A1 t c s ad pl n f m g=false:=by unfold A1; rw [decide_eq_false h]; simp
theorem Jeg {j:Nat} (hj:j<n) (h:¬ (0<=f j/\f j<=63)):A1 t c s ad pl n f m g=false:=by unfold A1; rw [Un hj h]; simp
theorem Jeh {j:Nat} (hj:j<m) (h:¬ (0<=g j/\g j<=63)):A1 t c s ad pl n f m g=false:=by unfold A1; rw [Un hj h]; simp
theorem Qw (h1:Cr t 0 20000=true) (h2:Cr c 0 255=true) (h3:Cr s 0 255=true) (h4:Cr ad 0 15=true) (h5:Cr pl 0 63=true) (h6:n=16) (h7:(m:Int)=Ea t) (h8:∀ j,j<n->0<=f j/\f j<=63) (h9:∀ j,j<m->0<=g j/\g j<=63):A1 t c s ad pl n f m g=true:=by
 unfold A1; rw [h1,h2,h3,h4,h5,decide_eq_true h6,decide_eq_true h7,Mj h8,Mj h9]; rfl
structure J0 (t c s ad pl:Int) (n:Nat) (f:Nat->Int) (m:Nat) (g:Nat->Int):Prop where
 t0:0<=t
 t1:t<=20000
 c0:0<=c
 c1:c<=255
 s0:0<=s
 s1:s<=255
 a0:0<=ad
 a1:ad<=15
 p0:0<=pl
 p1:pl<=63
 n16:n=16
 dots:(m:Int)=Ea t
 tab:∀ j,j<n->0<=f j/\f j<=63
 dot:∀ j,j<m->0<=g j/\g j<=63
theorem Ff (h:A1 t c s ad pl n f m g=true):J0 t c s ad pl n f m g:=by
 unfold A1 at h;simp only [Bool.and_eq_true] at h;obtain ⟨h1,h2,h3,h4,h5,h6,h7,h8,h9⟩:=h;rw [Dj] at h1 h2 h3 h4 h5;exact ⟨h1.1,h1.2,h2.1,h2.2,h3.1,h3.2,h4.1,h4.2,h5.1,h5.2,of_decide_eq_true h6,of_decide_eq_true h7,N7 h8,N7 h9⟩
end
theorem Jf3 (w:World) (t:Int) (t0:0<=t) (t1:t<=20000):Calls prog 70 #[.i t] w fun e w'=>e=.returned (.i (Ea t))/\w'=w:=by
 have hm:t.tmod 64=t%64:=Int.tmod_eq_emod_of_nonneg t0
 by_cases h:48<t%64
 .have HE:Hid (Ea t=0):=if_pos h
  go_enter func70,ntmps70
  go_wp2;go_ret;exact ⟨A5 HE.out.symm,rfl⟩
 .have HE:Hid (Ea t=t%64):=if_neg h
  go_enter func70,ntmps70
  go_wp2;go_ret;exact ⟨A5 HE.out.symm,rfl⟩
theorem Mk (w:World) (F G:Nat->Nat->Prop) (t c s ad pl:Int) (bl:Bool) (u u':Value) (n:Nat) (f:Nat->Int) (m:Nat) (g:Nat->Int) (H:Ints .i64 w F u n f) (K:Ints .i64 w G u' m g) :
  Calls prog 30 #[.agg (pR t c s ad pl bl u u')] w fun e w'=>e=.returned (.bool (A1 t c s ad pl n f m g))/\Below w.heap.size w w':=by
 obtain ⟨ua,ux,rfl,un,hr,-⟩:=H;obtain ⟨va,vx,rfl,vn,hr',-⟩:=K;have L0:Below w.heap.size w (w.alloc (.cells (pR t c s ad pl bl (.slice ua n ux) (.slice va m vx)) 33)):=(Below.refl _ _).alloc (Nat.le_refl _) _;have k0:=Af (Ak w (pR t c s ad pl bl (.slice ua n ux) (.slice va m vx)) 33);have HR:=Ac (hr.keep (Aa L0 Aj) (fun _ _ _ x=>x));have HR':=Ac (hr'.keep (Aa L0 Aj) (fun _ _ _ x=>x));clear hr hr'
 obtain ⟨b0,h0⟩:∃ b,b=Cr t 0 20000:=⟨_,rfl⟩
 have C0:∀ W:World,Calls prog 33 #[.i t,.i 0,.i 20000] W fun e w'=>e=.returned (.bool b0)/\w'=W:=fun W=>h0 ▸ E8 _ _ _ W
 obtain ⟨b1,h1⟩:∃ b,b=Cr c 0 255:=⟨_,rfl⟩
 have C1:∀ W:World,Calls prog 32 #[.i c] W fun e w'=>e=.returned (.bool b1)/\w'=W:=fun W=>h1 ▸ Ih W _
 obtain ⟨b2,h2⟩:∃ b,b=Cr s 0 255:=⟨_,rfl⟩
 have C2:∀ W:World,Calls prog 32 #[.i s] W fun e w'=>e=.returned (.bool b2)/\w'=W:=fun W=>h2 ▸ Ih W _
 obtain ⟨b3,h3⟩:∃ b,b=Cr ad 0 15:=⟨_,rfl⟩
 have C3:∀ W:World,Calls prog 33 #[.i ad,.i 0,.i 15] W fun e w'=>e=.returned (.bool b3)/\w'=W:=fun W=>h3 ▸ E8 _ _ _ W
 obtain ⟨b4,h4⟩:∃ b,b=Cr pl 0 63:=⟨_,rfl⟩
 have C4:∀ W:World,Calls prog 33 #[.i pl,.i 0,.i 63] W fun e w'=>e=.returned (.bool b4)/\w'=W:=fun W=>h4 ▸ E8 _ _ _ W
 have hd5:((n:Int) != 16)=!decide (n=16):=by by_cases h:n=16 <;> simp [h] <;> omega
 obtain ⟨b5,h5⟩:∃ b,b=decide (n=16):=⟨_,rfl⟩
 obtain ⟨b6,h6⟩:∃ b,b=decide ((m:Int)=Ea t):=⟨_,rfl⟩
 have hd6:((m:Int) != Ea t)=!b6:=by rw [h6]; by_cases h:(m:Int)=Ea t <;> simp [h]
 rw [<- h5] at hd5;generalize hdt:Ea t=dn at *;have HH:=Ac (And.intro h0 (And.intro h1 (And.intro h2 (And.intro h3 (And.intro h4 (And.intro h5 h6))))))
 have C6:b0=true->∀ W:World,Calls prog 70 #[.i t] W fun e w'=>e=.returned (.i dn)/\w'=W:=fun h W=>by rw [<- hdt]; rw [h0] at h; have hz:=(Dj _ _ _).1 h; exact Jf3 W t hz.1 hz.2
 have HDT:=Ac hdt;clear h0 h1 h2 h3 h4 h5 h6 hdt;cases b0
 .have HE:Hid (A1 t c s ad pl n f m g=false):=Jeb HH.out.1.symm
  go_enter func30,ntmps30
  go_upto_region 1 with (fail);generalize w.alloc (.cells (pR t c s ad pl bl (.slice ua n ux) (.slice va m vx)) 33)=W at *
  go_quiet (first | (go_at_call 33; first | with_reducible exact Calls.quiet_of_same (C0 _) | with_reducible exact Calls.quiet_of_same (C3 _) | with_reducible exact Calls.quiet_of_same (C4 _)) | (go_at_call 32; first | with_reducible exact Calls.quiet_of_same (C1 _) | with_reducible exact Calls.quiet_of_same (C2 _)) | (go_at_call 70; exact Calls.quiet_of_same (C6 rfl _)))
  go_wp2;go_ret;exact ⟨Ap HE.out.symm,below_drewN L0 _⟩
 cases b1
 .have HE:Hid (A1 t c s ad pl n f m g=false):=Jec HH.out.2.1.symm
  go_enter func30,ntmps30
  go_upto_region 1 with (fail);generalize w.alloc (.cells (pR t c s ad pl bl (.slice ua n ux) (.slice va m vx)) 33)=W at *
  go_quiet (first | (go_at_call 33; first | with_reducible exact Calls.quiet_of_same (C0 _) | with_reducible exact Calls.quiet_of_same (C3 _) | with_reducible exact Calls.quiet_of_same (C4 _)) | (go_at_call 32; first | with_reducible exact Calls.quiet_of_same (C1 _) | with_reducible exact Calls.quiet_of_same (C2 _)) | (go_at_call 70; exact Calls.quiet_of_same (C6 rfl _)))
  go_wp2;go_ret;exact ⟨Ap HE.out.symm,below_drewN L0 _⟩
 cases b2
 .have HE:Hid (A1 t c s ad pl n f m g=false):=Jed HH.out.2.2.1.symm
  go_enter func30,ntmps30
  go_upto_region 1 with (fail);generalize w.alloc (.cells (pR t c s ad pl bl (.slice ua n ux) (.slice va m vx)) 33)=W at *
  go_quiet (first | (go_at_call 33; first | with_reducible exact Calls.quiet_of_same (C0 _) | with_reducible exact Calls.quiet_of_same (C3 _) | with_reducible exact Calls.quiet_of_same (C4 _)) | (go_at_call 32; first | with_reducible exact Calls.quiet_of_same (C1 _) | with_reducible exact Calls.quiet_of_same (C2 _)) | (go_at_call 70; exact Calls.quiet_of_same (C6 rfl _)))
  go_wp2;go_ret;exact ⟨Ap HE.out.symm,below_drewN L0 _⟩
 cases b3
 .have HE:Hid (A1 t c s ad pl n f m g=false):=Jci HH.out.2.2.2.1.symm
  go_enter func30,ntmps30
  go_upto_region 1 with (fail);generalize w.alloc (.cells (pR t c s ad pl bl (.slice ua n ux) (.slice va m vx)) 33)=W at *
  go_quiet (first | (go_at_call 33; first | with_reducible exact Calls.quiet_of_same (C0 _) | with_reducible exact Calls.quiet_of_same (C3 _) | with_reducible exact Calls.quiet_of_same (C4 _)) | (go_at_call 32; first | with_reducible exact Calls.quiet_of_same (C1 _) | with_reducible exact Calls.quiet_of_same (C2 _)) | (go_at_call 70; exact Calls.quiet_of_same (C6 rfl _)))
  go_wp2;go_ret;exact ⟨Ap HE.out.symm,below_drewN L0 _⟩
 cases b4
 .have HE:Hid (A1 t c s ad pl n f m g=false):=Jcj HH.out.2.2.2.2.1.symm
  go_enter func30,ntmps30
  go_upto_region 1 with (fail);generalize w.alloc (.cells (pR t c s ad pl bl (.slice ua n ux) (.slice va m vx)) 33)=W at *
  go_quiet (first | (go_at_call 33; first | with_reducible exact Calls.quiet_of_same (C0 _) | with_reducible exact Calls.quiet_of_same (C3 _) | with_reducible exact Calls.quiet_of_same (C4 _)) | (go_at_call 32; first | with_reducible exact Calls.quiet_of_same (C1 _) | with_reducible exact Calls.quiet_of_same (C2 _)) | (go_at_call 70; exact Calls.quiet_of_same (C6 rfl _)))
  go_wp2;go_ret;exact ⟨Ap HE.out.symm,below_drewN L0 _⟩
 cases b5
 .have HE:Hid (A1 t c s ad pl n f m g=false):=Jee (of_decide_eq_false HH.out.2.2.2.2.2.1.symm)
  go_enter func30,ntmps30
  go_upto_region 1 with (fail);generalize w.alloc (.cells (pR t c s ad pl bl (.slice ua n ux) (.slice va m vx)) 33)=W at *
  go_quiet (first | (go_at_call 33; first | with_reducible exact Calls.quiet_of_same (C0 _) | with_reducible exact Calls.quiet_of_same (C3 _) | with_reducible exact Calls.quiet_of_same (C4 _)) | (go_at_call 32; first | with_reducible exact Calls.quiet_of_same (C1 _) | with_reducible exact Calls.quiet_of_same (C2 _)) | (go_at_call 70; exact Calls.quiet_of_same (C6 rfl _)))
  go_wp2;go_ret;exact ⟨Ap HE.out.symm,below_drewN L0 _⟩
 cases b6
 .have HE:Hid (A1 t c s ad pl n f m g=false):=Jef (of_decide_eq_false (HDT.out ▸ HH.out.2.2.2.2.2.2.symm))
  go_enter func30,ntmps30
  go_upto_region 1 with (fail);generalize w.alloc (.cells (pR t c s ad pl bl (.slice ua n ux) (.slice va m vx)) 33)=W at *
  go_quiet (first | (go_at_call 33; first | with_reducible exact Calls.quiet_of_same (C0 _) | with_reducible exact Calls.quiet_of_same (C3 _) | with_reducible exact Calls.quiet_of_same (C4 _)) | (go_at_call 32; first | with_reducible exact Calls.quiet_of_same (C1 _) | with_reducible exact Calls.quiet_of_same (C2 _)) | (go_at_call 70; exact Calls.quiet_of_same (C6 rfl _)))
  go_wp2;go_ret;exact ⟨Ap HE.out.symm,below_drewN L0 _⟩
 go_enter func30,ntmps30
 go_upto_region 1 with (fail);generalize w.alloc (.cells (pR t c s ad pl bl (.slice ua n ux) (.slice va m vx)) 33)=W at *
 go_quiet (first | (go_at_call 33; first | with_reducible exact Calls.quiet_of_same (C0 _) | with_reducible exact Calls.quiet_of_same (C3 _) | with_reducible exact Calls.quiet_of_same (C4 _)) | (go_at_call 32; first | with_reducible exact Calls.quiet_of_same (C1 _) | with_reducible exact Calls.quiet_of_same (C2 _)) | (go_at_call 70; exact Calls.quiet_of_same (C6 rfl _)))
 have LD:=below_drewN L0;have hn16:n=16:=of_decide_eq_true HH.out.2.2.2.2.2.1.symm;subst hn16;clear C0 C1 C2 C3 C4 C6 hd5 hd6;go_wp2
 go_loop [3] (fun j=>∃ r:Nat,r<=16/\j=.i r/\∀ i,i<r->0<=f i/\f i<=63) (fun i=>16-(intOf i).toNat)
 case atStart=>exact ⟨0,Nat.zero_le _,rfl,fun i hi=>absurd hi (Nat.not_lt_zero _)⟩
 case round =>
  obtain ⟨r,hr,rfl,hby⟩:=hrel;have HY:=Ac hby;clear hby
  by_cases hrt:r<16
  .obtain ⟨b',off',rfl,hcell'⟩:=HR.out r (by omega)
   have hrt':(r:Int)<16:=by omega
   by_cases hin:0<=f r/\f r<=63
   .have hin':=Bh hin
    have HX:=Ac hin;clear hin;go_wp2_with fail;refine (E8 _ _ _ _).mono ?_;rintro e w1 ⟨rfl,rfl⟩;go_wp2
    go_round
    case rel =>
     refine ⟨r+1,by omega,by go_num,fun i hi=>?_⟩
     by_cases e:i=r
     .rw [e]; exact Ae HX
     .exact Ae HY i (by omega)
    case measure=>simp [intOf]; omega
   .have hin':=C9 hin
    have HE:=Ac (Jeg (t:=t) (c:=c) (s:=s) (ad:=ad) (pl:=pl) (m:=m) (g:=g) hrt hin);clear hin;go_wp2_with fail;refine (E8 _ _ _ _).mono ?_;rintro e w1 ⟨rfl,rfl⟩;go_wp2;go_ret;exact ⟨Ap HE.out.symm,LD _⟩
  .have hrt':¬ (r:Int)<16:=by omega
   have HT:Hid (∀ j,j<16->0<=f j/\f j<=63):=fun j hj=>Ae HY j (by omega)
   clear HY hrt;go_wp2
   go_loop [4] (fun j=>∃ r:Nat,r<=m/\j=.i r/\∀ i,i<r->0<=g i/\g i<=63) (fun i=>m-(intOf i).toNat)
   case atStart=>exact ⟨0,Nat.zero_le _,rfl,fun i hi=>absurd hi (Nat.not_lt_zero _)⟩
   case round =>
    obtain ⟨q,hq,rfl,hby⟩:=hrel;have HY:=Ac hby;clear hby
    by_cases hqt:q<m
    .obtain ⟨b',off',rfl,hcell'⟩:=HR'.out q (by omega)
     have hqt':(q:Int)<(m:Int):=by omega
     by_cases hin:0<=g q/\g q<=63
     .have hin':=Bh hin
      have HX:=Ac hin;clear hin;go_wp2_with fail;refine (E8 _ _ _ _).mono ?_;rintro e w1 ⟨rfl,rfl⟩;go_wp2
      go_round
      case rel =>
       refine ⟨q+1,by omega,by go_num,fun i hi=>?_⟩
       by_cases e:i=q
       .rw [e]; exact Ae HX
       .exact Ae HY i (by omega)
      case measure=>simp [intOf]; omega
     .have hin':=C9 hin
      have HE:=Ac (Jeh (t:=t) (c:=c) (s:=s) (ad:=ad) (pl:=pl) (n:=16) (f:=f) hqt hin);clear hin;go_wp2_with fail;refine (E8 _ _ _ _).mono ?_;rintro e w1 ⟨rfl,rfl⟩;go_wp2;go_ret;exact ⟨Ap HE.out.symm,LD _⟩
    .have hqt':¬ (q:Int)<(m:Int):=by omega
     have HE:=Ac (Qw (f:=f) (g:=g) HH.out.1.symm HH.out.2.1.symm HH.out.2.2.1.symm HH.out.2.2.2.1.symm HH.out.2.2.2.2.1.symm rfl (of_decide_eq_true (HDT.out ▸ HH.out.2.2.2.2.2.2.symm)) HT.out (fun j hj=>Ae HY j (by omega)));go_wp2;go_ret;exact ⟨Ap HE.out.symm,LD _⟩
end Go.Proofs.YtijljlnooibbmaaGreatDoor
