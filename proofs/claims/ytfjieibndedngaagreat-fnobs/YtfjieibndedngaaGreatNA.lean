import Derived.Test.YtfjieibndedngaaGreatH
import Derived.Deep.RegionHeld3
namespace Go.Proofs.YtfjieibndedngaaGreat
set_option linter.unusedVariables false
set_option linter.unusedSimpArgs false
open Go.ChangeShapes Go.WideShapes Go.ChangeAt Go.RowKit
def begI (n m:Nat) (f g:Nat→Int):Bool:=decide (n≤m∧∀ i,i<n→f i=g i)
theorem Q4 {n m k:Nat} {f g:Nat→Int} (hk:k<n) (h:¬ f k=g k):begI n m f g=false:=decide_eq_false (fun x=>h (x.2 k hk))
theorem Ls {n m:Nat} {f g:Nat→Int} (h:m<n):begI n m f g=false:=decide_eq_false (fun x=>by omega)
theorem O8 {n m:Nat} {f g:Nat→Int} (h:n≤m) (e:∀ i,i<n→f i=g i):begI n m f g=true:=decide_eq_true ⟨h,e⟩
theorem Lt {n:Nat} {f g:Nat→Int}:begI n n f g=A8 n n f g:=by
 unfold begI A8
 congr 1
 simp
theorem Pb {n m:Nat} {f g:Nat→Int}:(begI n m f g && begI m n g f)=A8 n m f g:=by
 unfold begI A8;rw [← Bool.decide_and]
 congr 1
 apply propext
 constructor
 ·rintro ⟨⟨a,b⟩,c,d⟩
  exact ⟨by omega,b⟩
 ·rintro ⟨rfl,b⟩
  exact ⟨⟨Nat.le_refl _,b⟩,Nat.le_refl _,fun i hi=>(b i hi).symm⟩
def begSS (m n:Nat) (ln lg:Nat→Nat) (f g:Nat→Nat→Int):Bool:=decide (m≤n∧∀ i,i<m→A8 (ln i) (lg i) (f i) (g i)=true)
theorem Pd {m n k:Nat} {ln lg:Nat→Nat} {f g:Nat→Nat→Int} (hk:k<m) (h:A8 (ln k) (lg k) (f k) (g k)=false):begSS m n ln lg f g=false :=
 decide_eq_false (fun x=>by have:=x.2 k hk; rw [h] at this; cases this)
theorem J9 {m n:Nat} {ln lg:Nat→Nat} {f g:Nat→Nat→Int} (h:n<m):begSS m n ln lg f g=false:=decide_eq_false (fun x=>by omega)
theorem Lu {m n:Nat} {ln lg:Nat→Nat} {f g:Nat→Nat→Int} (h:m≤n) (e:∀ i,i<m→A8 (ln i) (lg i) (f i) (g i)=true):begSS m n ln lg f g=true:=decide_eq_true ⟨h,e⟩
theorem Qh {m:Nat} {ln lg:Nat→Nat} {f g:Nat→Nat→Int}:begSS m m ln lg f g=Dg m m ln lg f g:=by
 unfold begSS Dg
 congr 1
 simp
theorem D9 {n m:Nat} {f g:Nat→Int} (h:A8 n m f g=true):A8 m n g f=true:=by
 obtain ⟨rfl,e⟩:=of_decide_eq_true h;exact I7 (fun i hi=>(e i hi).symm)
theorem Sb {m n:Nat} {ln lg:Nat→Nat} {f g:Nat→Nat→Int}:(begSS m n ln lg f g && begSS n m lg ln g f)=Dg m n ln lg f g:=by
 unfold begSS Dg;rw [← Bool.decide_and]
 congr 1
 apply propext
 constructor
 ·rintro ⟨⟨a,b⟩,c,d⟩
  exact ⟨by omega,b⟩
 ·rintro ⟨rfl,b⟩
  exact ⟨⟨Nat.le_refl _,b⟩,Nat.le_refl _,fun i hi=>D9 (b i hi)⟩
theorem Hc (w:World) (F G:Nat→Nat→Prop) (v u:Value) (n m:Nat) (f g:Nat→Int) (H:Ints .i64 w F v n f) (H':Ints .i64 w G u m g) :
  Calls Tryz.prog 20 #[v,u] w fun e w'=>e=.returned (.bool (begI n m f g))∧∃ d,w'=w.drewN d:=by
 obtain ⟨a,cap,rfl,hn,hc,-⟩:=H;obtain ⟨a',cap',rfl,hn',hc',-⟩:=H'
 go_enter Tryz.func20,Tryz.ntmps20
 go_wp2
 go_loopw [5] (fun i wr=>∃ k:Nat,k≤n∧k≤m∧i=.i k∧(∀ j,j<k→f j=g j)∧∃ d,wr=w.drewN d) (fun i _=>n-(intOf i).toNat)
 case atStart=>exact ⟨0,Nat.zero_le _,Nat.zero_le _,rfl,fun j hj=>absurd hj (Nat.not_lt_zero _),0,rfl⟩
 case round =>
  obtain ⟨k,hk,hk',rfl,heq,d,rfl⟩:=hrel;have HQ:=Ad heq;clear heq
  by_cases hlt:k<n
  ·have hlt1:(k:Int)<(n:Int):=by omega
   by_cases hlm:k<m
   ·have hlm1:(k:Int)<(m:Int):=by omega
    obtain ⟨b,off,rfl,hcell⟩:=hc k hlt;obtain ⟨b',off',rfl,hcell'⟩:=hc' k hlm
    by_cases hq:f k=g k
    ·have hq':(f k != g k)=false:=by simpa using hq
     have HK:=Ad hq;clear hq;go_wp2
     go_quiet (fail)
     go_wp2;go_roundw
     case rel=>exact ⟨k+1,by omega,by omega,by go_num,Qo (Ab HQ) (Ab HK),_,rfl⟩
     case measure=>simp [intOf]; omega
    ·have hq':(f k != g k)=true:=by simpa using hq
     go_wp2
     go_quiet (fail)
     go_wp2;go_ret;exact ⟨Al (Q4 hlt hq).symm,Sg _ _ _⟩
   ·have hlm1:¬ (k:Int)<(m:Int):=by omega
    have hle:¬ (n:Int)≤(m:Int):=by omega
    go_wp2;go_ret;exact ⟨Al (Ls (by omega)).symm,_,rfl⟩
  ·have hlt1:¬ (k:Int)<(n:Int):=by omega
   have hle:(n:Int)≤(m:Int):=by omega
   go_wp2;go_ret;exact ⟨Al (O8 (by omega) (fun i hi=>Ab HQ i (by omega))).symm,_,rfl⟩
theorem Ey (w:World) (F G:Nat→Nat→Prop) (v u:Value) (n m:Nat) (f g:Nat→Int) (H:Ints .i64 w F v n f) (H':Ints .i64 w G u m g) :
  Calls Tryz.prog 21 #[v,u] w fun e w'=>e=.returned (.bool (A8 n m f g))∧∃ d,w'=w.drewN d:=by
 obtain ⟨a,cap,hv,hn,-⟩:=id H;obtain ⟨a',cap',hu,hn',-⟩:=id H';subst hv hu
 by_cases e:n=m
 ·subst e
  have hne:((n:Int)==(n:Int))=true:=by simp
  go_enter Tryz.func21,Tryz.ntmps21
  go_wp2_with fail;refine (Hc _ F G _ _ n n f g H H').mono ?_;rintro e W ⟨rfl,d,rfl⟩;rw [Lt];go_wp2;go_ret;exact ⟨rfl,d,rfl⟩
 ·have hne:((n:Int)==(m:Int))=false:=by simp; omega
  go_enter Tryz.func21,Tryz.ntmps21
  go_wp2;go_ret;exact ⟨Al (Kz e).symm,0,rfl⟩
theorem Gi (w:World) (x y:Int):Calls Tryz.prog 18 #[.i x,.i y] w fun e w'=>e=.returned (.bool (x==y))∧w'=w:=by
 go_enter Tryz.func18,Tryz.ntmps18
 go_wp2;go_ret;exact ⟨rfl,rfl⟩
theorem He (w:World) (F G:Nat→Nat→Prop) (v u:Value) (n m:Nat) (f g:Nat→Int) (H:Ints .i64 w F v n f) (H':Ints .i64 w G u m g) :
  Calls Tryz.prog 17 #[v,u,.func (.func 18) #[] #[]] w fun e w'=>e=.returned (.bool (begI n m f g))∧w'=w:=by
 obtain ⟨a,cap,rfl,hn,hc,-⟩:=H;obtain ⟨a',cap',rfl,hn',hc',-⟩:=H'
 by_cases hnm:m<n
 ·have h1:(m:Int)<(n:Int):=by omega
  go_enter Tryz.func17,Tryz.ntmps17
  go_wp2;go_ret;exact ⟨Al (Ls hnm).symm,rfl⟩
 have h1:¬ (m:Int)<(n:Int):=by omega
 go_enter Tryz.func17,Tryz.ntmps17
 go_wp2
 go_loopw [7,8,16] (fun x y i wr=>∃ k:Nat,k≤n∧i=.i k∧(∀ j,j<k→f j=g j)∧wr=w) (fun _ _ i _=>n-(intOf i).toNat)
 case atStart=>exact ⟨0,Nat.zero_le _,rfl,fun j hj=>absurd hj (Nat.not_lt_zero _),rfl⟩
 case round =>
  obtain ⟨k,hk,rfl,heq,rfl⟩:=hrel;have HQ:=Ad heq;clear heq
  by_cases hlt:k<n
  ·have hlt1:(k:Int)<(n:Int):=by omega
   obtain ⟨b,off,rfl,hcell⟩:=hc k hlt;obtain ⟨b',off',rfl,hcell'⟩:=hc' k (by omega)
   by_cases hq:f k=g k
   ·have hq':(f k==g k)=true:=by simpa using hq
    have HK:=Ad hq;clear hq;go_wp2_with fail;refine (Gi _ (f k) (g k)).mono ?_;rintro e W ⟨rfl,rfl⟩;go_wp2;go_roundw
    case rel=>exact ⟨k+1,by omega,by go_num,Qo (Ab HQ) (Ab HK),trivial⟩
    case measure=>simp [intOf]; omega
   ·have hq':(f k==g k)=false:=by simpa using hq
    go_wp2_with fail;refine (Gi _ (f k) (g k)).mono ?_;rintro e W ⟨rfl,rfl⟩;go_wp2;go_ret;exact ⟨Al (Q4 hlt hq).symm,rfl⟩
  ·have hlt1:¬ (k:Int)<(n:Int):=by omega
   go_wp2;go_ret;exact ⟨Al (O8 (by omega) (fun i hi=>Ab HQ i (by omega))).symm,rfl⟩
theorem Qi (w:World) (F G:Nat→Nat→Prop) (v u:Value) (n m:Nat) (f g:Nat→Int) (H:Ints .i64 w F v n f) (H':Ints .i64 w G u m g) :
  Calls Tryz.prog 30 #[v,u,.func (.func 18) #[] #[]] w fun e w'=>e=.returned (.bool (A8 n m f g))∧w'=w:=by
 obtain ⟨a,cap,hv,hn,-⟩:=id H;obtain ⟨a',cap',hu,hn',-⟩:=id H';subst hv hu
 by_cases e:n=m
 ·subst e
  have hne:((n:Int)==(n:Int))=true:=by simp
  go_enter Tryz.func30,Tryz.ntmps30
  go_wp2_with fail;refine (He _ F G _ _ n n f g H H').mono ?_;rintro e W ⟨rfl,rfl⟩;rw [Lt];go_wp2;go_ret;exact ⟨rfl,rfl⟩
 ·have hne:((n:Int)==(m:Int))=false:=by simp; omega
  go_enter Tryz.func30,Tryz.ntmps30
  go_wp2;go_ret;exact ⟨Al (Kz e).symm,rfl⟩
theorem Db (w:World) (F G:Nat→Nat→Prop) (v u:Value) (n m:Nat) (f g:Nat→Int) (H:Ints .i64 w F v n f) (H':Ints .i64 w G u m g) :
  Calls Tryz.prog 16 #[v,u] w fun e w'=>e=.returned (.bool (A8 n m f g))∧w'=w:=by
 go_enter Tryz.func16,Tryz.ntmps16
 go_wp2_with fail;refine (Qi _ F G _ _ n m f g H H').mono ?_;rintro e W ⟨rfl,rfl⟩;go_wp2;go_ret;exact ⟨rfl,rfl⟩
theorem Ia (w:World) (F G:Nat→Nat→Prop) (v u:Value) (m n:Nat) (ln lg:Nat→Nat) (f g:Nat→Nat→Int) (H:Bm .i64 w F v m ln f) (H':Bm .i64 w G u n lg g) :
  Calls Tryz.prog 15 #[v,u,.func (.func 16) #[] #[]] w fun e w'=>e=.returned (.bool (begSS m n ln lg f g))∧w'=w:=by
 obtain ⟨a,cap,rfl,hn,-,hc⟩:=H;obtain ⟨a',cap',rfl,hn',-,hc'⟩:=H'
 by_cases hnm:n<m
 ·have h1:(n:Int)<(m:Int):=by omega
  go_enter Tryz.func15,Tryz.ntmps15
  go_wp2;go_ret;exact ⟨Al (J9 hnm).symm,rfl⟩
 have h1:¬ (n:Int)<(m:Int):=by omega
 go_enter Tryz.func15,Tryz.ntmps15
 go_wp2
 go_loopw [7,8,16] (fun x y i wr=>∃ k:Nat,k≤m∧i=.i k∧(∀ j,j<k→A8 (ln j) (lg j) (f j) (g j)=true)∧wr=w) (fun _ _ i _=>m-(intOf i).toNat)
 case atStart=>exact ⟨0,Nat.zero_le _,rfl,fun j hj=>absurd hj (Nat.not_lt_zero _),rfl⟩
 case round =>
  obtain ⟨k,hk,rfl,heq,rfl⟩:=hrel;have HQ:=Ad heq;clear heq
  by_cases hlt:k<m
  ·have hlt1:(k:Int)<(m:Int):=by omega
   obtain ⟨b,off,x0,rfl,hcell,hx0⟩:=hc k hlt;obtain ⟨b',off',y0,rfl,hcell',hy0⟩:=hc' k (by omega);have HC:=Ad (Db wr F G x0 y0 (ln k) (lg k) (f k) (g k) hx0 hy0);clear hc hc' hx0 hy0;cases hq:A8 (ln k) (lg k) (f k) (g k)
   ·rw [hq] at HC
    go_wp2_with fail;refine HC.out.mono ?_;rintro e W ⟨rfl,rfl⟩;go_wp2;go_ret;exact ⟨Al (Pd hlt hq).symm,rfl⟩
   ·rw [hq] at HC
    have HK:=Ad hq;clear hq;go_wp2_with fail;refine HC.out.mono ?_;rintro e W ⟨rfl,rfl⟩;go_wp2;go_roundw
    case rel=>exact ⟨k+1,by omega,by go_num,Nj (Ab HQ) (Ab HK),trivial⟩
    case measure=>simp [intOf]; omega
  ·have hlt1:¬ (k:Int)<(m:Int):=by omega
   go_wp2;go_ret;exact ⟨Al (Lu (by omega) (fun i hi=>Ab HQ i (by omega))).symm,rfl⟩
theorem Qj (w:World) (F G:Nat→Nat→Prop) (v u:Value) (m n:Nat) (ln lg:Nat→Nat) (f g:Nat→Nat→Int) (H:Bm .i64 w F v m ln f) (H':Bm .i64 w G u n lg g) :
  Calls Tryz.prog 19 #[v,u,.func (.func 16) #[] #[]] w fun e w'=>e=.returned (.bool (Dg m n ln lg f g))∧w'=w:=by
 obtain ⟨a,cap,hv,hn,-⟩:=id H;obtain ⟨a',cap',hu,hn',-⟩:=id H';subst hv hu
 by_cases e:m=n
 ·subst e
  have hne:((m:Int)==(m:Int))=true:=by simp
  go_enter Tryz.func19,Tryz.ntmps19
  go_wp2_with fail;refine (Ia _ F G _ _ m m ln lg f g H H').mono ?_;rintro e W ⟨rfl,rfl⟩;rw [Qh];go_wp2;go_ret;exact ⟨rfl,rfl⟩
 ·have hne:((m:Int)==(n:Int))=false:=by simp; omega
  go_enter Tryz.func19,Tryz.ntmps19
  go_wp2;go_ret;exact ⟨Al (Pp e).symm,rfl⟩
end Go.Proofs.YtfjieibndedngaaGreat
