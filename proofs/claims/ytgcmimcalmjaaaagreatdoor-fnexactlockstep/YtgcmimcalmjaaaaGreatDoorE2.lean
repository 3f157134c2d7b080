import Derived.Test.YtgcmimcalmjaaaaGreatDoorRows
import Derived.Test.YtgcmimcalmjaaaaGreatDoorMath
import Derived.Deep.OwnRows
namespace Go.Proofs.YtgcmimcalmjaaaaGreatDoor
open Go.ChangeShapes Go.WideShapes Go.ChangeAt Go.RowKit
theorem Jab (f:Nat→Int) (k j:Nat):(if j=k then Value.i (f k) else .i (if j<k then f j else 0))=.i (if j<k+1 then f j else 0):=by
 by_cases h:j=k
 ·subst h; simp
 ·by_cases h2:j<k
  ·rw [if_neg h,if_pos h2,if_pos (by omega)]
  ·rw [if_neg h,if_neg h2,if_neg (by omega)]
def Ek (n m:Nat) (f g:Nat→Int):Bool:=decide (n=m∧∀ i,i<n→f i=g i)
theorem Vk {n m:Nat} {f g:Nat→Int} (h:¬ n=m):Ek n m f g=false:=decide_eq_false (fun x=>h x.1)
theorem Vl {n k:Nat} {f g:Nat→Int} (hk:k<n) (h:¬ f k=g k):Ek n n f g=false:=decide_eq_false (fun x=>h (x.2 k hk))
theorem Lc {n:Nat} {f g:Nat→Int} (h:∀ i,i<n→f i=g i):Ek n n f g=true:=decide_eq_true ⟨rfl,h⟩
theorem Eq (n:Nat) (f:Nat→Int):Ek n n f f=true:=Lc fun _ _=>rfl
theorem Jac {k:Nat} {f g:Nat→Int} (h:∀ j,j<k→f j=g j) (hk:f k=g k):∀ j,j<k+1→f j=g j:=fun j hj=>by
 by_cases e:j=k
 ·rw [e]; exact hk
 ·exact h j (by omega)
def Db (left:Int) (n:Nat):Int:=if left<n then -1 else left-n
theorem B4 {left:Int} {n:Nat} (h:left<n):Db left n=-1:=if_pos h
theorem Cl {left:Int} {n:Nat} (h:(n:Int)≤left):Db left n=left-n:=if_neg (by omega)
theorem Is:(Tryz.prog.info? 3).map (fun i=>(i.zero,i.size,i.bytes))=some (some (.i 0),1,8):=by kernel_rfl
theorem El (a:Option Addr) (n cap:Nat) (left:Int) (w:World) (h1:n≤9223372036854775807) (h0:0≤left) (h2:left≤1048576) :
  Calls Tryz.prog 12 #[.slice a n cap,.i left] w fun e w'=>e=.returned (.i (Db left n))∧w'=w:=by
 by_cases h:left<n
 ·go_enter Tryz.func12,Tryz.ntmps12
  go_wp2;go_ret;exact ⟨Az (B4 h).symm,rfl⟩
 ·go_enter Tryz.func12,Tryz.ntmps12
  go_wp2;go_ret;exact ⟨Az (Cl (by omega)).symm,rfl⟩
theorem Ld (w:World) (F:Nat→Nat→Prop) (v:Value) (n:Nat) (f:Nat→Int) (H:Ints .i64 w F v n f) :
  Calls Tryz.prog 20 #[v] w fun e w'=>e=.returned (.slice (some ⟨w.heap.size,0,none⟩) n n)∧w'.rowIs w.heap.size 3 n (fun i=>.i (f i))∧w'.heap.size=w.heap.size+1∧Below w.heap.size w w':=by
 obtain ⟨a,cap,rfl,hn,hc,-⟩:=H;have hmk:=run_make_row' (P:=Tryz.prog) 25 3 (.i 0) 8 Tryz.underlying25 Is rfl .i64 .i64 n (by omega) (by omega)
 go_enter Tryz.func20,Tryz.ntmps20
 go_wp2
 go_loopw [4] (fun i wr=>∃ k:Nat,k≤n∧i=.i k∧wr.rowIs w.heap.size 3 n (fun j=>.i (if j<k then f j else 0))∧Hid (wr.heap.size=w.heap.size+1)∧Below w.heap.size w wr) (fun i _=>n-(intOf i).toNat)
 case atStart=>exact ⟨0,Nat.zero_le _,rfl,(World.rowIs_made w (.i 0) n 3).congr (fun i _=>by simp),by show _=_; simp,(Below.refl _ _).alloc (Nat.le_refl _) _⟩
 case round =>
  obtain ⟨k,hk,rfl,hrow,hsz,hbel⟩:=hrel
  by_cases hlt:k<n
  ·obtain ⟨b,off,rfl,hcell⟩:=hc k hlt
   have hb:=block_lt_of_cell hcell;have hsrc:wr.cell? ⟨b,off+k,none⟩=some (.i (f k)):=(hbel.cell (p:=⟨b,off+k,none⟩) hb).trans hcell;have hdst:=hrow.cell hlt;have hfz:=hrow.frozen k
   have hlt':(k:Int)<(n:Int):=by omega
   have R:=(hrow.set k (.i (f k))).congr (g:=fun j=>.i (if j<k+1 then f j else 0)) (fun j _=>Jab f k j);clear hrow;go_wp2;go_roundw
   case rel=>exact ⟨k+1,by omega,by go_num,R,by show _=_; simpa using hsz.out,hbel.setCell (Nat.le_refl _) _⟩
   case measure=>simp [intOf]; omega
  ·have hlt':¬ (k:Int)<(n:Int):=by omega
   go_wp2;go_ret;exact ⟨rfl,hrow.congr (fun i hi=>by rw [if_pos (by omega)]),hsz,hbel⟩
theorem J8 (w:World) (F G:Nat→Nat→Prop) (v u:Value) (n m:Nat) (f g:Nat→Int) (H:Ints .i64 w F v n f) (H':Ints .i64 w G u m g) :
  Calls Tryz.prog 31 #[v,u] w fun e w'=>e=.returned (.bool (Ek n m f g))∧∃ d,w'=w.drewN d:=by
 obtain ⟨a,cap,rfl,hn,hc,-⟩:=H;obtain ⟨a',cap',rfl,hn',hc',-⟩:=H'
 by_cases e:n=m
 ·subst e
  have hne:((n:Int) != (n:Int))=false:=by simp
  go_enter Tryz.func31,Tryz.ntmps31
  go_wp2
  go_loopw [5] (fun i wr=>∃ k:Nat,k≤n∧i=.i k∧(∀ j,j<k→f j=g j)∧∃ d,wr=w.drewN d) (fun i _=>n-(intOf i).toNat)
  case atStart=>exact ⟨0,Nat.zero_le _,rfl,fun j hj=>absurd hj (Nat.not_lt_zero _),0,rfl⟩
  case round =>
   obtain ⟨k,hk,rfl,heq,d,rfl⟩:=hrel;have HQ:=Ad heq;clear heq
   by_cases hlt:k<n
   ·obtain ⟨b,off,rfl,hcell⟩:=hc k hlt
    obtain ⟨b',off',rfl,hcell'⟩:=hc' k hlt
    have hlt':(k:Int)<(n:Int):=by omega
    by_cases hq:f k=g k
    ·have hq':(f k != g k)=false:=by simpa using hq
     have HK:=Ad hq;clear hq;go_wp2
     go_quiet (fail)
     go_wp2;go_roundw
     case rel=>exact ⟨k+1,by omega,by go_num,Jac (An HQ) (An HK),_,rfl⟩
     case measure=>simp [intOf]; omega
    ·have hq':(f k != g k)=true:=by simpa using hq
     go_wp2
     go_quiet (fail)
     go_wp2;go_ret;exact ⟨Ap (Vl hlt hq).symm,Jbs _ _ _⟩
   ·have hlt':¬ (k:Int)<(n:Int):=by omega
    go_wp2;go_ret;exact ⟨Ap (Lc (fun i hi=>An HQ i (by omega))).symm,_,rfl⟩
 ·have hne:((n:Int) != (m:Int))=true:=by simp; omega
  go_enter Tryz.func31,Tryz.ntmps31
  go_wp2;go_ret;exact ⟨Ap (Vk e).symm,0,rfl⟩
theorem Jl:(Tryz.prog.info? 25).map (fun i=>(i.zero,i.size,i.bytes))=some (some (.slice none 0 0),1,24):=by kernel_rfl
structure Fw (w:World) (b0 m:Nat) (ln:Nat→Nat) (f:Nat→Nat→Int):Prop where
 outer:w.rowIs b0 25 m (fun i=>.slice (some ⟨b0+1+i,0,none⟩) (ln i) (ln i))
 inner:∀ i,i<m→w.rowIs (b0+1+i) 3 (ln i) (fun j=>.i (f i j))
theorem Yf (b0 k j:Nat) (ln:Nat→Nat):(if j=k then Value.slice (some ⟨b0+1+k,0,none⟩) (ln k) (ln k) else (if j<k then .slice (some ⟨b0+1+j,0,none⟩) (ln j) (ln j) else .slice none 0 0))=if j<k+1 then .slice (some ⟨b0+1+j,0,none⟩) (ln j) (ln j) else .slice none 0 0:=by
 by_cases h:j=k
 ·subst h; simp
 ·by_cases h2:j<k
  ·rw [if_neg h,if_pos h2,if_pos (by omega)]
  ·rw [if_neg h,if_neg h2,if_neg (by omega)]
theorem Uz (w:World) (F:Nat→Nat→Prop) (v:Value) (m:Nat) (ln:Nat→Nat) (f:Nat→Nat→Int) (H:Ba .i64 w F v m ln f) :
  Calls Tryz.prog 63 #[v] w fun e w'=>e=.returned (.slice (some ⟨w.heap.size,0,none⟩) m m)∧Fw w' w.heap.size m ln f∧w'.heap.size=w.heap.size+1+m∧Below w.heap.size w w':=by
 obtain ⟨a,cap,rfl,hn,-,hc⟩:=H;have hmk:=run_make_row' (P:=Tryz.prog) 22 25 (.slice none 0 0) 24 Tryz.underlying22 Jl rfl .i64 .i64 m (by omega) (by omega)
 go_enter Tryz.func63,Tryz.ntmps63
 go_wp2
 go_loopw [4] (fun i wr=>∃ k:Nat,k≤m∧i=.i k∧wr.rowIs w.heap.size 25 m (fun j=>if j<k then .slice (some ⟨w.heap.size+1+j,0,none⟩) (ln j) (ln j) else .slice none 0 0)∧(∀ i,i<k→wr.rowIs (w.heap.size+1+i) 3 (ln i) (fun j=>.i (f i j)))∧Hid (wr.heap.size=w.heap.size+1+k)∧Below w.heap.size w wr) (fun i _=>m-(intOf i).toNat)
 case atStart=>exact ⟨0,Nat.zero_le _,rfl,(World.rowIs_made w (.slice none 0 0) m 25).congr (fun i _=>by simp),fun i hi=>absurd hi (Nat.not_lt_zero _),by show _=_; simp,(Below.refl _ _).alloc (Nat.le_refl _) _⟩
 case round =>
  obtain ⟨k,hk,rfl,hrow,hin,hsz,hbel⟩:=hrel
  by_cases hlt:k<m
  ·obtain ⟨b,off,u,rfl,hcell,hu⟩:=hc k hlt
   have hb:=block_lt_of_cell hcell;have hsrc:wr.cell? ⟨b,off+k,none⟩=some u:=(hbel.cell (p:=⟨b,off+k,none⟩) hb).trans hcell
   have hlt':(k:Int)<(m:Int):=by omega
   have HR:=Ad hrow;have HI:=Ad hin;have hu':Ints .i64 wr F u (ln k) (f k):=hu.keep (Ab hbel Aj) (fun _ _ _ h=>h);clear hrow hin;go_wp2_with fail;refine (Ld _ F u (ln k) (f k) hu').mono ?_;rintro e w1 ⟨rfl,hnew,hs1,hb1⟩;have hs0:=hsz.out;rw [hs0] at hnew hs1 hb1;rw [hs0];have hrow1:=(An HR).of_block (hb1.block _ (by omega));have hdst:=hrow1.cell hlt;have hfz:=hrow1.frozen k;have R:=(hrow1.set k (.slice (some ⟨w.heap.size+1+k,0,none⟩) (ln k) (ln k))).congr (g:=fun j=>if j<k+1 then .slice (some ⟨w.heap.size+1+j,0,none⟩) (ln j) (ln j) else .slice none 0 0) (fun j _=>Yf _ k j ln);have HR1:=Ad R;have HN:=Ad hnew;have HS:=Ad hs1;clear hrow1 R hnew hs1 hs0;go_wp2;go_roundw
   case rel =>
    refine ⟨k+1,by omega,by go_num,An HR1,fun i hi=>?_,by show _=_; have:=An HS; simp; omega,(hbel.trans (hb1.mono (by omega))).setCell (Nat.le_refl _) _⟩
    by_cases e:i=k
    ·subst e
     exact (An HN).setOther (by simp; omega) _
    ·exact ((An HI i (by omega)).of_block (hb1.block _ (by omega))).setOther (by simp; omega) _
   case measure=>simp [intOf]; omega
  ·have hlt':¬ (k:Int)<(m:Int):=by omega
   have HR:=Ad hrow;have HI:=Ad hin;clear hrow hin;go_wp2;go_ret
   have ek:k=m:=by omega
   subst ek;exact ⟨rfl,⟨(An HR).congr (fun i hi=>by rw [if_pos hi]),An HI⟩,hsz,hbel⟩
def Gy (m n:Nat) (ln lg:Nat→Nat) (f g:Nat→Nat→Int):Bool:=decide (m=n∧∀ i,i<m→Ek (ln i) (lg i) (f i) (g i)=true)
theorem Sr {m n:Nat} {ln lg:Nat→Nat} {f g:Nat→Nat→Int} (h:¬ m=n):Gy m n ln lg f g=false:=decide_eq_false (fun x=>h x.1)
theorem Ss {n k:Nat} {ln lg:Nat→Nat} {f g:Nat→Nat→Int} (hk:k<n) (h:Ek (ln k) (lg k) (f k) (g k)=false):Gy n n ln lg f g=false :=
 decide_eq_false (fun x=>by have:=x.2 k hk; rw [h] at this; cases this)
theorem Ko {n:Nat} {ln lg:Nat→Nat} {f g:Nat→Nat→Int} (h:∀ i,i<n→Ek (ln i) (lg i) (f i) (g i)=true):Gy n n ln lg f g=true:=decide_eq_true ⟨rfl,h⟩
theorem Jm (n:Nat) (ln:Nat→Nat) (f:Nat→Nat→Int):Gy n n ln ln f f=true:=Ko fun _ _=>Eq _ _
theorem Yg {k:Nat} {ln lg:Nat→Nat} {f g:Nat→Nat→Int} (h:∀ i,i<k→Ek (ln i) (lg i) (f i) (g i)=true) (hk:Ek (ln k) (lg k) (f k) (g k)=true):∀ j,j<k+1→Ek (ln j) (lg j) (f j) (g j)=true:=fun j hj=>by
 by_cases e:j=k
 ·rw [e]; exact hk
 ·exact h j (by omega)
theorem Pe (w:World) (F G:Nat→Nat→Prop) (v u:Value) (m n:Nat) (ln lg:Nat→Nat) (f g:Nat→Nat→Int) (H:Ba .i64 w F v m ln f) (H':Ba .i64 w G u n lg g) :
  Calls Tryz.prog 80 #[v,u] w fun e w'=>e=.returned (.bool (Gy m n ln lg f g))∧∃ d,w'=w.drewN d:=by
 obtain ⟨a,cap,rfl,hn,-,hc⟩:=H;obtain ⟨a',cap',rfl,hn',-,hc'⟩:=H'
 by_cases e:m=n
 ·subst e
  have hne:((m:Int) != (m:Int))=false:=by simp
  go_enter Tryz.func80,Tryz.ntmps80
  go_wp2
  go_loopw [5] (fun i wr=>∃ k:Nat,k≤m∧i=.i k∧(∀ i,i<k→Ek (ln i) (lg i) (f i) (g i)=true)∧∃ d,wr=w.drewN d) (fun i _=>m-(intOf i).toNat)
  case atStart=>exact ⟨0,Nat.zero_le _,rfl,fun j hj=>absurd hj (Nat.not_lt_zero _),0,rfl⟩
  case round =>
   obtain ⟨k,hk,rfl,heq,d,rfl⟩:=hrel;have HQ:=Ad heq;clear heq
   by_cases hlt:k<m
   ·obtain ⟨b,off,u,rfl,hcell,hu⟩:=hc k hlt
    obtain ⟨b',off',u',rfl,hcell',hu'⟩:=hc' k hlt
    have hlt':(k:Int)<(m:Int):=by omega
    clear hc hc';cases hq:Ek (ln k) (lg k) (f k) (g k)
    ·go_wp2
     go_quiet ((go_at_call 31; exact N7 (J8 _ F G u u' (ln k) (lg k) (f k) (g k) hu hu')))
     go_wp2;go_ret;exact ⟨Ap (Ss hlt hq).symm,Jbs _ _ _⟩
    ·have HK:=Ad hq
     go_wp2
     go_quiet ((go_at_call 31; exact N7 (J8 _ F G u u' (ln k) (lg k) (f k) (g k) hu hu')))
     go_wp2;go_roundw
     case rel=>exact ⟨k+1,by omega,by go_num,Yg (An HQ) (An HK),_,rfl⟩
     case measure=>simp [intOf]; omega
   ·have hlt':¬ (k:Int)<(m:Int):=by omega
    go_wp2;go_ret;exact ⟨Ap (Ko (fun i hi=>An HQ i (by omega))).symm,_,rfl⟩
 ·have hne:((m:Int) != (n:Int))=true:=by simp; omega
  go_enter Tryz.func80,Tryz.ntmps80
  go_wp2;go_ret;exact ⟨Ap (Sr e).symm,0,rfl⟩
theorem Le {kd:IntKind} {w:World} {b off n:Nat} {f:Nat→Int} {j:Nat} {x:Int} (H:Be kd w (some ⟨b,off,none⟩) n f) (hj:j<n) :
  Be kd (w.setCell ⟨b,off+j,none⟩ (.int kd x)) (some ⟨b,off,none⟩) n (fun i=>if i=j then x else f i):=fun i hi=>by
 obtain ⟨b',off',e,hc⟩:=H i hi;simp only [Option.some.injEq,Addr.mk.injEq,and_true] at e;obtain ⟨rfl,rfl⟩:=e;refine ⟨b,off,rfl,?_⟩
 by_cases e:i=j
 ·subst e
  rw [World.cell?_setCell_same _ _ _ hc]
  simp
 ·rw [World.cell?_setCell_other _ _ _ _ (by intro h; simp only [Addr.mk.injEq] at h; omega),hc]
  show _=some (Value.int kd (if i=j then x else f i))
  rw [if_neg e]
theorem Hs (w:World) (a:Option Addr) (n cap:Nat) (f:Nat→Int) (k:Int) (H:Be .i64 w a n f) (hfr:Pd w (Da a n)) (k0:0≤k) (k1:k+n≤4611686018427387904) :
  Calls Tryz.prog 39 #[.slice a n cap,.i k] w fun e w'=>e=.returned (.i (k+n))∧Be .i64 w' a n (fun i=>k+i)∧Wrote (Da a n) w w'∧w'.heap.size=w.heap.size:=by
 go_enter Tryz.func39,Tryz.ntmps39
 go_wp2
 go_loopw [1,5] (fun kk i wr=>∃ j:Nat,j≤n∧i=.i j∧kk=.i (k+j)∧Be .i64 wr a n (fun i=>if i<j then k+i else f i)∧Wrote (Da a n) w wr∧Hid (wr.heap.size=w.heap.size)) (fun _ i _=>n-(intOf i).toNat)
 case atStart=>exact ⟨0,Nat.zero_le _,rfl,by simp,H.congr (fun i _=>by simp),Wrote.refl _ _,rfl⟩
 case round =>
  obtain ⟨j,hj,rfl,rfl,hrow,hwr,hsz⟩:=hrel
  by_cases hlt:j<n
  ·obtain ⟨b,off,rfl,hcell⟩:=hrow j hlt
   have hfz:=(hfr.keep hwr b (off+j) (Ep hlt)).2
   have hlt':(j:Int)<(n:Int):=by omega
   have R:=(Le (x:=k+j) hrow hlt).congr (g:=fun i=>if i<j+1 then k+i else f i) (fun i _=>by
    by_cases e:i=j
    ·subst e; simp
    ·by_cases h2:i<j
     ·rw [if_neg e,if_pos h2,if_pos (by omega)]
     ·rw [if_neg e,if_neg h2,if_neg (by omega)])
   have HR:=Ad R;have HW:=Ad (hwr.setCell (b:=b) (o:=off+j) (fun _=>Ep hlt) (.i (k+j)));clear R hrow hwr;go_wp2;go_roundw
   case rel=>exact ⟨j+1,by omega,by go_num,by go_num,An HR,An HW,by show _=_; simpa using hsz.out⟩
   case measure=>simp [intOf]; omega
  ·have hlt':¬ (j:Int)<(n:Int):=by omega
   have HR:=Ad hrow;clear hrow;go_wp2;go_ret
   have ej:j=n:=by omega
   subst ej;exact ⟨rfl,(An HR).congr (fun i hi=>by rw [if_pos hi]),hwr,hsz⟩
theorem Ht (w:World) (a:Option Addr) (n cap:Nat) (k:Int) (H:Be .i64 w a n (fun i=>k+i)) (k0:0≤k) (k1:k+n≤4611686018427387904) :
  Calls Tryz.prog 44 #[.slice a n cap,.i k] w fun e w'=>e=.returned (.i (k+n))∧w'=w:=by
 go_enter Tryz.func44,Tryz.ntmps44
 go_wp2
 go_loop [1,5] (fun kk i=>∃ j:Nat,j≤n∧i=.i j∧kk=.i (k+j)) (fun _ i=>n-(intOf i).toNat)
 case atStart=>exact ⟨0,Nat.zero_le _,rfl,by simp⟩
 case round =>
  obtain ⟨j,hj,rfl,rfl⟩:=hrel
  by_cases hlt:j<n
  ·obtain ⟨b,off,rfl,hcell⟩:=H j hlt
   have hlt':(j:Int)<(n:Int):=by omega
   have hne:((k+(j:Int)) != (k+(j:Int)))=false:=by simp
   go_wp2
   go_round
   case rel=>exact ⟨j+1,by omega,by go_num,by go_num⟩
   case measure=>simp [intOf]; omega
  ·have hlt':¬ (j:Int)<(n:Int):=by omega
   go_wp2;go_ret
   have ej:j=n:=by omega
   subst ej;exact ⟨rfl,rfl⟩
structure Sep (w:World) (v:Value) (m:Nat) (ra:Nat→Option Addr) (ln rc:Nat→Nat):Prop where
 outer:∃ a cap,v=.slice a m cap∧m≤1048576∧∀ i,i<m→∃ b off,a=some ⟨b,off,none⟩∧w.cell? ⟨b,off+i,none⟩=some (.slice (ra i) (ln i) (rc i))∧∀ j,j<m→¬ Da (ra j) (ln j) b (off+i)
 free:∀ i,i<m→Pd w (Da (ra i) (ln i))
 disj:∀ i j,i<m→j<m→i≠j→∀ b o,Da (ra i) (ln i) b o→¬ Da (ra j) (ln j) b o
 small:psum ln m≤1099511627776
theorem Sep.keep {w w':World} {v:Value} {m:Nat} {ra:Nat→Option Addr} {ln rc:Nat→Nat} {R:Nat→Nat→Prop} (h:Sep w v m ra ln rc) (hw:Wrote R w w') (hd:∀ b o,R b o→∃ i,i<m∧Da (ra i) (ln i) b o):Sep w' v m ra ln rc:=by
 obtain ⟨⟨a,cap,hv,hm,ho⟩,hf,hdj,hs⟩:=h;refine ⟨⟨a,cap,hv,hm,fun i hi=>?_⟩,fun i hi=>(hf i hi).keep hw,hdj,hs⟩;obtain ⟨b,off,ha,hc,hn⟩:=ho i hi;refine ⟨b,off,ha,?_,hn⟩;rw [hw.cell b (off+i) (block_lt_of_cell hc) (fun h=>by obtain ⟨j,hj,hF⟩:=hd _ _ h; exact hn j hj hF)];exact hc
theorem N8 (w:World) (v:Value) (m:Nat) (ra:Nat→Option Addr) (ln rc:Nat→Nat) (f:Nat→Nat→Int) (k:Int) (S:Sep w v m ra ln rc) (hr:∀ i,i<m→Be .i64 w (ra i) (ln i) (f i)) (k0:0≤k) (k1:k≤1099511627776) :
  Calls Tryz.prog 81 #[v,.i k] w fun e w'=>e=.returned (.i (k+psum ln m))∧(∀ i,i<m→Be .i64 w' (ra i) (ln i) (fun j=>k+psum ln i+j))∧Wrote (fun b o=>∃ i,i<m∧Da (ra i) (ln i) b o) w w'∧w'.heap.size=w.heap.size:=by
 obtain ⟨a,cap,hv,hm,ho⟩:=S.outer;have hsm:=S.small;subst hv
 go_enter Tryz.func81,Tryz.ntmps81
 go_wp2
 go_loopw [1,5] (fun kk i wr=>∃ q:Nat,q≤m∧i=.i q∧kk=.i (k+psum ln q)∧(∀ i,i<m→Be .i64 wr (ra i) (ln i) (fun j=>if i<q then k+psum ln i+j else f i j))∧Wrote (fun b o=>∃ i,i<m∧Da (ra i) (ln i) b o) w wr∧Hid (wr.heap.size=w.heap.size)) (fun _ i _=>m-(intOf i).toNat)
 case atStart=>exact ⟨0,Nat.zero_le _,rfl,by simp [psum],fun i hi=>(hr i hi).congr (fun j _=>by simp),Wrote.refl _ _,rfl⟩
 case round =>
  obtain ⟨q,hq,rfl,rfl,hrow,hwr,hsz⟩:=hrel;have HR:=Ad hrow;clear hrow
  by_cases hlt:q<m
  ·obtain ⟨b,off,rfl,hcell,hnot⟩:=ho q hlt
   have hc:wr.cell? ⟨b,off+q,none⟩=some (.slice (ra q) (ln q) (rc q)):=by
    rw [hwr.cell b (off+q) (block_lt_of_cell hcell) (fun h=>by obtain ⟨j,hj,hF⟩:=h; exact hnot j hj hF)];exact hcell
   have hlt':(q:Int)<(m:Int):=by omega
   have hp:=Io ln (show q+1≤m from hlt);have hp1:psum ln (q+1)=psum ln q+ln q:=rfl
   have hb1:k+psum ln q+ln q≤4611686018427387904:=by omega
   have hp0:=Ad hp1;clear hp1 hp;go_wp2_with fail;refine (Hs _ (ra q) (ln q) (rc q) (f q) _ ((An HR q hlt).congr (fun j _=>by rw [if_neg (Nat.lt_irrefl q)])) ((S.free q hlt).keep hwr) (by omega) hb1).mono ?_;rintro e w1 ⟨rfl,hrow1,hw1,hs1⟩;have H1:=Ad hrow1;have HS:=Ad hs1;have HW:=Ad (hwr.trans (hw1.mono (S:=fun b o=>∃ i,i<m∧Da (ra i) (ln i) b o) (fun b o _ h=>⟨q,hlt,h⟩)));have HW1:=Ad hw1;clear hrow1 hs1 hw1 hwr;go_wp2;go_roundw
   case rel =>
    refine ⟨q+1,by omega,by go_num,?_,fun i hi=>?_,An HW,(An HS).trans hsz.out⟩
    ·rw [An hp0]; go_num
    ·by_cases e:i=q
     ·subst e
      exact (An H1).congr (fun j _=>by rw [if_pos (by omega)])
     ·refine ((An HR i hi).keep (An HW1) (S.disj i q hi hlt e)).congr (fun j _=>?_)
      by_cases h2:i<q
      ·rw [if_pos h2,if_pos (by omega)]
      ·rw [if_neg h2,if_neg (by omega)]
   case measure=>simp [intOf]; omega
  ·have hlt':¬ (q:Int)<(m:Int):=by omega
   go_wp2;go_ret
   have ej:q=m:=by omega
   subst ej;exact ⟨rfl,fun i hi=>(An HR i hi).congr (fun j _=>by rw [if_pos hi]),hwr,hsz⟩
theorem N9 (w:World) (v:Value) (m:Nat) (ra:Nat→Option Addr) (ln rc:Nat→Nat) (k:Int) (S:Sep w v m ra ln rc) (hr:∀ i,i<m→Be .i64 w (ra i) (ln i) (fun j=>k+psum ln i+j)) (k0:0≤k) (k1:k≤1099511627776) :
  Calls Tryz.prog 82 #[v,.i k] w fun e w'=>e=.returned (.i (k+psum ln m))∧w'=w:=by
 obtain ⟨a,cap,hv,hm,ho⟩:=S.outer;have hsm:=S.small;subst hv;have HR:=Ad hr;clear hr
 go_enter Tryz.func82,Tryz.ntmps82
 go_wp2
 go_loop [1,5] (fun kk i=>∃ q:Nat,q≤m∧i=.i q∧kk=.i (k+psum ln q)) (fun _ i=>m-(intOf i).toNat)
 case atStart=>exact ⟨0,Nat.zero_le _,rfl,by simp [psum]⟩
 case round =>
  obtain ⟨q,hq,rfl,rfl⟩:=hrel
  by_cases hlt:q<m
  ·obtain ⟨b,off,rfl,hcell,hnot⟩:=ho q hlt
   have hlt':(q:Int)<(m:Int):=by omega
   have hp:=Io ln (show q+1≤m from hlt);have hp1:psum ln (q+1)=psum ln q+ln q:=rfl
   have hb1:k+psum ln q+ln q≤4611686018427387904:=by omega
   have hp0:=Ad hp1;clear hp1 hp
   have hnn:¬ (k+psum ln q+ln q<0):=by omega
   go_wp2_with fail;refine (Ht _ (ra q) (ln q) (rc q) _ (An HR q hlt) (by omega) hb1).mono ?_;rintro e w1 ⟨rfl,rfl⟩;go_wp2
   go_round
   case rel =>
    refine ⟨q+1,by omega,by go_num,?_⟩;rw [An hp0]; go_num
   case measure=>simp [intOf]; omega
  ·have hlt':¬ (q:Int)<(m:Int):=by omega
   go_wp2;go_ret
   have ej:q=m:=by omega
   subst ej;exact ⟨rfl,rfl⟩
structure Ed (w:World) (v:Value) (m:Nat) (ra:Nat→Option Addr) (ln rc:Nat→Nat) (f:Nat→Nat→Int):Prop where
 outer:∃ a cap,v=.slice a m cap∧m≤9223372036854775807∧∀ i,i<m→∃ b off,a=some ⟨b,off,none⟩∧w.cell? ⟨b,off+i,none⟩=some (.slice (ra i) (ln i) (rc i))
 rows:∀ i,i<m→ln i≤9223372036854775807∧Be .i64 w (ra i) (ln i) (f i)∧∀ j,j<ln i→(Lit.i (f i j)).wf=true
theorem Pf (ln:Nat→Nat) {i m:Nat} (h:i<m):ln i≤psum ln m:=by
 have:=Io ln (show i+1≤m from h);have e:psum ln (i+1)=psum ln i+ln i:=rfl
 omega
theorem Ed.ints {w:World} {v:Value} {m:Nat} {ra:Nat→Option Addr} {ln rc:Nat→Nat} {f:Nat→Nat→Int} (h:Ed w v m ra ln rc f) (hs:m+psum ln m≤1048576):Ba .i64 w (fun b _=>b<w.heap.size) v m ln f:=by
 obtain ⟨⟨a,cap,hv,hm,ho⟩,hr⟩:=h;refine ⟨a,cap,hv,by omega,fun b o hF=>?_,fun i hi=>?_⟩
 ·obtain ⟨off,rfl,h1,h2⟩:=hF
  obtain ⟨b',off',e,hcell⟩:=ho (o-off) (by omega);simp only [Option.some.injEq,Addr.mk.injEq,and_true] at e;obtain ⟨rfl,rfl⟩:=e;exact block_lt_of_cell hcell
 ·obtain ⟨b,off,ha,hc⟩:=ho i hi
  exact ⟨b,off,_,ha,hc,ra i,rc i,rfl,by have:=Pf ln hi; omega,(hr i hi).2.1,fun b o h=>(hr i hi).2.1.lt h⟩
theorem Ed.below {w w':World} {v:Value} {m:Nat} {ra:Nat→Option Addr} {ln rc:Nat→Nat} {f:Nat→Nat→Int} (h:Ed w v m ra ln rc f) (hb:Below w.heap.size w w'):Ed w' v m ra ln rc f:=by
 obtain ⟨⟨a,cap,hv,hm,ho⟩,hr⟩:=h;refine ⟨⟨a,cap,hv,hm,fun i hi=>?_⟩,fun i hi=>⟨(hr i hi).1,(hr i hi).2.1.keep (Ab hb Aj) (fun _ _ _ x=>x),(hr i hi).2.2⟩⟩;obtain ⟨b,off,ha,hc⟩:=ho i hi;exact ⟨b,off,ha,(hb.cell (p:=⟨b,off+i,none⟩) (block_lt_of_cell hc)).trans hc⟩
theorem Pg (w:World) (v:Value) (m:Nat) (ra:Nat→Option Addr) (ln rc:Nat→Nat) (f:Nat→Nat→Int) (H:Ed w v m ra ln rc f) (left:Int) (h0:0≤left) (h1:left≤1048576) :
  Calls Tryz.prog 48 #[v,.i left] w fun e w'=>e=.returned (.i (Db left (m+psum ln m)))∧w'=w:=by
 obtain ⟨⟨a,cap,rfl,hm,ho⟩,hr⟩:=H
 by_cases hl:left<m
 ·go_enter Tryz.func48,Tryz.ntmps48
  go_wp2;go_ret;exact ⟨Az (B4 (by omega)).symm,rfl⟩
 ·have hl2:¬ (left-(m:Int)<0):=by omega
  go_enter Tryz.func48,Tryz.ntmps48
  go_wp2
  go_loop [1,5] (fun l i=>∃ q:Nat,q≤m∧i=.i q∧psum ln q≤left-m∧l=.i (left-m-psum ln q)) (fun _ i=>m-(intOf i).toNat)
  case atStart=>exact ⟨0,Nat.zero_le _,rfl,by simp [psum]; omega,by simp [psum]⟩
  case round =>
   obtain ⟨q,hq,rfl,hle,rfl⟩:=hrel
   by_cases hlt:q<m
   ·obtain ⟨b,off,rfl,hc⟩:=ho q hlt
    have hlt':(q:Int)<(m:Int):=by omega
    have hln:=(hr q hlt).1;have hp:=Io ln (show q+1≤m from hlt);have hp1:psum ln (q+1)=psum ln q+ln q:=rfl
    by_cases hx:left-m-psum ln q<ln q
    ·have hcc:Hid (left<((m+psum ln m:Nat):Int)):=by show _<_; omega
     clear hp hp1;go_wp2_with fail;refine (El _ _ _ _ _ hln (by omega) (by omega)).mono ?_;rintro e w1 ⟨rfl,rfl⟩;rw [B4 hx];go_wp2;go_ret;exact ⟨Az (B4 hcc.out).symm,rfl⟩
    ·have hnn:¬ (left-m-psum ln q-ln q<0):=by omega
     have HP:=Ad hp1;clear hp hp1;go_wp2_with fail;refine (El _ _ _ _ _ hln (by omega) (by omega)).mono ?_;rintro e w1 ⟨rfl,rfl⟩;rw [Cl (by omega)];go_wp2
     go_round
     case rel =>
      refine ⟨q+1,by omega,by go_num,?_,?_⟩
      ·rw [An HP]; omega
      ·rw [An HP]; go_num
     case measure=>simp [intOf]; omega
   ·have hlt':¬ (q:Int)<(m:Int):=by omega
    go_wp2;go_ret
    have e:q=m:=by omega
    subst e;exact ⟨Az (by rw [Cl (by omega)]; omega),rfl⟩
theorem Jad (w:World) (v:Value) (m:Nat) (ra:Nat→Option Addr) (ln rc:Nat→Nat) (f:Nat→Nat→Int) (H:Ed w v m ra ln rc f) (left:Int) (h0:0≤left) (h1:left≤1048576) :
  Calls Tryz.prog 11 #[.agg #[v],.i left] w fun e w'=>e=.returned (.i (Db left (m+psum ln m)))∧Below w.heap.size w w':=by
 have hz:Db left (m+psum ln m)=-1∨0≤Db left (m+psum ln m):=by unfold Db; split <;> omega
 generalize hg:Db left (m+psum ln m)=z at *;have HG:=Ad hg;clear hg
 rcases hz with rfl | hz
 ·go_enter Tryz.func11,Tryz.ntmps11
  go_wp2_with fail;refine (Pg _ v m ra ln rc f (H.below ((Below.refl _ _).alloc (Nat.le_refl _) _)) left h0 h1).mono ?_;rintro e w1 ⟨rfl,rfl⟩;rw [An HG];go_wp2;go_ret;exact ⟨rfl,(Below.refl _ _).alloc (Nat.le_refl _) _⟩
 ·go_enter Tryz.func11,Tryz.ntmps11
  go_wp2_with fail;refine (Pg _ v m ra ln rc f (H.below ((Below.refl _ _).alloc (Nat.le_refl _) _)) left h0 h1).mono ?_;rintro e w1 ⟨rfl,rfl⟩;rw [An HG];go_wp2;go_ret;exact ⟨rfl,(Below.refl _ _).alloc (Nat.le_refl _) _⟩
theorem Fw.keep {w w':World} {R:Nat→Nat→Prop} {b0 m:Nat} {ln:Nat→Nat} {f:Nat→Nat→Int} (h:Fw w b0 m ln f) (hw:Wrote R w w') (hd:∀ b o,b0≤b→b<b0+1+m→¬ R b o):Fw w' b0 m ln f :=
 ⟨h.outer.of_block (hw.block _ h.outer.lt (fun o=>hd _ o (by omega) (by omega))),fun i hi=>(h.inner i hi).of_block (hw.block _ (h.inner i hi).lt (fun o=>hd _ o (by omega) (by omega)))⟩
theorem Fw.rowOf {w:World} {b0 m:Nat} {ln:Nat→Nat} {f:Nat→Nat→Int} (h:Fw w b0 m ln f) (i:Nat) (hi:i<m):Be .i64 w (some ⟨b0+1+i,0,none⟩) (ln i) (f i):=fun j hj =>
 ⟨b0+1+i,0,rfl,by rw [Nat.zero_add]; exact (h.inner i hi).cell hj⟩
theorem Fw.ints {w:World} {b0 m:Nat} {ln:Nat→Nat} {f:Nat→Nat→Int} (h:Fw w b0 m ln f) (hm:m+psum ln m≤1048576):Ba .i64 w (fun b _=>b0≤b∧b<b0+1+m) (.slice (some ⟨b0,0,none⟩) m m) m ln f:=by
 refine ⟨_,_,rfl,by omega,fun b o hF=>?_,fun i hi=>⟨b0,0,_,rfl,by rw [Nat.zero_add]; exact h.outer.cell hi,_,_,rfl,by have:=Pf ln hi; omega,h.rowOf i hi,fun b o hF=>?_⟩⟩
 ·obtain ⟨off,e,_⟩:=hF
  simp only [Option.some.injEq,Addr.mk.injEq,and_true] at e
  omega
 ·obtain ⟨off,e,_⟩:=hF
  simp only [Option.some.injEq,Addr.mk.injEq,and_true] at e
  omega
theorem Fw.sep {w:World} {b0 m:Nat} {ln:Nat→Nat} {f:Nat→Nat→Int} (h:Fw w b0 m ln f) (hm:m+psum ln m≤1048576):Sep w (.slice (some ⟨b0,0,none⟩) m m) m (fun i=>some ⟨b0+1+i,0,none⟩) ln ln:=by
 refine ⟨⟨_,_,rfl,by omega,fun i hi=>⟨b0,0,rfl,by rw [Nat.zero_add]; exact h.outer.cell hi,fun j hj hF=>?_⟩⟩,fun i hi b o hF=>?_,fun i j hi hj hij b o hF hG=>?_,by omega⟩
 ·obtain ⟨off,e,_⟩:=hF
  simp only [Option.some.injEq,Addr.mk.injEq,and_true] at e
  omega
 ·obtain ⟨off,e,_⟩:=hF
  simp only [Option.some.injEq,Addr.mk.injEq,and_true] at e;obtain ⟨rfl,rfl⟩:=e;exact ⟨(h.inner i hi).lt,(h.inner i hi).frozen o⟩
 ·obtain ⟨off,e,_⟩:=hF
  obtain ⟨off',e',_⟩:=hG;simp only [Option.some.injEq,Addr.mk.injEq,and_true] at e e'
  omega
theorem Jae (w:World) (F:Nat→Nat→Prop) (v:Value) (m:Nat) (ln:Nat→Nat) (f:Nat→Nat→Int) (H:Ba .i64 w F v m ln f) :
  Calls Tryz.prog 19 #[.agg #[v]] w fun e w'=>∃ b0,w.heap.size≤b0∧e=.returned (.agg #[.slice (some ⟨b0,0,none⟩) m m])∧Fw w' b0 m ln f∧b0+1+m≤w'.heap.size∧Below w.heap.size w w':=by
 go_enter Tryz.func19,Tryz.ntmps19
 go_wp2_with fail;have L0:Below w.heap.size w (((w.alloc (.cells #[v] 24)).alloc (.cells #[.slice none 0 0] 41)).alloc (.cells #[.slice none 0 0] 41)):=(((Below.refl _ _).alloc (Nat.le_refl _) _).alloc (by simp) _).alloc (by simp; omega) _;refine (Uz _ F v m ln f (H.keep (Ab L0 Aj) (fun _ _ _ x=>x))).mono ?_;rintro e w1 ⟨rfl,hrows,hsz,hbel⟩;have c1:w1.cell? ⟨w.heap.size+1,0,none⟩=some (.slice none 0 0):=(hbel.cell (by simp)).trans (by go_simp);have c2:w1.cell? ⟨w.heap.size+1+1,0,none⟩=some (.slice none 0 0):=(hbel.cell (by simp)).trans (by go_simp);have f1:w1.frozen? ⟨w.heap.size+1,0,none⟩=false:=(hbel.frozen (by simp)).trans (by go_simp);have f2:w1.frozen? ⟨w.heap.size+1+1,0,none⟩=false:=(hbel.frozen (by simp)).trans (by go_simp)
 have hbs:(((w.alloc (.cells #[v] 24)).alloc (.cells #[.slice none 0 0] 41)).alloc (.cells #[.slice none 0 0] 41)).heap.size=w.heap.size+3:=by simp
 rw [hbs] at hrows hsz hbel;rw [hbs];have HR:=Ad hrows;have HS:=Ad hsz;clear hrows hsz;go_wp2;refine bodyPost_ret (v:=.agg #[.slice (some ⟨w.heap.size+3,0,none⟩) m m]) (by simp [results,Tryz.results19,go_sem,c1]) rfl ⟨w.heap.size+3,by omega,rfl,?_,?_,?_⟩
 ·refine (An HR).keep (R:=fun b _=>b<w.heap.size+3) (((Wrote.refl _ _).setCell (fun _=>by omega) _).setCell (fun _=>by omega) _) (fun b o h _=>by omega)
 ·have:=An HS
  simp
  omega
 ·exact ((L0.trans (hbel.mono (by omega))).setCell (by simp; omega) _).setCell (by simp) _
theorem Jaf (w:World) (F G:Nat→Nat→Prop) (v u:Value) (m n:Nat) (ln lg:Nat→Nat) (f g:Nat→Nat→Int) (H:Ba .i64 w F v m ln f) (H':Ba .i64 w G u n lg g) :
  Calls Tryz.prog 30 #[.agg #[v],.agg #[u]] w fun e w'=>e=.returned (.bool (Gy m n ln lg f g))∧Below w.heap.size w w':=by
 have L0:Below w.heap.size w ((w.alloc (.cells #[v] 41)).alloc (.cells #[u] 41)):=((Below.refl _ _).alloc (Nat.le_refl _) _).alloc (by simp) _;have h1:=H.keep (Ab L0 Aj) (fun _ _ _ x=>x);have h2:=H'.keep (Ab L0 Aj) (fun _ _ _ x=>x);cases hq:Gy m n ln lg f g
 ·go_enter Tryz.func30,Tryz.ntmps30
  go_wp2_with fail;refine (Pe _ F G v u m n ln lg f g h1 h2).mono ?_;rintro e w1 ⟨rfl,d,rfl⟩;go_wp2;go_ret;exact ⟨rfl,L0.trans ⟨rfl,rfl,rfl,Nat.le_refl _,fun _ _=>rfl⟩⟩
 ·go_enter Tryz.func30,Tryz.ntmps30
  go_wp2_with fail;refine (Pe _ F G v u m n ln lg f g h1 h2).mono ?_;rintro e w1 ⟨rfl,d,rfl⟩;go_wp2;go_ret;exact ⟨rfl,L0.trans ⟨rfl,rfl,rfl,Nat.le_refl _,fun _ _=>rfl⟩⟩
def Cs (x lo hi:Int):Bool:=decide (lo≤x) && decide (x≤hi)
theorem Dn (x lo hi:Int):Cs x lo hi=true ↔ lo≤x∧x≤hi:=by simp [Cs]
theorem Bn {x lo hi:Int} (h:lo≤x∧x≤hi):Cs x lo hi=true:=(Dn x lo hi).2 h
theorem Cu {x lo hi:Int} (h:¬ (lo≤x∧x≤hi)):Cs x lo hi=false:=by
 cases e:Cs x lo hi
 ·rfl
 ·exact absurd ((Dn x lo hi).1 e) h
def Dq (n:Nat) (g:Nat→Int):Bool:=decide (n=256∧∀ j,j<n→Cs (g j) 0 255=true)
theorem Lf {n:Nat} {g:Nat→Int} (h:¬ n=256):Dq n g=false:=decide_eq_false (fun x=>h x.1)
theorem Qv {n j:Nat} {g:Nat→Int} (hj:j<256) (h:¬ (0≤g j∧g j≤255)):Dq n g=false:=decide_eq_false (fun x=>h ((Dn _ _ _).1 (x.2 j (by omega))))
theorem Su {n:Nat} {g:Nat→Int} (h:n=256) (h2:∀ j,j<256→0≤g j∧g j≤255):Dq n g=true:=decide_eq_true ⟨h,fun j hj=>Bn (h2 j (by omega))⟩
theorem Gi {n:Nat} {g:Nat→Int} (h:Dq n g=true):n=256∧∀ j,j<256→0≤g j∧g j≤255 :=
 have x:=of_decide_eq_true h
 ⟨x.1,fun j hj=>(Dn _ _ _).1 (x.2 j (by omega))⟩
def Fx (m:Nat) (ln:Nat→Nat) (f:Nat→Nat→Int):Bool:=decide ((∀ i,i<m→Dq (ln i) (f i)=true)∧1≤m∧m≤8)
theorem Lg {m:Nat} {ln:Nat→Nat} {f:Nat→Nat→Int} {i:Nat} (hi:i<m) (h:Dq (ln i) (f i)=false):Fx m ln f=false:=decide_eq_false (fun x=>by have:=x.1 i hi; rw [h] at this; cases this)
theorem Vm {m:Nat} {ln:Nat→Nat} {f:Nat→Nat→Int} (h:∀ i,i<m→Dq (ln i) (f i)=true):Fx m ln f=Cs m 1 8:=by
 by_cases c:1≤m∧m≤8
 ·rw [Bn (by omega)]
  exact decide_eq_true ⟨h,c⟩
 ·rw [Cu (by omega)]
  exact decide_eq_false (fun x=>c x.2)
theorem Qw {k:Nat} {ln:Nat→Nat} {f:Nat→Nat→Int} (h:∀ i,i<k→Dq (ln i) (f i)=true) (hk:Dq (ln k) (f k)=true):∀ i,i<k+1→Dq (ln i) (f i)=true:=fun j hj=>by
 by_cases e:j=k
 ·rw [e]; exact hk
 ·exact h j (by omega)
theorem Gj (x lo hi:Int) (w:World):Calls Tryz.prog 55 #[.i x,.i lo,.i hi] w fun e w'=>e=.returned (.bool (Cs x lo hi))∧w'=w:=by
 by_cases h1:lo≤x
 ·by_cases h2:x≤hi
  ·have e:=Ad (Bn ⟨h1,h2⟩)
   go_enter Tryz.func55,Tryz.ntmps55
   go_wp2;go_ret;exact ⟨Ap (An e).symm,rfl⟩
  ·have e:=Ad (Cu (x:=x) (lo:=lo) (hi:=hi) (by omega))
   go_enter Tryz.func55,Tryz.ntmps55
   go_wp2;go_ret;exact ⟨Ap (An e).symm,rfl⟩
 ·have h1':decide (lo≤x)=false:=decide_eq_false h1
  have e:=Ad (Cu (x:=x) (lo:=lo) (hi:=hi) (by omega))
  go_enter Tryz.func55,Tryz.ntmps55
  go_wp2;go_ret;exact ⟨Ap (An e).symm,rfl⟩
theorem Qx (w:World) (F:Nat→Nat→Prop) (v:Value) (m:Nat) (ln:Nat→Nat) (f:Nat→Nat→Int) (H:Ba .i64 w F v m ln f) :
  Calls Tryz.prog 83 #[.agg #[v]] w fun e w'=>e=.returned (.bool (Fx m ln f))∧Below w.heap.size w w':=by
 have L0:Below w.heap.size w (w.alloc (.cells #[v] 41)):=(Below.refl _ _).alloc (Nat.le_refl _) _;have H0:=H.keep (Ab L0 Aj) (fun _ _ _ x=>x);obtain ⟨a,cap,rfl,hm,-,hc⟩:=H0
 go_enter Tryz.func83,Tryz.ntmps83
 go_wp2
 go_loop [3] (fun i=>∃ q:Nat,q≤m∧i=.i q∧∀ i,i<q→Dq (ln i) (f i)=true) (fun i=>m-(intOf i).toNat)
 case atStart=>exact ⟨0,Nat.zero_le _,rfl,fun i hi=>absurd hi (Nat.not_lt_zero _)⟩
 case round =>
  obtain ⟨q,hq,rfl,hok⟩:=hrel;have HO:=Ad hok;clear hok
  by_cases hlt:q<m
  ·obtain ⟨b,off,u,rfl,hcell,a',cap',rfl,hn',hrow,-⟩:=hc q hlt
   have hlt':(q:Int)<(m:Int):=by omega
   by_cases hl:ln q=256
   ·have hl':((ln q:Int) != 256)=false:=by simp; omega
    have HL:=Ad hl
    have hl2:256≤ln q:=by omega
    clear hl;go_wp2
    go_loop [4] (fun j=>∃ r:Nat,r≤256∧j=.i r∧∀ i,i<r→0≤f q i∧f q i≤255) (fun i=>256-(intOf i).toNat)
    case atStart=>exact ⟨0,Nat.zero_le _,rfl,fun i hi=>absurd hi (Nat.not_lt_zero _)⟩
    case round =>
     obtain ⟨r,hr,rfl,hby⟩:=hrel;have HB:=Ad hby;clear hby
     by_cases hrt:r<256
     ·obtain ⟨b',off',rfl,hcell'⟩:=hrow r (by omega)
      have hrt':(r:Int)<256:=by omega
      have hrl:(r:Int)<(ln q:Int):=by omega
      by_cases hin:0≤f q r∧f q r≤255
      ·have hin':=Bn hin
       have HI:=Ad hin;clear hin;go_wp2_with fail;refine (Gj _ _ _ _).mono ?_;rintro e w1 ⟨rfl,rfl⟩;go_wp2
       go_round
       case rel =>
        refine ⟨r+1,by omega,by go_num,fun i hi=>?_⟩
        by_cases e:i=r
        ·rw [e]; exact An HI
        ·exact An HB i (by omega)
       case measure=>simp [intOf]; omega
      ·have hin':=Cu hin
       have HI:=Ad (Lg hlt (Qv (n:=ln q) hrt hin));clear hin;go_wp2_with fail;refine (Gj _ _ _ _).mono ?_;rintro e w1 ⟨rfl,rfl⟩;go_wp2;go_ret;exact ⟨Ap (An HI).symm,L0⟩
     ·have hrt':¬ (r:Int)<256:=by omega
      go_wp2
      go_round
      case rel=>exact ⟨q+1,by omega,by go_num,Qw (An HO) (Su (An HL) (fun j hj=>An HB j (by omega)))⟩
      case measure=>simp [intOf]; omega
   ·have hl':((ln q:Int) != 256)=true:=by simp; omega
    have HI:=Ad (Lg hlt (Lf (g:=f q) hl));clear hl;go_wp2;go_ret;exact ⟨Ap (An HI).symm,L0⟩
  ·have hlt':¬ (q:Int)<(m:Int):=by omega
   have e:q=m:=by omega
   subst e;go_wp2_with fail;refine (Gj _ _ _ _).mono ?_;rintro e w1 ⟨rfl,rfl⟩;go_wp2;go_ret;exact ⟨Ap (Vm (An HO)).symm,L0⟩
end Go.Proofs.YtgcmimcalmjaaaaGreatDoor
