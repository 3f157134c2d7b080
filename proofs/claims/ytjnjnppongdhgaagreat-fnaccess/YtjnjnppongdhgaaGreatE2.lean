import Derived.Test.YtjnjnppongdhgaaGreatRows
import Derived.Test.YtjnjnppongdhgaaGreatMath
import Derived.Deep.OwnRows
namespace Go.Proofs.YtjnjnppongdhgaaGreat
open Go.ChangeShapes Go.WideShapes Go.ChangeAt Go.RowKit
def Bs (n m:Nat) (f g:Nat→Int):Bool:=decide (n=m∧∀ i,i<n→f i=g i)
theorem Tl {n m:Nat} {f g:Nat→Int} (h:¬ n=m):Bs n m f g=false:=decide_eq_false (fun x=>h x.1)
theorem Re {n:Nat} {f g:Nat→Int} (h:∀ i,i<n→f i=g i):Bs n n f g=true:=decide_eq_true ⟨rfl,h⟩
theorem Xs {k:Nat} {f g:Nat→Int} (h:∀ j,j<k→f j=g j) (hk:f k=g k):∀ j,j<k+1→f j=g j:=fun j hj=>by
 by_cases e:j=k
 ·rw [e]; exact hk
 ·exact h j (by omega)
theorem Gd:(Tryz.prog.info? 3).map (fun i=>(i.zero,i.size,i.bytes))=some (some (.i 0),1,8):=by kernel_rfl
theorem Ki:(Tryz.prog.info? 27).map (fun i=>(i.zero,i.size,i.bytes))=some (some (.slice none 0 0),1,24):=by kernel_rfl
structure Ge (w:World) (b0 m:Nat) (ln:Nat→Nat) (f:Nat→Nat→Int):Prop where
 outer:w.rowIs b0 27 m (fun i=>.slice (some ⟨b0+1+i,0,none⟩) (ln i) (ln i))
 inner:∀ i,i<m→w.rowIs (b0+1+i) 3 (ln i) (fun j=>.i (f i j))
def Fw (m n:Nat) (ln lg:Nat→Nat) (f g:Nat→Nat→Int):Bool:=decide (m=n∧∀ i,i<m→Bs (ln i) (lg i) (f i) (g i)=true)
theorem Rf {m n:Nat} {ln lg:Nat→Nat} {f g:Nat→Nat→Int} (h:¬ m=n):Fw m n ln lg f g=false:=decide_eq_false (fun x=>h x.1)
theorem Vk {k:Nat} {ln lg:Nat→Nat} {f g:Nat→Nat→Int} (h:∀ i,i<k→Bs (ln i) (lg i) (f i) (g i)=true) (hk:Bs (ln k) (lg k) (f k) (g k)=true):∀ j,j<k+1→Bs (ln j) (lg j) (f j) (g j)=true:=fun j hj=>by
 by_cases e:j=k
 ·rw [e]; exact hk
 ·exact h j (by omega)
theorem Rh {kd:IntKind} {w:World} {b off n:Nat} {f:Nat→Int} {j:Nat} {x:Int} (H:Bu kd w (some ⟨b,off,none⟩) n f) (hj:j<n) :
  Bu kd (w.setCell ⟨b,off+j,none⟩ (.int kd x)) (some ⟨b,off,none⟩) n (fun i=>if i=j then x else f i):=fun i hi=>by
 obtain ⟨b',off',e,hc⟩:=H i hi;simp only [Option.some.injEq,Addr.mk.injEq,and_true] at e;obtain ⟨rfl,rfl⟩:=e;refine ⟨b,off,rfl,?_⟩
 by_cases e:i=j
 ·subst e
  rw [World.cell?_setCell_same _ _ _ hc]
  simp
 ·rw [World.cell?_setCell_other _ _ _ _ (by intro h; simp only [Addr.mk.injEq] at h; omega),hc]
  show _=some (Value.int kd (if i=j then x else f i))
  rw [if_neg e]
structure Z8 (w:World) (v:Value) (m:Nat) (ra:Nat→Option Addr) (ln rc:Nat→Nat):Prop where
 outer:∃ a cap,v=.slice a m cap∧m≤1048576∧∀ i,i<m→∃ b off,a=some ⟨b,off,none⟩∧w.cell? ⟨b,off+i,none⟩=some (.slice (ra i) (ln i) (rc i))∧∀ j,j<m→¬ Ce (ra j) (ln j) b (off+i)
 free:∀ i,i<m→Ji w (Ce (ra i) (ln i))
 disj:∀ i j,i<m→j<m→i≠j→∀ b o,Ce (ra i) (ln i) b o→¬ Ce (ra j) (ln j) b o
 small:Cy ln m≤1099511627776
theorem Z8.keep {w w':World} {v:Value} {m:Nat} {ra:Nat→Option Addr} {ln rc:Nat→Nat} {R:Nat→Nat→Prop} (h:Z8 w v m ra ln rc) (hw:Wrote R w w') (hd:∀ b o,R b o→∃ i,i<m∧Ce (ra i) (ln i) b o):Z8 w' v m ra ln rc:=by
 obtain ⟨⟨a,cap,hv,hm,ho⟩,hf,hdj,hs⟩:=h;refine ⟨⟨a,cap,hv,hm,fun i hi=>?_⟩,fun i hi=>(hf i hi).keep hw,hdj,hs⟩;obtain ⟨b,off,ha,hc,hn⟩:=ho i hi;refine ⟨b,off,ha,?_,hn⟩;rw [hw.cell b (off+i) (block_lt_of_cell hc) (fun h=>by obtain ⟨j,hj,hF⟩:=hd _ _ h; exact hn j hj hF)];exact hc
structure Po (w:World) (v:Value) (m:Nat) (ra:Nat→Option Addr) (ln rc:Nat→Nat) (f:Nat→Nat→Int):Prop where
 outer:∃ a cap,v=.slice a m cap∧m≤9223372036854775807∧∀ i,i<m→∃ b off,a=some ⟨b,off,none⟩∧w.cell? ⟨b,off+i,none⟩=some (.slice (ra i) (ln i) (rc i))
 rows:∀ i,i<m→ln i≤9223372036854775807∧Bu .i64 w (ra i) (ln i) (f i)∧∀ j,j<ln i→(Lit.i (f i j)).wf=true
theorem Nz (ln:Nat→Nat) {i m:Nat} (h:i<m):ln i≤Cy ln m:=by
 have:=Tk ln (show i+1≤m from h);have e:Cy ln (i+1)=Cy ln i+ln i:=rfl
 omega
theorem Po.ints {w:World} {v:Value} {m:Nat} {ra:Nat→Option Addr} {ln rc:Nat→Nat} {f:Nat→Nat→Int} (h:Po w v m ra ln rc f) (hs:m+Cy ln m≤1048576):Ba .i64 w (fun b _=>b<w.heap.size) v m ln f:=by
 obtain ⟨⟨a,cap,hv,hm,ho⟩,hr⟩:=h;refine ⟨a,cap,hv,by omega,fun b o hF=>?_,fun i hi=>?_⟩
 ·obtain ⟨off,rfl,h1,h2⟩:=hF
  obtain ⟨b',off',e,hcell⟩:=ho (o-off) (by omega);simp only [Option.some.injEq,Addr.mk.injEq,and_true] at e;obtain ⟨rfl,rfl⟩:=e;exact block_lt_of_cell hcell
 ·obtain ⟨b,off,ha,hc⟩:=ho i hi
  exact ⟨b,off,_,ha,hc,ra i,rc i,rfl,by have:=Nz ln hi; omega,(hr i hi).2.1,fun b o h=>(hr i hi).2.1.lt h⟩
theorem Po.below {w w':World} {v:Value} {m:Nat} {ra:Nat→Option Addr} {ln rc:Nat→Nat} {f:Nat→Nat→Int} (h:Po w v m ra ln rc f) (hb:Below w.heap.size w w'):Po w' v m ra ln rc f:=by
 obtain ⟨⟨a,cap,hv,hm,ho⟩,hr⟩:=h;refine ⟨⟨a,cap,hv,hm,fun i hi=>?_⟩,fun i hi=>⟨(hr i hi).1,(hr i hi).2.1.keep (Ab hb Ak) (fun _ _ _ x=>x),(hr i hi).2.2⟩⟩;obtain ⟨b,off,ha,hc⟩:=ho i hi;exact ⟨b,off,ha,(hb.cell (p:=⟨b,off+i,none⟩) (block_lt_of_cell hc)).trans hc⟩
theorem Ge.keep {w w':World} {R:Nat→Nat→Prop} {b0 m:Nat} {ln:Nat→Nat} {f:Nat→Nat→Int} (h:Ge w b0 m ln f) (hw:Wrote R w w') (hd:∀ b o,b0≤b→b<b0+1+m→¬ R b o):Ge w' b0 m ln f :=
 ⟨h.outer.of_block (hw.block _ h.outer.lt (fun o=>hd _ o (by omega) (by omega))),fun i hi=>(h.inner i hi).of_block (hw.block _ (h.inner i hi).lt (fun o=>hd _ o (by omega) (by omega)))⟩
theorem Ge.rowOf {w:World} {b0 m:Nat} {ln:Nat→Nat} {f:Nat→Nat→Int} (h:Ge w b0 m ln f) (i:Nat) (hi:i<m):Bu .i64 w (some ⟨b0+1+i,0,none⟩) (ln i) (f i):=fun j hj =>
 ⟨b0+1+i,0,rfl,by rw [Nat.zero_add]; exact (h.inner i hi).cell hj⟩
theorem Ge.ints {w:World} {b0 m:Nat} {ln:Nat→Nat} {f:Nat→Nat→Int} (h:Ge w b0 m ln f) (hm:m+Cy ln m≤1048576):Ba .i64 w (fun b _=>b0≤b∧b<b0+1+m) (.slice (some ⟨b0,0,none⟩) m m) m ln f:=by
 refine ⟨_,_,rfl,by omega,fun b o hF=>?_,fun i hi=>⟨b0,0,_,rfl,by rw [Nat.zero_add]; exact h.outer.cell hi,_,_,rfl,by have:=Nz ln hi; omega,h.rowOf i hi,fun b o hF=>?_⟩⟩
 ·obtain ⟨off,e,_⟩:=hF
  simp only [Option.some.injEq,Addr.mk.injEq,and_true] at e
  omega
 ·obtain ⟨off,e,_⟩:=hF
  simp only [Option.some.injEq,Addr.mk.injEq,and_true] at e
  omega
theorem Ge.sep {w:World} {b0 m:Nat} {ln:Nat→Nat} {f:Nat→Nat→Int} (h:Ge w b0 m ln f) (hm:m+Cy ln m≤1048576):Z8 w (.slice (some ⟨b0,0,none⟩) m m) m (fun i=>some ⟨b0+1+i,0,none⟩) ln ln:=by
 refine ⟨⟨_,_,rfl,by omega,fun i hi=>⟨b0,0,rfl,by rw [Nat.zero_add]; exact h.outer.cell hi,fun j hj hF=>?_⟩⟩,fun i hi b o hF=>?_,fun i j hi hj hij b o hF hG=>?_,by omega⟩
 ·obtain ⟨off,e,_⟩:=hF
  simp only [Option.some.injEq,Addr.mk.injEq,and_true] at e
  omega
 ·obtain ⟨off,e,_⟩:=hF
  simp only [Option.some.injEq,Addr.mk.injEq,and_true] at e;obtain ⟨rfl,rfl⟩:=e;exact ⟨(h.inner i hi).lt,(h.inner i hi).frozen o⟩
 ·obtain ⟨off,e,_⟩:=hF
  obtain ⟨off',e',_⟩:=hG;simp only [Option.some.injEq,Addr.mk.injEq,and_true] at e e'
  omega
def By (x lo hi:Int):Bool:=decide (lo≤x) && decide (x≤hi)
theorem Co (x lo hi:Int):By x lo hi=true ↔ lo≤x∧x≤hi:=by simp [By]
theorem Bj {x lo hi:Int} (h:lo≤x∧x≤hi):By x lo hi=true:=(Co x lo hi).2 h
theorem Cf {x lo hi:Int} (h:¬ (lo≤x∧x≤hi)):By x lo hi=false:=by
 cases e:By x lo hi
 ·rfl
 ·exact absurd ((Co x lo hi).1 e) h
def Cz (n:Nat) (g:Nat→Int):Bool:=decide (n=256∧∀ j,j<n→By (g j) 0 255=true)
theorem Kj {n:Nat} {g:Nat→Int} (h:¬ n=256):Cz n g=false:=decide_eq_false (fun x=>h x.1)
theorem Pp {n j:Nat} {g:Nat→Int} (hj:j<256) (h:¬ (0≤g j∧g j≤255)):Cz n g=false:=decide_eq_false (fun x=>h ((Co _ _ _).1 (x.2 j (by omega))))
theorem Ri {n:Nat} {g:Nat→Int} (h:n=256) (h2:∀ j,j<256→0≤g j∧g j≤255):Cz n g=true:=decide_eq_true ⟨h,fun j hj=>Bj (h2 j (by omega))⟩
theorem Hb {n:Nat} {g:Nat→Int} (h:Cz n g=true):n=256∧∀ j,j<256→0≤g j∧g j≤255 :=
 have x:=of_decide_eq_true h
 ⟨x.1,fun j hj=>(Co _ _ _).1 (x.2 j (by omega))⟩
def E6 (m:Nat) (ln:Nat→Nat) (f:Nat→Nat→Int):Bool:=decide ((∀ i,i<m→Cz (ln i) (f i)=true)∧1≤m∧m≤8)
theorem Kk {m:Nat} {ln:Nat→Nat} {f:Nat→Nat→Int} {i:Nat} (hi:i<m) (h:Cz (ln i) (f i)=false):E6 m ln f=false:=decide_eq_false (fun x=>by have:=x.1 i hi; rw [h] at this; cases this)
theorem Tm {m:Nat} {ln:Nat→Nat} {f:Nat→Nat→Int} (h:∀ i,i<m→Cz (ln i) (f i)=true):E6 m ln f=By m 1 8:=by
 by_cases c:1≤m∧m≤8
 ·rw [Bj (by omega)]
  exact decide_eq_true ⟨h,c⟩
 ·rw [Cf (by omega)]
  exact decide_eq_false (fun x=>c x.2)
theorem Pq {k:Nat} {ln:Nat→Nat} {f:Nat→Nat→Int} (h:∀ i,i<k→Cz (ln i) (f i)=true) (hk:Cz (ln k) (f k)=true):∀ i,i<k+1→Cz (ln i) (f i)=true:=fun j hj=>by
 by_cases e:j=k
 ·rw [e]; exact hk
 ·exact h j (by omega)
theorem D8 (x lo hi:Int) (w:World):Calls Tryz.prog 33 #[.i x,.i lo,.i hi] w fun e w'=>e=.returned (.bool (By x lo hi))∧w'=w:=by
 by_cases h1:lo≤x
 ·by_cases h2:x≤hi
  ·have e:=Ac (Bj ⟨h1,h2⟩)
   go_enter Tryz.func33,Tryz.ntmps33
   go_wp2;go_ret;exact ⟨Am (Ad e).symm,rfl⟩
  ·have e:=Ac (Cf (x:=x) (lo:=lo) (hi:=hi) (by omega))
   go_enter Tryz.func33,Tryz.ntmps33
   go_wp2;go_ret;exact ⟨Am (Ad e).symm,rfl⟩
 ·have h1':decide (lo≤x)=false:=decide_eq_false h1
  have e:=Ac (Cf (x:=x) (lo:=lo) (hi:=hi) (by omega))
  go_enter Tryz.func33,Tryz.ntmps33
  go_wp2;go_ret;exact ⟨Am (Ad e).symm,rfl⟩
theorem Pr (w:World) (F:Nat→Nat→Prop) (v:Value) (m:Nat) (ln:Nat→Nat) (f:Nat→Nat→Int) (H:Ba .i64 w F v m ln f) :
  Calls Tryz.prog 71 #[.agg #[v]] w fun e w'=>e=.returned (.bool (E6 m ln f))∧Below w.heap.size w w':=by
 have L0:Below w.heap.size w (w.alloc (.cells #[v] 26)):=(Below.refl _ _).alloc (Nat.le_refl _) _;have H0:=H.keep (Ab L0 Ak) (fun _ _ _ x=>x);obtain ⟨a,cap,rfl,hm,-,hc⟩:=H0
 go_enter Tryz.func71,Tryz.ntmps71
 go_wp2
 go_loop [3] (fun i=>∃ q:Nat,q≤m∧i=.i q∧∀ i,i<q→Cz (ln i) (f i)=true) (fun i=>m-(intOf i).toNat)
 case atStart=>exact ⟨0,Nat.zero_le _,rfl,fun i hi=>absurd hi (Nat.not_lt_zero _)⟩
 case round =>
  obtain ⟨q,hq,rfl,hok⟩:=hrel;have HO:=Ac hok;clear hok
  by_cases hlt:q<m
  ·obtain ⟨b,off,u,rfl,hcell,a',cap',rfl,hn',hrow,-⟩:=hc q hlt
   have hlt':(q:Int)<(m:Int):=by omega
   by_cases hl:ln q=256
   ·have hl':((ln q:Int) != 256)=false:=by simp; omega
    have HL:=Ac hl
    have hl2:256≤ln q:=by omega
    clear hl;go_wp2
    go_loop [4] (fun j=>∃ r:Nat,r≤256∧j=.i r∧∀ i,i<r→0≤f q i∧f q i≤255) (fun i=>256-(intOf i).toNat)
    case atStart=>exact ⟨0,Nat.zero_le _,rfl,fun i hi=>absurd hi (Nat.not_lt_zero _)⟩
    case round =>
     obtain ⟨r,hr,rfl,hby⟩:=hrel;have HB:=Ac hby;clear hby
     by_cases hrt:r<256
     ·obtain ⟨b',off',rfl,hcell'⟩:=hrow r (by omega)
      have hrt':(r:Int)<256:=by omega
      have hrl:(r:Int)<(ln q:Int):=by omega
      by_cases hin:0≤f q r∧f q r≤255
      ·have hin':=Bj hin
       have HI:=Ac hin;clear hin;go_wp2_with fail;refine (D8 _ _ _ _).mono ?_;rintro e w1 ⟨rfl,rfl⟩;go_wp2
       go_round
       case rel =>
        refine ⟨r+1,by omega,by go_num,fun i hi=>?_⟩
        by_cases e:i=r
        ·rw [e]; exact Ad HI
        ·exact Ad HB i (by omega)
       case measure=>simp [intOf]; omega
      ·have hin':=Cf hin
       have HI:=Ac (Kk hlt (Pp (n:=ln q) hrt hin));clear hin;go_wp2_with fail;refine (D8 _ _ _ _).mono ?_;rintro e w1 ⟨rfl,rfl⟩;go_wp2;go_ret;exact ⟨Am (Ad HI).symm,L0⟩
     ·have hrt':¬ (r:Int)<256:=by omega
      go_wp2
      go_round
      case rel=>exact ⟨q+1,by omega,by go_num,Pq (Ad HO) (Ri (Ad HL) (fun j hj=>Ad HB j (by omega)))⟩
      case measure=>simp [intOf]; omega
   ·have hl':((ln q:Int) != 256)=true:=by simp; omega
    have HI:=Ac (Kk hlt (Kj (g:=f q) hl));clear hl;go_wp2;go_ret;exact ⟨Am (Ad HI).symm,L0⟩
  ·have hlt':¬ (q:Int)<(m:Int):=by omega
   have e:q=m:=by omega
   subst e;go_wp2_with fail;refine (D8 _ _ _ _).mono ?_;rintro e w1 ⟨rfl,rfl⟩;go_wp2;go_ret;exact ⟨Am (Tm (Ad HO)).symm,L0⟩
end Go.Proofs.YtjnjnppongdhgaaGreat
