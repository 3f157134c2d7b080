import Derived.Test.YtfjieibndedngaaGreatH
namespace Go.Proofs.YtfjieibndedngaaGreat
open Go.ChangeShapes Go.WideShapes Go.ChangeAt Go.RowKit
structure Nk (w:World) (v:Value) (m:Nat) (ra:Nat→Option Addr) (ln rc:Nat→Nat) (f:Nat→Nat→Int):Prop where
 outer:∃ a cap,v=.slice a m cap∧m≤9223372036854775807∧∀ i,i<m→∃ b off,a=some ⟨b,off,none⟩∧w.cell? ⟨b,off+i,none⟩=some (.slice (ra i) (ln i) (rc i))
 rows:∀ i,i<m→ln i≤9223372036854775807∧Bv .i64 w (ra i) (ln i) (f i)∧∀ j,j<ln i→(Lit.i (f i j)).wf=true
theorem L8 (ln:Nat→Nat) {i m:Nat} (h:i<m):ln i≤Cv ln m:=by
 have:=Q5 ln (show i+1≤m from h);have e:Cv ln (i+1)=Cv ln i+ln i:=rfl
 omega
theorem Nk.ints {w:World} {v:Value} {m:Nat} {ra:Nat→Option Addr} {ln rc:Nat→Nat} {f:Nat→Nat→Int} (h:Nk w v m ra ln rc f) (hs:m+Cv ln m≤1048576):Bm .i64 w (fun b _=>b<w.heap.size) v m ln f:=by
 obtain ⟨⟨a,cap,hv,hm,ho⟩,hr⟩:=h;refine ⟨a,cap,hv,by omega,fun b o hF=>?_,fun i hi=>?_⟩
 ·obtain ⟨off,rfl,h1,h2⟩:=hF
  obtain ⟨b',off',e,hcell⟩:=ho (o-off) (by omega);simp only [Option.some.injEq,Addr.mk.injEq,and_true] at e;obtain ⟨rfl,rfl⟩:=e;exact block_lt_of_cell hcell
 ·obtain ⟨b,off,ha,hc⟩:=ho i hi
  exact ⟨b,off,_,ha,hc,ra i,rc i,rfl,by have:=L8 ln hi; omega,(hr i hi).2.1,fun b o h=>(hr i hi).2.1.lt h⟩
theorem Nk.below {w w':World} {v:Value} {m:Nat} {ra:Nat→Option Addr} {ln rc:Nat→Nat} {f:Nat→Nat→Int} (h:Nk w v m ra ln rc f) (hb:Below w.heap.size w w'):Nk w' v m ra ln rc f:=by
 obtain ⟨⟨a,cap,hv,hm,ho⟩,hr⟩:=h;refine ⟨⟨a,cap,hv,hm,fun i hi=>?_⟩,fun i hi=>⟨(hr i hi).1,(hr i hi).2.1.keep (Aa hb Ah) (fun _ _ _ x=>x),(hr i hi).2.2⟩⟩;obtain ⟨b,off,ha,hc⟩:=ho i hi;exact ⟨b,off,ha,(hb.cell (p:=⟨b,off+i,none⟩) (block_lt_of_cell hc)).trans hc⟩
theorem Fz.keep {w w':World} {R:Nat→Nat→Prop} {b0 m:Nat} {ln:Nat→Nat} {f:Nat→Nat→Int} (h:Fz w b0 m ln f) (hw:Wrote R w w') (hd:∀ b o,b0≤b→b<b0+1+m→¬ R b o):Fz w' b0 m ln f :=
 ⟨h.outer.of_block (hw.block _ h.outer.lt (fun o=>hd _ o (by omega) (by omega))),fun i hi=>(h.inner i hi).of_block (hw.block _ (h.inner i hi).lt (fun o=>hd _ o (by omega) (by omega)))⟩
theorem Fz.rowOf {w:World} {b0 m:Nat} {ln:Nat→Nat} {f:Nat→Nat→Int} (h:Fz w b0 m ln f) (i:Nat) (hi:i<m):Bv .i64 w (some ⟨b0+1+i,0,none⟩) (ln i) (f i):=fun j hj =>
 ⟨b0+1+i,0,rfl,by rw [Nat.zero_add]; exact (h.inner i hi).cell hj⟩
theorem Fz.ints {w:World} {b0 m:Nat} {ln:Nat→Nat} {f:Nat→Nat→Int} (h:Fz w b0 m ln f) (hm:m+Cv ln m≤1048576):Bm .i64 w (fun b _=>b0≤b∧b<b0+1+m) (.slice (some ⟨b0,0,none⟩) m m) m ln f:=by
 refine ⟨_,_,rfl,by omega,fun b o hF=>?_,fun i hi=>⟨b0,0,_,rfl,by rw [Nat.zero_add]; exact h.outer.cell hi,_,_,rfl,by have:=L8 ln hi; omega,h.rowOf i hi,fun b o hF=>?_⟩⟩
 ·obtain ⟨off,e,_⟩:=hF
  simp only [Option.some.injEq,Addr.mk.injEq,and_true] at e
  omega
 ·obtain ⟨off,e,_⟩:=hF
  simp only [Option.some.injEq,Addr.mk.injEq,and_true] at e
  omega
theorem Fz.sep {w:World} {b0 m:Nat} {ln:Nat→Nat} {f:Nat→Nat→Int} (h:Fz w b0 m ln f) (hm:m+Cv ln m≤1048576):Vw w (.slice (some ⟨b0,0,none⟩) m m) m (fun i=>some ⟨b0+1+i,0,none⟩) ln ln:=by
 refine ⟨⟨_,_,rfl,by omega,fun i hi=>⟨b0,0,rfl,by rw [Nat.zero_add]; exact h.outer.cell hi,fun j hj hF=>?_⟩⟩,fun i hi b o hF=>?_,fun i j hi hj hij b o hF hG=>?_,by omega⟩
 ·obtain ⟨off,e,_⟩:=hF
  simp only [Option.some.injEq,Addr.mk.injEq,and_true] at e
  omega
 ·obtain ⟨off,e,_⟩:=hF
  simp only [Option.some.injEq,Addr.mk.injEq,and_true] at e;obtain ⟨rfl,rfl⟩:=e;exact ⟨(h.inner i hi).lt,(h.inner i hi).frozen o⟩
 ·obtain ⟨off,e,_⟩:=hF
  obtain ⟨off',e',_⟩:=hG;simp only [Option.some.injEq,Addr.mk.injEq,and_true] at e e'
  omega
def Cw (x lo hi:Int):Bool:=decide (lo≤x) && decide (x≤hi)
theorem Cr (x lo hi:Int):Cw x lo hi=true ↔ lo≤x∧x≤hi:=by simp [Cw]
theorem Cf {x lo hi:Int} (h:lo≤x∧x≤hi):Cw x lo hi=true:=(Cr x lo hi).2 h
theorem Fb {x lo hi:Int} (h:¬ (lo≤x∧x≤hi)):Cw x lo hi=false:=by
 cases e:Cw x lo hi
 ·rfl
 ·exact absurd ((Cr x lo hi).1 e) h
def Ed (n:Nat) (g:Nat→Int):Bool:=decide (n=256∧∀ j,j<n→Cw (g j) 0 255=true)
theorem Pq {n:Nat} {g:Nat→Int} (h:¬ n=256):Ed n g=false:=decide_eq_false (fun x=>h x.1)
theorem Nl {n j:Nat} {g:Nat→Int} (hj:j<256) (h:¬ (0≤g j∧g j≤255)):Ed n g=false:=decide_eq_false (fun x=>h ((Cr _ _ _).1 (x.2 j (by omega))))
theorem Pr {n:Nat} {g:Nat→Int} (h:n=256) (h2:∀ j,j<256→0≤g j∧g j≤255):Ed n g=true:=decide_eq_true ⟨h,fun j hj=>Cf (h2 j (by omega))⟩
theorem K5 {n:Nat} {g:Nat→Int} (h:Ed n g=true):n=256∧∀ j,j<256→0≤g j∧g j≤255 :=
 have x:=of_decide_eq_true h
 ⟨x.1,fun j hj=>(Cr _ _ _).1 (x.2 j (by omega))⟩
def Gp (m:Nat) (ln:Nat→Nat) (f:Nat→Nat→Int):Bool:=decide ((∀ i,i<m→Ed (ln i) (f i)=true)∧1≤m∧m≤8)
theorem Nm {m:Nat} {ln:Nat→Nat} {f:Nat→Nat→Int} {i:Nat} (hi:i<m) (h:Ed (ln i) (f i)=false):Gp m ln f=false:=decide_eq_false (fun x=>by have:=x.1 i hi; rw [h] at this; cases this)
theorem Q6 {m:Nat} {ln:Nat→Nat} {f:Nat→Nat→Int} (h:∀ i,i<m→Ed (ln i) (f i)=true):Gp m ln f=Cw m 1 8:=by
 by_cases c:1≤m∧m≤8
 ·rw [Cf (by omega)]
  exact decide_eq_true ⟨h,c⟩
 ·rw [Fb (by omega)]
  exact decide_eq_false (fun x=>c x.2)
theorem Si {k:Nat} {ln:Nat→Nat} {f:Nat→Nat→Int} (h:∀ i,i<k→Ed (ln i) (f i)=true) (hk:Ed (ln k) (f k)=true):∀ i,i<k+1→Ed (ln i) (f i)=true:=fun j hj=>by
 by_cases e:j=k
 ·rw [e]; exact hk
 ·exact h j (by omega)
theorem Dy (x lo hi:Int) (w:World):Calls Tryz.prog 51 #[.i x,.i lo,.i hi] w fun e w'=>e=.returned (.bool (Cw x lo hi))∧w'=w:=by
 by_cases h1:lo≤x
 ·by_cases h2:x≤hi
  ·have e:=Ad (Cf ⟨h1,h2⟩)
   go_enter Tryz.func51,Tryz.ntmps51
   go_wp2;go_ret;exact ⟨Al (Ab e).symm,rfl⟩
  ·have e:=Ad (Fb (x:=x) (lo:=lo) (hi:=hi) (by omega))
   go_enter Tryz.func51,Tryz.ntmps51
   go_wp2;go_ret;exact ⟨Al (Ab e).symm,rfl⟩
 ·have h1':decide (lo≤x)=false:=decide_eq_false h1
  have e:=Ad (Fb (x:=x) (lo:=lo) (hi:=hi) (by omega))
  go_enter Tryz.func51,Tryz.ntmps51
  go_wp2;go_ret;exact ⟨Al (Ab e).symm,rfl⟩
theorem Nn (w:World) (F:Nat→Nat→Prop) (v:Value) (m:Nat) (ln:Nat→Nat) (f:Nat→Nat→Int) (H:Bm .i64 w F v m ln f) :
  Calls Tryz.prog 62 #[.agg #[v]] w fun e w'=>e=.returned (.bool (Gp m ln f))∧Below w.heap.size w w':=by
 have L0:Below w.heap.size w (w.alloc (.cells #[v] 32)):=(Below.refl _ _).alloc (Nat.le_refl _) _;have H0:=H.keep (Aa L0 Ah) (fun _ _ _ x=>x);obtain ⟨a,cap,rfl,hm,-,hc⟩:=H0
 go_enter Tryz.func62,Tryz.ntmps62
 go_wp2
 go_loop [3] (fun i=>∃ q:Nat,q≤m∧i=.i q∧∀ i,i<q→Ed (ln i) (f i)=true) (fun i=>m-(intOf i).toNat)
 case atStart=>exact ⟨0,Nat.zero_le _,rfl,fun i hi=>absurd hi (Nat.not_lt_zero _)⟩
 case round =>
  obtain ⟨q,hq,rfl,hok⟩:=hrel;have HO:=Ad hok;clear hok
  by_cases hlt:q<m
  ·obtain ⟨b,off,u,rfl,hcell,a',cap',rfl,hn',hrow,-⟩:=hc q hlt
   have hlt':(q:Int)<(m:Int):=by omega
   by_cases hl:ln q=256
   ·have hl':((ln q:Int) != 256)=false:=by simp; omega
    have HL:=Ad hl
    have hl2:256≤ln q:=by omega
    clear hl;go_wp2
    go_loop [4] (fun j=>∃ r:Nat,r≤256∧j=.i r∧∀ i,i<r→0≤f q i∧f q i≤255) (fun i=>256-(intOf i).toNat)
    case atStart=>exact ⟨0,Nat.zero_le _,rfl,fun i hi=>absurd hi (Nat.not_lt_zero _)⟩
    case round =>
     obtain ⟨r,hr,rfl,hby⟩:=hrel;have HB:=Ad hby;clear hby
     by_cases hrt:r<256
     ·obtain ⟨b',off',rfl,hcell'⟩:=hrow r (by omega)
      have hrt':(r:Int)<256:=by omega
      have hrl:(r:Int)<(ln q:Int):=by omega
      by_cases hin:0≤f q r∧f q r≤255
      ·have hin':=Cf hin
       have HI:=Ad hin;clear hin;go_wp2_with fail;refine (Dy _ _ _ _).mono ?_;rintro e w1 ⟨rfl,rfl⟩;go_wp2
       go_round
       case rel =>
        refine ⟨r+1,by omega,by go_num,fun i hi=>?_⟩
        by_cases e:i=r
        ·rw [e]; exact Ab HI
        ·exact Ab HB i (by omega)
       case measure=>simp [intOf]; omega
      ·have hin':=Fb hin
       have HI:=Ad (Nm hlt (Nl (n:=ln q) hrt hin));clear hin;go_wp2_with fail;refine (Dy _ _ _ _).mono ?_;rintro e w1 ⟨rfl,rfl⟩;go_wp2;go_ret;exact ⟨Al (Ab HI).symm,L0⟩
     ·have hrt':¬ (r:Int)<256:=by omega
      go_wp2
      go_round
      case rel=>exact ⟨q+1,by omega,by go_num,Si (Ab HO) (Pr (Ab HL) (fun j hj=>Ab HB j (by omega)))⟩
      case measure=>simp [intOf]; omega
   ·have hl':((ln q:Int) != 256)=true:=by simp; omega
    have HI:=Ad (Nm hlt (Pq (g:=f q) hl));clear hl;go_wp2;go_ret;exact ⟨Al (Ab HI).symm,L0⟩
  ·have hlt':¬ (q:Int)<(m:Int):=by omega
   have e:q=m:=by omega
   subst e;go_wp2_with fail;refine (Dy _ _ _ _).mono ?_;rintro e w1 ⟨rfl,rfl⟩;go_wp2;go_ret;exact ⟨Al (Q6 (Ab HO)).symm,L0⟩
end Go.Proofs.YtfjieibndedngaaGreat
