import Derived.Test.YtfjieibndedngaaGreatY2
import Derived.Test.YtfjieibndedngaaGreatNA
namespace Go.Proofs.YtfjieibndedngaaGreat
set_option linter.unusedVariables false
set_option linter.unusedSimpArgs false
open Go.ChangeShapes Go.WideShapes Go.ChangeAt Go.RowKit
structure Qk where
 mf:Nat
 lf:Nat→Nat
 fr:Nat→Nat→Int
 ns:Nat
 sm:Nat→Int
 nq:Nat
 rd:Nat→Int
def Is (W:World) (D:Nat→Nat→Prop) (v:Value) (o:Qk):Prop:=Dp W D v o.mf o.lf o.fr o.ns o.sm o.nq o.rd
def obsBeg (a b:Qk):Bool:=begSS a.mf b.mf a.lf b.lf a.fr b.fr && (begI a.ns b.ns a.sm b.sm && begI a.nq b.nq a.rd b.rd)
def obsSame (a b:Qk):Bool:=Dg a.mf b.mf a.lf b.lf a.fr b.fr && (A8 a.ns b.ns a.sm b.sm && A8 a.nq b.nq a.rd b.rd)
theorem Kc (a b:Qk):(obsBeg a b && obsBeg b a)=obsSame a b:=by
 unfold obsBeg obsSame;rw [← Sb (f:=a.fr),← Pb (f:=a.sm),← Pb (f:=a.rd)];generalize begSS a.mf b.mf a.lf b.lf a.fr b.fr=x1;generalize begSS b.mf a.mf b.lf a.lf b.fr a.fr=x2;generalize begI a.ns b.ns a.sm b.sm=x3;generalize begI b.ns a.ns b.sm a.sm=x4;generalize begI a.nq b.nq a.rd b.rd=x5;generalize begI b.nq a.nq b.rd a.rd=x6
 revert x1 x2 x3 x4 x5 x6
 decide
theorem Bg.ints17 {W:World} {D:Nat→Prop} {u:Value} {n:Nat} {f:Nat→Int} (H:Bg W D u n f):Ints .i64 W (On D) u n f:=by
 obtain ⟨d,z,rfl,h⟩:=H;exact h.ints z
theorem Dp.below {W W':World} {D:Nat→Nat→Prop} {v:Value} {mf:Nat} {lf:Nat→Nat} {fr:Nat→Nat→Int} {ns:Nat} {sm:Nat→Int} {nq:Nat} {rd:Nat→Int} (H:Dp W D v mf lf fr ns sm nq rd) (L:Below W.heap.size W W'):Dp W' D v mf lf fr ns sm nq rd:=by
 obtain ⟨u5,u6,u7,rfl,h5,h6,h7⟩:=H;exact ⟨u5,u6,u7,rfl,h5.below L,h6.below L,h7.below L⟩
theorem Ea (w:World) (D E:Nat→Nat→Prop) (v u:Value) (a b:Qk) (H:Is w D v a) (K:Is w E u b) :
  Calls Tryz.prog 7 #[v,u] w fun e w'=>e=.returned (.bool (obsSame a b))∧Below w.heap.size w w':=by
 obtain ⟨u5,u6,u7,rfl,h5,h6,h7⟩:=H;obtain ⟨v5,v6,v7,rfl,k5,k6,k7⟩:=K;have L0:Below w.heap.size w ((w.alloc (.cells #[u5,u6,u7] 27)).alloc (.cells #[v5,v6,v7] 27)):=((Below.refl _ _).alloc (Nat.le_refl _) _).alloc (by simp) _;have B0:((w.alloc (.cells #[u5,u6,u7] 27)).alloc (.cells #[v5,v6,v7] 27)).heap[w.heap.size]?=some (.cells #[u5,u6,u7] 27 (0,0)):=A9 (Ak w #[u5,u6,u7] 27) _
 have B1:((w.alloc (.cells #[u5,u6,u7] 27)).alloc (.cells #[v5,v6,v7] 27)).heap[w.heap.size+1]?=some (.cells #[v5,v6,v7] 27 (0,0)):=by simpa using Ak (w.alloc (.cells #[u5,u6,u7] 27)) #[v5,v6,v7] 27
 replace h5:=Ad (h5.below L0).ints;replace h6:=Ad (h6.below L0).ints17;replace h7:=Ad (h7.below L0).ints17;replace k5:=Ad (k5.below L0).ints;replace k6:=Ad (k6.below L0).ints17;replace k7:=Ad (k7.below L0).ints17
 go_enter Tryz.func7,Tryz.ntmps7
 go_wp2_with fail;generalize (w.alloc (.cells #[u5,u6,u7] 27)).alloc (.cells #[v5,v6,v7] 27)=W0 at *;have c0:=Aj B0;have c1:=Aj B1;clear B0 B1;refine (Qj _ _ _ _ _ a.mf b.mf a.lf b.lf a.fr b.fr h5.out k5.out).mono ?_;rintro e W1 ⟨rfl,rfl⟩;clear h5 k5;cases q1:Dg a.mf b.mf a.lf b.lf a.fr b.fr
 ·have X1:=Ad q1
  clear q1;go_wp2;go_ret;exact ⟨by simp [obsSame,X1.out],L0⟩
 have X1:=Ad q1;clear q1;go_wp2_with fail;refine (Db _ _ _ _ _ a.ns b.ns a.sm b.sm h6.out k6.out).mono ?_;rintro e W2 ⟨rfl,rfl⟩;clear h6 k6;cases q2:A8 a.ns b.ns a.sm b.sm
 ·have X2:=Ad q2
  clear q2;go_wp2;go_ret;exact ⟨by simp [obsSame,X1.out,X2.out],L0⟩
 have X2:=Ad q2;clear q2;go_wp2_with fail;refine (Db _ _ _ _ _ a.nq b.nq a.rd b.rd h7.out k7.out).mono ?_;rintro e W3 ⟨rfl,rfl⟩;clear h7 k7;cases q3:A8 a.nq b.nq a.rd b.rd
 ·have X3:=Ad q3
  clear q3;go_wp2;go_ret;exact ⟨by simp [obsSame,X1.out,X2.out,X3.out],L0⟩
 have X3:=Ad q3;clear q3;go_wp2;go_ret;exact ⟨by simp [obsSame,X1.out,X2.out,X3.out],L0⟩
theorem Gz (w:World) (D E:Nat→Nat→Prop) (v u:Value) (a b:Qk) (H:Is w D v a) (K:Is w E u b) :
  Calls Tryz.prog 6 #[v,u] w fun e w'=>e=.returned (.bool (obsBeg a b))∧Below w.heap.size w w':=by
 obtain ⟨u5,u6,u7,rfl,h5,h6,h7⟩:=H;obtain ⟨v5,v6,v7,rfl,k5,k6,k7⟩:=K;have L0:Below w.heap.size w ((w.alloc (.cells #[u5,u6,u7] 27)).alloc (.cells #[v5,v6,v7] 27)):=((Below.refl _ _).alloc (Nat.le_refl _) _).alloc (by simp) _;have B0:((w.alloc (.cells #[u5,u6,u7] 27)).alloc (.cells #[v5,v6,v7] 27)).heap[w.heap.size]?=some (.cells #[u5,u6,u7] 27 (0,0)):=A9 (Ak w #[u5,u6,u7] 27) _
 have B1:((w.alloc (.cells #[u5,u6,u7] 27)).alloc (.cells #[v5,v6,v7] 27)).heap[w.heap.size+1]?=some (.cells #[v5,v6,v7] 27 (0,0)):=by simpa using Ak (w.alloc (.cells #[u5,u6,u7] 27)) #[v5,v6,v7] 27
 replace h5:=Ad (h5.below L0).ints;replace h6:=Ad (h6.below L0).ints17;replace h7:=Ad (h7.below L0).ints17;replace k5:=Ad (k5.below L0).ints;replace k6:=Ad (k6.below L0).ints17;replace k7:=Ad (k7.below L0).ints17
 go_enter Tryz.func6,Tryz.ntmps6
 go_wp2_with fail;generalize (w.alloc (.cells #[u5,u6,u7] 27)).alloc (.cells #[v5,v6,v7] 27)=W0 at *;have c0:=Aj B0;have c1:=Aj B1;clear B0 B1;refine (Ia _ _ _ _ _ a.mf b.mf a.lf b.lf a.fr b.fr h5.out k5.out).mono ?_;rintro e W1 ⟨rfl,rfl⟩;clear h5 k5;cases q1:begSS a.mf b.mf a.lf b.lf a.fr b.fr
 ·have X1:=Ad q1
  clear q1;go_wp2;go_ret;exact ⟨by simp [obsBeg,X1.out],L0⟩
 have X1:=Ad q1;clear q1;go_wp2_with fail;refine (He _ _ _ _ _ a.ns b.ns a.sm b.sm h6.out k6.out).mono ?_;rintro e W2 ⟨rfl,rfl⟩;clear h6 k6;cases q2:begI a.ns b.ns a.sm b.sm
 ·have X2:=Ad q2
  clear q2;go_wp2;go_ret;exact ⟨by simp [obsBeg,X1.out,X2.out],L0⟩
 have X2:=Ad q2;clear q2;go_wp2_with fail;refine (He _ _ _ _ _ a.nq b.nq a.rd b.rd h7.out k7.out).mono ?_;rintro e W3 ⟨rfl,rfl⟩;clear h7 k7;cases q3:begI a.nq b.nq a.rd b.rd
 ·have X3:=Ad q3
  clear q3;go_wp2;go_ret;exact ⟨by simp [obsBeg,X1.out,X2.out,X3.out],L0⟩
 have X3:=Ad q3;clear q3;go_wp2;go_ret;exact ⟨by simp [obsBeg,X1.out,X2.out,X3.out],L0⟩
theorem Fh (w:World) (D E:Nat→Nat→Prop) (v u:Value) (a b:Qk) (H:Is w D v a) (K:Is w E u b) :
  Calls Tryz.prog 8 #[v,u] w fun e w'=>e=.returned (.bool (obsBeg a b))∧Below w.heap.size w w':=by
 obtain ⟨u5,u6,u7,rfl,h5,h6,h7⟩:=H;obtain ⟨v5,v6,v7,rfl,k5,k6,k7⟩:=K;have L0:Below w.heap.size w ((w.alloc (.cells #[u5,u6,u7] 27)).alloc (.cells #[v5,v6,v7] 27)):=((Below.refl _ _).alloc (Nat.le_refl _) _).alloc (by simp) _;have B0:((w.alloc (.cells #[u5,u6,u7] 27)).alloc (.cells #[v5,v6,v7] 27)).heap[w.heap.size]?=some (.cells #[u5,u6,u7] 27 (0,0)):=A9 (Ak w #[u5,u6,u7] 27) _
 have B1:((w.alloc (.cells #[u5,u6,u7] 27)).alloc (.cells #[v5,v6,v7] 27)).heap[w.heap.size+1]?=some (.cells #[v5,v6,v7] 27 (0,0)):=by simpa using Ak (w.alloc (.cells #[u5,u6,u7] 27)) #[v5,v6,v7] 27
 replace h5:=(h5.below L0).ints;replace h6:=Ad (h6.below L0).ints17;replace h7:=Ad (h7.below L0).ints17;replace k5:=(k5.below L0).ints;replace k6:=Ad (k6.below L0).ints17;replace k7:=Ad (k7.below L0).ints17;obtain ⟨a5,c5,rfl,hm,-,hc⟩:=h5;obtain ⟨a5',c5',rfl,hm',-,hc'⟩:=k5;replace hc:=Ad hc;replace hc':=Ad hc'
 by_cases hl:b.mf<a.mf
 ·have hl':(b.mf:Int)<(a.mf:Int):=by omega
  go_enter Tryz.func8,Tryz.ntmps8
  go_wp2_with fail;go_wp2;go_ret;exact ⟨by simp [obsBeg,J9 hl],L0⟩
 have hl':¬ (b.mf:Int)<(a.mf:Int):=by omega
 go_enter Tryz.func8,Tryz.ntmps8
 go_wp2_with fail;generalize (w.alloc (.cells #[.slice a5 a.mf c5,u6,u7] 27)).alloc (.cells #[.slice a5' b.mf c5',v6,v7] 27)=W0 at *;have c0:=Aj B0;have c1:=Aj B1;clear B0 B1;refine (Hc _ _ _ _ _ a.ns b.ns a.sm b.sm h6.out k6.out).mono ?_;rintro e W1 ⟨rfl,d1,rfl⟩;clear h6 k6;cases q2:begI a.ns b.ns a.sm b.sm
 ·have X2:=Ad q2
  clear q2;go_wp2;go_ret;exact ⟨by simp [obsBeg,X2.out],below_drewN L0 d1⟩
 have X2:=Ad q2;clear q2;go_wp2_with fail;refine (Hc (W0.drewN d1) _ _ _ _ a.nq b.nq a.rd b.rd h7.out k7.out).mono ?_;rintro e W2 ⟨rfl,d2,rfl⟩;clear h7 k7;cases q3:begI a.nq b.nq a.rd b.rd
 ·have X3:=Ad q3
  clear q3;go_wp2;go_ret;exact ⟨by simp [obsBeg,X2.out,X3.out],by first | exact below_drewN L0 _ | exact below_drewN (below_drewN L0 d1) d2⟩
 have X3:=Ad q3;clear q3;obtain ⟨d3,hd3⟩:=Sg W0 d1 d2;rw [hd3];clear hd3;go_wp2
 go_loopw [5] (fun i wr=>∃ k:Nat,k≤a.mf∧i=.i k∧(∀ j,j<k→A8 (a.lf j) (b.lf j) (a.fr j) (b.fr j)=true)∧∃ d,wr=W0.drewN d) (fun i _=>a.mf-(intOf i).toNat)
 case atStart=>exact ⟨0,Nat.zero_le _,rfl,fun j hj=>absurd hj (Nat.not_lt_zero _),d3,rfl⟩
 case round =>
  obtain ⟨k,hk,rfl,heq,d,rfl⟩:=hrel;have HQ:=Ad heq;clear heq
  by_cases hlt:k<a.mf
  ·obtain ⟨b1,o1,x0,rfl,hcell,hx0⟩:=hc.out k hlt
   obtain ⟨b2,o2,y0,rfl,hcell',hy0⟩:=hc'.out k (by omega)
   have hlt':(k:Int)<(a.mf:Int):=by omega
   have hlt2:(k:Int)<(b.mf:Int):=by omega
   clear hc hc';have hx:=Ad hx0;have hy:=Ad hy0;clear hx0 hy0;cases hq:A8 (a.lf k) (b.lf k) (a.fr k) (b.fr k)
   ·go_wp2
    go_quiet ((go_at_call 21; exact Ky (Ey _ _ _ x0 y0 (a.lf k) (b.lf k) (a.fr k) (b.fr k) hx.out hy.out)))
    go_wp2;go_ret;exact ⟨by simp [obsBeg,Pd hlt hq],by obtain ⟨d9,h9⟩:=Sg W0 _ _; rw [h9]; exact below_drewN L0 _⟩
   ·have HK:=Ad hq
    go_wp2
    go_quiet ((go_at_call 21; exact Ky (Ey _ _ _ x0 y0 (a.lf k) (b.lf k) (a.fr k) (b.fr k) hx.out hy.out)))
    go_wp2;go_roundw
    case rel=>exact ⟨k+1,by omega,by go_num,Nj (Ab HQ) (Ab HK),_,rfl⟩
    case measure=>simp [intOf]; omega
  ·have hlt':¬ (k:Int)<(a.mf:Int):=by omega
   go_wp2;go_ret;exact ⟨by simp [obsBeg,Lu (show a.mf≤b.mf by omega) (fun i hi=>Ab HQ i (by omega)),X2.out,X3.out],below_drewN L0 d⟩
theorem Ix (w:World) (D E:Nat→Nat→Prop) (v u:Value) (a b:Qk) (H:Is w D v a) (K:Is w E u b) :
  Calls Tryz.prog 9 #[v,u] w fun e w'=>e=.returned (.bool (obsSame a b))∧Below w.heap.size w w':=by
 rw [← Kc];obtain ⟨u5,u6,u7,rfl,h5,h6,h7⟩:=H;obtain ⟨v5,v6,v7,rfl,k5,k6,k7⟩:=K;have L0:Below w.heap.size w ((w.alloc (.cells #[u5,u6,u7] 27)).alloc (.cells #[v5,v6,v7] 27)):=((Below.refl _ _).alloc (Nat.le_refl _) _).alloc (by simp) _;have B0:((w.alloc (.cells #[u5,u6,u7] 27)).alloc (.cells #[v5,v6,v7] 27)).heap[w.heap.size]?=some (.cells #[u5,u6,u7] 27 (0,0)):=A9 (Ak w #[u5,u6,u7] 27) _
 have B1:((w.alloc (.cells #[u5,u6,u7] 27)).alloc (.cells #[v5,v6,v7] 27)).heap[w.heap.size+1]?=some (.cells #[v5,v6,v7] 27 (0,0)):=by simpa using Ak (w.alloc (.cells #[u5,u6,u7] 27)) #[v5,v6,v7] 27
 have HH:=Ad (show Is w D (.agg #[u5,u6,u7]) a from ⟨_,_,_,rfl,h5,h6,h7⟩);have KK:=Ad (show Is w E (.agg #[v5,v6,v7]) b from ⟨_,_,_,rfl,k5,k6,k7⟩);clear h5 h6 h7 k5 k6 k7;replace HH:=Ad (HH.out.below L0);replace KK:=Ad (KK.out.below L0)
 go_enter Tryz.func9,Tryz.ntmps9
 go_wp2_with fail;generalize (w.alloc (.cells #[u5,u6,u7] 27)).alloc (.cells #[v5,v6,v7] 27)=W0 at *;refine (Fh _ _ _ _ _ a b HH.out KK.out).mono ?_;rintro e W1 ⟨rfl,L⟩;replace L0:=Ai L0 L;replace B0:=Ac B0 L (Af B0);replace B1:=Ac B1 L (Af B1);replace HH:=Ad (HH.out.below L);replace KK:=Ad (KK.out.below L);clear L;have c0:=Aj B0;have c1:=Aj B1;clear B0 B1;cases q1:obsBeg a b
 ·have X1:=Ad q1
  clear q1;go_wp2;go_ret;exact ⟨by simp [X1.out],L0⟩
 have X1:=Ad q1;clear q1;go_wp2_with fail;refine (Fh _ _ _ _ _ b a KK.out HH.out).mono ?_;rintro e W2 ⟨rfl,L⟩;replace L0:=Ai L0 L;go_wp2;go_ret;exact ⟨by simp [X1.out],L0⟩
end Go.Proofs.YtfjieibndedngaaGreat
