import Derived.Test.YtjnjnppongdhgaaGreatJ2
import Derived.Test.YtjnjnppongdhgaaGreatD5
namespace Go.Proofs.YtjnjnppongdhgaaGreat
set_option linter.unusedVariables false
set_option linter.unusedSimpArgs false
open Go.ChangeShapes Go.WideShapes Go.ChangeAt Go.RowKit
def U9 (n m:Nat) (f g:Nat→Int):Bool:=decide (n≤m∧∀ i,i<n→f i=g i)
theorem Yz {n m k:Nat} {f g:Nat→Int} (hk:k<n) (h:¬ f k=g k):U9 n m f g=false:=decide_eq_false (fun x=>h (x.2 k hk))
theorem Va {n m:Nat} {f g:Nat→Int} (h:m<n):U9 n m f g=false:=decide_eq_false (fun x=>by omega)
theorem Xp {n m:Nat} {f g:Nat→Int} (h:n≤m) (e:∀ i,i<n→f i=g i):U9 n m f g=true:=decide_eq_true ⟨h,e⟩
theorem Vb {n:Nat} {f g:Nat→Int}:U9 n n f g=Bs n n f g:=by
 unfold U9 Bs
 congr 1
 simp
def Nv (m n:Nat) (ln lg:Nat→Nat) (f g:Nat→Nat→Int):Bool:=decide (m≤n∧∀ i,i<m→Bs (ln i) (lg i) (f i) (g i)=true)
theorem Xq {m n k:Nat} {ln lg:Nat→Nat} {f g:Nat→Nat→Int} (hk:k<m) (h:Bs (ln k) (lg k) (f k) (g k)=false):Nv m n ln lg f g=false :=
 decide_eq_false (fun x=>by have:=x.2 k hk; rw [h] at this; cases this)
theorem Si {m n:Nat} {ln lg:Nat→Nat} {f g:Nat→Nat→Int} (h:n<m):Nv m n ln lg f g=false:=decide_eq_false (fun x=>by omega)
theorem Vd {m n:Nat} {ln lg:Nat→Nat} {f g:Nat→Nat→Int} (h:m≤n) (e:∀ i,i<m→Bs (ln i) (lg i) (f i) (g i)=true):Nv m n ln lg f g=true:=decide_eq_true ⟨h,e⟩
theorem Sj {m:Nat} {ln lg:Nat→Nat} {f g:Nat→Nat→Int}:Nv m m ln lg f g=Fw m m ln lg f g:=by
 unfold Nv Fw
 congr 1
 simp
theorem G9 (w:World) (x y:Int):Calls Tryz.prog 108 #[.i x,.i y] w fun e w'=>e=.returned (.bool (x==y))∧w'=w:=by
 go_enter Tryz.func108,Tryz.ntmps108
 go_wp2;go_ret;exact ⟨rfl,rfl⟩
theorem Sk (w:World) (F G:Nat→Nat→Prop) (v u:Value) (n m:Nat) (f g:Nat→Int) (H:Ints .i64 w F v n f) (H':Ints .i64 w G u m g) :
  Calls Tryz.prog 130 #[v,u,.func (.func 108) #[] #[]] w fun e w'=>e=.returned (.bool (U9 n m f g))∧w'=w:=by
 obtain ⟨a,cap,rfl,hn,hc,-⟩:=H;obtain ⟨a',cap',rfl,hn',hc',-⟩:=H'
 by_cases hnm:m<n
 ·have h1:(m:Int)<(n:Int):=by omega
  go_enter Tryz.func130,Tryz.ntmps130
  go_wp2;go_ret;exact ⟨Am (Va hnm).symm,rfl⟩
 have h1:¬ (m:Int)<(n:Int):=by omega
 go_enter Tryz.func130,Tryz.ntmps130
 go_wp2
 go_loopw [7,8,16] (fun x y i wr=>∃ k:Nat,k≤n∧i=.i k∧(∀ j,j<k→f j=g j)∧wr=w) (fun _ _ i _=>n-(intOf i).toNat)
 case atStart=>exact ⟨0,Nat.zero_le _,rfl,fun j hj=>absurd hj (Nat.not_lt_zero _),rfl⟩
 case round =>
  obtain ⟨k,hk,rfl,heq,rfl⟩:=hrel;have HQ:=Ac heq;clear heq
  by_cases hlt:k<n
  ·have hlt1:(k:Int)<(n:Int):=by omega
   obtain ⟨b,off,rfl,hcell⟩:=hc k hlt;obtain ⟨b',off',rfl,hcell'⟩:=hc' k (by omega)
   by_cases hq:f k=g k
   ·have hq':(f k==g k)=true:=by simpa using hq
    have HK:=Ac hq;clear hq;go_wp2_with fail;refine (G9 _ (f k) (g k)).mono ?_;rintro e W ⟨rfl,rfl⟩;go_wp2;go_roundw
    case rel=>exact ⟨k+1,by omega,by go_num,Xs (Ad HQ) (Ad HK),trivial⟩
    case measure=>simp [intOf]; omega
   ·have hq':(f k==g k)=false:=by simpa using hq
    go_wp2_with fail;refine (G9 _ (f k) (g k)).mono ?_;rintro e W ⟨rfl,rfl⟩;go_wp2;go_ret;exact ⟨Am (Yz hlt hq).symm,rfl⟩
  ·have hlt1:¬ (k:Int)<(n:Int):=by omega
   go_wp2;go_ret;exact ⟨Am (Xp (by omega) (fun i hi=>Ad HQ i (by omega))).symm,rfl⟩
theorem Sl (w:World) (F G:Nat→Nat→Prop) (v u:Value) (n m:Nat) (f g:Nat→Int) (H:Ints .i64 w F v n f) (H':Ints .i64 w G u m g) :
  Calls Tryz.prog 107 #[v,u,.func (.func 108) #[] #[]] w fun e w'=>e=.returned (.bool (Bs n m f g))∧w'=w:=by
 obtain ⟨a,cap,hv,hn,-⟩:=id H;obtain ⟨a',cap',hu,hn',-⟩:=id H';subst hv hu
 by_cases e:n=m
 ·subst e
  have hne:((n:Int)==(n:Int))=true:=by simp
  go_enter Tryz.func107,Tryz.ntmps107
  go_wp2_with fail;refine (Sk _ F G _ _ n n f g H H').mono ?_;rintro e W ⟨rfl,rfl⟩;rw [Vb];go_wp2;go_ret;exact ⟨rfl,rfl⟩
 ·have hne:((n:Int)==(m:Int))=false:=by simp; omega
  go_enter Tryz.func107,Tryz.ntmps107
  go_wp2;go_ret;exact ⟨Am (Tl e).symm,rfl⟩
theorem Df (w:World) (F G:Nat→Nat→Prop) (v u:Value) (n m:Nat) (f g:Nat→Int) (H:Ints .i64 w F v n f) (H':Ints .i64 w G u m g) :
  Calls Tryz.prog 68 #[v,u] w fun e w'=>e=.returned (.bool (Bs n m f g))∧w'=w:=by
 go_enter Tryz.func68,Tryz.ntmps68
 go_wp2_with fail;refine (Sl _ F G _ _ n m f g H H').mono ?_;rintro e W ⟨rfl,rfl⟩;go_wp2;go_ret;exact ⟨rfl,rfl⟩
theorem Ph (w:World) (F G:Nat→Nat→Prop) (v u:Value) (m n:Nat) (ln lg:Nat→Nat) (f g:Nat→Nat→Int) (H:Ba .i64 w F v m ln f) (H':Ba .i64 w G u n lg g) :
  Calls Tryz.prog 109 #[v,u,.func (.func 68) #[] #[]] w fun e w'=>e=.returned (.bool (Nv m n ln lg f g))∧w'=w:=by
 obtain ⟨a,cap,rfl,hn,-,hc⟩:=H;obtain ⟨a',cap',rfl,hn',-,hc'⟩:=H'
 by_cases hnm:n<m
 ·have h1:(n:Int)<(m:Int):=by omega
  go_enter Tryz.func109,Tryz.ntmps109
  go_wp2;go_ret;exact ⟨Am (Si hnm).symm,rfl⟩
 have h1:¬ (n:Int)<(m:Int):=by omega
 go_enter Tryz.func109,Tryz.ntmps109
 go_wp2
 go_loopw [7,8,16] (fun x y i wr=>∃ k:Nat,k≤m∧i=.i k∧(∀ j,j<k→Bs (ln j) (lg j) (f j) (g j)=true)∧wr=w) (fun _ _ i _=>m-(intOf i).toNat)
 case atStart=>exact ⟨0,Nat.zero_le _,rfl,fun j hj=>absurd hj (Nat.not_lt_zero _),rfl⟩
 case round =>
  obtain ⟨k,hk,rfl,heq,rfl⟩:=hrel;have HQ:=Ac heq;clear heq
  by_cases hlt:k<m
  ·have hlt1:(k:Int)<(m:Int):=by omega
   obtain ⟨b,off,x0,rfl,hcell,hx0⟩:=hc k hlt;obtain ⟨b',off',y0,rfl,hcell',hy0⟩:=hc' k (by omega);have HC:=Ac (Df wr F G x0 y0 (ln k) (lg k) (f k) (g k) hx0 hy0);clear hc hc' hx0 hy0;cases hq:Bs (ln k) (lg k) (f k) (g k)
   ·rw [hq] at HC
    go_wp2_with fail;refine HC.out.mono ?_;rintro e W ⟨rfl,rfl⟩;go_wp2;go_ret;exact ⟨Am (Xq hlt hq).symm,rfl⟩
   ·rw [hq] at HC
    have HK:=Ac hq;clear hq;go_wp2_with fail;refine HC.out.mono ?_;rintro e W ⟨rfl,rfl⟩;go_wp2;go_roundw
    case rel=>exact ⟨k+1,by omega,by go_num,Vk (Ad HQ) (Ad HK),trivial⟩
    case measure=>simp [intOf]; omega
  ·have hlt1:¬ (k:Int)<(m:Int):=by omega
   go_wp2;go_ret;exact ⟨Am (Vd (by omega) (fun i hi=>Ad HQ i (by omega))).symm,rfl⟩
theorem Sm (w:World) (F G:Nat→Nat→Prop) (v u:Value) (m n:Nat) (ln lg:Nat→Nat) (f g:Nat→Nat→Int) (H:Ba .i64 w F v m ln f) (H':Ba .i64 w G u n lg g) :
  Calls Tryz.prog 69 #[v,u,.func (.func 68) #[] #[]] w fun e w'=>e=.returned (.bool (Fw m n ln lg f g))∧w'=w:=by
 obtain ⟨a,cap,hv,hn,-⟩:=id H;obtain ⟨a',cap',hu,hn',-⟩:=id H';subst hv hu
 by_cases e:m=n
 ·subst e
  have hne:((m:Int)==(m:Int))=true:=by simp
  go_enter Tryz.func69,Tryz.ntmps69
  go_wp2_with fail;refine (Ph _ F G _ _ m m ln lg f g H H').mono ?_;rintro e W ⟨rfl,rfl⟩;rw [Sj];go_wp2;go_ret;exact ⟨rfl,rfl⟩
 ·have hne:((m:Int)==(n:Int))=false:=by simp; omega
  go_enter Tryz.func69,Tryz.ntmps69
  go_wp2;go_ret;exact ⟨Am (Rf e).symm,rfl⟩
theorem Cr.lower {w:World} {lo lo':Nat} {v:Value} {m:Nat} {ra:Nat→Option Addr} {ln rc:Nat→Nat} {f:Nat→Nat→Int} (h:Cr w lo v m ra ln rc f) (hl:lo'≤lo):Cr w lo' v m ra ln rc f :=
 ⟨h.sep,h.rows,fun i hi b o hF=>Nat.le_trans hl (h.inner i hi b o hF),fun a cap e b o hF=>Nat.le_trans hl (h.outer a cap e b o hF),h.len⟩
theorem Cr.set_low {w:World} {lo b:Nat} {v x:Value} {m:Nat} {ra:Nat→Option Addr} {ln rc:Nat→Nat} {f:Nat→Nat→Int} (h:Cr w (b+1) v m ra ln rc f) (hb:lo≤b):Cr (w.setCell ⟨b,0,none⟩ x) lo v m ra ln rc f :=
 by
 have W:Wrote (fun k _=>k=b) w (w.setCell ⟨b,0,none⟩ x):=Wrote.setCell (R:=fun k _=>k=b) (b:=b) (o:=0) (Wrote.refl _ w) (fun _=>rfl) x;exact (h.keep W (fun k o e=>by omega)).lower (by omega)
set_option linter.unusedVariables false
section
variable {P:Program} {ops:Array Oper} {Q:Exit→Act→World→Prop}
def Ip (ops:Array Oper):Nat→Nat→Nat→Bool
 | 0,_,_=>false
 | n+1,j,i=>match ops[j]? with
  | none=>false
  | some o=>A1 o i || (List.range ops.size).any fun k=>A1 o k && Ip ops n k i
theorem Gt {l:Array Bool} (hcl:∀ (k:Nat) (o:Oper),l[k]?=some true→ops[k]?=some o→∀ j:Nat,A1 o j=true→l[j]?=some true):∀ (n j i:Nat),l[j]?=some true→Ip ops n j i=true→l[i]?=some true
 | 0,_,_,_,h=>by cases h
 | n+1,j,i,hj,h=>by
  unfold Ip at h
  cases ho:ops[j]? with
  | none=>rw [ho] at h; cases h
  | some o =>
   rw [ho] at h;simp only [Bool.or_eq_true,List.any_eq_true,Bool.and_eq_true] at h
   rcases h with h | ⟨k,-,h1,h2⟩
   ·exact hcl j o hj ho i h
   ·exact Gt hcl n k i (hcl j o hj ho k h1) h2
end
set_option linter.unusedSimpArgs false
structure ObD where
 mf:Nat
 lf:Nat→Nat
 fr:Nat→Nat→Int
 ns:Nat
 sm:Nat→Int
 nq:Nat
 rd:Nat→Int
def Y6 (W:World) (D:Nat→Nat→Prop) (v:Value) (o:ObD):Prop:=Ex W D v o.mf o.lf o.fr o.ns o.sm o.nq o.rd
def Fc (a b:ObD):Bool:=Fw a.mf b.mf a.lf b.lf a.fr b.fr && (Bs a.ns b.ns a.sm b.sm && Bs a.nq b.nq a.rd b.rd)
theorem Bl.ints17 {W:World} {D:Nat→Prop} {u:Value} {n:Nat} {f:Nat→Int} (H:Bl W D u n f):Ints .i64 W (On D) u n f:=by
 obtain ⟨d,z,rfl,h⟩:=H;exact h.ints z
theorem Ex.below {W W':World} {D:Nat→Nat→Prop} {v:Value} {mf:Nat} {lf:Nat→Nat} {fr:Nat→Nat→Int} {ns:Nat} {sm:Nat→Int} {nq:Nat} {rd:Nat→Int} (H:Ex W D v mf lf fr ns sm nq rd) (L:Below W.heap.size W W'):Ex W' D v mf lf fr ns sm nq rd:=by
 obtain ⟨u5,u6,u7,rfl,h5,h6,h7⟩:=H;exact ⟨u5,u6,u7,rfl,h5.below L,h6.below L,h7.below L⟩
theorem Q7 (w:World) (D E:Nat→Nat→Prop) (v u:Value) (a b:ObD) (H:Y6 w D v a) (K:Y6 w E u b) :
  Calls Tryz.prog 24 #[v,u] w fun e w'=>e=.returned (.bool (Fc a b))∧Below w.heap.size w w':=by
 obtain ⟨u5,u6,u7,rfl,h5,h6,h7⟩:=H;obtain ⟨v5,v6,v7,rfl,k5,k6,k7⟩:=K;have L0:Below w.heap.size w ((w.alloc (.cells #[u5,u6,u7] 39)).alloc (.cells #[v5,v6,v7] 39)):=((Below.refl _ _).alloc (Nat.le_refl _) _).alloc (by simp) _;have B0:((w.alloc (.cells #[u5,u6,u7] 39)).alloc (.cells #[v5,v6,v7] 39)).heap[w.heap.size]?=some (.cells #[u5,u6,u7] 39 (0,0)):=A4 (Al w #[u5,u6,u7] 39) _
 have B1:((w.alloc (.cells #[u5,u6,u7] 39)).alloc (.cells #[v5,v6,v7] 39)).heap[w.heap.size+1]?=some (.cells #[v5,v6,v7] 39 (0,0)):=by simpa using Al (w.alloc (.cells #[u5,u6,u7] 39)) #[v5,v6,v7] 39
 replace h5:=Ac (h5.below L0).ints;replace h6:=Ac (h6.below L0).ints17;replace h7:=Ac (h7.below L0).ints17;replace k5:=Ac (k5.below L0).ints;replace k6:=Ac (k6.below L0).ints17;replace k7:=Ac (k7.below L0).ints17
 go_enter Tryz.func24,Tryz.ntmps24
 go_wp2_with fail;generalize (w.alloc (.cells #[u5,u6,u7] 39)).alloc (.cells #[v5,v6,v7] 39)=W0 at *;have c0:=Aj B0;have c1:=Aj B1;clear B0 B1;refine (Sm _ _ _ _ _ a.mf b.mf a.lf b.lf a.fr b.fr h5.out k5.out).mono ?_;rintro e W1 ⟨rfl,rfl⟩;clear h5 k5;cases q1:Fw a.mf b.mf a.lf b.lf a.fr b.fr
 ·have X1:=Ac q1
  clear q1;go_wp2;go_ret;exact ⟨by simp [Fc,X1.out],L0⟩
 have X1:=Ac q1;clear q1;go_wp2_with fail;refine (Df _ _ _ _ _ a.ns b.ns a.sm b.sm h6.out k6.out).mono ?_;rintro e W2 ⟨rfl,rfl⟩;clear h6 k6;cases q2:Bs a.ns b.ns a.sm b.sm
 ·have X2:=Ac q2
  clear q2;go_wp2;go_ret;exact ⟨by simp [Fc,X1.out,X2.out],L0⟩
 have X2:=Ac q2;clear q2;go_wp2_with fail;refine (Df _ _ _ _ _ a.nq b.nq a.rd b.rd h7.out k7.out).mono ?_;rintro e W3 ⟨rfl,rfl⟩;clear h7 k7;cases q3:Bs a.nq b.nq a.rd b.rd
 ·have X3:=Ac q3
  clear q3;go_wp2;go_ret;exact ⟨by simp [Fc,X1.out,X2.out,X3.out],L0⟩
 have X3:=Ac q3;clear q3;go_wp2;go_ret;exact ⟨by simp [Fc,X1.out,X2.out,X3.out],L0⟩
set_option maxRecDepth 20000
def dg (n:Nat):List UInt8:=if _h:n=0 then [] else dg (n/10)++[UInt8.ofNat (48+n%10)]
decreasing_by exact Nat.div_lt_self (Nat.pos_of_ne_zero _h) (by decide)
def chr (k:Nat):UInt8:=UInt8.ofNat (48+k%10)
theorem Y8 (k:Nat):UInt8.ofNat (48+(k:Int)%10).toNat=chr k:=by
 have e:(48+(k:Int)%10).toNat=48+k%10:=by omega
 rw [e]
 rfl
def Pu (n:Nat):List UInt8:=if n=0 then [48] else dg n
theorem Sp {n:Nat} (h:0<n):dg n=dg (n/10)++[chr n]:=by
 rw [dg,dif_neg (by omega)]
 rfl
theorem N6:dg 0=[]:=by rw [dg,dif_pos rfl]
theorem Y9 (d n:Nat) (h:n<10 ^ d):(dg n).length≤d:=by
 induction d generalizing n with
 | zero =>
  have e:n=0:=by simp at h; exact h
  subst e;rw [N6]
  simp
 | succ d ih =>
  by_cases e:n=0
  ·subst e; rw [N6]; simp
  ·rw [Sp (by omega),List.length_append]
   have:=ih (n/10) (by rw [Nat.pow_succ] at h; omega)
   simp
   omega
theorem Jaa (W:World) (g:Nat) (x:Int) (h:W.cell? ⟨g,0,none⟩=some (.int .u8 x)) :
  (convert 22 9 (.slice (some ⟨g,0,none⟩) 1 1)).run Tryz.prog W=.ok (.string ⟨#[UInt8.ofNat x.toNat]⟩) W:=by
 rw [run_convert_bytes_string W 22 9 5 _ _ _ Tryz.underlying22 Tryz.underlying5 Tryz.underlying9]
 have hl:=run_loadCells_list (P:=Tryz.prog) W ⟨g,0,none⟩ [.int .u8 x] (fun j v hj=>by
  match j,hj with
  | 0,hj=>cases hj; simpa [Addr.add] using h
  | k+1,hj=>simp at hj)
 rw [run_bytesToString W ⟨g,0,none⟩ 1 1 [x] hl]
 rfl
theorem Vt (w:World) (n:Nat) (hn:n≤9223372036854775807):Calls Tryz.prog 155 #[.i n] w fun e w'=>(∃ s:ByteArray,e=.returned (.string s)∧s.toList=Pu n)∧Below w.heap.size w w':=by
 by_cases h0:n=0
 ·subst h0
  go_enter Tryz.func155,Tryz.ntmps155
  go_wp2;go_ret;exact ⟨⟨_,rfl,by simp [Pu,ByteArray.toList_eq]⟩,Below.refl _ _⟩
 ·have h0':((n:Int)==0)=false:=by simp; omega
  have hd:Pu n=dg n:=by unfold Pu; rw [if_neg h0]
  rw [hd]
  go_enter Tryz.func155,Tryz.ntmps155
  go_wp2
  go_loopw [0,3] (fun x o wr=>∃ (k:Nat) (s:ByteArray),x=.i k∧o=.string s∧dg n=dg k++s.data.toList∧Hid (k≤9223372036854775807)∧Below w.heap.size w wr) (fun x _ _=>(intOf x).toNat)
  case atStart=>exact ⟨n,_,rfl,rfl,by simp,hn,Below.refl _ _⟩
  case round =>
   obtain ⟨k,s,rfl,rfl,hdg,hk,hbel⟩:=hrel;have HD:=Ac hdg;clear hdg
   by_cases hk0:0<k
   ·have hk0':(0:Int)<(k:Int):=by omega
    have hkk:=hk.out;have hcv:=Jaa (wr.alloc (.cells #[.int .u8 (48+(k:Int)%10)] 5)) wr.heap.size (48+(k:Int)%10) (by go_simp);rw [Y8] at hcv
    have hd0:0≤(k:Int)%10:=by omega
    have hd9:(k:Int)%10≤9:=by omega
    have hss:s.size≤19:=by
     have h1:=congrArg List.length (Ad HD);have h2:=Y9 19 n (by omega);rw [List.length_append] at h1;have h3:s.data.toList.length=s.size:=rfl
     omega
    have HD2:Hid (dg n=dg (k/10)++((⟨#[chr k]⟩:ByteArray)++s).data.toList):=by
     show _=_
     rw [Ad HD,Sp hk0,List.append_assoc]
     congr 1
    generalize chr k=ch at *;go_wp2;go_roundw
    case rel=>exact ⟨k/10,_,by go_num,rfl,Ad HD2,by show _≤_; omega,hbel.alloc hbel.size _⟩
    case measure=>simp [intOf]; omega
   ·have hk0':¬ (0:Int)<(k:Int):=by omega
    have e:k=0:=by omega
    subst e;go_wp2;go_ret;exact ⟨⟨_,rfl,by rw [ByteArray.toList_eq,Ad HD,N6]; rfl⟩,hbel⟩
def E9 (c:UInt8):Bool:=decide (48≤c.toNat) && decide (c.toNat≤57)
def Ij (l:List UInt8):Nat:=l.foldl (fun x c=>10*x+(c.toNat-48)) 0
theorem Ts (l:List UInt8) (c:UInt8):Ij (l++[c])=10*Ij l+(c.toNat-48):=by simp [Ij]
def pv (l:List UInt8) (q:Nat):Nat:=Ij (l.take q)
theorem Sq (l:List UInt8) (q:Nat) (h:q<l.length):pv l (q+1)=10*pv l q+((l[q]'h).toNat-48):=by
 unfold pv;rw [List.take_succ_eq_append_getElem h,Ts]
theorem Y2 (l:List UInt8) (q:Nat) (h:∀ j (_:j<q) (hl:j<l.length),E9 (l[j]'hl)=true):pv l q<10 ^ q:=by
 induction q with
 | zero=>simp [pv,Ij]
 | succ q ih =>
  have h1:=ih (fun j hj hl=>h j (by omega) hl)
  by_cases hq:q<l.length
  ·rw [Sq l q hq,Nat.pow_succ]
   have h2:=h q (by omega) hq
   simp [E9] at h2
   omega
  ·have e:pv l (q+1)=pv l q:=by
    unfold pv;rw [List.take_of_length_le (by omega),List.take_of_length_le (by omega)]
   rw [e,Nat.pow_succ]
   omega
theorem Vu (l:List UInt8):pv l l.length=Ij l:=by unfold pv; rw [List.take_length]
theorem Xw {l:List UInt8} (h:∀ j (hl:j<l.length),E9 (l[j]'hl)=true):l.all E9=true:=by
 rw [List.all_eq_true];intro x hx;obtain ⟨j,hj,rfl⟩:=List.mem_iff_getElem.1 hx;exact h j hj
theorem Xx {l:List UInt8} {j:Nat} (hl:j<l.length) (h:E9 (l[j]'hl)=false):l.all E9=false:=by
 rw [List.all_eq_false];exact ⟨_,List.getElem_mem hl,by simp [h]⟩
def numOf (s:ByteArray):Int:=if s.size=0∨5<s.size then -1 else if s.data.toList.all E9=false then -1 else if Pu (Ij s.data.toList)=s.data.toList then Ij s.data.toList else -1
theorem Jab (w:World) (s:ByteArray) (hs:s.size≤1048576):Calls Tryz.prog 146 #[.string s] w fun e w'=>e=.returned (.i (numOf s))∧Below w.heap.size w w':=by
 by_cases h0:s.size=0
 ·have HN:Hid (numOf s=-1):=by show _=_; unfold numOf; rw [if_pos (Or.inl h0)]
  have e:s=ByteArray.empty:=by
   apply ByteArray.ext
   exact Array.eq_empty_of_size_eq_zero h0
  subst e
  go_enter Tryz.func146,Tryz.ntmps146
  go_wp2;go_ret;exact ⟨A7 HN.out.symm,Below.refl _ _⟩
 ·have h0':(s.toList==[])=false:=by
   rw [ByteArray.toList_eq];simp only [beq_eq_false_iff_ne,ne_eq,Array.toList_eq_nil_iff];intro e
   apply h0
   show s.data.size=0
   rw [e]
   rfl
  by_cases h5:5<s.size
  ·have HN:Hid (numOf s=-1):=by show _=_; unfold numOf; rw [if_pos (Or.inr h5)]
   have h5':(5:Int)<(s.size:Int):=by omega
   go_enter Tryz.func146,Tryz.ntmps146
   go_wp2;go_ret;exact ⟨A7 HN.out.symm,Below.refl _ _⟩
  ·have h5':decide ((5:Int)<(s.size:Int))=false:=decide_eq_false (by omega)
   go_enter Tryz.func146,Tryz.ntmps146
   go_wp2
   go_loop [3,4] (fun x i=>∃ q:Nat,q≤s.size∧i=.i q∧x=.i (pv s.data.toList q)∧∀ j (_:j<q) (hl:j<s.data.toList.length),E9 (s.data.toList[j]'hl)=true) (fun _ i=>s.size-(intOf i).toNat)
   case atStart=>exact ⟨0,Nat.zero_le _,rfl,rfl,fun j hj=>absurd hj (Nat.not_lt_zero _)⟩
   case round =>
    obtain ⟨q,hq,rfl,rfl,hdg⟩:=hrel;have hpv:=Y2 s.data.toList q hdg;have hp5:pv s.data.toList q<100000:=Nat.lt_of_lt_of_le hpv (Nat.pow_le_pow_right (by omega) (show q≤5 by omega));have HD:=Ac hdg;clear hdg hpv
    by_cases hlt:q<s.size
    ·have hlt':(q:Int)<(s.size:Int):=by omega
     have hll:q<s.data.toList.length:=by simpa using hlt
     have hps:=Ac (Sq s.data.toList q hll)
     have hce:(s.data.toList[q]'hll).toNat=(s[q]'hlt).toNat:=by simp; rfl
     cases hd:E9 (s.data.toList[q]'hll)
     ·have HN:Hid (numOf s=-1):=by
       show _=_
       unfold numOf;rw [if_neg (by omega),if_pos (Xx hll hd)]
      unfold E9 at hd;rw [hce] at hd
      by_cases h48:(((s[q]'hlt).toNat:Nat):Int)<48
      ·clear hd hce
       go_wp2;go_ret;exact ⟨A7 HN.out.symm,Below.refl _ _⟩
      ·have h57:(57:Int)<(((s[q]'hlt).toNat:Nat):Int):=by
        simp only [Bool.and_eq_false_iff,decide_eq_false_iff_not] at hd
        omega
       clear hd hce;go_wp2;go_ret;exact ⟨A7 HN.out.symm,Below.refl _ _⟩
     ·have hdd:∀ j (_:j<q+1) (hl:j<s.data.toList.length),E9 (s.data.toList[j]'hl)=true:=fun j hj hl=>by
       by_cases e:j=q
       ·subst e; exact hd
       ·exact Ad HD j (by omega) hl
      have HDD:=Ac hdd;unfold E9 at hd;rw [hce] at hd;simp only [Bool.and_eq_true,decide_eq_true_eq] at hd
      have h48:¬ (((s[q]'hlt).toNat:Nat):Int)<48:=by omega
      have h57:¬ (57:Int)<(((s[q]'hlt).toNat:Nat):Int):=by omega
      have hps2:Hid (pv s.data.toList (q+1)=10*pv s.data.toList q+((s[q]'hlt).toNat-48)):=by show _=_; rw [Ad hps,hce]
      have hd1:=hd.1;clear hd hce hdd hps;go_wp2
      go_round
      case rel=>exact ⟨q+1,by omega,by go_num,congrArg (Value.int .i64) (by rw [hps2.out]; omega),Ad HDD⟩
      case measure=>simp [intOf]; omega
    ·have hlt':¬ (q:Int)<(s.size:Int):=by omega
     have e:q=s.size:=by omega
     subst e;have hal:s.data.toList.all E9=true:=Xw (fun j hl=>Ad HD j (by simpa using hl) hl);have hpe:pv s.data.toList s.size=Ij s.data.toList:=Vu s.data.toList
     have hnum:numOf s=if Pu (Ij s.data.toList)=s.data.toList then (Ij s.data.toList:Int) else -1:=by
      unfold numOf;rw [if_neg (by omega),if_neg (by rw [hal]; decide)]
     have HNM:=Ac hnum;clear hnum hal;go_wp2_with fail;refine (Vt _ _ (by omega)).mono ?_;rintro e w1 ⟨⟨t,rfl,ht0⟩,L1⟩
     have ht:t.toList=Pu (Ij s.data.toList):=by first | exact ht0 | (rw [hpe] at ht0; exact ht0)
     clear ht0
     by_cases hq:Pu (Ij s.data.toList)=s.data.toList
     ·have hq':(!t.toList==s.toList)=false:=by rw [ht,ByteArray.toList_eq,hq]; simp
      have HE:Hid (((Ij s.data.toList:Nat):Int)=numOf s):=by show _=_; rw [Ad HNM,if_pos hq]
      clear ht hq hpe;go_wp2;go_ret;exact ⟨A7 HE.out,L1⟩
     ·have hq':(!t.toList==s.toList)=true:=by
       rw [ht,ByteArray.toList_eq]
       simpa using hq
      have HE:Hid (numOf s=-1):=by show _=_; rw [Ad HNM,if_neg hq]
      clear ht hq hpe;go_wp2;go_ret;exact ⟨A7 HE.out.symm,L1⟩
end Go.Proofs.YtjnjnppongdhgaaGreat
