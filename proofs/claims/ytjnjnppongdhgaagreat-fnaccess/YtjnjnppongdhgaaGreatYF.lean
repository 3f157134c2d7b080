import Derived.Test.YtjnjnppongdhgaaGreatYB
import Derived.Test.YtjnjnppongdhgaaGreatND
import Derived.Test.YtjnjnppongdhgaaGreatKI
namespace Go.Proofs.YtjnjnppongdhgaaGreat
set_option maxHeartbeats 8000000
set_option maxRecDepth 40000
set_option linter.unusedVariables false
set_option linter.unusedSimpArgs false
open Go.ChangeShapes Go.WideShapes Go.ChangeAt Go.RowKit Go.Sort
theorem J7 (n:Nat) (f:Nat→Int):Bs n n f f=true:=Re (fun _ _=>rfl)
theorem L8 (d:Ao):Ha d d=true:=by
 have h:Fw d.mf d.mf d.lf d.lf d.fr d.fr=true:=decide_eq_true ⟨rfl,fun i _=>J7 _ _⟩
 simp [Ha,J7,Tf,Lz,Tg,Jw,Ti,Pi,Tj,Pj,Fc,Y0,h]
theorem Xr (d:Ao) (a:Int):(Bd d a).nq=if rgN (a%65536)=2∨rgN (a%65536)=3∨rgN (a%65536)=4 then d.nq+1 else d.nq:=by
 unfold Bd;split
 ·rename_i h; rw [if_pos (Or.inl h)]
 ·split
  ·rename_i h; rw [if_pos (Or.inr (Or.inl h))]
  ·split
   ·rename_i h; rw [if_pos (Or.inr (Or.inr h))]
   ·rename_i h1 h2 h3; rw [if_neg (by simp [h1,h2,h3])]
def Nx (W:World) (N:Nat) (v:Value) (d:Ao):Prop:=N≤W.heap.size∧∃ E,As W E v d∧∀ i b,E i b→b<N
section
variable {w W W':World} {N:Nat} {b:Nat} {cs:Array Value} {t:TypeId} {v:Value} {d:Ao} {E:Nat→Nat→Prop}
theorem Nx.of (h:As W E v d) (hb:∀ i b,E i b→b<W.heap.size):Nx W W.heap.size v d:=⟨Nat.le_refl _,E,h,hb⟩
theorem Nx.call (h:Nx W N v d) (L:Below W.heap.size W W'):Nx W' N v d:=by
 obtain ⟨h0,E,h1,h2⟩:=h;exact ⟨Nat.le_trans h0 L.size,E,h1.below L,h2⟩
theorem Nx.row (h:Nx W N v d) (k:W.heap[b]?=some (.cells cs t (0,0))) (hb:N≤b) (cs':Array Value):Nx (W.setRow b cs') N v d:=by
 obtain ⟨h0,E,h1,h2⟩:=h;have TT:=Ch k cs';exact ⟨Nat.le_trans h0 TT.size,E,h1.keep TT (fun i b' o hd _ (e:b'=b)=>by have:=h2 i b' hd; omega),h2⟩
theorem Nx.get33 (h:Nx W N (.agg cs) d):∃ a c,cs[33]?=some (.slice a d.nq c):=by
 obtain ⟨h0,E,⟨u0,u1,u2,u3,u4,u5,u6,u7,e,-,-,-,-,u5',u6',u7',e',-,-,h7⟩,-⟩:=h;obtain rfl:=Value.agg.inj e
 obtain ⟨-,-,rfl⟩:u5=u5'∧u6=u6'∧u7=u7':=by simpa using e'
 obtain ⟨a,c,rfl⟩:=h7.two;exact ⟨a,c,rfl⟩
theorem Nx.get12 (h:Nx W N (.agg cs) d):cs[12]?=some (.i d.t):=by
 obtain ⟨h0,E,⟨u0,u1,u2,u3,u4,u5,u6,u7,e,-⟩,-⟩:=h;obtain rfl:=Value.agg.inj e
 rfl
theorem Nx.cpu8 (h:Nx W N (.agg cs) d):∀ j v,((cR d.A d.X d.S d.Pc d.Z d.N d.C d.I):Array Value)[j]?=some v→cs[4+j]?=some v:=by
 obtain ⟨h0,E,⟨u0,u1,u2,u3,u4,u5,u6,u7,e,-⟩,-⟩:=h;obtain rfl:=Value.agg.inj e;exact P6 rfl rfl rfl rfl rfl rfl rfl rfl
end
theorem Fv {P:Program} {ops:Array Oper} {rest:List Oper} {o:Oper} {a:Act} {w:World} {Q:Exit→Act→World→Prop} (hw:Region.wanted o (yielded ops a.tmps)=true) (ty:TypeId) (x:Operand) (ho:o.op=.load ty x)
  (g:Nat) (hx:a.eval x=(pt g 0)) (t:TypeId) (cs:Array Value) (fr:Nat × Nat) (d:TypeDesc) (hg:w.heap[g]?=some (.cells cs t fr))
  (hu:P.underlying ty=some d) (hd:(match d with | .struct _ | .array _ _=>true | _=>false)=true) (hi:(P.info? ty).map (·.size)=some cs.size)
  (h:wpList P ops Q rest (a.put o.dst (.agg cs)) w):wpList P ops Q (o :: rest) a w :=
 wpList_step fun K hK=>by rw [if_pos hw]; exact wp_load_row ty x ho g hx t cs fr d hg hu hd hi (hK _ _ h)
theorem Fe {P:Program} {ops:Array Oper} {rest:List Oper} {o:Oper} {a:Act} {w:World} {Q:Exit→Act→World→Prop} (hw:Region.wanted o (yielded ops a.tmps)=true) (ty:TypeId) (x:Operand) (ho:o.op=.load ty x)
  (g off:Nat) (hx:a.eval x=(pt g off)) (t:TypeId) (cs part:Array Value) (fr:Nat × Nat) (d:TypeDesc) (hg:w.heap[g]?=some (.cells cs t fr)) (hp:∀ j v,part[j]?=some v→cs[off+j]?=some v)
  (hu:P.underlying ty=some d) (hd:(match d with | .struct _ | .array _ _=>true | _=>false)=true) (hi:(P.info? ty).map (·.size)=some part.size)
  (h:wpList P ops Q rest (a.put o.dst (.agg part)) w):wpList P ops Q (o :: rest) a w :=
 wpList_step fun K hK=>by rw [if_pos hw]; exact Je ty x ho g off hx t cs part fr d hg hp hu hd hi (hK _ _ h)
theorem Vg (w:World) (s0:Option Addr) (n0 c0:Nat) (h:(1048576:Int)<(n0:Int)∨Code w w.heap.size s0 n0) :
  Calls Tryz.prog 3 #[.slice s0 n0 c0] w fun e w'=>e=.returned (.bool true)∧Below w.heap.size w w':=by
 by_cases hbig:(1048576:Int)<(n0:Int)
 ·have hb':decide ((1048576:Int)<(n0:Int))=true:=decide_eq_true hbig
  go_enter Tryz.func3,Tryz.ntmps3
  go_wp2_with fail;refine (Sn _ s0 n0 c0).mono ?_;rintro e w' ⟨rfl,rfl⟩;rw [hb'];go_wp2;go_ret;exact ⟨rfl,Below.refl _ _⟩
 ·have hb':decide ((1048576:Int)<(n0:Int))=false:=decide_eq_false hbig
  have hcode:Code w w.heap.size s0 n0:=h.resolve_left hbig;clear hbig h
  go_enter Tryz.func3,Tryz.ntmps3
  go_wp2_with fail;refine (Sn _ s0 n0 c0).mono ?_;rintro e w' ⟨rfl,rfl⟩;rw [hb'];clear hb';have B0:=Dv.nil w';go_upto_region 3 with (fail);rename_i K3 hK3;refine wp_region_lit ?_
  (refine wpList_plain rfl (fun K9 hK9=>?_); go_simp; refine hK9 _ _ ?_; clear hK9)
  refine Ax rfl _ _ (by kernel_rfl) (Mt _ w'.heap.size s0 n0 c0 (Nat.le_refl _) hcode) ?_;rintro e W1 ⟨v,x,E,d,rfl,on,bd,hF,L⟩;refine ⟨_,rfl,?_⟩;have T:=Nx.of on (fun i b hb=>(bd i b hb).2);replace B0:=B0.call L;obtain ⟨co,rfl,hco,ho1⟩:=on.agg;clear on bd L
  iterate 4 (refine wpList_plain rfl (fun K9 hK9=>?_); go_simp; refine hK9 _ _ ?_; clear hK9)
  replace B0:=B0.alloc zR 41 _ rfl;replace T:=T.call ((Below.refl W1.heap.size W1).alloc (Nat.le_refl _) (.cells zR 41));generalize W1.heap.size=bl at *;generalize W1.alloc (.cells zR 41)=W2a at *;refine wpList_store_row rfl _ _ _ rfl (bl) co rfl rfl _ _ (B0.ret 0 rfl) (infoAt Af hco) (hco.symm) ho1 ?_;replace T:=T.row (B0.ret 0 rfl) (Nat.le_refl _) co;replace B0:=B0.row 0 rfl co;generalize W2a.setRow bl co=W2 at *
  (refine wpList_plain rfl (fun K9 hK9=>?_); go_simp; refine hK9 _ _ ?_; clear hK9)
  refine hK3 _ _ ?_;clear hK3
  have hnq:d.nq<1048576:=by have:=hF.nq; omega
  obtain ⟨rv,hrv⟩:∃ y,Hid (y=if okLock d=true then Bo d x else 0):=⟨_,rfl⟩
  obtain ⟨rd,hrd⟩:∃ y,Hid (y=if okLock d=true then Bd d x else d):=⟨_,rfl⟩
  have HI:=Ac (fun W E (k:As W E (.agg co) d)=>O6 W E _ d x k (fun _=>hnq));have HS:=Ac (fun W E (k:As W E (.agg co) d)=>Oy W E _ d x k (fun _=>hnq));rw [← hrv.out,← hrd.out] at HI HS;clear hrv;go_upto_region 4 with (fail);rename_i K3 hK3;refine wp_region_lit ?_;refine wpList_load_row rfl _ _ rfl (bl) rfl _ _ _ _ (B0.ret 0 rfl) Tryz.underlying41 rfl (infoAt Af hco) ?_
  (refine wpList_plain rfl (fun K9 hK9=>?_); go_simp; refine hK9 _ _ ?_; clear hK9)
  obtain ⟨-,E,on,-⟩:=id T;refine Ax rfl _ _ (by kernel_rfl) (HI.out _ _ on) ?_;rintro e W3 ⟨v,rfl,⟨E',om,-,bm⟩,L⟩;refine ⟨_,rfl,?_⟩;have M:=Nx.of om (fun i b hb=>(bm i b hb).2);replace B0:=B0.call L;replace T:=T.call L;obtain ⟨cm,rfl,hcm,hm1⟩:=om.agg;clear om bm L on E' HI;have hlm:=T.1
  iterate 4 (refine wpList_plain rfl (fun K9 hK9=>?_); go_simp; refine hK9 _ _ ?_; clear hK9)
  replace B0:=B0.alloc zR 41 _ rfl;replace T:=T.call ((Below.refl W3.heap.size W3).alloc (Nat.le_refl _) (.cells zR 41));replace M:=M.call ((Below.refl W3.heap.size W3).alloc (Nat.le_refl _) (.cells zR 41));generalize W3.heap.size=bm at *;generalize W3.alloc (.cells zR 41)=W4a at *;refine wpList_store_row rfl _ _ _ rfl (bm) cm rfl rfl _ _ (B0.ret 1 rfl) (infoAt Af hcm) (hcm.symm) hm1 ?_;replace T:=T.row (B0.ret 1 rfl) hlm cm;replace M:=M.row (B0.ret 1 rfl) (Nat.le_refl _) cm;replace B0:=B0.row 1 rfl cm;generalize W4a.setRow bm cm=W4 at *
  (refine wpList_plain rfl (fun K9 hK9=>?_); go_simp; refine hK9 _ _ ?_; clear hK9)
  refine hK3 _ _ ?_;clear hK3;go_upto_region 5 with (fail);rename_i K3 hK3;refine wp_region_lit ?_;refine wpList_load_row rfl _ _ rfl (bl) rfl _ _ _ _ (B0.ret 0 rfl) Tryz.underlying41 rfl (infoAt Af hco) ?_
  (refine wpList_plain rfl (fun K9 hK9=>?_); go_simp; refine hK9 _ _ ?_; clear hK9)
  obtain ⟨-,E,on,-⟩:=id T;refine Ax rfl _ _ (by kernel_rfl) (HS.out _ _ on) ?_;rintro e W5 ⟨v,rfl,ow,L⟩;refine ⟨_,rfl,?_⟩;obtain ⟨E',om,-,bm⟩:=ow.on;have G:=Nx.of om (fun i b hb=>(bm i b hb).2);replace B0:=B0.call L;replace T:=T.call L;replace M:=M.call L;obtain ⟨cn,rfl,hcn,hn1⟩:=om.agg;clear om bm L on E' ow HS;have hln:=T.1;have hmn:=M.1
  iterate 4 (refine wpList_plain rfl (fun K9 hK9=>?_); go_simp; refine hK9 _ _ ?_; clear hK9)
  replace B0:=B0.alloc zR 41 _ rfl;replace T:=T.call ((Below.refl W5.heap.size W5).alloc (Nat.le_refl _) (.cells zR 41));replace M:=M.call ((Below.refl W5.heap.size W5).alloc (Nat.le_refl _) (.cells zR 41));replace G:=G.call ((Below.refl W5.heap.size W5).alloc (Nat.le_refl _) (.cells zR 41));generalize W5.heap.size=bn at *;generalize W5.alloc (.cells zR 41)=W6a at *;refine wpList_store_row rfl _ _ _ rfl (bn) cn rfl rfl _ _ (B0.ret 2 rfl) (infoAt Af hcn) (hcn.symm) hn1 ?_;replace T:=T.row (B0.ret 2 rfl) hln cn;replace M:=M.row (B0.ret 2 rfl) hmn cn;replace G:=G.row (B0.ret 2 rfl) (Nat.le_refl _) cn;replace B0:=B0.row 2 rfl cn;generalize W6a.setRow bn cn=W6 at *
  (refine wpList_plain rfl (fun K9 hK9=>?_); go_simp; refine hK9 _ _ ?_; clear hK9)
  refine hK3 _ _ ?_;clear hK3;clear hlm hln hmn;go_upto_region 6 with (fail);refine wp_region_lit ?_
  iterate 4 (refine wpList_plain rfl (fun K9 hK9=>?_); go_simp; refine hK9 _ _ ?_; clear hK9)
  refine Fv (by kernel_rfl) _ _ rfl (bm) rfl _ _ _ _ (B0.ret 1 rfl) Tryz.underlying41 rfl (infoAt Af hcm) ?_;refine Fv (by kernel_rfl) _ _ rfl (bn) rfl _ _ _ _ (B0.ret 2 rfl) Tryz.underlying41 rfl (infoAt Af hcn) ?_;obtain ⟨-,E,on,-⟩:=id M;obtain ⟨-,E',om,-⟩:=id G;go_wp2_with fail;refine (Jg _ _ _ _ _ rd rd on om).mono ?_;rintro e W7 ⟨rfl,L⟩;rw [L8];replace B0:=(B0.call L).take 2;replace T:=T.call L;replace M:=M.call L;clear om on L G hcn hn1;go_upto_region 8 with (fail);go_wp2_with fail;refine (Il _ x).mono ?_;rintro e W8 ⟨rfl,rfl⟩;generalize rgP (x%65536)=rp
  have hnm:okLock d=true→rd.nq=if rgN (x%65536)=2∨rgN (x%65536)=3∨rgN (x%65536)=4 then d.nq+1 else d.nq:=fun ok=>by rw [hrd.out,if_pos ok]; exact Xr d x
  generalize rgN (x%65536)=r at *;go_upto_region 9 with (fail)
  go_cut [73] (fun s WX=>s=.bool false∧Below W8.heap.size W8 WX)
  case first =>
   obtain ⟨-,E,on,-⟩:=id T;obtain ⟨al,cl,hl⟩:=T.get33;obtain ⟨am,cm3,hm⟩:=M.get33;refine wp_region_lit ?_;refine wpList_load_row rfl _ _ rfl (bl) rfl _ _ _ _ (B0.ret 0 rfl) Tryz.underlying41 rfl (infoAt Af hco) ?_;go_wp2_with fail;refine (Dz _ _ _ d on).mono ?_;rintro e W9 ⟨rfl,L⟩;have B9:=B0.call L;have c1:=B9.get 0 rfl 33 hl;have c2:=B9.get 1 rfl 33 hm;clear B0 T M on hl hm B9;cases hok:okLock d
   ·go_wp2_with fail
    go_meet
    exact ⟨rfl,L⟩
   ·replace hnm:=hnm hok
    have hs1:d.nq≤1048576:=by omega
    by_cases r2:r=2
    ·rw [if_pos (Or.inl r2)] at hnm
     subst r2;rw [hnm] at c2;go_wp2_with fail
     go_meet
     exact ⟨by simp,L⟩
    by_cases r3:r=3
    ·rw [if_pos (Or.inr (Or.inl r3))] at hnm
     subst r3;rw [hnm] at c2;go_wp2_with fail
     go_meet
     exact ⟨by simp,L⟩
    by_cases r4:r=4
    ·rw [if_pos (Or.inr (Or.inr r4))] at hnm
     subst r4;rw [hnm] at c2;go_wp2_with fail
     go_meet
     exact ⟨by simp,L⟩
    rw [if_neg (by simp [r2,r3,r4])] at hnm;rw [hnm] at c2
    have q2:(r==2)=false:=by simp [r2]
    have q3:(r==3)=false:=by simp [r3]
    have q4:(r==4)=false:=by simp [r4]
    go_wp2_with fail
    go_meet
    exact ⟨by simp; try omega,L⟩
  case rest =>
  obtain ⟨rfl,L⟩:=hcut
  obtain ⟨W9,hW9⟩:∃ y,y=wc:=⟨_,rfl⟩
  subst hW9;replace B0:=(B0.call L).take 0;clear L T M hnm hrd hF hnq hco ho1 hcm hm1;go_upto_region 11 with (fail);rename_i K3 hK3;refine wp_region_lit ?_
  (refine wpList_plain rfl (fun K9 hK9=>?_); go_simp; refine hK9 _ _ ?_; clear hK9)
  refine Ax rfl _ _ (by kernel_rfl) (Ly _ w'.heap.size s0 n0 c0 B0.below.size (hcode.keep B0.below)) ?_;rintro e W1 ⟨v,x,y,E,d,rfl,on,bd,hF,L⟩;refine ⟨_,rfl,?_⟩;have T:=Nx.of on (fun i b hb=>(bd i b hb).2);replace B0:=B0.call L;obtain ⟨co,rfl,hco,ho1⟩:=on.agg;clear on bd L hcode hF
  iterate 5 (refine wpList_plain rfl (fun K9 hK9=>?_); go_simp; refine hK9 _ _ ?_; clear hK9)
  replace B0:=B0.alloc zR 41 _ rfl;replace T:=T.call ((Below.refl W1.heap.size W1).alloc (Nat.le_refl _) (.cells zR 41));generalize W1.heap.size=bk at *;generalize W1.alloc (.cells zR 41)=W2a at *;refine wpList_store_row rfl _ _ _ rfl (bk) co rfl rfl _ _ (B0.ret 0 rfl) (infoAt Af hco) (hco.symm) ho1 ?_;replace T:=T.row (B0.ret 0 rfl) (Nat.le_refl _) co;replace B0:=B0.row 0 rfl co;generalize W2a.setRow bk co=W2 at *
  iterate 2 (refine wpList_plain rfl (fun K9 hK9=>?_); go_simp; refine hK9 _ _ ?_; clear hK9)
  refine hK3 _ _ ?_;clear hK3
  obtain ⟨rd,hrd⟩:∃ z,Hid (z=if okLock d=true then A6 d x y else d):=⟨_,rfl⟩
  have HI:=Ac (fun W E (k:As W E (.agg co) d)=>Mp W E _ d x y k);have HS:=Ac (fun W E (k:As W E (.agg co) d)=>Mo W E _ d x y k);rw [← hrd.out] at HI HS
  have HQ:rd.t=d.t∧Ec rd=Ec d∧rd.nq=d.nq:=by
   rw [hrd.out];split
   ·rename_i ok
    have k:=J3 d x y (Sd ok).row;exact ⟨k.1,k.2.2.2.2.1,k.2.2.2.2.2⟩
   ·exact ⟨rfl,rfl,rfl⟩
  clear hrd;go_upto_region 12 with (fail);rename_i K3 hK3;refine wp_region_lit ?_;refine wpList_load_row rfl _ _ rfl (bk) rfl _ _ _ _ (B0.ret 0 rfl) Tryz.underlying41 rfl (infoAt Af hco) ?_
  iterate 2 (refine wpList_plain rfl (fun K9 hK9=>?_); go_simp; refine hK9 _ _ ?_; clear hK9)
  obtain ⟨-,E,on,-⟩:=id T;refine Ax rfl _ _ (by kernel_rfl) (HI.out _ _ on) ?_;rintro e W3 ⟨v,rfl,⟨E',om,-,bm⟩,L⟩;refine ⟨_,rfl,?_⟩;have M:=Nx.of om (fun i b hb=>(bm i b hb).2);replace B0:=B0.call L;replace T:=T.call L;obtain ⟨cm,rfl,hcm,hm1⟩:=om.agg;clear om bm L on E' HI;have hlm:=T.1
  (refine wpList_plain rfl (fun K9 hK9=>?_); go_simp; refine hK9 _ _ ?_; clear hK9)
  replace B0:=B0.alloc zR 41 _ rfl;replace T:=T.call ((Below.refl W3.heap.size W3).alloc (Nat.le_refl _) (.cells zR 41));replace M:=M.call ((Below.refl W3.heap.size W3).alloc (Nat.le_refl _) (.cells zR 41));generalize W3.heap.size=bp at *;generalize W3.alloc (.cells zR 41)=W4a at *;refine wpList_store_row rfl _ _ _ rfl (bp) cm rfl rfl _ _ (B0.ret 1 rfl) (infoAt Af hcm) (hcm.symm) hm1 ?_;replace T:=T.row (B0.ret 1 rfl) hlm cm;replace M:=M.row (B0.ret 1 rfl) (Nat.le_refl _) cm;replace B0:=B0.row 1 rfl cm;generalize W4a.setRow bp cm=W4 at *;refine hK3 _ _ ?_;clear hK3;go_upto_region 13 with (fail);rename_i K3 hK3;refine wp_region_lit ?_;refine wpList_load_row rfl _ _ rfl (bk) rfl _ _ _ _ (B0.ret 0 rfl) Tryz.underlying41 rfl (infoAt Af hco) ?_
  iterate 2 (refine wpList_plain rfl (fun K9 hK9=>?_); go_simp; refine hK9 _ _ ?_; clear hK9)
  obtain ⟨-,E,on,-⟩:=id T;refine Ax rfl _ _ (by kernel_rfl) (HS.out _ _ on) ?_;rintro e W5 ⟨v,rfl,ow,L⟩;refine ⟨_,rfl,?_⟩;obtain ⟨E',om,-,bm⟩:=ow.on;have G:=Nx.of om (fun i b hb=>(bm i b hb).2);replace B0:=B0.call L;replace T:=T.call L;replace M:=M.call L;obtain ⟨cn,rfl,hcn,hn1⟩:=om.agg;clear om bm L on E' ow HS;have hln:=T.1;have hmn:=M.1
  (refine wpList_plain rfl (fun K9 hK9=>?_); go_simp; refine hK9 _ _ ?_; clear hK9)
  replace B0:=B0.alloc zR 41 _ rfl;replace T:=T.call ((Below.refl W5.heap.size W5).alloc (Nat.le_refl _) (.cells zR 41));replace M:=M.call ((Below.refl W5.heap.size W5).alloc (Nat.le_refl _) (.cells zR 41));replace G:=G.call ((Below.refl W5.heap.size W5).alloc (Nat.le_refl _) (.cells zR 41));generalize W5.heap.size=bq at *;generalize W5.alloc (.cells zR 41)=W6a at *;refine wpList_store_row rfl _ _ _ rfl (bq) cn rfl rfl _ _ (B0.ret 2 rfl) (infoAt Af hcn) (hcn.symm) hn1 ?_;replace T:=T.row (B0.ret 2 rfl) hln cn;replace M:=M.row (B0.ret 2 rfl) hmn cn;replace G:=G.row (B0.ret 2 rfl) (Nat.le_refl _) cn;replace B0:=B0.row 2 rfl cn;generalize W6a.setRow bq cn=W6 at *;refine hK3 _ _ ?_;clear hK3;clear hlm hln hmn;go_upto_region 14 with (fail);refine wp_region_lit ?_
  refine wpList_load_row rfl _ _ rfl (bp) rfl _ _ _ _ (B0.ret 1 rfl) Tryz.underlying41 rfl (infoAt Af hcm) ?_;refine wpList_load_row rfl _ _ rfl (bq) rfl _ _ _ _ (B0.ret 2 rfl) Tryz.underlying41 rfl (infoAt Af hcn) ?_;obtain ⟨-,E,on,-⟩:=id M;obtain ⟨-,E',om,-⟩:=id G;refine Ax rfl _ _ (by kernel_rfl) (Jg _ _ _ _ _ rd rd on om) ?_;rintro e W7 ⟨rfl,L⟩;refine ⟨_,rfl,?_⟩;rw [L8];replace B0:=B0.call L;replace T:=T.call L;replace M:=M.call L;clear om on L G hcn hn1;obtain ⟨e1,e2,e3⟩:=HQ;obtain ⟨al,cl,hl⟩:=T.get33;obtain ⟨am,cm3,hm⟩:=M.get33;have pk:=T.cpu8;have pp:=M.cpu8;simp only [Ec,Bh.mk.injEq] at e2;obtain ⟨f1,f2,f3,f4,f5,f6,f7,f8⟩:=e2;rw [f1,f2,f3,f4,f5,f6,f7,f8] at pp;rw [e3] at hm;have c1:=B0.get 0 rfl 33 hl;have c2:=B0.get 1 rfl 33 hm;have c3:=B0.get 0 rfl 12 T.get12
  have c4:=B0.get 1 rfl 12 M.get12;rw [e1] at c4;have k0:=B0.ret 0 rfl;have k1:=B0.ret 1 rfl
  have ec:∀ W,(binOp .eql 31 (.agg (cR d.A d.X d.S d.Pc d.Z d.N d.C d.I)) (.agg (cR d.A d.X d.S d.Pc d.Z d.N d.C d.I))).run Tryz.prog W=.ok (.bool true) W:=fun W=>by rw [Nw]; simp [Lz]
  have CC:=B0.below;clear B0 T M hl hm e1 e3 f1 f2 f3 f4 f5 f6 f7 f8
  (refine wpList_plain rfl (fun K9 hK9=>?_); go_simp; refine hK9 _ _ ?_; clear hK9)
  iterate 10 (refine wpList_step (fun K9 hK9=>?_); rw [if_pos (by kernel_rfl)]; go_simp; refine hK9 _ _ ?_; clear hK9)
  refine Fe (by kernel_rfl) _ _ rfl bp 4 rfl _ _ (cR d.A d.X d.S d.Pc d.Z d.N d.C d.I) _ _ k1 pp Tryz.underlying31 rfl Av ?_
  (refine wpList_step (fun K9 hK9=>?_); rw [if_pos (by kernel_rfl)]; go_simp; refine hK9 _ _ ?_; clear hK9)
  refine Fe (by kernel_rfl) _ _ rfl bk 4 rfl _ _ (cR d.A d.X d.S d.Pc d.Z d.N d.C d.I) _ _ k0 pk Tryz.underlying31 rfl Av ?_;go_wp2_with fail;go_ret;exact ⟨rfl,CC⟩
end Go.Proofs.YtjnjnppongdhgaaGreat
