import Derived.Test.YtjnjnppongdhgaaGreatD5
import Derived.Test.YtjnjnppongdhgaaGreatJ2
import Derived.Test.YtjnjnppongdhgaaGreatAB
namespace Go.Proofs.YtjnjnppongdhgaaGreat
set_option linter.unusedVariables false
set_option linter.unusedSimpArgs false
open Go.ChangeShapes Go.WideShapes Go.ChangeAt Go.RowKit
structure LP (w W:World) (B c:Nat) (a:Option Addr) (len cap g n x:Nat) (f:Nat→Int):Prop where
 row:Row W w.heap.size g n x f
 cur:Dl W B c a len cap
 step:Step c w W
theorem LP.lt {w W:World} {B c:Nat} {a:Option Addr} {len cap g n x:Nat} {f:Nat→Int} (h:LP w W B c a len cap g n x f) (hc:c<w.heap.size):c<W.heap.size:=Nat.lt_of_lt_of_le hc h.step.size
theorem LP.moved {w W W':World} {B c:Nat} {a:Option Addr} {len cap g n x:Nat} {f:Nat→Int} (h:LP w W B c a len cap g n x f) (hc:c<w.heap.size) (M:Step c W W') (H:Dl W' B c a len cap):LP w W' B c a len cap g n x f :=
 ⟨h.row.block (M.block g h.row.parts.2.1 (by have:=h.row.parts.1; omega)),H,h.step.trans M⟩
theorem LP.below {w W W':World} {B c:Nat} {a:Option Addr} {len cap g n x:Nat} {f:Nat→Int} (h:LP w W B c a len cap g n x f) (hc:c<w.heap.size) (M:Below W.heap.size W W'):LP w W' B c a len cap g n x f :=
 h.moved hc (Dw M (Nat.le_refl _)) (h.cur.below M (h.lt hc))
theorem LP.push {w W W':World} {B c:Nat} {a:Option Addr} {len cap g n x:Nat} {f:Nat→Int} (h:LP w W B c a len cap g n x f) (hc:c<w.heap.size) {g' n' x':Nat} {f':Nat→Int} (R:Row W' w.heap.size g' n' x' f') (WW:Wrote (fun b _=>b=g) W W'):LP w W' B c a len cap g' n' x' f':=by
 have hg:=h.row.parts.1;exact ⟨R,h.cur.below (WW.below (B:=w.heap.size) h.step.size (fun b o hb e=>by omega)) hc,⟨WW.os.trans h.step.os,WW.tape.trans h.step.tape,WW.output.trans h.step.output,Nat.le_trans h.step.size WW.size,fun k hk hkc=>(WW.block k (Nat.lt_of_lt_of_le hk h.step.size) (fun o e=>by omega)).trans (h.step.block k hk hkc)⟩⟩
def Us (t:Int):Int:=(t+15)/64
def Kc (m:Nat) (ln:Nat→Nat) (t:Int):Bool:=decide ((∀ i,i<m→ln i=48)∧(m:Int)=Us t)
theorem Ta {m:Nat} {ln:Nat→Nat} {t:Int} {i:Nat} (hi:i<m) (h:¬ ln i=48):Kc m ln t=false:=decide_eq_false (fun x=>h (x.1 i hi))
theorem Qu {m:Nat} {ln:Nat→Nat} {t:Int} (h:∀ i,i<m→ln i=48):Kc m ln t=((m:Int)==Us t):=by
 by_cases e:(m:Int)=Us t
 ·rw [Kc,decide_eq_true ⟨h,e⟩]; exact (beq_iff_eq.2 e).symm
 ·rw [Kc,decide_eq_false (fun x=>e x.2)]; exact (beq_eq_false_iff_ne.2 e).symm
theorem Cu {t c s ad pl:Int} {n:Nat} {f:Nat→Int} {m:Nat} {g:Nat→Int} (h:A2 t c s ad pl n f m g=true):0≤t∧t≤20000:=by
 unfold A2 at h;rw [Bool.and_eq_true] at h;exact (Co _ _ _).1 h.1
def okLock (d:Ao):Bool:=C9 d.np d.p && (Bq d.m d.ln d.f d.nr d.g d.bank && (Hs d.A d.X d.S d.Pc && (A2 d.t d.c d.s d.ad d.pl d.nt d.tb d.nd d.dt && (Bw d.T d.P d.K d.B d.L && (By d.sh 0 255 && ((d.t==d.T) && (By d.st 0 d.t && (Kc d.mf d.lf d.t && ((d.ns:Int)==d.t/16)))))))))
theorem An {w:World} {g:Nat} {old:Array Value} {t:TypeId} (hg:w.heap[g]?=some (.cells old t (0,0))) (cs:Array Value):Wrote (fun b _=>b=g) w (w.setRow g cs) :=
 ⟨rfl,rfl,rfl,by simp [World.setRow],fun k hk hn=>setRow_other _ _ _ _ (fun e=>hn 0 e),fun b o hb hn=>cell_setRow_other _ _ _ _ hn,fun b o hb=>by
  by_cases e:b=g
  ·subst e
   rw [Ar (setRow_heap _ _ _ _ _ _ hg),Ar hg]
  ·simp [World.frozen?,setRow_other _ _ _ _ e]⟩
theorem Af:(Tryz.prog.info? 41).map (·.size)=some 34:=by kernel_rfl
structure Z1 (W:World) (u0 u1 u2 u3 u4 u5 u6 u7:Value) (d:Ao):Prop where
 h0:∃ F,Ba .i64 W F u0 d.m d.ln d.f
 h1:∃ F,Ints .i64 W F u1 d.np d.p
 h2:∃ F,Ints .i64 W F u2 d.nr d.g
 h3:∃ F,Ints .i64 W F u3 d.nt d.tb
 h4:∃ F,Ints .i64 W F u4 d.nd d.dt
 h5:∃ F,Ba .i64 W F u5 d.mf d.lf d.fr
 h6:∃ F,Ints .i64 W F u6 d.ns d.sm
 h7:∃ F,Ints .i64 W F u7 d.nq d.rd
theorem Z1.below {W W':World} {u0 u1 u2 u3 u4 u5 u6 u7:Value} {d:Ao} (H:Z1 W u0 u1 u2 u3 u4 u5 u6 u7 d) (lo:∀ F v m ln f,Ba .i64 W F v m ln f→∃ G,Ba .i64 W' G v m ln f) (l1:∀ F v n f,Ints .i64 W F v n f→∃ G,Ints .i64 W' G v n f):Z1 W' u0 u1 u2 u3 u4 u5 u6 u7 d :=
 ⟨H.h0.elim (fun F h=>lo F _ _ _ _ h),H.h1.elim (fun F h=>l1 F _ _ _ h),H.h2.elim (fun F h=>l1 F _ _ _ h),H.h3.elim (fun F h=>l1 F _ _ _ h),H.h4.elim (fun F h=>l1 F _ _ _ h),H.h5.elim (fun F h=>lo F _ _ _ _ h),H.h6.elim (fun F h=>l1 F _ _ _ h),H.h7.elim (fun F h=>l1 F _ _ _ h)⟩
theorem infoAt {P:Program} {ty:TypeId} {n:Nat} {cs:Array Value} (h:(P.info? ty).map (·.size)=some n) (hs:cs.size=n):(P.info? ty).map (·.size)=some cs.size:=by rw [hs]; exact h
theorem As.agg {W:World} {D:Nat→Nat→Prop} {v:Value} {d:Ao} (H:As W D v d):∃ cs,v=.agg cs∧cs.size=34∧cs.all (·.oneCell')=true:=by
 obtain ⟨u0,u1,u2,u3,u4,u5,u6,u7,e,h0,h1,h2,h3,h4⟩:=H;obtain ⟨a0,b0,rfl⟩:=h0.form;obtain ⟨a1,b1,rfl⟩:=h1.two;obtain ⟨a2,b2,e2⟩:=h2.two;obtain ⟨a3,b3,a4,b4,e3⟩:=h3.two;obtain ⟨v5,v6,v7,e4,h5,h6,h7⟩:=h4;obtain ⟨a5,b5,rfl⟩:=h5.form;obtain ⟨a6,b6,rfl⟩:=h6.two;obtain ⟨a7,b7,rfl⟩:=h7.two;simp only [Value.agg.injEq,Array.mk.injEq,List.cons.injEq,and_true,true_and] at e2 e3 e4;obtain ⟨rfl,rfl⟩:=e3;obtain ⟨rfl,rfl,rfl⟩:=e4;subst e2;exact ⟨_,e,rfl,by first | kernel_rfl | simp [Value.oneCell']⟩
end Go.Proofs.YtjnjnppongdhgaaGreat
