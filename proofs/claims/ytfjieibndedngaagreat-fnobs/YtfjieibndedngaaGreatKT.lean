import Derived.Test.YtfjieibndedngaaGreatY2
namespace Go.Proofs.YtfjieibndedngaaGreat
set_option linter.unusedVariables false
set_option linter.unusedSimpArgs false
open Go.ChangeShapes Go.WideShapes Go.ChangeAt Go.RowKit
theorem Ao {w:World} {g:Nat} {old:Array Value} {t:TypeId} (hg:w.heap[g]?=some (.cells old t (0,0))) (cs:Array Value):Wrote (fun b _=>b=g) w (w.setRow g cs) :=
 ⟨rfl,rfl,rfl,by simp [World.setRow],fun k hk hn=>setRow_other _ _ _ _ (fun e=>hn 0 e),fun b o hb hn=>cell_setRow_other _ _ _ _ hn,fun b o hb=>by
  by_cases e:b=g
  ·subst e
   rw [Ax (setRow_heap _ _ _ _ _ _ hg),Ax hg]
  ·simp [World.frozen?,setRow_other _ _ _ _ e]⟩
theorem Ae:(Tryz.prog.info? 44).map (·.size)=some 34:=by kernel_rfl
structure Vp (W:World) (u0 u1 u2 u3 u4 u5 u6 u7:Value) (d:Am):Prop where
 h0:∃ F,Bm .i64 W F u0 d.m d.ln d.f
 h1:∃ F,Ints .i64 W F u1 d.np d.p
 h2:∃ F,Ints .i64 W F u2 d.nr d.g
 h3:∃ F,Ints .i64 W F u3 d.nt d.tb
 h4:∃ F,Ints .i64 W F u4 d.nd d.dt
 h5:∃ F,Bm .i64 W F u5 d.mf d.lf d.fr
 h6:∃ F,Ints .i64 W F u6 d.ns d.sm
 h7:∃ F,Ints .i64 W F u7 d.nq d.rd
theorem Vp.below {W W':World} {u0 u1 u2 u3 u4 u5 u6 u7:Value} {d:Am} (H:Vp W u0 u1 u2 u3 u4 u5 u6 u7 d) (lo:∀ F v m ln f,Bm .i64 W F v m ln f→∃ G,Bm .i64 W' G v m ln f) (l1:∀ F v n f,Ints .i64 W F v n f→∃ G,Ints .i64 W' G v n f):Vp W' u0 u1 u2 u3 u4 u5 u6 u7 d :=
 ⟨H.h0.elim (fun F h=>lo F _ _ _ _ h),H.h1.elim (fun F h=>l1 F _ _ _ h),H.h2.elim (fun F h=>l1 F _ _ _ h),H.h3.elim (fun F h=>l1 F _ _ _ h),H.h4.elim (fun F h=>l1 F _ _ _ h),H.h5.elim (fun F h=>lo F _ _ _ _ h),H.h6.elim (fun F h=>l1 F _ _ _ h),H.h7.elim (fun F h=>l1 F _ _ _ h)⟩
theorem infoAt {P:Program} {ty:TypeId} {n:Nat} {cs:Array Value} (h:(P.info? ty).map (·.size)=some n) (hs:cs.size=n):(P.info? ty).map (·.size)=some cs.size:=by rw [hs]; exact h
theorem As.agg {W:World} {D:Nat→Nat→Prop} {v:Value} {d:Am} (H:As W D v d):∃ cs,v=.agg cs∧cs.size=34∧cs.all (·.oneCell')=true:=by
 obtain ⟨u0,u1,u2,u3,u4,u5,u6,u7,e,h0,h1,h2,h3,h4⟩:=H;obtain ⟨a0,b0,rfl⟩:=h0.form;obtain ⟨a1,b1,rfl⟩:=h1.two;obtain ⟨a2,b2,e2⟩:=h2.two;obtain ⟨a3,b3,a4,b4,e3⟩:=h3.two;obtain ⟨v5,v6,v7,e4,h5,h6,h7⟩:=h4;obtain ⟨a5,b5,rfl⟩:=h5.form;obtain ⟨a6,b6,rfl⟩:=h6.two;obtain ⟨a7,b7,rfl⟩:=h7.two;simp only [Value.agg.injEq,Array.mk.injEq,List.cons.injEq,and_true,true_and] at e2 e3 e4;obtain ⟨rfl,rfl⟩:=e3;obtain ⟨rfl,rfl,rfl⟩:=e4;subst e2;exact ⟨_,e,rfl,by first | kernel_rfl | simp [Value.oneCell']⟩
end Go.Proofs.YtfjieibndedngaaGreat
