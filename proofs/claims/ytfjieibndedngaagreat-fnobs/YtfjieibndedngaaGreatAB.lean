import Derived.Test.YtfjieibndedngaaGreatAA
namespace Go.Proofs.YtfjieibndedngaaGreat
set_option maxHeartbeats 4000000
set_option linter.unusedVariables false
set_option linter.unusedSimpArgs false
open Go.ChangeShapes Go.WideShapes Go.ChangeAt Go.RowKit
theorem Rs {T P C B L:Int} (h:Gx T P C B L) (hT:T=20000) (S Q:Bool):Lg T P C B L S Q=.tuple #[.agg (aR T P C B L S Q),.i 0,.bool false]:=by
  unfold Lg;rw [if_pos ((Il _ _ _ _ _).2 h),if_pos hT]
theorem Oc {T P C B L:Int} (h:Gx T P C B L) (hT:T≠20000) (S Q:Bool):Lg T P C B L S Q=.tuple #[.agg (aR (T+1) P (Ks P C) (Km C B L) (Kn T L) S (Mo T L S Q)),.i (Ti T C B L),.bool (Ei T)]:=by
  unfold Lg;rw [if_pos ((Il _ _ _ _ _).2 h),if_neg hT]
theorem Od (w:World) (T P C B L:Int) (S Q:Bool) (h:Gx T P C B L):Calls Tryz.prog 80 #[.agg (aR T P C B L S Q)] w
    fun e w'=>e=.returned (Lg T P C B L S Q)∧Below w.heap.size w w':=by
  have L0:∀ (o o2:Obj),Below w.heap.size w ((w.alloc o).alloc o2):=fun o o2=>((Below.refl _ _).alloc (Nat.le_refl _) _).alloc (by simp) _
  by_cases hT:T=20000
  · have HT:=Ad (Rs h hT S Q)
    subst hT;rw [HT.out];clear HT h
    go_enter Tryz.func80,Tryz.ntmps80
    go_wp2;refine bodyPost_ret (v:=.tuple #[.agg (aR 20000 P C B L S Q),.i 0,.bool false]) (by simp [results,Tryz.results80,go_sem]) rfl ?_;exact ⟨rfl,L0 _ _⟩
  · have HT:=Ad (Oc h hT S Q)
    obtain ⟨v,hv⟩:∃ v,Hid (Lg T P C B L S Q=v):=⟨_,rfl⟩
    rw [hv.out] at HT ⊢;clear hv;have t0:=h.t0;have t1:=h.t1;have c0:=h.c0;have c1:=h.c1;have b0:=h.b0;have b1:=h.b1;have l0:=h.l0;have l1:=h.l1;have m32:T.tmod 32=T%32:=Int.tmod_eq_emod_of_nonneg t0;have m16:T.tmod 16=T%16:=Int.tmod_eq_emod_of_nonneg t0;clear h
    by_cases hC:C=0 <;> by_cases hL:0<L <;> by_cases hb:T%32=0 <;> by_cases ht:T%16=15
    all_goals first
      | (exfalso; omega)
      | (go_enter Tryz.func80,Tryz.ntmps80
         go_wp2
         all_goals (refine bodyPost_ret (v:=.tuple #[.agg (aR (T+1) P (Ks P C) (Km C B L) (Kn T L) S (Mo T L S Q)),.i (Ti T C B L),.bool (Ei T)]) (by first | (have hL':0<L:=(by omega); simp [results,Tryz.results80,go_sem,Ks,Km,Kn,Mo,Ti,Ei, *]) | (have hL':¬ 0<L:=(by omega); simp [results,Tryz.results80,go_sem,Ks,Km,Kn,Mo,Ti,Ei, *])) rfl ?_
                    exact ⟨by rw [HT.out],L0 _ _⟩))
end Go.Proofs.YtfjieibndedngaaGreat
