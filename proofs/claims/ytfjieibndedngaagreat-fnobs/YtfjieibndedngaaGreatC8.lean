import Derived.Test.YtfjieibndedngaaGreatC6
import Derived.Deep.RegionLaw
namespace Go.Proofs.YtfjieibndedngaaGreat
set_option maxHeartbeats 2000000
set_option maxRecDepth 20000
set_option linter.unusedVariables false
open Go.ChangeShapes Go.WideShapes Go.ChangeAt Go.RowKit
theorem Au.setLow {w:World} {lo:Nat} {v:Value} {n:Nat} {f:Nat→Int} (h:Au w lo v n f) {d o:Nat} (hd:d<lo) (x:Value):Au (w.setCell ⟨d,o,none⟩ x) lo v n f:=by
 obtain ⟨a,cap,hv,hn,hR,hF,hL⟩:=h;have W1:Wrote (fun b _=>b=d) w (w.setCell ⟨d,o,none⟩ x):=Wrote.setCell (R:=fun b _=>b=d) (Wrote.refl _ w) (fun _=>rfl) x;exact ⟨a,cap,hv,hn,hR.keep W1 (fun b o h e=>by have:=hL b o h; omega),hF.keep W1,hL⟩
theorem Au.mono {w:World} {lo lo':Nat} {v:Value} {n:Nat} {f:Nat→Int} (h:Au w lo v n f) (hl:lo'≤lo):Au w lo' v n f:=by
 obtain ⟨a,cap,hv,hn,hR,hF,hL⟩:=h;exact ⟨a,cap,hv,hn,hR,hF,fun b o h=>Nat.le_trans hl (hL b o h)⟩
theorem Jh (w:World) (G:Nat→Nat→Prop) (u:Value) (n:Nat) (g:Nat→Int) (bank:Int) (K:Ints .i64 w G u n g) :
  Calls Tryz.prog 33 #[.agg #[u,.i bank]] w fun e w'=>∃ v,e=.returned (.agg #[v,.i bank])∧Au w' w.heap.size v n g∧Below w.heap.size w w':=by
 have L0:Below w.heap.size w ((w.alloc (.cells #[u,.i bank] 34)).alloc (.cells mZ 34)):=((Below.refl _ _).alloc (Nat.le_refl _) _).alloc (by simp) _;have K0:=K.keep (Aa L0 Ah) (fun _ _ _ x=>x);obtain ⟨ua,ucap,rfl,un,hrow,-⟩:=K0;have b1:((w.alloc (.cells #[.slice ua n ucap,.i bank] 34)).alloc (.cells mZ 34)).heap[w.heap.size]?=some (.cells #[.slice ua n ucap,.i bank] 34 (0,0)):=A9 (Ak w _ _) _
 have r1:((w.alloc (.cells #[.slice ua n ucap,.i bank] 34)).alloc (.cells mZ 34)).heap[w.heap.size+1]?=some (.cells mZ 34 (0,0)):=by simpa using Ak (w.alloc (.cells #[.slice ua n ucap,.i bank] 34)) mZ 34
 go_enter Tryz.func33,Tryz.ntmps33
 go_wp2_with fail;generalize ((w.alloc (.cells #[.slice ua n ucap,.i bank] 34)).alloc (.cells mZ 34))=w1 at *;have cb:=Aj b1;have cr:=Aj r1;have fr:=Ax r1;obtain ⟨i0,hi,hz0,hz1,hz2⟩:=info_parts info3
 by_cases h0:n=0
 ·subst h0
  have hl0:∀ (W:World) (ad:Addr),(loadCells ad 0).run Tryz.prog W=.ok #[] W:=fun W ad=>by
   simpa using run_loadCells_list (P:=Tryz.prog) W ad [] (fun j v h=>by simp at h)
  have cb':=Aj (A9 b1 (.cells #[] 3));have cr':=Aj (A9 r1 (.cells #[] 3));have fr':=Ax (A9 r1 (.cells #[] 3))
  cases ua with
  | none =>
   go_region
   all_goals
    go_wp2;refine bodyPost_ret (v:=.agg #[.slice (some ⟨w1.heap.size,0,none⟩) 0 0,.i bank]) (by simp [results,Tryz.results33,go_sem,cr']) rfl ?_;exact ⟨_,rfl,⟨_,_,rfl,by omega,fun i hi=>absurd hi (Nat.not_lt_zero _),fun b o hF=>absurd hF (Ay _ _ _),fun b o hF=>absurd hF (Ay _ _ _)⟩,(((L0.alloc L0.size _).drew.setCell (by simp) _).setCell (by simp) _)⟩
  | some ad =>
   go_region
   all_goals
    go_wp2;refine bodyPost_ret (v:=.agg #[.slice (some ⟨w1.heap.size,0,none⟩) 0 0,.i bank]) (by simp [results,Tryz.results33,go_sem,cr']) rfl ?_;exact ⟨_,rfl,⟨_,_,rfl,by omega,fun i hi=>absurd hi (Nat.not_lt_zero _),fun b o hF=>absurd hF (Ay _ _ _),fun b o hF=>absurd hF (Ay _ _ _)⟩,(((L0.alloc L0.size _).drew.setCell (by simp) _).setCell (by simp) _)⟩
 ·obtain ⟨rb,ro,rfl,-⟩:=hrow 0 (by omega)
  have HR:=Ad hrow
  have hgb:∀ {w':World},((w1.alloc (.cells #[] 3)).drew).grownBy w' none→Below w1.heap.size w1 w':=fun h=>((Below.refl _ w1).alloc (Nat.le_refl _) _).drew.grown h (by simp) (fun _ e=>by cases e)
  have HRr:Hid (Bv .i64 (w1.alloc (.cells #[] 3)).drew (some ⟨rb,ro,none⟩) n g):=hrow.keep (Aa (((Below.refl _ w1).alloc (Nat.le_refl _) _).drew) Ah) (fun _ _ _ x=>x);have cb':=Aj (A9 b1 (.cells #[] 3));have cr':=Aj (A9 r1 (.cells #[] 3));have fr':=Ax (A9 r1 (.cells #[] 3));clear hrow
  go_region_law (first | (
   refine step_append_grows rfl (.tmp 3) (.tmp 5) 25 rfl 3 i0 (.i 0) 1 8 Tryz.underlying25 hi hz0 hz1 hz2 rfl (by decide) (some ⟨w1.heap.size,0,none⟩) 0 0 [] (by simp [Act.eval]) (fun _=>⟨rfl,rfl⟩) rfl (fun _ _ j u h=>by simp at h) ⟨rb,ro,none⟩ n ucap (rowVals n g) (by simp [Act.eval]) (by rw [Bi,Nat.mul_one]) (Dx HRr.out) (No _ _) (by omega) (by unfold maxLen; omega) (by omega) ?_;intro v' w2 hown hgrow;have LL:=hgb hgrow
   have hon:w2.ownsRow (w1.alloc (.cells #[] 3)).drew.heap.size 3 1 v' n (rowVals n g):=by simpa using hown
   obtain ⟨g',cap2,rfl,hg,hlt⟩:=hon.form (by omega);have cb2:=Aj (Ac b1 LL (Af b1));have cr2:=Aj (Ac r1 LL (Af r1))
   have fr2:=Ax (Ac r1 LL (Af r1))))
  all_goals
   go_wp2
   have hg2:w1.heap.size+1≤g':=by simpa using hg
   have hr1:=Af r1;have O2:Au w2 (w.heap.size+2) (.slice (some ⟨g',0,none⟩) n cap2) n g:=Qp hon (by omega) hlt un;refine bodyPost_ret (v:=.agg #[.slice (some ⟨g',0,none⟩) n cap2,.i bank]) (by simp [results,Tryz.results33,go_sem,cr2]) rfl ?_;exact ⟨_,rfl,((O2.setLow (by omega) _).setLow (by omega) _).mono (by omega),((L0.trans (LL.mono L0.size)).setCell (by simp) _).setCell (by simp) _⟩
theorem Ld (x:Int):wrap64 x%256=x%256:=by
 unfold wrap64
 omega
theorem Ii (w:World) (d:Nat) (v0 v1 v2 v3 v4 v5 v6 v7:Value):Below d w ((((((((w.setCell ⟨d,0,none⟩ v0).setCell ⟨d,1,none⟩ v1).setCell ⟨d,2,none⟩ v2).setCell ⟨d,3,none⟩ v3).setCell ⟨d,4,none⟩ v4).setCell ⟨d,5,none⟩ v5).setCell ⟨d,6,none⟩ v6).setCell ⟨d,7,none⟩ v7) :=
 ((((((((Below.refl d w).setCell (Nat.le_refl _) _).setCell (Nat.le_refl _) _).setCell (Nat.le_refl _) _).setCell (Nat.le_refl _) _).setCell (Nat.le_refl _) _).setCell (Nat.le_refl _) _).setCell (Nat.le_refl _) _).setCell (Nat.le_refl _) _
theorem Mh (w:World) (G:Nat→Nat→Prop) (u:Value) (g:Nat→Int) (bank:Int) (K:Ints .i64 w G u 512 g) (A X S Pc:Int) (Z N C I:Bool) :
  Calls Tryz.prog 99 #[.agg #[u,.i bank],.agg (cR A X S Pc Z N C I)] w
   fun e w'=>e=.returned (.tuple #[.agg (cR A X ((S+1)%256) Pc Z N C I),.i (g (256+(S+1)%256).toNat%256)])∧Below w.heap.size w w':=by
 obtain ⟨ua,ucap,rfl,un,hrow,-⟩:=K
 have s0:0≤(S+1)%256:=by omega
 have s1:(S+1)%256<256:=by omega
 have hw:=Ld (S+1)
 obtain ⟨s,hs⟩:∃ s:Nat,(S+1)%256=s:=⟨((S+1)%256).toNat,by omega⟩
 rw [hs] at s0 s1 hw ⊢
 obtain ⟨k,hk⟩:∃ k:Nat,k=256+s:=⟨_,rfl⟩
 have hks:(256:Int)+(s:Int)=(k:Int):=by omega
 have hkl:(k:Int)<512:=by omega
 have hwk:IntKind.i64.wrap (k:Int)=(k:Int):=by rw [IntKind.wrap_i64]; omega
 obtain ⟨b,off,rfl,hc⟩:=hrow k (by omega)
 have ht:((256:Int)+(s:Int)).toNat=k:=by omega
 rw [ht];have HS:=Ad hs;have L0:Below w.heap.size w (((w.alloc (.cells #[.slice (some ⟨b,off,none⟩) 512 ucap,.i bank] 34)).alloc (.cells (cR A X s Pc Z N C I) 36)).alloc (.cells cZ 36)):=(((Below.refl _ _).alloc (Nat.le_refl _) _).alloc (by simp) _).alloc (by simp; omega) _;have hc3:=(L0.cell (block_lt_of_cell hc)).trans hc;have b0:=A9 (A9 (Ak w #[.slice (some ⟨b,off,none⟩) 512 ucap,.i bank] 34) (.cells (cR A X s Pc Z N C I) 36)) (.cells cZ 36)
 have b1:(((w.alloc (.cells #[.slice (some ⟨b,off,none⟩) 512 ucap,.i bank] 34)).alloc (.cells (cR A X s Pc Z N C I) 36)).alloc (.cells cZ 36)).heap[w.heap.size+1]?=some (.cells (cR A X s Pc Z N C I) 36 (0,0)):=by simpa using A9 (Ak (w.alloc (.cells #[.slice (some ⟨b,off,none⟩) 512 ucap,.i bank] 34)) (cR A X s Pc Z N C I) 36) (.cells cZ 36)
 have b2:(((w.alloc (.cells #[.slice (some ⟨b,off,none⟩) 512 ucap,.i bank] 34)).alloc (.cells (cR A X s Pc Z N C I) 36)).alloc (.cells cZ 36)).heap[w.heap.size+1+1]?=some (.cells cZ 36 (0,0)):=by simpa using Ak ((w.alloc (.cells #[.slice (some ⟨b,off,none⟩) 512 ucap,.i bank] 34)).alloc (.cells (cR A X s Pc Z N C I) 36)) cZ 36
 clear hs ht hk hrow hc
 go_enter Tryz.func99,Tryz.ntmps99
 go_wp2_with fail;refine (Ba _ _).mono ?_;rintro e w1 ⟨rfl,rfl⟩;rw [hw];go_upto_region 4 with (fail);generalize (((w.alloc (.cells #[.slice (some ⟨b,off,none⟩) 512 ucap,.i bank] 34)).alloc (.cells (cR A X s Pc Z N C I) 36)).alloc (.cells cZ 36))=w3 at *;have c0:=Aj b0;have c1:=Aj b1;have c2:=Aj b2;have f2:=Ax b2
 go_region_with (go_at_call 70; refine (Ba _ _).mono ?_; rintro e w2 ⟨rfl,rfl⟩)
 all_goals
  go_wp2;refine bodyPost_ret (v:=.tuple #[.agg (cR A X s Pc Z N C I),.i (g k%256)]) (by simp [results,Tryz.results99,go_sem,c2]) rfl ?_
  first | with_reducible exact ⟨rfl,(L0.trans ((Ii w3 _ _ _ _ _ _ _ _ _).mono (by omega))).drew⟩ | with_reducible exact ⟨rfl,L0.drew.trans ((Ii _ _ _ _ _ _ _ _ _ _).mono (by omega))⟩
end Go.Proofs.YtfjieibndedngaaGreat
