import Derived.Test.YtijljlnooibbmaaGreatDoorC6
import Derived.Deep.RegionLaw
namespace Go.Proofs.YtijljlnooibbmaaGreatDoor
set_option maxHeartbeats 2000000
set_option maxRecDepth 20000
open Go.Proofs.Tryz
set_option linter.unusedVariables false
open Go.ChangeShapes Go.WideShapes Go.ChangeAt Go.RowKit
theorem Ao.setLow {w:World} {lo:Nat} {v:Value} {n:Nat} {f:Nat->Int} (h:Ao w lo v n f) {d o:Nat} (hd:d<lo) (x:Value):Ao (w.setCell ⟨d,o,none⟩ x) lo v n f:=by
 obtain ⟨a,cap,hv,hn,hR,hF,hL⟩:=h;have W1:Wrote (fun b _=>b=d) w (w.sc d o x):=Wrote.setCell (R:=fun b _=>b=d) (Wrote.refl _ w) (fun _=>rfl) x;exact ⟨a,cap,hv,hn,hR.keep W1 (fun b o h e=>by have:=hL b o h; omega),hF.keep W1,hL⟩
theorem Ao.mono {w:World} {lo lo':Nat} {v:Value} {n:Nat} {f:Nat->Int} (h:Ao w lo v n f) (hl:lo'<=lo):Ao w lo' v n f:=by
 obtain ⟨a,cap,hv,hn,hR,hF,hL⟩:=h;exact ⟨a,cap,hv,hn,hR,hF,fun b o h=>Nat.le_trans hl (hL b o h)⟩
theorem Nv (w:World) (G:Nat->Nat->Prop) (u:Value) (n:Nat) (g:Nat->Int) (bank:Int) (K:Ints .i64 w G u n g) :
  Calls prog 56 #[.agg #[u,.i bank]] w fun e w'=>∃ v,e=.returned (.agg #[v,.i bank])/\Ao w' w.heap.size v n g/\Below w.heap.size w w':=by
 have L0:Below w.heap.size w ((w.alloc (.cells #[u,.i bank] 29)).alloc (.cells mZ 29)):=((Below.refl _ _).alloc (Nat.le_refl _) _).alloc (by simp) _;have K0:=K.keep (Aa L0 Aj) (fun _ _ _ x=>x);obtain ⟨ua,ucap,rfl,un,hrow,-⟩:=K0;have b1:((w.alloc (.cells #[.slice ua n ucap,.i bank] 29)).alloc (.cells mZ 29)).heap[w.heap.size]?=some (.cells #[.slice ua n ucap,.i bank] 29 (0,0)):=Az (Ak w _ _) _
 have r1:((w.alloc (.cells #[.slice ua n ucap,.i bank] 29)).alloc (.cells mZ 29)).heap[w.heap.size+1]?=some (.cells mZ 29 (0,0)):=by simpa using Ak (w.alloc (.cells #[.slice ua n ucap,.i bank] 29)) mZ 29
 go_enter func56,ntmps56
 go_wp2_with fail;generalize ((w.alloc (.cells #[.slice ua n ucap,.i bank] 29)).alloc (.cells mZ 29))=w1 at *;have cb:=Af b1;have cr:=Af r1;have fr:=Au r1;obtain ⟨i0,hi,hz0,hz1,hz2⟩:=info_parts Gp
 by_cases h0:n=0
 .subst h0
  have hl0:∀ (W:World) (ad:Addr),(loadCells ad 0).run prog W=.ok #[] W:=fun W ad=>by
   simpa using run_loadCells_list (P:=prog) W ad [] (fun j v h=>by simp at h)
  have cb':=Af (Az b1 (.cells #[] 3));have cr':=Af (Az r1 (.cells #[] 3));have fr':=Au (Az r1 (.cells #[] 3))
  cases ua with
  | none =>
   go_region
   all_goals
    go_wp2;refine bodyPost_ret (v:=.agg #[.sl w1.heap.size 0 0 0,.i bank]) (by simp [results,results56,go_sem,cr']) rfl ?_;exact ⟨_,rfl,⟨_,_,rfl,by omega,fun i hi=>absurd hi (Nat.not_lt_zero _),fun b o hF=>absurd hF (A4 _ _ _),fun b o hF=>absurd hF (A4 _ _ _)⟩,(((L0.alloc L0.size _).drew.setCell (by simp) _).setCell (by simp) _)⟩
  | some ad =>
   go_region
   all_goals
    go_wp2;refine bodyPost_ret (v:=.agg #[.sl w1.heap.size 0 0 0,.i bank]) (by simp [results,results56,go_sem,cr']) rfl ?_;exact ⟨_,rfl,⟨_,_,rfl,by omega,fun i hi=>absurd hi (Nat.not_lt_zero _),fun b o hF=>absurd hF (A4 _ _ _),fun b o hF=>absurd hF (A4 _ _ _)⟩,(((L0.alloc L0.size _).drew.setCell (by simp) _).setCell (by simp) _)⟩
 .obtain ⟨rb,ro,rfl,-⟩:=hrow 0 (by omega)
  have HR:=Ac hrow
  have hgb:∀ {w':World},((w1.alloc (.cells #[] 3)).drew).grownBy w' none->Below w1.heap.size w1 w':=fun h=>((Below.refl _ w1).alloc (Nat.le_refl _) _).drew.grown h (by simp) (fun _ e=>by cases e)
  have HRr:Hid (Cg .i64 (w1.alloc (.cells #[] 3)).drew (some ⟨rb,ro,none⟩) n g):=hrow.keep (Aa (((Below.refl _ w1).alloc (Nat.le_refl _) _).drew) Aj) (fun _ _ _ x=>x);have cb':=Af (Az b1 (.cells #[] 3));have cr':=Af (Az r1 (.cells #[] 3));have fr':=Au (Az r1 (.cells #[] 3));clear hrow
  go_region_law (first | (
   refine step_append_grows rfl (.tmp 3) (.tmp 5) 27 rfl 3 i0 (.i 0) 1 8 underlying27 hi hz0 hz1 hz2 rfl (by decide) (some ⟨w1.heap.size,0,none⟩) 0 0 [] (by simp [Act.eval]) (fun _=>⟨rfl,rfl⟩) rfl (fun _ _ j u h=>by simp at h) ⟨rb,ro,none⟩ n ucap (rowVals n g) (by simp [Act.eval]) (by rw [A6,Nat.mul_one]) (Dd HRr.out) (Gq _ _) (by omega) (by unfold maxLen; omega) (by omega) ?_;intro v' w2 hown hgrow;have LL:=hgb hgrow
   have hon:w2.ownsRow (w1.alloc (.cells #[] 3)).drew.heap.size 3 1 v' n (rowVals n g):=by simpa using hown
   obtain ⟨g',cap2,rfl,hg,hlt⟩:=hon.form (by omega);have cb2:=Af (Ab b1 LL (Ad b1));have cr2:=Af (Ab r1 LL (Ad r1))
   have fr2:=Au (Ab r1 LL (Ad r1))))
  all_goals
   go_wp2
   have hg2:w1.heap.size+1<=g':=by simpa using hg
   have hr1:=Ad r1;have O2:Ao w2 (w.heap.size+2) (.sl g' 0 n cap2) n g:=Rc hon (by omega) hlt un;refine bodyPost_ret (v:=.agg #[.sl g' 0 n cap2,.i bank]) (by simp [results,results56,go_sem,cr2]) rfl ?_;exact ⟨_,rfl,((O2.setLow (by omega) _).setLow (by omega) _).mono (by omega),((L0.trans (LL.mono L0.size)).setCell (by simp) _).setCell (by simp) _⟩
theorem Qs (x:Int):wrap64 x%256=x%256:=by
 unfold wrap64
 omega
theorem Mg (w:World) (d:Nat) (v0 v1 v2 v3 v4 v5 v6 v7:Value):Below d w ((((((((w.setCell ⟨d,0,none⟩ v0).setCell ⟨d,1,none⟩ v1).setCell ⟨d,2,none⟩ v2).setCell ⟨d,3,none⟩ v3).setCell ⟨d,4,none⟩ v4).setCell ⟨d,5,none⟩ v5).setCell ⟨d,6,none⟩ v6).setCell ⟨d,7,none⟩ v7) :=
 ((((((((Below.refl d w).setCell (Nat.le_refl _) _).setCell (Nat.le_refl _) _).setCell (Nat.le_refl _) _).setCell (Nat.le_refl _) _).setCell (Nat.le_refl _) _).setCell (Nat.le_refl _) _).setCell (Nat.le_refl _) _).setCell (Nat.le_refl _) _
theorem Rv (w:World) (G:Nat->Nat->Prop) (u:Value) (g:Nat->Int) (bank:Int) (K:Ints .i64 w G u 512 g) (A X S Pc:Int) (Z N C I:Bool) :
  Calls prog 140 #[.agg #[u,.i bank],.agg (cR A X S Pc Z N C I)] w
   fun e w'=>e=.returned (.tuple #[.agg (cR A X ((S+1)%256) Pc Z N C I),.i (g (256+(S+1)%256).toNat%256)])/\Below w.heap.size w w':=by
 obtain ⟨ua,ucap,rfl,un,hrow,-⟩:=K
 have s0:0<=(S+1)%256:=by omega
 have s1:(S+1)%256<256:=by omega
 have hw:=Qs (S+1)
 obtain ⟨s,hs⟩:∃ s:Nat,(S+1)%256=s:=⟨((S+1)%256).toNat,by omega⟩
 rw [hs] at s0 s1 hw ⊢
 obtain ⟨k,hk⟩:∃ k:Nat,k=256+s:=⟨_,rfl⟩
 have hks:(256:Int)+(s:Int)=(k:Int):=by omega
 have hkl:(k:Int)<512:=by omega
 have hwk:IntKind.i64.wrap (k:Int)=(k:Int):=by rw [IntKind.wrap_i64]; omega
 obtain ⟨b,off,rfl,hc⟩:=hrow k (by omega)
 have ht:((256:Int)+(s:Int)).toNat=k:=by omega
 rw [ht];have HS:=Ac hs;have L0:Below w.heap.size w (((w.alloc (.cells #[.sl b off 512 ucap,.i bank] 29)).alloc (.cells (cR A X s Pc Z N C I) 31)).alloc (.cells cZ 31)):=(((Below.refl _ _).alloc (Nat.le_refl _) _).alloc (by simp) _).alloc (by simp; omega) _;have hc3:=(L0.cell (block_lt_of_cell hc)).trans hc;have b0:=Az (Az (Ak w #[.sl b off 512 ucap,.i bank] 29) (.cells (cR A X s Pc Z N C I) 31)) (.cells cZ 31)
 have b1:(((w.alloc (.cells #[.sl b off 512 ucap,.i bank] 29)).alloc (.cells (cR A X s Pc Z N C I) 31)).alloc (.cells cZ 31)).heap[w.heap.size+1]?=some (.cells (cR A X s Pc Z N C I) 31 (0,0)):=by simpa using Az (Ak (w.alloc (.cells #[.sl b off 512 ucap,.i bank] 29)) (cR A X s Pc Z N C I) 31) (.cells cZ 31)
 have b2:(((w.alloc (.cells #[.sl b off 512 ucap,.i bank] 29)).alloc (.cells (cR A X s Pc Z N C I) 31)).alloc (.cells cZ 31)).heap[w.heap.size+1+1]?=some (.cells cZ 31 (0,0)):=by simpa using Ak ((w.alloc (.cells #[.sl b off 512 ucap,.i bank] 29)).alloc (.cells (cR A X s Pc Z N C I) 31)) cZ 31
 clear hs ht hk hrow hc
 go_enter func140,ntmps140
 go_wp2_with fail;refine (Bo _ _).mono ?_;rintro e w1 ⟨rfl,rfl⟩;rw [hw];go_upto_region 4 with (fail);generalize (((w.alloc (.cells #[.sl b off 512 ucap,.i bank] 29)).alloc (.cells (cR A X s Pc Z N C I) 31)).alloc (.cells cZ 31))=w3 at *;have c0:=Af b0;have c1:=Af b1;have c2:=Af b2;have f2:=Au b2
 go_region_with (go_at_call 128; refine (Bo _ _).mono ?_; rintro e w2 ⟨rfl,rfl⟩)
 all_goals
  go_wp2;refine bodyPost_ret (v:=.tuple #[.agg (cR A X s Pc Z N C I),.i (g k%256)]) (by simp [results,results140,go_sem,c2]) rfl ?_
  first | with_reducible exact ⟨rfl,(L0.trans ((Mg w3 _ _ _ _ _ _ _ _ _).mono (by omega))).drew⟩ | with_reducible exact ⟨rfl,L0.drew.trans ((Mg _ _ _ _ _ _ _ _ _ _).mono (by omega))⟩
end Go.Proofs.YtijljlnooibbmaaGreatDoor
