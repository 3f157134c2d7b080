import Derived.Test.YtjnjnppongdhgaaGreatKU
namespace Go.Proofs.YtjnjnppongdhgaaGreat
set_option maxHeartbeats 8000000
set_option maxRecDepth 40000
set_option linter.unusedVariables false
set_option linter.unusedSimpArgs false
open Go.ChangeShapes Go.WideShapes Go.ChangeAt Go.RowKit Go.Sort
structure Do (m:Nat) (d:Ao):Prop where
 nq:d.nq≤m
 ns:d.ns≤m
 mf:d.mf≤m
theorem Do.mono {m m':Nat} {d:Ao} (h:Do m d) (hm:m≤m'):Do m' d:=⟨Nat.le_trans h.nq hm,Nat.le_trans h.ns hm,Nat.le_trans h.mf hm⟩
theorem Do.tick {m:Nat} {d:Ao} (h:Do m d):Do (m+1) (Cx d):=by
 obtain ⟨h1,h2,h3⟩:=h;refine ⟨?_,?_,?_⟩
 ·show d.nq≤m+1
  omega
 ·show (if Ef d.T=true then d.ns+1 else d.ns)≤m+1
  split <;> omega
 ·show (if d.t%64=48 then d.mf+1 else d.mf)≤m+1
  split <;> omega
theorem Do.ticks {d:Ao}:∀ (k:Nat) {m:Nat},Do m d→Do (m+k) (tickN k d)
 | 0,m,h=>h
 | k+1,m,h=>by rw [Lr]; exact (Do.ticks k h).tick
theorem Do.put {m:Nat} {d:Ao} (h:Do m d) (g:Nat→Int) (c:Bh):Do m (putCpu d g c):=⟨h.nq,h.ns,h.mf⟩
theorem Do.read {m:Nat} {d:Ao} (h:Do m d) (a:Int):Do (m+1) (Bd d a):=by
 obtain ⟨h1,h2,h3⟩:=h;unfold Bd;split
 ·exact ⟨by show d.nq+1≤m+1; omega,by show d.ns≤m+1; omega,by show d.mf≤m+1; omega⟩
 split
 ·exact ⟨by show d.nq+1≤m+1; omega,by show d.ns≤m+1; omega,by show d.mf≤m+1; omega⟩
 split
 ·exact ⟨by show d.nq+1≤m+1; omega,by show d.ns≤m+1; omega,by show d.mf≤m+1; omega⟩
 exact ⟨by omega,by omega,by omega⟩
theorem Do.write {m:Nat} {d:Ao} (h:Do m d) (a y:Int):Do m (A6 d a y):=by
 obtain ⟨h1,h2,h3⟩:=h;unfold A6
 repeat' split
 all_goals exact ⟨h1,h2,h3⟩
theorem Do.act {m:Nat} {d:Ao} (h:Do m d):Do (m+1) (actD d):=by
 have h':=h.mono (Nat.le_succ m);unfold actD;split
 ·exact Do.put (d:=noNmi d) ⟨h'.nq,h'.ns,h'.mf⟩ _ _
 split
 ·exact h'.put _ _
 ·unfold opD Xf Dj
  refine Do.put ?_ _ _;split
  ·exact h.read _
  split
  ·exact h'.write _ _
  ·exact h'
structure Rb (m:Nat) (d:Ao):Prop extends Do m d where
 lf:∀ i,i<d.mf→d.lf i=48
theorem Rb.mono {m m':Nat} {d:Ao} (h:Rb m d) (hm:m≤m'):Rb m' d:=⟨h.toDo.mono hm,h.lf⟩
theorem Rb.none (m:Nat) {d:Ao} (h1:d.nq=0) (h2:d.ns=0) (h3:d.mf=0):Rb m d:=⟨⟨by omega,by omega,by omega⟩,fun i hi=>by omega⟩
theorem Rb.step {m:Nat} {d:Ao} (h:Rb m d):Rb (m+8) (Ii d):=by
 unfold Ii;split
 ·rename_i hok
  split
  ·rename_i hB
   have hn:=Pd d;have:=(h.toDo.act.ticks (Fi d).toNat).mono (m':=m+8) (by omega);have ok:=(Sd hok).t.act.ticks (Fi d).toNat (by have:=of_decide_eq_true hB; omega);exact ⟨⟨this.nq,this.ns,this.mf⟩,fun i hi=>ok.lf i hi⟩
  ·exact h.mono (by omega)
 ·exact Rb.none _ rfl rfl rfl
theorem Az.lockOn {W:World} {lo N:Nat} {D:Nat→Nat→Prop} {u0 u1 u2 u3 u4 ov:Value} {gb cp:Nat→Nat} {g6 c6 g7 c7:Nat} {d:Ao} (H:Az W lo N D u0 u1 u2 u3 u4 ov gb cp g6 c6 g7 c7 d):As W D (.agg (rowL u0 u1 u2 u3 u4 ov g6 c6 g7 c7 d)) d :=
 ⟨u0,u1,u2,u3,u4,ov,_,_,rfl,H.h0,H.h1,H.h2,H.h3,_,_,_,rfl,H.h4.onD H.h4D H.hps,H.h6.onE H.h6D,H.h7.onE H.h7D⟩
def Ei (W:World) (p N:Nat) (v:Value) (d:Ao):Prop:=(v=.agg zero34∧d=J5)∨∃ (q:Nat) (E:Nat→Nat→Prop) (u0 u1 u2 u3 u4 ov:Value) (gb cp:Nat→Nat) (g6 c6 g7 c7:Nat),p≤q∧v=.agg (rowL u0 u1 u2 u3 u4 ov g6 c6 g7 c7 d)∧Az W q N E u0 u1 u2 u3 u4 ov gb cp g6 c6 g7 c7 d
section
variable {W W':World} {p N:Nat} {v:Value} {d:Ao} {R:Nat→Nat→Prop}
theorem Eh.y (h:Eh W p v d):Ei W p W.heap.size v d:=by
 rcases h with h | ⟨l,hl,H⟩
 ·exact Or.inl h
 ·obtain ⟨D,u0,u1,u2,u3,u4,ov,gb,cp,g6,c6,g7,c7,e,HP⟩:=Az.of H
  exact Or.inr ⟨l,D,u0,u1,u2,u3,u4,ov,gb,cp,g6,c6,g7,c7,hl,e,HP⟩
theorem Ei.keep (h:Ei W p N v d) (hw:Wrote R W W') (hR:∀ b o,R b o→¬ (p≤b∧b<N)):Ei W' p N v d:=by
 rcases h with h | ⟨q,E,u0,u1,u2,u3,u4,ov,gb,cp,g6,c6,g7,c7,hq,e,HP⟩
 ·exact Or.inl h
 ·refine Or.inr ⟨q,E,u0,u1,u2,u3,u4,ov,gb,cp,g6,c6,g7,c7,hq,e,HP.keepD hw (fun i b o hd hr=>hR b o hr ?_) (fun o hr=>hR _ o hr ?_) (fun o hr=>hR _ o hr ?_)⟩
  ·have:=HP.bd i b hd; omega
  ·have:=HP.h6.parts.1; have:=HP.n6; omega
  ·have:=HP.h7.parts.1; have:=HP.n7; omega
theorem Ei.below (h:Ei W p N v d) (L:Below W.heap.size W W'):Ei W' p N v d:=h.keep (Ab L Ak) (fun _ _ x=>x.elim)
theorem Ei.on (h:Ei W p N v d):∃ E,As W E v d∧Up E∧∀ i b,E i b→p≤b∧b<N:=by
 rcases h with ⟨rfl,rfl⟩ | ⟨q,E,u0,u1,u2,u3,u4,ov,gb,cp,g6,c6,g7,c7,hq,rfl,HP⟩
 ·exact ⟨fun _ _=>False,Q2,fun i j b h=>h.elim,fun i b h=>h.elim⟩
 ·exact ⟨E,HP.lockOn,HP.dis,fun i b h=>⟨Nat.le_trans hq (HP.bd i b h).1,(HP.bd i b h).2⟩⟩
theorem Ei.tell (h:Ei W p N v d) {lo:Nat} (hl:lo≤p):Eh W lo v d:=by
 rcases h with h | ⟨q,E,u0,u1,u2,u3,u4,ov,gb,cp,g6,c6,g7,c7,hq,rfl,HP⟩
 ·exact Or.inl h
 ·exact Or.inr ⟨q,Nat.le_trans hl hq,HP.ow⟩
end
structure Rc (w:World) (p N:Nat) (W:World) (l:Jv) (v:Value) (d:Ao):Prop extends Dv w (fun b=>p≤b∧b<N) W l where
 y:Ei W p N v d
 lo:w.heap.size≤p
section
variable {w W W':World} {D:Nat→Prop} {p N:Nat} {l:Jv} {i b:Nat} {cs:Array Value} {t:TypeId} {v:Value} {d:Ao}
theorem Dv.told (h:Dv w D W l) (L:Below W.heap.size W W') (T:Eh W' W.heap.size v d):Rc w W.heap.size W'.heap.size W' l v d:=⟨h.re L,T.y,h.below.size⟩
theorem Rc.call (h:Rc w p N W l v d) (L:Below W.heap.size W W'):Rc w p N W' l v d:=⟨h.toDv.call L,h.y.below L,h.lo⟩
theorem Rc.alloc (h:Rc w p N W l v d) (cs:Array Value) (t:TypeId) (n:Nat) (e:W.heap.size=n):Rc w p N (W.alloc (.cells cs t)) (l++[(n,cs,t)]) v d:=⟨h.toDv.alloc cs t n e,h.y.below ((Below.refl _ _).alloc (Nat.le_refl _) _),h.lo⟩
theorem Rc.row (h:Rc w p N W l v d) (i:Nat) (e:l[i]?=some (b,cs,t)) (cs':Array Value):Rc w p N (W.setRow b cs') (l.set i (b,cs',t)) v d:=⟨h.toDv.row i e cs',h.y.keep (Ch (h.ret i e) cs') (fun b' o (he:b'=b)=>he ▸ h.no i e),h.lo⟩
theorem Rc.take (h:Rc w p N W l v d) (n:Nat):Rc w p N W (l.take n) v d:=⟨h.toDv.take n,h.y,h.lo⟩
theorem Rc.tell (h:Rc w p N W l v d):Eh W w.heap.size v d:=h.y.tell h.lo
end
theorem Q6 (w:World) (D:Nat→Nat→Prop) (v:Value) (d:Ao) (n:Int) (m:Nat) (H:As w D v d) (hn:n≤100) (hm:Rb m d) (hm2:m≤100000):Calls Tryz.prog 85 #[v,.i n] w fun e w'=>∃ v' k d',e=.returned (.tuple #[v',.i k])∧Eh w' w.heap.size v' d'∧Rb (m+800) d'∧Below w.heap.size w w':=by
 obtain ⟨cs,rfl,hsz,hone⟩:=H.agg;have B:=((Dv.nil w).alloc cs 41 w.heap.size rfl).alloc zR 41 (w.heap.size+1) (by simp);have H0:=H.below B.below;have HSZ:=Ac hsz;clear hsz hone H
 obtain ⟨ok,hok⟩:∃ x,Hid (x=okLock d):=⟨_,rfl⟩
 have HLO:=Ac (fun W D (k:As W D (.agg cs) d)=>Dz W D (.agg cs) d k);rw [← hok.out] at HLO;have HM:=Ac hm;clear hm
 go_enter Tryz.func85,Tryz.ntmps85
 go_upto_region 1 with (fail);generalize (w.alloc (.cells cs 41)).alloc (.cells zR 41)=W0 at *;generalize hrs:(zR:Array Value)=rs at *
 have HRS:Hid (rs.size=34):=by show _=_; rw [← hrs]; rfl
 clear hrs;rename_i K3 hK3;refine wp_region_lit ?_;refine wpList_load_row rfl _ _ rfl (w.heap.size) rfl _ _ _ _ (B.ret 0 rfl) Tryz.underlying41 rfl (infoAt Af HSZ.out) ?_;refine Ax rfl _ _ (by kernel_rfl) (HLO.out W0 _ H0) ?_;rintro e W1 ⟨rfl,L⟩;refine ⟨_,rfl,?_⟩;replace B:=B.call L;replace H0:=H0.below L;clear L HLO
 (refine wpList_plain rfl (fun K9 hK9=>?_); go_simp; refine hK9 _ _ ?_; clear hK9)
 refine hK3 _ _ ?_;clear hK3;cases ok
 ·go_upto_region 2 with (fail)
  rename_i K3 hK3;refine wp_region_lit ?_
  (refine wpList_plain rfl (fun K9 hK9=>?_); go_simp; refine hK9 _ _ ?_; clear hK9)
  refine wpList_store_row rfl _ _ _ rfl (w.heap.size+1) zero34 rfl rfl _ _ (B.ret 1 rfl) (infoAt Af G8) (HRS.out.trans G8.symm) (by first | kernel_rfl | rfl | simp [zero34,Value.oneCell']) ?_
  (refine wpList_plain rfl (fun K9 hK9=>?_); go_simp; refine hK9 _ _ ?_; clear hK9)
  replace B:=B.row 1 rfl zero34;have hcs:=G8;generalize W1.setRow (w.heap.size+1) zero34=W2 at *;refine hK3 _ _ ?_;clear hK3;go_wp2;refine bodyPost_ret (v:=.tuple #[.agg zero34,.i _]) (Au Tryz.results85 _ _ (w.heap.size+1) _ _ _ _ rfl (B.ret 1 rfl) Tryz.underlying41 rfl (infoAt Af hcs)) rfl ?_;exact ⟨_,_,J5,rfl,Or.inl ⟨rfl,rfl⟩,Rb.none _ rfl rfl rfl,B.below⟩
 ·go_upto_region 3 with (fail)
  rename_i K3 hK3;refine wp_region_lit ?_;refine wpList_load_row rfl _ _ rfl (w.heap.size) rfl _ _ _ _ (B.ret 0 rfl) Tryz.underlying41 rfl (infoAt Af HSZ.out) ?_;refine Ax rfl _ _ (by kernel_rfl) (Kf W1 _ _ d H0) ?_;rintro e W2 ⟨v2,rfl,O,L⟩;refine ⟨_,rfl,?_⟩;have K:=B.told L (show Eh _ _ _ _ from Or.inr ⟨_,Nat.le_refl _,O⟩);obtain ⟨E,KE,-⟩:=K.y.on;obtain ⟨co,rfl,hco,ho1⟩:=KE.agg;clear KE;clear B O L H0
  (refine wpList_plain rfl (fun K9 hK9=>?_); go_simp; refine hK9 _ _ ?_; clear hK9)
  replace K:=K.alloc zR 41 _ rfl;generalize W2.heap.size=bo at *;generalize W2.alloc (.cells zR 41)=W3 at *;refine wpList_store_row rfl _ _ _ rfl (bo) co rfl rfl _ _ (K.ret 2 rfl) (infoAt Af hco) (hco.symm) ho1 ?_;replace K:=K.row 2 rfl co;generalize W3.setRow bo co=W4 at *;refine hK3 _ _ ?_;clear hK3;have HC:=Ac hco;have HO:=Ac ho1;have HK:=Ac K;clear hco ho1 K;go_wp2_with fail
  go_loopw [7] (fun i wr=>∃ (q p N:Nat) (co:Array Value) (d':Ao),q≤100∧i=.i q∧Rc w p N wr [(w.heap.size,cs,41),(w.heap.size+1,rs,41),(bo,co,41)] (.agg co) d'∧co.size=34∧co.all (·.oneCell')=true∧Rb (m+8*q) d') (fun i _=>100-(intOf i).toNat)
  case atStart=>exact ⟨0,_,_,co,d,by omega,rfl,HK.out,HC.out,HO.out,HM.out⟩
  case round =>
   obtain ⟨q,p,N,co,d',hq,rfl,K,hco,ho1,hF⟩:=hrel;obtain ⟨E,KE,-⟩:=K.y.on
   have hnq:d'.nq<1048576:=by have:=hF.nq; omega
   by_cases hlt:(q:Int)<min n 3000
   ·go_wp2_with fail
    refine (Jan _ _ _).mono ?_;rintro e w9 ⟨rfl,rfl⟩;go_upto_region 6 with (fail);rename_i K3 hK3;refine wp_region_lit ?_;refine wpList_load_row rfl _ _ rfl (bo) rfl _ _ _ _ (K.ret 2 rfl) Tryz.underlying41 rfl (infoAt Af hco) ?_;refine Ax rfl _ _ (by kernel_rfl) (Pe _ _ _ d' KE (fun _=>hnq)) ?_;rintro e W5 ⟨v2,rfl,T,L⟩;refine ⟨_,rfl,?_⟩;have K2:=K.toDv.told L T;replace K:=K.call L;obtain ⟨E2,KE2,-⟩:=K2.y.on;obtain ⟨c2,rfl,hc2,ho2⟩:=KE2.agg;clear T L KE KE2;generalize stepQ d'=sq at *
    iterate 4 (refine wpList_plain rfl (fun K9 hK9=>?_); go_simp; refine hK9 _ _ ?_; clear hK9)
    replace K2:=K2.alloc zR 41 _ rfl;replace K:=K.alloc zR 41 _ rfl;generalize W5.heap.size=bn at *;generalize W5.alloc (.cells zR 41)=W6 at *;refine wpList_store_row rfl _ _ _ rfl (bn) c2 rfl rfl _ _ (K2.ret 3 rfl) (infoAt Af hc2) (hc2.symm) ho2 ?_;replace K2:=K2.row 3 rfl c2;replace K:=K.row 3 rfl c2;generalize W6.setRow bn c2=W7 at *
    (refine wpList_plain rfl (fun K9 hK9=>?_); go_simp; refine hK9 _ _ ?_; clear hK9)
    refine hK3 _ _ ?_;clear hK3;cases sq
    ·go_upto_region 8 with (fail)
     rename_i K3 hK3;refine wp_region_lit ?_;refine wpList_load_row rfl _ _ rfl (bo) rfl _ _ _ _ (K.ret 2 rfl) Tryz.underlying41 rfl (infoAt Af hco) ?_
     (refine wpList_plain rfl (fun K9 hK9=>?_); go_simp; refine hK9 _ _ ?_; clear hK9)
     refine wpList_store_row rfl _ _ _ rfl (w.heap.size+1) co rfl rfl _ _ (K.ret 1 rfl) (infoAt Af hco) ((HRS.out.trans hco.symm)) ho1 ?_;replace K:=K.row 1 rfl co;have hcs:=hco
     (refine wpList_plain rfl (fun K9 hK9=>?_); go_simp; refine hK9 _ _ ?_; clear hK9)
     refine hK3 _ _ ?_;clear hK3;go_wp2;refine bodyPost_ret (v:=.tuple #[.agg co,.i _]) (Au Tryz.results85 _ _ (w.heap.size+1) _ _ _ _ rfl (K.ret 1 rfl) Tryz.underlying41 rfl (infoAt Af hcs)) rfl ?_
     first | exact ⟨_,_,d',rfl,K.tell,hF.mono (by omega),K.below⟩ | exact ⟨_,⟨_,rfl⟩,d',K.tell,hF.mono (by omega),K.below⟩
    ·go_upto_region 9 with (fail)
     rename_i K3 hK3;refine wp_region_lit ?_;refine wpList_load_row rfl _ _ rfl (bn) rfl _ _ _ _ (K2.ret 3 rfl) Tryz.underlying41 rfl (infoAt Af hc2) ?_;refine wpList_store_row rfl _ _ _ rfl (bo) c2 rfl rfl _ _ (K2.ret 2 rfl) (infoAt Af hc2) ((hco.trans hc2.symm)) ho2 ?_;replace K2:=(K2.row 2 rfl c2).take 3;generalize W7.setRow bo c2=W8 at *;refine hK3 _ _ ?_;clear hK3;go_wp2;go_roundw
     case rel=>exact ⟨q+1,_,_,c2,Ii d',by omega,by go_num,K2,hc2,ho2,hF.step.mono (by omega)⟩
     case measure=>simp [intOf]; omega
   ·go_wp2_with fail
    refine (Jan _ _ _).mono ?_;rintro e w9 ⟨rfl,rfl⟩;go_upto_region 11 with (fail);rename_i K3 hK3;refine wp_region_lit ?_;refine wpList_load_row rfl _ _ rfl (bo) rfl _ _ _ _ (K.ret 2 rfl) Tryz.underlying41 rfl (infoAt Af hco) ?_
    (refine wpList_plain rfl (fun K9 hK9=>?_); go_simp; refine hK9 _ _ ?_; clear hK9)
    refine wpList_store_row rfl _ _ _ rfl (w.heap.size+1) co rfl rfl _ _ (K.ret 1 rfl) (infoAt Af hco) ((HRS.out.trans hco.symm)) ho1 ?_;replace K:=K.row 1 rfl co;have hcs:=hco
    (refine wpList_plain rfl (fun K9 hK9=>?_); go_simp; refine hK9 _ _ ?_; clear hK9)
    refine hK3 _ _ ?_;clear hK3;go_wp2;refine bodyPost_ret (v:=.tuple #[.agg co,.i _]) (Au Tryz.results85 _ _ (w.heap.size+1) _ _ _ _ rfl (K.ret 1 rfl) Tryz.underlying41 rfl (infoAt Af hcs)) rfl ?_
    first | exact ⟨_,_,d',rfl,K.tell,hF.mono (by omega),K.below⟩ | exact ⟨_,⟨_,rfl⟩,d',K.tell,hF.mono (by omega),K.below⟩
end Go.Proofs.YtjnjnppongdhgaaGreat
