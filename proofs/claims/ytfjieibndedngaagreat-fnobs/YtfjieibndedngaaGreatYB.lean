import Derived.Test.YtfjieibndedngaaGreatX6
import Derived.Test.YtfjieibndedngaaGreatKN
import Derived.Test.YtfjieibndedngaaGreatNB
namespace Go.Proofs.YtfjieibndedngaaGreat
set_option maxHeartbeats 8000000
set_option maxRecDepth 40000
set_option linter.unusedVariables false
set_option linter.unusedSimpArgs false
open Go.ChangeShapes Go.WideShapes Go.ChangeAt Go.RowKit Go.Sort
theorem Bv.same {k:IntKind} {W W':World} {a:Option Addr} {n:Nat} {f:Nat→Int} (h:Bv k W a n f) (hb:∀ b o,Cd a n b o→b<W.heap.size→W'.heap[b]?=W.heap[b]?):Bv k W' a n f:=fun i hi=>by
 obtain ⟨b,off,rfl,hc⟩:=h i hi;exact ⟨b,off,rfl,(World.cell?_of_block (a:=⟨b,off+i,none⟩) (hb b _ (Bj hi) (block_lt_of_cell hc))).trans hc⟩
theorem Ie.same {W W':World} {F:Nat→Nat→Prop} (h:Ie W F) (hs:W.heap.size≤W'.heap.size) (hb:∀ b o,F b o→b<W.heap.size→W'.heap[b]?=W.heap[b]?):Ie W' F:=fun b o hf =>
 ⟨Nat.lt_of_lt_of_le (h b o hf).1 hs,(World.frozen?_of_block (a:=⟨b,o,none⟩) (hb b o hf (h b o hf).1)).trans (h b o hf).2⟩
section
variable {W W':World} {D:Nat→Prop} {E:Nat→Nat→Prop}
theorem Bl.same {a:Option Addr} {n:Nat} {f:Nat→Int} (h:Bl W D a n f) (hs:W.heap.size≤W'.heap.size) (hb:∀ b,D b→b<W.heap.size→W'.heap[b]?=W.heap[b]?):Bl W' D a n f :=
 ⟨h.small,h.row.same (fun b o hf=>hb b (h.on b o hf)),h.free.same hs (fun b o hf=>hb b (h.on b o hf)),h.on⟩
theorem Bg.same {u:Value} {n:Nat} {f:Nat→Int} (h:Bg W D u n f) (hs:W.heap.size≤W'.heap.size) (hb:∀ b,D b→b<W.heap.size→W'.heap[b]?=W.heap[b]?):Bg W' D u n f:=by
 obtain ⟨d,z,e,h⟩:=h;exact ⟨d,z,e,h.same hs hb⟩
theorem Bn.same {v:Value} {n:Nat} {g:Nat→Int} {bank:Int} (h:Bn W D v n g bank) (hs:W.heap.size≤W'.heap.size) (hb:∀ b,D b→b<W.heap.size→W'.heap[b]?=W.heap[b]?):Bn W' D v n g bank:=by
 obtain ⟨a,cap,e,hn,hr,hF,hD⟩:=h;exact ⟨a,cap,e,hn,hr.same (fun b o hf=>hb b (hD b o hf)),hF.same hs (fun b o hf=>hb b (hD b o hf)),hD⟩
theorem Bt.same {v:Value} {t c s ad pl:Int} {bl:Bool} {n m:Nat} {f g:Nat→Int} (h:Bt W D v t c s ad pl bl n f m g) (hs:W.heap.size≤W'.heap.size) (hb:∀ b,D b→b<W.heap.size→W'.heap[b]?=W.heap[b]?):Bt W' D v t c s ad pl bl n f m g:=by
 obtain ⟨a,x,b,y,e,h1,h2,h3⟩:=h;exact ⟨a,x,b,y,e,h1.same hs hb,h2.same hs hb,h3⟩
theorem Ck.same {u:Value} {m:Nat} {ln:Nat→Nat} {f:Nat→Nat→Int} (h:Ck W D u m ln f) (hs:W.heap.size≤W'.heap.size) (hb:∀ b,D b→b<W.heap.size→W'.heap[b]?=W.heap[b]?):Ck W' D u m ln f:=by
 obtain ⟨ra,rc,⟨⟨a,cap,hv,hm,ho⟩,hf,hdj,hs'⟩,hr,hi,hou,hl⟩:=h;refine ⟨ra,rc,⟨⟨a,cap,hv,hm,fun i hi'=>?_⟩,fun i hi'=>(hf i hi').same hs (fun b o hF=>hb b (hi i hi' b o hF)),hdj,hs'⟩,fun i hi'=>(hr i hi').same (fun b o hF=>hb b (hi i hi' b o hF)),hi,hou,hl⟩;obtain ⟨b,off,ha,hc,hn⟩:=ho i hi';exact ⟨b,off,ha,(World.cell?_of_block (a:=⟨b,off+i,none⟩) (hb b (hou a cap hv b _ (ha ▸ Bj hi')) (block_lt_of_cell hc))).trans hc,hn⟩
theorem Lr {lo:Nat} {t:TypeId} {z n:Nat} {v:Value} {xs:List Value} (h:W.ownsRow lo t z v n xs) (hb:∀ g,v.ownBlock=some g→W'.heap[g]?=W.heap[g]?):W'.ownsRow lo t z v n xs:=by
 obtain ⟨h1,h | ⟨g,cap,cur,hv,hg,hk,r⟩⟩:=h
 ·exact ⟨h1,Or.inl h⟩
 ·exact ⟨h1,Or.inr ⟨g,cap,cur,hv,hg,(hb g (by rw [hv]; rfl)).trans hk,r⟩⟩
theorem Row.same {lo g n c:Nat} {f:Nat→Int} (h:Row W lo g n c f) (e:W'.heap[g]?=W.heap[g]?):Row W' lo g n c f :=
 ⟨Lr h.own (fun g' he=>by injection he with he; subst he; exact e),h.small⟩
theorem SG.same {lo q:Nat} {ov:Value} {gb cp ln:Nat→Nat} {f:Nat→Nat→Int} (H:SG W lo ov q gb cp ln f) (h1:∀ g,ov.ownBlock=some g→W'.heap[g]?=W.heap[g]?) (h2:∀ i,i<q→W'.heap[gb i]?=W.heap[gb i]?):SG W' lo ov q gb cp ln f :=
 ⟨Lr H.own h1,fun i hi=>(H.rows i hi).same (h2 i hi),H.inj,H.dj,H.small⟩
theorem Av.same {lo N:Nat} {u0 u1 u2 u3 u4 ov:Value} {gb cp:Nat→Nat} {g6 c6 g7 c7:Nat} {d:Am} (H:Av W lo N E u0 u1 u2 u3 u4 ov gb cp g6 c6 g7 c7 d) (hs:W.heap.size≤W'.heap.size) (hb:∀ b,lo≤b→b<N→W'.heap[b]?=W.heap[b]?):Av W' lo N E u0 u1 u2 u3 u4 ov gb cp g6 c6 g7 c7 d :=
 have hD:∀ i b,E i b→W'.heap[b]?=W.heap[b]?:=fun i b h=>hb b (H.bd i b h).1 (H.bd i b h).2
 ⟨H.h0.same hs (fun b h _=>hD 0 b h),H.h1.same hs (fun b h _=>hD 1 b h),H.h2.same hs (fun b h _=>hD 2 b h),H.h3.same hs (fun b h _=>hD 3 b h),H.h4.same (fun g h=>hD 4 g (H.h4D g (Or.inl h))) (fun i hi=>hD 4 _ (H.h4D _ (Or.inr ⟨i,hi,rfl⟩))),H.h4D,H.h6.same (hb _ H.h6.parts.1 H.n6),H.h6D,H.h7.same (hb _ H.h7.parts.1 H.n7),H.h7D,H.dis,H.bd,H.n6,H.n7,Nat.le_trans H.nN hs,H.hps⟩
theorem Be.same {p N:Nat} {v:Value} {d:Am} (h:Be W p N v d) (hs:W.heap.size≤W'.heap.size) (hb:∀ b,p≤b→b<N→W'.heap[b]?=W.heap[b]?):Be W' p N v d:=by
 rcases h with h | ⟨q,E,u0,u1,u2,u3,u4,ov,gb,cp,g6,c6,g7,c7,hq,e,HP⟩
 ·exact Or.inl h
 ·exact Or.inr ⟨q,E,u0,u1,u2,u3,u4,ov,gb,cp,g6,c6,g7,c7,hq,e,HP.same hs (fun b h1 h2=>hb b (Nat.le_trans hq h1) h2)⟩
theorem As.same {v:Value} {d:Am} (h:As W E v d) (hs:W.heap.size≤W'.heap.size) (hb:∀ i b,E i b→b<W.heap.size→W'.heap[b]?=W.heap[b]?):As W' E v d:=by
 obtain ⟨u0,u1,u2,u3,u4,u5,u6,u7,e,h0,h1,h2,h3,h4⟩:=h;obtain ⟨u5',u6',u7',e',h5,h6,h7⟩:=h4;exact ⟨u0,u1,u2,u3,u4,u5,u6,u7,e,h0.same hs (hb 0),h1.same hs (hb 1),h2.same hs (hb 2),h3.same hs (hb 3),⟨u5',u6',u7',e',h5.same hs (hb 4),h6.same hs (hb 5),h7.same hs (hb 6)⟩⟩
end
structure F1 (w:World) (B c:Nat) (a:Option Addr) (len cap:Nat) (D:Nat→Prop) (W:World) (l:Ir):Prop where
 step:Step c w W
 cur:Dc W B c a len cap
 hc:c<w.heap.size
 all:∀ p,p∈l→W.heap[p.1]?=some (.cells p.2.1 p.2.2 (0,0))∧w.heap.size≤p.1∧¬ D p.1
 nd:(l.map (·.1)).Nodup
 lt:∀ b,D b→b<W.heap.size
 lo:∀ b,D b→w.heap.size≤b
theorem F1.nil {w:World} {B c:Nat} {a:Option Addr} {len cap:Nat} (H:Dc w B c a len cap):F1 w B c a len cap (fun _=>False) w []:=⟨Step.refl c w,H,H.lt,fun _ h=>(by cases h),List.nodup_nil,fun _ h=>h.elim,fun _ h=>h.elim⟩
section
variable {w W W':World} {B c:Nat} {a:Option Addr} {len cap p N:Nat} {D:Nat→Prop} {E:Nat→Nat→Prop} {l:Ir} {i b:Nat} {cs:Array Value} {t:TypeId} {v:Value} {d:Am}
theorem F1.ret (h:F1 w B c a len cap D W l) (i:Nat) (e:l[i]?=some (b,cs,t)):W.heap[b]?=some (.cells cs t (0,0)):=(h.all _ (List.mem_of_getElem? e)).1
theorem F1.no (h:F1 w B c a len cap D W l) (i:Nat) (e:l[i]?=some (b,cs,t)):¬ D b:=(h.all _ (List.mem_of_getElem? e)).2.2
theorem F1.up (h:F1 w B c a len cap D W l) (i:Nat) (e:l[i]?=some (b,cs,t)):w.heap.size≤b:=(h.all _ (List.mem_of_getElem? e)).2.1
theorem F1.move (h:F1 w B c a len cap D W l) (S:Step c W W') (H:Dc W' B c a len cap):F1 w B c a len cap D W' l :=
 ⟨h.step.trans S,H,h.hc,fun p hp=>⟨(S.block _ (Af (h.all p hp).1) (by have:=(h.all p hp).2.1; have:=h.hc; omega)).trans (h.all p hp).1,(h.all p hp).2⟩,h.nd,fun b hb=>Nat.lt_of_lt_of_le (h.lt b hb) S.size,h.lo⟩
theorem F1.call (h:F1 w B c a len cap D W l) (L:Below W.heap.size W W'):F1 w B c a len cap D W' l:=h.move (By L (Nat.le_refl _)) (h.cur.below L (Nat.lt_of_lt_of_le h.hc h.step.size))
theorem F1.alloc (h:F1 w B c a len cap D W l) (cs:Array Value) (t:TypeId) (n:Nat) (e:W.heap.size=n):F1 w B c a len cap D (W.alloc (.cells cs t)) (l++[(n,cs,t)]):=by
 subst e;have h':=h.call ((Below.refl W.heap.size W).alloc (Nat.le_refl _) (.cells cs t));refine ⟨h'.step,h'.cur,h.hc,fun p hp=>?_,?_,h'.lt,h.lo⟩
 ·rcases List.mem_append.1 hp with hp | hp
  ·exact h'.all p hp
  ·obtain rfl:=List.mem_singleton.1 hp
   exact ⟨Ak W cs t,h.step.size,fun hd=>absurd (h.lt _ hd) (Nat.lt_irrefl _)⟩
 ·rw [List.map_append,List.nodup_append]
  refine ⟨h.nd,by simp,fun a ha c hc e=>?_⟩;obtain ⟨p,hp,rfl⟩:=List.mem_map.1 ha;have:=Af (h.all p hp).1
  simp at hc
  omega
theorem F1.bx (h:F1 w B c a len cap D W l):Dv { W with heap:=W.heap.extract 0 w.heap.size } D W l:=by
 have hs:(W.heap.extract 0 w.heap.size).size=w.heap.size:=by have:=h.step.size; simp; omega
 refine ⟨⟨rfl,rfl,rfl,?_,fun k hk=>?_⟩,fun p hp=>⟨(h.all p hp).1,?_,(h.all p hp).2.2⟩,h.nd,h.lt⟩
 ·show (W.heap.extract 0 w.heap.size).size≤_
  rw [hs];exact h.step.size
 ·have hk':k<w.heap.size:=by have:k<(W.heap.extract 0 w.heap.size).size:=hk; omega
  show W.heap[k]?=(W.heap.extract 0 w.heap.size)[k]?
  have:=h.step.size;rw [Array.getElem?_extract]
  simp
  omega
 ·show (W.heap.extract 0 w.heap.size).size≤_
  rw [hs];exact (h.all p hp).2.1
theorem F1.wr (h:F1 w B c a len cap D W l) (i:Nat) (e:l[i]?=some (b,cs,t)) {cs':Array Value} (TT:Wrote (fun b' _=>b'=b) W W') (k:W'.heap[b]?=some (.cells cs' t (0,0))):F1 w B c a len cap D W' (l.set i (b,cs',t)):=by
 have hb:=h.up i e;have hc:=h.hc;have U:=h.bx.upd i e TT k
 have hs:(W.heap.extract 0 w.heap.size).size=w.heap.size:=by have:=h.step.size; simp; omega
 refine ⟨⟨TT.os.trans h.step.os,TT.tape.trans h.step.tape,TT.output.trans h.step.output,Nat.le_trans h.step.size TT.size,fun k hk hkc=>(TT.block k (Nat.lt_of_lt_of_le hk h.step.size) (fun _ (e:k=b)=>(by omega))).trans (h.step.block k hk hkc)⟩,h.cur.below (TT.below h.step.size (fun b' o h1 (h2:b'=b)=>(by omega))) hc,hc,fun p hp=>⟨(U.all p hp).1,?_,(U.all p hp).2.2⟩,U.nd,U.lt,h.lo⟩;have:=(U.all p hp).2.1;exact hs ▸ this
theorem F1.row (h:F1 w B c a len cap D W l) (i:Nat) (e:l[i]?=some (b,cs,t)) (cs':Array Value):F1 w B c a len cap D (W.setRow b cs') (l.set i (b,cs',t)):=h.wr i e (Ce (h.ret i e) cs') (setRow_heap _ _ _ _ _ _ (h.ret i e))
structure Iw (w:World) (B c:Nat) (a:Option Addr) (len cap:Nat) (E:Nat→Nat→Prop) (W:World) (l:Ir) (v:Value) (d:Am):Prop extends F1 w B c a len cap (fun b=>∃ i,E i b) W l where
 on:As W E v d
 dis:T9 E
theorem Iw.move (h:Iw w B c a len cap E W l v d) (S:Step c W W') (H:Dc W' B c a len cap):Iw w B c a len cap E W' l v d :=
 ⟨h.toF1.move S H,h.on.same S.size (fun i b hi hb=>S.block b hb (by have:=h.lo b ⟨i,hi⟩; have:=h.hc; omega)),h.dis⟩
theorem Iw.call (h:Iw w B c a len cap E W l v d) (L:Below W.heap.size W W'):Iw w B c a len cap E W' l v d:=⟨h.toF1.call L,h.on.below L,h.dis⟩
theorem Iw.alloc (h:Iw w B c a len cap E W l v d) (cs:Array Value) (t:TypeId) (n:Nat) (e:W.heap.size=n):Iw w B c a len cap E (W.alloc (.cells cs t)) (l++[(n,cs,t)]) v d:=⟨h.toF1.alloc cs t n e,h.on.below ((Below.refl _ _).alloc (Nat.le_refl _) _),h.dis⟩
theorem Iw.wr (h:Iw w B c a len cap E W l v d) (i:Nat) (e:l[i]?=some (b,cs,t)) {cs':Array Value} (TT:Wrote (fun b' _=>b'=b) W W') (k:W'.heap[b]?=some (.cells cs' t (0,0))):Iw w B c a len cap E W' (l.set i (b,cs',t)) v d:=⟨h.toF1.wr i e TT k,h.on.keep TT (fun j b' o hd _ (he:b'=b)=>h.no i e ⟨j,he ▸ hd⟩),h.dis⟩
theorem Iw.row (h:Iw w B c a len cap E W l v d) (i:Nat) (e:l[i]?=some (b,cs,t)) (cs':Array Value):Iw w B c a len cap E (W.setRow b cs') (l.set i (b,cs',t)) v d:=h.wr i e (Ce (h.ret i e) cs') (setRow_heap _ _ _ _ _ _ (h.ret i e))
theorem F1.made (h:F1 w B c a len cap D W l) (L:Below W.heap.size W W') (T:Told W' W.heap.size v d):∃ E,Iw w B c a len cap E W' l v d:=by
 obtain ⟨E,h1,h2,h3⟩:=T;have h':=h.call L;refine ⟨E,⟨⟨h'.step,h'.cur,h.hc,fun p hp=>⟨(h'.all p hp).1,(h.all p hp).2.1,fun ⟨i,hi⟩=>?_⟩,h.nd,fun b ⟨i,hi⟩=>(h3 i b hi).2,fun b ⟨i,hi⟩=>Nat.le_trans h.step.size (h3 i b hi).1⟩,h1,h2⟩⟩;have:=(h3 i _ hi).1;have:=Af (h.all p hp).1
 omega
structure J8 (w:World) (B c:Nat) (a:Option Addr) (len cap p N:Nat) (W:World) (l:Ir) (v:Value) (d:Am):Prop extends F1 w B c a len cap (fun b=>p≤b∧b<N) W l where
 y:Be W p N v d
 plo:w.heap.size≤p
 hN:N≤W.heap.size
theorem J8.move (h:J8 w B c a len cap p N W l v d) (S:Step c W W') (H:Dc W' B c a len cap):J8 w B c a len cap p N W' l v d :=
 ⟨h.toF1.move S H,h.y.same S.size (fun b h1 h2=>S.block b (h.lt b ⟨h1,h2⟩) (by have:=h.plo; have:=h.hc; omega)),h.plo,Nat.le_trans h.hN S.size⟩
theorem J8.call (h:J8 w B c a len cap p N W l v d) (L:Below W.heap.size W W'):J8 w B c a len cap p N W' l v d:=⟨h.toF1.call L,h.y.below L,h.plo,Nat.le_trans h.hN L.size⟩
theorem J8.alloc (h:J8 w B c a len cap p N W l v d) (cs:Array Value) (t:TypeId) (n:Nat) (e:W.heap.size=n):J8 w B c a len cap p N (W.alloc (.cells cs t)) (l++[(n,cs,t)]) v d:=⟨h.toF1.alloc cs t n e,h.y.below ((Below.refl _ _).alloc (Nat.le_refl _) _),h.plo,Nat.le_trans h.hN ((Below.refl W.heap.size W).alloc (Nat.le_refl _) (.cells cs t)).size⟩
theorem J8.wr (h:J8 w B c a len cap p N W l v d) (i:Nat) (e:l[i]?=some (b,cs,t)) {cs':Array Value} (TT:Wrote (fun b' _=>b'=b) W W') (k:W'.heap[b]?=some (.cells cs' t (0,0))):J8 w B c a len cap p N W' (l.set i (b,cs',t)) v d:=⟨h.toF1.wr i e TT k,h.y.keep TT (fun b' o (he:b'=b)=>he ▸ h.no i e),h.plo,Nat.le_trans h.hN TT.size⟩
theorem J8.row (h:J8 w B c a len cap p N W l v d) (i:Nat) (e:l[i]?=some (b,cs,t)) (cs':Array Value):J8 w B c a len cap p N (W.setRow b cs') (l.set i (b,cs',t)) v d:=h.wr i e (Ce (h.ret i e) cs') (setRow_heap _ _ _ _ _ _ (h.ret i e))
theorem J8.tell (h:J8 w B c a len cap p N W l v d):Du W w.heap.size v d:=h.y.tell h.plo
theorem F1.drawn (h:F1 w B c a len cap D W l) (S:Step c W W') (H:Dc W' B c a len cap) (T:Du W' W.heap.size v d):J8 w B c a len cap W.heap.size W'.heap.size W' l v d:=by
 have h':=h.move S H;refine ⟨⟨h'.step,h'.cur,h.hc,fun p hp=>⟨(h'.all p hp).1,(h.all p hp).2.1,fun hi=>?_⟩,h.nd,fun b hb=>hb.2,fun b hb=>Nat.le_trans h.step.size hb.1⟩,T.y,h.step.size,Nat.le_refl _⟩;have:=hi.1;have:=Af (h.all p hp).1
 omega
theorem F1.told (h:F1 w B c a len cap D W l) (L:Below W.heap.size W W') (T:Du W' W.heap.size v d):J8 w B c a len cap W.heap.size W'.heap.size W' l v d :=
 h.drawn (By L (Nat.le_refl _)) (h.cur.below L (Nat.lt_of_lt_of_le h.hc h.step.size)) T
end
theorem T3 (m:Nat) (ln:Nat→Nat) (f:Nat→Nat→Int) (np:Nat) (p:Nat→Int):Uc 0 (if okLock (newD m ln f np p) then newD m ln f np p else Q1):=by
 split <;> exact Uc.none _ rfl rfl rfl
theorem Hz (w:World) (B c:Nat) (a:Option Addr) (len cap:Nat) (H:Dc w B c a len cap) :
  Calls Tryz.prog 29 #[(pt c 0)] w fun e w'=>∃ v d,e=.returned v∧Du w' w.heap.size v d∧Uc 800 d∧Dc w' B c a len cap∧Step c w w':=by
 have B0:=(F1.nil H).alloc zR 44 w.heap.size rfl;have hc:=H.lt
 go_enter Tryz.func29,Tryz.ntmps29
 go_upto_region 1 with (fail)
 obtain ⟨W0,hW0⟩:∃ W,Hid (W=w.alloc (.cells zR 44)):=⟨_,rfl⟩
 have hz0:W0.heap.size=w.heap.size+1:=by rw [hW0.out]; simp
 rw [← hW0.out] at B0 ⊢;generalize hrs:(zR:Array Value)=rs at *
 have HRS:Hid (rs.size=34):=by show _=_; rw [← hrs]; rfl
 clear hrs hW0
 have M0:LP W0 (W0.alloc (.cells #[] 3)) B c a len cap W0.heap.size 0 0 (fun _=>0) :=
  ⟨Row.empty _ (Ak W0 #[] 3) (Nat.le_refl _),B0.cur.alloc _ (by omega),(Step.refl c W0).alloc _⟩
 have hc0:c<W0.heap.size:=by omega
 have HZ0:=Ad hz0;clear hz0;go_wp2;generalize W0.alloc (.cells #[] 3)=W1 at *
 go_loopw [3,4] (fun o i wr=>∃ (j g x:Nat) (f:Nat→Int),j≤4∧i=.i j∧o=.slice (some ⟨g,0,none⟩) j x∧LP W0 wr B c a len cap g j x f) (fun _ i _=>5-(intOf i).toNat)
 case atStart=>exact ⟨0,W0.heap.size,0,fun _=>0,by omega,rfl,rfl,M0⟩
 case round =>
  obtain ⟨j,g,x,f,hj,rfl,rfl,M⟩:=hrel;clear M0;go_wp2_with fail;refine (Bw _ B c a len cap M.cur 4).mono ?_;rintro e W2 ⟨y,rfl,y0,y1,H1,O1⟩;have M1:=M.moved hc0 O1.step H1;clear M O1 H1
  by_cases hlt:(j:Int)<y
  ·go_wp2_with fail
   refine (Bw _ B c a len cap M1.cur 256).mono ?_;rintro e W3 ⟨v,rfl,v0,v1,H2,O2⟩;have M2:=M1.moved hc0 O2.step H2;clear M1 O2 H2;have k3:=Ak W3 #[.i v] 3;have M3:=M2.below hc0 ((Below.refl W3.heap.size W3).alloc (Nat.le_refl _) (.cells #[.i v] 3));have HM3:=Ad M3;have HK3:=Ad k3;clear M2 M3 k3;go_wp2_with (at_builtin; refine N3 _ rfl _ _ rfl W0.heap.size g j x f rfl HM3.out.row (by omega) W3.heap.size v rfl (Aj HK3.out 0) ?_);intro g' x' W4 R4 T4 h4;have HM4:=Ad (HM3.out.push hc0 R4 T4);clear R4 T4 h4 HM3 HK3;go_wp2
   go_round
   case rel=>exact ⟨j+1,g',x',_,by omega,by go_num,by go_num,HM4.out⟩
   case measure=>simp [intOf]; omega
  ·go_upto_region 6 with (fail)
   have HB:=Ad (B0.move M1.step M1.cur);have HM:=Ad M1;clear M1 B0;rename_i K3 hK3;refine wp_region_lit ?_
   (refine wpList_plain rfl (fun K9 hK9=>?_); go_simp; refine hK9 _ _ ?_; clear hK9)
   refine Ap rfl _ _ (by kernel_rfl) (Nw _ B c a len cap HB.out.cur) ?_;rintro e W3 ⟨⟨iv,m,ra,rc,F,rfl,hm1,hm3,hS,hOF,hby⟩,H3,S3⟩;refine ⟨_,rfl,?_⟩;have M3:=HM.out.moved hc0 S3 H3;have B3:=HB.out.move S3 H3
   have KP:Ints .i64 W3 (fun _ _=>True) (.slice (some ⟨g,0,none⟩) j x) j f:=⟨_,_,rfl,M3.row.small,M3.row.sl.row,fun _ _ _=>trivial⟩
   clear HB HM H3 S3 hOF hby
   (refine wpList_plain rfl (fun K9 hK9=>?_); go_simp; refine hK9 _ _ ?_; clear hK9)
   refine Ap rfl _ _ (by kernel_rfl) (Oq _ _ _ iv _ m (fun _=>256) F j f hS.ints KP) ?_;rintro e W4 ⟨v4,rfl,T4,L4⟩;refine ⟨_,rfl,?_⟩;obtain ⟨E,K⟩:=B3.made L4 T4.ex;have F4:=T3 m (fun _=>256) F j f;generalize (if okLock (newD m (fun _=>256) F j f)=true then newD m (fun _=>256) F j f else Q1)=d0 at *;generalize okLock (newD m (fun _=>256) F j f)=ok at *;obtain ⟨co,rfl,hco,ho1⟩:=K.on.agg;clear B3 L4 T4 M3 hS
   iterate 4 (refine wpList_plain rfl (fun K9 hK9=>?_); go_simp; refine hK9 _ _ ?_; clear hK9)
   replace K:=K.alloc zR 44 _ rfl;generalize W4.heap.size=bo at *;generalize W4.alloc (.cells zR 44)=W5 at *;refine wpList_store_row rfl _ _ _ rfl (bo) co rfl rfl _ _ (K.ret 1 rfl) (infoAt Ae hco) (hco.symm) ho1 ?_;replace K:=K.row 1 rfl co;generalize W5.setRow bo co=W6 at *
   (refine wpList_plain rfl (fun K9 hK9=>?_); go_simp; refine hK9 _ _ ?_; clear hK9)
   refine hK3 _ _ ?_;clear hK3;go_upto_region 7 with (fail);rename_i K3 hK3;refine Dm 7 (fun w'=>w'.heap[bo]?=some (.cells co 44 (0,0))) (by kernel_rfl) ?_;replace K:=K.call (show Below W6.heap.size W6 (redrawn W6 (W6.drawn+1)) from ⟨rfl,rfl,rfl,Nat.le_refl _,fun _ _=>rfl⟩);generalize redrawn W6 (W6.drawn+1)=W8 at *
   show Cj _ _ _ _ _ 8 _ _ _
   refine Bp 0 rfl (by kernel_rfl) (K.ret 1 rfl) (Br _ _ rfl rfl bo rfl _ co _ _ (fun w' h=>h) Tryz.underlying44 rfl (infoAt Ae hco)) ?_;refine Bh 1 rfl (by kernel_rfl) (K.ret 1 rfl) (C9 _ rfl rfl) ?_;refine A5 2 rfl (by kernel_rfl) ?_;go_simp;refine (Bw _ B c a len cap K.cur 60).mono ?_;rintro e W9 ⟨x,rfl,x0,x1,H9,O9⟩;replace K:=K.move O9.step H9;refine ⟨fun _=>K.ret 1 rfl,?_⟩;refine A5 3 rfl (by kernel_rfl) ?_;go_simp;refine (Fa _ _ _ d0 x 0 K.on (by omega) F4 (by omega)).mono ?_;rintro e W10 ⟨v2,k,d2,rfl,T,F2,L⟩;have K2:=K.toF1.told L T;obtain ⟨E2,KE2,-⟩:=K2.y.on;refine ⟨fun _=>K2.ret 1 rfl,?_⟩;obtain ⟨c2,rfl,hc2,ho2⟩:=KE2.agg;refine Bh 4 rfl (by kernel_rfl) (K2.ret 1 rfl) (C9 _ rfl rfl) ?_
   refine Bh 5 rfl (by kernel_rfl) (K2.ret 1 rfl) (Bq _ 0 rfl rfl rfl rfl) ?_;refine Bh 6 rfl (by kernel_rfl) (K2.ret 1 rfl) (Bq _ 1 rfl rfl rfl rfl) ?_;refine A5 7 rfl (by kernel_rfl) ?_;refine wp_store_row _ _ _ rfl bo c2 rfl rfl _ _ (K2.ret 1 rfl) (infoAt Ae hc2) (hco.trans hc2.symm) ho2 ?_;refine ⟨fun h=>absurd (show true=false from h (by decide)) (by decide),?_⟩;refine Cy (by kernel_rfl) ?_;replace K2:=K2.row 1 rfl c2;generalize W10.setRow bo c2=W11 at *;refine hK3 _ _ ?_;clear hK3;go_simp;go_upto_region 8 with (fail);rename_i K3 hK3;refine wp_region_lit ?_;refine wpList_load_row rfl _ _ rfl (bo) rfl _ _ _ _ (K2.ret 1 rfl) Tryz.underlying44 rfl (infoAt Ae hc2) ?_;refine wpList_store_row rfl _ _ _ rfl (w.heap.size) c2 rfl rfl _ _ (K2.ret 0 rfl) (infoAt Ae hc2) (HRS.out.trans hc2.symm) ho2 ?_
   replace K2:=K2.row 0 rfl c2;generalize W11.setRow w.heap.size c2=W12 at *;refine hK3 _ _ ?_;clear hK3;go_wp2;refine bodyPost_ret (v:=.agg c2) (results_cell_row (by rfl) _ _ w.heap.size _ _ _ _ rfl (K2.ret 0 rfl) Tryz.underlying44 rfl (infoAt Ae hc2)) rfl ?_;exact ⟨_,rfl,d2,K2.tell,F2.mono (by omega),K2.cur,K2.step⟩
section
variable {w W W':World} {B c:Nat} {a:Option Addr} {len cap p N:Nat} {D D':Nat→Prop} {E:Nat→Nat→Prop} {l:Ir} {i b:Nat} {cs:Array Value} {t:TypeId} {v v':Value} {d d':Am}
theorem As.putT (h:As W E (.agg cs) d) (x:Int):As W E (.agg (cs.setIfInBounds 20 (.i x))) { d with T:=x }:=by
 obtain ⟨u0,u1,u2,u3,u4,u5,u6,u7,e,h⟩:=h;obtain rfl:=Value.agg.inj e;exact ⟨u0,u1,u2,u3,u4,u5,u6,u7,rfl,h⟩
theorem As.putSt (h:As W E (.agg cs) d) (x:Int):As W E (.agg (cs.setIfInBounds 30 (.i x))) { d with st:=x }:=by
 obtain ⟨u0,u1,u2,u3,u4,u5,u6,u7,e,h⟩:=h;obtain rfl:=Value.agg.inj e;exact ⟨u0,u1,u2,u3,u4,u5,u6,u7,rfl,h⟩
theorem As.putNmi (h:As W E (.agg cs) d) (x:Bool):As W E (.agg (cs.setIfInBounds 29 (.bool x))) { d with nmi:=x }:=by
 obtain ⟨u0,u1,u2,u3,u4,u5,u6,u7,e,h⟩:=h;obtain rfl:=Value.agg.inj e;exact ⟨u0,u1,u2,u3,u4,u5,u6,u7,rfl,h⟩
theorem As.putR (h:As W E (.agg cs) d) (x:Bool):As W E (.agg (cs.setIfInBounds 26 (.bool x))) { d with R:=x }:=by
 obtain ⟨u0,u1,u2,u3,u4,u5,u6,u7,e,h⟩:=h;obtain rfl:=Value.agg.inj e;exact ⟨u0,u1,u2,u3,u4,u5,u6,u7,rfl,h⟩
theorem As.putI (h:As W E (.agg cs) d) (x:Bool):As W E (.agg (cs.setIfInBounds 11 (.bool x))) { d with I:=x }:=by
 obtain ⟨u0,u1,u2,u3,u4,u5,u6,u7,e,h⟩:=h;obtain rfl:=Value.agg.inj e;exact ⟨u0,u1,u2,u3,u4,u5,u6,u7,rfl,h⟩
theorem As.putSh (h:As W E (.agg cs) d) (x:Int):As W E (.agg (cs.setIfInBounds 28 (.i x))) { d with sh:=x }:=by
 obtain ⟨u0,u1,u2,u3,u4,u5,u6,u7,e,h⟩:=h;obtain rfl:=Value.agg.inj e;exact ⟨u0,u1,u2,u3,u4,u5,u6,u7,rfl,h⟩
theorem As.putCpu (h:As W E (.agg cs) d) (A X S Pc:Int) (Z N C I:Bool):As W E (.agg (putAt cs 4 (cR A X S Pc Z N C I))) { d with A:=A,X:=X,S:=S,Pc:=Pc,Z:=Z,N:=N,C:=C,I:=I }:=by
 obtain ⟨u0,u1,u2,u3,u4,u5,u6,u7,e,h⟩:=h;obtain rfl:=Value.agg.inj e;exact ⟨u0,u1,u2,u3,u4,u5,u6,u7,rfl,h⟩
theorem As.has (h:As W E (.agg cs) d) (j:Nat) (hj:j<34):∃ x,cs[j]?=some x:=by
 obtain ⟨u0,u1,u2,u3,u4,u5,u6,u7,e,h⟩:=h;obtain rfl:=Value.agg.inj e;exact ⟨_,Array.getElem?_eq_getElem hj⟩
theorem As.getT (h:As W E (.agg cs) d):cs[20]?=some (.i d.T):=by
 obtain ⟨u0,u1,u2,u3,u4,u5,u6,u7,e,h⟩:=h;obtain rfl:=Value.agg.inj e
 rfl
theorem Iw.cell (h:Iw w B c a len cap E W l v d) (i:Nat) (e:l[i]?=some (b,cs,t)) (o:Nat) (x:Value) (hv:∀ W',As W' E v d→As W' E v' d'):Iw w B c a len cap E (W.setCell ⟨b,o,none⟩ x) (l.set i (b,cs.setIfInBounds o x,t)) v' d' :=
 ⟨h.toF1.wr i e (Bz W b o x) (An (h.ret i e) x),hv _ (h.on.keep (Bz W b o x) (fun j b' o' hd _ (he:b'=b)=>h.no i e ⟨j,he ▸ hd⟩)),h.dis⟩
theorem Iw.rowTo (h:Iw w B c a len cap E W l v d) (i:Nat) (e:l[i]?=some (b,cs,t)) (cs':Array Value) (hv:∀ W',As W' E v d→As W' E v' d'):Iw w B c a len cap E (W.setRow b cs') (l.set i (b,cs',t)) v' d' :=
 have h':=h.row i e cs'
 ⟨h'.toF1,hv _ h'.on,h'.dis⟩
theorem J8.drl (h:J8 w B c a len cap p N W l v d):∃ E,Iw w B c a len cap E W l v d:=by
 obtain ⟨E,h1,h2,h3⟩:=h.y.on;exact ⟨E,⟨⟨h.step,h.cur,h.hc,fun p hp=>⟨(h.all p hp).1,(h.all p hp).2.1,fun ⟨i,hi⟩=>(h.all p hp).2.2 (h3 i _ hi)⟩,h.nd,fun b ⟨i,hi⟩=>h.lt b (h3 i b hi),fun b ⟨i,hi⟩=>h.lo b (h3 i b hi)⟩,h1,h2⟩⟩
theorem F1.push (h:F1 w B c a len cap D W l) (hw:Wrote (fun b _=>D b) W W') (hD:∀ b,D' b→D b∨(w.heap.size≤b∧b<W'.heap.size∧∀ p,p∈l→p.1≠b)):F1 w B c a len cap D' W' l :=
 ⟨⟨hw.os.trans h.step.os,hw.tape.trans h.step.tape,hw.output.trans h.step.output,Nat.le_trans h.step.size hw.size,fun k hk hkc=>(hw.block k (Nat.lt_of_lt_of_le hk h.step.size) (fun _ hd=>absurd (h.lo k hd) (by omega))).trans (h.step.block k hk hkc)⟩,
  h.cur.below (hw.below h.step.size (fun b o hb hd=>absurd (h.lo b hd) (by omega))) h.hc,h.hc,fun p hp=>⟨Ag (h.all p hp).1 hw (fun o hd=>(h.all p hp).2.2 hd),(h.all p hp).2.1,fun hd=>(hD _ hd).elim (h.all p hp).2.2 (fun k=>k.2.2 p hp rfl)⟩,h.nd,
  fun b hb=>(hD b hb).elim (fun k=>Nat.lt_of_lt_of_le (h.lt b k) hw.size) (fun k=>k.2.1),fun b hb=>(hD b hb).elim (h.lo b) (fun k=>k.1)⟩
theorem Sa {g x:Nat} {y:Int} {lo:Nat} (R:Row W lo g 1 x (snoc (fun _=>0) 0 y)):As W (fun i b=>i=5∧b=g) (.agg (zero34.setIfInBounds 32 (.slice (some ⟨g,0,none⟩) 1 x))) (Fs Hw y):=by
 exact ⟨_,_,_,_,_,_,_,_,rfl,Ck.noneL _,⟨_,_,rfl,Bl.zero _ _⟩,⟨_,_,rfl,by show (0:Nat)≤_; omega,fun i hi=>absurd hi (Nat.not_lt_zero _),fun b o hF=>absurd hF (Ay _ _ _),fun b o hF=>absurd hF (Ay _ _ _)⟩,⟨_,_,_,_,rfl,Bl.zero _ _,Bl.zero _ _,fun b o h=>absurd h (Ay _ _ _)⟩,⟨_,_,_,rfl,Ck.noneL _,R.onE (Or.inl ⟨rfl,rfl⟩),⟨_,_,rfl,Bl.zero _ _⟩⟩⟩
theorem M8 (K:J8 w B c a len cap p N W l (.agg cs) d) {ops:Array Oper} {rest:List Oper} {o:Oper} {f:Act} {Q:Exit→Act→World→Prop} (hg:o.guard=none) (s x:Operand) (hop:o.op=Op.call { callee:=Callee.builtin Builtin.append,args:=#[s,x],argTypes:=#[25,25] })
  (hn:d.ns<1048576) {u:Value} (hu:cs[32]?=some u) (hs:f.eval s=u) (q:Nat) (y:Int) (hx:f.eval x=.slice (some ⟨q,0,none⟩) 1 1) (hq:W.cell? ⟨q,0,none⟩=some (.i y))
  (h:∀ g' c' W' E,Iw w B c a len cap E W' l (.agg (cs.setIfInBounds 32 (.slice (some ⟨g',0,none⟩) (d.ns+1) c'))) (Fs d y)→wpList Tryz.prog ops Q rest (f.put o.dst (.slice (some ⟨g',0,none⟩) (d.ns+1) c')) W'):wpList Tryz.prog ops Q (o :: rest) f W:=by
 rcases K.y with ⟨e,rfl⟩ | ⟨q0,E,u0,u1,u2,u3,u4,ov,gb,cp,g6,c6,g7,c7,hq0,e,HP⟩
 ·obtain rfl:=Value.agg.inj e
  obtain rfl:Value.slice none 0 0=u:=by simpa [zero34] using hu
  refine Mv W hg s x hop w.heap.size none _ 0 (fun _=>0) hs ⟨rfl,rfl⟩ (by omega) K.step.size q y hx hq ?_;rintro g' c' W' ⟨c2,e2,R⟩ hw hat
  obtain ⟨-,rfl⟩:True∧c'=c2:=by simpa using e2
  have hp:=R.parts;have hat':W.heap.size≤g':=hat.elim (fun h=>by cases h) id;refine h _ _ _ (fun i b=>i=5∧b=g') ⟨K.toF1.push (hw.mono (fun b o _ h=>by cases h)) (fun b ⟨i,_,hb⟩=>Or.inr ⟨?_,?_,fun p hp' e=>?_⟩),Sa R,fun i j b h1 h2=>h1.1.trans h2.1.symm⟩
  ·have:=K.step.size; omega
  ·omega
  ·have:=Af (K.all p hp').1; omega
 ·obtain rfl:=Value.agg.inj e
  obtain rfl:Value.slice (some ⟨g6,0,none⟩) d.ns c6=u:=by simpa [rowL] using hu
  have h6:=HP.h6.parts;have n6:=HP.n6;refine Da W hg s x hop q0 g6 d.ns c6 d.sm hs HP.h6 hn q y hx hq ?_;intro g' c' W' R hw hat;have H':=HP.samp (x:=y) (by omega) hw R hat;have hp:=R.parts;refine h _ _ _ _ ⟨K.toF1.push (hw.mono (fun b o _ h=>by rw [h.1]; omega)) (fun b ⟨i,hb⟩=>?_),H'.lockOn,H'.dis⟩
  rcases hb with ⟨-,rfl⟩ | ⟨-,hb⟩
  ·rcases hat with ⟨rfl,-⟩ | hat
   ·exact Or.inl (by omega)
   ·refine Or.inr ⟨?_,?_,fun p hp' e=>?_⟩
    ·have:=K.step.size; omega
    ·omega
    ·have:=Af (K.all p hp').1; omega
  ·have:=HP.bd i b hb
   exact Or.inl (by omega)
theorem Av.add7 {lo:Nat} {u0 u1 u2 u3 u4 ov:Value} {gb cp:Nat→Nat} {g6 c6 g7 c7:Nat} (H:Av W lo N E u0 u1 u2 u3 u4 ov gb cp g6 c6 g7 c7 d) {gN:Nat} (hN1:N≤gN) (hN2:gN<W.heap.size) (hl:lo≤N):Av W lo W.heap.size (fun i b=>(i=7∧b=gN)∨(i≠7∧E i b)) u0 u1 u2 u3 u4 ov gb cp g6 c6 g7 c7 d:=by
 refine ⟨H.h0.mono (fun b _ h=>Or.inr ⟨by decide,h⟩),H.h1.mono (fun b _ h=>Or.inr ⟨by decide,h⟩),H.h2.mono (fun b _ h=>Or.inr ⟨by decide,h⟩),H.h3.mono (fun b _ h=>Or.inr ⟨by decide,h⟩),H.h4,fun b h=>Or.inr ⟨by decide,H.h4D b h⟩,H.h6,H.h6D.imp (fun h=>Or.inr ⟨by decide,h⟩) id,H.h7,H.h7D.imp (fun h=>Or.inr ⟨by decide,h⟩) id,?_,?_,Nat.lt_of_lt_of_le H.n6 H.nN,Nat.lt_of_lt_of_le H.n7 H.nN,Nat.le_refl _,H.hps⟩
 ·intro i j b h1 h2
  rcases h1 with ⟨rfl,rfl⟩ | ⟨n1,h1⟩ <;> rcases h2 with ⟨rfl,e⟩ | ⟨n2,h2⟩
  ·rfl
  ·have:=H.bd j _ h2; omega
  ·subst e; have:=H.bd i _ h1; omega
  ·exact H.dis i j b h1 h2
 ·intro i b h
  rcases h with ⟨-,rfl⟩ | ⟨-,h⟩
  ·omega
  ·have:=H.bd i b h; have:=H.nN; omega
theorem Qg {g x gN lo:Nat} {gb cp:Nat→Nat} {y:Nat→Int} (G:SG W lo (.slice (some ⟨g,0,none⟩) 1 x) 1 gb cp (Ej (fun _=>0) 0 1) (Iu (fun _ _=>0) 0 y)) (hg:gb 0=gN):As W (fun i b=>i=4∧(b=g∨b=gN)) (.agg (zero34.setIfInBounds 31 (.slice (some ⟨g,0,none⟩) 1 x))) (Dq Hw 1 y):=by
 have GS:=G.onD (D:=fun b=>(4=4)∧(b=g∨b=gN)) (fun b h=>⟨rfl,by
  rcases h with h | ⟨i,hi,h⟩
  ·simp [Value.ownBlock] at h; exact Or.inl h.symm
  ·obtain rfl:i=0:=by omega
   exact Or.inr (h.symm.trans hg)⟩) (by simp [Cv,Ej])
 exact ⟨_,_,_,_,_,_,_,_,rfl,Ck.noneL _,⟨_,_,rfl,Bl.zero _ _⟩,⟨_,_,rfl,by show (0:Nat)≤_; omega,fun i hi=>absurd hi (Nat.not_lt_zero _),fun b o hF=>absurd hF (Ay _ _ _),fun b o hF=>absurd hF (Ay _ _ _)⟩,⟨_,_,_,_,rfl,Bl.zero _ _,Bl.zero _ _,fun b o h=>absurd h (Ay _ _ _)⟩,⟨_,_,_,rfl,GS,⟨_,_,rfl,Bl.zero _ _⟩,⟨_,_,rfl,Bl.zero _ _⟩⟩⟩
theorem Kv (K:J8 w B c a len cap p N W l (.agg cs) d) {ops:Array Oper} {rest:List Oper} {o:Oper} {f:Act} {Q:Exit→Act→World→Prop} (hg:o.guard=none) (s x:Operand) (hop:o.op=Op.call { callee:=Callee.builtin Builtin.append,args:=#[s,x],argTypes:=#[24,24] })
  (hn:d.mf<1048576) (hlf:∀ i,i<d.mf→d.lf i=48) {u:Value} (hu:cs[31]?=some u) (hs:f.eval s=u) (q gN:Nat) (hx:f.eval x=.slice (some ⟨q,0,none⟩) 1 1) (hq:W.cell? ⟨q,0,none⟩=some (.slice (some ⟨gN,0,none⟩) 1 1))
  (kN:W.heap[gN]?=some (.cells #[.i 1] 3 (0,0))) (hN:N≤gN) (hsz:w.heap.size≤gN) (hlN:∀ p,p∈l→p.1≠gN)
  (h:∀ g' c' W' E,Iw w B c a len cap E W' l (.agg (cs.setIfInBounds 31 (.slice (some ⟨g',0,none⟩) (d.mf+1) c'))) (Dq d 1 (fun _=>1))→wpList Tryz.prog ops Q rest (f.put o.dst (.slice (some ⟨g',0,none⟩) (d.mf+1) c')) W'):wpList Tryz.prog ops Q (o :: rest) f W:=by
 have hNl:=Af kN
 have RN:∀ lo,lo≤gN→Row W lo gN 1 1 (fun _=>1):=fun lo hl=>⟨⟨by simp [rowVals],Or.inr ⟨gN,1,_,rfl,hl,kN,Nat.le_refl _,by unfold maxLen; omega,rfl,rfl⟩⟩,by omega⟩
 rcases K.y with ⟨e,rfl⟩ | ⟨q0,E,u0,u1,u2,u3,u4,ov,gb,cp,g6,c6,g7,c7,hq0,e,HP⟩
 ·obtain rfl:=Value.agg.inj e
  obtain rfl:Value.slice none 0 0=u:=by simpa [zero34] using hu
  refine Em W hg s x hop w.heap.size (.slice none 0 0) 0 [] hs ⟨rfl,Or.inl ⟨rfl,rfl⟩⟩ (by omega) K.step.size q (.slice (some ⟨gN,0,none⟩) 1 1) rfl hx hq ?_;intro g' c' W' own' hw hat;have hat':W.heap.size≤g':=hat.elim (fun h=>by cases h) id;have G:=(SG.nil W w.heap.size (fun _=>gN) (fun _=>1) (Ej (fun _=>0) 0 1) (Iu (fun _ _=>0) 0 (fun _=>1))).push hw own' hat (gN:=gN) (cN:=1) (RN _ hsz) (fun h=>by cases h) (fun i hi=>absurd hi (Nat.not_lt_zero _)) (by omega);have hp:=Dh own' (show (Value.slice (some ⟨g',0,none⟩) 1 c').ownBlock=some g' from rfl);refine h _ _ _ (fun i b=>i=4∧(b=g'∨b=gN)) ⟨K.toF1.push (hw.mono (fun b o _ h=>by cases h)) (fun b ⟨i,_,hb⟩=>Or.inr ?_),Qg G (if_pos rfl),fun i j b h1 h2=>h1.1.trans h2.1.symm⟩;have hsw:=hw.size;have hsk:=K.step.size
  rcases hb with rfl | rfl
  ·exact ⟨by omega,by omega,fun p hp' e=>by have:=Af (K.all p hp').1; omega⟩
  ·exact ⟨hsz,by omega,hlN⟩
 ·obtain rfl:=Value.agg.inj e
  obtain rfl:ov=u:=by simpa [rowL] using hu
  have h6:=HP.h6.parts;have n6:=HP.n6;have H7:=HP.add7 hN hNl (by omega)
  have hob:∀ b,ov.ownBlock=some b→q0≤b∧b<N:=fun b e=>HP.bd 4 b (HP.h4D b (Or.inl e))
  refine Em W hg s x hop q0 ov d.mf _ hs H7.h4.own hn (by have:=HP.nN; omega) q (.slice (some ⟨gN,0,none⟩) 1 1) rfl hx hq ?_;intro g' c' W' own' hw hat
  have hp5:Cv (Ej d.lf d.mf 1) (d.mf+1)≤1099511627776:=Ju (by omega) (fun i hi=>by
   show (if i=d.mf then 1 else d.lf i)≤1048576
   split
   ·omega
   ·rw [hlf i (by omega)]; omega)
  have H':=H7.frame (k:=1) (h:=fun _=>1) (by have:=HP.nN; omega) hw own' hat (RN q0 (by omega)) (Or.inl ⟨rfl,rfl⟩) hn hp5;have hp:=Dh own' (show (Value.slice (some ⟨g',0,none⟩) (d.mf+1) c').ownBlock=some g' from rfl);have hsw:=hw.size;have hsk:=K.step.size;refine h _ _ _ _ ⟨K.toF1.push (hw.mono (fun b o _ h=>by have:=hob b h; omega)) (fun b ⟨i,hb⟩=>?_),H'.lockOn,H'.dis⟩
  have low:∀ i,E i b→p≤b∧b<N:=fun i hb=>by have:=HP.bd i b hb; omega
  have gn:b=gN→(p≤b∧b<N)∨(w.heap.size≤b∧b<W'.heap.size∧∀ p,p∈l→p.1≠b):=fun e=>by
   subst e;exact Or.inr ⟨hsz,by omega,hlN⟩
  have in7:∀ i,((i=7∧b=gN)∨(i≠7∧E i b))→(p≤b∧b<N)∨(w.heap.size≤b∧b<W'.heap.size∧∀ p,p∈l→p.1≠b):=fun i h=>h.elim (fun k=>gn k.2) (fun k=>Or.inl (low i k.2))
  rcases hb with ⟨-,rfl | hb | hb⟩ | ⟨-,-,hb⟩
  ·rcases hat with e | hat
   ·have:=hob _ e
    exact Or.inl (by omega)
   ·exact Or.inr ⟨by omega,by omega,fun p hp' e=>by have:=Af (K.all p hp').1; omega⟩
  ·exact in7 _ hb
  ·exact in7 _ hb
  ·exact in7 _ hb
end
section
variable {w W W':World} {lo N p:Nat} {D E:Nat→Nat→Prop} {u0 u1 u2 u3 u4 ov:Value} {gb cp:Nat→Nat} {g6 c6 g7 c7:Nat} {d:Am} {v:Value} {cs:Array Value}
theorem Av.obs (H:Av W lo N D u0 u1 u2 u3 u4 ov gb cp g6 c6 g7 c7 d):Is W D (.agg #[ov,.slice (some ⟨g6,0,none⟩) d.ns c6,.slice (some ⟨g7,0,none⟩) d.nq c7]) ⟨d.mf,d.lf,d.fr,d.ns,d.sm,d.nq,d.rd⟩ :=
 ⟨_,_,_,rfl,H.h4.onD H.h4D H.hps,H.h6.onE H.h6D,H.h7.onE H.h7D⟩
theorem Av.obs0 (H:Av W lo N D u0 u1 u2 u3 u4 ov gb cp g6 c6 g7 c7 d) (hn:0<d.ns) (x:Int):Is (W.setCell ⟨g6,0,none⟩ (.i x)) D (.agg #[ov,.slice (some ⟨g6,0,none⟩) d.ns c6,.slice (some ⟨g7,0,none⟩) d.nq c7]) ⟨d.mf,d.lf,d.fr,d.ns,fun i=>if i=0 then x else d.sm i,d.nq,d.rd⟩:=by
 have h6:D 5 g6:=H.h6D.resolve_right (fun h=>by omega);have TT:=Bz W g6 0 (.i x)
 have far:∀ i,i≠5→∀ b (o:Nat),D i b→b<W.heap.size→¬ b=g6:=fun i hi b o hb _ e=>hi (H.dis i 5 b hb (e ▸ h6))
 exact ⟨_,_,_,rfl,(H.h4.onD H.h4D H.hps).keep TT (far 4 (by decide)),(H.h6.put 0 hn x).onE (Or.inl h6),(H.h7.onE H.h7D).keep TT (far 6 (by decide))⟩
theorem Av.obs1 (H:Av W lo N D u0 u1 u2 u3 u4 ov gb cp g6 c6 g7 c7 d) (hn:0<d.mf) (hl:1<d.lf 0) (x:Int):Is (W.setCell ⟨gb 0,1,none⟩ (.i x)) D (.agg #[ov,.slice (some ⟨g6,0,none⟩) d.ns c6,.slice (some ⟨g7,0,none⟩) d.nq c7]) ⟨d.mf,d.lf,fun i j=>if i=0 then (if j=1 then x else d.fr 0 j) else d.fr i j,d.ns,d.sm,d.nq,d.rd⟩:=by
 have h4:D 4 (gb 0):=H.h4D _ (Or.inr ⟨0,hn,rfl⟩);have TT:=Bz W (gb 0) 1 (.i x)
 have far:∀ i,i≠4→∀ b (o:Nat),D i b→b<W.heap.size→¬ b=gb 0:=fun i hi b o hb _ e=>hi (H.dis i 4 b hb (e ▸ h4))
 have G:SG (W.setCell ⟨gb 0,1,none⟩ (.i x)) lo ov d.mf gb cp d.lf (fun i j=>if i=0 then (if j=1 then x else d.fr 0 j) else d.fr i j):=by
  refine ⟨G7 H.h4.own (fun g hg=>TT.block g (Dh H.h4.own hg).2 (fun o (e:g=gb 0)=>H.h4.dj g hg 0 hn e.symm)),fun i hi=>?_,H.h4.inj,H.h4.dj,H.h4.small⟩
  by_cases e:i=0
  ·subst e
   exact (H.h4.rows 0 hn).put 1 hl x
  ·simp only [if_neg e]
   exact (H.h4.rows i hi).keep TT (fun o (k:gb i=gb 0)=>H.h4.inj i 0 hi hn e k)
 exact ⟨_,_,_,rfl,G.onD H.h4D H.hps,(H.h6.onE H.h6D).keep TT (far 5 (by decide)),(H.h7.onE H.h7D).keep TT (far 6 (by decide))⟩
theorem Be.obs (h:Be W p N (.agg cs) d):∃ x y z E,cs[31]?=some x∧cs[32]?=some y∧cs[33]?=some z∧Is W E (.agg #[x,y,z]) ⟨d.mf,d.lf,d.fr,d.ns,d.sm,d.nq,d.rd⟩∧∀ i b,E i b→p≤b∧b<N:=by
 obtain ⟨E,h1,-,h3⟩:=h.on;obtain ⟨u0,u1,u2,u3,u4,u5,u6,u7,e,-,-,-,-,k⟩:=h1;obtain rfl:=Value.agg.inj e;exact ⟨_,_,_,E,rfl,rfl,rfl,k,h3⟩
def Dr (p N:Nat) (P:World→Prop):Prop:=∀ W W':World,P W→W.heap.size≤W'.heap.size→(∀ b,p≤b→b<N→W'.heap[b]?=W.heap[b]?)→P W'
theorem Be.stays:Dr p N (fun W=>Be W p N v d):=fun _ _ h hs hb=>h.same hs hb
def Bu (W:World) (p N:Nat) (v:Value) (d:Am):Prop:=∃ E,As W E v d∧∀ i b,E i b→p≤b∧b<N
theorem Bu.stays:Dr p N (fun W=>Bu W p N v d):=fun _ _ ⟨E,h1,h2⟩ hs hb=>⟨E,h1.same hs (fun i b hi _=>hb b (h2 i b hi).1 (h2 i b hi).2),h2⟩
theorem Be.i (h:Be W p N v d):Bu W p N v d:=by
 obtain ⟨E,h1,-,h3⟩:=h.on;exact ⟨E,h1,h3⟩
def Ds (W:World) (p N:Nat) (v:Value) (o:Qk):Prop:=∃ E,Is W E v o∧∀ i b,E i b→p≤b∧b<N
theorem Ds.stays {o:Qk}:Dr p N (fun W=>Ds W p N v o):=fun W W' ⟨E,h1,h2⟩ hs hb=>by
 have k:∀ i b,E i b→b<W.heap.size→W'.heap[b]?=W.heap[b]?:=fun i b hi _=>hb b (h2 i b hi).1 (h2 i b hi).2
 obtain ⟨u5,u6,u7,e,h5,h6,h7⟩:=h1;exact ⟨E,⟨u5,u6,u7,e,h5.same hs (k 4),h6.same hs (k 5),h7.same hs (k 6)⟩,h2⟩
end
structure Dt (w:World) (B c:Nat) (a:Option Addr) (len cap p N p' N':Nat) (P P':World→Prop) (W:World) (l:Ir):Prop where
 step:Step c w W
 cur:Dc W B c a len cap
 cB:B≤w.heap.size
 cne:∀ q,q∈l→q.1≠c
 cD:¬ (p≤c∧c<N)∧¬ (p'≤c∧c<N')
 all:∀ q,q∈l→W.heap[q.1]?=some (.cells q.2.1 q.2.2 (0,0))∧w.heap.size≤q.1∧¬ ((p≤q.1∧q.1<N)∨(p'≤q.1∧q.1<N'))
 nd:(l.map (·.1)).Nodup
 hN:N≤W.heap.size
 hN':N'≤W.heap.size
 lo:w.heap.size≤p
 lo':w.heap.size≤p'
 dj:∀ b,p≤b∧b<N→¬ (p'≤b∧b<N')
 sp:Dr p N P
 sp':Dr p' N' P'
 y:P W
 y':P' W
theorem Dt.start {w:World} {B c:Nat} {a:Option Addr} {len cap:Nat} (H:Dc w B c a len cap) (hB:B≤w.heap.size):Dt w B c a len cap w.heap.size w.heap.size w.heap.size w.heap.size (fun _=>True) (fun _=>True) w [] :=
 ⟨Step.refl c w,H,hB,fun _ h=>(by cases h),⟨by omega,by omega⟩,fun _ h=>(by cases h),List.nodup_nil,Nat.le_refl _,Nat.le_refl _,Nat.le_refl _,Nat.le_refl _,fun b h=>by omega,fun _ _ _ _ _=>trivial,fun _ _ _ _ _=>trivial,trivial,trivial⟩
section
variable {w W W':World} {B c:Nat} {a:Option Addr} {len cap p N p' N':Nat} {P P' P2:World→Prop} {l:Ir} {i b:Nat} {cs:Array Value} {t:TypeId} {v:Value} {d:Am}
theorem Dc.same (H:Dc W B c a len cap) (hc:W'.heap[c]?=W.heap[c]?) (L:Below B W W'):Dc W' B c a len cap:=by
 obtain ⟨i,hi,hx⟩:=H.ix;obtain ⟨h,hh⟩:=H.hx
 have k:∀ o,W'.cell? ⟨c,o,none⟩=W.cell? ⟨c,o,none⟩:=fun o=>World.cell?_of_block (a:=⟨c,o,none⟩) hc
 have f:∀ o,W'.frozen? ⟨c,o,none⟩=W.frozen? ⟨c,o,none⟩:=fun o=>World.frozen?_of_block (a:=⟨c,o,none⟩) hc
 exact ⟨H.up,H.code.keep L,(k 0).trans H.sl,⟨i,hi,(k 1).trans hx⟩,⟨h,(k 2).trans hh⟩,(f 1).trans H.f1,(f 2).trans H.f2⟩
theorem Dt.ret (h:Dt w B c a len cap p N p' N' P P' W l) (i:Nat) (e:l[i]?=some (b,cs,t)):W.heap[b]?=some (.cells cs t (0,0)):=(h.all _ (List.mem_of_getElem? e)).1
theorem Dt.get (h:Dt w B c a len cap p N p' N' P P' W l) (i:Nat) (e:l[i]?=some (b,cs,t)) (j:Nat) {x:Value} (hx:cs[j]?=some x):W.cell? ⟨b,j,none⟩=some x:=(Aj (h.ret i e) j).trans hx
theorem Dt.move (h:Dt w B c a len cap p N p' N' P P' W l) (S:Step c W W') (H:Dc W' B c a len cap):Dt w B c a len cap p N p' N' P P' W' l :=
 ⟨h.step.trans S,H,h.cB,h.cne,h.cD,fun q hq=>⟨(S.block _ (Af (h.all q hq).1) (h.cne q hq)).trans (h.all q hq).1,(h.all q hq).2⟩,h.nd,Nat.le_trans h.hN S.size,Nat.le_trans h.hN' S.size,h.lo,h.lo',h.dj,h.sp,h.sp',
  h.sp W W' h.y S.size (fun b h1 h2=>S.block b (Nat.lt_of_lt_of_le h2 h.hN) (fun e=>h.cD.1 (e ▸ ⟨h1,h2⟩))),h.sp' W W' h.y' S.size (fun b h1 h2=>S.block b (Nat.lt_of_lt_of_le h2 h.hN') (fun e=>h.cD.2 (e ▸ ⟨h1,h2⟩)))⟩
theorem Dt.call (h:Dt w B c a len cap p N p' N' P P' W l) (L:Below W.heap.size W W'):Dt w B c a len cap p N p' N' P P' W' l:=h.move (By L (Nat.le_refl _)) (h.cur.below L h.cur.lt)
theorem Dt.alloc (h:Dt w B c a len cap p N p' N' P P' W l) (cs:Array Value) (t:TypeId) (n:Nat) (e:W.heap.size=n):Dt w B c a len cap p N p' N' P P' (W.alloc (.cells cs t)) (l++[(n,cs,t)]):=by
 subst e;have h':=h.call ((Below.refl W.heap.size W).alloc (Nat.le_refl _) (.cells cs t));have hc:=h.cur.lt;have hN:=h.hN;have hN':=h.hN';have hs:=h.step.size;refine ⟨h'.step,h'.cur,h.cB,fun q hq=>?_,h.cD,fun q hq=>?_,?_,h'.hN,h'.hN',h.lo,h.lo',h.dj,h.sp,h.sp',h'.y,h'.y'⟩
 ·rcases List.mem_append.1 hq with hq | hq
  ·exact h.cne q hq
  ·obtain rfl:=List.mem_singleton.1 hq
   show W.heap.size≠c
   omega
 ·rcases List.mem_append.1 hq with hq | hq
  ·exact h'.all q hq
  ·obtain rfl:=List.mem_singleton.1 hq
   exact ⟨Ak W cs t,hs,fun hd=>by rcases hd with hd | hd <;> (have:=hd.2; simp only at this; omega)⟩
 ·rw [List.map_append,List.nodup_append]
  refine ⟨h.nd,by simp,fun a ha c hc e=>?_⟩;obtain ⟨q,hq,rfl⟩:=List.mem_map.1 ha;have:=Af (h.all q hq).1
  simp at hc
  omega
theorem Dt.bx (h:Dt w B c a len cap p N p' N' P P' W l):Dv { W with heap:=W.heap.extract 0 w.heap.size } (fun b=>(p≤b∧b<N)∨(p'≤b∧b<N')) W l:=by
 have hs:(W.heap.extract 0 w.heap.size).size=w.heap.size:=by have:=h.step.size; simp; omega
 refine ⟨⟨rfl,rfl,rfl,?_,fun k hk=>?_⟩,fun q hq=>⟨(h.all q hq).1,?_,(h.all q hq).2.2⟩,h.nd,fun b hb=>by have:=h.hN; have:=h.hN'; omega⟩
 ·show (W.heap.extract 0 w.heap.size).size≤_
  rw [hs];exact h.step.size
 ·have hk':k<w.heap.size:=by have:k<(W.heap.extract 0 w.heap.size).size:=hk; omega
  show W.heap[k]?=(W.heap.extract 0 w.heap.size)[k]?
  have:=h.step.size;rw [Array.getElem?_extract]
  simp
  omega
 ·show (W.heap.extract 0 w.heap.size).size≤_
  rw [hs];exact (h.all q hq).2.1
theorem Dt.at_ (h:Dt w B c a len cap p N p' N' P P' W l) (TT:Wrote (fun b' _=>b'=b) W W') (hb:w.heap.size≤b) (hc:b≠c):Step c w W'∧Dc W' B c a len cap :=
 have hB:=h.cB
 ⟨⟨TT.os.trans h.step.os,TT.tape.trans h.step.tape,TT.output.trans h.step.output,Nat.le_trans h.step.size TT.size,fun k hk hkc=>(TT.block k (Nat.lt_of_lt_of_le hk h.step.size) (fun _ (e:k=b)=>(by omega))).trans (h.step.block k hk hkc)⟩,
  h.cur.same (TT.block c h.cur.lt (fun o (k:c=b)=>hc k.symm)) (TT.below (Nat.le_trans h.cB h.step.size) (fun b' o hb' (k:b'=b)=>by omega))⟩
theorem Dt.wr (h:Dt w B c a len cap p N p' N' P P' W l) (i:Nat) (e:l[i]?=some (b,cs,t)) {cs':Array Value} (TT:Wrote (fun b' _=>b'=b) W W') (k:W'.heap[b]?=some (.cells cs' t (0,0))):Dt w B c a len cap p N p' N' P P' W' (l.set i (b,cs',t)):=by
 have U:=h.bx.upd i e TT k;have hq:=h.all _ (List.mem_of_getElem? e)
 have hs:(W.heap.extract 0 w.heap.size).size=w.heap.size:=by have:=h.step.size; simp; omega
 have hc:=h.cne _ (List.mem_of_getElem? e);have A:=h.at_ TT hq.2.1 hc
 have far:∀ k,(p≤k∧k<N)∨(p'≤k∧k<N')→W'.heap[k]?=W.heap[k]?:=fun k hk=>TT.block k (h.bx.lt k hk) (fun _ (e:k=b)=>hq.2.2 (e ▸ hk))
 refine ⟨A.1,A.2,h.cB,fun q hq'=>?_,h.cD,fun q hq'=>⟨(U.all q hq').1,?_,(U.all q hq').2.2⟩,U.nd,Nat.le_trans h.hN TT.size,Nat.le_trans h.hN' TT.size,h.lo,h.lo',h.dj,h.sp,h.sp',h.sp W W' h.y TT.size (fun b h1 h2=>far b (Or.inl ⟨h1,h2⟩)),h.sp' W W' h.y' TT.size (fun b h1 h2=>far b (Or.inr ⟨h1,h2⟩))⟩
 ·obtain ⟨j,hj⟩:=List.mem_iff_getElem?.1 hq'
  by_cases k:i=j
  ·subst k
   have hlt:=(List.getElem?_eq_some_iff.1 e).1
   simp [List.getElem?_set,hlt] at hj
   subst hj;exact hc
  ·rw [List.getElem?_set_ne k] at hj
   exact h.cne q (List.mem_of_getElem? hj)
 ·have:=(U.all q hq').2.1
  exact hs ▸ this
theorem Dt.row (h:Dt w B c a len cap p N p' N' P P' W l) (i:Nat) (e:l[i]?=some (b,cs,t)) (cs':Array Value):Dt w B c a len cap p N p' N' P P' (W.setRow b cs') (l.set i (b,cs',t)):=h.wr i e (Ce (h.ret i e) cs') (setRow_heap _ _ _ _ _ _ (h.ret i e))
theorem Dt.cell (h:Dt w B c a len cap p N p' N' P P' W l) (i:Nat) (e:l[i]?=some (b,cs,t)) (o:Nat) (x:Value):Dt w B c a len cap p N p' N' P P' (W.setCell ⟨b,o,none⟩ x) (l.set i (b,cs.setIfInBounds o x,t)):=h.wr i e (Bz W b o x) (An (h.ret i e) x)
theorem Dt.set1 (h:Dt w B c a len cap p N p' N' P P' W l) (S:Step c W W') (H:Dc W' B c a len cap) (s:Dr W.heap.size W'.heap.size P2) (y:P2 W'):Dt w B c a len cap W.heap.size W'.heap.size p' N' P2 P' W' l:=by
 have h':=h.move S H;have hc:=h.cur.lt;have hN':=h.hN'
 exact ⟨h'.step,H,h.cB,h.cne,⟨by omega,h.cD.2⟩,fun q hq=>⟨(h'.all q hq).1,(h.all q hq).2.1,fun k=>by
  have:=Af (h.all q hq).1
  rcases k with k | k
  ·omega
  ·exact (h.all q hq).2.2 (Or.inr k)⟩,h.nd,Nat.le_refl _,h'.hN',h.step.size,h.lo',fun b hb=>by omega,s,h.sp',y,h'.y'⟩
theorem Dt.set2 (h:Dt w B c a len cap p N p' N' P P' W l) (S:Step c W W') (H:Dc W' B c a len cap) (s:Dr W.heap.size W'.heap.size P2) (y:P2 W'):Dt w B c a len cap p N W.heap.size W'.heap.size P P2 W' l:=by
 have h':=h.move S H;have hc:=h.cur.lt;have hN:=h.hN
 exact ⟨h'.step,H,h.cB,h.cne,⟨h.cD.1,by omega⟩,fun q hq=>⟨(h'.all q hq).1,(h.all q hq).2.1,fun k=>by
  have:=Af (h.all q hq).1
  rcases k with k | k
  ·exact (h.all q hq).2.2 (Or.inl k)
  ·omega⟩,h.nd,h'.hN,Nat.le_refl _,h.lo,h.step.size,fun b hb=>by omega,h.sp,s,h'.y,y⟩
theorem Dt.mut1 (h:Dt w B c a len cap p N p' N' P P' W l) (TT:Wrote (fun b' _=>b'=b) W W') (hb:p≤b∧b<N) (s:Dr p N P2) (y:P2 W'):Dt w B c a len cap p N p' N' P2 P' W' l:=by
 have A:=h.at_ TT (Nat.le_trans h.lo hb.1) (fun e=>h.cD.1 (e ▸ hb))
 exact ⟨A.1,A.2,h.cB,h.cne,h.cD,fun q hq=>⟨Ag (h.all q hq).1 TT (fun o (e:q.1=b)=>(h.all q hq).2.2 (Or.inl (e ▸ hb))),(h.all q hq).2⟩,h.nd,Nat.le_trans h.hN TT.size,Nat.le_trans h.hN' TT.size,h.lo,h.lo',h.dj,s,h.sp',y,
  h.sp' W W' h.y' TT.size (fun k h1 h2=>TT.block k (Nat.lt_of_lt_of_le h2 h.hN') (fun _ (e:k=b)=>h.dj b hb (e ▸ ⟨h1,h2⟩)))⟩
theorem Dt.mut2 (h:Dt w B c a len cap p N p' N' P P' W l) (TT:Wrote (fun b' _=>b'=b) W W') (hb:p'≤b∧b<N') (s:Dr p' N' P2) (y:P2 W'):Dt w B c a len cap p N p' N' P P2 W' l:=by
 have A:=h.at_ TT (Nat.le_trans h.lo' hb.1) (fun e=>h.cD.2 (e ▸ hb))
 exact ⟨A.1,A.2,h.cB,h.cne,h.cD,fun q hq=>⟨Ag (h.all q hq).1 TT (fun o (e:q.1=b)=>(h.all q hq).2.2 (Or.inr (e ▸ hb))),(h.all q hq).2⟩,h.nd,Nat.le_trans h.hN TT.size,Nat.le_trans h.hN' TT.size,h.lo,h.lo',h.dj,h.sp,s,
  h.sp W W' h.y TT.size (fun k h1 h2=>TT.block k (Nat.lt_of_lt_of_le h2 h.hN) (fun _ (e:k=b)=>h.dj k ⟨h1,h2⟩ (e ▸ hb))),y⟩
theorem Dt.to1 (h:Dt w B c a len cap p N p' N' P P' W l) (s:Dr p N P2) (y:P2 W):Dt w B c a len cap p N p' N' P2 P' W l:=⟨h.step,h.cur,h.cB,h.cne,h.cD,h.all,h.nd,h.hN,h.hN',h.lo,h.lo',h.dj,s,h.sp',y,h.y'⟩
theorem Dt.to2 (h:Dt w B c a len cap p N p' N' P P' W l) (s:Dr p' N' P2) (y:P2 W):Dt w B c a len cap p N p' N' P P2 W l:=⟨h.step,h.cur,h.cB,h.cne,h.cD,h.all,h.nd,h.hN,h.hN',h.lo,h.lo',h.dj,h.sp,s,h.y,y⟩
theorem Dt.ofBxs (h:Dv w (fun _=>False) W l) (H:Dc W B c a len cap) (hB:B≤w.heap.size) (hc:w.heap.size≤c) (cne:∀ q,q∈l→q.1≠c):Dt w B c a len cap w.heap.size w.heap.size w.heap.size w.heap.size (fun _=>True) (fun _=>True) W l :=
 ⟨By h.below (Nat.le_refl _),H,hB,cne,⟨by omega,by omega⟩,fun q hq=>⟨(h.all q hq).1,(h.all q hq).2.1,by omega⟩,h.nd,h.below.size,h.below.size,Nat.le_refl _,Nat.le_refl _,fun b hb=>by omega,fun _ _ _ _ _=>trivial,fun _ _ _ _ _=>trivial,trivial,trivial⟩
theorem Dt.below (h:Dt w B c a len cap p N p' N' P P' W l) (hc:w.heap.size≤c):Below w.heap.size w W:=h.step.below hc (Nat.le_refl _)
theorem Dr.mono {q M:Nat} (h:Dr p N P) (h1:q≤p) (h2:N≤M):Dr q M P:=fun W W' k hs hb=>h W W' k hs (fun b k1 k2=>hb b (Nat.le_trans h1 k1) (Nat.lt_of_lt_of_le k2 h2))
theorem Dr.and (h:Dr p N P) (h':Dr p N P'):Dr p N (fun W=>P W∧P' W):=fun W W' k hs hb=>⟨h W W' k.1 hs hb,h' W W' k.2 hs hb⟩
theorem Dt.redraw (h:Dt w B c a len cap p N p' N' P P' W l) (k:Nat):Dt w B c a len cap p N p' N' P P' (redrawn W k) l:=h.call (show Below W.heap.size W (redrawn W k) from ⟨rfl,rfl,rfl,Nat.le_refl _,fun _ _=>rfl⟩)
end
end Go.Proofs.YtfjieibndedngaaGreat
