import Derived.Test.YtijljlnooibbmaaGreatDoorX6
import Derived.Test.YtijljlnooibbmaaGreatDoorKN
import Derived.Test.YtijljlnooibbmaaGreatDoorND
namespace Go.Proofs.YtijljlnooibbmaaGreatDoor
set_option maxHeartbeats 8000000
set_option maxRecDepth 40000
open Go.Proofs.Tryz
set_option linter.unusedVariables false
set_option linter.unusedSimpArgs false
open Go.ChangeShapes Go.WideShapes Go.ChangeAt Go.RowKit Go.Sort
theorem Cg.same {k:IntKind} {W W':World} {a:Option Addr} {n:Nat} {f:Nat->Int} (h:Cg k W a n f) (hb:∀ b o,Cz a n b o->b<W.heap.size->W'.heap[b]?=W.heap[b]?):Cg k W' a n f:=fun i hi=>by
 obtain ⟨b,off,rfl,hc⟩:=h i hi;exact ⟨b,off,rfl,(World.cell?_of_block (a:=⟨b,off+i,none⟩) (hb b _ (Cc hi) (block_lt_of_cell hc))).trans hc⟩
theorem Mb.same {W W':World} {F:Nat->Nat->Prop} (h:Mb W F) (hs:W.heap.size<=W'.heap.size) (hb:∀ b o,F b o->b<W.heap.size->W'.heap[b]?=W.heap[b]?):Mb W' F:=fun b o hf =>
 ⟨Nat.lt_of_lt_of_le (h b o hf).1 hs,(World.frozen?_of_block (a:=⟨b,o,none⟩) (hb b o hf (h b o hf).1)).trans (h b o hf).2⟩
section
variable {W W':World} {D:Nat->Prop} {E:Nat->Nat->Prop}
theorem Bu.same {a:Option Addr} {n:Nat} {f:Nat->Int} (h:Bu W D a n f) (hs:W.heap.size<=W'.heap.size) (hb:∀ b,D b->b<W.heap.size->W'.heap[b]?=W.heap[b]?):Bu W' D a n f :=
 ⟨h.small,h.row.same (fun b o hf=>hb b (h.on b o hf)),h.free.same hs (fun b o hf=>hb b (h.on b o hf)),h.on⟩
theorem Bs.same {u:Value} {n:Nat} {f:Nat->Int} (h:Bs W D u n f) (hs:W.heap.size<=W'.heap.size) (hb:∀ b,D b->b<W.heap.size->W'.heap[b]?=W.heap[b]?):Bs W' D u n f:=by
 obtain ⟨d,z,e,h⟩:=h;exact ⟨d,z,e,h.same hs hb⟩
theorem Bw.same {v:Value} {n:Nat} {g:Nat->Int} {bank:Int} (h:Bw W D v n g bank) (hs:W.heap.size<=W'.heap.size) (hb:∀ b,D b->b<W.heap.size->W'.heap[b]?=W.heap[b]?):Bw W' D v n g bank:=by
 obtain ⟨a,cap,e,hn,hr,hF,hD⟩:=h;exact ⟨a,cap,e,hn,hr.same (fun b o hf=>hb b (hD b o hf)),hF.same hs (fun b o hf=>hb b (hD b o hf)),hD⟩
theorem Co.same {v:Value} {t c s ad pl:Int} {bl:Bool} {n m:Nat} {f g:Nat->Int} (h:Co W D v t c s ad pl bl n f m g) (hs:W.heap.size<=W'.heap.size) (hb:∀ b,D b->b<W.heap.size->W'.heap[b]?=W.heap[b]?):Co W' D v t c s ad pl bl n f m g:=by
 obtain ⟨a,x,b,y,e,h1,h2,h3⟩:=h;exact ⟨a,x,b,y,e,h1.same hs hb,h2.same hs hb,h3⟩
theorem Cu.same {u:Value} {m:Nat} {ln:Nat->Nat} {f:Nat->Nat->Int} (h:Cu W D u m ln f) (hs:W.heap.size<=W'.heap.size) (hb:∀ b,D b->b<W.heap.size->W'.heap[b]?=W.heap[b]?):Cu W' D u m ln f:=by
 obtain ⟨ra,rc,⟨⟨a,cap,hv,hm,ho⟩,hf,hdj,hs'⟩,hr,hi,hou,hl⟩:=h;refine ⟨ra,rc,⟨⟨a,cap,hv,hm,fun i hi'=>?_⟩,fun i hi'=>(hf i hi').same hs (fun b o hF=>hb b (hi i hi' b o hF)),hdj,hs'⟩,fun i hi'=>(hr i hi').same (fun b o hF=>hb b (hi i hi' b o hF)),hi,hou,hl⟩;obtain ⟨b,off,ha,hc,hn⟩:=ho i hi';exact ⟨b,off,ha,(World.cell?_of_block (a:=⟨b,off+i,none⟩) (hb b (hou a cap hv b _ (ha ▸ Cc hi')) (block_lt_of_cell hc))).trans hc,hn⟩
theorem Q8 {lo:Nat} {t:TypeId} {z n:Nat} {v:Value} {xs:List Value} (h:W.ownsRow lo t z v n xs) (hb:∀ g,v.ownBlock=some g->W'.heap[g]?=W.heap[g]?):W'.ownsRow lo t z v n xs:=by
 obtain ⟨h1,h | ⟨g,cap,cur,hv,hg,hk,r⟩⟩:=h
 .exact ⟨h1,Or.inl h⟩
 .exact ⟨h1,Or.inr ⟨g,cap,cur,hv,hg,(hb g (by rw [hv]; rfl)).trans hk,r⟩⟩
theorem Row.same {lo g n c:Nat} {f:Nat->Int} (h:Row W lo g n c f) (e:W'.heap[g]?=W.heap[g]?):Row W' lo g n c f :=
 ⟨Q8 h.own (fun g' he=>by injection he with he; subst he; exact e),h.small⟩
theorem SG.same {lo q:Nat} {ov:Value} {gb cp ln:Nat->Nat} {f:Nat->Nat->Int} (H:SG W lo ov q gb cp ln f) (h1:∀ g,ov.ownBlock=some g->W'.heap[g]?=W.heap[g]?) (h2:∀ i,i<q->W'.heap[gb i]?=W.heap[gb i]?):SG W' lo ov q gb cp ln f :=
 ⟨Q8 H.own h1,fun i hi=>(H.rows i hi).same (h2 i hi),H.inj,H.dj,H.small⟩
theorem A9.same {lo N:Nat} {u0 u1 u2 u3 u4 ov:Value} {gb cp:Nat->Nat} {g6 c6 g7 c7:Nat} {d:Aq} (H:A9 W lo N E u0 u1 u2 u3 u4 ov gb cp g6 c6 g7 c7 d) (hs:W.heap.size<=W'.heap.size) (hb:∀ b,lo<=b->b<N->W'.heap[b]?=W.heap[b]?):A9 W' lo N E u0 u1 u2 u3 u4 ov gb cp g6 c6 g7 c7 d :=
 have hD:∀ i b,E i b->W'.heap[b]?=W.heap[b]?:=fun i b h=>hb b (H.bd i b h).1 (H.bd i b h).2
 ⟨H.h0.same hs (fun b h _=>hD 0 b h),H.h1.same hs (fun b h _=>hD 1 b h),H.h2.same hs (fun b h _=>hD 2 b h),H.h3.same hs (fun b h _=>hD 3 b h),H.h4.same (fun g h=>hD 4 g (H.h4D g (Or.inl h))) (fun i hi=>hD 4 _ (H.h4D _ (Or.inr ⟨i,hi,rfl⟩))),H.h4D,H.h6.same (hb _ H.h6.parts.1 H.n6),H.h6D,H.h7.same (hb _ H.h7.parts.1 H.n7),H.h7D,H.dis,H.bd,H.n6,H.n7,Nat.le_trans H.nN hs,H.hps⟩
theorem Ft.same {p N:Nat} {v:Value} {d:Aq} (h:Ft W p N v d) (hs:W.heap.size<=W'.heap.size) (hb:∀ b,p<=b->b<N->W'.heap[b]?=W.heap[b]?):Ft W' p N v d:=by
 rcases h with h | ⟨q,E,u0,u1,u2,u3,u4,ov,gb,cp,g6,c6,g7,c7,hq,e,HP⟩
 .exact Or.inl h
 .exact Or.inr ⟨q,E,u0,u1,u2,u3,u4,ov,gb,cp,g6,c6,g7,c7,hq,e,HP.same hs (fun b h1 h2=>hb b (Nat.le_trans hq h1) h2)⟩
theorem Aw.same {v:Value} {d:Aq} (h:Aw W E v d) (hs:W.heap.size<=W'.heap.size) (hb:∀ i b,E i b->b<W.heap.size->W'.heap[b]?=W.heap[b]?):Aw W' E v d:=by
 obtain ⟨u0,u1,u2,u3,u4,u5,u6,u7,e,h0,h1,h2,h3,h4⟩:=h;obtain ⟨u5',u6',u7',e',h5,h6,h7⟩:=h4;exact ⟨u0,u1,u2,u3,u4,u5,u6,u7,e,h0.same hs (hb 0),h1.same hs (hb 1),h2.same hs (hb 2),h3.same hs (hb 3),⟨u5',u6',u7',e',h5.same hs (hb 4),h6.same hs (hb 5),h7.same hs (hb 6)⟩⟩
end
structure Iz (w:World) (B c:Nat) (a:Option Addr) (len cap:Nat) (D:Nat->Prop) (W:World) (l:Mq):Prop where
 step:Step c w W
 cur:Ep W B c a len cap
 hc:c<w.heap.size
 all:∀ p,p∈l->W.heap[p.1]?=some (.cells p.2.1 p.2.2 (0,0))/\w.heap.size<=p.1/\¬ D p.1
 nd:(l.map (·.1)).Nodup
 lt:∀ b,D b->b<W.heap.size
 lo:∀ b,D b->w.heap.size<=b
theorem Iz.nil {w:World} {B c:Nat} {a:Option Addr} {len cap:Nat} (H:Ep w B c a len cap):Iz w B c a len cap (fun _=>False) w []:=⟨Step.refl c w,H,H.lt,fun _ h=>(by cases h),List.nodup_nil,fun _ h=>h.elim,fun _ h=>h.elim⟩
section
variable {w W W':World} {B c:Nat} {a:Option Addr} {len cap p N:Nat} {D:Nat->Prop} {E:Nat->Nat->Prop} {l:Mq} {i b:Nat} {cs:Array Value} {t:TypeId} {v:Value} {d:Aq}
theorem Iz.ret (h:Iz w B c a len cap D W l) (i:Nat) (e:l[i]?=some (b,cs,t)):W.heap[b]?=some (.cells cs t (0,0)):=(h.all _ (List.mem_of_getElem? e)).1
theorem Iz.no (h:Iz w B c a len cap D W l) (i:Nat) (e:l[i]?=some (b,cs,t)):¬ D b:=(h.all _ (List.mem_of_getElem? e)).2.2
theorem Iz.up (h:Iz w B c a len cap D W l) (i:Nat) (e:l[i]?=some (b,cs,t)):w.heap.size<=b:=(h.all _ (List.mem_of_getElem? e)).2.1
theorem Iz.move (h:Iz w B c a len cap D W l) (S:Step c W W') (H:Ep W' B c a len cap):Iz w B c a len cap D W' l :=
 ⟨h.step.trans S,H,h.hc,fun p hp=>⟨(S.block _ (Ad (h.all p hp).1) (by have:=(h.all p hp).2.1; have:=h.hc; omega)).trans (h.all p hp).1,(h.all p hp).2⟩,h.nd,fun b hb=>Nat.lt_of_lt_of_le (h.lt b hb) S.size,h.lo⟩
theorem Iz.call (h:Iz w B c a len cap D W l) (L:Below W.heap.size W W'):Iz w B c a len cap D W' l:=h.move (Ez L (Nat.le_refl _)) (h.cur.below L (Nat.lt_of_lt_of_le h.hc h.step.size))
theorem Iz.alloc (h:Iz w B c a len cap D W l) (cs:Array Value) (t:TypeId) (n:Nat) (e:W.heap.size=n):Iz w B c a len cap D (W.alloc (.cells cs t)) (l++[(n,cs,t)]):=by
 subst e;have h':=h.call ((Below.refl W.heap.size W).alloc (Nat.le_refl _) (.cells cs t));refine ⟨h'.step,h'.cur,h.hc,fun p hp=>?_,?_,h'.lt,h.lo⟩
 .rcases List.mem_append.1 hp with hp | hp
  .exact h'.all p hp
  .obtain rfl:=List.mem_singleton.1 hp
   exact ⟨Ak W cs t,h.step.size,fun hd=>absurd (h.lt _ hd) (Nat.lt_irrefl _)⟩
 .rw [List.map_append,List.nodup_append]
  refine ⟨h.nd,by simp,fun a ha c hc e=>?_⟩;obtain ⟨p,hp,rfl⟩:=List.mem_map.1 ha;have:=Ad (h.all p hp).1
  simp at hc
  omega
theorem Iz.bx (h:Iz w B c a len cap D W l):E4 { W with heap:=W.heap.extract 0 w.heap.size } D W l:=by
 have hs:(W.heap.extract 0 w.heap.size).size=w.heap.size:=by have:=h.step.size; simp; omega
 refine ⟨⟨rfl,rfl,rfl,?_,fun k hk=>?_⟩,fun p hp=>⟨(h.all p hp).1,?_,(h.all p hp).2.2⟩,h.nd,h.lt⟩
 .show (W.heap.extract 0 w.heap.size).size<=_
  rw [hs];exact h.step.size
 .have hk':k<w.heap.size:=by have:k<(W.heap.extract 0 w.heap.size).size:=hk; omega
  show W.heap[k]?=(W.heap.extract 0 w.heap.size)[k]?
  have:=h.step.size;rw [Array.getElem?_extract]
  simp
  omega
 .show (W.heap.extract 0 w.heap.size).size<=_
  rw [hs];exact (h.all p hp).2.1
theorem Iz.wr (h:Iz w B c a len cap D W l) (i:Nat) (e:l[i]?=some (b,cs,t)) {cs':Array Value} (TT:Wrote (fun b' _=>b'=b) W W') (k:W'.heap[b]?=some (.cells cs' t (0,0))):Iz w B c a len cap D W' (l.set i (b,cs',t)):=by
 have hb:=h.up i e;have hc:=h.hc;have U:=h.bx.upd i e TT k
 have hs:(W.heap.extract 0 w.heap.size).size=w.heap.size:=by have:=h.step.size; simp; omega
 refine ⟨⟨TT.os.trans h.step.os,TT.tape.trans h.step.tape,TT.output.trans h.step.output,Nat.le_trans h.step.size TT.size,fun k hk hkc=>(TT.block k (Nat.lt_of_lt_of_le hk h.step.size) (fun _ (e:k=b)=>(by omega))).trans (h.step.block k hk hkc)⟩,h.cur.below (TT.below h.step.size (fun b' o h1 (h2:b'=b)=>(by omega))) hc,hc,fun p hp=>⟨(U.all p hp).1,?_,(U.all p hp).2.2⟩,U.nd,U.lt,h.lo⟩;have:=(U.all p hp).2.1;exact hs ▸ this
theorem Iz.row (h:Iz w B c a len cap D W l) (i:Nat) (e:l[i]?=some (b,cs,t)) (cs':Array Value):Iz w B c a len cap D (W.setRow b cs') (l.set i (b,cs',t)):=h.wr i e (Bn (h.ret i e) cs') (setRow_heap _ _ _ _ _ _ (h.ret i e))
structure Na (w:World) (B c:Nat) (a:Option Addr) (len cap:Nat) (E:Nat->Nat->Prop) (W:World) (l:Mq) (v:Value) (d:Aq):Prop extends Iz w B c a len cap (fun b=>∃ i,E i b) W l where
 on:Aw W E v d
 dis:Dis E
theorem Na.move (h:Na w B c a len cap E W l v d) (S:Step c W W') (H:Ep W' B c a len cap):Na w B c a len cap E W' l v d :=
 ⟨h.toIz.move S H,h.on.same S.size (fun i b hi hb=>S.block b hb (by have:=h.lo b ⟨i,hi⟩; have:=h.hc; omega)),h.dis⟩
theorem Na.call (h:Na w B c a len cap E W l v d) (L:Below W.heap.size W W'):Na w B c a len cap E W' l v d:=⟨h.toIz.call L,h.on.below L,h.dis⟩
theorem Na.alloc (h:Na w B c a len cap E W l v d) (cs:Array Value) (t:TypeId) (n:Nat) (e:W.heap.size=n):Na w B c a len cap E (W.alloc (.cells cs t)) (l++[(n,cs,t)]) v d:=⟨h.toIz.alloc cs t n e,h.on.below ((Below.refl _ _).alloc (Nat.le_refl _) _),h.dis⟩
theorem Na.wr (h:Na w B c a len cap E W l v d) (i:Nat) (e:l[i]?=some (b,cs,t)) {cs':Array Value} (TT:Wrote (fun b' _=>b'=b) W W') (k:W'.heap[b]?=some (.cells cs' t (0,0))):Na w B c a len cap E W' (l.set i (b,cs',t)) v d:=⟨h.toIz.wr i e TT k,h.on.keep TT (fun j b' o hd _ (he:b'=b)=>h.no i e ⟨j,he ▸ hd⟩),h.dis⟩
theorem Na.row (h:Na w B c a len cap E W l v d) (i:Nat) (e:l[i]?=some (b,cs,t)) (cs':Array Value):Na w B c a len cap E (W.setRow b cs') (l.set i (b,cs',t)) v d:=h.wr i e (Bn (h.ret i e) cs') (setRow_heap _ _ _ _ _ _ (h.ret i e))
theorem Iz.made (h:Iz w B c a len cap D W l) (L:Below W.heap.size W W') (T:Told W' W.heap.size v d):∃ E,Na w B c a len cap E W' l v d:=by
 obtain ⟨E,h1,h2,h3⟩:=T;have h':=h.call L;refine ⟨E,⟨⟨h'.step,h'.cur,h.hc,fun p hp=>⟨(h'.all p hp).1,(h.all p hp).2.1,fun ⟨i,hi⟩=>?_⟩,h.nd,fun b ⟨i,hi⟩=>(h3 i b hi).2,fun b ⟨i,hi⟩=>Nat.le_trans h.step.size (h3 i b hi).1⟩,h1,h2⟩⟩;have:=(h3 i _ hi).1;have:=Ad (h.all p hp).1
 omega
structure Po (w:World) (B c:Nat) (a:Option Addr) (len cap p N:Nat) (W:World) (l:Mq) (v:Value) (d:Aq):Prop extends Iz w B c a len cap (fun b=>p<=b/\b<N) W l where
 y:Ft W p N v d
 plo:w.heap.size<=p
 hN:N<=W.heap.size
theorem Po.move (h:Po w B c a len cap p N W l v d) (S:Step c W W') (H:Ep W' B c a len cap):Po w B c a len cap p N W' l v d :=
 ⟨h.toIz.move S H,h.y.same S.size (fun b h1 h2=>S.block b (h.lt b ⟨h1,h2⟩) (by have:=h.plo; have:=h.hc; omega)),h.plo,Nat.le_trans h.hN S.size⟩
theorem Po.call (h:Po w B c a len cap p N W l v d) (L:Below W.heap.size W W'):Po w B c a len cap p N W' l v d:=⟨h.toIz.call L,h.y.below L,h.plo,Nat.le_trans h.hN L.size⟩
theorem Po.alloc (h:Po w B c a len cap p N W l v d) (cs:Array Value) (t:TypeId) (n:Nat) (e:W.heap.size=n):Po w B c a len cap p N (W.alloc (.cells cs t)) (l++[(n,cs,t)]) v d:=⟨h.toIz.alloc cs t n e,h.y.below ((Below.refl _ _).alloc (Nat.le_refl _) _),h.plo,Nat.le_trans h.hN ((Below.refl W.heap.size W).alloc (Nat.le_refl _) (.cells cs t)).size⟩
theorem Po.wr (h:Po w B c a len cap p N W l v d) (i:Nat) (e:l[i]?=some (b,cs,t)) {cs':Array Value} (TT:Wrote (fun b' _=>b'=b) W W') (k:W'.heap[b]?=some (.cells cs' t (0,0))):Po w B c a len cap p N W' (l.set i (b,cs',t)) v d:=⟨h.toIz.wr i e TT k,h.y.keep TT (fun b' o (he:b'=b)=>he ▸ h.no i e),h.plo,Nat.le_trans h.hN TT.size⟩
theorem Po.row (h:Po w B c a len cap p N W l v d) (i:Nat) (e:l[i]?=some (b,cs,t)) (cs':Array Value):Po w B c a len cap p N (W.setRow b cs') (l.set i (b,cs',t)) v d:=h.wr i e (Bn (h.ret i e) cs') (setRow_heap _ _ _ _ _ _ (h.ret i e))
theorem Po.tell (h:Po w B c a len cap p N W l v d):Fo W w.heap.size v d:=h.y.tell h.plo
theorem Iz.drawn (h:Iz w B c a len cap D W l) (S:Step c W W') (H:Ep W' B c a len cap) (T:Fo W' W.heap.size v d):Po w B c a len cap W.heap.size W'.heap.size W' l v d:=by
 have h':=h.move S H;refine ⟨⟨h'.step,h'.cur,h.hc,fun p hp=>⟨(h'.all p hp).1,(h.all p hp).2.1,fun hi=>?_⟩,h.nd,fun b hb=>hb.2,fun b hb=>Nat.le_trans h.step.size hb.1⟩,T.y,h.step.size,Nat.le_refl _⟩;have:=hi.1;have:=Ad (h.all p hp).1
 omega
theorem Iz.told (h:Iz w B c a len cap D W l) (L:Below W.heap.size W W') (T:Fo W' W.heap.size v d):Po w B c a len cap W.heap.size W'.heap.size W' l v d :=
 h.drawn (Ez L (Nat.le_refl _)) (h.cur.below L (Nat.lt_of_lt_of_le h.hc h.step.size)) T
end
theorem Jdo (m:Nat) (ln:Nat->Nat) (f:Nat->Nat->Int) (np:Nat) (p:Nat->Int):Few 0 (if okLock (newD m ln f np p) then newD m ln f np p else Y6):=by
 split <;> exact Few.none _ rfl rfl rfl
theorem Tj (w:World) (B c:Nat) (a:Option Addr) (len cap:Nat) (H:Ep w B c a len cap) :
  Calls prog 42 #[(pt c 0)] w fun e w'=>∃ v d,e=.returned v/\Fo w' w.heap.size v d/\Few 800 d/\Ep w' B c a len cap/\Step c w w':=by
 have B0:=(Iz.nil H).alloc zR 41 w.heap.size rfl;have hc:=H.lt
 go_enter func42,ntmps42
 go_upto_region 1 with (fail)
 obtain ⟨W0,hW0⟩:∃ W,Hid (W=w.alloc (.cells zR 41)):=⟨_,rfl⟩
 have hz0:W0.heap.size=w.heap.size+1:=by rw [hW0.out]; simp
 rw [<- hW0.out] at B0 ⊢;generalize hrs:(zR:Array Value)=rs at *
 have HRS:Hid (rs.size=34):=by show _=_; rw [<- hrs]; rfl
 clear hrs hW0
 have M0:LP W0 (W0.alloc (.cells #[] 3)) B c a len cap W0.heap.size 0 0 (fun _=>0) :=
  ⟨Row.empty _ (Ak W0 #[] 3) (Nat.le_refl _),B0.cur.alloc _ (by omega),(Step.refl c W0).alloc _⟩
 have hc0:c<W0.heap.size:=by omega
 have HZ0:=Ac hz0;clear hz0;go_wp2;generalize W0.alloc (.cells #[] 3)=W1 at *
 go_loopw [3,4] (fun o i wr=>∃ (j g x:Nat) (f:Nat->Int),j<=4/\i=.i j/\o=.sl g 0 j x/\LP W0 wr B c a len cap g j x f) (fun _ i _=>5-(intOf i).toNat)
 case atStart=>exact ⟨0,W0.heap.size,0,fun _=>0,by omega,rfl,rfl,M0⟩
 case round =>
  obtain ⟨j,g,x,f,hj,rfl,rfl,M⟩:=hrel;clear M0;go_wp2_with fail;refine (Dk _ B c a len cap M.cur 4).mono ?_;rintro e W2 ⟨y,rfl,y0,y1,H1,O1⟩;have M1:=M.moved hc0 O1.step H1;clear M O1 H1
  by_cases hlt:(j:Int)<y
  .go_wp2_with fail
   refine (Dk _ B c a len cap M1.cur 256).mono ?_;rintro e W3 ⟨v,rfl,v0,v1,H2,O2⟩;have M2:=M1.moved hc0 O2.step H2;clear M1 O2 H2;have k3:=Ak W3 #[.i v] 3;have M3:=M2.below hc0 ((Below.refl W3.heap.size W3).alloc (Nat.le_refl _) (.cells #[.i v] 3));have HM3:=Ac M3;have HK3:=Ac k3;clear M2 M3 k3;go_wp2_with (at_builtin; refine Um _ rfl _ _ rfl W0.heap.size g j x f rfl HM3.out.row (by omega) W3.heap.size v rfl (Af HK3.out 0) ?_);intro g' x' W4 R4 T4 h4;have HM4:=Ac (HM3.out.push hc0 R4 T4);clear R4 T4 h4 HM3 HK3;go_wp2
   go_round
   case rel=>exact ⟨j+1,g',x',_,by omega,by go_num,by go_num,HM4.out⟩
   case measure=>simp [intOf]; omega
  .go_upto_region 6 with (fail)
   have HB:=Ac (B0.move M1.step M1.cur);have HM:=Ac M1;clear M1 B0;rename_i K3 hK3;refine wp_region_lit ?_
   (refine wpList_plain rfl (fun K9 hK9=>?_); go_simp; refine hK9 _ _ ?_; clear hK9)
   refine A3 rfl _ _ (by kernel_rfl) (Uf _ B c a len cap HB.out.cur) ?_;rintro e W3 ⟨⟨iv,m,ra,rc,F,rfl,hm1,hm3,hS,hOF,hby⟩,H3,S3⟩;refine ⟨_,rfl,?_⟩;have M3:=HM.out.moved hc0 S3 H3;have B3:=HB.out.move S3 H3
   have KP:Ints .i64 W3 (fun _ _=>True) (.sl g 0 j x) j f:=⟨_,_,rfl,M3.row.small,M3.row.sl.row,fun _ _ _=>trivial⟩
   clear HB HM H3 S3 hOF hby
   (refine wpList_plain rfl (fun K9 hK9=>?_); go_simp; refine hK9 _ _ ?_; clear hK9)
   refine A3 rfl _ _ (by kernel_rfl) (Vm _ _ _ iv _ m (fun _=>256) F j f hS.ints KP) ?_;rintro e W4 ⟨v4,rfl,T4,L4⟩;refine ⟨_,rfl,?_⟩;obtain ⟨E,K⟩:=B3.made L4 T4.ex;have F4:=Jdo m (fun _=>256) F j f;generalize (if okLock (newD m (fun _=>256) F j f)=true then newD m (fun _=>256) F j f else Y6)=d0 at *;generalize okLock (newD m (fun _=>256) F j f)=ok at *;obtain ⟨co,rfl,hco,ho1⟩:=K.on.agg;clear B3 L4 T4 M3 hS
   iterate 4 (refine wpList_plain rfl (fun K9 hK9=>?_); go_simp; refine hK9 _ _ ?_; clear hK9)
   replace K:=K.alloc zR 41 _ rfl;generalize W4.heap.size=bo at *;generalize W4.alloc (.cells zR 41)=W5 at *;refine wpList_store_row rfl _ _ _ rfl (bo) co rfl rfl _ _ (K.ret 1 rfl) (infoAt An hco) (hco.symm) ho1 ?_;replace K:=K.row 1 rfl co;generalize W5.setRow bo co=W6 at *
   (refine wpList_plain rfl (fun K9 hK9=>?_); go_simp; refine hK9 _ _ ?_; clear hK9)
   refine hK3 _ _ ?_;clear hK3;go_upto_region 7 with (fail);rename_i K3 hK3;refine Gy 7 (fun w'=>w'.heap[bo]?=some (.cells co 41 (0,0))) (by kernel_rfl) ?_;replace K:=K.call (show Below W6.heap.size W6 (redrawn W6 (W6.drawn+1)) from ⟨rfl,rfl,rfl,Nat.le_refl _,fun _ _=>rfl⟩);generalize redrawn W6 (W6.drawn+1)=W8 at *
   show Do _ _ _ _ _ 8 _ _ _
   refine Dr 0 rfl (by kernel_rfl) (K.ret 1 rfl) (Vi _ _ rfl rfl bo rfl _ co _ _ (fun w' h=>h) underlying41 rfl (infoAt An hco)) ?_;refine Fh 1 rfl (by kernel_rfl) (K.ret 1 rfl) (Li _ rfl rfl) ?_;refine En 2 rfl (by kernel_rfl) ?_;go_simp;refine (Dk _ B c a len cap K.cur 60).mono ?_;rintro e W9 ⟨x,rfl,x0,x1,H9,O9⟩;replace K:=K.move O9.step H9;refine ⟨fun _=>K.ret 1 rfl,?_⟩;refine En 3 rfl (by kernel_rfl) ?_;go_simp;refine (Wa _ _ _ d0 x 0 K.on (by omega) F4 (by omega)).mono ?_;rintro e W10 ⟨v2,k,d2,rfl,T,F2,L⟩;have K2:=K.toIz.told L T;obtain ⟨E2,KE2,-⟩:=K2.y.on;refine ⟨fun _=>K2.ret 1 rfl,?_⟩;obtain ⟨c2,rfl,hc2,ho2⟩:=KE2.agg;refine Fh 4 rfl (by kernel_rfl) (K2.ret 1 rfl) (Li _ rfl rfl) ?_
   refine Fh 5 rfl (by kernel_rfl) (K2.ret 1 rfl) (Iw _ 0 rfl rfl rfl rfl) ?_;refine Fh 6 rfl (by kernel_rfl) (K2.ret 1 rfl) (Iw _ 1 rfl rfl rfl rfl) ?_;refine En 7 rfl (by kernel_rfl) ?_;refine wp_store_row _ _ _ rfl bo c2 rfl rfl _ _ (K2.ret 1 rfl) (infoAt An hc2) (hco.trans hc2.symm) ho2 ?_;refine ⟨fun h=>absurd (show true=false from h (by decide)) (by decide),?_⟩;refine Io (by kernel_rfl) ?_;replace K2:=K2.row 1 rfl c2;generalize W10.setRow bo c2=W11 at *;refine hK3 _ _ ?_;clear hK3;go_simp;go_upto_region 8 with (fail);rename_i K3 hK3;refine wp_region_lit ?_;refine wpList_load_row rfl _ _ rfl (bo) rfl _ _ _ _ (K2.ret 1 rfl) underlying41 rfl (infoAt An hc2) ?_;refine wpList_store_row rfl _ _ _ rfl (w.heap.size) c2 rfl rfl _ _ (K2.ret 0 rfl) (infoAt An hc2) (HRS.out.trans hc2.symm) ho2 ?_
   replace K2:=K2.row 0 rfl c2;generalize W11.setRow w.heap.size c2=W12 at *;refine hK3 _ _ ?_;clear hK3;go_wp2;refine bodyPost_ret (v:=.agg c2) (results_cell_row (by rfl) _ _ w.heap.size _ _ _ _ rfl (K2.ret 0 rfl) underlying41 rfl (infoAt An hc2)) rfl ?_;exact ⟨_,rfl,d2,K2.tell,F2.mono (by omega),K2.cur,K2.step⟩
section
variable {w W W':World} {B c:Nat} {a:Option Addr} {len cap p N:Nat} {D D':Nat->Prop} {E:Nat->Nat->Prop} {l:Mq} {i b:Nat} {cs:Array Value} {t:TypeId} {v v':Value} {d d':Aq}
theorem Aw.putT (h:Aw W E (.agg cs) d) (x:Int):Aw W E (.agg (cs.setIfInBounds 20 (.i x))) { d with T:=x }:=by
 obtain ⟨u0,u1,u2,u3,u4,u5,u6,u7,e,h⟩:=h;obtain rfl:=Value.agg.inj e;exact ⟨u0,u1,u2,u3,u4,u5,u6,u7,rfl,h⟩
theorem Aw.putSt (h:Aw W E (.agg cs) d) (x:Int):Aw W E (.agg (cs.setIfInBounds 30 (.i x))) { d with st:=x }:=by
 obtain ⟨u0,u1,u2,u3,u4,u5,u6,u7,e,h⟩:=h;obtain rfl:=Value.agg.inj e;exact ⟨u0,u1,u2,u3,u4,u5,u6,u7,rfl,h⟩
theorem Aw.putNmi (h:Aw W E (.agg cs) d) (x:Bool):Aw W E (.agg (cs.setIfInBounds 29 (.bool x))) { d with nmi:=x }:=by
 obtain ⟨u0,u1,u2,u3,u4,u5,u6,u7,e,h⟩:=h;obtain rfl:=Value.agg.inj e;exact ⟨u0,u1,u2,u3,u4,u5,u6,u7,rfl,h⟩
theorem Aw.putR (h:Aw W E (.agg cs) d) (x:Bool):Aw W E (.agg (cs.setIfInBounds 26 (.bool x))) { d with R:=x }:=by
 obtain ⟨u0,u1,u2,u3,u4,u5,u6,u7,e,h⟩:=h;obtain rfl:=Value.agg.inj e;exact ⟨u0,u1,u2,u3,u4,u5,u6,u7,rfl,h⟩
theorem Aw.putI (h:Aw W E (.agg cs) d) (x:Bool):Aw W E (.agg (cs.setIfInBounds 11 (.bool x))) { d with I:=x }:=by
 obtain ⟨u0,u1,u2,u3,u4,u5,u6,u7,e,h⟩:=h;obtain rfl:=Value.agg.inj e;exact ⟨u0,u1,u2,u3,u4,u5,u6,u7,rfl,h⟩
theorem Aw.putSh (h:Aw W E (.agg cs) d) (x:Int):Aw W E (.agg (cs.setIfInBounds 28 (.i x))) { d with sh:=x }:=by
 obtain ⟨u0,u1,u2,u3,u4,u5,u6,u7,e,h⟩:=h;obtain rfl:=Value.agg.inj e;exact ⟨u0,u1,u2,u3,u4,u5,u6,u7,rfl,h⟩
theorem Aw.putCpu (h:Aw W E (.agg cs) d) (A X S Pc:Int) (Z N C I:Bool):Aw W E (.agg (putAt cs 4 (cR A X S Pc Z N C I))) { d with A:=A,X:=X,S:=S,Pc:=Pc,Z:=Z,N:=N,C:=C,I:=I }:=by
 obtain ⟨u0,u1,u2,u3,u4,u5,u6,u7,e,h⟩:=h;obtain rfl:=Value.agg.inj e;exact ⟨u0,u1,u2,u3,u4,u5,u6,u7,rfl,h⟩
theorem Aw.has (h:Aw W E (.agg cs) d) (j:Nat) (hj:j<34):∃ x,cs[j]?=some x:=by
 obtain ⟨u0,u1,u2,u3,u4,u5,u6,u7,e,h⟩:=h;obtain rfl:=Value.agg.inj e;exact ⟨_,Array.getElem?_eq_getElem hj⟩
theorem Aw.getT (h:Aw W E (.agg cs) d):cs[20]?=some (.i d.T):=by
 obtain ⟨u0,u1,u2,u3,u4,u5,u6,u7,e,h⟩:=h;obtain rfl:=Value.agg.inj e
 rfl
theorem Na.cell (h:Na w B c a len cap E W l v d) (i:Nat) (e:l[i]?=some (b,cs,t)) (o:Nat) (x:Value) (hv:∀ W',Aw W' E v d->Aw W' E v' d'):Na w B c a len cap E (W.setCell ⟨b,o,none⟩ x) (l.set i (b,cs.setIfInBounds o x,t)) v' d' :=
 ⟨h.toIz.wr i e (Ip W b o x) (Am (h.ret i e) x),hv _ (h.on.keep (Ip W b o x) (fun j b' o' hd _ (he:b'=b)=>h.no i e ⟨j,he ▸ hd⟩)),h.dis⟩
theorem Na.rowTo (h:Na w B c a len cap E W l v d) (i:Nat) (e:l[i]?=some (b,cs,t)) (cs':Array Value) (hv:∀ W',Aw W' E v d->Aw W' E v' d'):Na w B c a len cap E (W.setRow b cs') (l.set i (b,cs',t)) v' d' :=
 have h':=h.row i e cs'
 ⟨h'.toIz,hv _ h'.on,h'.dis⟩
theorem Po.drl (h:Po w B c a len cap p N W l v d):∃ E,Na w B c a len cap E W l v d:=by
 obtain ⟨E,h1,h2,h3⟩:=h.y.on;exact ⟨E,⟨⟨h.step,h.cur,h.hc,fun p hp=>⟨(h.all p hp).1,(h.all p hp).2.1,fun ⟨i,hi⟩=>(h.all p hp).2.2 (h3 i _ hi)⟩,h.nd,fun b ⟨i,hi⟩=>h.lt b (h3 i b hi),fun b ⟨i,hi⟩=>h.lo b (h3 i b hi)⟩,h1,h2⟩⟩
theorem Iz.push (h:Iz w B c a len cap D W l) (hw:Wrote (fun b _=>D b) W W') (hD:∀ b,D' b->D b\/(w.heap.size<=b/\b<W'.heap.size/\∀ p,p∈l->p.1≠b)):Iz w B c a len cap D' W' l :=
 ⟨⟨hw.os.trans h.step.os,hw.tape.trans h.step.tape,hw.output.trans h.step.output,Nat.le_trans h.step.size hw.size,fun k hk hkc=>(hw.block k (Nat.lt_of_lt_of_le hk h.step.size) (fun _ hd=>absurd (h.lo k hd) (by omega))).trans (h.step.block k hk hkc)⟩,
  h.cur.below (hw.below h.step.size (fun b o hb hd=>absurd (h.lo b hd) (by omega))) h.hc,h.hc,fun p hp=>⟨Al (h.all p hp).1 hw (fun o hd=>(h.all p hp).2.2 hd),(h.all p hp).2.1,fun hd=>(hD _ hd).elim (h.all p hp).2.2 (fun k=>k.2.2 p hp rfl)⟩,h.nd,
  fun b hb=>(hD b hb).elim (fun k=>Nat.lt_of_lt_of_le (h.lt b k) hw.size) (fun k=>k.2.1),fun b hb=>(hD b hb).elim (h.lo b) (fun k=>k.1)⟩
theorem Jbc {g x:Nat} {y:Int} {lo:Nat} (R:Row W lo g 1 x (snoc (fun _=>0) 0 y)):Aw W (fun i b=>i=5/\b=g) (.agg (zero34.setIfInBounds 32 (.slice (some ⟨g,0,none⟩) 1 x))) (Ly Jm y):=by
 exact ⟨_,_,_,_,_,_,_,_,rfl,Cu.noneL _,⟨_,_,rfl,Bu.zero _ _⟩,⟨_,_,rfl,by show (0:Nat)<=_; omega,fun i hi=>absurd hi (Nat.not_lt_zero _),fun b o hF=>absurd hF (A4 _ _ _),fun b o hF=>absurd hF (A4 _ _ _)⟩,⟨_,_,_,_,rfl,Bu.zero _ _,Bu.zero _ _,fun b o h=>absurd h (A4 _ _ _)⟩,⟨_,_,_,rfl,Cu.noneL _,R.onE (Or.inl ⟨rfl,rfl⟩),⟨_,_,rfl,Bu.zero _ _⟩⟩⟩
theorem Tk (K:Po w B c a len cap p N W l (.agg cs) d) {ops:Array Oper} {rest:List Oper} {o:Oper} {f:Act} {Q:Exit->Act->World->Prop} (hg:o.guard=none) (s x:Operand) (hop:o.op=Op.call { callee:=Callee.builtin Builtin.append,args:=#[s,x],argTypes:=#[27,27] })
  (hn:d.ns<1048576) {u:Value} (hu:cs[32]?=some u) (hs:f.eval s=u) (q:Nat) (y:Int) (hx:f.eval x=.slice (some ⟨q,0,none⟩) 1 1) (hq:W.cell? ⟨q,0,none⟩=some (.i y))
  (h:∀ g' c' W' E,Na w B c a len cap E W' l (.agg (cs.setIfInBounds 32 (.slice (some ⟨g',0,none⟩) (d.ns+1) c'))) (Ly d y)->wpList prog ops Q rest (f.put o.dst (.slice (some ⟨g',0,none⟩) (d.ns+1) c')) W'):wpList prog ops Q (o :: rest) f W:=by
 rcases K.y with ⟨e,rfl⟩ | ⟨q0,E,u0,u1,u2,u3,u4,ov,gb,cp,g6,c6,g7,c7,hq0,e,HP⟩
 .obtain rfl:=Value.agg.inj e
  obtain rfl:Value.slice none 0 0=u:=by simpa [zero34] using hu
  refine Sz W hg s x hop w.heap.size none _ 0 (fun _=>0) hs ⟨rfl,rfl⟩ (by omega) K.step.size q y hx hq ?_;rintro g' c' W' ⟨c2,e2,R⟩ hw hat
  obtain ⟨-,rfl⟩:True/\c'=c2:=by simpa using e2
  have hp:=R.parts;have hat':W.heap.size<=g':=hat.elim (fun h=>by cases h) id;refine h _ _ _ (fun i b=>i=5/\b=g') ⟨K.toIz.push (hw.mono (fun b o _ h=>by cases h)) (fun b ⟨i,_,hb⟩=>Or.inr ⟨?_,?_,fun p hp' e=>?_⟩),Jbc R,fun i j b h1 h2=>h1.1.trans h2.1.symm⟩
  .have:=K.step.size; omega
  .omega
  .have:=Ad (K.all p hp').1; omega
 .obtain rfl:=Value.agg.inj e
  obtain rfl:Value.sl g6 0 d.ns c6=u:=by simpa [rowL] using hu
  have h6:=HP.h6.parts;have n6:=HP.n6;refine Eu W hg s x hop q0 g6 d.ns c6 d.sm hs HP.h6 hn q y hx hq ?_;intro g' c' W' R hw hat;have H':=HP.samp (x:=y) (by omega) hw R hat;have hp:=R.parts;refine h _ _ _ _ ⟨K.toIz.push (hw.mono (fun b o _ h=>by rw [h.1]; omega)) (fun b ⟨i,hb⟩=>?_),H'.lockOn,H'.dis⟩
  rcases hb with ⟨-,rfl⟩ | ⟨-,hb⟩
  .rcases hat with ⟨rfl,-⟩ | hat
   .exact Or.inl (by omega)
   .refine Or.inr ⟨?_,?_,fun p hp' e=>?_⟩
    .have:=K.step.size; omega
    .omega
    .have:=Ad (K.all p hp').1; omega
  .have:=HP.bd i b hb
   exact Or.inl (by omega)
theorem A9.add7 {lo:Nat} {u0 u1 u2 u3 u4 ov:Value} {gb cp:Nat->Nat} {g6 c6 g7 c7:Nat} (H:A9 W lo N E u0 u1 u2 u3 u4 ov gb cp g6 c6 g7 c7 d) {gN:Nat} (hN1:N<=gN) (hN2:gN<W.heap.size) (hl:lo<=N):A9 W lo W.heap.size (fun i b=>(i=7/\b=gN)\/(i≠7/\E i b)) u0 u1 u2 u3 u4 ov gb cp g6 c6 g7 c7 d:=by
 refine ⟨H.h0.mono (fun b _ h=>Or.inr ⟨by decide,h⟩),H.h1.mono (fun b _ h=>Or.inr ⟨by decide,h⟩),H.h2.mono (fun b _ h=>Or.inr ⟨by decide,h⟩),H.h3.mono (fun b _ h=>Or.inr ⟨by decide,h⟩),H.h4,fun b h=>Or.inr ⟨by decide,H.h4D b h⟩,H.h6,H.h6D.imp (fun h=>Or.inr ⟨by decide,h⟩) id,H.h7,H.h7D.imp (fun h=>Or.inr ⟨by decide,h⟩) id,?_,?_,Nat.lt_of_lt_of_le H.n6 H.nN,Nat.lt_of_lt_of_le H.n7 H.nN,Nat.le_refl _,H.hps⟩
 .intro i j b h1 h2
  rcases h1 with ⟨rfl,rfl⟩ | ⟨n1,h1⟩ <;> rcases h2 with ⟨rfl,e⟩ | ⟨n2,h2⟩
  .rfl
  .have:=H.bd j _ h2; omega
  .subst e; have:=H.bd i _ h1; omega
  .exact H.dis i j b h1 h2
 .intro i b h
  rcases h with ⟨-,rfl⟩ | ⟨-,h⟩
  .omega
  .have:=H.bd i b h; have:=H.nN; omega
theorem Yi {g x gN lo:Nat} {gb cp:Nat->Nat} {y:Nat->Int} (G:SG W lo (.slice (some ⟨g,0,none⟩) 1 x) 1 gb cp (Ek (fun _=>0) 0 1) (Ix (fun _ _=>0) 0 y)) (hg:gb 0=gN):Aw W (fun i b=>i=4/\(b=g\/b=gN)) (.agg (zero34.setIfInBounds 31 (.slice (some ⟨g,0,none⟩) 1 x))) (Hi Jm 1 y):=by
 have GS:=G.onD (D:=fun b=>(4=4)/\(b=g\/b=gN)) (fun b h=>⟨rfl,by
  rcases h with h | ⟨i,hi,h⟩
  .simp [Value.ownBlock] at h; exact Or.inl h.symm
  .obtain rfl:i=0:=by omega
   exact Or.inr (h.symm.trans hg)⟩) (by simp [Dw,Ek])
 exact ⟨_,_,_,_,_,_,_,_,rfl,Cu.noneL _,⟨_,_,rfl,Bu.zero _ _⟩,⟨_,_,rfl,by show (0:Nat)<=_; omega,fun i hi=>absurd hi (Nat.not_lt_zero _),fun b o hF=>absurd hF (A4 _ _ _),fun b o hF=>absurd hF (A4 _ _ _)⟩,⟨_,_,_,_,rfl,Bu.zero _ _,Bu.zero _ _,fun b o h=>absurd h (A4 _ _ _)⟩,⟨_,_,_,rfl,GS,⟨_,_,rfl,Bu.zero _ _⟩,⟨_,_,rfl,Bu.zero _ _⟩⟩⟩
theorem Qi (K:Po w B c a len cap p N W l (.agg cs) d) {ops:Array Oper} {rest:List Oper} {o:Oper} {f:Act} {Q:Exit->Act->World->Prop} (hg:o.guard=none) (s x:Operand) (hop:o.op=Op.call { callee:=Callee.builtin Builtin.append,args:=#[s,x],argTypes:=#[24,24] })
  (hn:d.mf<1048576) (hlf:∀ i,i<d.mf->d.lf i=48) {u:Value} (hu:cs[31]?=some u) (hs:f.eval s=u) (q gN:Nat) (hx:f.eval x=.slice (some ⟨q,0,none⟩) 1 1) (hq:W.cell? ⟨q,0,none⟩=some (.slice (some ⟨gN,0,none⟩) 1 1))
  (kN:W.heap[gN]?=some (.cells #[.i 1] 3 (0,0))) (hN:N<=gN) (hsz:w.heap.size<=gN) (hlN:∀ p,p∈l->p.1≠gN)
  (h:∀ g' c' W' E,Na w B c a len cap E W' l (.agg (cs.setIfInBounds 31 (.slice (some ⟨g',0,none⟩) (d.mf+1) c'))) (Hi d 1 (fun _=>1))->wpList prog ops Q rest (f.put o.dst (.slice (some ⟨g',0,none⟩) (d.mf+1) c')) W'):wpList prog ops Q (o :: rest) f W:=by
 have hNl:=Ad kN
 have RN:∀ lo,lo<=gN->Row W lo gN 1 1 (fun _=>1):=fun lo hl=>⟨⟨by simp [rowVals],Or.inr ⟨gN,1,_,rfl,hl,kN,Nat.le_refl _,by unfold maxLen; omega,rfl,rfl⟩⟩,by omega⟩
 rcases K.y with ⟨e,rfl⟩ | ⟨q0,E,u0,u1,u2,u3,u4,ov,gb,cp,g6,c6,g7,c7,hq0,e,HP⟩
 .obtain rfl:=Value.agg.inj e
  obtain rfl:Value.slice none 0 0=u:=by simpa [zero34] using hu
  refine Fx W hg s x hop w.heap.size (.slice none 0 0) 0 [] hs ⟨rfl,Or.inl ⟨rfl,rfl⟩⟩ (by omega) K.step.size q (.sl gN 0 1 1) rfl hx hq ?_;intro g' c' W' own' hw hat;have hat':W.heap.size<=g':=hat.elim (fun h=>by cases h) id;have G:=(SG.nil W w.heap.size (fun _=>gN) (fun _=>1) (Ek (fun _=>0) 0 1) (Ix (fun _ _=>0) 0 (fun _=>1))).push hw own' hat (gN:=gN) (cN:=1) (RN _ hsz) (fun h=>by cases h) (fun i hi=>absurd hi (Nat.not_lt_zero _)) (by omega);have hp:=Df own' (show (Value.sl g' 0 1 c').ownBlock=some g' from rfl);refine h _ _ _ (fun i b=>i=4/\(b=g'\/b=gN)) ⟨K.toIz.push (hw.mono (fun b o _ h=>by cases h)) (fun b ⟨i,_,hb⟩=>Or.inr ?_),Yi G (if_pos rfl),fun i j b h1 h2=>h1.1.trans h2.1.symm⟩;have hsw:=hw.size;have hsk:=K.step.size
  rcases hb with rfl | rfl
  .exact ⟨by omega,by omega,fun p hp' e=>by have:=Ad (K.all p hp').1; omega⟩
  .exact ⟨hsz,by omega,hlN⟩
 .obtain rfl:=Value.agg.inj e
  obtain rfl:ov=u:=by simpa [rowL] using hu
  have h6:=HP.h6.parts;have n6:=HP.n6;have H7:=HP.add7 hN hNl (by omega)
  have hob:∀ b,ov.ownBlock=some b->q0<=b/\b<N:=fun b e=>HP.bd 4 b (HP.h4D b (Or.inl e))
  refine Fx W hg s x hop q0 ov d.mf _ hs H7.h4.own hn (by have:=HP.nN; omega) q (.sl gN 0 1 1) rfl hx hq ?_;intro g' c' W' own' hw hat
  have hp5:Dw (Ek d.lf d.mf 1) (d.mf+1)<=1099511627776:=Lf (by omega) (fun i hi=>by
   show (if i=d.mf then 1 else d.lf i)<=1048576
   split
   .omega
   .rw [hlf i (by omega)]; omega)
  have H':=H7.frame (k:=1) (h:=fun _=>1) (by have:=HP.nN; omega) hw own' hat (RN q0 (by omega)) (Or.inl ⟨rfl,rfl⟩) hn hp5;have hp:=Df own' (show (Value.sl g' 0 (d.mf+1) c').ownBlock=some g' from rfl);have hsw:=hw.size;have hsk:=K.step.size;refine h _ _ _ _ ⟨K.toIz.push (hw.mono (fun b o _ h=>by have:=hob b h; omega)) (fun b ⟨i,hb⟩=>?_),H'.lockOn,H'.dis⟩
  have low:∀ i,E i b->p<=b/\b<N:=fun i hb=>by have:=HP.bd i b hb; omega
  have gn:b=gN->(p<=b/\b<N)\/(w.heap.size<=b/\b<W'.heap.size/\∀ p,p∈l->p.1≠b):=fun e=>by
   subst e;exact Or.inr ⟨hsz,by omega,hlN⟩
  have in7:∀ i,((i=7/\b=gN)\/(i≠7/\E i b))->(p<=b/\b<N)\/(w.heap.size<=b/\b<W'.heap.size/\∀ p,p∈l->p.1≠b):=fun i h=>h.elim (fun k=>gn k.2) (fun k=>Or.inl (low i k.2))
  rcases hb with ⟨-,rfl | hb | hb⟩ | ⟨-,-,hb⟩
  .rcases hat with e | hat
   .have:=hob _ e
    exact Or.inl (by omega)
   .exact Or.inr ⟨by omega,by omega,fun p hp' e=>by have:=Ad (K.all p hp').1; omega⟩
  .exact in7 _ hb
  .exact in7 _ hb
  .exact in7 _ hb
end
set_option maxHeartbeats 8000000
set_option maxRecDepth 40000
theorem Je3 (w:World) (B c:Nat) (a:Option Addr) (len cap:Nat) (H:Ep w B c a len cap) :
  Calls prog 13 #[(pt c 0)] w fun e w'=>∃ v d E,e=.returned v/\Aw w' E v d/\(∀ i b,E i b->w.heap.size<=b/\b<w'.heap.size)/\Dq 801 d/\Ep w' B c a len cap/\Step c w w':=by
 have B0:=(Iz.nil H).alloc zR 41 w.heap.size rfl
 go_enter func13,ntmps13
 go_upto_region 1 with (fail)
 obtain ⟨W0,hW0⟩:∃ W,Hid (W=w.alloc (.cells zR 41)):=⟨_,rfl⟩
 rw [<- hW0.out] at B0 ⊢;generalize hrs:(zR:Array Value)=rs at *
 have HRS:Hid (rs.size=34):=by show _=_; rw [<- hrs]; rfl
 clear hrs hW0;rename_i K3 hK3;refine wp_region_lit ?_
 (refine wpList_plain rfl (fun K9 hK9=>?_); go_simp; refine hK9 _ _ ?_; clear hK9)
 refine A3 rfl _ _ (by kernel_rfl) (Tj _ B c a len cap B0.cur) ?_;rintro e W1 ⟨v1,d,rfl,T,hF,H1,S1⟩;refine ⟨_,rfl,?_⟩;have K:=B0.drawn S1 H1 T;clear B0 S1 H1 T;obtain ⟨E0,KE,-⟩:=K.y.on;obtain ⟨co,rfl,hco,ho1⟩:=KE.agg;clear KE E0
 (refine wpList_plain rfl (fun K9 hK9=>?_); go_simp; refine hK9 _ _ ?_; clear hK9)
 replace K:=K.alloc zR 41 _ rfl;generalize W1.heap.size=bo at *;generalize W1.alloc (.cells zR 41)=W2 at *;refine wpList_store_row rfl _ _ _ rfl (bo) co rfl rfl _ _ (K.ret 1 rfl) (infoAt An hco) (hco.symm) ho1 ?_;replace K:=K.row 1 rfl co;generalize W2.setRow bo co=W3 at *;refine hK3 _ _ ?_;clear hK3;have HCO:=Ac hco;clear hco ho1;have HK:=Ac K;clear K;go_wp2_with fail;refine (Dk _ B c a len cap HK.out.cur 30).mono ?_;rintro e W4 ⟨x,rfl,x0,x1,H4,O4⟩;have K:=HK.out.move O4.step H4;clear HK H4 O4
 go_upto_block 0 with (fail)
 go_cut [] (fun WX=>∃ E cs d,Na w B c a len cap E WX [(w.heap.size,rs,41),(bo,cs,41)] (.agg cs) d/\Dq 801 d/\cs.size=34)
 case first =>
  have F8:Dq 801 d:=hF.toDq.mono (by omega)
  have F9:Dq 801 { d with ns:=d.ns+1,mf:=d.mf+1 }:=⟨Nat.le_trans hF.nq (by omega),Nat.add_le_add_right hF.ns 1,Nat.add_le_add_right hF.mf 1⟩
  by_cases r0:x=0
  .subst r0
   obtain ⟨E,K⟩:=K.drl;have c20:=(Af (K.ret 1 rfl) 20).trans K.on.getT;have cf:=Au (K.ret 1 rfl);go_wp2_with fail
   go_meet
   exact ⟨E,_,_,K.cell 1 rfl 20 _ (fun _ k=>k.putT _),⟨F8.nq,F8.ns,F8.mf⟩,by simpa using HCO.out⟩
  .have q0:(x==0)=false:=by simp [r0]
   by_cases r1:x=1
   .subst r1
    obtain ⟨E,K⟩:=K.drl;obtain ⟨v30,hv30⟩:=K.on.has 30 (by decide);have c30:=(Af (K.ret 1 rfl) 30).trans hv30;have cf:=Au (K.ret 1 rfl);go_wp2_with fail
    go_meet
    exact ⟨E,_,_,K.cell 1 rfl 30 _ (fun _ k=>k.putSt _),⟨F8.nq,F8.ns,F8.mf⟩,by simpa using HCO.out⟩
   .have q1:(x==1)=false:=by simp [r1]
    by_cases r2:x=2
    .subst r2
     obtain ⟨E0,KE,-⟩:=K.y.on;obtain ⟨u,hu⟩:=KE.has 32 (by decide);clear KE E0;have c32:=(Af (K.ret 1 rfl) 32).trans hu;go_upto_region 8 with (fail);refine wp_region_lit ?_
     iterate 4 (refine wpList_plain rfl (fun K9 hK9=>?_); go_simp; refine hK9 _ _ ?_; clear hK9)
     clear c32;have LA:=(Below.refl W4.heap.size W4).alloc (Nat.le_refl _) (.cells #[.i 0] 3);have kq:=Af (Ak W4 #[.i 0] 3) 0;replace K:=K.call LA;clear LA;generalize W4.heap.size=gq at *;generalize W4.alloc (.cells #[.i 0] 3)=W5 at *;refine Tk K rfl _ _ rfl (by have:=F8.ns; omega) hu rfl gq 0 rfl kq ?_;intro g' c' W6 E K6;clear K;have cf:=Au (K6.ret 1 rfl);have c32':=(Af (K6.ret 1 rfl) 32).trans hu;clear kq
     iterate 3 (refine wpList_plain rfl (fun K9 hK9=>?_); go_simp; refine hK9 _ _ ?_; clear hK9)
     unfold wpList;go_wp2_with fail
     go_meet
     exact ⟨E,_,_,K6.cell 1 rfl 32 _ (fun _ k=>k),⟨F8.nq,F9.ns,F8.mf⟩,by simpa using HCO.out⟩
    .have q2:(x==2)=false:=by simp [r2]
     by_cases r3:x=3
     .subst r3
      obtain ⟨E0,KE,-⟩:=K.y.on;obtain ⟨u,hu⟩:=KE.has 31 (by decide);clear KE E0;have c31:=(Af (K.ret 1 rfl) 31).trans hu;go_upto_region 10 with (fail);refine wp_region_lit ?_
      iterate 4 (refine wpList_plain rfl (fun K9 hK9=>?_); go_simp; refine hK9 _ _ ?_; clear hK9)
      clear c31;have LA:=(Below.refl W4.heap.size W4).alloc (Nat.le_refl _) (.cells #[.i 1] 3);have kN:=Ak W4 #[.i 1] 3;have hN:=K.hN
      have hlN:∀ p,p∈[(w.heap.size,rs,41),(bo,co,41)]->p.1≠W4.heap.size:=fun p hp=>Nat.ne_of_lt (Ad (K.all p hp).1)
      have hsz:=K.step.size;replace K:=K.call LA;clear LA;generalize W4.heap.size=gN at *;generalize W4.alloc (.cells #[.i 1] 3)=W5 at *
      (refine wpList_plain rfl (fun K9 hK9=>?_); go_simp; refine hK9 _ _ ?_; clear hK9)
      have LA:=(Below.refl W5.heap.size W5).alloc (Nat.le_refl _) (.cells #[.slice (some ⟨gN,0,none⟩) 1 1] 27);have kq:=Af (Ak W5 #[.slice (some ⟨gN,0,none⟩) 1 1] 27) 0;replace K:=K.call LA;replace kN:=Ab kN LA (Ad kN);clear LA;generalize W5.heap.size=gM at *;generalize W5.alloc (.cells #[.slice (some ⟨gN,0,none⟩) 1 1] 27)=W6 at *;refine Qi K rfl _ _ rfl (by have:=F8.mf; omega) hF.lf hu rfl gM gN rfl kq kN hN hsz hlN ?_;intro g' c' W7 E K6;clear K hlN kN;have cf:=Au (K6.ret 1 rfl);have c31':=(Af (K6.ret 1 rfl) 31).trans hu;clear kq
      iterate 3 (refine wpList_plain rfl (fun K9 hK9=>?_); go_simp; refine hK9 _ _ ?_; clear hK9)
      unfold wpList;go_wp2_with fail
      go_meet
      exact ⟨E,_,_,K6.cell 1 rfl 31 _ (fun _ k=>k),⟨F8.nq,F8.ns,F9.mf⟩,by simpa using HCO.out⟩
     .have q3:(x==3)=false:=by simp [r3]
      by_cases r4:x=4
      .subst r4
       go_upto_region 12 with (fail);refine wp_region_lit ?_
       (refine wpList_plain rfl (fun K9 hK9=>?_); go_simp; refine hK9 _ _ ?_; clear hK9)
       refine A3 rfl _ _ (by kernel_rfl) (Jfp _ B c a len cap K.cur (by have:=K.hc; have:=K.step.size; omega)) ?_;rintro e W5 ⟨⟨A,X,S,Pc,Z,N,C,I,rfl⟩,H5,S5⟩;refine ⟨_,rfl,?_⟩;replace K:=K.move S5 H5;obtain ⟨E,K⟩:=K.drl
       (refine wpList_plain rfl (fun K9 hK9=>?_); go_simp; refine hK9 _ _ ?_; clear hK9)
       refine Be rfl _ _ _ rfl bo 4 (cR A X S Pc Z N C I) rfl rfl _ _ (K.ret 1 rfl) Ax (by rw [HCO.out]; show 4+8<=34; decide) (by simp [Value.oneCell']) ?_;unfold wpList;go_wp2_with fail
       go_meet
       exact ⟨E,_,_,K.rowTo 1 rfl _ (fun _ k=>k.putCpu A X S Pc Z N C I),⟨F8.nq,F8.ns,F8.mf⟩,(Kd (by rw [HCO.out]; show (4+8:Nat)<=34; omega)).trans HCO.out⟩
      .have q4:(x==4)=false:=by simp [r4]
       by_cases r5:x=5
       .subst r5
        obtain ⟨E,K⟩:=K.drl;obtain ⟨v29,hv29⟩:=K.on.has 29 (by decide);have c29:=(Af (K.ret 1 rfl) 29).trans hv29;have cf:=Au (K.ret 1 rfl);go_wp2_with fail
        go_meet
        exact ⟨E,_,_,K.cell 1 rfl 29 _ (fun _ k=>k.putNmi _),⟨F8.nq,F8.ns,F8.mf⟩,by simpa using HCO.out⟩
       .have q5:(x==5)=false:=by simp [r5]
        by_cases r6:x=6
        .subst r6
         obtain ⟨E,K⟩:=K.drl;obtain ⟨v26,hv26⟩:=K.on.has 26 (by decide);obtain ⟨v11,hv11⟩:=K.on.has 11 (by decide);have c26:=(Af (K.ret 1 rfl) 26).trans hv26;have cf:=Au (K.ret 1 rfl);go_upto_region 17 with (fail);replace K:=K.cell 1 rfl 26 (.bool true) (fun _ k=>k.putR true);generalize W4.setCell ⟨bo,26,none⟩ (.bool true)=W5 at *;clear c26 cf;have c11:W5.cell? ⟨bo,11,none⟩=some v11:=(Af (K.ret 1 rfl) 11).trans (by rw [Array.getElem?_setIfInBounds_ne (by decide)]; exact hv11);have cf:=Au (K.ret 1 rfl);go_wp2_with fail
         go_meet
         exact ⟨E,_,_,K.cell 1 rfl 11 _ (fun _ k=>k.putI _),⟨F8.nq,F8.ns,F8.mf⟩,by simpa using HCO.out⟩
        .have q6:(x==6)=false:=by simp [r6]
         by_cases r7:x=7
         .subst r7
          obtain ⟨E,K⟩:=K.drl;obtain ⟨v28,hv28⟩:=K.on.has 28 (by decide);have c28:=(Af (K.ret 1 rfl) 28).trans hv28;have cf:=Au (K.ret 1 rfl);go_wp2_with fail
          go_meet
          exact ⟨E,_,_,K.cell 1 rfl 28 _ (fun _ k=>k.putSh _),⟨F8.nq,F8.ns,F8.mf⟩,by simpa using HCO.out⟩
         .have q7:(x==7)=false:=by simp [r7]
          obtain ⟨E,K⟩:=K.drl;go_wp2_with fail
          go_meet
          exact ⟨E,_,_,K,F8,HCO.out⟩
 case rest =>
 clear K hF;obtain ⟨E,cs,d1,K,hF,hcs⟩:=hcut
 obtain ⟨W5,hW5⟩:∃ x,x=wc:=⟨_,rfl⟩
 subst hW5;obtain ⟨cs',e,-,ho⟩:=K.on.agg;obtain rfl:=Value.agg.inj e;clear e;go_upto_region 20 with (fail);rename_i K3 hK3;refine wp_region_lit ?_;refine wpList_load_row rfl _ _ rfl (bo) rfl _ _ _ _ (K.ret 1 rfl) underlying41 rfl (infoAt An hcs) ?_;refine wpList_store_row rfl _ _ _ rfl (w.heap.size) cs rfl rfl _ _ (K.ret 0 rfl) (infoAt An hcs) (HRS.out.trans hcs.symm) ho ?_;replace K:=K.row 0 rfl cs;generalize W5.setRow w.heap.size cs=W6 at *;refine hK3 _ _ ?_;clear hK3;go_wp2;refine bodyPost_ret (v:=.agg cs) (results_cell_row (by rfl) _ _ w.heap.size _ _ _ _ rfl (K.ret 0 rfl) underlying41 rfl (infoAt An hcs)) rfl ?_;exact ⟨_,rfl,d1,E,K.on,fun i b hb=>⟨K.lo b ⟨i,hb⟩,K.lt b ⟨i,hb⟩⟩,hF,K.cur,K.step⟩
structure CuL (w:World) (B c:Nat) (a:Option Addr) (len cap:Nat) (E:Nat->Nat->Prop) (W:World) (l:Mq) (v:Value) (d:Aq):Prop extends E4 w (fun b=>∃ i,E i b) W l where
 cur:Ep W B c a len cap
 cne:∀ p,p∈l->p.1≠c
 cE:∀ i,¬ E i c
 cw:w.heap.size<=c
 cB:B<=w.heap.size
 on:Aw W E v d
 elo:∀ i b,E i b->w.heap.size<=b
section
variable {w W W':World} {B c:Nat} {a:Option Addr} {len cap:Nat} {E:Nat->Nat->Prop} {l:Mq} {i b:Nat} {cs:Array Value} {t:TypeId} {v:Value} {d:Aq}
theorem Ep.same (H:Ep W B c a len cap) (hc:W'.heap[c]?=W.heap[c]?) (L:Below B W W'):Ep W' B c a len cap:=by
 obtain ⟨i,hi,hx⟩:=H.ix;obtain ⟨h,hh⟩:=H.hx
 have k:∀ o,W'.cell? ⟨c,o,none⟩=W.cell? ⟨c,o,none⟩:=fun o=>World.cell?_of_block (a:=⟨c,o,none⟩) hc
 have f:∀ o,W'.frozen? ⟨c,o,none⟩=W.frozen? ⟨c,o,none⟩:=fun o=>World.frozen?_of_block (a:=⟨c,o,none⟩) hc
 exact ⟨H.up,H.code.keep L,(k 0).trans H.sl,⟨i,hi,(k 1).trans hx⟩,⟨h,(k 2).trans hh⟩,(f 1).trans H.f1,(f 2).trans H.f2⟩
theorem E4.drawnL {D:Nat->Prop} (h:E4 w D W l) (H0:c<W.heap.size) (cne:∀ p,p∈l->p.1≠c) (cw:w.heap.size<=c) (cB:B<=w.heap.size) (S:Step c W W') (H:Ep W' B c a len cap) (on:Aw W' E v d) (bd:∀ i b,E i b->W.heap.size<=b/\b<W'.heap.size):CuL w B c a len cap E W' l v d :=
 ⟨⟨h.below.trans (S.below cw h.below.size),fun p hp=>⟨(S.block _ (Ad (h.all p hp).1) (cne p hp)).trans (h.all p hp).1,(h.all p hp).2.1,fun ⟨i,hi⟩=>by have:=(bd i _ hi).1; have:=Ad (h.all p hp).1; omega⟩,h.nd,fun b ⟨i,hi⟩=>(bd i b hi).2⟩,H,cne,fun i hi=>by have:=(bd i _ hi).1; omega,cw,cB,on,fun i b hi=>Nat.le_trans h.below.size (bd i b hi).1⟩
theorem CuL.move (h:CuL w B c a len cap E W l v d) (S:Step c W W') (H:Ep W' B c a len cap):CuL w B c a len cap E W' l v d :=
 ⟨⟨h.below.trans (S.below h.cw h.below.size),fun p hp=>⟨(S.block _ (Ad (h.all p hp).1) (h.cne p hp)).trans (h.all p hp).1,(h.all p hp).2⟩,h.nd,fun b hb=>Nat.lt_of_lt_of_le (h.lt b hb) S.size⟩,H,h.cne,h.cE,h.cw,h.cB,h.on.same S.size (fun i b hi hb=>S.block b hb (fun e=>h.cE i (e ▸ hi))),h.elo⟩
theorem CuL.call (h:CuL w B c a len cap E W l v d) (L:Below W.heap.size W W'):CuL w B c a len cap E W' l v d:=h.move (Ez L (Nat.le_refl _)) (h.cur.below L h.cur.lt)
theorem CuL.alloc (h:CuL w B c a len cap E W l v d) (cs:Array Value) (t:TypeId) (n:Nat) (e:W.heap.size=n):CuL w B c a len cap E (W.alloc (.cells cs t)) (l++[(n,cs,t)]) v d :=
 have h':=h.call ((Below.refl W.heap.size W).alloc (Nat.le_refl _) (.cells cs t))
 ⟨h.toE4.alloc cs t n e,h'.cur,fun p hp=>(List.mem_append.1 hp).elim (h.cne p) (fun hp=>by have:=h.cur.lt; rw [List.mem_singleton.1 hp]; show n≠c; omega),h.cE,h.cw,h.cB,h'.on,h.elo⟩
theorem CuL.row (h:CuL w B c a len cap E W l v d) (i:Nat) (e:l[i]?=some (b,cs,t)) (cs':Array Value):CuL w B c a len cap E (W.setRow b cs') (l.set i (b,cs',t)) v d :=
 have TT:=Bn (h.ret i e) cs';have hb:w.heap.size<=b:=(h.all _ (List.mem_of_getElem? e)).2.1;have hc:b≠c:=h.cne _ (List.mem_of_getElem? e)
 ⟨h.toE4.row i e cs',h.cur.same (TT.block c h.cur.lt (fun o (k:c=b)=>hc k.symm)) (TT.below (Nat.le_trans h.cB h.below.size) (fun b' o hb' (k:b'=b)=>by have:=h.cB; omega)),fun p hp=>by
  obtain ⟨j,hj⟩:=List.mem_iff_getElem?.1 hp
  by_cases k:i=j
  .subst k
   have hlt:=(List.getElem?_eq_some_iff.1 e).1
   simp [List.getElem?_set,hlt] at hj
   subst hj;exact hc
  .rw [List.getElem?_set_ne k] at hj
   exact h.cne p (List.mem_of_getElem? hj),h.cE,h.cw,h.cB,h.on.keep TT (fun j b' o hd _ (k:b'=b)=>h.no i e ⟨j,k ▸ hd⟩),h.elo⟩
end
theorem Nb (n:Nat) (f:Nat->Int):Cf n n f f=true:=Wk (fun _ _=>rfl)
theorem Pp (d:Aq):Jo d d=true:=by
 have h:If d.mf d.mf d.lf d.lf d.fr d.fr=true:=decide_eq_true ⟨rfl,fun i _=>Nb _ _⟩
 simp [Jo,Nb,Za,Tm,Zb,Mv,Zc,Tn,Zd,To,Ha,obD,h]
def Wg (W:World) (N:Nat) (v:Value) (d:Aq):Prop:=N<=W.heap.size/\∃ E,Aw W E v d/\∀ i b,E i b->b<N
section
variable {w W W':World} {N:Nat} {b:Nat} {cs:Array Value} {t:TypeId} {v:Value} {d:Aq} {E:Nat->Nat->Prop}
theorem Wg.of (h:Aw W E v d) (hb:∀ i b,E i b->b<W.heap.size):Wg W W.heap.size v d:=⟨Nat.le_refl _,E,h,hb⟩
theorem Wg.call (h:Wg W N v d) (L:Below W.heap.size W W'):Wg W' N v d:=by
 obtain ⟨h0,E,h1,h2⟩:=h;exact ⟨Nat.le_trans h0 L.size,E,h1.below L,h2⟩
theorem Wg.row (h:Wg W N v d) (k:W.heap[b]?=some (.cells cs t (0,0))) (hb:N<=b) (cs':Array Value):Wg (W.setRow b cs') N v d:=by
 obtain ⟨h0,E,h1,h2⟩:=h;have TT:=Bn k cs';exact ⟨Nat.le_trans h0 TT.size,E,h1.keep TT (fun i b' o hd _ (e:b'=b)=>by have:=h2 i b' hd; omega),h2⟩
end
theorem Ej {P:Program} {ops:Array Oper} {rest:List Oper} {o:Oper} {a:Act} {w:World} {Q:Exit->Act->World->Prop} (hw:Region.wanted o (yielded ops a.tmps)=true) (ty:TypeId) (x:Operand) (ho:o.op=.load ty x)
  (g:Nat) (hx:a.eval x=(pt g 0)) (t:TypeId) (cs:Array Value) (fr:Nat × Nat) (d:TypeDesc) (hg:w.heap[g]?=some (.cells cs t fr))
  (hu:P.underlying ty=some d) (hd:(match d with | .struct _ | .array _ _=>true | _=>false)=true) (hi:(P.info? ty).map (·.size)=some cs.size)
  (h:wpList P ops Q rest (a.put o.dst (.agg cs)) w):wpList P ops Q (o :: rest) a w :=
 wpList_step fun K hK=>by rw [if_pos hw]; exact wp_load_row ty x ho g hx t cs fr d hg hu hd hi (hK _ _ h)
theorem Hb {P:Program} {ops:Array Oper} {rest:List Oper} {o:Oper} {a:Act} {w:World} {Q:Exit->Act->World->Prop} (hw:Region.wanted o (yielded ops a.tmps)=true) (ty:TypeId) (x:Operand) (ho:o.op=.load ty x)
  (g off:Nat) (hx:a.eval x=(pt g off)) (t:TypeId) (cs part:Array Value) (fr:Nat × Nat) (d:TypeDesc) (hg:w.heap[g]?=some (.cells cs t fr)) (hp:∀ j v,part[j]?=some v->cs[off+j]?=some v)
  (hu:P.underlying ty=some d) (hd:(match d with | .struct _ | .array _ _=>true | _=>false)=true) (hi:(P.info? ty).map (·.size)=some part.size)
  (h:wpList P ops Q rest (a.put o.dst (.agg part)) w):wpList P ops Q (o :: rest) a w :=
 wpList_step fun K hK=>by rw [if_pos hw]; exact Lr ty x ho g off hx t cs part fr d hg hp hu hd hi (hK _ _ h)
end Go.Proofs.YtijljlnooibbmaaGreatDoor
