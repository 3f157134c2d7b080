import Derived.Test.YtjnjnppongdhgaaGreatC6
namespace Go.Proofs.YtjnjnppongdhgaaGreat
set_option linter.unusedVariables false
open Go.ChangeShapes Go.WideShapes Go.ChangeAt Go.RowKit
abbrev On (D:Nat→Prop):Nat→Nat→Prop:=fun b _=>D b
theorem Ag {R:Nat→Nat→Prop} {w w':World} {b:Nat} {o:Obj} (h:w.heap[b]?=some o) (hw:Wrote R w w') (hd:∀ o,¬ R b o):w'.heap[b]?=some o:=(hw.block b (Ae h) hd).trans h
theorem Ai {w:World} {b o:Nat} {cs:Array Value} {t:TypeId} {fr:Nat × Nat} (h:w.heap[b]?=some (.cells cs t fr)) (x:Value):(w.setCell ⟨b,o,none⟩ x).heap[b]?=some (.cells (cs.setIfInBounds o x) t fr):=by
 simp [World.setCell,Array.getElem?_modify,h]
structure Bn (W:World) (D:Nat→Prop) (v:Value) (n:Nat) (g:Nat→Int) (bank:Int):Prop where
 ex:∃ a cap,v=.agg #[.slice a n cap,.i bank]∧n≤1048576∧Bu .i64 W a n g∧Ji W (Ce a n)∧∀ b o,Ce a n b o→D b
theorem Bn.keep {R:Nat→Nat→Prop} {W W':World} {D:Nat→Prop} {v:Value} {n:Nat} {g:Nat→Int} {bank:Int} (h:Bn W D v n g bank) (hw:Wrote R W W') (hd:∀ b o,D b→b<W.heap.size→¬ R b o):Bn W' D v n g bank:=by
 obtain ⟨a,cap,e,hn,hr,hF,hD⟩:=h;exact ⟨a,cap,e,hn,hr.keep hw (fun b o hf=>hd b o (hD b o hf) (hF b o hf).1),hF.keep hw,hD⟩
theorem Bn.below {W W':World} {D:Nat→Prop} {v:Value} {n:Nat} {g:Nat→Int} {bank:Int} (h:Bn W D v n g bank) (L:Below W.heap.size W W'):Bn W' D v n g bank:=h.keep (Ab L Ak) (fun _ _ _ _ x=>x)
theorem Bn.mono {W:World} {D E:Nat→Prop} {v:Value} {n:Nat} {g:Nat→Int} {bank:Int} (h:Bn W D v n g bank) (hd:∀ b,b<W.heap.size→D b→E b):Bn W E v n g bank:=by
 obtain ⟨a,cap,e,hn,hr,hF,hD⟩:=h;exact ⟨a,cap,e,hn,hr,hF,fun b o hf=>hd b (hF b o hf).1 (hD b o hf)⟩
theorem Bn.ints {W:World} {D:Nat→Prop} {v:Value} {n:Nat} {g:Nat→Int} {bank:Int} (h:Bn W D v n g bank):∃ u,v=.agg #[u,.i bank]∧Ints .i64 W (On D) u n g:=by
 obtain ⟨a,cap,e,hn,hr,hF,hD⟩:=h;exact ⟨_,e,a,cap,rfl,hn,hr,hD⟩
theorem Bn.size {W:World} {D:Nat→Prop} {v:Value} {n:Nat} {g:Nat→Int} {bank:Int} (h:Bn W D v n g bank):n≤1048576:=by
 obtain ⟨a,cap,e,hn,hr,hF,hD⟩:=h;exact hn
theorem Bn.two {W:World} {D:Nat→Prop} {v:Value} {n:Nat} {g:Nat→Int} {bank:Int} (h:Bn W D v n g bank):∃ a c,v=.agg #[.slice a n c,.i bank]:=by
 obtain ⟨a,c,e,_⟩:=h;exact ⟨a,c,e⟩
theorem Bn.own {W:World} {lo n:Nat} {u:Value} {g:Nat→Int} {bank:Int} (h:Ay W lo u n g):Bn W (fun b=>lo≤b) (.agg #[u,.i bank]) n g bank:=by
 obtain ⟨a,cap,rfl,hn,hr,hF,hD⟩:=h;exact ⟨a,cap,rfl,hn,hr,hF,hD⟩
structure Gl (W:World) (D:Nat→Prop) (v:Value) (m:Nat) (ln:Nat→Nat) (f:Nat→Nat→Int):Prop where
 ex:∃ p,v=.agg #[.slice (some ⟨p,0,none⟩) m m]∧m+Cy ln m≤1048576∧Ge W p m ln f∧p+1+m≤W.heap.size∧∀ b,p≤b→b<p+1+m→D b
theorem Gl.keep {R:Nat→Nat→Prop} {W W':World} {D:Nat→Prop} {v:Value} {m:Nat} {ln:Nat→Nat} {f:Nat→Nat→Int} (h:Gl W D v m ln f) (hw:Wrote R W W') (hd:∀ b o,D b→b<W.heap.size→¬ R b o):Gl W' D v m ln f:=by
 obtain ⟨p,e,hm,hr,hs,hD⟩:=h;exact ⟨p,e,hm,hr.keep hw (fun b o h1 h2=>hd b o (hD b h1 h2) (by omega)),Nat.le_trans hs hw.size,hD⟩
theorem Gl.below {W W':World} {D:Nat→Prop} {v:Value} {m:Nat} {ln:Nat→Nat} {f:Nat→Nat→Int} (h:Gl W D v m ln f) (L:Below W.heap.size W W'):Gl W' D v m ln f:=h.keep (Ab L Ak) (fun _ _ _ _ x=>x)
theorem Gl.mono {W:World} {D E:Nat→Prop} {v:Value} {m:Nat} {ln:Nat→Nat} {f:Nat→Nat→Int} (h:Gl W D v m ln f) (hd:∀ b,b<W.heap.size→D b→E b):Gl W E v m ln f:=by
 obtain ⟨p,e,hm,hr,hs,hD⟩:=h;exact ⟨p,e,hm,hr,hs,fun b h1 h2=>hd b (by omega) (hD b h1 h2)⟩
theorem Gl.ints {W:World} {D:Nat→Prop} {v:Value} {m:Nat} {ln:Nat→Nat} {f:Nat→Nat→Int} (h:Gl W D v m ln f):∃ u F,v=.agg #[u]∧Ba .i64 W F u m ln f:=by
 obtain ⟨p,e,hm,hr,hs,hD⟩:=h;exact ⟨_,_,e,hr.ints hm⟩
structure Bp (W:World) (D:Nat→Prop) (a:Option Addr) (n:Nat) (f:Nat→Int):Prop where
 small:n≤1048576
 row:Bu .i64 W a n f
 free:Ji W (Ce a n)
 on:∀ b o,Ce a n b o→D b
theorem Bp.keep {R:Nat→Nat→Prop} {W W':World} {D:Nat→Prop} {a:Option Addr} {n:Nat} {f:Nat→Int} (h:Bp W D a n f) (hw:Wrote R W W') (hd:∀ b o,Ce a n b o→D b→b<W.heap.size→¬ R b o):Bp W' D a n f :=
 ⟨h.small,h.row.keep hw (fun b o hf=>hd b o hf (h.on b o hf) (h.free b o hf).1),h.free.keep hw,h.on⟩
theorem Bp.wr {R:Nat→Nat→Prop} {W W':World} {D:Nat→Prop} {p i n:Nat} {f:Nat→Int} (h:Bp W D (some ⟨p,i,none⟩) n f) (hw:Wrote R W W') (hd:∀ o,¬ R p o):Bp W' D (some ⟨p,i,none⟩) n f :=
 h.keep hw (fun b o ⟨off,e,_,_⟩ _ _=>by
  simp only [Option.some.injEq,Addr.mk.injEq] at e;obtain ⟨rfl,-,-⟩:=e
  exact hd o)
theorem Bp.mono {W:World} {D E:Nat→Prop} {a:Option Addr} {n:Nat} {f:Nat→Int} (h:Bp W D a n f) (hd:∀ b,b<W.heap.size→D b→E b):Bp W E a n f :=
 ⟨h.small,h.row,h.free,fun b o hf=>hd b (h.free b o hf).1 (h.on b o hf)⟩
theorem Bp.ints {W:World} {D:Nat→Prop} {a:Option Addr} {n:Nat} {f:Nat→Int} (h:Bp W D a n f) (c:Nat):Ints .i64 W (On D) (.slice a n c) n f:=⟨a,c,rfl,h.small,h.row,h.on⟩
theorem Bp.congr {W:World} {D:Nat→Prop} {a:Option Addr} {n:Nat} {f g:Nat→Int} (h:Bp W D a n f) (e:∀ i,i<n→f i=g i):Bp W D a n g:=⟨h.small,h.row.congr e,h.free,h.on⟩
theorem Bp.own {W:World} {lo:Nat} {a:Option Addr} {n c:Nat} {f:Nat→Int} (h:Ay W lo (.slice a n c) n f):Bp W (fun b=>lo≤b) a n f:=by
 obtain ⟨a',c',e,hn,hr,hF,hD⟩:=h;simp only [Value.slice.injEq,true_and] at e;obtain ⟨rfl,rfl⟩:=e;exact ⟨hn,hr,hF,hD⟩
theorem Bp.fresh {W:World} {p n lo:Nat} {f:Nat→Int} (hr:W.rowIs p 3 n (fun i=>.i (f i))) (hn:n≤1048576) (hp:lo≤p):Bp W (fun b=>lo≤b) (some ⟨p,0,none⟩) n f :=
 ⟨hn,My hr,fun b o ⟨off,e,_,_⟩=>by
  simp only [Option.some.injEq,Addr.mk.injEq] at e;obtain ⟨rfl,-,-⟩:=e
  exact ⟨hr.lt,hr.frozen _⟩,fun b o ⟨off,e,_,_⟩=>by
  simp only [Option.some.injEq,Addr.mk.injEq] at e;obtain ⟨rfl,-,-⟩:=e
  exact hp⟩
def Apart (a:Option Addr) (n:Nat) (a':Option Addr) (n':Nat):Prop:=∀ b o,Ce a n b o→¬ Ce a' n' b o
theorem Apart.symm {a a':Option Addr} {n n':Nat} (h:Apart a n a' n'):Apart a' n' a n:=fun b o x y=>h b o y x
theorem Fz {p q n m:Nat} {i j:Nat} (h:p≠q):Apart (some ⟨p,i,none⟩) n (some ⟨q,j,none⟩) m:=by
 rintro b o ⟨off,e,_,_⟩ ⟨off',e',_,_⟩;simp only [Option.some.injEq,Addr.mk.injEq] at e e';exact h (e.1.trans e'.1.symm)
theorem Wg {W W':World} {D E:Nat→Prop} {a a':Option Addr} {n n':Nat} {f g:Nat→Int} (h:Bp W D a n f) (k:Bp W' E a' n' g) (hd:∀ b,D b→¬ E b):Apart a n a' n':=fun b o x y=>hd b (h.on b o x) (k.on b o y)
structure Bv (W:World) (D:Nat→Prop) (v:Value) (t c s ad pl:Int) (bl:Bool) (n:Nat) (f:Nat→Int) (m:Nat) (g:Nat→Int):Prop where
 ex:∃ a x b y,v=.agg (pR t c s ad pl bl (.slice a n x) (.slice b m y))∧Bp W D a n f∧Bp W D b m g∧Apart a n b m
section
variable {R:Nat→Nat→Prop} {W W':World} {D E:Nat→Prop} {v:Value} {t c s ad pl:Int} {bl:Bool} {n m:Nat} {f g:Nat→Int}
theorem Bv.keep (h:Bv W D v t c s ad pl bl n f m g) (hw:Wrote R W W') (hd:∀ b o,D b→b<W.heap.size→¬ R b o):Bv W' D v t c s ad pl bl n f m g:=by
 obtain ⟨a,x,b,y,e,h1,h2,h3⟩:=h;exact ⟨a,x,b,y,e,h1.keep hw (fun b o _=>hd b o),h2.keep hw (fun b o _=>hd b o),h3⟩
theorem Bv.below (h:Bv W D v t c s ad pl bl n f m g) (L:Below W.heap.size W W'):Bv W' D v t c s ad pl bl n f m g:=h.keep (Ab L Ak) (fun _ _ _ _ x=>x)
theorem Bv.mono (h:Bv W D v t c s ad pl bl n f m g) (hd:∀ b,b<W.heap.size→D b→E b):Bv W E v t c s ad pl bl n f m g:=by
 obtain ⟨a,x,b,y,e,h1,h2,h3⟩:=h;exact ⟨a,x,b,y,e,h1.mono hd,h2.mono hd,h3⟩
theorem Bv.two (h:Bv W D v t c s ad pl bl n f m g):∃ a x b y,v=.agg (pR t c s ad pl bl (.slice a n x) (.slice b m y)):=by
 obtain ⟨a,x,b,y,e,-⟩:=h;exact ⟨a,x,b,y,e⟩
theorem Bv.ints (h:Bv W D v t c s ad pl bl n f m g):∃ u u',v=.agg (pR t c s ad pl bl u u')∧Ints .i64 W (On D) u n f∧Ints .i64 W (On D) u' m g:=by
 obtain ⟨a,x,b,y,e,h1,h2,h3⟩:=h;exact ⟨_,_,e,h1.ints x,h2.ints y⟩
end
theorem below_drewN {n:Nat} {w W:World} (L:Below n w W) (d:Nat):Below n w (W.drewN d):=L.trans ⟨rfl,rfl,rfl,Nat.le_refl _,fun _ _=>rfl⟩
theorem B7 {w:World} {b d o:Nat} {ob:Obj} {x:Value} (h:w.heap[b]?=some ob) (hd:b≠d):(w.setCell ⟨d,o,none⟩ x).heap[b]?=some ob :=
 ((Wrote.setCell (R:=fun b' _=>b'=d) (Wrote.refl _ w) (fun _=>rfl) x).block b (Ae h) (fun _ e=>hd e)).trans h
def Of (ops:Array Oper):Bool:=ops.all fun o=>o.guard.isNone
def A1 (o:Oper) (j:Nat):Bool:=o.after.any fun e=>Region.binds .any e && e.on==j
section
variable {P:Program} {ops:Array Oper} {Q:Exit→Act→World→Prop}
theorem Cv {o:Oper} {l:Array Bool} (ha:(o.after.all fun e=>!Region.binds .any e || l.getD e.on false)=true) {j:Nat} (hj:A1 o j=true):l[j]?=some true:=by
 unfold A1 at hj;rw [Array.any_eq_true'] at hj;obtain ⟨e,he,hb⟩:=hj;have h1:=(Array.all_eq_true_iff_forall_mem.1 ha) e he;simp only [Bool.and_eq_true,beq_iff_eq] at hb;rw [hb.1,hb.2] at h1;simp only [Bool.not_true,Bool.false_or] at h1;rw [Array.getD_eq_getD_getElem?] at h1
 rcases hb':l[j]? with _ | b
 ·rw [hb'] at h1; simp at h1
 ·rw [hb'] at h1; simp at h1; rw [h1]
def Be (ds:List (Option Nat)) (a:Act) (i:Nat):Value:=match ds[i]? with
 | some (some d)=>a.tmps[d]?.getD undef
 | _=>undef
def Ky (ops:Array Oper) (ds:List (Option Nat)):Bool:=decide (ds.length=ops.size) && ((List.range ds.length).all fun i=>((ops[i]?).map fun o=>some o.dst==ds[i]?).getD false) && (List.range ds.length).all fun i=>(List.range ds.length).all fun j=>decide (i=j) || ds[i]? != ds[j]? || ds[i]?==some none
def slotsOf (ds:List (Option Nat)):List Nat:=ds.filterMap id
theorem Kz {id:Nat} {a:Act} {w:World} (ds:List (Option Nat)) (hm:P.follows .mixedOrders=true) (hb:Kq ops=true) (hg:Of ops=true) (hd:Ky ops ds=true) (hsz:∀ d,d∈slotsOf ds→d<a.tmps.size)
  (R:Nat→Nat→Nat→Prop) (E:Nat→World→World→Prop) (hER:∀ j W W',E j W W'→Wrote (R j) W W') (φ:Nat→Value→World→Prop)
  (hstab:∀ i j o v W W',i≠j→ops[i]?=some o→A1 o j=false→E j W W'→φ i v W→φ i v W')
  (hstep:∀ i o a' W K,ops[i]?=some o→Fr (slotsOf ds) a a'→Wrote (fun b o'=>∃ j oj,j≠i∧ops[j]?=some oj∧A1 oj i=false∧R j b o') w W→(∀ j,A1 o j=true→φ j (Be ds a' j) W)→(∀ v W',E i W W'→φ i (if o.dst=none then undef else v) W'→K (a'.put o.dst v) W')→o.wp P a' W K Q)
  (hend:∀ a' W,Fr (slotsOf ds) a a'→Wrote (fun b o=>∃ j,R j b o) w W→(∀ i,i<ops.size→φ i (Be ds a' i) W)→Q .normal a' W):(Code.region id ops true).wp P Q a w:=by
 unfold Ky at hd;simp only [Bool.and_eq_true,decide_eq_true_eq] at hd;obtain ⟨⟨hlen,hd1⟩,hd2⟩:=hd
 have hgo:∀ (i:Nat) (o:Oper),ops[i]?=some o→o.guard=none:=fun i o ho=>by
  have h1:=(Array.all_eq_true_iff_forall_mem.1 hg) o (Array.mem_of_getElem? ho)
  simpa using h1
 have hlt:∀ (i:Nat) (o:Oper),ops[i]?=some o→i<ops.size:=fun i o ho=>by
  rcases Nat.lt_or_ge i ops.size with h | h
  ·exact h
  ·rw [Array.getElem?_eq_none h] at ho; cases ho
 have hdst:∀ (i:Nat) (o:Oper),ops[i]?=some o→ds[i]?=some o.dst:=fun i o ho=>by
  have h1:=List.all_eq_true.1 hd1 i (List.mem_range.2 (by rw [hlen]; exact hlt i o ho));rw [ho] at h1;simp only [Option.map_some,Option.getD_some,beq_iff_eq] at h1;exact h1.symm
 have hne:∀ i j d,i≠j→ds[i]?=some (some d)→ds[j]?≠some (some d):=fun i j d h hi hj=>by
  have li:i<ds.length:=by rcases Nat.lt_or_ge i ds.length with x | x; exact x; (rw [List.getElem?_eq_none x] at hi; cases hi)
  have lj:j<ds.length:=by rcases Nat.lt_or_ge j ds.length with x | x; exact x; (rw [List.getElem?_eq_none x] at hj; cases hj)
  have h1:=List.all_eq_true.1 (List.all_eq_true.1 hd2 i (List.mem_range.2 li)) j (List.mem_range.2 lj);rw [hi,hj] at h1
  simp at h1
  exact h h1
 refine Fg hm hb (fun _ l a' W=>Fr (slotsOf ds) a a'∧Wrote (fun b o=>∃ j,l[j]?=some true∧R j b o) w W∧(∀ (k:Nat) (o:Oper),l[k]?=some true→ops[k]?=some o→∀ j:Nat,A1 o j=true→l[j]?=some true)∧∀ i:Nat,l[i]?=some true→φ i (Be ds a' i) W) ?_ ?_ ?_
 ·have hno:∀ i:Nat,(Array.replicate ops.size false)[i]?≠some true:=fun i h=>by
   rcases Nat.lt_or_ge i ops.size with x | x
   ·simp [x] at h
   ·rw [Array.getElem?_eq_none (by simpa using x)] at h; cases h
  exact ⟨⟨rfl,rfl,fun _ _=>rfl⟩,⟨rfl,rfl,rfl,Nat.le_refl _,fun _ _ _=>rfl,fun _ _ _ _=>rfl,fun _ _ _=>rfl⟩,fun k _ h=>absurd h (hno k),fun i h=>absurd h (hno i)⟩
 ·rintro l a' W i o K hl ⟨F,L,hcl,hφ⟩ ho hf ha hK
  have hi:=hlt i o ho;have hdi:=hdst i o ho
  have hdone:∀ j,l[j]?=some true→∀ b o,R j b o→∃ j oj,j≠i∧ops[j]?=some oj∧A1 oj i=false∧R j b o:=fun j h1 b o h2=>by
   have hjl:j<ops.size:=by
    rcases Nat.lt_or_ge j ops.size with x | x
    ·exact x
    ·rw [Array.getElem?_eq_none (by omega)] at h1; cases h1
   have hjo:ops[j]?=some ops[j]:=Array.getElem?_eq_getElem hjl;refine ⟨j,ops[j],(fun e=>by rw [e,hf] at h1; cases h1),hjo,?_,h2⟩;cases hw:A1 ops[j] i
   ·rfl
   ·have:=hcl j _ h1 hjo i hw
    rw [hf] at this; cases this
  refine Hi ho (hgo i o ho) (hstep i o a' W K ho F (L.mono (fun b o _ ⟨j,h1,h2⟩=>hdone j h1 b o h2)) (fun j hj=>hφ j (Cv ha hj)) (fun v W' hW hv=>hK _ _ ?_))
  have hset:(l.setIfInBounds i true)[i]?=some true:=by simp [hl,hi]
  refine ⟨?_,(L.mono (fun b o _ ⟨j,h1,h2⟩=>⟨j,by rw [Array.getElem?_setIfInBounds_ne (fun e=>by rw [← e,hf] at h1; cases h1)]; exact h1,h2⟩)).trans ((hER _ _ _ hW).mono (fun b o _ h=>⟨i,hset,h⟩)),fun k o' hk hko j hj=>?_,fun k hk=>?_⟩
  ·cases e:o.dst with
   | none=>exact F
   | some d =>
    rw [e] at hdi;exact F.put (List.mem_filterMap.2 ⟨some d,List.mem_of_getElem? hdi,rfl⟩) v
  ·have h1:l[j]?=some true:=by
    by_cases e:k=i
    ·subst e
     rw [ho] at hko;obtain rfl:=Option.some.inj hko;exact Cv ha hj
    ·rw [Array.getElem?_setIfInBounds_ne (by omega)] at hk
     exact hcl k o' hk hko j hj
   by_cases e:j=i
   ·rw [e]; exact hset
   ·rw [Array.getElem?_setIfInBounds_ne (by omega)]; exact h1
  ·by_cases e:k=i
   ·subst e
    cases e:o.dst with
    | none =>
     rw [e] at hdi hv;unfold Be;rw [hdi]
     simpa using hv
    | some d =>
     rw [e] at hdi hv;have hmem:d∈slotsOf ds:=List.mem_filterMap.2 ⟨some d,List.mem_of_getElem? hdi,rfl⟩
     have:Be ds (a'.put (some d) v) k=v:=by
      unfold Be;rw [hdi];exact Fa (by rw [F.size]; exact hsz d hmem)
     rw [this]
     simpa using hv
   ·rw [Array.getElem?_setIfInBounds_ne (by omega)] at hk
    have hkl:k<ops.size:=by
     rcases Nat.lt_or_ge k ops.size with x | x
     ·exact x
     ·rw [Array.getElem?_eq_none (by omega)] at hk; cases hk
    have hko:ops[k]?=some ops[k]:=Array.getElem?_eq_getElem hkl
    have hnw:A1 ops[k] i=false:=by
     cases hw:A1 ops[k] i
     ·rfl
     ·have:=hcl k _ hk hko i hw
      rw [hf] at this; cases this
    have h1:=hstab k i _ _ W W' e hko hnw hW (hφ k hk)
    have:Be ds (a'.put o.dst v) k=Be ds a' k:=by
     cases e2:o.dst with
     | none=>rfl
     | some d =>
      rw [e2] at hdi;unfold Be
      cases e3:ds[k]? with
      | none=>rfl
      | some x =>
       cases x with
       | none=>rfl
       | some d' =>
        have:d≠d':=fun x=>hne k i d' e e3 (by rw [hdi,x])
        exact D9 this
    rw [this];exact h1
 ·rintro l a' W hall ⟨F,L,-,hφ⟩
  exact hend a' W F (L.mono (fun b o _ ⟨j,_,h2⟩=>⟨j,h2⟩)) (fun i hi=>hφ i (hall i hi))
theorem Bi {id:Nat} {a:Act} {w:World} (ds:List (Option Nat)) (hm:P.follows .mixedOrders=true) (hb:Kq ops=true) (hg:Of ops=true) (hd:Ky ops ds=true) (hsz:∀ d,d∈slotsOf ds→d<a.tmps.size)
  (R:Nat→Nat→Nat→Prop) (φ:Nat→Value→World→Prop)
  (hstab:∀ i j o v W W',i≠j→ops[i]?=some o→A1 o j=false→Wrote (R j) W W'→φ i v W→φ i v W')
  (hstep:∀ i o a' W K,ops[i]?=some o→Fr (slotsOf ds) a a'→Wrote (fun b o'=>∃ j oj,j≠i∧ops[j]?=some oj∧A1 oj i=false∧R j b o') w W→(∀ j,A1 o j=true→φ j (Be ds a' j) W)→(∀ v W',Wrote (R i) W W'→φ i (if o.dst=none then undef else v) W'→K (a'.put o.dst v) W')→o.wp P a' W K Q)
  (hend:∀ a' W,Fr (slotsOf ds) a a'→Wrote (fun b o=>∃ j,R j b o) w W→(∀ i,i<ops.size→φ i (Be ds a' i) W)→Q .normal a' W):(Code.region id ops true).wp P Q a w :=
 Kz ds hm hb hg hd hsz R (fun j=>Wrote (R j)) (fun _ _ _ h=>h) φ hstab hstep hend
end
open Go.ChangeShapes Go.WideShapes Go.ChangeAt
def Ko (j:Nat):Int:=[-1,256,65535,65536,9223372036854775807,-9223372036854775808,511].getD j 0
theorem Tr (j:Nat):-9223372036854775808≤Ko j∧Ko j≤9223372036854775807:=by
 unfold Ko
 rcases j with _ | _ | _ | _ | _ | _ | _ | j <;> simp
theorem He (w:World) (B c:Nat) (a:Option Addr) (len cap:Nat) (H:Dl w B c a len cap) (hcw:c<w.heap.size) :
  Calls Tryz.prog 35 #[(pt c 0)] w fun e w'=>∃ x:Int,e=.returned (.i x)∧-9223372036854775808≤x∧x≤9223372036854775807∧Dl w' B c a len cap∧Step c w w':=by
 go_enter Tryz.func35,Tryz.ntmps35
 go_wp2_with fail;refine (Vr _ B c a len cap H 9).mono ?_;rintro e w1 ⟨x,rfl,H1,O1⟩
 have hs:c<w1.heap.size:=by rw [O1.size]; exact hcw
 cases x
 ·go_wp2_with fail
  refine (Cq _ B c a len cap H1 256).mono ?_;rintro e w2 ⟨y,rfl,y0,y1,H2,O2⟩;go_wp2;go_ret;exact ⟨y,rfl,by omega,by omega,H2,O1.step.trans O2.step⟩
 ·go_wp2_with fail
  refine (Ep _ B c a len cap (H1.alloc _ hs) w1.heap.size 7 (by omega) (by omega) (by omega) Ko ?_).mono ?_
  ·intro j hj
   rw [World.cell?_alloc_new]
   rcases j with _ | _ | _ | _ | _ | _ | _ | j
   ·rfl
   ·rfl
   ·rfl
   ·rfl
   ·rfl
   ·rfl
   ·rfl
   ·omega
  ·rintro e w2 ⟨j,rfl,hj,H2,O2⟩
   have hp:=Tr j;go_wp2;go_ret;exact ⟨Ko j,rfl,hp.1,hp.2,H2,(O1.step.alloc _).trans O2.step⟩
theorem Sn (w:World) (a:Option Addr) (len cap:Nat) :
  Calls Tryz.prog 4 #[.slice a len cap] w fun e w'=>e=.returned (.bool (decide (1048576<(len:Int))))∧w'=w:=by
 go_enter Tryz.func4,Tryz.ntmps4
 go_wp2;go_ret;exact ⟨rfl,rfl⟩
set_option maxHeartbeats 1000000
set_option linter.unusedSimpArgs false
def C9 (n:Nat) (f:Nat→Int):Bool:=decide ((∀ i,i<n→0≤f i∧f i≤255)∧n≤20)
theorem Un {n:Nat} {f:Nat→Int} {j:Nat} (hj:j<n) (h:¬ (0≤f j∧f j≤255)):C9 n f=false:=decide_eq_false (fun x=>h (x.1 j hj))
theorem Ry {n:Nat} {f:Nat→Int} (h:∀ j,j<n→0≤f j∧f j≤255):C9 n f=decide (n≤20):=decide_eq_decide.2 ⟨fun x=>x.2,fun x=>⟨h,x⟩⟩
theorem Ni {n:Nat} {f:Nat→Int} (h:C9 n f=true):(∀ j,j<n→0≤f j∧f j≤255)∧n≤20:=of_decide_eq_true h
def Ev (n:Nat) (f:Nat→Int) (t:Int):Int:=if C9 n f=true∧0<n then f ((max t 0/64)%n).toNat else 0
def Ew (v:Int):Bool:=v%2==1
def Dm (H:Bool) (S:Int) (n:Nat) (f:Nat→Int) (t v:Int):Int:=if (H || Ew v)=true then Ev n f t else S
def Da (H:Bool) (S:Int) (n:Nat) (f:Nat→Int) (t:Int):Int:=if H=true then Ev n f t else S/2
def Fs (H:Bool) (S:Int) (n:Nat) (f:Nat→Int) (t:Int):Int:=if H=true then Ev n f t%2 else S%2
theorem I9 (v:Int):bits .and .i64 v 1=v%2:=by
  have h:=Iy v 1 (by omega);have e:((v%256).toNat &&& 1)=(v%256).toNat%2:=Nat.and_one_is_mod _;rw [show ((1:Nat):Int)=(1:Int) from rfl] at h;rw [h,e]
  omega
theorem Ld (w:World) (F:Nat→Nat→Prop) (u:Value) (n:Nat) (f:Nat→Int) (H:Ints .i64 w F u n f) :
    Calls Tryz.prog 27 #[u] w fun e w'=>e=.returned (.bool (C9 n f))∧w'=w:=by
  obtain ⟨a,cap,rfl,hn,hr,-⟩:=H;have HR:=Ac hr;clear hr
  go_enter Tryz.func27,Tryz.ntmps27
  go_wp2
  go_loopw [3] (fun i wr=>wr=w∧∃ k:Nat,k≤n∧i=.i k∧∀ j,j<k→0≤f j∧f j≤255) (fun i _=>n-(intOf i).toNat)
  case atStart=>exact ⟨rfl,0,Nat.zero_le _,rfl,fun j hj=>absurd hj (Nat.not_lt_zero _)⟩
  case round =>
    obtain ⟨rfl,k,hk,rfl,hall⟩:=hrel;have HA:=Ac hall;clear hall
    by_cases hlt:k<n
    · have hlt':(k:Int)<(n:Int):=by omega
      obtain ⟨b,o,rfl,hc⟩:=HR.out k hlt
      by_cases hin:0≤f k∧f k≤255
      · have HI:=Ac (fun W=>Fy W (f k))
        rw [Bj hin] at HI;go_wp2_with fail;refine (Ad HI _).mono ?_;rintro e w1 ⟨rfl,rfl⟩;go_wp2
        go_round
        case rel=>exact ⟨trivial,k+1,by omega,by go_num,fun j hj=>by
          by_cases e:j=k
          · rw [e]; exact hin
          · exact HA.out j (by omega)⟩
        case measure=>simp [intOf]; omega
      · have HI:=Ac (fun W=>Fy W (f k))
        rw [Cf hin] at HI;have HE:=Ac (Un hlt hin);go_wp2_with fail;refine (Ad HI _).mono ?_;rintro e w1 ⟨rfl,rfl⟩;go_wp2;go_ret;exact ⟨Am HE.out.symm,rfl⟩
    · have hkn:k=n:=by omega
      subst hkn;have HE:=Ac (Ry HA.out)
      by_cases h20:k≤20
      · go_wp2
        go_ret;exact ⟨Am (by rw [HE.out,decide_eq_true h20,decide_eq_true (by omega)]),rfl⟩
      · go_wp2
        go_ret;exact ⟨Am (by rw [HE.out,decide_eq_false h20,decide_eq_false (by omega)]),rfl⟩
theorem Nj (w:World) (F:Nat→Nat→Prop) (u:Value) (n:Nat) (f:Nat→Int) (t:Int) (ht:t≤9223372036854775807) (H:Ints .i64 w F u n f) :
    Calls Tryz.prog 106 #[u,.i t] w fun e w'=>e=.returned (.i (Ev n f t))∧w'=w:=by
  have HO:=Ac (Ld w F u n f H);have HF:=Ac (fun W=>Qi W t ht);obtain ⟨a,cap,rfl,hn,hr,-⟩:=H
  obtain ⟨ok,hok⟩:∃ ok,Hid (ok=C9 n f):=⟨_,rfl⟩
  rw [← hok.out] at HO;have HR:=Ac hr;clear hr;cases ok
  · have HE:Hid (Ev n f t=0):=if_neg (by rw [← hok.out]; simp)
    go_enter Tryz.func106,Tryz.ntmps106
    go_wp2_with fail;refine (Ad HO).mono ?_;rintro e w1 ⟨rfl,rfl⟩;go_wp2;go_ret;exact ⟨A7 HE.out.symm,rfl⟩
  · by_cases h0:n=0
    · have HE:Hid (Ev n f t=0):=if_neg (by omega)
      subst h0
      go_enter Tryz.func106,Tryz.ntmps106
      go_wp2_with fail;refine (Ad HO).mono ?_;rintro e w1 ⟨rfl,rfl⟩;go_wp2;go_ret;exact ⟨A7 HE.out.symm,rfl⟩
    · have HE:Hid (Ev n f t=f ((max t 0/64)%n).toNat):=if_pos ⟨hok.out.symm,by omega⟩
      have h20:=(Ni hok.out.symm).2
      obtain ⟨q,hq⟩:∃ q,Hid (q=max t 0/64):=⟨_,rfl⟩
      have q0:0≤q:=by rw [hq.out]; omega
      have q1:q≤9223372036854775807:=by rw [hq.out]; omega
      rw [← hq.out] at HE HF;have hm:q.tmod n=q%n:=Int.tmod_eq_emod_of_nonneg q0;have hm1:q%(n:Int)<n:=Int.emod_lt_of_pos _ (by omega);have hm0:0≤q%(n:Int):=Int.emod_nonneg _ (by omega)
      obtain ⟨i,hi⟩:∃ i:Nat,q%(n:Int)=i:=⟨(q%(n:Int)).toNat,by omega⟩
      rw [hi] at hm hm1 hm0 HE
      have hin:i<n:=by omega
      obtain ⟨b,o,rfl,hc⟩:=HR.out i hin
      have hz:¬ (n:Int)=0:=by omega
      clear hm1 hm0 hi hq h0 HR
      go_enter Tryz.func106,Tryz.ntmps106
      go_wp2_with fail;refine (Ad HO).mono ?_;rintro e w1 ⟨rfl,rfl⟩;go_wp2_with fail;refine (Ad HF _).mono ?_;rintro e w1 ⟨rfl,rfl⟩;go_wp2;go_ret;exact ⟨A7 HE.out.symm,rfl⟩
theorem Ja (w:World) (F:Nat→Nat→Prop) (H:Bool) (S:Int) (u:Value) (n:Nat) (f:Nat→Int) (t v:Int) (ht:t≤9223372036854775807) (K:Ints .i64 w F u n f) :
    Calls Tryz.prog 81 #[.agg #[.bool H,.i S],u,.i t,.i v] w fun e w'=>e=.returned (.agg #[.bool (Ew v),.i (Dm H S n f t v)])∧Below w.heap.size w w':=by
  have L2:∀ o o2:Obj,Below w.heap.size w ((w.alloc o).alloc o2):=fun o o2=>((Below.refl _ _).alloc (Nat.le_refl _) _).alloc (by simp) _
  have HP:=Ac (fun (o o2:Obj)=>Nj ((w.alloc o).alloc o2) F u n f t ht (K.keep (Ab (L2 o o2) Ak) (fun _ _ _ x=>x)));obtain ⟨a,cap,rfl,hn,hr,-⟩:=K;clear hr;have m1:bits .and .i64 v 1=v%2:=I9 v
  obtain ⟨x,hx⟩:∃ x,Hid (x=Ev n f t):=⟨_,rfl⟩
  obtain ⟨h',hh⟩:∃ h',Hid (Ew v=h'):=⟨_,rfl⟩
  have hb:(v%2==1)=h':=hh.out
  obtain ⟨s',hs⟩:∃ s',Hid (Dm H S n f t v=s'):=⟨_,rfl⟩
  have e:(if (H || h')=true then x else S)=s':=by rw [← hs.out,Dm,← hh.out,← hx.out]
  rw [← hx.out] at HP;rw [hh.out,hs.out];clear hh hs hx
  cases H <;> cases h'
  · obtain rfl:S=s':=e
    go_enter Tryz.func81,Tryz.ntmps81
    go_wp2;refine bodyPost_ret (v:=.agg #[.bool false,.i S]) (by simp [results,Tryz.results81,go_sem]) rfl ?_;exact ⟨rfl,L2 _ _⟩
  all_goals
    obtain rfl:x=s':=e
    go_enter Tryz.func81,Tryz.ntmps81
    go_wp2_with (go_at_call 106; refine (Ad HP _ _).mono ?_; rintro e w1 ⟨rfl,rfl⟩)
    first
      | (refine bodyPost_ret (v:=.agg #[.bool true,.i x]) (by simp [results,Tryz.results81,go_sem]) rfl ?_
         exact ⟨rfl,L2 _ _⟩)
      | (refine bodyPost_ret (v:=.agg #[.bool false,.i x]) (by simp [results,Tryz.results81,go_sem]) rfl ?_
         exact ⟨rfl,L2 _ _⟩)
theorem J0 (w:World) (F:Nat→Nat→Prop) (H:Bool) (S:Int) (u:Value) (n:Nat) (f:Nat→Int) (t:Int) (ht:t≤9223372036854775807) (K:Ints .i64 w F u n f) :
    Calls Tryz.prog 66 #[.agg #[.bool H,.i S],u,.i t] w fun e w'=>e=.returned (.tuple #[.agg #[.bool H,.i (Da H S n f t)],.i (Fs H S n f t)])∧Below w.heap.size w w':=by
  have L2:∀ o o2:Obj,Below w.heap.size w ((w.alloc o).alloc o2):=fun o o2=>((Below.refl _ _).alloc (Nat.le_refl _) _).alloc (by simp) _
  have HP:=Ac (fun (o o2:Obj)=>Nj ((w.alloc o).alloc o2) F u n f t ht (K.keep (Ab (L2 o o2) Ak) (fun _ _ _ x=>x)));obtain ⟨a,cap,rfl,hn,hr,-⟩:=K;clear hr;cases H
  · have HE:Hid (Da false S n f t=S/2∧Fs false S n f t=S%2):=by show _∧_; simp [Da,Fs]
    rw [HE.out.1,HE.out.2];have m1:bits .and .i64 S 1=S%2:=I9 S;clear HE
    go_enter Tryz.func66,Tryz.ntmps66
    go_wp2;refine bodyPost_ret (v:=.tuple #[.agg #[.bool false,.i (S/2)],.i (S%2)]) (by simp [results,Tryz.results66,go_sem]) rfl ?_;exact ⟨rfl,L2 _ _⟩
  · obtain ⟨x,hx⟩:∃ x,Hid (x=Ev n f t):=⟨_,rfl⟩
    have HE:Hid (Da true S n f t=x∧Fs true S n f t=x%2):=by show _∧_; rw [hx.out]; simp [Da,Fs]
    rw [HE.out.1,HE.out.2];have m1:bits .and .i64 x 1=x%2:=I9 x;rw [← hx.out] at HP;clear HE hx
    go_enter Tryz.func66,Tryz.ntmps66
    go_wp2_with (go_at_call 106; refine (Ad HP _ _).mono ?_; rintro e w1 ⟨rfl,rfl⟩)
    go_region
    all_goals (
      go_wp2;refine bodyPost_ret (v:=.tuple #[.agg #[.bool true,.i x],.i (x%2)]) (by simp [results,Tryz.results66,go_sem]) rfl ?_
      exact ⟨rfl,(L2 _ _).trans ⟨rfl,rfl,rfl,Nat.le_refl _,fun _ _=>rfl⟩⟩)
def Bw (T P C B L:Int):Bool:=By T 0 20000 && By P 0 255 && By C 0 255 && By B 0 1 && By L 0 31
structure Ig (T P C B L:Int):Prop where
  t0:0≤T
  t1:T≤20000
  p0:0≤P
  p1:P≤255
  c0:0≤C
  c1:C≤255
  b0:0≤B
  b1:B≤1
  l0:0≤L
  l1:L≤31
theorem Js (T P C B L:Int):Bw T P C B L=true ↔ Ig T P C B L:=by
  unfold Bw By;simp only [Bool.and_eq_true,decide_eq_true_eq]
  constructor
  · rintro ⟨⟨⟨⟨h1,h2⟩,h3⟩,h4⟩,h5⟩
    exact ⟨by omega,by omega,by omega,by omega,by omega,by omega,by omega,by omega,by omega,by omega⟩
  · intro h
    have:=h.t0; have:=h.t1; have:=h.p0; have:=h.p1; have:=h.c0; have:=h.c1; have:=h.b0; have:=h.b1; have:=h.l0; have:=h.l1
    omega
def Mn (P C:Int):Int:=if C=0 then P else C-1
def Ma (C B L:Int):Int:=if C=0∧0<L then 1-B else B
def Mb (T L:Int):Int:=if T%32=0∧0<L then L-1 else L
def Oo (T L:Int) (S Q:Bool):Bool:=if T%32=0∧0<L then Q || (decide (L-1=0) && S) else Q
def Ef (T:Int):Bool:=decide (T%16=15)
def Wq (T C B L:Int):Int:=if T%16=15∧0<Mb T L then 8*Ma C B L else 0
def Nh (T P C B L:Int) (S Q:Bool):Value :=
  if Bw T P C B L=true then
    if T=20000 then .tuple #[.agg (aR T P C B L S Q),.i 0,.bool false]
    else .tuple #[.agg (aR (T+1) P (Mn P C) (Ma C B L) (Mb T L) S (Oo T L S Q)),.i (Wq T C B L),.bool (Ef T)]
  else .tuple #[.agg (aR 0 0 0 0 0 false false),.i 0,.bool false]
theorem Cs (w:World) (T P C B L:Int) (S Q:Bool):Calls Tryz.prog 31 #[.agg (aR T P C B L S Q)] w
    fun e w'=>e=.returned (.bool (Bw T P C B L))∧Below w.heap.size w w':=by
  unfold Bw
  go_enter Tryz.func31,Tryz.ntmps31
  generalize hT:By T 0 20000=bT;generalize hP:By P 0 255=bP;generalize hC:By C 0 255=bC;generalize hB:By B 0 1=bB;generalize hL:By L 0 31=bL
  have L0:∀ o,Below w.heap.size w (w.alloc o):=fun o=>(Below.refl _ _).alloc (Nat.le_refl _) _
  cases bT <;> cases bP <;> cases bC <;> cases bB <;> cases bL <;>
    (go_wp2_with (first | (go_at_call 32; refine (Fy _ _).mono ?_; rintro e w' ⟨rfl,rfl⟩; first | rw [hP] | rw [hC]) | (go_at_call 33; refine (D8 _ _ _ _).mono ?_; rintro e w' ⟨rfl,rfl⟩; first | rw [hT] | rw [hB] | rw [hL]))
     go_ret
     exact ⟨rfl,L0 _⟩)
end Go.Proofs.YtjnjnppongdhgaaGreat
