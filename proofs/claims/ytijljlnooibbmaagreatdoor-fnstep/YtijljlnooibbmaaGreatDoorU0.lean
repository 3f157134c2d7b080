import Derived.Test.YtijljlnooibbmaaGreatDoorC6
namespace Go.Proofs.YtijljlnooibbmaaGreatDoor
set_option linter.unusedVariables false
open Go.ChangeShapes Go.WideShapes Go.ChangeAt Go.RowKit
abbrev On (D:Nat->Prop):Nat->Nat->Prop:=fun b _=>D b
theorem Al {R:Nat->Nat->Prop} {w w':World} {b:Nat} {o:Obj} (h:w.heap[b]?=some o) (hw:Wrote R w w') (hd:∀ o,¬ R b o):w'.heap[b]?=some o:=(hw.block b (Ad h) hd).trans h
theorem Am {w:World} {b o:Nat} {cs:Array Value} {t:TypeId} {fr:Nat × Nat} (h:w.heap[b]?=some (.cells cs t fr)) (x:Value):(w.setCell ⟨b,o,none⟩ x).heap[b]?=some (.cells (cs.setIfInBounds o x) t fr):=by
 simp [World.setCell,Array.getElem?_modify,h]
structure Bw (W:World) (D:Nat->Prop) (v:Value) (n:Nat) (g:Nat->Int) (bank:Int):Prop where
 ex:∃ a cap,v=.agg #[.slice a n cap,.i bank]/\n<=1048576/\Cg .i64 W a n g/\Mb W (Cz a n)/\∀ b o,Cz a n b o->D b
theorem Bw.keep {R:Nat->Nat->Prop} {W W':World} {D:Nat->Prop} {v:Value} {n:Nat} {g:Nat->Int} {bank:Int} (h:Bw W D v n g bank) (hw:Wrote R W W') (hd:∀ b o,D b->b<W.heap.size->¬ R b o):Bw W' D v n g bank:=by
 obtain ⟨a,cap,e,hn,hr,hF,hD⟩:=h;exact ⟨a,cap,e,hn,hr.keep hw (fun b o hf=>hd b o (hD b o hf) (hF b o hf).1),hF.keep hw,hD⟩
theorem Bw.below {W W':World} {D:Nat->Prop} {v:Value} {n:Nat} {g:Nat->Int} {bank:Int} (h:Bw W D v n g bank) (L:Below W.heap.size W W'):Bw W' D v n g bank:=h.keep (Aa L Aj) (fun _ _ _ _ x=>x)
theorem Bw.mono {W:World} {D E:Nat->Prop} {v:Value} {n:Nat} {g:Nat->Int} {bank:Int} (h:Bw W D v n g bank) (hd:∀ b,b<W.heap.size->D b->E b):Bw W E v n g bank:=by
 obtain ⟨a,cap,e,hn,hr,hF,hD⟩:=h;exact ⟨a,cap,e,hn,hr,hF,fun b o hf=>hd b (hF b o hf).1 (hD b o hf)⟩
theorem Bw.ints {W:World} {D:Nat->Prop} {v:Value} {n:Nat} {g:Nat->Int} {bank:Int} (h:Bw W D v n g bank):∃ u,v=.agg #[u,.i bank]/\Ints .i64 W (On D) u n g:=by
 obtain ⟨a,cap,e,hn,hr,hF,hD⟩:=h;exact ⟨_,e,a,cap,rfl,hn,hr,hD⟩
theorem Bw.size {W:World} {D:Nat->Prop} {v:Value} {n:Nat} {g:Nat->Int} {bank:Int} (h:Bw W D v n g bank):n<=1048576:=by
 obtain ⟨a,cap,e,hn,hr,hF,hD⟩:=h;exact hn
theorem Bw.two {W:World} {D:Nat->Prop} {v:Value} {n:Nat} {g:Nat->Int} {bank:Int} (h:Bw W D v n g bank):∃ a c,v=.agg #[.slice a n c,.i bank]:=by
 obtain ⟨a,c,e,_⟩:=h;exact ⟨a,c,e⟩
theorem Bw.own {W:World} {lo n:Nat} {u:Value} {g:Nat->Int} {bank:Int} (h:Ao W lo u n g):Bw W (fun b=>lo<=b) (.agg #[u,.i bank]) n g bank:=by
 obtain ⟨a,cap,rfl,hn,hr,hF,hD⟩:=h;exact ⟨a,cap,rfl,hn,hr,hF,hD⟩
structure Jc (W:World) (D:Nat->Prop) (v:Value) (m:Nat) (ln:Nat->Nat) (f:Nat->Nat->Int):Prop where
 ex:∃ p,v=.agg #[.slice (some ⟨p,0,none⟩) m m]/\m+Dw ln m<=1048576/\Iv W p m ln f/\p+1+m<=W.heap.size/\∀ b,p<=b->b<p+1+m->D b
theorem Jc.keep {R:Nat->Nat->Prop} {W W':World} {D:Nat->Prop} {v:Value} {m:Nat} {ln:Nat->Nat} {f:Nat->Nat->Int} (h:Jc W D v m ln f) (hw:Wrote R W W') (hd:∀ b o,D b->b<W.heap.size->¬ R b o):Jc W' D v m ln f:=by
 obtain ⟨p,e,hm,hr,hs,hD⟩:=h;exact ⟨p,e,hm,hr.keep hw (fun b o h1 h2=>hd b o (hD b h1 h2) (by omega)),Nat.le_trans hs hw.size,hD⟩
theorem Jc.below {W W':World} {D:Nat->Prop} {v:Value} {m:Nat} {ln:Nat->Nat} {f:Nat->Nat->Int} (h:Jc W D v m ln f) (L:Below W.heap.size W W'):Jc W' D v m ln f:=h.keep (Aa L Aj) (fun _ _ _ _ x=>x)
theorem Jc.mono {W:World} {D E:Nat->Prop} {v:Value} {m:Nat} {ln:Nat->Nat} {f:Nat->Nat->Int} (h:Jc W D v m ln f) (hd:∀ b,b<W.heap.size->D b->E b):Jc W E v m ln f:=by
 obtain ⟨p,e,hm,hr,hs,hD⟩:=h;exact ⟨p,e,hm,hr,hs,fun b h1 h2=>hd b (by omega) (hD b h1 h2)⟩
theorem Jc.ints {W:World} {D:Nat->Prop} {v:Value} {m:Nat} {ln:Nat->Nat} {f:Nat->Nat->Int} (h:Jc W D v m ln f):∃ u F,v=.agg #[u]/\Bg .i64 W F u m ln f:=by
 obtain ⟨p,e,hm,hr,hs,hD⟩:=h;exact ⟨_,_,e,hr.ints hm⟩
structure Bu (W:World) (D:Nat->Prop) (a:Option Addr) (n:Nat) (f:Nat->Int):Prop where
 small:n<=1048576
 row:Cg .i64 W a n f
 free:Mb W (Cz a n)
 on:∀ b o,Cz a n b o->D b
theorem Bu.keep {R:Nat->Nat->Prop} {W W':World} {D:Nat->Prop} {a:Option Addr} {n:Nat} {f:Nat->Int} (h:Bu W D a n f) (hw:Wrote R W W') (hd:∀ b o,Cz a n b o->D b->b<W.heap.size->¬ R b o):Bu W' D a n f :=
 ⟨h.small,h.row.keep hw (fun b o hf=>hd b o hf (h.on b o hf) (h.free b o hf).1),h.free.keep hw,h.on⟩
theorem Bu.wr {R:Nat->Nat->Prop} {W W':World} {D:Nat->Prop} {p i n:Nat} {f:Nat->Int} (h:Bu W D (some ⟨p,i,none⟩) n f) (hw:Wrote R W W') (hd:∀ o,¬ R p o):Bu W' D (some ⟨p,i,none⟩) n f :=
 h.keep hw (fun b o ⟨off,e,_,_⟩ _ _=>by
  simp only [Option.some.injEq,Addr.mk.injEq] at e;obtain ⟨rfl,-,-⟩:=e
  exact hd o)
theorem Bu.mono {W:World} {D E:Nat->Prop} {a:Option Addr} {n:Nat} {f:Nat->Int} (h:Bu W D a n f) (hd:∀ b,b<W.heap.size->D b->E b):Bu W E a n f :=
 ⟨h.small,h.row,h.free,fun b o hf=>hd b (h.free b o hf).1 (h.on b o hf)⟩
theorem Bu.ints {W:World} {D:Nat->Prop} {a:Option Addr} {n:Nat} {f:Nat->Int} (h:Bu W D a n f) (c:Nat):Ints .i64 W (On D) (.slice a n c) n f:=⟨a,c,rfl,h.small,h.row,h.on⟩
theorem Bu.congr {W:World} {D:Nat->Prop} {a:Option Addr} {n:Nat} {f g:Nat->Int} (h:Bu W D a n f) (e:∀ i,i<n->f i=g i):Bu W D a n g:=⟨h.small,h.row.congr e,h.free,h.on⟩
theorem Bu.own {W:World} {lo:Nat} {a:Option Addr} {n c:Nat} {f:Nat->Int} (h:Ao W lo (.slice a n c) n f):Bu W (fun b=>lo<=b) a n f:=by
 obtain ⟨a',c',e,hn,hr,hF,hD⟩:=h;simp only [Value.slice.injEq,true_and] at e;obtain ⟨rfl,rfl⟩:=e;exact ⟨hn,hr,hF,hD⟩
theorem Bu.fresh {W:World} {p n lo:Nat} {f:Nat->Int} (hr:W.rowIs p 3 n (fun i=>.i (f i))) (hn:n<=1048576) (hp:lo<=p):Bu W (fun b=>lo<=b) (some ⟨p,0,none⟩) n f :=
 ⟨hn,Qp hr,fun b o ⟨off,e,_,_⟩=>by
  simp only [Option.some.injEq,Addr.mk.injEq] at e;obtain ⟨rfl,-,-⟩:=e
  exact ⟨hr.lt,hr.frozen _⟩,fun b o ⟨off,e,_,_⟩=>by
  simp only [Option.some.injEq,Addr.mk.injEq] at e;obtain ⟨rfl,-,-⟩:=e
  exact hp⟩
def Apart (a:Option Addr) (n:Nat) (a':Option Addr) (n':Nat):Prop:=∀ b o,Cz a n b o->¬ Cz a' n' b o
theorem Apart.symm {a a':Option Addr} {n n':Nat} (h:Apart a n a' n'):Apart a' n' a n:=fun b o x y=>h b o y x
theorem Ik {p q n m:Nat} {i j:Nat} (h:p≠q):Apart (some ⟨p,i,none⟩) n (some ⟨q,j,none⟩) m:=by
 rintro b o ⟨off,e,_,_⟩ ⟨off',e',_,_⟩;simp only [Option.some.injEq,Addr.mk.injEq] at e e';exact h (e.1.trans e'.1.symm)
theorem Ul {W W':World} {D E:Nat->Prop} {a a':Option Addr} {n n':Nat} {f g:Nat->Int} (h:Bu W D a n f) (k:Bu W' E a' n' g) (hd:∀ b,D b->¬ E b):Apart a n a' n':=fun b o x y=>hd b (h.on b o x) (k.on b o y)
structure Co (W:World) (D:Nat->Prop) (v:Value) (t c s ad pl:Int) (bl:Bool) (n:Nat) (f:Nat->Int) (m:Nat) (g:Nat->Int):Prop where
 ex:∃ a x b y,v=.agg (pR t c s ad pl bl (.slice a n x) (.slice b m y))/\Bu W D a n f/\Bu W D b m g/\Apart a n b m
section
variable {R:Nat->Nat->Prop} {W W':World} {D E:Nat->Prop} {v:Value} {t c s ad pl:Int} {bl:Bool} {n m:Nat} {f g:Nat->Int}
theorem Co.keep (h:Co W D v t c s ad pl bl n f m g) (hw:Wrote R W W') (hd:∀ b o,D b->b<W.heap.size->¬ R b o):Co W' D v t c s ad pl bl n f m g:=by
 obtain ⟨a,x,b,y,e,h1,h2,h3⟩:=h;exact ⟨a,x,b,y,e,h1.keep hw (fun b o _=>hd b o),h2.keep hw (fun b o _=>hd b o),h3⟩
theorem Co.below (h:Co W D v t c s ad pl bl n f m g) (L:Below W.heap.size W W'):Co W' D v t c s ad pl bl n f m g:=h.keep (Aa L Aj) (fun _ _ _ _ x=>x)
theorem Co.mono (h:Co W D v t c s ad pl bl n f m g) (hd:∀ b,b<W.heap.size->D b->E b):Co W E v t c s ad pl bl n f m g:=by
 obtain ⟨a,x,b,y,e,h1,h2,h3⟩:=h;exact ⟨a,x,b,y,e,h1.mono hd,h2.mono hd,h3⟩
theorem Co.two (h:Co W D v t c s ad pl bl n f m g):∃ a x b y,v=.agg (pR t c s ad pl bl (.slice a n x) (.slice b m y)):=by
 obtain ⟨a,x,b,y,e,-⟩:=h;exact ⟨a,x,b,y,e⟩
theorem Co.ints (h:Co W D v t c s ad pl bl n f m g):∃ u u',v=.agg (pR t c s ad pl bl u u')/\Ints .i64 W (On D) u n f/\Ints .i64 W (On D) u' m g:=by
 obtain ⟨a,x,b,y,e,h1,h2,h3⟩:=h;exact ⟨_,_,e,h1.ints x,h2.ints y⟩
end
theorem below_drewN {n:Nat} {w W:World} (L:Below n w W) (d:Nat):Below n w (W.drewN d):=L.trans ⟨rfl,rfl,rfl,Nat.le_refl _,fun _ _=>rfl⟩
theorem Ce {w:World} {b d o:Nat} {ob:Obj} {x:Value} (h:w.heap[b]?=some ob) (hd:b≠d):(w.setCell ⟨d,o,none⟩ x).heap[b]?=some ob :=
 ((Wrote.setCell (R:=fun b' _=>b'=d) (Wrote.refl _ w) (fun _=>rfl) x).block b (Ad h) (fun _ e=>hd e)).trans h
def Gf (P:Program):Nat->TypeId->DataW Unit->Nat->Option Value
 | 0,_,_,_=>Option.none
 | n+1,t,d,i =>
  match P.underlying t,d with
  | some (.int k),.lit (.int k' z)=>if k'=k/\i=0 then some (.int k z) else Option.none
  | some .bool,.lit (.bool b)=>if i=0 then some (.bool b) else Option.none
  | some .string,.lit (.string s)=>if i=0 then some (.string ⟨s.toArray⟩) else Option.none
  | some (.array m e),.agg ps=>if i/P.cellsOf e<m then (ps[i/P.cellsOf e]?).bind fun x=>if i%P.cellsOf e<P.cellsOf e then Gf P n e x (i%P.cellsOf e) else Option.none else Option.none
  | some (.struct fs),.agg ps=>(List.range fs.toList.length).findSome? fun j=>(fs.toList[j]?).bind fun f=>if f.offset<=i/\i<f.offset+P.cellsOf f.type then (ps[j]?).bind fun x=>Gf P n f.type x (i-f.offset) else Option.none
  | _,_=>Option.none
theorem Yv {α:Type} {cs:List α} {a c i:Nat} {v:α} (h:((cs.drop a).take c)[i]?=some v):cs[a+i]?=some v:=by
 rw [List.getElem?_take] at h;split at h
 .rwa [List.getElem?_drop] at h
 .cases h
theorem Rn {enc:TypeId × Value->Unit} {P:Program} {w:World} {base:Nat} {sp:Nat->Bool} {held:Bool} :
  ∀ (n fuel:Nat) (t:TypeId) (cs:List Value) (d:DataW Unit) (p:List MemPlace) (i:Nat) (v:Value),
   DataW.trod enc P w base sp held fuel t cs=some (d,p)->Gf P n t d i=some v->cs[i]?=some v:=by
 intro n
 induction n with
 | zero=>intro fuel t cs d p i v h hv; cases hv
 | succ n ih =>
  intro fuel t cs d p i v h hv
  cases fuel with
  | zero=>simp [DataW.trod] at h
  | succ fuel =>
   unfold Gf at hv;split at hv
   .rename_i k k' z hu
    obtain ⟨z',hc,hd,_⟩:=DataW.trod_int hu h;split at hv
    .rename_i hk
     obtain ⟨rfl,rfl⟩:=hk;cases hd
     simpa [hc] using hv
    .cases hv
   .rename_i b hu
    simp only [DataW.trod,hu] at h
    split at h <;> simp_all
   .rename_i s hu
    simp only [DataW.trod,hu] at h
    split at h <;> simp_all
    obtain ⟨hl,rfl,rfl⟩:=h
    simpa using hv.2
   .rename_i m e ps hu
    simp only [DataW.trod,hu] at h;split at h
    .obtain ⟨xs,hm,hx⟩:=Option.map_eq_some_iff.1 h
     split at hv
     .rename_i hq
      obtain ⟨x,hpx,hv⟩:=Option.bind_eq_some_iff.1 hv;split at hv
      .obtain ⟨b,hb,hf⟩:=Lib.mapM_at hm (i/P.cellsOf e) (i/P.cellsOf e) (by simp [hq])
       have hxs:ps=xs.map (·.1):=by
        have:=congrArg Prod.fst hx
        simpa using this.symm
       have hbx:b.1=x:=by
        rw [hxs,List.getElem?_map,hb] at hpx
        simpa using hpx
       have:=Yv (ih fuel e _ x b.2 (i%P.cellsOf e) v (by rw [hf,<- hbx]) hv)
       rwa [Nat.mul_comm,Nat.div_add_mod] at this
      .cases hv
     .cases hv
    .cases h
   .rename_i fs ps hu
    simp only [DataW.trod,hu] at h;split at h
    .obtain ⟨xs,hm,hx⟩:=Option.map_eq_some_iff.1 h
     obtain ⟨j,_,hj⟩:=List.exists_of_findSome?_eq_some hv;obtain ⟨f,hfj,hj⟩:=Option.bind_eq_some_iff.1 hj;split at hj
     .rename_i hin
      obtain ⟨x,hpx,hj⟩:=Option.bind_eq_some_iff.1 hj;obtain ⟨b,hb,hf⟩:=Lib.mapM_at hm j f hfj
      have hxs:ps=xs.map (·.1):=by
       have:=congrArg Prod.fst hx
       simpa using this.symm
      have hbx:b.1=x:=by
       rw [hxs,List.getElem?_map,hb] at hpx
       simpa using hpx
      have:=Yv (ih fuel f.type _ x b.2 (i-f.offset) v (by rw [hf,<- hbx]) hj)
      rwa [Nat.add_sub_cancel' hin.1] at this
     .cases hj
    .cases h
   .cases hv
theorem Ko {P:Program} {w:World} {name:String} {d:DataW Unit}:∀ {l:List (String × DataW Unit)} {ps:List MemPlace},DataW.LaidVars P w l ps->(name,d)∈l ->
  ∃ g t cs fuel p,P.globalNamed name=some g/\(P.globals[g]?).map (·.type)=some t/\w.var? P name=some cs/\DataW.trod (fun _=>()) P w 0 (fun _=>true) false fuel t cs.toList=some (d,p)
 | [],_,_,h=>by cases h
 | (n,x) :: r,_,⟨g,t,cs,fuel,p,q,h1,h2,h3,h4,h5,_⟩,h=>by
  rcases List.mem_cons.1 h with h | h
  .cases h
   exact ⟨g,t,cs,fuel,p,h1,h2,h3,h4⟩
  .exact Ko h5 h
theorem Pv {P:Program} {W:World} {name:String} {d:DataW Unit} {l:List (String × DataW Unit)} {g:Nat} {t:TypeId}
  (hg:P.globalNamed name=some g) (hty:(P.globals[g]?).map (·.type)=some t) (hm:(name,d)∈l) (h:laidMet P l W) (n:Nat):∀ (i:Nat) (v:Value),Gf P n t d i=some v->W.cell? ⟨g,i,Option.none⟩=some v:=by
 intro i v hv;obtain ⟨ps,hl,_⟩:=h;obtain ⟨g',t',cs,fuel,p,hg',ht',hvar,hd⟩:=Ko hl hm;obtain rfl:=Option.some.inj (hg.symm.trans hg');obtain rfl:=Option.some.inj (hty.symm.trans ht');have:=World.var?_cell hg hvar i;rw [this]
 simpa using Rn n fuel _ _ d p i v hd hv
theorem Pw {H:Type} {enc:TypeId × Value->H} {P:Program} {w:World} {sp:Nat->Bool} {n:String} {ns:List String} {gs:List (DataW H)} {ps:List MemPlace} (h:DataW.TrodVars enc P w sp (n :: ns) gs ps) :
  ∃ d ds q,gs=d :: ds/\DataW.TrodVars enc P w sp ns ds q:=by
 cases gs with
 | nil=>exact h.elim
 | cons d ds =>
  obtain ⟨g,t,cs,fuel,p,q,h1,h2,h3,h4,hs,e⟩:=h;exact ⟨d,ds,q,rfl,hs⟩
theorem Ro {H:Type} {enc:TypeId × Value->H} {P:Program} {w:World} {sp:Nat->Bool} {gs:List (DataW H)} {ps:List MemPlace} (h:DataW.TrodVars enc P w sp [] gs ps):gs=[]:=by
 cases gs with
 | nil=>rfl
 | cons d ds=>exact h.elim
def Jfa:Nat->DataW Unit->List Value
 | _,.lit (.int k z)=>[.int k z]
 | _,.lit (.bool b)=>[.bool b]
 | _,.lit (.string s)=>[.string ⟨s.toArray⟩]
 | n+1,.agg ps=>ps.flatMap (Jfa n)
 | _,_=>[]
open Go.Proofs.Tryz
structure Code (w:World) (B:Nat) (a:Option Addr) (len:Nat):Prop where
 le:len<=1048576
 at_:∀ i,i<len->∃ b off,a=some ⟨b,off,none⟩/\b<B/\∃ n,w.cell? ⟨b,off+i,none⟩=some (.int .u8 n)/\0<=n/\n<256
structure Bd (c:Nat) (w w':World):Prop where
 os:w'.os=w.os
 tape:w'.tape=w.tape
 output:w'.output=w.output
 size:w'.heap.size=w.heap.size
 block:∀ k,k≠c->w'.heap[k]?=w.heap[k]?
theorem Bd.refl (c:Nat) (w:World):Bd c w w:=⟨rfl,rfl,rfl,rfl,fun _ _=>rfl⟩
theorem Bd.trans {c:Nat} {u v w:World} (h:Bd c u v) (k:Bd c v w):Bd c u w :=
 ⟨k.os.trans h.os,k.tape.trans h.tape,k.output.trans h.output,k.size.trans h.size,fun i hi=>(k.block i hi).trans (h.block i hi)⟩
theorem Bd.drew {c:Nat} {u w:World} (h:Bd c u w):Bd c u w.drew:=⟨h.os,h.tape,h.output,h.size,h.block⟩
theorem Bd.drewN {c:Nat} {u w:World} (h:Bd c u w) (n:Nat):Bd c u (w.drewN n):=⟨h.os,h.tape,h.output,h.size,h.block⟩
theorem Bd.setCell {c:Nat} {u w:World} (h:Bd c u w) {o:Nat} {s:Option _} (x:Value):Bd c u (w.setCell ⟨c,o,s⟩ x) :=
 h.trans ⟨rfl,rfl,rfl,by simp [World.setCell],fun k hk=>Below.heap_setCell _ _ _ _ hk⟩
theorem Bd.below {c B:Nat} {w w':World} (h:Bd c w w') (hB:B<=c):Below B w w' :=
 ⟨h.os,h.tape,h.output,Nat.le_of_eq h.size.symm,fun k hk=>h.block k (by omega)⟩
theorem Bd.cell {c:Nat} {w w':World} (h:Bd c w w') {p:Addr} (hp:p.block≠c):w'.cell? p=w.cell? p:=World.cell?_of_block (w:=w) (h.block p.block hp)
theorem Bd.frozen {c:Nat} {w w':World} (h:Bd c w w') {p:Addr} (hp:p.block≠c):w'.frozen? p=w.frozen? p:=World.frozen?_of_block (w:=w) (h.block p.block hp)
structure Ep (w:World) (B c:Nat) (a:Option Addr) (len cap:Nat):Prop where
 up:B<=c
 code:Code w B a len
 sl:w.cell? ⟨c,0,none⟩=some (.slice a len cap)
 ix:∃ i:Nat,i<=len/\w.cell? ⟨c,1,none⟩=some (.i i)
 hx:∃ h:Int,w.cell? ⟨c,2,none⟩=some (.i h)
 f1:w.frozen? ⟨c,1,none⟩=false
 f2:w.frozen? ⟨c,2,none⟩=false
theorem Code.keep {w w':World} {B:Nat} {a:Option Addr} {len:Nat} (h:Code w B a len) (k:Below B w w'):Code w' B a len :=
 ⟨h.le,fun i hi=>by
  obtain ⟨b,off,ha,hb,n,hn,n0,n1⟩:=h.at_ i hi
  exact ⟨b,off,ha,hb,n,by rw [k.cell (p:=⟨b,off+i,none⟩) hb]; exact hn,n0,n1⟩⟩
theorem Ep.drewN {w:World} {B c:Nat} {a:Option Addr} {len cap:Nat} (H:Ep w B c a len cap) (n:Nat):Ep (w.drewN n) B c a len cap :=
 ⟨H.up,H.code.keep ((Bd.refl c w).drewN n |>.below H.up),H.sl,H.ix,H.hx,H.f1,H.f2⟩
theorem Jdw {w:World} {B c:Nat} {a:Option Addr} {len cap:Nat} (up:B<=c) (code:Code w B a len) (sl:w.cell? ⟨c,0,none⟩=some (.slice a len cap)) {i:Nat} (hi:i<=len) (ix:w.cell? ⟨c,1,none⟩=some (.i i)) {h:Int} (hx:w.cell? ⟨c,2,none⟩=some (.i h)) (f1:w.frozen? ⟨c,1,none⟩=false) (f2:w.frozen? ⟨c,2,none⟩=false) (h':Int) :
  Ep (w.setCell ⟨c,2,none⟩ (.i h')) B c a len cap :=
 ⟨up,code.keep ((Bd.refl c w).setCell _ |>.below up),by go_simp,⟨i,hi,by go_simp⟩,⟨h',by go_simp⟩,by go_simp,by go_simp⟩
theorem Jbu {w:World} {B c:Nat} {a:Option Addr} {len cap:Nat} (up:B<=c) (code:Code w B a len) (sl:w.cell? ⟨c,0,none⟩=some (.slice a len cap)) {i:Nat} (ix:w.cell? ⟨c,1,none⟩=some (.i i)) {h:Int} (hx:w.cell? ⟨c,2,none⟩=some (.i h)) (f1:w.frozen? ⟨c,1,none⟩=false) (f2:w.frozen? ⟨c,2,none⟩=false) (h':Int) (n:Nat) (hi:i<len) :
  Ep (((w.setCell ⟨c,2,none⟩ (.i h')).drewN n).setCell ⟨c,1,none⟩ (.i ((i:Int)+1))) B c a len cap :=
 ⟨up,code.keep ((((Bd.refl c w).setCell _).drewN n).setCell _ |>.below up),by go_simp,⟨i+1,hi,by go_simp⟩,⟨h',by go_simp⟩,by go_simp,by go_simp⟩
theorem Nq (w:World) (B c:Nat) (a:Option Addr) (len cap:Nat) (H:Ep w B c a len cap) :
  Calls prog 80 #[(pt c 0)] w fun e w'=>∃ x:Int,e=.returned (.i x)/\0<=x/\x<256/\Ep w' B c a len cap/\Bd c w w':=by
 obtain ⟨up,code,sl,⟨i,hi,ix⟩,⟨h,hx⟩,f1,f2⟩:=H;have h255:=Nk;have hle:=code.le
 by_cases hlt:i<len
 .obtain ⟨b,off,rfl,hb,n,hn,n0,n1⟩:=code.at_ i hlt
  have hbc:b≠c:=by omega
  have hlt':(i:Int)<(len:Int):=by omega
  go_enter func80,ntmps80
  go_wp2
  go_quiet (fail)
  go_wp2
  go_quiet (fail)
  go_wp2
  go_quiet (fail)
  go_wp2;go_ret;exact ⟨_,rfl,by omega,by omega,Jbu up code sl ix hx f1 f2 _ _ hlt,(((Bd.refl c w).setCell _).drewN _).setCell _⟩
 .have hlt':decide ((i:Int)<(len:Int))=false:=by simp; omega
  go_enter func80,ntmps80
  go_wp2
  go_quiet (fail)
  go_wp2
  go_quiet (fail)
  go_wp2;go_ret;exact ⟨_,rfl,by omega,by omega,((Jdw up code sl hi ix hx f1 f2 _).drewN _).drewN _,(((Bd.refl c w).setCell _).drewN _).drewN _⟩
theorem Dk (w:World) (B c:Nat) (a:Option Addr) (len cap:Nat) (H:Ep w B c a len cap) (n:Int) :
  Calls prog 43 #[(pt c 0),.i n] w fun e w'=>∃ x:Int,e=.returned (.i x)/\0<=x/\(x<n\/x=0)/\Ep w' B c a len cap/\Bd c w w':=by
 by_cases h0:n<=0
 .go_enter func43,ntmps43
  go_wp2;go_ret;exact ⟨0,rfl,by omega,Or.inr rfl,H,Bd.refl _ _⟩
 .by_cases h1:n<=256
  .go_enter func43,ntmps43
   go_wp2_with (go_at_call 80; refine (Nq _ B c a len cap H).mono ?_; rintro e w1 ⟨x,rfl,x0,x1,H1,O1⟩);go_ret;exact ⟨_,rfl,Int.emod_nonneg _ (by omega),Or.inl (Int.emod_lt_of_pos _ (by omega)),H1,O1⟩
  .go_enter func43,ntmps43
   go_wp2_with fail;refine (Nq _ B c a len cap H).mono ?_;rintro e w1 ⟨x1,rfl,p1,q1,H1,O1⟩;go_wp2_with fail;refine (Nq _ B c a len cap H1).mono ?_;rintro e w2 ⟨x2,rfl,p2,q2,H2,O2⟩;go_wp2_with fail;refine (Nq _ B c a len cap H2).mono ?_;rintro e w3 ⟨x3,rfl,p3,q3,H3,O3⟩;go_wp2_with fail;refine (Nq _ B c a len cap H3).mono ?_;rintro e w4 ⟨x4,rfl,p4,q4,H4,O4⟩;go_wp2;go_ret;exact ⟨_,rfl,Int.emod_nonneg _ (by omega),Or.inl (Int.emod_lt_of_pos _ (by omega)),H4,((O1.trans O2).trans O3).trans O4⟩
theorem Jbv (w:World) (B c:Nat) (a:Option Addr) (len cap:Nat) (H:Ep w B c a len cap) (n:Int) :
  Calls prog 108 #[(pt c 0),.i n] w fun e w'=>∃ x:Bool,e=.returned (.bool x)/\Ep w' B c a len cap/\Bd c w w':=by
 go_enter func108,ntmps108
 go_wp2_with (go_at_call 43; refine (Dk _ B c a len cap H n).mono ?_; rintro e w1 ⟨x,rfl,x0,x1,H1,O1⟩);go_ret;exact ⟨_,rfl,H1,O1⟩
theorem Ep.only {w w':World} {B c d:Nat} {a:Option Addr} {len cap:Nat} (H:Ep w B c a len cap) (k:Bd d w w') (hd:d≠c) (hB:B<=d):Ep w' B c a len cap:=by
 have e:∀ o,w'.cell? ⟨c,o,none⟩=w.cell? ⟨c,o,none⟩:=fun o=>k.cell (p:=⟨c,o,none⟩) (fun h=>hd h.symm)
 have f:∀ o,w'.frozen? ⟨c,o,none⟩=w.frozen? ⟨c,o,none⟩:=fun o=>k.frozen (p:=⟨c,o,none⟩) (fun h=>hd h.symm)
 obtain ⟨up,code,sl,⟨i,hi,ix⟩,⟨h,hx⟩,f1,f2⟩:=H;exact ⟨up,code.keep (k.below hB),(e 0).trans sl,⟨i,hi,(e 1).trans ix⟩,⟨h,(e 2).trans hx⟩,(f 1).trans f1,(f 2).trans f2⟩
theorem Ep.below {w w':World} {B c B':Nat} {a:Option Addr} {len cap:Nat} (H:Ep w B c a len cap) (k:Below B' w w') (hc:c<B'):Ep w' B c a len cap:=by
 have e:∀ o,w'.cell? ⟨c,o,none⟩=w.cell? ⟨c,o,none⟩:=fun o=>k.cell (p:=⟨c,o,none⟩) hc
 have f:∀ o,w'.frozen? ⟨c,o,none⟩=w.frozen? ⟨c,o,none⟩:=fun o=>k.frozen (p:=⟨c,o,none⟩) hc
 obtain ⟨up,code,sl,⟨i,hi,ix⟩,⟨h,hx⟩,f1,f2⟩:=H;exact ⟨up,code.keep (k.mono (by omega)),(e 0).trans sl,⟨i,hi,(e 1).trans ix⟩,⟨h,(e 2).trans hx⟩,(f 1).trans f1,(f 2).trans f2⟩
theorem Jgo (w:World) (B:Nat) (a:Option Addr) (len cap:Nat) (hB:B<=w.heap.size) (H:Code w B a len) :
  Calls prog 14 #[.slice a len cap] w fun e w'=>e=.returned ((pt w.heap.size 0))/\Ep w' B w.heap.size a len cap/\Below w.heap.size w w'/\w'.heap.size=w.heap.size+1:=by
 have hle:=H.le
 go_enter func14,ntmps14
 go_wp2
 go_loop [3,4] (fun h i=>∃ k:Nat,k<=len/\i=.i k/\∃ z:Int,h=.i z) (fun _ i=>len-(intOf i).toNat)
 case atStart=>exact ⟨0,Nat.zero_le _,rfl,_,rfl⟩
 case round =>
  obtain ⟨k,hk,rfl,z,rfl⟩:=hrel
  by_cases h1:k<len
  .by_cases h2:k<4000
   .obtain ⟨b,off,rfl,hb,n,hn,n0,n1⟩:=H.at_ k h1
    have h1':(k:Int)<(len:Int):=by omega
    have h2':(k:Int)<4000:=by omega
    go_wp2
    go_round
    case rel=>exact ⟨k+1,by omega,by go_num,_,rfl⟩
    case measure=>simp [intOf]; omega
   .have h1':(k:Int)<(len:Int):=by omega
    have h2':¬ (k:Int)<4000:=by omega
    go_wp2;go_ret;refine ⟨rfl,⟨hB,H.keep ((Below.refl _ _).alloc hB _),by go_simp,⟨0,Nat.zero_le _,by go_simp⟩,⟨z,by go_simp⟩,by go_simp,by go_simp⟩,(Below.refl _ _).alloc (Nat.le_refl _) _,by simp⟩
  .have h1':¬ (k:Int)<(len:Int):=by omega
   have h3':decide ((k:Int)<(len:Int))=false:=by simpa using h1'
   go_wp2;go_ret;refine ⟨rfl,⟨hB,H.keep ((Below.refl _ _).alloc hB _),by go_simp,⟨0,Nat.zero_le _,by go_simp⟩,⟨z,by go_simp⟩,by go_simp,by go_simp⟩,(Below.refl _ _).alloc (Nat.le_refl _) _,by simp⟩
structure Step (c:Nat) (w w':World):Prop where
 os:w'.os=w.os
 tape:w'.tape=w.tape
 output:w'.output=w.output
 size:w.heap.size<=w'.heap.size
 block:∀ k,k<w.heap.size->k≠c->w'.heap[k]?=w.heap[k]?
theorem Step.refl (c:Nat) (w:World):Step c w w:=⟨rfl,rfl,rfl,Nat.le_refl _,fun _ _ _=>rfl⟩
theorem Step.trans {c:Nat} {u v w:World} (h:Step c u v) (k:Step c v w):Step c u w :=
 ⟨k.os.trans h.os,k.tape.trans h.tape,k.output.trans h.output,Nat.le_trans h.size k.size,fun i hi hc=>(k.block i (Nat.lt_of_lt_of_le hi h.size) hc).trans (h.block i hi hc)⟩
theorem Bd.step {c:Nat} {w w':World} (h:Bd c w w'):Step c w w':=⟨h.os,h.tape,h.output,Nat.le_of_eq h.size.symm,fun k _ hk=>h.block k hk⟩
theorem Ez {B c:Nat} {w w':World} (h:Below B w w') (hB:w.heap.size<=B):Step c w w':=⟨h.os,h.tape,h.output,h.size,fun k hk _=>h.block k (by omega)⟩
theorem Step.alloc {c:Nat} {u w:World} (h:Step c u w) (o:Obj):Step c u (w.alloc o) :=
 h.trans (Ez ((Below.refl w.heap.size w).alloc (Nat.le_refl _) o) (Nat.le_refl _))
theorem Step.drewN {c:Nat} {u w:World} (h:Step c u w) (n:Nat):Step c u (w.drewN n):=⟨h.os,h.tape,h.output,h.size,h.block⟩
theorem Step.below {c B:Nat} {w w':World} (h:Step c w w') (hc:B<=c) (hB:B<=w.heap.size):Below B w w' :=
 ⟨h.os,h.tape,h.output,h.size,fun k hk=>h.block k (by omega) (by omega)⟩
theorem Ep.alloc {w:World} {B c:Nat} {a:Option Addr} {len cap:Nat} (H:Ep w B c a len cap) (o:Obj) (hc:c<w.heap.size):Ep (w.alloc o) B c a len cap :=
 H.below ((Below.refl w.heap.size w).alloc (Nat.le_refl _) o) hc
theorem Ho (w:World) (B c:Nat) (a:Option Addr) (len cap:Nat) (H:Ep w B c a len cap) (m n:Nat) (hn:0<n) (hn':n<=1048576) (hm:m≠c) (zs:Nat->Int) (hz:∀ j,j<n->w.cell? ⟨m,j,none⟩=some (.i (zs j))) :
  Calls prog 83 #[(pt c 0),.slice (some ⟨m,0,none⟩) n n] w fun e w'=>∃ j:Nat,e=.returned (.i (zs j))/\j<n/\Ep w' B c a len cap/\Bd c w w':=by
 go_enter func83,ntmps83
 go_wp2_with fail;refine (Dk _ B c a len cap H n).mono ?_;rintro e w1 ⟨x,rfl,x0,x1,H1,O1⟩;obtain ⟨j,rfl⟩:=Int.eq_ofNat_of_zero_le x0
 have hj:j<n:=by omega
 have hj':(j:Int)<(n:Int):=by omega
 have hc:=(O1.cell (p:=⟨m,j,none⟩) hm).trans (hz j hj);go_wp2;go_ret;exact ⟨j,rfl,hj,H1,O1⟩
set_option linter.unusedSimpArgs false
def Ck (T P C B L:Int):Bool:=Cr T 0 20000 && Cr P 0 255 && Cr C 0 255 && Cr B 0 1 && Cr L 0 31
structure Hz (T P C B L:Int):Prop where
  t0:0<=T
  t1:T<=20000
  p0:0<=P
  p1:P<=255
  c0:0<=C
  c1:C<=255
  b0:0<=B
  b1:B<=1
  l0:0<=L
  l1:L<=31
theorem Jt (T P C B L:Int):Ck T P C B L=true ↔ Hz T P C B L:=by
  unfold Ck Cr;simp only [Bool.and_eq_true,decide_eq_true_eq]
  constructor
  . rintro ⟨⟨⟨⟨h1,h2⟩,h3⟩,h4⟩,h5⟩
    exact ⟨by omega,by omega,by omega,by omega,by omega,by omega,by omega,by omega,by omega,by omega⟩
  . intro h
    have:=h.t0; have:=h.t1; have:=h.p0; have:=h.p1; have:=h.c0; have:=h.c1; have:=h.b0; have:=h.b1; have:=h.l0; have:=h.l1
    omega
def Qb (P C:Int):Int:=if C=0 then P else C-1
def Ni (C B L:Int):Int:=if C=0/\0<L then 1-B else B
def Qc (T L:Int):Int:=if T%32=0/\0<L then L-1 else L
def Ut (T L:Int) (S Q:Bool):Bool:=if T%32=0/\0<L then Q || (decide (L-1=0) && S) else Q
def Eb (T:Int):Bool:=decide (T%16=15)
def tvA (T C B L:Int):Int:=if T%16=15/\0<Qc T L then 8*Ni C B L else 0
def Qz (T P C B L:Int) (S Q:Bool):Value :=
  if Ck T P C B L=true then
    if T=20000 then .tuple #[.agg (aR T P C B L S Q),.i 0,.bool false]
    else .tuple #[.agg (aR (T+1) P (Qb P C) (Ni C B L) (Qc T L) S (Ut T L S Q)),.i (tvA T C B L),.bool (Eb T)]
  else .tuple #[.agg (aR 0 0 0 0 0 false false),.i 0,.bool false]
theorem Dn (w:World) (T P C B L:Int) (S Q:Bool):Calls prog 31 #[.agg (aR T P C B L S Q)] w
    fun e w'=>e=.returned (.bool (Ck T P C B L))/\Below w.heap.size w w':=by
  unfold Ck
  go_enter func31,ntmps31
  generalize hT:Cr T 0 20000=bT;generalize hP:Cr P 0 255=bP;generalize hC:Cr C 0 255=bC;generalize hB:Cr B 0 1=bB;generalize hL:Cr L 0 31=bL
  have L0:∀ o,Below w.heap.size w (w.alloc o):=fun o=>(Below.refl _ _).alloc (Nat.le_refl _) _
  cases bT <;> cases bP <;> cases bC <;> cases bB <;> cases bL <;>
    (go_wp2_with (first | (go_at_call 32; refine (Ih _ _).mono ?_; rintro e w' ⟨rfl,rfl⟩; first | rw [hP] | rw [hC]) | (go_at_call 33; refine (E8 _ _ _ _).mono ?_; rintro e w' ⟨rfl,rfl⟩; first | rw [hT] | rw [hB] | rw [hL]))
     go_ret
     exact ⟨rfl,L0 _⟩)
end Go.Proofs.YtijljlnooibbmaaGreatDoor
