import Derived.Test.YtijljlnooibbmaaGreatDoorI8e
import Derived.Test.YtijljlnooibbmaaGreatDoorAI
import Derived.Test.YtijljlnooibbmaaGreatDoorPI
import Derived.Test.YtijljlnooibbmaaGreatDoorI6d
import Derived.Test.YtijljlnooibbmaaGreatDoorWA
namespace Go.Proofs.YtijljlnooibbmaaGreatDoor
open Go.ChangeShapes Go.WideShapes Go.ChangeAt Go.RowKit
structure Dl (w:World) (lo:Nat) (v:Value) (m:Nat) (ra:Nat->Option Addr) (ln rc:Nat->Nat) (f:Nat->Nat->Int):Prop where
 sep:Sep w v m ra ln rc
 rows:∀ i,i<m->Cg .i64 w (ra i) (ln i) (f i)
 inner:∀ i,i<m->∀ b o,Cz (ra i) (ln i) b o->lo<=b
 outer:∀ a cap,v=.slice a m cap->∀ b o,Cz a m b o->lo<=b
 len:∀ i,i<m->ln i<=1048576
theorem Dl.keep {w w':World} {lo:Nat} {v:Value} {m:Nat} {ra:Nat->Option Addr} {ln rc:Nat->Nat} {f:Nat->Nat->Int} {R:Nat->Nat->Prop} (h:Dl w lo v m ra ln rc f) (hw:Wrote R w w') (hd:∀ b o,R b o->b<lo):Dl w' lo v m ra ln rc f:=by
 obtain ⟨⟨⟨a,cap,hv,hm,ho⟩,hf,hdj,hs⟩,hr,hi,hou,hl⟩:=h;refine ⟨⟨⟨a,cap,hv,hm,fun i hi'=>?_⟩,fun i hi'=>(hf i hi').keep hw,hdj,hs⟩,fun i hi'=>(hr i hi').keep hw (fun b o hF hR=>?_),hi,hou,hl⟩
 .obtain ⟨b,off,ha,hc,hn⟩:=ho i hi'
  refine ⟨b,off,ha,?_,hn⟩;rw [hw.cell b (off+i) (block_lt_of_cell hc) (fun hR=>by have:=hd _ _ hR; have:=hou a cap hv b (off+i) (by rw [ha]; exact Cc hi'); omega)];exact hc
 .have:=hd _ _ hR
  have:=hi i hi' b o hF
  omega
theorem Dl.ints {w:World} {lo:Nat} {v:Value} {m:Nat} {ra:Nat->Option Addr} {ln rc:Nat->Nat} {f:Nat->Nat->Int} (h:Dl w lo v m ra ln rc f):Bg .i64 w (fun b _=>lo<=b) v m ln f:=by
 obtain ⟨⟨⟨a,cap,hv,hm,ho⟩,hf,hdj,hs⟩,hr,hi,hou,hl⟩:=h;refine ⟨a,cap,hv,hm,fun b o hF=>hou a cap hv b o hF,fun i hi'=>?_⟩;obtain ⟨b,off,ha,hc,hn⟩:=ho i hi';exact ⟨b,off,_,ha,hc,ra i,rc i,rfl,hl i hi',hr i hi',fun b o hF=>hi i hi' b o hF⟩
theorem Bytes.keep {w w':World} {R:Nat->Nat->Prop} {a:Option Addr} {n:Nat} {f:Nat->Int} (h:Bytes w a n f) (hw:Wrote R w w') (hd:∀ b o,Cz a n b o->¬ R b o):Bytes w' a n f:=⟨h.row.keep hw hd,h.len,h.byte⟩
theorem Jbs (k:Nat):Dw (fun _=>256) k=256*k:=by
 induction k with
 | zero=>rfl
 | succ k ih=>simp only [Dw,ih]; omega
set_option linter.unusedVariables false
set_option linter.unusedSimpArgs false
open Go.Sort
theorem Jes {P:Program} {ops:Array Oper} {C:World->Prop} {o:Oper} {a:Act} {v:Value} (hg:o.guard=none) (h:∀ w,(execOp a.eval o).run P w=.ok (.value v) w):Cs P ops C o v a:=⟨by simp [Region.wanted,hg],fun w _=>h w⟩
theorem Et {P:Program} {ops:Array Oper} {C:World->Prop} {o:Oper} {a:Act} (ty:TypeId) (x:Operand) (ho:o.op=.load ty x) (hgu:o.guard=none) (g off:Nat) (hx:a.eval x=(pt g off)) (t:TypeId) (cs part:Array Value) (fr:Nat × Nat) (d:TypeDesc) (hg:∀ w,C w->w.heap[g]?=some (.cells cs t fr)) (hp:∀ j v,part[j]?=some v->cs[off+j]?=some v)
  (hu:P.underlying ty=some d) (hd:(match d with | .struct _ | .array _ _=>true | _=>false)=true) (hi:(P.info? ty).map (·.size)=some part.size):Cs P ops C o (.agg part) a:=⟨by simp [Region.wanted,hgu],fun w hw=>by
 unfold execOp
 simp only [ho,hx,Instr.loadAt,Instr.sureAddr,Sem.run_bind,Sem.run_pure,Result.andThen_ok,E5 w g off t ty cs part fr d (hg w hw) hp hu hd hi]⟩
theorem Pm {P:Program} {ops:Array Oper} {C:World->Prop} {Q:Exit->Act->World->Prop} {z f:Nat} (i:Nat) (v:Value) {l:Array Bool} {a:Act} {w:World} (hw:C w)
  (h:Do P ops z C (Lh Q) f (l.setIfInBounds i true) (a.put (match ops[i]? with | some o=>o.dst | none=>none) v) w)
  (hB:(Vh ops z i l && (match ops[i]? with | some o=>o.guard.isNone | none=>false))=true:=by kernel_rfl)
  (hy:∀ w,(match ops[i]? with | some o=>(execOp a.eval o).run P w | none=>.ok (.value v) w)=.ok (.value v) w:=by intro w; kernel_rfl):Do P ops z C (Lh Q) (f+1) l a w:=by
 rw [Bool.and_eq_true] at hB
 cases e:ops[i]? with
 | none=>rw [e] at hB; simp at hB
 | some o =>
  rw [e] at hB;simp only [e] at h hy;exact Fh i e hB.1 hw (Jes (by simpa using hB.2) hy) h
theorem Ed {P:Program} {ops:Array Oper} {C:World->Prop} {Q:Exit->Act->World->Prop} {z f:Nat} (i:Nat) {l:Array Bool} {a:Act} {w:World} (hB:(Region.ready .any ops l==[i] && (match ops[i]? with | some o=>o.guard.isNone | none=>false))=true)
  (h:match ops[i]? with | some o=>o.wp P a w (fun a' w'=>(Unz ops z (l.setIfInBounds i true)->C w')/\Do P ops z C Q f (l.setIfInBounds i true) a' w') Q | none=>True):Do P ops z C Q (f+1) l a w:=by
 cases e:ops[i]? with
 | none=>rw [e] at hB; simp at hB
 | some o =>
  rw [e] at h hB;exact En i e hB h
theorem Lj {P:Program} {ops:Array Oper} {C:World->Prop} {o:Oper} {a:Act} (ty:TypeId) (x:Operand) (ho:o.op=.load ty x) (hgu:o.guard=none) (g off:Nat) (hx:a.eval x=(pt g off)) (t:TypeId) (cs:Array Value) (fr:Nat × Nat) (v:Value) (hg:∀ w,C w->w.heap[g]?=some (.cells cs t fr)) (hv:cs[off]?=some v)
  (h:∀ w,w.cell? ⟨g,off,none⟩=some v->(loadVar ty ⟨g,off,none⟩).run P w=.ok v w):Cs P ops C o v a:=⟨by simp [Region.wanted,hgu],fun w hw=>by
 have hc:w.cell? ⟨g,off,none⟩=some v:=(Af (hg w hw) off).trans hv;unfold execOp
 simp only [ho,hx,Instr.loadAt,Instr.sureAddr,Sem.run_bind,Sem.run_pure,Result.andThen_ok,h w hc]⟩
theorem Dl.lower {w:World} {lo lo':Nat} {v:Value} {m:Nat} {ra:Nat->Option Addr} {ln rc:Nat->Nat} {f:Nat->Nat->Int} (h:Dl w lo v m ra ln rc f) (hl:lo'<=lo):Dl w lo' v m ra ln rc f :=
 ⟨h.sep,h.rows,fun i hi b o hF=>Nat.le_trans hl (h.inner i hi b o hF),fun a cap e b o hF=>Nat.le_trans hl (h.outer a cap e b o hF),h.len⟩
theorem Dl.set_low {w:World} {lo b:Nat} {v x:Value} {m:Nat} {ra:Nat->Option Addr} {ln rc:Nat->Nat} {f:Nat->Nat->Int} (h:Dl w (b+1) v m ra ln rc f) (hb:lo<=b):Dl (w.setCell ⟨b,0,none⟩ x) lo v m ra ln rc f :=
 by
 have W:Wrote (fun k _=>k=b) w (w.setCell ⟨b,0,none⟩ x):=Wrote.setCell (R:=fun k _=>k=b) (b:=b) (o:=0) (Wrote.refl _ w) (fun _=>rfl) x;exact (h.keep W (fun k o e=>by omega)).lower (by omega)
set_option linter.unusedVariables false
structure Es (c:Nat) (w w':World):Prop where
 wrote:Wrote (fun b _=>b=c) w w'
 size:w'.heap.size=w.heap.size
theorem Es.refl (c:Nat) (w:World):Es c w w:=⟨Wrote.refl _ _,rfl⟩
theorem Es.trans {c:Nat} {u v w:World} (h:Es c u v) (k:Es c v w):Es c u w:=⟨h.wrote.trans k.wrote,k.size.trans h.size⟩
theorem Es.drewN {c:Nat} {u w:World} (h:Es c u w) (n:Nat):Es c u (w.drewN n):=⟨h.wrote.drewN n,h.size⟩
theorem Es.drew {c:Nat} {u w:World} (h:Es c u w):Es c u w.drew:=⟨h.wrote.drew,h.size⟩
theorem Es.setCell {c:Nat} {u w:World} (h:Es c u w) {o:Nat} (x:Value):Es c u (w.setCell ⟨c,o,none⟩ x):=⟨h.wrote.setCell (fun _=>rfl) x,by simpa [World.setCell] using h.size⟩
theorem Es.only {c:Nat} {w w':World} (h:Es c w w'):Bd c w w':=⟨h.wrote.os,h.wrote.tape,h.wrote.output,h.size,fun k hk=>by
 rcases Nat.lt_or_ge k w.heap.size with l | l
 .exact h.wrote.block k l (fun _=>hk)
 .rw [Array.getElem?_eq_none l,Array.getElem?_eq_none (by rw [h.size]; exact l)]⟩
theorem Es.step {c:Nat} {w w':World} (h:Es c w w'):Step c w w':=h.only.step
set_option linter.unusedSimpArgs false
structure TB (w W:World) (lo z:Nat) (o1 o2:Option Nat) (u1 tv:Value) (t c s ad pl:Int) (bl:Bool) (n:Nat) (f:Nat->Int) (m:Nat) (g:Nat->Int) (k:Nat) (h:Nat->Int):Prop where
 ex:∃ o2' u2' o3,W.heap[z]?=some (.cells (pR t c s ad pl bl u1 u2') 33 (0,0))/\A8 W lo o1 u1 n f/\A8 W lo o2' u2' m g/\A8 W lo o3 tv k h/\Sl o1 o2'/\Sl o1 o3/\Sl o2' o3/\(∀ q,(o1=some q\/o2'=some q\/o3=some q)->q≠z)/\Wrote (fun b _=>b=z\/o2=some b) w W
theorem TB.up {w W:World} {lo z:Nat} {o1 o2:Option Nat} {u1 tv:Value} {t c s ad pl:Int} {bl:Bool} {n:Nat} {f:Nat->Int} {m:Nat} {g:Nat->Int} {k:Nat} {h:Nat->Int} (H:TB w W lo z o1 o2 u1 tv t c s ad pl bl n f m g k h) (t':Int) :
  TB w (W.setCell ⟨z,0,none⟩ (.i t')) lo z o1 o2 u1 tv t' c s ad pl bl n f m g k h:=by
 obtain ⟨o2',u2',o3,hb,r1,r2,r3,h1,h2,h3,hz,hw⟩:=H;have WS:Wrote (fun b _=>b=z) W (W.sc z 0 (.i t')):=Wrote.setCell (R:=fun b _=>b=z) (Wrote.refl _ W) (fun _=>rfl) _;exact ⟨o2',u2',o3,Am hb _,r1.keep WS (fun q e _ _ _ x=>hz q (Or.inl e) x),r2.keep WS (fun q e _ _ _ x=>hz q (Or.inr (Or.inl e)) x),r3.keep WS (fun q e _ _ _ x=>hz q (Or.inr (Or.inr e)) x),h1,h2,h3,hz,hw.setCell (fun _=>Or.inl rfl) _⟩
theorem TB.box {w W:World} {lo z:Nat} {o1 o2:Option Nat} {u1 tv:Value} {t c s ad pl:Int} {bl:Bool} {n:Nat} {f:Nat->Int} {m:Nat} {g:Nat->Int} {k:Nat} {h:Nat->Int} (H:TB w W lo z o1 o2 u1 tv t c s ad pl bl n f m g k h):∃ u2' a x,tv=.slice a k x/\W.heap[z]?=some (.cells (pR t c s ad pl bl u1 u2') 33 (0,0)):=by
 obtain ⟨o2',u2',o3,hb,r1,r2,r3,h1,h2,h3,hz,hw⟩:=H;obtain ⟨a,x,e⟩:=r3.form;exact ⟨u2',a,x,e,hb⟩
open Go.Proofs.Tryz
theorem B7.upTo {W:World} {lo N N':Nat} {D:Nat->Nat->Prop} {u0 u1 u2 u3 u4 u5 u6 u7:Value} {ob:Nat->Option Nat} {iv ov:Nat->Value} {o6 o7:Option Nat} {d:Aq} (H:B7 W lo N D u0 u1 u2 u3 u4 u5 u6 u7 ob iv ov o6 o7 d) (h:N<=N') (h':N'<=W.heap.size):B7 W lo N' D u0 u1 u2 u3 u4 u5 u6 u7 ob iv ov o6 o7 d :=
 ⟨H.h0,H.h1,H.h2,H.h3,H.h5,H.h5D,H.h6,H.h6D,H.h7,H.h7D,H.dis,fun i b hb=>⟨(H.bd i b hb).1,Nat.lt_of_lt_of_le (H.bd i b hb).2 h⟩,h',H.hps⟩
theorem Jcy (W:World) {o:Oper} {a:Act} {K:Act->World->Prop} {Q:Exit->Act->World->Prop} (s x:Operand) (hop:o.op=Op.call { callee:=Callee.builtin Builtin.append,args:=#[s,x],argTypes:=#[27,27] })
  (lo:Nat) (o7:Option Nat) (u:Value) (n:Nat) (f:Nat->Int) (hs:a.eval s=u) (R:A8 W lo o7 u n f) (hn:n<1048576) (hlo:lo<=W.heap.size) (q:Nat) (y:Int) (hx:a.eval x=.slice (some ⟨q,0,none⟩) 1 1) (hq:W.cell? ⟨q,0,none⟩=some (.i y))
  (h:∀ g' c' W',A8 W' lo (some g') (.slice (some ⟨g',0,none⟩) (n+1) c') (n+1) (snoc f n y)->Wrote (fun b _=>o7=some b) W W'->(o7=some g'\/W.heap.size<=g')->K (a.put o.dst (.slice (some ⟨g',0,none⟩) (n+1) c')) W'):o.wp prog a W K Q:=by
 cases o7 with
 | some g =>
  obtain ⟨c,rfl,r⟩:=R;exact Vk W s x hop lo g n c f hs r hn q y hx hq (fun g' c' W' r1 r2 r3=>h g' c' W' ⟨c',rfl,r1⟩ (r2.mono (fun b o _ e=>by rw [e.1])) (by rcases r3 with ⟨e,-⟩ | e; (left; rw [e]); (right; exact e)))
 | none =>
  obtain ⟨rfl,rfl⟩:=R;obtain ⟨i0,hi,hz0,hz1,hz2⟩:=info_parts Gp
  have hnews:∀ j u,[Value.i y][j]?=some u->W.cell? ((⟨q,0,none⟩:Addr).add j)=some u:=fun j u hh=>by
   cases j with
   | zero=>simp at hh; rw [<- hh]; exact hq
   | succ j=>simp at hh
  have own:W.ownsRow lo 3 1 (.slice none 0 0) 0 []:=⟨rfl,Or.inl ⟨rfl,rfl⟩⟩
  obtain ⟨g',c',W',hrun,r1,r2,r3,r4⟩:=run_append_lies (P:=prog) (w:=W) 27 o.type lo 3 i0 (.i 0) 1 8 underlying27 hi hz0 hz1 hz2 rfl (by decide) (.slice none 0 0) 0 [] own ⟨q,0,none⟩ 1 1 [.i y] rfl hnews (fun u hu=>by simp at hu; rw [hu]; rfl) (by omega) (by unfold maxLen; omega) (by omega) hlo W.heap.size rfl;have L:Below W.heap.size W W':=(Below.refl _ _).grown r2 (Nat.le_refl _) (fun _ e=>by cases e)
  have e1:rowVals 1 (snoc f 0 y)=[.i y]:=by simp [rowVals,snoc]
  unfold Oper.wp
  simp [execOp,hop,resolve,invoke,builtin,hs,hx,hrun,Result.andThen]
  exact h g' c' W' ⟨c',rfl,by rw [Nat.zero_add,e1]; exact r1,by omega⟩ (Aa L _) (Or.inr (by rcases r3 with r3 | r3; cases r3; omega))
theorem Sz (W:World) {ops:Array Oper} {rest:List Oper} {o:Oper} {a:Act} {Q:Exit->Act->World->Prop} (hg:o.guard=none) (s x:Operand) (hop:o.op=Op.call { callee:=Callee.builtin Builtin.append,args:=#[s,x],argTypes:=#[27,27] })
  (lo:Nat) (o7:Option Nat) (u:Value) (n:Nat) (f:Nat->Int) (hs:a.eval s=u) (R:A8 W lo o7 u n f) (hn:n<1048576) (hlo:lo<=W.heap.size) (q:Nat) (y:Int) (hx:a.eval x=.slice (some ⟨q,0,none⟩) 1 1) (hq:W.cell? ⟨q,0,none⟩=some (.i y))
  (h:∀ g' c' W',A8 W' lo (some g') (.slice (some ⟨g',0,none⟩) (n+1) c') (n+1) (snoc f n y)->Wrote (fun b _=>o7=some b) W W'->(o7=some g'\/W.heap.size<=g')->wpList prog ops Q rest (a.put o.dst (.slice (some ⟨g',0,none⟩) (n+1) c')) W'):wpList prog ops Q (o :: rest) a W :=
 wpList_plain hg fun K hK=>Jcy W s x hop lo o7 u n f hs R hn hlo q y hx hq (fun g c W' r1 r2 r3=>hK _ _ (h g c W' r1 r2 r3))
theorem Kl {w w':World} {base size n:Nat} {e:TypeId} {v:Value} {xs:List Value} (h:w.ownsRow base e size v n xs) (hb:∀ k,v.ownBlock=some k->w'.heap[k]?=w.heap[k]?):w'.ownsRow base e size v n xs:=by
 obtain ⟨h1,h2⟩:=h;refine ⟨h1,?_⟩
 rcases h2 with h | ⟨g,cap,cur,rfl,hbg,hg,r⟩
 .exact .inl h
 .exact .inr ⟨g,cap,cur,rfl,hbg,(hb g rfl).trans hg,r⟩
structure Gr (w:World) (lo q:Nat) (gb:Nat->Nat) (F:Nat->Nat->Int):Prop where
 rows:∀ i,i<q->Cg .i64 w (some ⟨gb i,0,none⟩) 256 (F i)
 free:∀ i,i<q->∀ o,w.frozen? ⟨gb i,o,none⟩=false
 low:∀ i,i<q->lo<=gb i/\gb i<w.heap.size
 inj:∀ i j,i<q->j<q->i≠j->gb i≠gb j
theorem Gr.keep {w w':World} {lo q:Nat} {gb:Nat->Nat} {F:Nat->Nat->Int} (h:Gr w lo q gb F) (hs:w.heap.size<=w'.heap.size) (hb:∀ i,i<q->w'.heap[gb i]?=w.heap[gb i]?):Gr w' lo q gb F :=
 ⟨fun i hi j hj=>by
  obtain ⟨b,off,e,hc⟩:=h.rows i hi j hj;simp only [Option.some.injEq,Addr.mk.injEq,and_true] at e;obtain ⟨rfl,rfl⟩:=e
  exact ⟨_,_,rfl,(World.cell?_of_block (a:=⟨gb i,0+j,none⟩) (hb i hi)).trans hc⟩,fun i hi o=>(World.frozen?_of_block (a:=⟨gb i,o,none⟩) (hb i hi)).trans (h.free i hi o),fun i hi=>⟨(h.low i hi).1,Nat.lt_of_lt_of_le (h.low i hi).2 hs⟩,h.inj⟩
theorem Gr.snoc {w:World} {lo q g:Nat} {gb:Nat->Nat} {F:Nat->Nat->Int} (h:Gr w lo q gb F) (hr:Cg .i64 w (some ⟨g,0,none⟩) 256 (F q)) (hf:∀ o,w.frozen? ⟨g,o,none⟩=false) (hl:lo<=g) (hg:g<w.heap.size) (hn:∀ i,i<q->gb i≠g):Gr w lo (q+1) (fun i=>if i=q then g else gb i) F:=by
 refine ⟨fun i hi=>?_,fun i hi o=>?_,fun i hi=>?_,fun i j hi hj hij=>?_⟩
 .by_cases e:i=q
  .subst e; simpa using hr
  .simpa [e] using h.rows i (by omega)
 .by_cases e:i=q
  .subst e; simpa using hf o
  .simpa [e] using h.free i (by omega) o
 .by_cases e:i=q
  .subst e; simpa using ⟨hl,hg⟩
  .simpa [e] using h.low i (by omega)
 .by_cases e:i=q
  .subst e
   have hne:¬ j=i:=fun x=>hij x.symm
   simpa [hne] using fun x=>hn j (by omega) x.symm
  .by_cases e2:j=q
   .subst e2
    simpa [e] using hn i (by omega)
   .simpa [e,e2] using h.inj i j (by omega) (by omega) hij
def Pu (q:Nat) (gb cp:Nat->Nat):List Value:=(List.range q).map fun i=>.slice (some ⟨gb i,0,none⟩) 256 (cp i)
theorem Jbt {q:Nat} {gb cp:Nat->Nat} {i:Nat} (h:i<q):(Pu q gb cp)[i]?=some (.slice (some ⟨gb i,0,none⟩) 256 (cp i)):=by simp [Pu,h]
theorem Zl (q g c:Nat) (gb cp:Nat->Nat):Pu (q+1) (fun i=>if i=q then g else gb i) (fun i=>if i=q then c else cp i)=Pu q gb cp++[.slice (some ⟨g,0,none⟩) 256 c]:=by
 unfold Pu;rw [List.range_succ,List.map_append]
 congr 1
 .apply List.map_congr_left
  intro i hi;have:i<q:=List.mem_range.1 hi
  simp [show ¬ i=q by omega]
 .simp
theorem Zm {w:World} {base lo q go co:Nat} {t:TypeId} {gb cp:Nat->Nat} {F:Nat->Nat->Int} (h:Gr w lo q gb F) (ho:w.ownsRow base t 1 (.slice (some ⟨go,0,none⟩) q co) q (Pu q gb cp)) (hlo:lo<=go) (hn:∀ i,i<q->gb i≠go) (hq:q<=8) :
  Dl w lo (.slice (some ⟨go,0,none⟩) q co) q (fun i=>some ⟨gb i,0,none⟩) (fun _=>256) cp F:=by
 have hF:∀ i b o,Cz (some ⟨gb i,0,none⟩) 256 b o->b=gb i:=fun i b o hF=>by
  obtain ⟨off,e,_⟩:=hF;simp only [Option.some.injEq,Addr.mk.injEq,and_true] at e;exact e.1.symm
 refine ⟨⟨⟨_,_,rfl,by omega,fun i hi'=>⟨go,0,rfl,?_,fun j hj hf=>?_⟩⟩,fun i hi' b o hf=>?_,fun i j hi' hj hij b o h1 h2=>?_,by rw [Jbs]; omega⟩,fun i hi'=>h.rows i hi',fun i hi' b o hf=>?_,fun a cap e b o hf=>?_,fun i hi'=>by omega⟩
 .rw [Nat.zero_add,ho.cellAt i (by omega),Jbt hi']
 .have:=hF j _ _ hf
  exact hn j hj this.symm
 .have e:=hF i _ _ hf
  subst e;exact ⟨(h.low i hi').2,h.free i hi' o⟩
 .have:=hF i _ _ h1
  have:=hF j _ _ h2;exact h.inj i j hi' hj hij (by omega)
 .have:=hF i _ _ hf
  have:=(h.low i hi').1
  omega
 .cases e
  obtain ⟨off,e,_⟩:=hf;simp only [Option.some.injEq,Addr.mk.injEq,and_true] at e
  omega
set_option linter.unusedVariables false
section
variable {P:Program} {ops:Array Oper} {Q:Exit->Act->World->Prop}
def Jfc (ops:Array Oper) (D:List (Nat × Nat)) (i j:Nat):Bool:=D.all fun p=>p.1 != j || p.2==i || By ops 6 p.2 i
theorem Jey {D:List (Nat × Nat)} {i j k:Nat} (h:Jfc ops D k i=true) (hm:(i,j)∈D):j=k\/By ops 6 j k=true:=by
 have h1:=List.all_eq_true.1 h (i,j) hm;simp only [bne_self_eq_false,Bool.false_or,Bool.or_eq_true,beq_iff_eq] at h1;exact h1
theorem Cd {id:Nat} {a:Act} {w:World} (ds:List (Option Nat)) (hm:P.follows .mixedOrders=true) (hb:Mx ops=true) (hg:N4 ops=true) (hd:Kw ops ds=true) (hsz:∀ d,d∈slotsOf ds->d<a.tmps.size) (D:List (Nat × Nat))
  (R:Nat->Nat->Nat->Prop) (φ:Nat->(Nat->Value)->World->Prop)
  (hstab:∀ i j o V x W W',i≠j->ops[i]?=some o->A0 o j=false/\(i,j) ∉ D->Wrote (R j) W W'->φ i V W->φ i (Dg V j x) W')
  (hstep:∀ i o a' W K,ops[i]?=some o->Fr (slotsOf ds) a a'->Wrote (fun b o'=>∃ j oj,j≠i/\ops[j]?=some oj/\By ops 6 j i=false/\R j b o') w W->(∀ j,A0 o j=true->Jfc ops D i j=true->φ j (Bi ds a') W)->(∀ v W',Wrote (R i) W W'->φ i (Dg (Bi ds a') i (if o.dst=none then undef else v)) W'->K (a'.put o.dst v) W')->o.wp P a' W K Q)
  (hend:∀ a' W,Fr (slotsOf ds) a a'->Wrote (fun b o=>∃ j,R j b o) w W->(∀ i,i<ops.size->(∀ j,(i,j) ∉ D)->φ i (Bi ds a') W)->Q .normal a' W):(Code.region id ops true).wp P Q a w:=by
 unfold Kw at hd;simp only [Bool.and_eq_true,decide_eq_true_eq] at hd;obtain ⟨⟨hlen,hd1⟩,hd2⟩:=hd
 have hgo:∀ (i:Nat) (o:Oper),ops[i]?=some o->o.guard=none:=fun i o ho=>by
  have h1:=(Array.all_eq_true_iff_forall_mem.1 hg) o (Array.mem_of_getElem? ho)
  simpa using h1
 have hlt:∀ (i:Nat) (o:Oper),ops[i]?=some o->i<ops.size:=fun i o ho=>by
  rcases Nat.lt_or_ge i ops.size with h | h
  .exact h
  .rw [Array.getElem?_eq_none h] at ho; cases ho
 have hdst:∀ (i:Nat) (o:Oper),ops[i]?=some o->ds[i]?=some o.dst:=fun i o ho=>by
  have h1:=List.all_eq_true.1 hd1 i (List.mem_range.2 (by rw [hlen]; exact hlt i o ho));rw [ho] at h1;simp only [Option.map_some,Option.getD_some,beq_iff_eq] at h1;exact h1.symm
 have hne:∀ i j d,i≠j->ds[i]?=some (some d)->ds[j]?≠some (some d):=fun i j d h hi hj=>by
  have li:i<ds.length:=by rcases Nat.lt_or_ge i ds.length with x | x; exact x; (rw [List.getElem?_eq_none x] at hi; cases hi)
  have lj:j<ds.length:=by rcases Nat.lt_or_ge j ds.length with x | x; exact x; (rw [List.getElem?_eq_none x] at hj; cases hj)
  have h1:=List.all_eq_true.1 (List.all_eq_true.1 hd2 i (List.mem_range.2 li)) j (List.mem_range.2 lj);rw [hi,hj] at h1
  simp at h1
  exact h h1
 refine E6 hm hb (fun _ l a' W=>Fr (slotsOf ds) a a'/\Wrote (fun b o=>∃ j,l[j]?=some true/\R j b o) w W/\(∀ (k:Nat) (o:Oper),l[k]?=some true->ops[k]?=some o->∀ j:Nat,A0 o j=true->l[j]?=some true)/\∀ i:Nat,l[i]?=some true->(∀ j:Nat,l[j]?=some true->(i,j) ∉ D)->φ i (Bi ds a') W) ?_ ?_ ?_
 .have hno:∀ i:Nat,(Array.replicate ops.size false)[i]?≠some true:=fun i h=>by
   rcases Nat.lt_or_ge i ops.size with x | x
   .simp [x] at h
   .rw [Array.getElem?_eq_none (by simpa using x)] at h; cases h
  exact ⟨⟨rfl,rfl,fun _ _=>rfl⟩,⟨rfl,rfl,rfl,Nat.le_refl _,fun _ _ _=>rfl,fun _ _ _ _=>rfl,fun _ _ _=>rfl⟩,fun k _ h=>absurd h (hno k),fun i h=>absurd h (hno i)⟩
 .rintro l a' W i o K hl ⟨F,L,hcl,hφ⟩ ho hf ha hK
  have hi:=hlt i o ho;have hdi:=hdst i o ho
  have hdone:∀ j,l[j]?=some true->∀ b o,R j b o->∃ j oj,j≠i/\ops[j]?=some oj/\By ops 6 j i=false/\R j b o:=fun j h1 b o h2=>by
   have hjl:j<ops.size:=by
    rcases Nat.lt_or_ge j ops.size with x | x
    .exact x
    .rw [Array.getElem?_eq_none (by omega)] at h1; cases h1
   have hjo:ops[j]?=some ops[j]:=Array.getElem?_eq_getElem hjl;refine ⟨j,ops[j],(fun e=>by rw [e,hf] at h1; cases h1),hjo,?_,h2⟩;cases hw:By ops 6 j i
   .rfl
   .have:=Fg hcl 6 j i h1 hw
    rw [hf] at this; cases this
  refine Ii ho (hgo i o ho) (hstep i o a' W K ho F (L.mono (fun b o _ ⟨j,h1,h2⟩=>hdone j h1 b o h2)) (fun j hj hv=>hφ j (Cw ha hj) (fun j' hj' hm=>?_)) (fun v W' hW hv=>hK _ _ ?_))
  .rcases Jey hv hm with e | e
   .rw [e,hf] at hj'; cases hj'
   .have:=Fg hcl 6 j' i hj' e
    rw [hf] at this; cases this
  have hset:(l.setIfInBounds i true)[i]?=some true:=by simp [hl,hi]
  have hval:Bi ds (a'.put o.dst v)=Dg (Bi ds a') i (if o.dst=none then undef else v):=by
   funext k
   by_cases e:k=i
   .subst e
    rw [Ai]
    cases e:o.dst with
    | none =>
     rw [e] at hdi;unfold Bi;rw [hdi]
     simp
    | some d =>
     rw [e] at hdi;have hmem:d∈slotsOf ds:=List.mem_filterMap.2 ⟨some d,List.mem_of_getElem? hdi,rfl⟩;unfold Bi;rw [hdi]
     simpa using Fa (by rw [F.size]; exact hsz d hmem)
   .rw [Ar _ _ e]
    cases e2:o.dst with
    | none=>rfl
    | some d =>
     rw [e2] at hdi;unfold Bi
     cases e3:ds[k]? with
     | none=>rfl
     | some x =>
      cases x with
      | none=>rfl
      | some d' =>
       have:d≠d':=fun x=>hne k i d' e e3 (by rw [hdi,x])
       exact Eq this
  refine ⟨?_,(L.mono (fun b o _ ⟨j,h1,h2⟩=>⟨j,by rw [Array.getElem?_setIfInBounds_ne (fun e=>by rw [<- e,hf] at h1; cases h1)]; exact h1,h2⟩)).trans (hW.mono (fun b o _ h=>⟨i,hset,h⟩)),fun k o' hk hko j hj=>?_,fun k hk hkd=>?_⟩
  .cases e:o.dst with
   | none=>exact F
   | some d =>
    rw [e] at hdi;exact F.put (List.mem_filterMap.2 ⟨some d,List.mem_of_getElem? hdi,rfl⟩) v
  .have h1:l[j]?=some true:=by
    by_cases e:k=i
    .subst e
     rw [ho] at hko;obtain rfl:=Option.some.inj hko;exact Cw ha hj
    .rw [Array.getElem?_setIfInBounds_ne (by omega)] at hk
     exact hcl k o' hk hko j hj
   by_cases e:j=i
   .rw [e]; exact hset
   .rw [Array.getElem?_setIfInBounds_ne (by omega)]; exact h1
  .rw [hval]
   by_cases e:k=i
   .subst e
    exact hv
   .rw [Array.getElem?_setIfInBounds_ne (by omega)] at hk
    have hkl:k<ops.size:=by
     rcases Nat.lt_or_ge k ops.size with x | x
     .exact x
     .rw [Array.getElem?_eq_none (by omega)] at hk; cases hk
    have hko:ops[k]?=some ops[k]:=Array.getElem?_eq_getElem hkl
    have hnw:A0 ops[k] i=false:=by
     cases hw:A0 ops[k] i
     .rfl
     .have:=hcl k _ hk hko i hw
      rw [hf] at this; cases this
    exact hstab k i _ _ _ W W' e hko ⟨hnw,hkd i hset⟩ hW (hφ k hk (fun j hj=>hkd j (by
     by_cases e:j=i
     .rw [e]; exact hset
     .rw [Array.getElem?_setIfInBounds_ne (by omega)]; exact hj)))
 .rintro l a' W hall ⟨F,L,-,hφ⟩
  exact hend a' W F (L.mono (fun b o _ ⟨j,_,h2⟩=>⟨j,h2⟩)) (fun i hi hd=>hφ i (hall i hi) (fun j _=>hd j))
end
open Go.Proofs.Tryz
set_option linter.unusedSimpArgs false
def spare (u:Value) (b o:Nat):Prop:=∃ n c,u=.slice (some ⟨b,0,none⟩) n c/\n<=o
theorem Ja7 (W:World) {o:Oper} {a:Act} {K:Act->World->Prop} {Q:Exit->Act->World->Prop} (s x:Operand) (hop:o.op=Op.call { callee:=Callee.builtin Builtin.append,args:=#[s,x],argTypes:=#[27,27] })
  (lo g n c:Nat) (f:Nat->Int) (hs:a.eval s=.slice (some ⟨g,0,none⟩) n c) (R:Row W lo g n c f) (hn:n<1048576) (q:Nat) (y:Int) (hx:a.eval x=.slice (some ⟨q,0,none⟩) 1 1) (hq:W.cell? ⟨q,0,none⟩=some (.i y))
  (h:∀ g' c' W',Row W' lo g' (n+1) c' (snoc f n y)->Wrote (spare (.slice (some ⟨g,0,none⟩) n c)) W W'->((g'=g/\n+1<=c)\/W.heap.size<=g')->K (a.put o.dst (.slice (some ⟨g',0,none⟩) (n+1) c')) W'):o.wp prog a W K Q:=by
 obtain ⟨i0,hi,hz0,hz1,hz2⟩:=info_parts Gp;have hp:=R.parts
 have hnews:∀ j u,[Value.i y][j]?=some u->W.cell? ((⟨q,0,none⟩:Addr).add j)=some u:=fun j u hh=>by
  cases j with
  | zero=>simp at hh; rw [<- hh]; exact hq
  | succ j=>simp at hh
 by_cases hr:n+1<=c
 .have hsp:(W.cell? ⟨g,n,none⟩).isSome=true/\W.frozen? ⟨g,n,none⟩=false:=by
   rcases R.own.2 with ⟨e,_⟩ | ⟨g',cap,cur,hv,hb,hg,h1,h2,h3,h4⟩
   .cases e
   .simp only [Value.slice.injEq,Option.some.injEq,Addr.mk.injEq,and_true,true_and] at hv
    obtain ⟨rfl,rfl⟩:=hv;refine ⟨?_,Au hg n⟩;rw [Af hg n,Array.getElem?_eq_getElem (by omega)]
    rfl
  have hrun:=run_append_room_cells (P:=prog) W 27 o.type 3 i0 underlying27 hi g 0 n c ⟨q,0,none⟩ 1 1 [.i y] (by rw [hz1]; rfl) hnews (fun u hu=>by simp at hu; rw [hu]; rfl) hr
   (fun j hj=>by have:j=0:=(by simpa using hj); subst this; rw [hz1]; simpa using hsp.1) (fun j hj=>by have:j=0:=(by simpa using hj); subst this; rw [hz1]; simpa using hsp.2)
  rw [hz1] at hrun;unfold Oper.wp
  simp [execOp,hop,resolve,invoke,builtin,hs,hx,hrun,Result.andThen,World.setCells]
  exact h g c _ (R.more hr hn y) (Wrote.setCell (R:=spare (.sl g 0 n c)) (Wrote.refl _ W) (fun _=>⟨n,c,rfl,Nat.le_refl _⟩) _) (Or.inl ⟨rfl,hr⟩)
 .obtain ⟨v',w',hrun,r1,r2⟩:=run_append_arg_grows (P:=prog) W 27 o.type 3 i0 (.i 0) 1 8 underlying27 hi hz0 hz1 hz2 rfl (by decide) ⟨g,0,none⟩ n c (rowVals n f) (by rw [A6,Nat.mul_one]) (Dd R.sl.row) ⟨q,0,none⟩ 1 1 [.i y] rfl hnews (by omega) (by unfold maxLen; omega) (by omega)
  rw [Fw] at r1;obtain ⟨g',cap2,rfl,hg,hlt⟩:=r1.form (by omega);have L:Below W.heap.size W w':=(Below.refl _ _).grown r2 (Nat.le_refl _) (fun _ e=>by cases e);unfold Oper.wp
  simp [execOp,hop,resolve,invoke,builtin,hs,hx,hrun,Result.andThen]
  exact h g' cap2 w' ((Row.mk r1 (by omega)).mono (by omega)) (Aa L _) (Or.inr hg)
theorem Vy (W:World) {o:Oper} {a:Act} {K:Act->World->Prop} {Q:Exit->Act->World->Prop} (s x:Operand) (hop:o.op=Op.call { callee:=Callee.builtin Builtin.append,args:=#[s,x],argTypes:=#[27,27] })
  (lo:Nat) (o7:Option Nat) (u:Value) (n:Nat) (f:Nat->Int) (hs:a.eval s=u) (R:A8 W lo o7 u n f) (hn:n<1048576) (hlo:lo<=W.heap.size) (q:Nat) (y:Int) (hx:a.eval x=.slice (some ⟨q,0,none⟩) 1 1) (hq:W.cell? ⟨q,0,none⟩=some (.i y))
  (h:∀ g' c' W',A8 W' lo (some g') (.slice (some ⟨g',0,none⟩) (n+1) c') (n+1) (snoc f n y)->Wrote (spare u) W W'->(o7=some g'\/W.heap.size<=g')->K (a.put o.dst (.slice (some ⟨g',0,none⟩) (n+1) c')) W'):o.wp prog a W K Q:=by
 cases o7 with
 | some g =>
  obtain ⟨c,rfl,r⟩:=R;exact Ja7 W s x hop lo g n c f hs r hn q y hx hq (fun g' c' W' r1 r2 r3=>h g' c' W' ⟨c',rfl,r1⟩ r2 (by rcases r3 with ⟨e,-⟩ | e; (left; rw [e]); (right; exact e)))
 | none =>
  obtain ⟨rfl,rfl⟩:=R;obtain ⟨i0,hi,hz0,hz1,hz2⟩:=info_parts Gp
  have hnews:∀ j u,[Value.i y][j]?=some u->W.cell? ((⟨q,0,none⟩:Addr).add j)=some u:=fun j u hh=>by
   cases j with
   | zero=>simp at hh; rw [<- hh]; exact hq
   | succ j=>simp at hh
  have own:W.ownsRow lo 3 1 (.slice none 0 0) 0 []:=⟨rfl,Or.inl ⟨rfl,rfl⟩⟩
  obtain ⟨g',c',W',hrun,r1,r2,r3,r4⟩:=run_append_lies (P:=prog) (w:=W) 27 o.type lo 3 i0 (.i 0) 1 8 underlying27 hi hz0 hz1 hz2 rfl (by decide) (.slice none 0 0) 0 [] own ⟨q,0,none⟩ 1 1 [.i y] rfl hnews (fun u hu=>by simp at hu; rw [hu]; rfl) (by omega) (by unfold maxLen; omega) (by omega) hlo W.heap.size rfl;have L:Below W.heap.size W W':=(Below.refl _ _).grown r2 (Nat.le_refl _) (fun _ e=>by cases e)
  have e1:rowVals 1 (snoc f 0 y)=[.i y]:=by simp [rowVals,snoc]
  unfold Oper.wp
  simp [execOp,hop,resolve,invoke,builtin,hs,hx,hrun,Result.andThen]
  exact h g' c' W' ⟨c',rfl,by rw [Nat.zero_add,e1]; exact r1,by omega⟩ (Aa L _) (Or.inr (by rcases r3 with r3 | r3; cases r3; omega))
theorem Lt (W:World) {ops:Array Oper} {rest:List Oper} {o:Oper} {a:Act} {Q:Exit->Act->World->Prop} (hg:o.guard=none) (s x:Operand) (hop:o.op=Op.call { callee:=Callee.builtin Builtin.append,args:=#[s,x],argTypes:=#[27,27] })
  (lo:Nat) (o7:Option Nat) (u:Value) (n:Nat) (f:Nat->Int) (hs:a.eval s=u) (R:A8 W lo o7 u n f) (hn:n<1048576) (hlo:lo<=W.heap.size) (q:Nat) (y:Int) (hx:a.eval x=.slice (some ⟨q,0,none⟩) 1 1) (hq:W.cell? ⟨q,0,none⟩=some (.i y))
  (h:∀ g' c' W',A8 W' lo (some g') (.slice (some ⟨g',0,none⟩) (n+1) c') (n+1) (snoc f n y)->Wrote (spare u) W W'->(o7=some g'\/W.heap.size<=g')->wpList prog ops Q rest (a.put o.dst (.slice (some ⟨g',0,none⟩) (n+1) c')) W'):wpList prog ops Q (o :: rest) a W :=
 wpList_plain hg fun K hK=>Vy W s x hop lo o7 u n f hs R hn hlo q y hx hq (fun g c W' r1 r2 r3=>hK _ _ (h g c W' r1 r2 r3))
theorem Ja8 (W:World) {o:Oper} {a:Act} {K:Act->World->Prop} {Q:Exit->Act->World->Prop} (s x:Operand) (hop:o.op=Op.call { callee:=Callee.builtin Builtin.append,args:=#[s,x],argTypes:=#[24,24] })
  (lo:Nat) (ov:Value) (n:Nat) (vs:List Value) (hs:a.eval s=ov) (own:W.ownsRow lo 27 1 ov n vs) (hn:n<1048576) (hlo:lo<=W.heap.size) (q:Nat) (y:Value) (hy:y.oneCell'=true) (hx:a.eval x=.slice (some ⟨q,0,none⟩) 1 1) (hq:W.cell? ⟨q,0,none⟩=some y)
  (h:∀ g' c' W',W'.ownsRow lo 27 1 (.slice (some ⟨g',0,none⟩) (n+1) c') (n+1) (vs++[y])->Wrote (spare ov) W W'->(ov.ownBlock=some g'\/W.heap.size<=g')->K (a.put o.dst (.slice (some ⟨g',0,none⟩) (n+1) c')) W'):o.wp prog a W K Q:=by
 obtain ⟨i0,hi,hz0,hz1,hz2⟩:=info_parts Kk
 have hl:vs.length=n:=by have:=own.1; omega
 have hnews:∀ j u,[y][j]?=some u->W.cell? ((⟨q,0,none⟩:Addr).add j)=some u:=fun j u hh=>by
  cases j with
  | zero=>simp at hh; rw [<- hh]; exact hq
  | succ j=>simp at hh
 have h1:∀ u∈[y],u.oneCell'=true:=fun u hu=>by simp at hu; rw [hu]; exact hy
 rcases id own.2 with ⟨e,e0⟩ | ⟨g,c,cur,hv,hb,hg,k1,k2,k3,k4⟩
 .obtain ⟨g',c',W',hrun,r1,r2,r3,r4⟩:=run_append_lies (P:=prog) (w:=W) 24 o.type lo 27 i0 (.slice none 0 0) 1 24 underlying24 hi hz0 hz1 hz2 rfl (by decide) ov n vs own ⟨q,0,none⟩ 1 1 [y] rfl hnews h1 (by omega) (by unfold maxLen; omega) (by omega) hlo W.heap.size rfl
  have hb:ov.ownBlock=none:=by rw [e]; rfl
  rw [hb] at r2 r3;have L:Below W.heap.size W W':=(Below.refl _ _).grown r2 (Nat.le_refl _) (fun _ e=>by cases e);unfold Oper.wp
  simp [execOp,hop,resolve,invoke,builtin,hs,hx,hrun,Result.andThen]
  exact h g' c' W' r1 (Aa L _) (Or.inr (by rcases r3 with r3 | r3; cases r3; omega))
 .subst hv
  have hob:(Value.sl g 0 n c).ownBlock=some g:=rfl;have hgl:=Ad hg
  by_cases hr:n+1<=c
  .have hsp:(W.cell? ⟨g,n,none⟩).isSome=true/\W.frozen? ⟨g,n,none⟩=false:=by
    refine ⟨?_,Au hg n⟩;rw [Af hg n,Array.getElem?_eq_getElem (by omega)]
    rfl
   have hrun:=run_append_room_cells (P:=prog) W 24 o.type 27 i0 underlying24 hi g 0 n c ⟨q,0,none⟩ 1 1 [y] (by rw [hz1]; rfl) hnews h1 hr
    (fun j hj=>by have:j=0:=(by simpa using hj); subst this; rw [hz1]; simpa using hsp.1) (fun j hj=>by have:j=0:=(by simpa using hj); subst this; rw [hz1]; simpa using hsp.2)
   rw [hz1] at hrun;unfold Oper.wp
   simp [execOp,hop,resolve,invoke,builtin,hs,hx,hrun,Result.andThen,World.setCells]
   exact h g c _ (Vb own hr y) (Wrote.setCell (R:=spare (.sl g 0 n c)) (Wrote.refl _ W) (fun _=>⟨n,c,rfl,Nat.le_refl _⟩) _) (Or.inl hob)
  .obtain ⟨v',w',hrun,r1,r2⟩:=run_append_arg_grows (P:=prog) W 24 o.type 27 i0 (.slice none 0 0) 1 24 underlying24 hi hz0 hz1 hz2 rfl (by decide) ⟨g,0,none⟩ n c vs (by rw [hl,Nat.mul_one]) (Ia own) ⟨q,0,none⟩ 1 1 [y] rfl hnews (by omega) (by unfold maxLen; omega) (by omega)
   obtain ⟨g',cap2,rfl,hg',hlt⟩:=r1.form (by omega);have L:Below W.heap.size W w':=(Below.refl _ _).grown r2 (Nat.le_refl _) (fun _ e=>by cases e);unfold Oper.wp
   simp [execOp,hop,resolve,invoke,builtin,hs,hx,hrun,Result.andThen]
   exact h g' cap2 w' (Og r1 hlo) (Aa L _) (Or.inr hg')
theorem Qh (W:World) {ops:Array Oper} {rest:List Oper} {o:Oper} {a:Act} {Q:Exit->Act->World->Prop} (hg:o.guard=none) (s x:Operand) (hop:o.op=Op.call { callee:=Callee.builtin Builtin.append,args:=#[s,x],argTypes:=#[24,24] })
  (lo:Nat) (ov:Value) (n:Nat) (vs:List Value) (hs:a.eval s=ov) (own:W.ownsRow lo 27 1 ov n vs) (hn:n<1048576) (hlo:lo<=W.heap.size) (q:Nat) (y:Value) (hy:y.oneCell'=true) (hx:a.eval x=.slice (some ⟨q,0,none⟩) 1 1) (hq:W.cell? ⟨q,0,none⟩=some y)
  (h:∀ g' c' W',W'.ownsRow lo 27 1 (.slice (some ⟨g',0,none⟩) (n+1) c') (n+1) (vs++[y])->Wrote (spare ov) W W'->(ov.ownBlock=some g'\/W.heap.size<=g')->wpList prog ops Q rest (a.put o.dst (.slice (some ⟨g',0,none⟩) (n+1) c')) W'):wpList prog ops Q (o :: rest) a W :=
 wpList_plain hg fun K hK=>Ja8 W s x hop lo ov n vs hs own hn hlo q y hy hx hq (fun g c W' r1 r2 r3=>hK _ _ (h g c W' r1 r2 r3))
def RL (z:Nat) (u4 u5 u6 u7:Value) (b o:Nat):Prop:=b=z\/spare u4 b o\/spare u5 b o\/spare u6 b o\/spare u7 b o
structure Goes (w W:World) (z:Nat) (a4 a5 a6 a7 b4 b5 b6 b7:Value):Prop where
 wr:Wrote (RL z a4 a5 a6 a7) w W
 sp:∀ b o,b<w.heap.size->RL z b4 b5 b6 b7 b o->RL z a4 a5 a6 a7 b o
section
variable {w V W:World} {z:Nat} {a4 a5 a6 a7 b4 b5 b6 b7 c4 c5 c6 c7:Value}
theorem Goes.refl (w:World) (z:Nat) (a4 a5 a6 a7:Value):Goes w w z a4 a5 a6 a7 a4 a5 a6 a7:=⟨Wrote.refl _ _,fun _ _ _ h=>h⟩
theorem Goes.trans (h:Goes w V z a4 a5 a6 a7 b4 b5 b6 b7) (k:Goes V W z b4 b5 b6 b7 c4 c5 c6 c7):Goes w W z a4 a5 a6 a7 c4 c5 c6 c7:=by
 have hs:=h.wr.size;refine ⟨⟨k.wr.os.trans h.wr.os,k.wr.tape.trans h.wr.tape,k.wr.output.trans h.wr.output,Nat.le_trans hs k.wr.size,fun b hb hr=>?_,fun b o hb hr=>?_,fun b o hb=>?_⟩,fun b o hb hc=>h.sp b o hb (k.sp b o (by omega) hc)⟩
 .exact (k.wr.block b (by omega) (fun o e=>hr o (h.sp b o hb e))).trans (h.wr.block b hb hr)
 .exact (k.wr.cell b o (by omega) (fun e=>hr (h.sp b o hb e))).trans (h.wr.cell b o hb hr)
 .exact (k.wr.frozen b o (by omega)).trans (h.wr.frozen b o hb)
theorem Goes.below (L:Below w.heap.size w W) (z:Nat) (a4 a5 a6 a7:Value):Goes w W z a4 a5 a6 a7 a4 a5 a6 a7:=⟨Aa L _,fun _ _ _ h=>h⟩
theorem Goes.box (h:Wrote (fun b _=>b=z) w W) (a4 a5 a6 a7:Value):Goes w W z a4 a5 a6 a7 a4 a5 a6 a7:=⟨h.mono (fun _ _ _ e=>Or.inl e),fun _ _ _ h=>h⟩
end
theorem Kf {W:World} {lo N:Nat} {o7:Option Nat} {u:Value} {n g' c':Nat} {f:Nat->Int} (R:A8 W lo o7 u n f) (hat:o7=some g'\/N<=g') {b o:Nat} (hb:b<N) (h:spare (.slice (some ⟨g',0,none⟩) (n+1) c') b o):spare u b o:=by
 obtain ⟨n1,c1,e,ho⟩:=h;simp only [Value.slice.injEq,Option.some.injEq,Addr.mk.injEq,and_true] at e;obtain ⟨rfl,rfl,rfl⟩:=e
 rcases hat with rfl | h
 .obtain ⟨y,rfl,-⟩:=R
  exact ⟨n,y,rfl,by omega⟩
 .omega
theorem Ja9 {W:World} {lo N:Nat} {e:TypeId} {u:Value} {n g' c':Nat} {vs:List Value} (R:W.ownsRow lo e 1 u n vs) (hat:u.ownBlock=some g'\/N<=g') {b o:Nat} (hb:b<N) (h:spare (.slice (some ⟨g',0,none⟩) (n+1) c') b o):spare u b o:=by
 obtain ⟨n1,c1,e,ho⟩:=h;simp only [Value.slice.injEq,Option.some.injEq,Addr.mk.injEq,and_true] at e;obtain ⟨rfl,rfl,rfl⟩:=e
 rcases hat with h | h
 .rcases R.2 with ⟨e,e0⟩ | ⟨g,c,cur,hv,-⟩
  .rw [e] at h; cases h
  .subst hv
   obtain rfl:g=g':=by simpa [Value.ownBlock] using h
   exact ⟨n,c,rfl,by omega⟩
 .omega
structure Cj (W:World) (lo z:Nat) (d:Aq) (u4 u5 u6 u7:Value):Prop where
 ex:∃ D u0 u1 u2 u3 ob iv ov o6 o7,B7 W lo W.heap.size D u0 u1 u2 u3 u4 u5 u6 u7 ob iv ov o6 o7 d/\(∀ i b,D i b->b≠z)/\W.heap[z]?=some (.cells (kR d u0 u1 u2 u3 u4 u5 u6 u7) 41 (0,0))
structure Bz (w W:World) (lo z:Nat) (u4 u5 u6 u7:Value) (d:Aq):Prop where
 ex:∃ b4 b5 b6 b7,Cj W lo z d b4 b5 b6 b7/\Goes w W z u4 u5 u6 u7 b4 b5 b6 b7
set_option maxHeartbeats 2000000
set_option maxRecDepth 40000
def Em (g:Nat->Int) (S:Int):Int:=g (256+(Eo S).toNat)
theorem Kc {g:Nat->Int} {S v:Int} (h:isRow 512 g 512=true):isRow 512 (B4 g S v) 512=true:=by
 rw [Gb (by rfl)];refine Nn (fun j hj=>?_);have h1:=(Nz h).2 j hj;unfold B4 Fq
 by_cases e:j=256+(S%256).toNat
 .rw [if_pos e]; unfold Cr; simp; omega
 .rw [if_neg e]; unfold Cr; simp; omega
theorem Fi {w:World} {lo n:Nat} {v:Value} {f:Nat->Int} (h:Ao w lo v n f):Ints .i64 w (fun _ _=>True) v n f:=by
 obtain ⟨a,cap,h1,h2,h3,h4,h5⟩:=h.ex;exact ⟨a,cap,h1,h2,h3,fun _ _ _=>trivial⟩
theorem Dz {w:World} {lo lo' n:Nat} {v:Value} {f:Nat->Int} (h:Ao w lo v n f) (hl:lo'<=lo):Ao w lo' v n f:=by
 obtain ⟨a,cap,h1,h2,h3,h4,h5⟩:=h.ex;exact ⟨⟨a,cap,h1,h2,h3,h4,fun b o h=>Nat.le_trans hl (h5 b o h)⟩⟩
theorem putRow {W:World} {z:Nat} {old:Array Value} {t:TypeId} (B:W.heap[z]?=some (.cells old t (0,0))) (o:Nat) (p new:Array Value) (e:putAt old o p=new):Wrote (fun b _=>b=z) W (W.setRow z (putAt old o p))/\(W.setRow z (putAt old o p)).heap[z]?=some (.cells new t (0,0)) :=
 ⟨Bn B _,e ▸ setRow_heap _ _ _ _ _ _ B⟩
theorem Ln (w:World) (z:Nat) (u:Value) (bank A X S Pc:Int) (Z N C I:Bool) (arg rd:Int) (G:Nat->Nat->Prop) (g:Nat->Int) (vv:Int) (k:w.heap[z]?=some (.cells (rR u bank A X S Pc Z N C I arg rd) 171 (0,0))) (K:Ints .i64 w G u 512 g) (hb:isRow 512 g 512=true) :
  Calls prog 147 #[(pt z 0),.i vv] w fun e w'=>e=.returned (.tuple #[])/\∃ u',w'.heap[z]?=some (.cells (rR u' bank A X (dec8 S) Pc Z N C I arg rd) 171 (0,0))/\Ao w' w.heap.size u' 512 (B4 g S vv)/\Wrote (fun b _=>b=z) w w':=by
 have hz:=Ad k
 obtain ⟨sD,hsD⟩:∃ x,Hid (x=dec8 S):=⟨_,rfl⟩
 obtain ⟨gP,hgP⟩:∃ x,Hid (x=B4 g S vv):=⟨_,rfl⟩
 have HP:=Ac (fun W (KW:Ints .i64 W G u 512 g)=>Jc2 W G u g bank KW hb A X S Pc Z N C I vv);rw [<- hsD.out,<- hgP.out] at HP;rw [<- hsD.out,<- hgP.out];clear hsD hgP hb
 go_enter func147,ntmps147
 go_upto_region 0 with (fail);refine Gy 17 (fun w'=>w'.heap[z]?=some (.cells (rR u bank A X S Pc Z N C I arg rd) 171 (0,0))) (by kernel_rfl) ?_
 have LR:Below w.heap.size w (redrawn w (w.drawn+1)):=⟨rfl,rfl,rfl,Nat.le_refl _,fun _ _=>rfl⟩
 have BR:=Ab k LR (Ad k);generalize redrawn w (w.drawn+1)=WR at *
 show Do _ _ _ _ _ 21 #[false,false,false,false,false,false,false,false,false,false,false,false,false,false,false,false,false,false,false,false,false] _ _
 refine Pm 0 ((pt z 0)) BR ?_;refine Pm 1 ((pt z 0)) BR ?_;refine Pm 2 ((pt z 0)) BR ?_;refine Pm 3 ((pt z 0)) BR ?_;refine Pm 4 ((pt z 0)) BR ?_;simp only [Act.put,Sa,Sb,Sc,Sd,Se,Sf,Sg,Sh,Si];refine Dr 5 (v:=.agg #[u,.i bank]) rfl (by kernel_rfl) BR (Et _ _ rfl rfl z 0 (by kernel_rfl) _ _ _ _ _ (fun w' h=>h) (Ug rfl rfl) underlying29 rfl (by kernel_rfl)) ?_;refine Pm 6 ((pt z 0)) BR ?_;refine Pm 7 ((pt z 0)) BR ?_;refine Pm 8 ((pt z 2)) BR ?_;simp only [Act.put,Sa,Sb,Sc,Sd,Se,Sf,Sg,Sh,Si];refine Dr 9 (v:=.agg (cR A X S Pc Z N C I)) rfl (by kernel_rfl) BR (Et _ _ rfl rfl z 2 (by kernel_rfl) _ _ _ _ _ (fun w' h=>h) (Gt rfl rfl rfl rfl rfl rfl rfl rfl) underlying31 rfl (by kernel_rfl)) ?_;refine Pm 10 (.i vv) BR ?_;simp only [Act.put,Sa,Sb,Sc,Sd,Se,Sf,Sg,Sh,Si];refine En 11 rfl (by kernel_rfl) ?_;go_simp
 refine (HP.out _ (K.keep (Aa LR Aj) (fun _ _ _ x=>x))).mono ?_;rintro e W2 ⟨u',rfl,O,L⟩;replace O:=Dz O LR.size;replace BR:=Ab BR L (Ad BR);have LW:=Aa (LR.trans (L.mono LR.size)) (fun b _=>b=z);refine ⟨fun _=>BR,?_⟩;refine Pm 12 (.tuple #[.agg #[u',.i bank],.agg (cR A X sD Pc Z N C I)]) BR ?_;refine Pm 13 (.agg #[u',.i bank]) BR ?_;refine Pm 14 (.agg (cR A X sD Pc Z N C I)) BR ?_;refine Pm 15 ((pt z 0)) BR ?_;refine Pm 16 ((pt z 0)) BR ?_;simp only [Act.put,Sa,Sb,Sc,Sd,Se,Sf,Sg,Sh,Si]
 obtain ⟨xa,xc,rfl⟩:∃ a c,u'=.slice a 512 c:=by obtain ⟨a,c,hq,_⟩:=O.ex; exact ⟨a,c,hq⟩
 refine Ed 17 (by kernel_rfl) ?_;simp only [Sg,Sh,Si];refine Bb _ _ _ rfl z 0 #[.slice xa 512 xc,.i bank] (by kernel_rfl) (by kernel_rfl) _ _ BR (by kernel_rfl) (by simp) (by simp [Value.oneCell']) ?_;obtain ⟨TT,B'⟩:=putRow BR 0 #[.slice xa 512 xc,.i bank] (rR (.slice xa 512 xc) bank A X S Pc Z N C I arg rd) rfl;replace LW:=LW.trans TT;replace O:=O.away TT (fun b' o h1 h2 e=>by omega);generalize W2.setRow z (putAt _ _ _)=W3 at *;replace BR:=B';clear B' TT;refine ⟨fun h=>absurd (show true=false from h (by decide)) (by decide),?_⟩;refine Ed 18 (by kernel_rfl) ?_;simp only [Sg,Sh,Si];go_simp;refine ⟨fun h=>absurd (show true=false from h (by decide)) (by decide),?_⟩;refine Ed 19 (by kernel_rfl) ?_;simp only [Sg,Sh,Si];go_simp;refine ⟨fun h=>absurd (show true=false from h (by decide)) (by decide),?_⟩
 refine Ed 20 (by kernel_rfl) ?_;simp only [Sg,Sh,Si];refine Bb _ _ _ rfl z 2 (cR A X sD Pc Z N C I) (by kernel_rfl) (by kernel_rfl) _ _ BR (by kernel_rfl) (by simp) (by simp [Value.oneCell']) ?_;obtain ⟨TT,B'⟩:=putRow BR 2 (cR A X sD Pc Z N C I) (rR (.slice xa 512 xc) bank A X sD Pc Z N C I arg rd) rfl;replace LW:=LW.trans TT;replace O:=O.away TT (fun b' o h1 h2 e=>by omega);generalize W3.setRow z (putAt _ _ _)=W4 at *;replace BR:=B';clear B' TT;refine ⟨fun h=>absurd (show true=false from h (by decide)) (by decide),?_⟩;refine Io (by kernel_rfl) ?_;clear HP K k LR L;unfold Lh;dsimp only;simp only [Act.put,Sa,Sb,Sc,Sd,Se,Sf,Sg,Sh,Si]
 go_end0
 exact ⟨rfl,_,BR,O,LW⟩
theorem Lo (w:World) (z:Nat) (u:Value) (bank A X S Pc:Int) (Z N C I:Bool) (arg rd:Int) (G:Nat->Nat->Prop) (g:Nat->Int) (k:w.heap[z]?=some (.cells (rR u bank A X S Pc Z N C I arg rd) 171 (0,0))) (K:Ints .i64 w G u 512 g) (hb:isRow 512 g 512=true) :
  Calls prog 231 #[(pt z 0)] w fun e w'=>e=.returned (.i (Em g S))/\w'.heap[z]?=some (.cells (rR u bank A X (Eo S) Pc Z N C I arg rd) 171 (0,0))/\Wrote (fun b _=>b=z) w w':=by
 have hz:=Ad k
 obtain ⟨sI,hsI⟩:∃ x,Hid (x=Eo S):=⟨_,rfl⟩
 obtain ⟨x8,hx8⟩:∃ x,Hid (x=Em g S):=⟨_,rfl⟩
 have HP:=Ac (fun W (KW:Ints .i64 W G u 512 g)=>Jc3 W G u g bank KW hb A X S Pc Z N C I);rw [<- hsI.out,show g (256+sI.toNat)=x8 by rw [hx8.out,hsI.out]; rfl] at HP;rw [<- hsI.out,<- hx8.out];clear hsI hx8 hb
 go_enter func231,ntmps231
 go_upto_region 1 with (fail);rename_i K1 hK1
 refine Cd [some 6,some 7,some 8,some 9,some 10,some 11,some 12,some 13,some 14,some 5,some 15,some 16,some 3,none,some 4] (by kernel_rfl) (by kernel_rfl) (by kernel_rfl) (by kernel_rfl) (by first | (simp [slotsOf]; done) | (simp [slotsOf,Act.put]; done)) [(12,13)]
  (fun j b _=>(j=13/\w.heap.size<=b))
  (fun i V W=>match i with
   | 0=>V 0=(pt z 0)
   | 1=>V 1=(pt z 0)
   | 2=>V 2=(pt z 0)
   | 3=>V 3=.agg #[u,.i bank]
   | 4=>V 4=(pt z 0)
   | 5=>V 5=(pt z 0)
   | 6=>V 6=(pt z 2)
   | 7=>V 7=.agg (cR A X S Pc Z N C I)
   | 8=>V 8=.tuple #[.agg (cR A X sI Pc Z N C I),.i x8]
   | 9=>V 9=.tuple #[.agg (cR A X sI Pc Z N C I),.i x8]
   | 10=>V 10=.agg (cR A X sI Pc Z N C I)
   | 11=>V 11=.i x8
   | 12=>∃ q,V 12=(pt q 0)/\W.heap[q]?=some (.cells cZ 31 (0,0))/\w.heap.size<=q
   | 13=>∃ q,V 12=(pt q 0)/\W.heap[q]?=some (.cells (cR A X sI Pc Z N C I) 31 (0,0))/\w.heap.size<=q
   | _=>V 14=.i x8) ?_ ?_ ?_
 .intro i j o V x W W' hij ho hnd hW h
  rcases i with _|_|_|_|_|_|_|_|_|_|_|_|_|_|_|i
  all_goals try exact (Ar V x hij).trans h
  .obtain ⟨q,h1,h2,h3⟩:=h
   exact ⟨q,(Ar V x hij).trans h1,Ag h2 hW (fun o e=>by simp at hnd; omega),h3⟩
  .obtain ⟨q,h1,h2,h3⟩:=h
   exact ⟨q,(by rw [Ar V x (fun e=>by subst e; simp only [Sg,Sh,Si,Option.some.injEq] at ho; subst ho; cases hnd.1.symm.trans (show A0 _ 12=true by kernel_rfl))]; exact h1),Ag h2 hW (fun o e=>by omega),h3⟩
  all_goals simp at ho
 .intro i o a' W K8 ho F L hw hK
  match i with
  | 0 =>
   cases ho;have t0:=F.get (t:=0) (v:=(pt z 0)) (by decide) rfl;go_simp;exact Hk hK (Ai _ _ _)
  | 1 =>
   cases ho;have q0:tv a' 6=_:=Hq hw 0;go_simp;exact Hk hK (Ai _ _ _)
  | 2 =>
   cases ho;have q1:tv a' 7=_:=Hq hw 1;go_simp;exact Hk hK (Ai _ _ _)
  | 3 =>
   cases ho;have q2:tv a' 8=_:=Hq hw 2;have rB:=Ag k L Ht;have rb:=Af rB;go_simp;exact Hk hK (Ai _ _ _)
  | 4 =>
   cases ho;have t0:=F.get (t:=0) (v:=(pt z 0)) (by decide) rfl;go_simp;exact Hk hK (Ai _ _ _)
  | 5 =>
   cases ho;have q4:tv a' 10=_:=Hq hw 4;go_simp;exact Hk hK (Ai _ _ _)
  | 6 =>
   cases ho;have q5:tv a' 11=_:=Hq hw 5;go_simp;exact Hk hK (Ai _ _ _)
  | 7 =>
   cases ho;have q6:tv a' 12=_:=Hq hw 6;have rB:=Ag k L Ht;have rb:=Af rB;go_simp;exact Hk hK (Ai _ _ _)
  | 8 =>
   cases ho;have q3:tv a' 9=_:=Hq hw 3;have q7:tv a' 13=_:=Hq hw 7;have KW:=K.keep L (fun b o _ ⟨j,oj,hj,hoj,hwj,e⟩=>by rcases e with ⟨rfl,e⟩ <;> first | omega | (cases hwj.symm.trans (show By _ 6 _ 8=true by kernel_rfl)));go_simp;refine (HP.out W KW).mono ?_;rintro e W' ⟨rfl,LX⟩;exact hK _ _ (Aa LX _) (Ai _ _ _)
  | 9 =>
   cases ho;have q8:tv a' 14=_:=Hq hw 8;go_simp;exact Hk hK (Ai _ _ _)
  | 10 =>
   cases ho;have q9:tv a' 5=_:=Hq hw 9;go_simp;exact Hk hK (Ai _ _ _)
  | 11 =>
   cases ho;have q9:tv a' 5=_:=Hq hw 9;go_simp;exact Hk hK (Ai _ _ _)
  | 12 =>
   cases ho;go_simp;exact hK _ _ ((Wrote.refl _ W).alloc _) ⟨_,Ai _ _ _,Ak W _ _,L.size⟩
  | 13 =>
   cases ho;have q12:=Hq hw 12;have q10:tv a' 15=_:=Hq hw 10;obtain ⟨q,h1,rB,h3⟩:=q12;replace h1:a'.tmps[3]?.getD undef=(pt q 0):=h1;refine wp_store_row _ _ _ rfl q (cR A X sI Pc Z N C I) (by simpa [Act.eval] using h1) (by simpa [Act.eval] using q10) _ _ rB El rfl (by first | kernel_rfl | simp [Value.oneCell']) ?_;exact hK undef _ ((Bq rB _).mono (fun b o _ (h:b=q)=>⟨rfl,by omega⟩)) ⟨q,(by rw [Ar _ _ (by decide)]; exact h1),setRow_heap _ _ _ _ _ _ rB,h3⟩
  | 14 =>
   cases ho;have q11:tv a' 16=_:=Hq hw 11;go_simp;exact Hk hK (Ai _ _ _)
  | _+15=>simp at ho
 .intro a' W F L hφ
  have p6:a'.tmps[6]?.getD undef=_:=Hf hφ 0;have p7:a'.tmps[7]?.getD undef=_:=Hf hφ 1;have p8:a'.tmps[8]?.getD undef=_:=Hf hφ 2;have p9:a'.tmps[9]?.getD undef=_:=Hf hφ 3;have p10:a'.tmps[10]?.getD undef=_:=Hf hφ 4;have p11:a'.tmps[11]?.getD undef=_:=Hf hφ 5;have p12:a'.tmps[12]?.getD undef=_:=Hf hφ 6;have p13:a'.tmps[13]?.getD undef=_:=Hf hφ 7;have p14:a'.tmps[14]?.getD undef=_:=Hf hφ 8;have p5:a'.tmps[5]?.getD undef=_:=Hf hφ 9;have p15:a'.tmps[15]?.getD undef=_:=Hf hφ 10;have p16:a'.tmps[16]?.getD undef=_:=Hf hφ 11;have e13:=Hf hφ 13;have p4:a'.tmps[4]?.getD undef=_:=Hf hφ 14;rw [F.same,show slotsOf [some 6,some 7,some 8,some 9,some 10,some 11,some 12,some 13,some 14,some 5,some 15,some 16,some 3,none,some 4]=[6,7,8,9,10,11,12,13,14,5,15,16,3,4] from rfl]
  simp only [List.foldl_cons,List.foldl_nil];obtain ⟨q,e1,kq,hq⟩:=e13;replace e1:a'.tmps[3]?.getD undef=(pt q 0):=e1;have kz:=Ag k L (fun o ⟨j,e⟩=>by omega);have LZ:=L.mono (S:=fun b _=>b=z) (fun b o hb ⟨j,e⟩=>by omega);rw [p6,p7,p8,p9,p10,p11,p12,p13,p14,p5,p15,p16,p4,e1];clear hφ F L e1 p6 p7 p8 p9 p10 p11 p12 p13 p14 p5 p15 p16 p4;refine hK1 _ _ ?_;clear hK1;have c:=Af kz;have f:=Au kz;have cq:=Af kq;have HB:=Am (o:=9) (Am (o:=8) (Am (o:=7) (Am (o:=6) (Am (o:=5) (Am (o:=4) (Am (o:=3) (Am (o:=2) (kz) (.i A)) (.i X)) (.i sI)) (.i Pc)) (.bool Z)) (.bool N)) (.bool C)) (.bool I);simp only [Sa,Sb,Sc] at HB
  have TT:=Ac (LZ.trans (Wz 9 (Wz 8 (Wz 7 (Wz 6 (Wz 5 (Wz 4 (Wz 3 (Wz 2 (Wrote.refl (fun b _=>b=z) W) (.i A)) (.i X)) (.i sI)) (.i Pc)) (.bool Z)) (.bool N)) (.bool C)) (.bool I)));have HBB:=Ac HB;clear HB;go_simp;go_wp2;go_ret;exact ⟨rfl,HBB.out,TT.out⟩
theorem O8 (w:World) (z:Nat) (u:Value) (bank A X S Pc:Int) (Z N C I:Bool) (arg rd:Int) (k:w.heap[z]?=some (.cells (rR u bank A X S Pc Z N C I arg rd) 171 (0,0))) :
  Calls prog 185 #[(pt z 0)] w fun e w'=>e=.returned (.tuple #[])/\w'.heap[z]?=some (.cells (rR u bank A X S Pc Z N C I arg rd) 171 (0,0))/\Wrote (fun b _=>b=z) w w':=by
 have hz:=Ad k;have c:=Af k;have f:=Au k
 go_enter func185,ntmps185
 go_wp2
 go_end0
 exact ⟨rfl,k,Wrote.refl _ _⟩
theorem Pb (w:World) (z:Nat) (u:Value) (bank A X S Pc:Int) (Z N C I:Bool) (arg rd:Int) (G:Nat->Nat->Prop) (g:Nat->Int) (k:w.heap[z]?=some (.cells (rR u bank A X S Pc Z N C I arg rd) 171 (0,0))) (K:Ints .i64 w G u 512 g) (hb:isRow 512 g 512=true) :
  Calls prog 146 #[(pt z 0)] w fun e w'=>e=.returned (.tuple #[])/\∃ u',w'.heap[z]?=some (.cells (rR u' bank A X (dec8 (dec8 S)) (Pc) Z N C I arg rd) 171 (0,0))/\Ao w' w.heap.size u' 512 (B4 (B4 g S (Pc/256)) (dec8 S) Pc)/\Wrote (fun b _=>b=z) w w':=by
 have hz:=Ad k;have c:=Af k;have f:=Au k
 obtain ⟨d1,hd1⟩:∃ x,Hid (x=dec8 S):=⟨_,rfl⟩
 obtain ⟨g1,hg1⟩:∃ x,Hid (x=B4 g S (Pc/256)):=⟨_,rfl⟩
 have hb1:isRow 512 g1 512=true:=by rw [hg1.out]; exact Kc hb
 have HQ:=Ac (Ln w z u bank A X S Pc Z N C I arg rd G g (Pc/256) k K hb);rw [<- hd1.out,<- hg1.out] at HQ ⊢
 obtain ⟨d2,hd2⟩:∃ x,Hid (x=dec8 d1):=⟨_,rfl⟩
 obtain ⟨g2,hg2⟩:∃ x,Hid (x=B4 g1 d1 Pc):=⟨_,rfl⟩
 have HR:=Ac (fun W u' (kk:W.heap[z]?=some (.cells (rR u' bank A X d1 Pc Z N C I arg rd) 171 (0,0))) (KK:Ints .i64 W (fun _ _=>True) u' 512 g1)=>Ln W z u' bank A X d1 Pc Z N C I arg rd _ g1 Pc kk KK hb1);rw [<- hd2.out,<- hg2.out] at HR;rw [<- hd2.out,<- hg2.out];clear hd1 hd2 hg1 hg2 hb hb1
 go_enter func146,ntmps146
 go_wp2_with fail;refine HQ.out.mono ?_;rintro e W1 ⟨rfl,u1,k1,O1,L1⟩;clear c f HQ;have c:=Af k1;have f:=Au k1;have K1:=Fi O1;go_wp2_with fail;refine (HR.out W1 u1 k1 K1).mono ?_;rintro e W2 ⟨rfl,u2,k2,O2,L2⟩;clear c f HR;have KK:=Ac k2;have OO:=Ac (Dz O2 L1.size);have LL:=Ac (L1.trans L2);clear k1 k2 O1 O2 L1 L2 K1;go_wp2
 go_end0
 exact ⟨rfl,_,KK.out,OO.out,LL.out⟩
theorem Jc4 (w:World) (z:Nat) (u:Value) (bank A X S Pc:Int) (Z N C I:Bool) (arg rd:Int) (G:Nat->Nat->Prop) (g:Nat->Int) (k:w.heap[z]?=some (.cells (rR u bank A X S Pc Z N C I arg rd) 171 (0,0))) (K:Ints .i64 w G u 512 g) (hb:isRow 512 g 512=true) :
  Calls prog 202 #[(pt z 0)] w fun e w'=>e=.returned (.tuple #[])/\∃ u',w'.heap[z]?=some (.cells (rR u' bank A X (dec8 (dec8 S)) (arg%65536) Z N C I arg rd) 171 (0,0))/\Ao w' w.heap.size u' 512 (B4 (B4 g S (Pc/256)) (dec8 S) Pc)/\Wrote (fun b _=>b=z) w w':=by
 have hz:=Ad k;have c:=Af k;have f:=Au k;have HQ:=Ac (Pb w z u bank A X S Pc Z N C I arg rd G g k K hb)
 obtain ⟨d1,hd1⟩:∃ x,Hid (x=dec8 (dec8 S)):=⟨_,rfl⟩
 obtain ⟨g1,hg1⟩:∃ x,Hid (x=B4 (B4 g S (Pc/256)) (dec8 S) Pc):=⟨_,rfl⟩
 rw [<- hd1.out,<- hg1.out] at HQ ⊢;clear hd1 hg1 hb
 go_enter func202,ntmps202
 go_wp2_with fail;refine HQ.out.mono ?_;rintro e W1 ⟨rfl,u1,k1,O1,L1⟩;clear c f HQ;have hz1:=Ad k1;go_wp2_with fail;refine (Oz W1 z u1 bank A X d1 Pc Z N C I arg rd k1).mono ?_;rintro e W2 ⟨rfl,k2,L2⟩;have KK:=Ac k2;have OO:=Ac (O1.away L2 (fun b' o h1 h2 e=>by omega));have LL:=Ac (L1.trans L2);clear k1 k2 O1 L1 L2;go_wp2
 go_end0
 exact ⟨rfl,_,KK.out,OO.out,LL.out⟩
theorem Jaq (w:World) (z:Nat) (u:Value) (bank A X S Pc:Int) (Z N C I:Bool) (arg rd:Int) (G:Nat->Nat->Prop) (g:Nat->Int) (k:w.heap[z]?=some (.cells (rR u bank A X S Pc Z N C I arg rd) 171 (0,0))) (K:Ints .i64 w G u 512 g) (hb:isRow 512 g 512=true) :
  Calls prog 204 #[(pt z 0)] w fun e w'=>e=.returned (.tuple #[])/\∃ u',w'.heap[z]?=some (.cells (rR u' bank A X (dec8 S) (Pc) Z N C I arg rd) 171 (0,0))/\Ao w' w.heap.size u' 512 (B4 g S A)/\Wrote (fun b _=>b=z) w w':=by
 have hz:=Ad k;have c:=Af k;have f:=Au k;have HQ:=Ac (Ln w z u bank A X S Pc Z N C I arg rd G g A k K hb)
 obtain ⟨d1,hd1⟩:∃ x,Hid (x=dec8 S):=⟨_,rfl⟩
 obtain ⟨g1,hg1⟩:∃ x,Hid (x=B4 g S A):=⟨_,rfl⟩
 rw [<- hd1.out,<- hg1.out] at HQ ⊢;clear hd1 hg1 hb
 go_enter func204,ntmps204
 go_wp2_with fail;refine HQ.out.mono ?_;rintro e W1 ⟨rfl,u1,k1,O1,L1⟩;have KK:=Ac k1;have OO:=Ac O1;have LL:=Ac L1;clear k1 O1 L1 c f HQ;go_wp2
 go_end0
 exact ⟨rfl,_,KK.out,OO.out,LL.out⟩
theorem Lp (w:World) (z:Nat) (u:Value) (bank A X S Pc:Int) (Z N C I:Bool) (arg rd:Int) (G:Nat->Nat->Prop) (g:Nat->Int) (k:w.heap[z]?=some (.cells (rR u bank A X S Pc Z N C I arg rd) 171 (0,0))) (K:Ints .i64 w G u 512 g) (hb:isRow 512 g 512=true) (hG:∀ b o,G b o->b≠z) :
  Calls prog 203 #[(pt z 0)] w fun e w'=>e=.returned (.tuple #[])/\w'.heap[z]?=some (.cells (rR u bank A X (Eo (Eo S)) (Em g S%256+256*(Em g (Eo S)%256)) Z N C I arg rd) 171 (0,0))/\Wrote (fun b _=>b=z) w w':=by
 have hz:=Ad k;have c:=Af k;have f:=Au k;have HQ:=Ac (Lo w z u bank A X S Pc Z N C I arg rd G g k K hb)
 obtain ⟨d1,hd1⟩:∃ x,Hid (x=Eo S):=⟨_,rfl⟩
 obtain ⟨x1,hx1⟩:∃ x,Hid (x=Em g S):=⟨_,rfl⟩
 rw [<- hd1.out,<- hx1.out] at HQ ⊢
 obtain ⟨d2,hd2⟩:∃ x,Hid (x=Eo d1):=⟨_,rfl⟩
 obtain ⟨x2,hx2⟩:∃ x,Hid (x=Em g d1):=⟨_,rfl⟩
 have HR:=Ac (fun W (kk:W.heap[z]?=some (.cells (rR u bank A X d1 Pc Z N C I arg rd) 171 (0,0))) (KK:Ints .i64 W G u 512 g)=>Lo W z u bank A X d1 Pc Z N C I arg rd G g kk KK hb);rw [<- hd2.out,<- hx2.out] at HR;rw [<- hd2.out,<- hx2.out];clear hd1 hd2 hx1 hx2 hb
 go_enter func203,ntmps203
 go_wp2_with fail;refine HQ.out.mono ?_;rintro e W1 ⟨rfl,k1,L1⟩;clear c f HQ;have K1:=K.keep L1 (fun b o h e=>hG b o h e);go_wp2_with fail;refine (HR.out W1 k1 K1).mono ?_;rintro e W2 ⟨rfl,k2,L2⟩;clear HR;have c:=Af k2;have f:=Au k2;go_wp2_with fail;refine (I7 x1 x2 W2).mono ?_;rintro e W3 ⟨rfl,hW3⟩;rw [hW3];clear hW3 W3;have HB:=Am (o:=5) (k2) (.i (x1%256+256*(x2%256)));simp only [Sa,Sb,Sc] at HB;have TT:=Ac ((L1.trans L2).trans (Wz 5 (Wrote.refl (fun b _=>b=z) W2) (.i (x1%256+256*(x2%256)))));have HBB:=Ac HB;clear HB L1 L2;go_wp2
 go_end0
 exact ⟨rfl,HBB.out,TT.out⟩
theorem Jar (w:World) (z:Nat) (u:Value) (bank A X S Pc:Int) (Z N C I:Bool) (arg rd:Int) (G:Nat->Nat->Prop) (g:Nat->Int) (k:w.heap[z]?=some (.cells (rR u bank A X S Pc Z N C I arg rd) 171 (0,0))) (K:Ints .i64 w G u 512 g) (hb:isRow 512 g 512=true) :
  Calls prog 205 #[(pt z 0)] w fun e w'=>e=.returned (.tuple #[])/\w'.heap[z]?=some (.cells (rR u bank ((Em g S)%256) X (Eo S) Pc ((Em g S)%256==0) (decide (127<(Em g S)%256)) C I arg rd) 171 (0,0))/\Wrote (fun b _=>b=z) w w':=by
 have hz:=Ad k;have c:=Af k;have f:=Au k;have HQ:=Ac (Lo w z u bank A X S Pc Z N C I arg rd G g k K hb)
 obtain ⟨d1,hd1⟩:∃ x,Hid (x=Eo S):=⟨_,rfl⟩
 obtain ⟨x1,hx1⟩:∃ x,Hid (x=Em g S):=⟨_,rfl⟩
 rw [<- hd1.out,<- hx1.out] at HQ ⊢;clear hd1 hx1 hb
 go_enter func205,ntmps205
 go_wp2_with fail;refine HQ.out.mono ?_;rintro e W1 ⟨rfl,k1,L1⟩;clear c f HQ;have c:=Af k1;have f:=Au k1;go_wp2_with fail;refine (E9 W1 A X d1 Pc Z N C I x1).mono ?_;rintro e W2 ⟨rfl,L2⟩;have k2:=Ab k1 L2 (Ad k1);clear c f;have c:=Af k2;have f:=Au k2;have HB:=Am (o:=9) (Am (o:=8) (Am (o:=7) (Am (o:=6) (Am (o:=5) (Am (o:=4) (Am (o:=3) (Am (o:=2) (k2) (.i (x1%256))) (.i X)) (.i d1)) (.i Pc)) (.bool (x1%256==0))) (.bool (decide (127<x1%256)))) (.bool C)) (.bool I);simp only [Sa,Sb,Sc] at HB;have TT:=Ac ((L1.trans (Aa L2 (fun b _=>b=z))).trans (Wz 9 (Wz 8 (Wz 7 (Wz 6 (Wz 5 (Wz 4 (Wz 3 (Wz 2 (Wrote.refl (fun b _=>b=z) W2) (.i (x1%256))) (.i X)) (.i d1)) (.i Pc)) (.bool (x1%256==0))) (.bool (decide (127<x1%256)))) (.bool C)) (.bool I)));have HBB:=Ac HB
 clear HB L1 L2;go_wp2
 go_end0
 exact ⟨rfl,HBB.out,TT.out⟩
theorem Jas (w:World) (z:Nat) (u:Value) (bank A X S Pc:Int) (Z N C I:Bool) (arg rd:Int) (G:Nat->Nat->Prop) (g:Nat->Int) (k:w.heap[z]?=some (.cells (rR u bank A X S Pc Z N C I arg rd) 171 (0,0))) (K:Ints .i64 w G u 512 g) (hb:isRow 512 g 512=true) (hG:∀ b o,G b o->b≠z) :
  Calls prog 206 #[(pt z 0)] w fun e w'=>e=.returned (.tuple #[])/\w'.heap[z]?=some (.cells (rR u bank A X (Eo (Eo (Eo S))) (Em g (Eo S)%256+256*(Em g (Eo (Eo S))%256)) (hasB (Em g S) 2) (hasB (Em g S) 128) (hasB (Em g S) 1) (hasB (Em g S) 4) arg rd) 171 (0,0))/\Wrote (fun b _=>b=z) w w':=by
 have hz:=Ad k;have c:=Af k;have f:=Au k;have HQ:=Ac (Lo w z u bank A X S Pc Z N C I arg rd G g k K hb)
 obtain ⟨d1,hd1⟩:∃ x,Hid (x=Eo S):=⟨_,rfl⟩
 obtain ⟨x1,hx1⟩:∃ x,Hid (x=Em g S):=⟨_,rfl⟩
 rw [<- hd1.out,<- hx1.out] at HQ ⊢
 obtain ⟨f0,hf0⟩:∃ x,Hid (x=hasB x1 2):=⟨_,rfl⟩
 obtain ⟨f1,hf1⟩:∃ x,Hid (x=hasB x1 128):=⟨_,rfl⟩
 obtain ⟨f2,hf2⟩:∃ x,Hid (x=hasB x1 1):=⟨_,rfl⟩
 obtain ⟨f3,hf3⟩:∃ x,Hid (x=hasB x1 4):=⟨_,rfl⟩
 have HF:=Ac (fun W=>Px W A X d1 Pc Z N C I x1);rw [<- hf0.out,<- hf1.out,<- hf2.out,<- hf3.out] at HF;rw [<- hf0.out,<- hf1.out,<- hf2.out,<- hf3.out];have HC:=Ac (fun W (kk:W.heap[z]?=some (.cells (rR u bank A X d1 Pc f0 f1 f2 f3 arg rd) 171 (0,0))) (KK:Ints .i64 W G u 512 g)=>Lp W z u bank A X d1 Pc f0 f1 f2 f3 arg rd G g kk KK hb hG)
 obtain ⟨d3,hd3⟩:∃ x,Hid (x=Eo (Eo d1)):=⟨_,rfl⟩
 obtain ⟨p3,hp3⟩:∃ x,Hid (x=Em g d1%256+256*(Em g (Eo d1)%256)):=⟨_,rfl⟩
 rw [<- hd3.out,<- hp3.out] at HC;rw [<- hd3.out,<- hp3.out];clear hd1 hx1 hb hf0 hf1 hf2 hf3 hd3 hp3
 go_enter func206,ntmps206
 go_wp2_with fail;refine HQ.out.mono ?_;rintro e W1 ⟨rfl,k1,L1⟩;clear c f HQ;have K1:=K.keep L1 (fun b o h e=>hG b o h e);have c:=Af k1;have f:=Au k1;go_wp2_with fail;refine (HF.out W1).mono ?_;rintro e W2 ⟨rfl,L2⟩;have k2:=Ab k1 L2 (Ad k1);have K2:=K1.keep (Aa L2 Aj) (fun _ _ _ x=>x);clear c f HF;have c:=Af k2;have f:=Au k2;have HB:=Am (o:=9) (Am (o:=8) (Am (o:=7) (Am (o:=6) (Am (o:=5) (Am (o:=4) (Am (o:=3) (Am (o:=2) (k2) (.i A)) (.i X)) (.i d1)) (.i Pc)) (.bool f0)) (.bool f1)) (.bool f2)) (.bool f3);simp only [Sa,Sb,Sc] at HB;have T2:=Wz 9 (Wz 8 (Wz 7 (Wz 6 (Wz 5 (Wz 4 (Wz 3 (Wz 2 (Wrote.refl (fun b _=>b=z) W2) (.i A)) (.i X)) (.i d1)) (.i Pc)) (.bool f0)) (.bool f1)) (.bool f2)) (.bool f3);have K3:=Ac (K2.keep T2 (fun b o h e=>hG b o h e))
 have TT:=Ac ((L1.trans (Aa L2 (fun b _=>b=z))).trans T2);have HBB:=Ac HB;clear HB L1 L2 T2 K1 K2 k1 K;go_wp2_with fail;refine (HC.out _ HBB.out K3.out).mono ?_;rintro e W4 ⟨rfl,k4,L4⟩;have KK:=Ac k4;have LL:=Ac (TT.out.trans L4);clear k4 L4 TT K3 HBB c f k2;go_wp2
 go_end0
 exact ⟨rfl,KK.out,LL.out⟩
theorem Pd (w:World) (z:Nat) (u:Value) (bank A X S Pc:Int) (Z N C I:Bool) (arg rd:Int) (k:w.heap[z]?=some (.cells (rR u bank A X S Pc Z N C I arg rd) 171 (0,0))) :
  Calls prog 193 #[(pt z 0)] w fun e w'=>e=.returned (.tuple #[])/\w'.heap[z]?=some (.cells (rR u bank A X S Pc ((A%256-arg%256-1+Av true)%256%256==0) (decide (127<(A%256-arg%256-1+Av true)%256%256)) (decide (0<=A%256-arg%256-1+Av true)) I arg rd) 171 (0,0))/\Wrote (fun b _=>b=z) w w':=by
 have hz:=Ad k;have c:=Af k;have f:=Au k
 obtain ⟨sm,hsm⟩:∃ x,Hid (x=(A%256-arg%256-1+Av true)%256):=⟨_,rfl⟩
 obtain ⟨ca,hca⟩:∃ x,Hid (x=decide (0<=A%256-arg%256-1+Av true)):=⟨_,rfl⟩
 have HA:=Ac (fun W=>Tt A arg true W);rw [<- hsm.out,<- hca.out] at HA;rw [<- hsm.out,<- hca.out]
 obtain ⟨z1,hz1⟩:∃ x,Hid (x=(sm%256==0)):=⟨_,rfl⟩
 obtain ⟨n1,hn1⟩:∃ x,Hid (x=decide (127<sm%256)):=⟨_,rfl⟩
 have HG:=Ac (fun W=>Zf sm W);rw [<- hz1.out,<- hn1.out] at HG;rw [<- hz1.out,<- hn1.out];clear c f hsm hca hz1 hn1
 go_enter func193,ntmps193
 go_upto_region 0 with (fail);rename_i K1 hK1
 refine Bp [some 5,some 6,some 7,some 8,some 9,some 10,some 11,some 12,some 13,some 14,some 4,some 15,some 16,some 2,some 3] (by kernel_rfl) (by kernel_rfl) (by kernel_rfl) (by kernel_rfl) (by first | (simp [slotsOf]; done) | (simp [slotsOf,Act.put]; done))
  (fun j b _=>False)
  (fun i v W=>match i with
   | 0=>v=(pt z 0)
   | 1=>v=(pt z 0)
   | 2=>v=(pt z 2)
   | 3=>v=(pt z 2)
   | 4=>v=.i A
   | 5=>v=(pt z 0)
   | 6=>v=(pt z 0)
   | 7=>v=(pt z 10)
   | 8=>v=.i arg
   | 9=>v=.tuple #[.i sm,.bool ca]
   | 10=>v=.tuple #[.i sm,.bool ca]
   | 11=>v=.i sm
   | 12=>v=.bool ca
   | 13=>v=.i sm
   | _=>v=.bool ca) ?_ ?_ ?_
 .intro i j o v W W' hij ho _ hW h
  rcases i with _|_|_|_|_|_|_|_|_|_|_|_|_|_|_|i
  all_goals try exact h
  all_goals simp at ho
 .intro i o a' W K8 ho F L hw hK
  match i with
  | 0 =>
   cases ho;have t0:=F.get (t:=0) (v:=(pt z 0)) (by decide) rfl;go_simp;exact Hk hK rfl
  | 1 =>
   cases ho;have q0:tv a' 5=_:=Hr hw 0;go_simp;exact Hk hK rfl
  | 2 =>
   cases ho;have q1:tv a' 6=_:=Hr hw 1;go_simp;exact Hk hK rfl
  | 3 =>
   cases ho;have q2:tv a' 7=_:=Hr hw 2;go_simp;exact Hk hK rfl
  | 4 =>
   cases ho;have q3:tv a' 8=_:=Hr hw 3;have rB:=Ag k L (fun o ⟨j,oj,hj,hoj,hwj,e⟩=>by exact e);have rb:=Af rB;go_simp;exact Hk hK rfl
  | 5 =>
   cases ho;have t0:=F.get (t:=0) (v:=(pt z 0)) (by decide) rfl;go_simp;exact Hk hK rfl
  | 6 =>
   cases ho;have q5:tv a' 10=_:=Hr hw 5;go_simp;exact Hk hK rfl
  | 7 =>
   cases ho;have q6:tv a' 11=_:=Hr hw 6;go_simp;exact Hk hK rfl
  | 8 =>
   cases ho;have q7:tv a' 12=_:=Hr hw 7;have rB:=Ag k L (fun o ⟨j,oj,hj,hoj,hwj,e⟩=>by exact e);have rb:=Af rB;go_simp;exact Hk hK rfl
  | 9 =>
   cases ho;have q4:tv a' 9=_:=Hr hw 4;have q8:tv a' 13=_:=Hr hw 8;go_simp;refine (HA.out W).mono ?_;rintro e W' ⟨rfl,rfl⟩;exact Hk hK rfl
  | 10 =>
   cases ho;have q9:tv a' 14=_:=Hr hw 9;go_simp;exact Hk hK rfl
  | 11 =>
   cases ho;have q10:tv a' 4=_:=Hr hw 10;go_simp;exact Hk hK rfl
  | 12 =>
   cases ho;have q10:tv a' 4=_:=Hr hw 10;go_simp;exact Hk hK rfl
  | 13 =>
   cases ho;have q11:tv a' 15=_:=Hr hw 11;go_simp;exact Hk hK rfl
  | 14 =>
   cases ho;have q12:tv a' 16=_:=Hr hw 12;go_simp;exact Hk hK rfl
  | _+15=>simp at ho
 .intro a' W F L hφ
  have p5:a'.tmps[5]?.getD undef=_:=Hd hφ 0;have p6:a'.tmps[6]?.getD undef=_:=Hd hφ 1;have p7:a'.tmps[7]?.getD undef=_:=Hd hφ 2;have p8:a'.tmps[8]?.getD undef=_:=Hd hφ 3;have p9:a'.tmps[9]?.getD undef=_:=Hd hφ 4;have p10:a'.tmps[10]?.getD undef=_:=Hd hφ 5;have p11:a'.tmps[11]?.getD undef=_:=Hd hφ 6;have p12:a'.tmps[12]?.getD undef=_:=Hd hφ 7;have p13:a'.tmps[13]?.getD undef=_:=Hd hφ 8;have p14:a'.tmps[14]?.getD undef=_:=Hd hφ 9;have p4:a'.tmps[4]?.getD undef=_:=Hd hφ 10;have p15:a'.tmps[15]?.getD undef=_:=Hd hφ 11;have p16:a'.tmps[16]?.getD undef=_:=Hd hφ 12;have p2:a'.tmps[2]?.getD undef=_:=Hd hφ 13;have p3:a'.tmps[3]?.getD undef=_:=Hd hφ 14
  rw [F.same,show slotsOf [some 5,some 6,some 7,some 8,some 9,some 10,some 11,some 12,some 13,some 14,some 4,some 15,some 16,some 2,some 3]=[5,6,7,8,9,10,11,12,13,14,4,15,16,2,3] from rfl];simp only [List.foldl_cons,List.foldl_nil];have kW:=Ag k L (fun o ⟨j,e⟩=>e);have LW:=L.mono (S:=fun b _=>b=z) (fun b o _ ⟨j,e⟩=>e.elim);rw [p5,p6,p7,p8,p9,p10,p11,p12,p13,p14,p4,p15,p16,p2,p3];clear hφ F L p5 p6 p7 p8 p9 p10 p11 p12 p13 p14 p4 p15 p16 p2 p3;refine hK1 _ _ ?_;clear hK1;have c:=Af kW;have f:=Au kW;have HB:=Am (o:=8) (Am (o:=7) (Am (o:=6) (kW) (.bool z1)) (.bool n1)) (.bool ca);simp only [Sa,Sb,Sc] at HB;have TT:=Ac (Wz 8 (Wz 7 (Wz 6 (LW) (.bool z1)) (.bool n1)) (.bool ca));have HBB:=Ac HB;clear HB LW;go_simp;go_wp2_with fail;refine (HG.out W).mono ?_;rintro e W3 ⟨rfl,hW3⟩
  rw [hW3];clear hW3 W3;go_wp2
  go_end0
  exact ⟨rfl,HBB.out,TT.out⟩
end Go.Proofs.YtijljlnooibbmaaGreatDoor
