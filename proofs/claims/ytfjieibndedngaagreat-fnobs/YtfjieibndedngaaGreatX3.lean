import Derived.Test.YtfjieibndedngaaGreatX2
import Derived.Test.YtfjieibndedngaaGreatSW
import Derived.Test.YtfjieibndedngaaGreatEB
import Derived.Laws.IdiomCopy
import Derived.Laws.StructEq
import Derived.ChangeKeysEq
import Derived.RangeFuncNested
import Derived.RangeFuncBound
import Derived.RangeFuncCalls
import Derived.RangeFuncLeaves
import Derived.Shelf.Abstract
import Derived.OwnWalkIn
import Derived.TacticsInMore
import Derived.LoopNIn
import Derived.LoopIn
import Derived.Laws.EntriesVeiled
namespace Go.Proofs.YtfjieibndedngaaGreat
open Go.ChangeShapes Go.WideShapes Go.ChangeAt Go.RowKit
def Hm (w:World) (v:Value) (m:Nat):Prop:=∀ a cap,v=.slice a m cap→Ie w (Cd a m)
theorem Hm.keep {w w':World} {R:Nat→Nat→Prop} {v:Value} {m:Nat} (h:Hm w v m) (hw:Wrote R w w'):Hm w' v m:=fun a cap e=>(h a cap e).keep hw
def Wq (b o:Nat):Nat→Nat→Prop:=fun b' o'=>b'=b∧o'=o
theorem Nt (w:World) (b o:Nat) (x:Value):Wrote (Wq b o) w (w.setCell ⟨b,o,none⟩ x):=(Wrote.refl _ _).setCell (fun _=>⟨rfl,rfl⟩) x
theorem Nu {ln:Nat→Nat} {K:Nat}:∀ {m:Nat},(∀ i,i<m→ln i≤K)→Cv ln m≤m*K
 | 0,_=>by simp [Cv]
 | m+1,h=>by
  have h1:=Nu (m:=m) (fun i hi=>h i (by omega));have h2:=h m (by omega);rw [Nat.succ_mul]
  show Cv ln m+ln m≤_
  omega
theorem Cl.setInner {w:World} {lo:Nat} {v:Value} {m:Nat} {ra:Nat→Option Addr} {ln rc:Nat→Nat} {f:Nat→Nat→Int} (h:Cl w lo v m ra ln rc f) (i j b off:Nat) (hi:i<m) (hj:j<ln i) (ha:ra i=some ⟨b,off,none⟩) (x:Int) :
  Cl (w.setCell ⟨b,off+j,none⟩ (.i x)) lo v m ra ln rc (fun p q=>if p=i∧q=j then x else f p q):=by
 have hW:=Nt w b (off+j) (.i x)
 have hF:Cd (ra i) (ln i) b (off+j):=by rw [ha]; exact Bj hj
 refine ⟨h.sep.keep hW (fun b' o' hR=>⟨i,hi,by obtain ⟨rfl,rfl⟩:=hR; exact hF⟩),fun p hp=>?_,h.inner,h.outer,h.len⟩
 by_cases e:p=i
 ·subst e
  intro q hq;obtain ⟨b',off',e',hc⟩:=h.rows p hp q hq;rw [ha] at e';simp only [Option.some.injEq,Addr.mk.injEq,and_true] at e';obtain ⟨rfl,rfl⟩:=e';refine ⟨b,off,ha,?_⟩
  by_cases e2:q=j
  ·subst e2
   rw [World.cell?_setCell_same _ _ _ hc]
   simp
  ·rw [World.cell?_setCell_other _ _ _ _ (by intro h; simp only [Addr.mk.injEq] at h; omega),hc]
   simp [e2]
 ·exact ((h.rows p hp).keep hW (fun b' o' hF' hR=>by obtain ⟨rfl,rfl⟩:=hR; exact h.sep.disj p i hp hi e _ _ hF' hF)).congr (fun q _=>by simp [e])
theorem Cl.setOuter {w:World} {lo:Nat} {v:Value} {m:Nat} {ra:Nat→Option Addr} {ln rc:Nat→Nat} {f:Nat→Nat→Int} (h:Cl w lo v m ra ln rc f) (i b off cap:Nat) (hi:i<m) (hv:v=.slice (some ⟨b,off,none⟩) m cap) (a':Option Addr) (n' c':Nat) (g:Nat→Int)
  (hr:Bv .i64 w a' n' g) (hfr:Ie w (Cd a' n')) (hlo:∀ b o,Cd a' n' b o→lo≤b) (hn:n'≤1048576) (hout:∀ b' o',Cd a' n' b' o'→¬ Cd (some ⟨b,off,none⟩) m b' o')
  (hdis:∀ p,p<m→p≠i→∀ b' o',Cd a' n' b' o'→¬ Cd (ra p) (ln p) b' o') :
  Cl (w.setCell ⟨b,off+i,none⟩ (.slice a' n' c')) lo v m (fun p=>if p=i then a' else ra p) (fun p=>if p=i then n' else ln p) (fun p=>if p=i then c' else rc p) (fun p=>if p=i then g else f p):=by
 have hW:=Nt w b (off+i) (.slice a' n' c');obtain ⟨⟨⟨a,cap',hv',hm,ho⟩,hf,hdj,hs⟩,hrw,hin,hou,hl⟩:=h;have hva:=hv;rw [hv] at hv';simp only [Value.slice.injEq] at hv';obtain ⟨rfl,_,rfl⟩:=hv'
 have hlen:∀ p,p<m→(if p=i then n' else ln p)≤1048576:=fun p hp=>by split; exact hn; exact hl p hp
 have hoc:∀ p,p<m→w.cell? ⟨b,off+p,none⟩=some (.slice (ra p) (ln p) (rc p))∧∀ j,j<m→¬ Cd (ra j) (ln j) b (off+p):=fun p hp=>by
  obtain ⟨b2,off2,e2,hc2,hn2⟩:=ho p hp;simp only [Option.some.injEq,Addr.mk.injEq,and_true] at e2;obtain ⟨rfl,rfl⟩:=e2;exact ⟨hc2,hn2⟩
 refine ⟨⟨⟨some ⟨b,off,none⟩,cap,hva,hm,fun p hp=>⟨b,off,rfl,?_,fun j hj=>?_⟩⟩,fun p hp=>?_,fun p q hp hq hpq b' o' h1=>?_,?_⟩,fun p hp=>?_,fun p hp b' o' hF=>?_,hou,hlen⟩
 ·by_cases e:p=i
  ·subst e
   rw [World.cell?_setCell_same _ _ _ (hoc p hp).1]
   simp
  ·rw [World.cell?_setCell_other _ _ _ _ (by intro h; simp only [Addr.mk.injEq] at h; omega),(hoc p hp).1]
   simp [e]
 ·by_cases e:j=i
  ·subst e
   simp only
   exact fun hF=>hout _ _ hF (Bj hp)
  ·simp only [if_neg e]
   exact (hoc p hp).2 j hj
 ·by_cases e:p=i
  ·subst e
   simp only;exact hfr.keep hW
  ·simp only [if_neg e]
   exact (hf p hp).keep hW
 ·by_cases e:p=i
  ·subst e
   have e2:¬ q=p:=fun x=>hpq x.symm
   simp only at h1;simp only [if_neg e2];exact hdis q hq e2 _ _ h1
  ·simp only [if_neg e] at h1
   by_cases e2:q=i
   ·subst e2
    simp only
    exact fun hF=>hdis p hp e _ _ hF h1
   ·simp only [if_neg e2]
    exact hdj p q hp hq hpq _ _ h1
 ·exact Nat.le_trans (Nu hlen) (Nat.le_trans (Nat.mul_le_mul_right _ hm) (by decide))
 ·by_cases e:p=i
  ·subst e
   simp only;exact hr.keep hW (fun b' o' hF hR=>by obtain ⟨rfl,rfl⟩:=hR; exact hout _ _ hF (Bj hi))
  ·simp only [if_neg e]
   exact (hrw p hp).keep hW (fun b' o' hF hR=>by obtain ⟨rfl,rfl⟩:=hR; exact (hoc i hi).2 p hp hF)
 ·by_cases e:p=i
  ·subst e
   simp only at hF;exact hlo _ _ hF
  ·simp only [if_neg e] at hF
   exact hin p hp _ _ hF
theorem Rf {P:Program} {ops:Array Oper} {o:Oper} {a:Act} {w:World} {K:Act→World→Prop} {Q:Exit→Act→World→Prop} {E:Prop} (hg:o.guard=none) (f:FuncId) (vs:Array Value)
  (hE:(execOp a.eval o).run P w=.ok (.enter f vs) w)
  (h:Calls P f vs w fun e w'=>∃ v,e=.returned v∧K (a.put o.dst v) w'):if Region.wanted o (yielded ops a.tmps)=true then Oper.wp P o a w K Q else E:=by
 have hw:Region.wanted o (yielded ops a.tmps)=true:=by simp [Region.wanted,hg]
 rw [if_pos hw];unfold Oper.wp;rw [hE,Oper.upon_enter];exact h.mono (by rintro e w' ⟨v,rfl,hk⟩; exact hk)
theorem Step.low {c:Nat} {u v w:World} (h:Step c u v) (k:Below u.heap.size v w):Step c u w :=
 ⟨k.os.trans h.os,k.tape.trans h.tape,k.output.trans h.output,Nat.le_trans h.size k.size,fun i hi hc=>(k.block i hi).trans (h.block i hi hc)⟩
theorem Ez.congrF {w:World} {lo q:Nat} {gb:Nat→Nat} {F G:Nat→Nat→Int} (h:Ez w lo q gb F) (e:∀ i,i<q→F i=G i):Ez w lo q gb G :=
 ⟨fun i hi=>e i hi ▸ h.rows i hi,h.free,h.low,h.inj⟩
structure Nv (w:World) (B c:Nat) (a:Option Addr) (len cap:Nat) (wr:World) (q:Nat) (gb cp:Nat→Nat) (F:Nat→Nat→Int) (ov:Value):Prop where
 bk:Ez wr (w.heap.size+2) q gb F
 own:wr.ownsRow (w.heap.size+2) 25 1 ov q (Ko q gb cp)
 dj:∀ g,ov.ownBlock=some g→∀ i,i<q→gb i≠g
 cx:wr.cell? ⟨w.heap.size+1,0,none⟩=some ov
 fx:wr.frozen? ⟨w.heap.size+1,0,none⟩=false
 rx:wr.cell? ⟨w.heap.size,0,none⟩=some (.slice none 0 0)
 rf:wr.frozen? ⟨w.heap.size,0,none⟩=false
 lt:c<w.heap.size
 cur:Dc wr B c a len cap
 st:Step c w wr
 sz:w.heap.size+2≤wr.heap.size
 vals:∀ i j,0≤F i j∧F i j≤255
section
variable {w:World} {B c:Nat} {a:Option Addr} {len cap:Nat} {wr w2 w3:World} {q:Nat} {gb cp:Nat→Nat} {F:Nat→Nat→Int} {ov:Value}
theorem Nv.drawn (G:Nv w B c a len cap wr q gb cp F ov) (S2:Step c wr.drew w2):w2.cell? ⟨w.heap.size+1,0,none⟩=some ov∧w2.frozen? ⟨w.heap.size+1,0,none⟩=false∧w2.ownsRow (w.heap.size+2) 25 1 ov q (Ko q gb cp)∧w.heap.size+2≤w2.heap.size:=by
 have hz:=G.sz;have hl:=G.lt;have hX:=S2.block (w.heap.size+1) (show _<wr.heap.size by omega) (by omega);refine ⟨(World.cell?_of_block (a:=⟨w.heap.size+1,0,none⟩) hX).trans G.cx,(World.frozen?_of_block (a:=⟨w.heap.size+1,0,none⟩) hX).trans G.fx,Hi (w:=wr) G.own (fun k hk=>?_),Nat.le_trans hz S2.size⟩;have hk':=G.own.lt k hk;exact S2.block k hk'.2 (by omega)
theorem Nv.snoc (G:Nv w B c a len cap wr q gb cp F ov) (S2:Step c wr.drew w2) (H2:Dc w2 B c a len cap) {f:Nat→Int} (hR2:w2.rowIs wr.heap.size 3 256 (fun j=>.i (f j))) (hf:∀ j,0≤f j∧f j≤255) {o:Obj} {g3 c3:Nat}
  (hown3:w3.ownsRow (w.heap.size+2) 25 1 (.slice (some ⟨g3,0,none⟩) (q+1) c3) (q+1) (Ko q gb cp++[.slice (some ⟨wr.heap.size,0,none⟩) 256 256])) (hgrow:(w2.alloc o).grownBy w3 ov.ownBlock) (hat:ov.ownBlock=some g3∨g3=(w2.alloc o).heap.size) :
  Nv w B c a len cap (w3.setCell ⟨w.heap.size+1,0,none⟩ (.slice (some ⟨g3,0,none⟩) (q+1) c3)) (q+1) (fun i=>if i=q then wr.heap.size else gb i) (fun i=>if i=q then 256 else cp i) (fun i=>if i=q then f else F i) (.slice (some ⟨g3,0,none⟩) (q+1) c3):=by
 obtain ⟨hX2,fX2,hO2,hz2⟩:=G.drawn S2;have hz:=G.sz;have hl:=G.lt;have hs2:wr.heap.size≤w2.heap.size:=S2.size;have hOB:=G.own.lt
 have hne:∀ k,k<w.heap.size+2→some k≠ov.ownBlock:=fun k hk e=>by have:=(hOB _ e.symm).1; omega
 have hsz3:w2.heap.size+1≤w3.heap.size:=by have:=hgrow.size; simpa using this
 have hblk:∀ k,k<w2.heap.size→some k≠ov.ownBlock→w3.heap[k]?=w2.heap[k]?:=fun k hk hn=>(hgrow.block k (by simp; omega) hn).trans (((Below.refl _ _).alloc (Nat.le_refl _) o:Below w2.heap.size w2 (w2.alloc o)).block k hk)
 have hbel:Below (w.heap.size+1) w2 (w3.setCell ⟨w.heap.size+1,0,none⟩ (.slice (some ⟨g3,0,none⟩) (q+1) c3)) :=
  (((((Below.refl _ _).alloc (Nat.le_refl _) o:Below w2.heap.size w2 (w2.alloc o)).mono (by omega:w.heap.size+1≤_)).grown hgrow (by simp; omega) (fun k hk=>by have:=(hOB k hk).1; omega))).setCell (Nat.le_refl _) _
 have hset:∀ k,k≠w.heap.size+1→(w3.setCell ⟨w.heap.size+1,0,none⟩ (.slice (some ⟨g3,0,none⟩) (q+1) c3)).heap[k]?=w3.heap[k]?:=fun k hk=>Below.heap_setCell _ _ _ _ hk
 have hX3:w3.cell? ⟨w.heap.size+1,0,none⟩=some ov:=(World.cell?_of_block (a:=⟨w.heap.size+1,0,none⟩) (hblk (w.heap.size+1) (by omega) (hne _ (by omega)))).trans hX2;have hF3:w3.frozen? ⟨w.heap.size+1,0,none⟩=false:=(World.frozen?_of_block (a:=⟨w.heap.size+1,0,none⟩) (hblk (w.heap.size+1) (by omega) (hne _ (by omega)))).trans fX2
 have hgn:some wr.heap.size≠ov.ownBlock:=fun e=>by have:=(hOB _ e.symm).2; omega
 have BK2:Ez w2 (w.heap.size+2) q gb F:=G.bk.keep hs2 (fun i hi=>S2.block (gb i) (G.bk.low i hi).2 (by have:=(G.bk.low i hi).1; omega));have BK:Ez w3 (w.heap.size+2) q gb F:=BK2.keep (by omega) (fun i hi=>hblk (gb i) (BK2.low i hi).2 (fun e=>G.dj _ e.symm i hi rfl));have BK':Ez w3 (w.heap.size+2) q gb (fun i=>if i=q then f else F i):=BK.congrF (fun i hi=>by simp [Nat.ne_of_lt hi]);have hgl:wr.heap.size<w2.heap.size:=hR2.lt;have BN:=BK'.snoc (g:=wr.heap.size) (fun j hj=>⟨wr.heap.size,0,rfl,(World.cell?_of_block (a:=⟨wr.heap.size,0+j,none⟩) (hblk _ hgl hgn)).trans (by rw [Nat.zero_add,hR2.cell hj]; simp)⟩) (fun o=>(World.frozen?_of_block (a:=⟨wr.heap.size,o,none⟩) (hblk _ hgl hgn)).trans (hR2.frozen o)) hz (by omega) (fun i hi=>by have:=(G.bk.low i hi).2; omega);rw [← Q8 q wr.heap.size 256 gb cp] at hown3
 refine ⟨BN.keep (by simp) (fun i hi=>hset _ (by have:=(BN.low i hi).1; omega)),Hi hown3 (fun k hk=>hset k (by have:=(hown3.lt k hk).1; omega)),fun g' hg' i hi=>?_,World.cell?_setCell_same _ _ _ hX3,by rw [World.frozen?_setCell]; exact hF3,?_,?_,hl,H2.below (hbel.mono (by omega:c+1≤_)) (Nat.lt_succ_self c),((G.st.trans (⟨S2.os,S2.tape,S2.output,S2.size,S2.block⟩:Step c wr w2)).low (hbel.mono (by omega))),by simp; omega,fun i j=>?_⟩
 ·have eg:g3=g':=by simpa [Value.ownBlock] using hg'
  subst eg
  rcases hat with h | h
  ·by_cases ei:i=q
   ·rw [if_pos ei]; have:=(hOB _ h).2; omega
   ·rw [if_neg ei]; exact G.dj _ h i (by omega)
  ·have h':g3=w2.heap.size+1:=by simpa using h
   by_cases ei:i=q
   ·rw [if_pos ei]; omega
   ·rw [if_neg ei]; have:=(G.bk.low i (by omega)).2; omega
 ·exact ((hbel.cell (p:=⟨w.heap.size,0,none⟩) (by show w.heap.size<_; omega)).trans (World.cell?_of_block (a:=⟨w.heap.size,0,none⟩) (S2.block w.heap.size (show _<wr.heap.size by omega) (by omega)))).trans G.rx
 ·exact ((hbel.frozen (p:=⟨w.heap.size,0,none⟩) (by show w.heap.size<_; omega)).trans (World.frozen?_of_block (a:=⟨w.heap.size,0,none⟩) (S2.block w.heap.size (show _<wr.heap.size by omega) (by omega)))).trans G.rf
 ·by_cases ei:i=q
  ·simpa [ei] using hf j
  ·simpa [ei] using G.vals i j
end
theorem Cl.blocks {w w':World} {lo:Nat} {v:Value} {m:Nat} {ra:Nat→Option Addr} {ln rc:Nat→Nat} {f:Nat→Nat→Int} (h:Cl w lo v m ra ln rc f) (hs:w.heap.size≤w'.heap.size) (hb:∀ k,lo≤k→k<w.heap.size→w'.heap[k]?=w.heap[k]?):Cl w' lo v m ra ln rc f:=by
 obtain ⟨⟨⟨a,cap,hv,hm,ho⟩,hf,hdj,hsm⟩,hr,hi,hou,hl⟩:=h;refine ⟨⟨⟨a,cap,hv,hm,fun i hi'=>?_⟩,fun i hi' b o hF=>?_,hdj,hsm⟩,fun i hi' j hj=>?_,hi,hou,hl⟩
 ·obtain ⟨b,off,ha,hc,hn⟩:=ho i hi'
  exact ⟨b,off,ha,(World.cell?_of_block (a:=⟨b,off+i,none⟩) (hb b (hou a cap hv b (off+i) (by rw [ha]; exact Bj hi')) (block_lt_of_cell hc))).trans hc,hn⟩
 ·obtain ⟨h1,h2⟩:=hf i hi' b o hF
  exact ⟨Nat.lt_of_lt_of_le h1 hs,(World.frozen?_of_block (a:=⟨b,o,none⟩) (hb b (hi i hi' b o hF) h1)).trans h2⟩
 ·obtain ⟨b,off,ha,hc⟩:=hr i hi' j hj
  exact ⟨b,off,ha,(World.cell?_of_block (a:=⟨b,off+j,none⟩) (hb b (hi i hi' b (off+j) (by rw [ha]; exact Bj hj)) (block_lt_of_cell hc))).trans hc⟩
structure Lb (w:World) (B c:Nat) (a:Option Addr) (len cap:Nat) (W:World) (m go co:Nat) (ra:Nat→Option Addr) (rc:Nat→Nat) (F:Nat→Nat→Int):Prop where
 ss:Cl W (w.heap.size+2) (.slice (some ⟨go,0,none⟩) m co) m ra (fun _=>256) rc F
 fr:∀ i,i<m→W.frozen? ⟨go,i,none⟩=false
 gl:w.heap.size+2≤go∧go<W.heap.size
 cx:W.cell? ⟨w.heap.size+1,0,none⟩=some (.slice (some ⟨go,0,none⟩) m co)
 rx:W.cell? ⟨w.heap.size,0,none⟩=some (.slice none 0 0)
 rf:W.frozen? ⟨w.heap.size,0,none⟩=false
 lt:c<w.heap.size
 cur:Dc W B c a len cap
 st:Step c w W
 sz:w.heap.size+2≤W.heap.size
 vals:∀ i j,i<m→j<256→0≤F i j∧F i j≤255
theorem Nv.img {w:World} {B c:Nat} {a:Option Addr} {len cap:Nat} {W:World} {m:Nat} {gb cp:Nat→Nat} {F:Nat→Nat→Int} {ov:Value} (G:Nv w B c a len cap W m gb cp F ov) (h1:1≤m) (h3:m≤3) :
  ∃ go co,ov=.slice (some ⟨go,0,none⟩) m co∧Lb w B c a len cap W m go co (fun i=>some ⟨gb i,0,none⟩) cp F:=by
 obtain ⟨go,co,rfl,hg,hlt⟩:=G.own.form (by omega);refine ⟨go,co,rfl,⟨Q9 G.bk G.own hg (fun i hi=>G.dj go rfl i hi) (by omega),fun i _=>G.own.frozenAt i,⟨hg,hlt⟩,G.cx,G.rx,G.rf,G.lt,G.cur,G.st,G.sz,fun i j _ _=>G.vals i j⟩⟩
section
variable {w:World} {B c:Nat} {a:Option Addr} {len cap:Nat} {W W':World} {m go co:Nat} {ra:Nat→Option Addr} {rc:Nat→Nat} {F:Nat→Nat→Int}
theorem Lb.step (I:Lb w B c a len cap W m go co ra rc F) (S:Step c W W') (H:Dc W' B c a len cap):Lb w B c a len cap W' m go co ra rc F:=by
 have hl:=I.lt;have hz:=I.sz;have hX:=S.block (w.heap.size+1) (by omega) (by omega);have hR:=S.block w.heap.size (by omega) (by omega);have hG:=S.block go I.gl.2 (by have:=I.gl.1; omega)
 exact ⟨I.ss.blocks S.size (fun k hk hk'=>S.block k hk' (by omega)),fun i hi=>(World.frozen?_of_block (a:=⟨go,i,none⟩) hG).trans (I.fr i hi),⟨I.gl.1,Nat.lt_of_lt_of_le I.gl.2 S.size⟩,(World.cell?_of_block (a:=⟨w.heap.size+1,0,none⟩) hX).trans I.cx,(World.cell?_of_block (a:=⟨w.heap.size,0,none⟩) hR).trans I.rx,
  (World.frozen?_of_block (a:=⟨w.heap.size,0,none⟩) hR).trans I.rf,hl,H,I.st.trans S,Nat.le_trans hz S.size,I.vals⟩
theorem Lb.at_ (I:Lb w B c a len cap W m go co ra rc F) (i:Nat) (hi:i<m):∃ b off,ra i=some ⟨b,off,none⟩∧w.heap.size+2≤b∧b<W.heap.size∧W.cell? ⟨go,i,none⟩=some (.slice (some ⟨b,off,none⟩) 256 (rc i))∧(∀ j,j<256→(∃ x,W.cell? ⟨b,off+j,none⟩=some (.i x))∧W.frozen? ⟨b,off+j,none⟩=false):=by
 obtain ⟨b,off,ha,hc⟩:=I.ss.rows i hi 0 (by decide)
 have hF:∀ j,j<256→Cd (ra i) 256 b (off+j):=fun j hj=>by rw [ha]; exact Bj hj
 obtain ⟨a2,cap2,e2,_,ho⟩:=I.ss.sep.outer;obtain ⟨b3,off3,e3,hc3,hn3⟩:=ho i hi;simp only [Value.slice.injEq] at e2;obtain ⟨e2,_,_⟩:=e2;rw [← e2] at e3;simp only [Option.some.injEq,Addr.mk.injEq,and_true] at e3;obtain ⟨rfl,rfl⟩:=e3;refine ⟨b,off,ha,I.ss.inner i hi _ _ (hF 0 (by decide)),block_lt_of_cell hc,by rw [← ha]; simpa using hc3,fun j hj=>⟨?_,(I.ss.sep.free i hi _ _ (hF j hj)).2⟩⟩
 ·obtain ⟨b',off',ha',hc'⟩:=I.ss.rows i hi j hj
  rw [ha] at ha';simp only [Option.some.injEq,Addr.mk.injEq,and_true] at ha';obtain ⟨rfl,rfl⟩:=ha';exact ⟨_,hc'⟩
theorem Lb.cellOf (I:Lb w B c a len cap W m go co ra rc F) {i b off:Nat} (hi:i<m) (ha:ra i=some ⟨b,off,none⟩) (j:Nat) (hj:j<256):(∃ x,W.cell? ⟨b,off+j,none⟩=some (.i x))∧W.frozen? ⟨b,off+j,none⟩=false:=by
 obtain ⟨b',off',ha',_,_,_,h⟩:=I.at_ i hi;rw [ha] at ha';simp only [Option.some.injEq,Addr.mk.injEq,and_true] at ha';obtain ⟨rfl,rfl⟩:=ha';exact h j hj
theorem Lb.outFree (I:Lb w B c a len cap W m go co ra rc F) (p:Addr) (x:Value):Hm (W.setCell p x) (.slice (some ⟨go,0,none⟩) m co) m:=fun a' cap' e b o hF=>by
 simp only [Value.slice.injEq] at e;obtain ⟨rfl,_,_⟩:=e;obtain ⟨off,e,h1,h2⟩:=hF;simp only [Option.some.injEq,Addr.mk.injEq,and_true] at e;obtain ⟨rfl,rfl⟩:=e;exact ⟨by simpa using I.gl.2,by rw [World.frozen?_setCell]; exact I.fr o (by omega)⟩
theorem Lb.at (I:Lb w B c a len cap W m go co ra rc F) {b o:Nat} {x:Value} (hb:w.heap.size+2≤b) {ra':Nat→Option Addr} {rc':Nat→Nat} {F':Nat→Nat→Int} (hs:Cl (W.setCell ⟨b,o,none⟩ x) (w.heap.size+2) (.slice (some ⟨go,0,none⟩) m co) m ra' (fun _=>256) rc' F')
  (hv:∀ i j,i<m→j<256→0≤F' i j∧F' i j≤255):Lb w B c a len cap (W.setCell ⟨b,o,none⟩ x) m go co ra' rc' F':=by
 have hl:=I.lt;have hbel:Below (w.heap.size+2) W (W.setCell ⟨b,o,none⟩ x):=(Below.refl _ _).setCell hb x;exact ⟨hs,fun i hi=>by rw [World.frozen?_setCell]; exact I.fr i hi,by simpa using I.gl,(hbel.cell (by show w.heap.size+1<_; omega)).trans I.cx,(hbel.cell (by show w.heap.size<_; omega)).trans I.rx,(hbel.frozen (by show w.heap.size<_; omega)).trans I.rf,hl,I.cur.below hbel (by omega),I.st.low (hbel.mono (by omega)),by simpa using I.sz,hv⟩
theorem Lb.setInner (I:Lb w B c a len cap W m go co ra rc F) (i j b off:Nat) (hi:i<m) (hj:j<256) (ha:ra i=some ⟨b,off,none⟩) (x:Int) (hx:0≤x∧x≤255) :
  Lb w B c a len cap (W.setCell ⟨b,off+j,none⟩ (.i x)) m go co ra rc (fun p q=>if p=i∧q=j then x else F p q) :=
 I.at (I.ss.inner i hi b (off+j) (by rw [ha]; exact Bj hj)) (I.ss.setInner i j b off hi hj ha x) (fun p q hp hq=>by
  show 0≤(if p=i∧q=j then x else F p q)∧(if p=i∧q=j then x else F p q)≤255
  split
  ·exact hx
  ·exact I.vals p q hp hq)
theorem Lb.setOuter (I:Lb w B c a len cap W m go co ra rc F) (i:Nat) (hi:i<m) (lo:Nat) (hlo:∀ p,p<m→∀ b o,Cd (ra p) 256 b o→b<lo) (hgo:go<lo) (a':Option Addr) (c':Nat) (g:Nat→Int) (hr:Bv .i64 W a' 256 g) (hfr:Ie W (Cd a' 256)) (hnew:∀ b o,Cd a' 256 b o→lo≤b)
  (hlo2:w.heap.size+2≤lo) (hg:∀ j,j<256→0≤g j∧g j≤255) :
  Lb w B c a len cap (W.setCell ⟨go,i,none⟩ (.slice a' 256 c')) m go co (fun p=>if p=i then a' else ra p) (fun p=>if p=i then c' else rc p) (fun p=>if p=i then g else F p):=by
 have hs:=I.ss.setOuter i go 0 co hi rfl a' 256 c' g hr hfr (fun b o hF=>by have:=hnew b o hF; omega) (by decide) (fun b' o' h1 h2=>by
  have:=hnew _ _ h1;obtain ⟨off,e,_⟩:=h2;simp only [Option.some.injEq,Addr.mk.injEq,and_true] at e
  omega) (fun p hp _ b' o' h1 h2=>by have:=hnew _ _ h1; have:=hlo p hp _ _ h2; omega)
 rw [Nat.zero_add] at hs
 have e:(fun p=>if p=i then 256 else (fun _:Nat=>256) p)=fun _:Nat=>256:=by funext p; split <;> rfl
 rw [e] at hs;refine I.at I.gl.1 hs (fun p q hp hq=>?_)
 by_cases ei:p=i
 ·simpa [ei] using hg q hq
 ·simpa [ei] using I.vals p q hp hq
end
set_option linter.unusedVariables false
theorem Au.blocks {w w':World} {lo:Nat} {v:Value} {n:Nat} {f:Nat→Int} (h:Au w lo v n f) (hs:w.heap.size≤w'.heap.size) (hb:∀ k,lo≤k→k<w.heap.size→w'.heap[k]?=w.heap[k]?):Au w' lo v n f:=by
 obtain ⟨a,cap,hv,hn,hr,hF,hL⟩:=h;refine ⟨a,cap,hv,hn,fun i hi=>?_,fun b o hf=>?_,hL⟩
 ·obtain ⟨b,off,ha,hc⟩:=hr i hi
  exact ⟨b,off,ha,(World.cell?_of_block (a:=⟨b,off+i,none⟩) (hb b (hL b (off+i) (by rw [ha]; exact Bj hi)) (block_lt_of_cell hc))).trans hc⟩
 ·obtain ⟨h1,h2⟩:=hF b o hf
  exact ⟨Nat.lt_of_lt_of_le h1 hs,(World.frozen?_of_block (a:=⟨b,o,none⟩) (hb b (hL b o hf) h1)).trans h2⟩
set_option linter.unusedSimpArgs false
structure Dk (W:World) (lo:Nat) (D:Nat→Prop) (v:Value) (t c s ad pl:Int) (bl:Bool) (n:Nat) (f:Nat→Int) (m:Nat) (g:Nat→Int):Prop where
 ex:∃ u u' o o',v=.agg (pR t c s ad pl bl u u')∧B9 W lo o u n f∧B9 W lo o' u' m g∧Wi o o'∧∀ b,(o=some b∨o'=some b)→D b
section
variable {R:Nat→Nat→Prop} {W W':World} {lo lo':Nat} {D E:Nat→Prop} {v:Value} {t c s ad pl:Int} {bl:Bool} {n m:Nat} {f g:Nat→Int}
theorem Dk.on (h:Dk W lo D v t c s ad pl bl n f m g):Bt W D v t c s ad pl bl n f m g:=by
 obtain ⟨u,u',o,o',rfl,h1,h2,h3,h4⟩:=h;exact (Tg h1 h2 h3).mono (fun b _ h=>h4 b h)
theorem Dk.keep (h:Dk W lo D v t c s ad pl bl n f m g) (hw:Wrote R W W') (hd:∀ b o,D b→b<W.heap.size→¬ R b o):Dk W' lo D v t c s ad pl bl n f m g:=by
 obtain ⟨u,u',o,o',e,h1,h2,h3,h4⟩:=h;exact ⟨u,u',o,o',e,h1.keep hw (fun q hq _ hl k=>hd q k (h4 q (Or.inl hq)) hl),h2.keep hw (fun q hq _ hl k=>hd q k (h4 q (Or.inr hq)) hl),h3,h4⟩
theorem Dk.below (h:Dk W lo D v t c s ad pl bl n f m g) (L:Below W.heap.size W W'):Dk W' lo D v t c s ad pl bl n f m g:=h.keep (Aa L Ah) (fun _ _ _ _ x=>x)
theorem Dk.mono (h:Dk W lo D v t c s ad pl bl n f m g) (hd:∀ b,b<W.heap.size→D b→E b):Dk W lo E v t c s ad pl bl n f m g:=by
 obtain ⟨u,u',o,o',e,h1,h2,h3,h4⟩:=h;refine ⟨u,u',o,o',e,h1,h2,h3,fun b hb=>hd b ?_ (h4 b hb)⟩
 rcases hb with rfl | rfl
 ·exact h1.lt.2
 ·exact h2.lt.2
theorem Dk.lower (h:Dk W lo D v t c s ad pl bl n f m g) (hl:lo'≤lo):Dk W lo' D v t c s ad pl bl n f m g:=by
 obtain ⟨u,u',o,o',e,h1,h2,h3,h4⟩:=h;exact ⟨u,u',o,o',e,h1.mono hl,h2.mono hl,h3,h4⟩
theorem Dk.two (h:Dk W lo D v t c s ad pl bl n f m g):∃ a x b y,v=.agg (pR t c s ad pl bl (.slice a n x) (.slice b m y)):=h.on.two
theorem Dk.ints (h:Dk W lo D v t c s ad pl bl n f m g):∃ u u',v=.agg (pR t c s ad pl bl u u')∧Ints .i64 W (On D) u n f∧Ints .i64 W (On D) u' m g:=h.on.ints
end
def P9 (m:Nat) (ov:Nat→Value):List Value:=(List.range m).map ov
theorem Qa {m i:Nat} (ov:Nat→Value) (hi:i<m):(P9 m ov)[i]?=some (ov i):=by unfold P9; simp [hi]
theorem Bm.vals {w:World} {F:Nat→Nat→Prop} {a:Option Addr} {m cap:Nat} {ln:Nat→Nat} {f:Nat→Nat→Int} (H:Bm .i64 w F (.slice a m cap) m ln f):∃ ov:Nat→Value,(∀ i,i<m→Ints .i64 w F (ov i) (ln i) (f i))∧∀ i,i<m→∃ b off,a=some ⟨b,off,none⟩∧w.cell? ⟨b,off+i,none⟩=some (ov i):=by
 obtain ⟨a',cap',e,hm,hF,hc⟩:=H;simp only [Value.slice.injEq,true_and] at e;obtain ⟨rfl,rfl⟩:=e
 have key:∀ i,∃ u:Value,i<m→Ints .i64 w F u (ln i) (f i)∧∃ b off,a=some ⟨b,off,none⟩∧w.cell? ⟨b,off+i,none⟩=some u:=fun i=>by
  by_cases hi:i<m
  ·obtain ⟨b,off,u,h1,h2,h3⟩:=hc i hi
   exact ⟨u,fun _=>⟨h3,b,off,h1,h2⟩⟩
  ·exact ⟨undef,fun h=>absurd h hi⟩
 obtain ⟨ov,hov⟩:=Classical.axiomOfChoice key;exact ⟨ov,fun i hi=>(hov i hi).1,fun i hi=>(hov i hi).2⟩
structure SA (W:World) (lo:Nat) (v:Value) (m q:Nat) (ob:Nat→Option Nat) (iv ov:Nat→Value) (ln:Nat→Nat) (f:Nat→Nat→Int):Prop where
 own:W.ownsRow lo 25 1 v m (P9 m (fun i=>if i<q then iv i else ov i))
 rows:∀ i,i<q→B9 W lo (ob i) (iv i) (ln i) (f i)
 inj:∀ i j,i<q→j<q→i≠j→Wi (ob i) (ob j)
 dj:∀ g,v.ownBlock=some g→∀ i,i<q→ob i≠some g
 small:m≤1048576
section
variable {W W':World} {lo m q:Nat} {v:Value} {ob:Nat→Option Nat} {iv ov:Nat→Value} {ln:Nat→Nat} {f:Nat→Nat→Int} {R:Nat→Nat→Prop}
theorem SA.keep (H:SA W lo v m q ob iv ov ln f) (hw:Wrote R W W') (h1:∀ g o,v.ownBlock=some g→¬ R g o) (h2:∀ i b o,i<q→ob i=some b→¬ R b o):SA W' lo v m q ob iv ov ln f :=
 ⟨G7 H.own (fun g hg=>hw.block g (Dh H.own hg).2 (fun o=>h1 g o hg)),fun i hi=>(H.rows i hi).keep hw (fun b hb _ _ o=>h2 i b o hi hb),H.inj,H.dj,H.small⟩
theorem SA.below (H:SA W lo v m q ob iv ov ln f) (L:Below W.heap.size W W'):SA W' lo v m q ob iv ov ln f:=H.keep (Aa L Ah) (fun _ _ _ x=>x) (fun _ _ _ _ _ x=>x)
theorem SA.mono {lo':Nat} (H:SA W lo v m q ob iv ov ln f) (h:lo'≤lo):SA W lo' v m q ob iv ov ln f :=
 ⟨P8 H.own h,fun i hi=>(H.rows i hi).mono h,H.inj,H.dj,H.small⟩
theorem SA.form (H:SA W lo v m q ob iv ov ln f):∃ a c,v=.slice a m c:=by
 rcases H.own.2 with ⟨e,e0⟩ | ⟨g,c,cur,hv,-⟩
 ·have:m=0:=e0
  exact ⟨none,0,by rw [e,this]⟩
 ·exact ⟨_,_,hv⟩
theorem SA.cell {g c:Nat} (H:SA W lo (.slice (some ⟨g,0,none⟩) m c) m q ob iv ov ln f) {i:Nat} (hi:i<m):W.cell? ⟨g,i,none⟩=some (if i<q then iv i else ov i):=by
 have:=Gm H.own i _ (Qa _ hi)
 rwa [F5,Nat.zero_add] at this
def Wk:Value→Option Addr
 | .slice a _ _=>a
 | _=>none
def Wp:Value→Nat
 | .slice _ _ c=>c
 | _=>0
theorem SA.onD (H:SA W lo v m m ob iv ov ln f) {D:Nat→Prop} (hD:∀ b,(v.ownBlock=some b∨∃ i,i<m∧ob i=some b)→D b) (hs:Cv ln m≤1099511627776):Ck W D v m ln f:=by
 have hsl:∀ i,i<m→iv i=.slice (Wk (iv i)) (ln i) (Wp (iv i))∧Bl W (fun b=>ob i=some b) (Wk (iv i)) (ln i) (f i):=fun i hi=>by
  obtain ⟨a,x,e,hS⟩:=(H.rows i hi).sl;rw [e];exact ⟨rfl,hS⟩
 rcases id H.own.2 with ⟨e,e0⟩ | ⟨g,c,cur,hv,hb,hg,k1,k2,k3,k4⟩
 ·have hq:m=0:=e0
  subst hq;subst e;refine ⟨fun _=>none,fun _=>0,⟨⟨none,0,rfl,by omega,fun i hi=>absurd hi (Nat.not_lt_zero _)⟩,fun i hi=>absurd hi (Nat.not_lt_zero _),fun i j hi=>absurd hi (Nat.not_lt_zero _),hs⟩,fun i hi=>absurd hi (Nat.not_lt_zero _),fun i hi=>absurd hi (Nat.not_lt_zero _),fun a cap e b o hF=>absurd hF (Ay _ _ _),fun i hi=>absurd hi (Nat.not_lt_zero _)⟩
 ·subst hv
  have hob:(Value.slice (some ⟨g,0,none⟩) m c).ownBlock=some g:=rfl;refine ⟨fun i=>Wk (iv i),fun i=>Wp (iv i),⟨⟨_,_,rfl,H.small,fun i hi=>⟨g,0,rfl,?_,fun j hj hF=>H.dj g hob j hj ((hsl j hj).2.on _ _ hF)⟩⟩,fun i hi=>(hsl i hi).2.free,fun i j hi hj hij b o h1 h2=>H.inj i j hi hj hij b ((hsl i hi).2.on _ _ h1) ((hsl j hj).2.on _ _ h2),hs⟩,fun i hi=>(hsl i hi).2.row,fun i hi b o hF=>hD b (Or.inr ⟨i,hi,(hsl i hi).2.on _ _ hF⟩),fun a cap e b o hF=>?_,fun i hi=>(hsl i hi).2.small⟩
  ·rw [Nat.zero_add,H.cell hi,if_pos hi]
   exact congrArg some (hsl i hi).1
  ·simp only [Value.slice.injEq,true_and] at e
   obtain ⟨rfl,-⟩:=e;obtain ⟨off,e,_,_⟩:=hF;simp only [Option.some.injEq,Addr.mk.injEq] at e;rw [← e.1];exact hD _ (Or.inl rfl)
end
theorem Ap {P:Program} {ops:Array Oper} {rest:List Oper} {o:Oper} {a:Act} {w:World} {Q:Exit→Act→World→Prop} (hg:o.guard=none)
  (f:FuncId) (args:Array Value) (hrun:(execOp a.eval o).run P w=.ok (.enter f args) w) {R:Ending→World→Prop} (hc:Calls P f args w R)
  (h:∀ e w',R e w'→∃ v,e=.returned v∧wpList P ops Q rest (a.put o.dst v) w'):wpList P ops Q (o :: rest) a w:=by
 refine wpList_plain hg fun K hK=>?_
 unfold Oper.wp;rw [hrun,Oper.upon_enter]
 refine hc.mono fun e w' hh=>?_
 obtain ⟨v,rfl,hw⟩:=h e w' hh;exact hK _ _ hw
theorem Tx {W:World} {g z:Nat} {c1 c2:Array Value} {t1 t2:TypeId} {f1 f2:Nat × Nat} (h:W.heap[g]?=some (Obj.cells c1 t1 f1)) (k:W.heap[z]?=some (Obj.cells c2 t2 f2)) (ht:t1≠t2):g≠z:=fun e=>by
 subst e;rw [h] at k
 injection k with k
 injection k with _ k' _
 exact ht k'
def rowL (u0 u1 u2 u3 u4 ov:Value) (g6 c6 g7 c7:Nat) (d:Am):Array Value:=(kR d u0 u1 u2 u3 u4 ov (.slice (some ⟨g6,0,none⟩) d.ns c6) (.slice (some ⟨g7,0,none⟩) d.nq c7))
structure Bx (w W:World) (lo b r:Nat) (rs cs:Array Value):Prop where
 box:W.heap[b]?=some (.cells cs 44 (0,0))
 res:W.heap[r]?=some (.cells rs 44 (0,0))
 low:Below lo w W
 kept:C7 w W
 up:w.heap.size≤b
 up2:w.heap.size≤r
 ne:r≠b
 hl:lo≤w.heap.size
section
variable {w W W':World} {lo b r:Nat} {rs cs:Array Value}
theorem Bx.below (H:Bx w W lo b r rs cs) (L:Below W.heap.size W W'):Bx w W' lo b r rs cs :=
 ⟨Ac H.box L (Af H.box),Ac H.res L (Af H.res),H.low.trans (L.mono (Nat.le_trans H.hl H.low.size)),H.kept.trans (C7.below L),H.up,H.up2,H.ne,H.hl⟩
theorem Bx.turn (H:Bx w W lo b r rs cs) (L:Below lo W W') (K:C7 W W'):Bx w W' lo b r rs cs :=
 ⟨K.2 _ _ _ H.box (by decide) (by decide),K.2 _ _ _ H.res (by decide) (by decide),H.low.trans L,H.kept.trans K,H.up,H.up2,H.ne,H.hl⟩
theorem Bx.wrote (H:Bx w W lo b r rs cs) {z:Nat} (hz:z=b∨z=r) (hw:Wrote (fun x _=>x=z) W W'):Below lo w W'∧C7 w W' :=
 have h1:=H.up;have h3:=H.up2;have h2:=H.hl
 ⟨H.low.trans (hw.below (Nat.le_trans H.hl H.low.size) (fun x o hb (e:x=z)=>by omega)),H.kept.wrote hw (fun x o hb (e:x=z)=>by exfalso; omega)⟩
theorem Bx.set (H:Bx w W lo b r rs cs) (cs':Array Value):Bx w (W.setRow b cs') lo b r rs cs' :=
 have hw:=Ao H.box cs';have k:=H.wrote (Or.inl rfl) hw
 ⟨setRow_heap _ _ _ cs' _ _ H.box,Ag H.res hw (fun o (e:r=b)=>H.ne e),k.1,k.2,H.up,H.up2,H.ne,H.hl⟩
theorem Bx.out (H:Bx w W lo b r rs cs) (rs':Array Value):Bx w (W.setRow r rs') lo b r rs' cs :=
 have hw:=Ao H.res rs';have k:=H.wrote (Or.inr rfl) hw
 ⟨Ag H.box hw (fun o (e:b=r)=>H.ne e.symm),setRow_heap _ _ _ rs' _ _ H.res,k.1,k.2,H.up,H.up2,H.ne,H.hl⟩
theorem Bx.cellW (H:Bx w W lo b r rs cs) (o:Nat) (v:Value):Wrote (fun x _=>x=b) W (W.setCell ⟨b,o,none⟩ v):=Wrote.setCell (b:=b) (o:=o) (R:=fun x _=>x=b) (Wrote.refl _ W) (fun _=>rfl) v
theorem Bx.cell (H:Bx w W lo b r rs cs) (o:Nat) (v:Value):Bx w (W.setCell ⟨b,o,none⟩ v) lo b r rs (cs.setIfInBounds o v) :=
 have hw:=H.cellW o v;have k:=H.wrote (Or.inl rfl) hw
 ⟨An H.box v,Ag H.res hw (fun o (e:r=b)=>H.ne e),k.1,k.2,H.up,H.up2,H.ne,H.hl⟩
end
structure Lx (w W:World) (lo N b r:Nat) (E D:Nat→Nat→Prop) (u0 u1 u2 u3 u4 ov:Value) (gb cp:Nat→Nat) (g6 c6 g7 c7:Nat) (d:Am):Prop where
 lp:Av W lo N D u0 u1 u2 u3 u4 ov gb cp g6 c6 g7 c7 d
 ap:∀ i k,D i k→k≠b∧k≠r
 nr:Ox w E D
 nl:lo≤N
section
variable {w W W':World} {lo N b r:Nat} {E D:Nat→Nat→Prop} {u0 u1 u2 u3 u4 ov:Value} {gb cp:Nat→Nat} {g6 c6 g7 c7:Nat} {d:Am} {rs cs:Array Value}
theorem Lx.below (H:Lx w W lo N b r E D u0 u1 u2 u3 u4 ov gb cp g6 c6 g7 c7 d) (L:Below W.heap.size W W'):Lx w W' lo N b r E D u0 u1 u2 u3 u4 ov gb cp g6 c6 g7 c7 d:=⟨H.lp.below L,H.ap,H.nr,H.nl⟩
theorem Lx.wrote (H:Lx w W lo N b r E D u0 u1 u2 u3 u4 ov gb cp g6 c6 g7 c7 d) (B:Bx w W lo b r rs cs) {z:Nat} (hz:z=b∨z=r) (hw:Wrote (fun x _=>x=z) W W'):Lx w W' lo N b r E D u0 u1 u2 u3 u4 ov gb cp g6 c6 g7 c7 d:=by
 have kz:∃ c,W.heap[z]?=some (.cells c 44 (0,0)):=by
  rcases hz with e | e
  ·exact ⟨_,e ▸ B.box⟩
  ·exact ⟨_,e ▸ B.res⟩
 obtain ⟨c,kz⟩:=kz;obtain ⟨k6,h6⟩:=H.lp.h6.cur;obtain ⟨k7,h7⟩:=H.lp.h7.cur;exact ⟨H.lp.keepD hw (fun i x o h (e:x=z)=>by have:=H.ap i x h; omega) (fun o (e:g6=z)=>Tx h6 kz (by decide) e) (fun o (e:g7=z)=>Tx h7 kz (by decide) e),H.ap,H.nr,H.nl⟩
theorem Lx.nmi (H:Lx w W lo N b r E D u0 u1 u2 u3 u4 ov gb cp g6 c6 g7 c7 d) (x:Bool):Lx w W lo N b r E D u0 u1 u2 u3 u4 ov gb cp g6 c6 g7 c7 { d with nmi:=x } :=
 ⟨⟨H.lp.h0,H.lp.h1,H.lp.h2,H.lp.h3,H.lp.h4,H.lp.h4D,H.lp.h6,H.lp.h6D,H.lp.h7,H.lp.h7D,H.lp.dis,H.lp.bd,H.lp.n6,H.lp.n7,H.lp.nN,H.lp.hps⟩,H.ap,H.nr,H.nl⟩
theorem Lx.cpu (H:Lx w W lo N b r E D u0 u1 u2 u3 u4 ov gb cp g6 c6 g7 c7 d) (c:Bd):Lx w W lo N b r E D u0 u1 u2 u3 u4 ov gb cp g6 c6 g7 c7 (putCpu d d.g c) :=
 ⟨⟨H.lp.h0,H.lp.h1,H.lp.h2,H.lp.h3,H.lp.h4,H.lp.h4D,H.lp.h6,H.lp.h6D,H.lp.h7,H.lp.h7D,H.lp.dis,H.lp.bd,H.lp.n6,H.lp.n7,H.lp.nN,H.lp.hps⟩,H.ap,H.nr,H.nl⟩
theorem Lx.mem (H:Lx w W lo N b r E D u0 u1 u2 u3 u4 ov gb cp g6 c6 g7 c7 d) {p:Nat} {q:Value} {g:Nat→Int} (OI:Au W p q 512 g) (hr:d.nr=512) (hp:N≤p) (hb:b<p) (hr2:r<p) (hw:w.heap.size≤p) (hq:p≤W.heap.size) :
  ∃ D',Lx w W lo W.heap.size b r E D' u0 u1 q u3 u4 ov gb cp g6 c6 g7 c7 { d with g:=g }:=by
 rw [← hr] at OI;have P2:=(Bn.own (bank:=d.bank) OI).mono (E:=fun x=>p≤x∧x<W.heap.size) (fun x hx h=>⟨h,hx⟩);refine ⟨_,H.lp.mem P2 hp H.nl hq (Nat.le_refl _),fun i k h=>?_,fun i k h=>?_,?_⟩
 ·rcases h with ⟨-,h1,h2⟩ | ⟨-,h⟩
  ·omega
  ·exact H.ap _ _ h
 ·rcases h with ⟨-,h1,h2⟩ | ⟨-,h⟩
  ·exact Or.inr (by omega)
  ·exact H.nr _ _ h
 ·have:=H.nl; omega
theorem Lx.one (H:Lx w W lo N b r E D u0 u1 u2 u3 u4 ov gb cp g6 c6 g7 c7 d):(rowL u0 u1 u2 u3 u4 ov g6 c6 g7 c7 d).all (·.oneCell')=true:=by
 obtain ⟨a0,b0,rfl⟩:=H.lp.h0.form;obtain ⟨a1,b1,rfl⟩:=H.lp.h1.two;obtain ⟨a2,b2,e2⟩:=H.lp.h2.two;simp only [Value.agg.injEq,Array.mk.injEq,List.cons.injEq,and_true] at e2;subst e2;obtain ⟨a3,b3,a4,b4,e3⟩:=H.lp.h3.two;simp only [Value.agg.injEq,Array.mk.injEq,List.cons.injEq,and_true,true_and] at e3;obtain ⟨rfl,rfl⟩:=e3;obtain ⟨a5,b5,rfl⟩:=H.lp.h4.form
 simp [rowL,Value.oneCell']
theorem Lx.nx (H:Lx w W lo N b r E D u0 u1 u2 u3 u4 ov gb cp g6 c6 g7 c7 d):F0 w W lo E (.agg (rowL u0 u1 u2 u3 u4 ov g6 c6 g7 c7 d)) d:=H.lp.nx H.nr
theorem F0.lx {v:Value} {V:World} (H:F0 V W lo D v d) (hap:∀ i k,D i k→k≠b∧k≠r) (hnr:Ox w E D) (hb:b<V.heap.size) (hr2:r<V.heap.size) (hw:w.heap.size≤V.heap.size) (hl:lo≤W.heap.size) :
  ∃ D' u0 u1 u2 u3 u4 ov gb cp g6 c6 g7 c7,v=.agg (rowL u0 u1 u2 u3 u4 ov g6 c6 g7 c7 d)∧Lx w W lo W.heap.size b r E D' u0 u1 u2 u3 u4 ov gb cp g6 c6 g7 c7 d:=by
 obtain ⟨D',⟨u0,u1,u2,u3,u4,ov,gb,cp,g6,c6,g7,c7,rfl,HP⟩,near⟩:=H;refine ⟨D',u0,u1,u2,u3,u4,ov,gb,cp,g6,c6,g7,c7,rfl,HP,fun i k h=>?_,fun i k h=>?_,hl⟩
 ·rcases near i k h with ⟨j,h'⟩ | h'
  ·exact hap j k h'
  ·omega
 ·rcases near i k h with ⟨j,h'⟩ | h'
  ·exact hnr j k h'
  ·exact Or.inr (by omega)
end
structure Dn (W:World) (lo N:Nat) (D:Nat→Nat→Prop) (u0 u1 u2 u3 u4 u5 u6 u7:Value) (ob:Nat→Option Nat) (iv ov:Nat→Value) (o6 o7:Option Nat) (d:Am):Prop where
 h0:Ck W (D 0) u0 d.m d.ln d.f
 h1:Bg W (D 1) u1 d.np d.p
 h2:Bn W (D 2) (.agg #[u2,.i d.bank]) d.nr d.g d.bank
 h3:Dk W lo (D 3) (.agg (pR d.t d.c d.s d.ad d.pl d.bl u3 u4)) d.t d.c d.s d.ad d.pl d.bl d.nt d.tb d.nd d.dt
 h5:SA W lo u5 d.mf d.mf ob iv ov d.lf d.fr
 h5D:∀ b,(u5.ownBlock=some b∨∃ i,i<d.mf∧ob i=some b)→D 4 b
 h6:B9 W lo o6 u6 d.ns d.sm
 h6D:∀ b,o6=some b→D 5 b
 h7:B9 W lo o7 u7 d.nq d.rd
 h7D:∀ b,o7=some b→D 6 b
 dis:T9 D
 bd:∀ i b,D i b→lo≤b∧b<N
 nN:N≤W.heap.size
 hps:Cv d.lf d.mf≤1099511627776
section
variable {R:Nat→Nat→Prop} {W W':World} {lo N:Nat} {D:Nat→Nat→Prop} {u0 u1 u2 u3 u4 u5 u6 u7:Value} {ob:Nat→Option Nat} {iv ov:Nat→Value} {o6 o7:Option Nat} {d:Am}
theorem B9.listOn {W:World} {lo:Nat} {o:Option Nat} {v:Value} {n:Nat} {f:Nat→Int} {D:Nat→Prop} (h:B9 W lo o v n f) (hd:∀ b,o=some b→D b):Bg W D v n f:=by
 obtain ⟨a,x,e,hS⟩:=h.sl;exact ⟨a,x,e,hS.small,hS.row,hS.free,fun b k hF=>hd b (hS.on b k hF)⟩
theorem Dn.on (H:Dn W lo N D u0 u1 u2 u3 u4 u5 u6 u7 ob iv ov o6 o7 d):As W D (.agg (kR d u0 u1 u2 u3 u4 u5 u6 u7)) d :=
 ⟨u0,u1,u2,u3,u4,u5,u6,u7,rfl,H.h0,H.h1,H.h2,H.h3.on,u5,u6,u7,rfl,H.h5.onD H.h5D H.hps,H.h6.listOn H.h6D,H.h7.listOn H.h7D⟩
theorem Dn.keepD (H:Dn W lo N D u0 u1 u2 u3 u4 u5 u6 u7 ob iv ov o6 o7 d) (hw:Wrote R W W') (hd:∀ i b o,D i b→¬ R b o):Dn W' lo N D u0 u1 u2 u3 u4 u5 u6 u7 ob iv ov o6 o7 d :=
 ⟨H.h0.keep hw (fun b o h _=>hd _ b o h),H.h1.keep hw (fun b o h _=>hd _ b o h),H.h2.keep hw (fun b o h _=>hd _ b o h),H.h3.keep hw (fun b o h _=>hd _ b o h),H.h5.keep hw (fun g o hg=>hd _ g o (H.h5D g (Or.inl hg))) (fun i b o hi hb=>hd _ b o (H.h5D b (Or.inr ⟨i,hi,hb⟩))),H.h5D,H.h6.keep hw (fun b hb _ _ o=>hd _ b o (H.h6D b hb)),H.h6D,H.h7.keep hw (fun b hb _ _ o=>hd _ b o (H.h7D b hb)),H.h7D,H.dis,H.bd,Nat.le_trans H.nN hw.size,H.hps⟩
theorem Dn.keep (H:Dn W lo N D u0 u1 u2 u3 u4 u5 u6 u7 ob iv ov o6 o7 d) (hw:Wrote R W W') (hn:∀ b o,lo≤b→b<N→¬ R b o):Dn W' lo N D u0 u1 u2 u3 u4 u5 u6 u7 ob iv ov o6 o7 d:=H.keepD hw (fun i b o h=>hn b o (H.bd i b h).1 (H.bd i b h).2)
theorem Dn.below (H:Dn W lo N D u0 u1 u2 u3 u4 u5 u6 u7 ob iv ov o6 o7 d) (L:Below W.heap.size W W'):Dn W' lo N D u0 u1 u2 u3 u4 u5 u6 u7 ob iv ov o6 o7 d:=H.keep (Aa L Ah) (fun _ _ _ _ x=>x)
theorem Dn.ppu (H:Dn W lo N D u0 u1 u2 u3 u4 u5 u6 u7 ob iv ov o6 o7 d) {p q:Nat} {w3 w4:Value} {c s ad pl:Int} {t:Int} {bl:Bool} {nt nd:Nat} {tb dt:Nat→Int} (hP:Dk W lo (fun b=>p≤b∧b<q) (.agg (pR t c s ad pl bl w3 w4)) t c s ad pl bl nt tb nd dt) (hp:N≤p) (hl:lo≤N) (hpq:p≤q) (hq:q≤W.heap.size) :
  Dn W lo q (fun i b=>(i=3∧p≤b∧b<q)∨(i≠3∧D i b)) u0 u1 u2 w3 w4 u5 u6 u7 ob iv ov o6 o7 { d with t:=t,c:=c,s:=s,ad:=ad,pl:=pl,bl:=bl,nt:=nt,tb:=tb,nd:=nd,dt:=dt }:=by
 have nN:=H.nN;refine ⟨H.h0.mono (fun b _ h=>Or.inr ⟨by decide,h⟩),H.h1.mono (fun b _ h=>Or.inr ⟨by decide,h⟩),H.h2.mono (fun b _ h=>Or.inr ⟨by decide,h⟩),hP.mono (fun b _ h=>Or.inl ⟨rfl,h⟩),H.h5,fun b h=>Or.inr ⟨by decide,H.h5D b h⟩,H.h6,fun b h=>Or.inr ⟨by decide,H.h6D b h⟩,H.h7,fun b h=>Or.inr ⟨by decide,H.h7D b h⟩,?_,?_,hq,H.hps⟩
 ·intro i j b h1 h2
  rcases h1 with ⟨rfl,_,_⟩ | ⟨n1,h1⟩ <;> rcases h2 with ⟨rfl,_,_⟩ | ⟨n2,h2⟩
  ·rfl
  ·have:=H.bd _ _ h2; omega
  ·have:=H.bd _ _ h1; omega
  ·exact H.dis _ _ _ h1 h2
 ·intro i b h
  rcases h with ⟨rfl,_,_⟩ | ⟨_,h⟩
  ·omega
  ·have:=H.bd _ _ h; omega
theorem Dn.mem (H:Dn W lo N D u0 u1 u2 u3 u4 u5 u6 u7 ob iv ov o6 o7 d) {p q:Nat} {w2:Value} {bank:Int} {nr:Nat} {g:Nat→Int} (hP:Bn W (fun b=>p≤b∧b<q) (.agg #[w2,.i bank]) nr g bank) (hp:N≤p) (hl:lo≤N) (hpq:p≤q) (hq:q≤W.heap.size) :
  Dn W lo q (fun i b=>(i=2∧p≤b∧b<q)∨(i≠2∧D i b)) u0 u1 w2 u3 u4 u5 u6 u7 ob iv ov o6 o7 { d with bank:=bank,nr:=nr,g:=g }:=by
 have nN:=H.nN;refine ⟨H.h0.mono (fun b _ h=>Or.inr ⟨by decide,h⟩),H.h1.mono (fun b _ h=>Or.inr ⟨by decide,h⟩),hP.mono (fun b _ h=>Or.inl ⟨rfl,h⟩),H.h3.mono (fun b _ h=>Or.inr ⟨by decide,h⟩),H.h5,fun b h=>Or.inr ⟨by decide,H.h5D b h⟩,H.h6,fun b h=>Or.inr ⟨by decide,H.h6D b h⟩,H.h7,fun b h=>Or.inr ⟨by decide,H.h7D b h⟩,?_,?_,hq,H.hps⟩
 ·intro i j b h1 h2
  rcases h1 with ⟨rfl,_,_⟩ | ⟨n1,h1⟩ <;> rcases h2 with ⟨rfl,_,_⟩ | ⟨n2,h2⟩
  ·rfl
  ·have:=H.bd _ _ h2; omega
  ·have:=H.bd _ _ h1; omega
  ·exact H.dis _ _ _ h1 h2
 ·intro i b h
  rcases h with ⟨rfl,_,_⟩ | ⟨_,h⟩
  ·omega
  ·have:=H.bd _ _ h; omega
theorem Dn.push (H:Dn W lo N D u0 u1 u2 u3 u4 u5 u6 u7 ob iv ov o6 o7 d) (hl:lo≤N) {g':Nat} {u':Value} {x:Int} (hw:Wrote (fun b _=>o7=some b) W W') (R7:B9 W' lo (some g') u' (d.nq+1) (snoc d.rd d.nq x)) (hat:o7=some g'∨W.heap.size≤g') :
  Dn W' lo W'.heap.size (fun i b=>(i=6∧b=g')∨(i≠6∧D i b)) u0 u1 u2 u3 u4 u5 u6 u' ob iv ov o6 (some g') { d with nq:=d.nq+1,rd:=snoc d.rd d.nq x }:=by
 have nN:=H.nN;have hz:=hw.size
 have far:∀ i b (o:Nat),i≠6→D i b→¬ (o7=some b):=fun i b o hi hb e=>hi (H.dis i 6 b hb (H.h7D b e))
 have key:∀ i,i≠6→D i g'→False:=fun i hi h=>by
  rcases hat with e | h'
  ·exact far i g' 0 hi h e
  ·have:=H.bd _ _ h; omega
 refine ⟨(H.h0.keep hw (fun b o h _=>far 0 b o (by decide) h)).mono (fun b _ h=>Or.inr ⟨by decide,h⟩),(H.h1.keep hw (fun b o h _=>far 1 b o (by decide) h)).mono (fun b _ h=>Or.inr ⟨by decide,h⟩),(H.h2.keep hw (fun b o h _=>far 2 b o (by decide) h)).mono (fun b _ h=>Or.inr ⟨by decide,h⟩),(H.h3.keep hw (fun b o h _=>far 3 b o (by decide) h)).mono (fun b _ h=>Or.inr ⟨by decide,h⟩),
  H.h5.keep hw (fun g o hg=>far 4 g o (by decide) (H.h5D g (Or.inl hg))) (fun i b o hi hb=>far 4 b o (by decide) (H.h5D b (Or.inr ⟨i,hi,hb⟩))),fun b h=>Or.inr ⟨by decide,H.h5D b h⟩,H.h6.keep hw (fun b hb _ _ o=>far 5 b o (by decide) (H.h6D b hb)),fun b h=>Or.inr ⟨by decide,H.h6D b h⟩,R7,fun b h=>Or.inl ⟨rfl,(Option.some.inj h).symm⟩,?_,?_,Nat.le_refl _,H.hps⟩
 ·intro i j b h1 h2
  rcases h1 with ⟨rfl,rfl⟩ | ⟨n1,h1⟩ <;> rcases h2 with ⟨rfl,e2⟩ | ⟨n2,h2⟩
  ·rfl
  ·exact (key _ n2 h2).elim
  ·subst e2; exact (key _ n1 h1).elim
  ·exact H.dis _ _ _ h1 h2
 ·intro i b h
  rcases h with ⟨rfl,rfl⟩ | ⟨_,h⟩
  ·exact R7.lt
  ·have:=H.bd _ _ h; omega
end
theorem Tn (W:World) {o:Oper} {a:Act} {K:Act→World→Prop} {Q:Exit→Act→World→Prop} (s x:Operand) (hop:o.op=Op.call { callee:=Callee.builtin Builtin.append,args:=#[s,x],argTypes:=#[25,25] })
  (lo:Nat) (o7:Option Nat) (u:Value) (n:Nat) (f:Nat→Int) (hs:a.eval s=u) (R:B9 W lo o7 u n f) (hn:n<1048576) (hlo:lo≤W.heap.size) (q:Nat) (y:Int) (hx:a.eval x=.slice (some ⟨q,0,none⟩) 1 1) (hq:W.cell? ⟨q,0,none⟩=some (.i y))
  (h:∀ g' c' W',B9 W' lo (some g') (.slice (some ⟨g',0,none⟩) (n+1) c') (n+1) (snoc f n y)→Wrote (fun b _=>o7=some b) W W'→(o7=some g'∨W.heap.size≤g')→K (a.put o.dst (.slice (some ⟨g',0,none⟩) (n+1) c')) W'):o.wp Tryz.prog a W K Q:=by
 cases o7 with
 | some g =>
  obtain ⟨c,rfl,r⟩:=R;exact Om W s x hop lo g n c f hs r hn q y hx hq (fun g' c' W' r1 r2 r3=>h g' c' W' ⟨c',rfl,r1⟩ (r2.mono (fun b o _ e=>by rw [e.1])) (by rcases r3 with ⟨e,-⟩ | e; (left; rw [e]); (right; exact e)))
 | none =>
  obtain ⟨rfl,rfl⟩:=R;obtain ⟨i0,hi,hz0,hz1,hz2⟩:=info_parts info3
  have hnews:∀ j u,[Value.i y][j]?=some u→W.cell? ((⟨q,0,none⟩:Addr).add j)=some u:=fun j u hh=>by
   cases j with
   | zero=>simp at hh; rw [← hh]; exact hq
   | succ j=>simp at hh
  have own:W.ownsRow lo 3 1 (.slice none 0 0) 0 []:=⟨rfl,Or.inl ⟨rfl,rfl⟩⟩
  obtain ⟨g',c',W',hrun,r1,r2,r3,r4⟩:=run_append_lies (P:=Tryz.prog) (w:=W) 25 o.type lo 3 i0 (.i 0) 1 8 Tryz.underlying25 hi hz0 hz1 hz2 rfl (by decide) (.slice none 0 0) 0 [] own ⟨q,0,none⟩ 1 1 [.i y] rfl hnews (fun u hu=>by simp at hu; rw [hu]; rfl) (by omega) (by unfold maxLen; omega) (by omega) hlo W.heap.size rfl;have L:Below W.heap.size W W':=(Below.refl _ _).grown r2 (Nat.le_refl _) (fun _ e=>by cases e)
  have e1:rowVals 1 (snoc f 0 y)=[.i y]:=by simp [rowVals,snoc]
  unfold Oper.wp
  simp [execOp,hop,resolve,invoke,builtin,hs,hx,hrun,Result.andThen]
  exact h g' c' W' ⟨c',rfl,by rw [Nat.zero_add,e1]; exact r1,by omega⟩ (Aa L _) (Or.inr (by rcases r3 with r3 | r3; cases r3; omega))
theorem Mv (W:World) {ops:Array Oper} {rest:List Oper} {o:Oper} {a:Act} {Q:Exit→Act→World→Prop} (hg:o.guard=none) (s x:Operand) (hop:o.op=Op.call { callee:=Callee.builtin Builtin.append,args:=#[s,x],argTypes:=#[25,25] })
  (lo:Nat) (o7:Option Nat) (u:Value) (n:Nat) (f:Nat→Int) (hs:a.eval s=u) (R:B9 W lo o7 u n f) (hn:n<1048576) (hlo:lo≤W.heap.size) (q:Nat) (y:Int) (hx:a.eval x=.slice (some ⟨q,0,none⟩) 1 1) (hq:W.cell? ⟨q,0,none⟩=some (.i y))
  (h:∀ g' c' W',B9 W' lo (some g') (.slice (some ⟨g',0,none⟩) (n+1) c') (n+1) (snoc f n y)→Wrote (fun b _=>o7=some b) W W'→(o7=some g'∨W.heap.size≤g')→wpList Tryz.prog ops Q rest (a.put o.dst (.slice (some ⟨g',0,none⟩) (n+1) c')) W'):wpList Tryz.prog ops Q (o :: rest) a W :=
 wpList_plain hg fun K hK=>Tn W s x hop lo o7 u n f hs R hn hlo q y hx hq (fun g c W' r1 r2 r3=>hK _ _ (h g c W' r1 r2 r3))
set_option maxHeartbeats 8000000
set_option maxRecDepth 40000
theorem J6:(Tryz.prog.info? 32).map (·.size)=some 1:=by kernel_rfl
theorem J7:(Tryz.prog.info? 106).map (·.size)=some 2:=by kernel_rfl
theorem Bx.start (w:World) {lo:Nat} (cs zs:Array Value) (h:lo≤w.heap.size):Bx w ((w.alloc (.cells cs 44)).alloc (.cells zs 44)) lo w.heap.size (w.heap.size+1) zs cs :=
 have L:Below w.heap.size w ((w.alloc (.cells cs 44)).alloc (.cells zs 44)):=((Below.refl _ _).alloc (Nat.le_refl _) _).alloc (by simp) _
 ⟨A9 (Ak w cs 44) _,by simpa using Ak (w.alloc (.cells cs 44)) zs 44,L.mono h,C7.below L,Nat.le_refl _,Nat.le_succ _,by omega,h⟩
theorem D8.start {w:World} {lo:Nat} {D:Nat→Nat→Prop} {v:Value} {d:Am} (H:D8 w lo D v d) (h:lo≤w.heap.size) {W:World} (L:Below w.heap.size w W) :
  ∃ (u0 u1 u2 u3 u4 ov:Value) (gb cp:Nat→Nat) (g6 c6 g7 c7:Nat),v=.agg (rowL u0 u1 u2 u3 u4 ov g6 c6 g7 c7 d)∧Lx w W lo w.heap.size w.heap.size (w.heap.size+1) D D u0 u1 u2 u3 u4 ov gb cp g6 c6 g7 c7 d:=by
 obtain ⟨u0,u1,u2,u3,u4,ov,gb,cp,g6,c6,g7,c7,rfl,HP⟩:=H;exact ⟨u0,u1,u2,u3,u4,ov,gb,cp,g6,c6,g7,c7,rfl,HP.below L,fun i k e=>by have:=HP.bd i k e; omega,fun i k e=>Or.inl ⟨_,e⟩,h⟩
theorem Vs (w:World) (lo:Nat) (D:Nat→Nat→Prop) (v:Value) (d:Am) (H:D8 w lo D v d) (hlo:lo≤w.heap.size) (hok:Vx d) (hnm:d.nmi=true):Calls Tryz.prog 65 #[v] w fun e w'=>∃ v',e=.returned (.tuple #[v',.i (Fg d)])∧F0 w w' lo D v' (actD d)∧Below lo w w'∧C7 w w':=by
 obtain ⟨u0,u1,u2,u3,u4,ov,gb,cp,g6,c6,g7,c7,rfl,LX⟩:=H.start hlo (Below.refl w.heap.size w);replace LX:=LX.below (((Below.refl w.heap.size w).alloc (Nat.le_refl _) (.cells (rowL u0 u1 u2 u3 u4 ov g6 c6 g7 c7 d) 44)).alloc (by simp) (.cells zR 44));have BX:=Bx.start w (rowL u0 u1 u2 u3 u4 ov g6 c6 g7 c7 d) zR hlo
 go_enter Tryz.func65,Tryz.ntmps65
 go_upto_region 1 with (fail);generalize (w.alloc (.cells (rowL u0 u1 u2 u3 u4 ov g6 c6 g7 c7 d) 44)).alloc (.cells zR 44)=W0 at *;generalize hrs:(zR:Array Value)=rs at BX
 have HRS:Hid (rs.size=34):=by show _=_; rw [← hrs]; rfl
 clear hrs;have c0:=Aj BX.box;have f0:=Ax BX.box
 have f29:(rowL u0 u1 u2 u3 u4 ov g6 c6 g7 c7 d)[29]?=some (.bool true):=by rw [← hnm]; rfl
 replace hnm:=Ad hnm;go_upto_region 3 with (fail);clear c0 f0 f29;have LX':=(LX.wrote BX (Or.inl rfl) (BX.cellW 29 (.bool false))).nmi false;replace BX:=BX.cell 29 (.bool false);replace LX:=LX';clear LX';generalize W0.setCell ⟨w.heap.size,29,none⟩ (.bool false)=W1 at *;replace BX:Bx w W1 lo w.heap.size (w.heap.size+1) rs (rowL u0 u1 u2 u3 u4 ov g6 c6 g7 c7 (noNmi d)):=BX;rename_i K3 hK3;refine wp_region_lit ?_
 iterate 1 (refine wpList_plain rfl (fun K9 hK9=>?_); go_simp; refine hK9 _ _ ?_; clear hK9)
 refine A4 rfl _ _ rfl w.heap.size 0 rfl _ _ #[u0] _ _ BX.box (S8 rfl) Tryz.underlying32 rfl J6 ?_
 iterate 1 (refine wpList_plain rfl (fun K9 hK9=>?_); go_simp; refine hK9 _ _ ?_; clear hK9)
 refine A4 rfl _ _ rfl w.heap.size 2 rfl _ _ #[u2,.i (noNmi d).bank] _ _ BX.box (Qu rfl rfl) Tryz.underlying34 rfl Bf ?_
 iterate 1 (refine wpList_plain rfl (fun K9 hK9=>?_); go_simp; refine hK9 _ _ ?_; clear hK9)
 refine A4 rfl _ _ rfl w.heap.size 4 rfl _ _ (cR ((noNmi d).A) ((noNmi d).X) ((noNmi d).S) ((noNmi d).Pc) ((noNmi d).Z) ((noNmi d).N) ((noNmi d).C) ((noNmi d).I)) _ _ BX.box (Qv rfl rfl rfl rfl rfl rfl rfl rfl) Tryz.underlying36 rfl Aq ?_;refine Ap rfl _ _ (by kernel_rfl) (Gv W1 _ _ u0 u2 d.m d.ln d.f d.g d.bank LX.lp.h0.ints (hok.nr ▸ LX.lp.h2.int1) d.A d.X d.S d.Pc d.Z d.N d.C d.I 65530) ?_;rintro e W2 ⟨q,rfl,OI,L⟩;refine ⟨_,rfl,?_⟩;have hz1:=Af BX.res;have hz4:=Af BX.box;have hz2:=L.size;have hz0:=BX.low.size;replace BX:=BX.below L;obtain ⟨D',LX⟩:=(LX.below L).mem OI hok.nr LX.lp.nN hz4 hz1 (by omega) hz2;obtain ⟨qa,qc,rfl,-⟩:=OI.ex;clear OI L
 iterate 4 (refine wpList_plain rfl (fun K9 hK9=>?_); go_simp; refine hK9 _ _ ?_; clear hK9)
 refine Bb rfl _ _ _ rfl w.heap.size 2 #[.slice qa 512 qc,.i (noNmi d).bank] rfl rfl _ _ BX.box Bf (by show (2+2:Nat)≤34; omega) (by first | rfl | simp [Value.oneCell']) ?_;have LX':=LX.wrote BX (Or.inl rfl) (Ao BX.box (putAt (rowL u0 u1 u2 u3 u4 ov g6 c6 g7 c7 (noNmi d)) 2 #[.slice qa 512 qc,.i (noNmi d).bank]));replace BX:=BX.set (putAt (rowL u0 u1 u2 u3 u4 ov g6 c6 g7 c7 (noNmi d)) 2 #[.slice qa 512 qc,.i (noNmi d).bank]);replace LX:=LX';clear LX';generalize W2.setRow w.heap.size (putAt (rowL u0 u1 u2 u3 u4 ov g6 c6 g7 c7 (noNmi d)) 2 #[.slice qa 512 qc,.i (noNmi d).bank])=W3 at *;replace BX:Bx w W3 lo w.heap.size (w.heap.size+1) rs (rowL u0 u1 (.slice qa 512 qc) u3 u4 ov g6 c6 g7 c7 { (noNmi d) with g:=(enterG d.g d.S d.Pc d.Z d.N d.C d.I) }):=BX
 iterate 1 (refine wpList_plain rfl (fun K9 hK9=>?_); go_simp; refine hK9 _ _ ?_; clear hK9)
 refine Bb rfl _ _ _ rfl w.heap.size 4 (cR ((entC (noNmi d) 65530).A) ((entC (noNmi d) 65530).X) ((entC (noNmi d) 65530).S) ((entC (noNmi d) 65530).Pc) ((entC (noNmi d) 65530).Z) ((entC (noNmi d) 65530).N) ((entC (noNmi d) 65530).C) ((entC (noNmi d) 65530).I)) rfl rfl _ _ BX.box Aq (by show (4+8:Nat)≤34; omega) (by first | rfl | simp [Value.oneCell']) ?_;have LX':=LX.wrote BX (Or.inl rfl) (Ao BX.box (putAt (rowL u0 u1 (.slice qa 512 qc) u3 u4 ov g6 c6 g7 c7 { (noNmi d) with g:=(enterG d.g d.S d.Pc d.Z d.N d.C d.I) }) 4 (cR ((entC (noNmi d) 65530).A) ((entC (noNmi d) 65530).X) ((entC (noNmi d) 65530).S) ((entC (noNmi d) 65530).Pc) ((entC (noNmi d) 65530).Z) ((entC (noNmi d) 65530).N) ((entC (noNmi d) 65530).C) ((entC (noNmi d) 65530).I))))
 replace BX:=BX.set (putAt (rowL u0 u1 (.slice qa 512 qc) u3 u4 ov g6 c6 g7 c7 { (noNmi d) with g:=(enterG d.g d.S d.Pc d.Z d.N d.C d.I) }) 4 (cR ((entC (noNmi d) 65530).A) ((entC (noNmi d) 65530).X) ((entC (noNmi d) 65530).S) ((entC (noNmi d) 65530).Pc) ((entC (noNmi d) 65530).Z) ((entC (noNmi d) 65530).N) ((entC (noNmi d) 65530).C) ((entC (noNmi d) 65530).I)));replace LX:=LX';clear LX';generalize W3.setRow w.heap.size (putAt (rowL u0 u1 (.slice qa 512 qc) u3 u4 ov g6 c6 g7 c7 { (noNmi d) with g:=(enterG d.g d.S d.Pc d.Z d.N d.C d.I) }) 4 (cR ((entC (noNmi d) 65530).A) ((entC (noNmi d) 65530).X) ((entC (noNmi d) 65530).S) ((entC (noNmi d) 65530).Pc) ((entC (noNmi d) 65530).Z) ((entC (noNmi d) 65530).N) ((entC (noNmi d) 65530).C) ((entC (noNmi d) 65530).I)))=W4 at *;replace LX:=LX.cpu (entC (noNmi d) 65530)
 replace BX:Bx w W4 lo w.heap.size (w.heap.size+1) rs (rowL u0 u1 (.slice qa 512 qc) u3 u4 ov g6 c6 g7 c7 (putCpu (noNmi d) (enterG d.g d.S d.Pc d.Z d.N d.C d.I) (entC (noNmi d) 65530))):=BX;refine hK3 _ _ ?_;clear hK3;go_upto_region 4 with (fail);rename_i K3 hK3;refine wp_region_lit ?_;refine wpList_load_row rfl _ _ rfl w.heap.size rfl _ _ _ _ BX.box Tryz.underlying44 rfl Ae ?_;refine wpList_store_row rfl _ _ _ rfl (w.heap.size+1) _ rfl rfl _ _ BX.res Ae HRS.out LX.one ?_
 iterate 1 (refine wpList_plain rfl (fun K9 hK9=>?_); go_simp; refine hK9 _ _ ?_; clear hK9)
 have LXF:=LX.wrote BX (Or.inr rfl) (Ao BX.res (rowL u0 u1 (.slice qa 512 qc) u3 u4 ov g6 c6 g7 c7 (putCpu (noNmi d) (enterG d.g d.S d.Pc d.Z d.N d.C d.I) (entC (noNmi d) 65530))));have BXF:=BX.out (rowL u0 u1 (.slice qa 512 qc) u3 u4 ov g6 c6 g7 c7 (putCpu (noNmi d) (enterG d.g d.S d.Pc d.Z d.N d.C d.I) (entC (noNmi d) 65530)));generalize W4.setRow (w.heap.size+1) (rowL u0 u1 (.slice qa 512 qc) u3 u4 ov g6 c6 g7 c7 (putCpu (noNmi d) (enterG d.g d.S d.Pc d.Z d.N d.C d.I) (entC (noNmi d) 65530)))=W5 at *;refine hK3 _ _ ?_;clear hK3;go_wp2;refine bodyPost_ret (v:=.tuple #[.agg (rowL u0 u1 (.slice qa 512 qc) u3 u4 ov g6 c6 g7 c7 (putCpu (noNmi d) (enterG d.g d.S d.Pc d.Z d.N d.C d.I) (entC (noNmi d) 65530))),.i 7]) (A0 Tryz.results65 _ _ (w.heap.size+1) _ _ _ _ rfl BXF.res Tryz.underlying44 rfl Ae) rfl ?_
 have hv:actD d=putCpu (noNmi d) (enterG d.g d.S d.Pc d.Z d.N d.C d.I) (entC (noNmi d) 65530)∧Fg d=7:=by
  unfold actD Fg;rw [if_pos hnm.out,if_pos hnm.out];exact ⟨rfl,rfl⟩
 rw [hv.1,hv.2];exact ⟨_,rfl,LXF.nx,BXF.low,BXF.kept⟩
theorem Vt (w:World) (lo:Nat) (D:Nat→Nat→Prop) (v:Value) (d:Am) (H:D8 w lo D v d) (hlo:lo≤w.heap.size) (hok:Vx d) (hnm:d.nmi=false) (hrr:d.R=true) (hii:d.I=false):Calls Tryz.prog 65 #[v] w fun e w'=>∃ v',e=.returned (.tuple #[v',.i (Fg d)])∧F0 w w' lo D v' (actD d)∧Below lo w w'∧C7 w w':=by
 obtain ⟨u0,u1,u2,u3,u4,ov,gb,cp,g6,c6,g7,c7,rfl,LX⟩:=H.start hlo (Below.refl w.heap.size w);replace LX:=LX.below (((Below.refl w.heap.size w).alloc (Nat.le_refl _) (.cells (rowL u0 u1 u2 u3 u4 ov g6 c6 g7 c7 d) 44)).alloc (by simp) (.cells zR 44));have BX:=Bx.start w (rowL u0 u1 u2 u3 u4 ov g6 c6 g7 c7 d) zR hlo
 go_enter Tryz.func65,Tryz.ntmps65
 go_upto_region 1 with (fail);generalize (w.alloc (.cells (rowL u0 u1 u2 u3 u4 ov g6 c6 g7 c7 d) 44)).alloc (.cells zR 44)=W0 at *;generalize hrs:(zR:Array Value)=rs at BX
 have HRS:Hid (rs.size=34):=by show _=_; rw [← hrs]; rfl
 clear hrs;have c0:=Aj BX.box;have f0:=Ax BX.box
 have f29:(rowL u0 u1 u2 u3 u4 ov g6 c6 g7 c7 d)[29]?=some (.bool false):=by rw [← hnm]; rfl
 have f26:(rowL u0 u1 u2 u3 u4 ov g6 c6 g7 c7 d)[26]?=some (.bool true):=by rw [← hrr]; rfl
 have f11:(rowL u0 u1 u2 u3 u4 ov g6 c6 g7 c7 d)[11]?=some (.bool false):=by rw [← hii]; rfl
 replace hnm:=Ad hnm;replace hrr:=Ad hrr;replace hii:=Ad hii;go_upto_region 6 with (fail);clear c0 f0 f29 f26 f11;rename_i K3 hK3;refine wp_region_lit ?_
 iterate 1 (refine wpList_plain rfl (fun K9 hK9=>?_); go_simp; refine hK9 _ _ ?_; clear hK9)
 refine A4 rfl _ _ rfl w.heap.size 0 rfl _ _ #[u0] _ _ BX.box (S8 rfl) Tryz.underlying32 rfl J6 ?_
 iterate 1 (refine wpList_plain rfl (fun K9 hK9=>?_); go_simp; refine hK9 _ _ ?_; clear hK9)
 refine A4 rfl _ _ rfl w.heap.size 2 rfl _ _ #[u2,.i d.bank] _ _ BX.box (Qu rfl rfl) Tryz.underlying34 rfl Bf ?_
 iterate 1 (refine wpList_plain rfl (fun K9 hK9=>?_); go_simp; refine hK9 _ _ ?_; clear hK9)
 refine A4 rfl _ _ rfl w.heap.size 4 rfl _ _ (cR d.A d.X d.S d.Pc d.Z d.N d.C d.I) _ _ BX.box (Qv rfl rfl rfl rfl rfl rfl rfl rfl) Tryz.underlying36 rfl Aq ?_;refine Ap rfl _ _ (by kernel_rfl) (Gv W0 _ _ u0 u2 d.m d.ln d.f d.g d.bank LX.lp.h0.ints (hok.nr ▸ LX.lp.h2.int1) d.A d.X d.S d.Pc d.Z d.N d.C d.I 65534) ?_;rintro e W2 ⟨q,rfl,OI,L⟩;refine ⟨_,rfl,?_⟩;have hz1:=Af BX.res;have hz4:=Af BX.box;have hz2:=L.size;have hz0:=BX.low.size;replace BX:=BX.below L;obtain ⟨D',LX⟩:=(LX.below L).mem OI hok.nr LX.lp.nN hz4 hz1 (by omega) hz2;obtain ⟨qa,qc,rfl,-⟩:=OI.ex;clear OI L
 iterate 4 (refine wpList_plain rfl (fun K9 hK9=>?_); go_simp; refine hK9 _ _ ?_; clear hK9)
 refine Bb rfl _ _ _ rfl w.heap.size 2 #[.slice qa 512 qc,.i d.bank] rfl rfl _ _ BX.box Bf (by show (2+2:Nat)≤34; omega) (by first | rfl | simp [Value.oneCell']) ?_;have LX':=LX.wrote BX (Or.inl rfl) (Ao BX.box (putAt (rowL u0 u1 u2 u3 u4 ov g6 c6 g7 c7 d) 2 #[.slice qa 512 qc,.i d.bank]));replace BX:=BX.set (putAt (rowL u0 u1 u2 u3 u4 ov g6 c6 g7 c7 d) 2 #[.slice qa 512 qc,.i d.bank]);replace LX:=LX';clear LX';generalize W2.setRow w.heap.size (putAt (rowL u0 u1 u2 u3 u4 ov g6 c6 g7 c7 d) 2 #[.slice qa 512 qc,.i d.bank])=W3 at *;replace BX:Bx w W3 lo w.heap.size (w.heap.size+1) rs (rowL u0 u1 (.slice qa 512 qc) u3 u4 ov g6 c6 g7 c7 { d with g:=(enterG d.g d.S d.Pc d.Z d.N d.C d.I) }):=BX
 iterate 1 (refine wpList_plain rfl (fun K9 hK9=>?_); go_simp; refine hK9 _ _ ?_; clear hK9)
 refine Bb rfl _ _ _ rfl w.heap.size 4 (cR ((entC d 65534).A) ((entC d 65534).X) ((entC d 65534).S) ((entC d 65534).Pc) ((entC d 65534).Z) ((entC d 65534).N) ((entC d 65534).C) ((entC d 65534).I)) rfl rfl _ _ BX.box Aq (by show (4+8:Nat)≤34; omega) (by first | rfl | simp [Value.oneCell']) ?_;have LX':=LX.wrote BX (Or.inl rfl) (Ao BX.box (putAt (rowL u0 u1 (.slice qa 512 qc) u3 u4 ov g6 c6 g7 c7 { d with g:=(enterG d.g d.S d.Pc d.Z d.N d.C d.I) }) 4 (cR ((entC d 65534).A) ((entC d 65534).X) ((entC d 65534).S) ((entC d 65534).Pc) ((entC d 65534).Z) ((entC d 65534).N) ((entC d 65534).C) ((entC d 65534).I))))
 replace BX:=BX.set (putAt (rowL u0 u1 (.slice qa 512 qc) u3 u4 ov g6 c6 g7 c7 { d with g:=(enterG d.g d.S d.Pc d.Z d.N d.C d.I) }) 4 (cR ((entC d 65534).A) ((entC d 65534).X) ((entC d 65534).S) ((entC d 65534).Pc) ((entC d 65534).Z) ((entC d 65534).N) ((entC d 65534).C) ((entC d 65534).I)));replace LX:=LX';clear LX';generalize W3.setRow w.heap.size (putAt (rowL u0 u1 (.slice qa 512 qc) u3 u4 ov g6 c6 g7 c7 { d with g:=(enterG d.g d.S d.Pc d.Z d.N d.C d.I) }) 4 (cR ((entC d 65534).A) ((entC d 65534).X) ((entC d 65534).S) ((entC d 65534).Pc) ((entC d 65534).Z) ((entC d 65534).N) ((entC d 65534).C) ((entC d 65534).I)))=W4 at *;replace LX:=LX.cpu (entC d 65534);replace BX:Bx w W4 lo w.heap.size (w.heap.size+1) rs (rowL u0 u1 (.slice qa 512 qc) u3 u4 ov g6 c6 g7 c7 (putCpu d (enterG d.g d.S d.Pc d.Z d.N d.C d.I) (entC d 65534))):=BX;refine hK3 _ _ ?_;clear hK3
 go_upto_region 7 with (fail);rename_i K3 hK3;refine wp_region_lit ?_;refine wpList_load_row rfl _ _ rfl w.heap.size rfl _ _ _ _ BX.box Tryz.underlying44 rfl Ae ?_;refine wpList_store_row rfl _ _ _ rfl (w.heap.size+1) _ rfl rfl _ _ BX.res Ae HRS.out LX.one ?_
 iterate 1 (refine wpList_plain rfl (fun K9 hK9=>?_); go_simp; refine hK9 _ _ ?_; clear hK9)
 have LXF:=LX.wrote BX (Or.inr rfl) (Ao BX.res (rowL u0 u1 (.slice qa 512 qc) u3 u4 ov g6 c6 g7 c7 (putCpu d (enterG d.g d.S d.Pc d.Z d.N d.C d.I) (entC d 65534))));have BXF:=BX.out (rowL u0 u1 (.slice qa 512 qc) u3 u4 ov g6 c6 g7 c7 (putCpu d (enterG d.g d.S d.Pc d.Z d.N d.C d.I) (entC d 65534)));generalize W4.setRow (w.heap.size+1) (rowL u0 u1 (.slice qa 512 qc) u3 u4 ov g6 c6 g7 c7 (putCpu d (enterG d.g d.S d.Pc d.Z d.N d.C d.I) (entC d 65534)))=W5 at *;refine hK3 _ _ ?_;clear hK3;go_wp2;refine bodyPost_ret (v:=.tuple #[.agg (rowL u0 u1 (.slice qa 512 qc) u3 u4 ov g6 c6 g7 c7 (putCpu d (enterG d.g d.S d.Pc d.Z d.N d.C d.I) (entC d 65534))),.i 7]) (A0 Tryz.results65 _ _ (w.heap.size+1) _ _ _ _ rfl BXF.res Tryz.underlying44 rfl Ae) rfl ?_
 have hv:actD d=putCpu d (enterG d.g d.S d.Pc d.Z d.N d.C d.I) (entC d 65534)∧Fg d=7:=by
  unfold actD Fg;rw [if_neg (by rw [hnm.out]; decide),if_pos (by rw [hrr.out,hii.out]; rfl),if_neg (by rw [hnm.out]; decide),if_pos (by rw [hrr.out,hii.out]; rfl)];exact ⟨rfl,rfl⟩
 rw [hv.1,hv.2];exact ⟨_,rfl,LXF.nx,BXF.low,BXF.kept⟩
end Go.Proofs.YtfjieibndedngaaGreat
