import Derived.Test.YtfjieibndedngaaGreatZA0
import Derived.Test.YtfjieibndedngaaGreatRows
import Derived.ProofKit
import Derived.Below
import Derived.OpenShut
import Derived.Laws.Rows
import Derived.Laws.OwnMore
import Derived.Deep.QuietTactic
import Derived.BigQuiet
import Derived.WalkSpells
import Derived.Outline
import Derived.OwnWalk
import Derived.Laws.BitsLemmas
import Derived.Laws.BitsAllLaws
import Derived.Deep.OwnRows
namespace Go.Proofs.YtfjieibndedngaaGreat
open Go.ChangeShapes Go.WideShapes Go.ChangeAt Go.RowKit
theorem Ad {p:Prop} (h:p):Hid p:=h
theorem Ab {p:Prop} (h:Hid p):p:=h
theorem Sg (w:World) (a b:Nat):∃ d,(w.drewN a).drewN b=w.drewN d:=⟨a+b,by simp [World.drewN,Nat.add_assoc]⟩
theorem Ky {P:Program} {f:FuncId} {args:Array Value} {w:World} {d n:Nat} {v:Value}
  (h:Calls P f args (w.drewN (d+n)) fun e w'=>e=.returned v∧∃ m,w'=(w.drewN (d+n)).drewN m):Calls P f args (w.drewN (d+n)) fun e w''=>e=.returned v∧∃ m,w''=w.drewN (d+m) :=
 h.mono fun _ _ ⟨he,m,hm⟩=>⟨he,n+m,by rw [hm,World.drewN_drewN,Nat.add_assoc]⟩
structure Wrote (R:Nat→Nat→Prop) (w w':World):Prop where
 os:w'.os=w.os
 tape:w'.tape=w.tape
 output:w'.output=w.output
 size:w.heap.size≤w'.heap.size
 block:∀ k,k<w.heap.size→(∀ o,¬ R k o)→w'.heap[k]?=w.heap[k]?
 cell:∀ b o,b<w.heap.size→¬ R b o→w'.cell? ⟨b,o,none⟩=w.cell? ⟨b,o,none⟩
 frozen:∀ b o,b<w.heap.size→w'.frozen? ⟨b,o,none⟩=w.frozen? ⟨b,o,none⟩
abbrev Ah:Nat→Nat→Prop:=fun _ _=>False
theorem Wrote.refl (R:Nat→Nat→Prop) (w:World):Wrote R w w:=⟨rfl,rfl,rfl,Nat.le_refl _,fun _ _ _=>rfl,fun _ _ _ _=>rfl,fun _ _ _=>rfl⟩
theorem Hk {R:Nat→Nat→Prop} {W:World} {Φ:Value→World→Prop} {K:Act→World→Prop} {a:Act} {d:Option Nat} (hK:∀ v W',Wrote R W W'→Φ v W'→K (a.put d v) W') {v:Value} (h:Φ v W):K (a.put d v) W:=hK v W (Wrote.refl _ _) h
theorem Wrote.trans {R:Nat→Nat→Prop} {u v w:World} (h:Wrote R u v) (k:Wrote R v w):Wrote R u w :=
 ⟨k.os.trans h.os,k.tape.trans h.tape,k.output.trans h.output,Nat.le_trans h.size k.size,
  fun i hi hr=>(k.block i (Nat.lt_of_lt_of_le hi h.size) hr).trans (h.block i hi hr),
  fun b o hb hr=>(k.cell b o (Nat.lt_of_lt_of_le hb h.size) hr).trans (h.cell b o hb hr),
  fun b o hb=>(k.frozen b o (Nat.lt_of_lt_of_le hb h.size)).trans (h.frozen b o hb)⟩
theorem Wrote.mono {R S:Nat→Nat→Prop} {w w':World} (h:Wrote R w w') (hs:∀ b o,b<w.heap.size→R b o→S b o):Wrote S w w' :=
 ⟨h.os,h.tape,h.output,h.size,fun k hk hr=>h.block k hk (fun o ho=>hr o (hs k o hk ho)),fun b o hb hr=>h.cell b o hb (fun ho=>hr (hs b o hb ho)),h.frozen⟩
theorem Aa {w w':World} (h:Below w.heap.size w w') (R:Nat→Nat→Prop):Wrote R w w' :=
 ⟨h.os,h.tape,h.output,h.size,fun k hk _=>h.block k hk,fun _ _ hb _=>h.cell hb,fun _ _ hb=>h.frozen hb⟩
theorem Wrote.below {R:Nat→Nat→Prop} {w w':World} {B:Nat} (h:Wrote R w w') (hB:B≤w.heap.size) (hr:∀ b o,b<B→¬ R b o):Below B w w' :=
 ⟨h.os,h.tape,h.output,h.size,fun k hk=>h.block k (by omega) (fun o=>hr k o hk)⟩
theorem Wrote.drewN {R:Nat→Nat→Prop} {u w:World} (h:Wrote R u w) (n:Nat):Wrote R u (w.drewN n):=⟨h.os,h.tape,h.output,h.size,h.block,h.cell,h.frozen⟩
theorem Wrote.drew {R:Nat→Nat→Prop} {u w:World} (h:Wrote R u w):Wrote R u w.drew:=⟨h.os,h.tape,h.output,h.size,h.block,h.cell,h.frozen⟩
theorem Wrote.alloc {R:Nat→Nat→Prop} {u w:World} (h:Wrote R u w) (o:Obj):Wrote R u (w.alloc o) :=
 h.trans (Aa ((Below.refl _ _).alloc (Nat.le_refl _) o) R)
theorem Wrote.setCell {R:Nat→Nat→Prop} {u w:World} (h:Wrote R u w) {b o:Nat} (hr:b<u.heap.size→R b o) (x:Value):Wrote R u (w.setCell ⟨b,o,none⟩ x):=by
 refine ⟨h.os,h.tape,h.output,by simpa [World.setCell] using h.size,fun k hk hn=>?_,fun b' o' hb hn=>?_,fun b' o' hb=>?_⟩
 ·rw [Below.heap_setCell _ _ _ _ (by rintro rfl; exact hn o (hr hk))]
  exact h.block k hk hn
 ·have e:(⟨b,o,none⟩:Addr)≠⟨b',o',none⟩:=by
   intro e;simp only [Addr.mk.injEq,and_true] at e;obtain ⟨rfl,rfl⟩:=e;exact hn (hr hb)
  exact (World.cell?_setCell_other _ _ _ _ e).trans (h.cell b' o' hb hn)
 ·rw [World.frozen?_setCell]
  exact h.frozen b' o' hb
def Cd (a:Option Addr) (n:Nat):Nat→Nat→Prop:=fun b o=>∃ off,a=some ⟨b,off,none⟩∧off≤o∧o<off+n
def Bv (k:IntKind) (w:World) (a:Option Addr) (n:Nat) (f:Nat→Int):Prop :=
 ∀ i,i<n→∃ b off,a=some ⟨b,off,none⟩∧w.cell? ⟨b,off+i,none⟩=some (.int k (f i))
def Ie (w:World) (F:Nat→Nat→Prop):Prop:=∀ b o,F b o→b<w.heap.size∧w.frozen? ⟨b,o,none⟩=false
theorem Bj {b off n i:Nat} (hi:i<n):Cd (some ⟨b,off,none⟩) n b (off+i):=⟨off,rfl,by omega,by omega⟩
theorem Bv.keep {k:IntKind} {w w':World} {R:Nat→Nat→Prop} {a:Option Addr} {n:Nat} {f:Nat→Int} (h:Bv k w a n f) (hw:Wrote R w w') (hd:∀ b o,Cd a n b o→¬ R b o):Bv k w' a n f:=fun i hi=>by
 obtain ⟨b,off,rfl,hcell⟩:=h i hi;exact ⟨b,off,rfl,by rw [hw.cell b (off+i) (block_lt_of_cell hcell) (hd _ _ (Bj hi))]; exact hcell⟩
theorem Bv.congr {k:IntKind} {w:World} {a:Option Addr} {n:Nat} {f g:Nat→Int} (h:Bv k w a n f) (e:∀ i,i<n→f i=g i):Bv k w a n g:=fun i hi=>by
 obtain ⟨b,off,ha,hcell⟩:=h i hi;exact ⟨b,off,ha,by rw [hcell,e i hi]⟩
theorem Bv.lt {k:IntKind} {w:World} {a:Option Addr} {n:Nat} {f:Nat→Int} (h:Bv k w a n f) {b o:Nat} (hf:Cd a n b o):b<w.heap.size:=by
 obtain ⟨off,rfl,h1,h2⟩:=hf;obtain ⟨b',off',e,hcell⟩:=h (o-off) (by omega);simp only [Option.some.injEq,Addr.mk.injEq,and_true] at e;obtain ⟨rfl,rfl⟩:=e;exact block_lt_of_cell hcell
theorem Ie.keep {w w':World} {R F:Nat→Nat→Prop} (h:Ie w F) (hw:Wrote R w w'):Ie w' F:=fun b o hb =>
 ⟨Nat.lt_of_lt_of_le (h b o hb).1 hw.size,(hw.frozen b o (h b o hb).1).trans (h b o hb).2⟩
def Ints (k:IntKind) (w:World) (F:Nat→Nat→Prop) (v:Value) (n:Nat) (f:Nat→Int):Prop :=
 ∃ a cap,v=.slice a n cap∧n≤1048576∧Bv k w a n f∧∀ b o,Cd a n b o→F b o
theorem Ints.keep {k:IntKind} {w w':World} {R F:Nat→Nat→Prop} {v:Value} {n:Nat} {f:Nat→Int} (h:Ints k w F v n f) (hw:Wrote R w w') (hd:∀ b o,F b o→¬ R b o):Ints k w' F v n f:=by
 obtain ⟨a,cap,hv,hn,hc,hF⟩:=h;exact ⟨a,cap,hv,hn,hc.keep hw (fun b o h=>hd b o (hF b o h)),hF⟩
theorem Ints.mono {k:IntKind} {w:World} {F G:Nat→Nat→Prop} {v:Value} {n:Nat} {f:Nat→Int} (h:Ints k w F v n f) (hd:∀ b o,b<w.heap.size→F b o→G b o):Ints k w G v n f:=by
 obtain ⟨a,cap,hv,hn,hc,hF⟩:=h;exact ⟨a,cap,hv,hn,hc,fun b o h=>hd b o (hc.lt h) (hF b o h)⟩
theorem Ints.congr {k:IntKind} {w:World} {F:Nat→Nat→Prop} {v:Value} {n:Nat} {f g:Nat→Int} (h:Ints k w F v n f) (e:∀ i,i<n→f i=g i):Ints k w F v n g:=by
 obtain ⟨a,cap,hv,hn,hc,hF⟩:=h;exact ⟨a,cap,hv,hn,hc.congr e,hF⟩
def Bm (k:IntKind) (w:World) (F:Nat→Nat→Prop) (v:Value) (m:Nat) (ln:Nat→Nat) (f:Nat→Nat→Int):Prop :=
 ∃ a cap,v=.slice a m cap∧m≤1048576∧(∀ b o,Cd a m b o→F b o)∧∀ i,i<m→∃ b off u,a=some ⟨b,off,none⟩∧w.cell? ⟨b,off+i,none⟩=some u∧Ints k w F u (ln i) (f i)
theorem Bm.keep {k:IntKind} {w w':World} {R F:Nat→Nat→Prop} {v:Value} {m:Nat} {ln:Nat→Nat} {f:Nat→Nat→Int} (h:Bm k w F v m ln f) (hw:Wrote R w w') (hd:∀ b o,F b o→¬ R b o):Bm k w' F v m ln f:=by
 obtain ⟨a,cap,hv,hn,hF,hc⟩:=h;refine ⟨a,cap,hv,hn,hF,fun i hi=>?_⟩;obtain ⟨b,off,u,rfl,hcell,hu⟩:=hc i hi;exact ⟨b,off,u,rfl,by rw [hw.cell b (off+i) (block_lt_of_cell hcell) (hd _ _ (hF _ _ (Bj hi)))]; exact hcell,hu.keep hw hd⟩
theorem Bm.mono {k:IntKind} {w:World} {F G:Nat→Nat→Prop} {v:Value} {m:Nat} {ln:Nat→Nat} {f:Nat→Nat→Int} (h:Bm k w F v m ln f) (hd:∀ b o,b<w.heap.size→F b o→G b o):Bm k w G v m ln f:=by
 obtain ⟨a,cap,hv,hn,hF,hc⟩:=h;refine ⟨a,cap,hv,hn,fun b o h=>?_,fun i hi=>?_⟩
 ·obtain ⟨off,rfl,h1,h2⟩:=id h
  obtain ⟨b',off',u,e,hcell,_⟩:=hc (o-off) (by omega);simp only [Option.some.injEq,Addr.mk.injEq,and_true] at e;obtain ⟨rfl,rfl⟩:=e;exact hd b o (block_lt_of_cell hcell) (hF b o h)
 ·obtain ⟨b,off,u,ha,hcell,hu⟩:=hc i hi
  exact ⟨b,off,u,ha,hcell,hu.mono hd⟩
def Cv (ln:Nat→Nat):Nat→Nat
 | 0=>0
 | i+1=>Cv ln i+ln i
theorem Q5 (ln:Nat→Nat) {i j:Nat} (h:i≤j):Cv ln i≤Cv ln j:=by
 induction j with
 | zero=>simp at h; subst h; exact Nat.le_refl _
 | succ j ih =>
  by_cases e:i=j+1
  ·subst e; exact Nat.le_refl _
  ·exact Nat.le_trans (ih (by omega)) (Nat.le_add_right _ _)
theorem Ng (n:Int) (m k:Nat) (hk:k<63) (hm:(BitVec.ofInt 64 (m:Int)).toNat=2 ^ k-1):bits .and .i64 n (m:Int)=n%((2 ^ k:Nat):Int):=by
 have key:(BitVec.ofInt 64 n &&& BitVec.ofInt 64 (m:Int)).toNat=(n%((2 ^ 64:Nat):Int)).toNat%2 ^ k:=by
  rw [BitVec.toNat_and,BitVec.toNat_ofInt,hm,Nat.and_two_pow_sub_one_eq_mod]
 show IntKind.i64.wrap ((BitVec.ofInt 64 n &&& BitVec.ofInt 64 (m:Int)).toNat:Nat)=_
 rw [key,IntKind.wrap_i64];have hp:(0:Nat)<2 ^ k:=Nat.two_pow_pos k;have hle:2 ^ k≤4611686018427387904:=Nat.le_trans (Nat.pow_le_pow_right (by omega:2>0) (by omega:k≤62)) (by decide);have hd:(2:Nat) ^ k ∣ 2 ^ 64:=Nat.pow_dvd_pow 2 (by omega);have h0:0≤n%((2 ^ 64:Nat):Int):=Int.emod_nonneg _ (by decide)
 have e1:(((n%((2 ^ 64:Nat):Int)).toNat%2 ^ k:Nat):Int)=n%((2 ^ k:Nat):Int):=by
  rw [Int.natCast_emod,Int.toNat_of_nonneg h0];exact Int.emod_emod_of_dvd n (Int.natCast_dvd_natCast.2 hd)
 rw [e1];clear e1 hd h0 key hm;generalize 2 ^ k=K at *;have b0:0≤n%(K:Int):=Int.emod_nonneg _ (by omega);have b1:n%(K:Int)<(K:Int):=Int.emod_lt_of_pos _ (by omega)
 omega
theorem I5 (n:Int):bits .and .i64 n 255=n%256:=Ng n 255 8 (by omega) (by decide)
theorem Lz (n:Int):bits .and .i64 n 65535=n%65536:=Ng n 65535 16 (by omega) (by decide)
theorem Bs {k:IntKind} {a b:Int} (h:a=b):Ending.returned (.int k a)=.returned (.int k b):=by rw [h]
theorem Al {a b:Bool} (h:a=b):Ending.returned (.bool a)=.returned (.bool b):=by rw [h]
theorem I6 {a b c d:Value} (h:a=b) (g:c=d):Ending.returned (.tuple #[a,c])=.returned (.tuple #[b,d]):=by rw [h,g]
def Bc (b:Bool):Int:=if b then 1 else 0
open Go.ChangeShapes Go.WideShapes Go.ChangeAt Go.RowKit
def A8 (n m:Nat) (f g:Nat→Int):Bool:=decide (n=m∧∀ i,i<n→f i=g i)
theorem Kz {n m:Nat} {f g:Nat→Int} (h:¬ n=m):A8 n m f g=false:=decide_eq_false (fun x=>h x.1)
theorem I7 {n:Nat} {f g:Nat→Int} (h:∀ i,i<n→f i=g i):A8 n n f g=true:=decide_eq_true ⟨rfl,h⟩
theorem Qo {k:Nat} {f g:Nat→Int} (h:∀ j,j<k→f j=g j) (hk:f k=g k):∀ j,j<k+1→f j=g j:=fun j hj=>by
 by_cases e:j=k
 ·rw [e]; exact hk
 ·exact h j (by omega)
theorem info3:(Tryz.prog.info? 3).map (fun i=>(i.zero,i.size,i.bytes))=some (some (.i 0),1,8):=by kernel_rfl
theorem Ni:(Tryz.prog.info? 25).map (fun i=>(i.zero,i.size,i.bytes))=some (some (.slice none 0 0),1,24):=by kernel_rfl
structure Fz (w:World) (b0 m:Nat) (ln:Nat→Nat) (f:Nat→Nat→Int):Prop where
 outer:w.rowIs b0 25 m (fun i=>.slice (some ⟨b0+1+i,0,none⟩) (ln i) (ln i))
 inner:∀ i,i<m→w.rowIs (b0+1+i) 3 (ln i) (fun j=>.i (f i j))
def Dg (m n:Nat) (ln lg:Nat→Nat) (f g:Nat→Nat→Int):Bool:=decide (m=n∧∀ i,i<m→A8 (ln i) (lg i) (f i) (g i)=true)
theorem Pp {m n:Nat} {ln lg:Nat→Nat} {f g:Nat→Nat→Int} (h:¬ m=n):Dg m n ln lg f g=false:=decide_eq_false (fun x=>h x.1)
theorem Nj {k:Nat} {ln lg:Nat→Nat} {f g:Nat→Nat→Int} (h:∀ i,i<k→A8 (ln i) (lg i) (f i) (g i)=true) (hk:A8 (ln k) (lg k) (f k) (g k)=true):∀ j,j<k+1→A8 (ln j) (lg j) (f j) (g j)=true:=fun j hj=>by
 by_cases e:j=k
 ·rw [e]; exact hk
 ·exact h j (by omega)
theorem I8 {k:IntKind} {w:World} {F:Nat→Nat→Prop} {v:Value} {n:Nat} {f:Nat→Int} (h:Ints k w F v n f) (d:Nat):Ints k (w.drewN d) F v n f:=h
theorem I9 {kd:IntKind} {w:World} {b off n:Nat} {f:Nat→Int} {j:Nat} {x:Int} (H:Bv kd w (some ⟨b,off,none⟩) n f) (hj:j<n) :
  Bv kd (w.setCell ⟨b,off+j,none⟩ (.int kd x)) (some ⟨b,off,none⟩) n (fun i=>if i=j then x else f i):=fun i hi=>by
 obtain ⟨b',off',e,hc⟩:=H i hi;simp only [Option.some.injEq,Addr.mk.injEq,and_true] at e;obtain ⟨rfl,rfl⟩:=e;refine ⟨b,off,rfl,?_⟩
 by_cases e:i=j
 ·subst e
  rw [World.cell?_setCell_same _ _ _ hc]
  simp
 ·rw [World.cell?_setCell_other _ _ _ _ (by intro h; simp only [Addr.mk.injEq] at h; omega),hc]
  show _=some (Value.int kd (if i=j then x else f i))
  rw [if_neg e]
structure Vw (w:World) (v:Value) (m:Nat) (ra:Nat→Option Addr) (ln rc:Nat→Nat):Prop where
 outer:∃ a cap,v=.slice a m cap∧m≤1048576∧∀ i,i<m→∃ b off,a=some ⟨b,off,none⟩∧w.cell? ⟨b,off+i,none⟩=some (.slice (ra i) (ln i) (rc i))∧∀ j,j<m→¬ Cd (ra j) (ln j) b (off+i)
 free:∀ i,i<m→Ie w (Cd (ra i) (ln i))
 disj:∀ i j,i<m→j<m→i≠j→∀ b o,Cd (ra i) (ln i) b o→¬ Cd (ra j) (ln j) b o
 small:Cv ln m≤1099511627776
theorem Vw.keep {w w':World} {v:Value} {m:Nat} {ra:Nat→Option Addr} {ln rc:Nat→Nat} {R:Nat→Nat→Prop} (h:Vw w v m ra ln rc) (hw:Wrote R w w') (hd:∀ b o,R b o→∃ i,i<m∧Cd (ra i) (ln i) b o):Vw w' v m ra ln rc:=by
 obtain ⟨⟨a,cap,hv,hm,ho⟩,hf,hdj,hs⟩:=h;refine ⟨⟨a,cap,hv,hm,fun i hi=>?_⟩,fun i hi=>(hf i hi).keep hw,hdj,hs⟩;obtain ⟨b,off,ha,hc,hn⟩:=ho i hi;refine ⟨b,off,ha,?_,hn⟩;rw [hw.cell b (off+i) (block_lt_of_cell hc) (fun h=>by obtain ⟨j,hj,hF⟩:=hd _ _ h; exact hn j hj hF)];exact hc
end Go.Proofs.YtfjieibndedngaaGreat
