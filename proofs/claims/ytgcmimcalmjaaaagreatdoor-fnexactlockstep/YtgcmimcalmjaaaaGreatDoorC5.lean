import Derived.Test.YtgcmimcalmjaaaaGreatDoorE2
import Derived.Test.YtgcmimcalmjaaaaGreatDoorC1
import Derived.Lib.Builder
import Derived.ChangeOld
import Derived.ShutString
import Derived.Lib.SmallJoins
import Derived.Lib.LaidTab
import Derived.Deep.RegionLawGrows
import Derived.Deep.RegionWith
import Derived.Deep.RegionHeld3
import Derived.Deep.AppendLies
namespace Go.Proofs.YtgcmimcalmjaaaaGreatDoor
set_option linter.unusedVariables false
open Go.ChangeShapes Go.WideShapes Go.ChangeAt Go.RowKit
theorem Jp (n:Int) (m:Nat) (hm:m<256):bits .and .i64 n (m:Int)=(((n%256).toNat &&& m:Nat):Int):=by
  have h0:0≤n%((2 ^ 64:Nat):Int):=Int.emod_nonneg _ (by decide)
  have key:(BitVec.ofInt 64 n &&& BitVec.ofInt 64 (m:Int)).toNat=(n%256).toNat &&& m:=by
    rw [BitVec.toNat_and,BitVec.toNat_ofInt,BitVec.toNat_ofInt]
    have e1:((m:Int)%((2 ^ 64:Nat):Int)).toNat=m:=by omega
    have e2:(n%256).toNat=(n%((2 ^ 64:Nat):Int)).toNat%2 ^ 8:=by omega
    have e3:m=(2 ^ 8-1) &&& m:=by rw [Nat.and_comm,Nat.and_two_pow_sub_one_eq_mod]; omega
    rw [e1,e2];generalize (n%((2 ^ 64:Nat):Int)).toNat=x;rw [← Nat.and_two_pow_sub_one_eq_mod,Nat.and_assoc,← e3]
  show IntKind.i64.wrap ((BitVec.ofInt 64 n &&& BitVec.ofInt 64 (m:Int)).toNat:Nat)=_
  rw [key,IntKind.wrap_i64];have hle:(n%256).toNat &&& m≤m:=Nat.and_le_right;generalize (n%256).toNat &&& m=y at *
  omega
def hasB (v:Int) (m:Nat):Bool:=((v%256).toNat &&& m) != 0
theorem Kx (v:Int) (m:Nat) (hm:m<256):(bits .and .i64 v (m:Int) != 0)=hasB v m:=by
  rw [Jp v m hm];unfold hasB;generalize (v%256).toNat &&& m=y
  cases y <;> simp <;> omega
theorem Pq (v:Int) (m:Nat) (hm:m<256):(bits .and .u8 (v%256) (m:Int) != 0)=hasB v m:=by
  rw [u8_and (v%256) (m:Int) (by omega) (by omega) (by omega) (by omega),Int.toNat_natCast];unfold hasB;generalize (v%256).toNat &&& m=y
  cases y <;> simp <;> omega
theorem Aa {w w':World} {b n:Nat} {o:Obj} (hb:w.heap[b]?=some o) (L:Below n w w') (h:b<n):w'.heap[b]?=some o:=(L.block b h).trans hb
theorem Al (w:World) (cs:Array Value) (t:TypeId):(w.alloc (.cells cs t)).heap[w.heap.size]?=some (.cells cs t (0,0)):=by show (w.heap.push _)[w.heap.size]?=_; simp
theorem Ag {w:World} {b:Nat} {cs:Array Value} {t:TypeId} {fr:Nat × Nat} (h:w.heap[b]?=some (.cells cs t fr)):∀ j,w.cell? ⟨b,j,none⟩=cs[j]?:=fun j=>Lib.cell_of_heap h j
theorem As {w:World} {b:Nat} {cs:Array Value} {t:TypeId} (h:w.heap[b]?=some (.cells cs t (0,0))):∀ j,w.frozen? ⟨b,j,none⟩=false:=fun j=>Lib.frozen_of_heap h j
theorem Ac {w:World} {b:Nat} {o:Obj} (hb:w.heap[b]?=some o):b<w.heap.size:=by
  rcases Nat.lt_or_ge b w.heap.size with h' | h'
  · exact h'
  · simp [Array.getElem?_eq_none h'] at hb
theorem Ax {w:World} {b:Nat} {o:Obj} (hb:w.heap[b]?=some o) (x:Obj):(w.alloc x).heap[b]?=some o:=Aa hb ((Below.refl w.heap.size w).alloc (Nat.le_refl _) x) (Ac hb)
theorem Ae {w w' w'':World} (h:Below w.heap.size w w') (k:Below w'.heap.size w' w''):Below w.heap.size w w'':=h.trans (k.mono h.size)
theorem Od {w:World} {g n:Nat} {t:TypeId} {k:IntKind} {f:Nat→Int} (h:w.rowIs g t n (fun j=>.int k (f j))):Be k w (some ⟨g,0,none⟩) n f:=fun i hi=>⟨g,0,rfl,by rw [Nat.zero_add]; exact h.cell hi⟩
def It (A X S Pc:Int):Bool:=Cs A 0 255 && Cs X 0 255 && Cs S 0 255 && Cs Pc 0 65535
def flagsOf (Z N C I:Bool):Int:=Av C+2*Av Z+4*Av I+128*Av N
theorem Yk {P:Program} {f:FuncId} {args:Array Value} {w:World} {v:Value} (h:Calls P f args w fun e w'=>e=.returned v∧w'=w):Calls P f args w fun e w'=>e=.returned v∧∃ m,w'=w.drewN m :=
  h.mono fun _ _ ⟨he,hw⟩=>⟨he,0,by rw [hw]; simp [World.drewN]⟩
theorem Jcy (w:World) (A X S Pc:Int) (Z N C I:Bool):Calls Tryz.prog 22 #[.agg (cR A X S Pc Z N C I)] w
    fun e w'=>e=.returned (.agg (cR A X S Pc Z N C I))∧Below w.heap.size w w':=by
  go_enter Tryz.func22,Tryz.ntmps22
  go_wp2;refine bodyPost_ret (v:=.agg (cR A X S Pc Z N C I)) (by simp [results,Tryz.results22,go_sem]) rfl ?_;exact ⟨rfl,(((Below.refl _ _).alloc (Nat.le_refl _) _).alloc (by simp) _).alloc (by simp; omega) _⟩
theorem Sy (w:World) (A X S Pc:Int) (Z N C I:Bool):Calls Tryz.prog 33 #[.agg (cR A X S Pc Z N C I),.agg (cR A X S Pc Z N C I)] w
    fun e w'=>e=.returned (.bool true)∧Below w.heap.size w w':=by
  go_enter Tryz.func33,Tryz.ntmps33
  go_wp2;go_ret;exact ⟨rfl,((Below.refl _ _).alloc (Nat.le_refl _) _).alloc (by simp) _⟩
theorem Ha (w:World) (x:Int):Calls Tryz.prog 54 #[.i x] w fun e w'=>e=.returned (.bool (Cs x 0 255))∧w'=w:=by
  go_enter Tryz.func54,Tryz.ntmps54
  go_wp2_with fail;refine (Gj _ _ _ _).mono ?_;rintro e w' ⟨rfl,rfl⟩;go_wp2;go_ret;exact ⟨rfl,rfl⟩
theorem Vs (w:World) (A X S Pc:Int) (Z N C I:Bool):Calls Tryz.prog 51 #[.agg (cR A X S Pc Z N C I)] w
    fun e w'=>e=.returned (.bool (It A X S Pc))∧Below w.heap.size w w':=by
  unfold It
  go_enter Tryz.func51,Tryz.ntmps51
  generalize hA:Cs A 0 255=bA;generalize hX:Cs X 0 255=bX;generalize hS:Cs S 0 255=bS;generalize hP:Cs Pc 0 65535=bP
  have L0:∀ o,Below w.heap.size w (w.alloc o):=fun o=>(Below.refl _ _).alloc (Nat.le_refl _) _
  cases bA <;> cases bX <;> cases bS <;> cases bP <;>
    (go_wp2_with (first | (go_at_call 54; refine (Ha _ _).mono ?_; rintro e w' ⟨rfl,rfl⟩; first | rw [hA] | rw [hX] | rw [hS]) | (go_at_call 55; refine (Gj _ _ _ _).mono ?_; rintro e w' ⟨rfl,rfl⟩; rw [hP]))
     go_ret
     exact ⟨rfl,L0 _⟩)
theorem Vt (w:World) (A X S Pc:Int) (Z N C I:Bool):Calls Tryz.prog 109 #[.agg (cR A X S Pc Z N C I)] w
    fun e w'=>e=.returned (.i (flagsOf Z N C I))∧Below w.heap.size w w':=by
  have hz:0≤Av Z∧Av Z≤1:=by cases Z <;> decide
  have hn:0≤Av N∧Av N≤1:=by cases N <;> decide
  have hc:0≤Av C∧Av C≤1:=by cases C <;> decide
  have hi:0≤Av I∧Av I≤1:=by cases I <;> decide
  unfold flagsOf
  have L0:∀ o n,Below w.heap.size w ((w.alloc o).drewN n):=fun o n=>((Below.refl _ _).alloc (Nat.le_refl _) _).trans ⟨rfl,rfl,rfl,Nat.le_refl _,fun _ _=>rfl⟩
  go_enter Tryz.func109,Tryz.ntmps109
  go_wp2_with fail
  go_quiet ((go_at_call 145; exact Calls.quiet_of (Yk (Qr _ _))))
  go_wp2;go_ret;exact ⟨rfl,L0 _ _⟩
theorem No (w:World) (A X S Pc:Int) (Z N C I:Bool) (v:Int):Calls Tryz.prog 130 #[.agg (cR A X S Pc Z N C I),.i v] w
    fun e w'=>e=.returned (.agg (cR A X S Pc (hasB v 2) (hasB v 128) (hasB v 1) (hasB v 4)))∧Below w.heap.size w w':=by
  have h1:(bits .and .i64 v 1 != 0)=hasB v 1:=Kx v 1 (by omega);have h2:(bits .and .i64 v 2 != 0)=hasB v 2:=Kx v 2 (by omega);have h4:(bits .and .i64 v 4 != 0)=hasB v 4:=Kx v 4 (by omega);have h8:(bits .and .i64 v 128 != 0)=hasB v 128:=Kx v 128 (by omega)
  go_enter Tryz.func130,Tryz.ntmps130
  go_wp2;refine bodyPost_ret (v:=.agg (cR A X S Pc (hasB v 2) (hasB v 128) (hasB v 1) (hasB v 4))) (by simp [results,Tryz.results130,go_sem]) rfl ?_;exact ⟨rfl,((Below.refl _ _).alloc (Nat.le_refl _) _).alloc (by simp) _⟩
theorem Yl (w:World) (A X S Pc:Int) (Z N C I:Bool) (v:Int):Calls Tryz.prog 129 #[.agg (cR A X S Pc Z N C I),.i v] w
    fun e w'=>e=.returned (.agg (cR (v%256) X S Pc (v%256==0) (decide (127<v%256)) C I))∧Below w.heap.size w w':=by
  go_enter Tryz.func129,Tryz.ntmps129
  go_wp2_with (first | (go_at_call 116; refine (Bs _ _).mono ?_; rintro e w' ⟨rfl,rfl⟩) | (go_at_call 149; refine (J7 _ _).mono ?_; rintro e w' ⟨rfl,rfl⟩));refine bodyPost_ret (v:=.agg (cR (v%256) X S Pc (v%256==0) (decide (127<v%256)) C I)) (by simp [results,Tryz.results129,go_sem]) rfl ?_;exact ⟨rfl,((Below.refl _ _).alloc (Nat.le_refl _) _).alloc (by simp) _⟩
theorem Ym (w:World) (A X S Pc:Int) (Z N C I:Bool) (v:Int):Calls Tryz.prog 150 #[.agg (cR A X S Pc Z N C I),.i v] w
    fun e w'=>e=.returned (.agg (cR A (v%256) S Pc (v%256==0) (decide (127<v%256)) C I))∧Below w.heap.size w w':=by
  go_enter Tryz.func150,Tryz.ntmps150
  go_wp2_with (first | (go_at_call 116; refine (Bs _ _).mono ?_; rintro e w' ⟨rfl,rfl⟩) | (go_at_call 149; refine (J7 _ _).mono ?_; rintro e w' ⟨rfl,rfl⟩));refine bodyPost_ret (v:=.agg (cR A (v%256) S Pc (v%256==0) (decide (127<v%256)) C I)) (by simp [results,Tryz.results150,go_sem]) rfl ?_;exact ⟨rfl,((Below.refl _ _).alloc (Nat.le_refl _) _).alloc (by simp) _⟩
set_option maxRecDepth 20000
section
variable {H:Type} {enc:TypeId × Value→H} {P:Program} {w:World} {base:Nat} {spare:Nat→Bool} {held:Bool}
theorem Fe {t e:TypeId} {k:IntKind} {fuel:Nat} {cs:List Value} {x:DataW H × List MemPlace} (ht:P.underlying t=some (.slice e)) (he:P.underlying e=some (.int k)) (hc:P.cellsOf e=1)
  (h:DataW.trod enc P w base spare held fuel t cs=some x) :
  ∃ (a:Option Addr) (n cap:Nat) (f:Nat→Int),cs=[.slice a n cap]∧n≤9223372036854775807∧Be k w a n f∧∀ i,i<n→(Lit.int k (f i)).wf=true:=by
 rcases open_ints ht he hc h with ⟨rfl,_⟩ | ⟨⟨b,off,spot⟩,n,cap,zs,rfl,_,hl,hm,hz,_,hcell,hw⟩
 ·exact ⟨none,0,0,fun _=>0,rfl,by omega,fun i hi=>absurd hi (Nat.not_lt_zero _),fun i hi=>absurd hi (Nat.not_lt_zero _)⟩
 ·have hnz:n≤zs.length:=by rw [hz]; split <;> omega
  refine ⟨some ⟨b,off,spot⟩,n,cap,fun i=>zs.getD i 0,rfl,by unfold maxLen at hm; omega,fun i hi=>?_,fun i hi=>hw _ ?_⟩
  ·have hs:spot=none:=by simpa [Addr.add] using World.cell?_spot (hcell 0 (by omega))
   subst hs;refine ⟨b,off,rfl,?_⟩;have:=hcell i (by omega);unfold Addr.add at this;split at this
   ·rename_i h0
    subst h0;exact this
   ·exact this
  ·show zs.getD i 0∈zs
   rw [List.getD_eq_getElem?_getD,List.getElem?_eq_getElem (by omega)];exact List.getElem_mem _
theorem Yh {a:Addr} {cs:List Value} (h:w.cells? base a 1=some cs):∃ u,cs=[u]∧w.cell? a=some u:=by
 unfold World.cells? at h;split at h
 ·simp [List.range_succ,Addr.add] at h
  cases hc:w.cell? a with
  | none=>simp [hc] at h
  | some u =>
   simp [hc] at h
   exact ⟨u,h.symm,rfl⟩
 ·cases h
theorem Yi {t e:TypeId} {fuel:Nat} {cs:List Value} {x:DataW H × List MemPlace} (ht:P.underlying t=some (.slice e)) (hc:P.cellsOf e=1)
  (h:DataW.trod enc P w base spare held fuel t cs=some x) :
  ∃ (a:Option Addr) (n cap fuel':Nat),cs=[.slice a n cap]∧n≤9223372036854775807∧∀ i,i<n→∃ b off u y,a=some ⟨b,off,none⟩∧w.cell? ⟨b,off+i,none⟩=some u∧DataW.trod enc P w base spare held fuel' e [u]=some y:=by
 rcases Deep.open_slice ht h with ⟨rfl,_⟩ | ⟨⟨b,off,spot⟩,n,cap,m,fu,D,Pl,rfl,_,hl,hm,he,_,hel⟩
 ·exact ⟨none,0,0,0,rfl,by omega,fun i hi=>absurd hi (Nat.not_lt_zero _)⟩
 ·have hnm:n≤m:=by rw [he]; split <;> omega
  refine ⟨some ⟨b,off,spot⟩,n,cap,fu,rfl,by unfold maxLen at hm; omega,fun i hi=>?_⟩;obtain ⟨cs0,h0,_⟩:=hel 0 (by omega);obtain ⟨csi,h1,h2⟩:=hel i (by omega);rw [hc,Nat.mul_one] at h0 h1;obtain ⟨u0,rfl,c0⟩:=Yh h0;obtain ⟨u,rfl,c1⟩:=Yh h1
  have hs:spot=none:=by simpa [Addr.add] using World.cell?_spot c0
  subst hs;refine ⟨b,off,u,_,rfl,?_,h2⟩;unfold Addr.add at c1;split at c1
  ·rename_i h0
   subst h0;exact c1
  ·exact c1
theorem Oa {t e g:TypeId} {fuel:Nat} {cs:List Value} {x:DataW H × List MemPlace} (ht:P.underlying t=some (.slice e)) (hc:P.cellsOf e=1) (he:P.underlying e=some (.slice g)) (hg:P.underlying g=some (.int .i64)) (hcg:P.cellsOf g=1)
  (h:DataW.trod enc P w base spare held fuel t cs=some x) :
  ∃ (v:Value) (m:Nat) (ra:Nat→Option Addr) (ln rc:Nat→Nat) (f:Nat→Nat→Int),cs=[v]∧Ed w v m ra ln rc f:=by
 obtain ⟨a,m,cap,fu,rfl,hm,hrow⟩:=Yi ht hc h
 have key:∀ i,∃ q:Option Addr × Nat × Nat × (Nat→Int),i<m→(∃ b off,a=some ⟨b,off,none⟩∧w.cell? ⟨b,off+i,none⟩=some (.slice q.1 q.2.1 q.2.2.1))∧q.2.1≤9223372036854775807∧Be .i64 w q.1 q.2.1 q.2.2.2∧∀ j,j<q.2.1→(Lit.i (q.2.2.2 j)).wf=true:=by
  intro i
  by_cases hi:i<m
  ·obtain ⟨b,off,u,y,ha,hcell,hu⟩:=hrow i hi
   obtain ⟨a',n,c',f,e,hn,hr,hw⟩:=Fe he hg hcg hu;simp only [List.cons.injEq,and_true] at e;subst e;exact ⟨(a',n,c',f),fun _=>⟨⟨b,off,ha,hcell⟩,hn,hr,hw⟩⟩
  ·exact ⟨(none,0,0,fun _=>0),fun h=>absurd h hi⟩
 obtain ⟨q,hq⟩:=Classical.skolem.1 key;exact ⟨_,m,fun i=>(q i).1,fun i=>(q i).2.1,fun i=>(q i).2.2.1,fun i=>(q i).2.2.2,rfl,⟨⟨a,cap,rfl,hm,fun i hi=>(hq i hi).1⟩,fun i hi=>(hq i hi).2⟩⟩
theorem Cv {t:TypeId} {k:IntKind} {fuel:Nat} {cs:List Value} {x:DataW H × List MemPlace} (ht:P.underlying t=some (.int k)) (h:DataW.trod enc P w base spare held fuel t cs=some x):∃ z,cs=[.int k z]∧(Lit.int k z).wf=true:=by
 cases fuel with
 | zero=>simp [DataW.trod] at h
 | succ n =>
  simp only [DataW.trod,ht] at h
  split at h <;> simp_all
theorem Ee {t:TypeId} {fuel:Nat} {cs:List Value} {x:DataW H × List MemPlace} (ht:P.underlying t=some .bool) (h:DataW.trod enc P w base spare held fuel t cs=some x):∃ b,cs=[.bool b]:=by
 cases fuel with
 | zero=>simp [DataW.trod] at h
 | succ n =>
  simp only [DataW.trod,ht] at h
  split at h <;> simp_all
theorem Dh {t:TypeId} {fs:Array Field} {fuel:Nat} {cs:List Value} {x:DataW H × List MemPlace} (ht:P.underlying t=some (.struct fs)) (h:DataW.trod enc P w base spare held fuel t cs=some x) :
  ∃ n,cs.length=P.cellsOf t∧∀ (j:Nat) (f:Field),fs.toList[j]?=some f→∃ y,DataW.trod enc P w base spare held n f.type ((cs.drop f.offset).take (P.cellsOf f.type))=some y:=by
 cases fuel with
 | zero=>simp [DataW.trod] at h
 | succ n =>
  simp only [DataW.trod,ht] at h;split at h
  ·rename_i hl
   obtain ⟨xs,hm,_⟩:=Option.map_eq_some_iff.1 h;exact ⟨n,hl,fun j f hj=>by obtain ⟨b,_,hf⟩:=Lib.mapM_at hm j f hj; exact ⟨b,hf⟩⟩
  ·cases h
end
theorem Vn {H:Type} {enc:TypeId × Value→H} {w:World} {base:Nat} {spare:Nat→Bool} {held:Bool} {r:Reach} {b0:Nat} {v:Value} {d:DataW H} {p:List MemPlace}
  (hv:Value.okWide Tryz.prog w r b0 39 v) (h:DataW.Trod enc Tryz.prog w base spare held 39 v d p) :
  ∃ (u0ImgBanks:Value) (m0ImgBanks:Nat) (ra0ImgBanks:Nat→Option Addr) (ln0ImgBanks rc0ImgBanks:Nat→Nat) (f0ImgBanks:Nat→Nat→Int) (s0Pads:Option Addr) (n0Pads c0Pads:Nat) (f0Pads:Nat→Int) (s0MemRam:Option Addr) (n0MemRam c0MemRam:Nat) (f0MemRam:Nat→Int) (a0MemBank:Int) (a0CpuA:Int) (a0CpuX:Int) (a0CpuS:Int) (a0CpuPc:Int) (a0CpuZ:Bool) (a0CpuN:Bool) (a0CpuC:Bool) (a0CpuI:Bool) (a0PpuT:Int) (a0PpuCtrl:Int) (a0PpuScroll:Int) (a0PpuAddr:Int) (a0PpuPal:Int) (a0PpuBlank:Bool) (s0PpuTable:Option Addr) (n0PpuTable c0PpuTable:Nat) (f0PpuTable:Nat→Int) (s0PpuDots:Option Addr) (n0PpuDots c0PpuDots:Nat) (f0PpuDots:Nat→Int) (a0ApuT:Int) (a0ApuPeriod:Int) (a0ApuCount:Int) (a0ApuBit:Int) (a0ApuLength:Int) (a0ApuAsks:Bool) (a0ApuIrq:Bool) (a0PadHeld:Bool) (a0PadShift:Int) (a0Nmi:Bool) (a0Steps:Int) (u0ObsFrames:Value) (m0ObsFrames:Nat) (ra0ObsFrames:Nat→Option Addr) (ln0ObsFrames rc0ObsFrames:Nat→Nat) (f0ObsFrames:Nat→Nat→Int) (s0ObsSamples:Option Addr) (n0ObsSamples c0ObsSamples:Nat) (f0ObsSamples:Nat→Int) (s0ObsReads:Option Addr) (n0ObsReads c0ObsReads:Nat) (f0ObsReads:Nat→Int),v=.agg #[u0ImgBanks,.slice s0Pads n0Pads c0Pads,.slice s0MemRam n0MemRam c0MemRam,.i a0MemBank,.i a0CpuA,.i a0CpuX,.i a0CpuS,.i a0CpuPc,.bool a0CpuZ,.bool a0CpuN,.bool a0CpuC,.bool a0CpuI,.i a0PpuT,.i a0PpuCtrl,.i a0PpuScroll,.i a0PpuAddr,.i a0PpuPal,.bool a0PpuBlank,.slice s0PpuTable n0PpuTable c0PpuTable,.slice s0PpuDots n0PpuDots c0PpuDots,.i a0ApuT,.i a0ApuPeriod,.i a0ApuCount,.i a0ApuBit,.i a0ApuLength,.bool a0ApuAsks,.bool a0ApuIrq,.bool a0PadHeld,.i a0PadShift,.bool a0Nmi,.i a0Steps,u0ObsFrames,.slice s0ObsSamples n0ObsSamples c0ObsSamples,.slice s0ObsReads n0ObsReads c0ObsReads]∧(Ed w u0ImgBanks m0ImgBanks ra0ImgBanks ln0ImgBanks rc0ImgBanks f0ImgBanks)∧(n0Pads≤9223372036854775807∧Be .i64 w s0Pads n0Pads f0Pads∧∀ i,i<n0Pads→(Lit.i (f0Pads i)).wf=true)∧(n0MemRam≤9223372036854775807∧Be .i64 w s0MemRam n0MemRam f0MemRam∧∀ i,i<n0MemRam→(Lit.i (f0MemRam i)).wf=true)∧((Lit.i a0MemBank).wf=true)∧((Lit.i a0CpuA).wf=true)∧((Lit.i a0CpuX).wf=true)∧((Lit.i a0CpuS).wf=true)∧((Lit.i a0CpuPc).wf=true)∧((Lit.i a0PpuT).wf=true)∧((Lit.i a0PpuCtrl).wf=true)∧((Lit.i a0PpuScroll).wf=true)∧((Lit.i a0PpuAddr).wf=true)∧((Lit.i a0PpuPal).wf=true)∧(n0PpuTable≤9223372036854775807∧Be .i64 w s0PpuTable n0PpuTable f0PpuTable∧∀ i,i<n0PpuTable→(Lit.i (f0PpuTable i)).wf=true)∧(n0PpuDots≤9223372036854775807∧Be .i64 w s0PpuDots n0PpuDots f0PpuDots∧∀ i,i<n0PpuDots→(Lit.i (f0PpuDots i)).wf=true)∧((Lit.i a0ApuT).wf=true)∧((Lit.i a0ApuPeriod).wf=true)∧((Lit.i a0ApuCount).wf=true)∧((Lit.i a0ApuBit).wf=true)∧((Lit.i a0ApuLength).wf=true)∧((Lit.i a0PadShift).wf=true)∧((Lit.i a0Steps).wf=true)∧(Ed w u0ObsFrames m0ObsFrames ra0ObsFrames ln0ObsFrames rc0ObsFrames f0ObsFrames)∧(n0ObsSamples≤9223372036854775807∧Be .i64 w s0ObsSamples n0ObsSamples f0ObsSamples∧∀ i,i<n0ObsSamples→(Lit.i (f0ObsSamples i)).wf=true)∧(n0ObsReads≤9223372036854775807∧Be .i64 w s0ObsReads n0ObsReads f0ObsReads∧∀ i,i<n0ObsReads→(Lit.i (f0ObsReads i)).wf=true):=by
 obtain ⟨cs,rfl,hsz⟩:=okWide_struct Tryz.underlying39 hv;obtain ⟨fuel,hf⟩:=h
 have hC:Tryz.prog.cellsOf 39=34:=by kernel_rfl
 rw [hC] at hsz
 obtain ⟨e0,e1,e2,e3,e4,e5,e6,e7,e8,e9,e10,e11,e12,e13,e14,e15,e16,e17,e18,e19,e20,e21,e22,e23,e24,e25,e26,e27,e28,e29,e30,e31,e32,e33,rfl⟩:∃ e0 e1 e2 e3 e4 e5 e6 e7 e8 e9 e10 e11 e12 e13 e14 e15 e16 e17 e18 e19 e20 e21 e22 e23 e24 e25 e26 e27 e28 e29 e30 e31 e32 e33,cs=#[e0,e1,e2,e3,e4,e5,e6,e7,e8,e9,e10,e11,e12,e13,e14,e15,e16,e17,e18,e19,e20,e21,e22,e23,e24,e25,e26,e27,e28,e29,e30,e31,e32,e33]:=by
  rcases cs with ⟨l⟩
  match l,hsz with
  | e0 :: e1 :: e2 :: e3 :: e4 :: e5 :: e6 :: e7 :: e8 :: e9 :: e10 :: e11 :: e12 :: e13 :: e14 :: e15 :: e16 :: e17 :: e18 :: e19 :: e20 :: e21 :: e22 :: e23 :: e24 :: e25 :: e26 :: e27 :: e28 :: e29 :: e30 :: e31 :: e32 :: e33 :: [],_=>exact ⟨_,_,_,_,_,_,_,_,_,_,_,_,_,_,_,_,_,_,_,_,_,_,_,_,_,_,_,_,_,_,_,_,_,_,rfl⟩
 have hf':DataW.trod enc Tryz.prog w base spare held fuel 39 [e0,e1,e2,e3,e4,e5,e6,e7,e8,e9,e10,e11,e12,e13,e14,e15,e16,e17,e18,e19,e20,e21,e22,e23,e24,e25,e26,e27,e28,e29,e30,e31,e32,e33]=some (d,p):=hf;obtain ⟨fu1,hl1,hF1⟩:=Dh Tryz.underlying39 hf';obtain ⟨y2,g2⟩:=hF1 0 _ rfl
 have k2:DataW.trod enc Tryz.prog w base spare held fu1 24 [e0]=some y2:=by
  rw [show Tryz.prog.cellsOf 24=1 by kernel_rfl] at g2;exact g2
 obtain ⟨fu3,hl3,hF3⟩:=Dh Tryz.underlying24 k2;obtain ⟨y4,g4⟩:=hF3 0 _ rfl
 have k4:DataW.trod enc Tryz.prog w base spare held fu3 22 [e0]=some y4:=by
  rw [show Tryz.prog.cellsOf 22=1 by kernel_rfl] at g4;exact g4
 obtain ⟨u0ImgBanks,m0ImgBanks,ra0ImgBanks,ln0ImgBanks,rc0ImgBanks,f0ImgBanks,q0ImgBanks,w0ImgBanks⟩:=Oa Tryz.underlying22 (by kernel_rfl) Tryz.underlying25 Tryz.underlying3 (by kernel_rfl) k4;simp only [List.cons.injEq,and_true] at q0ImgBanks;subst q0ImgBanks;obtain ⟨y5,g5⟩:=hF1 1 _ rfl
 have k5:DataW.trod enc Tryz.prog w base spare held fu1 25 [e1]=some y5:=by
  rw [show Tryz.prog.cellsOf 25=1 by kernel_rfl] at g5;exact g5
 obtain ⟨s0Pads,n0Pads,c0Pads,f0Pads,q0Pads,w0Pads⟩:=Fe (k:=.i64) Tryz.underlying25 Tryz.underlying3 (by kernel_rfl) k5;simp only [List.cons.injEq,and_true] at q0Pads;subst q0Pads;obtain ⟨y6,g6⟩:=hF1 2 _ rfl
 have k6:DataW.trod enc Tryz.prog w base spare held fu1 27 [e2,e3]=some y6:=by
  rw [show Tryz.prog.cellsOf 27=2 by kernel_rfl] at g6;exact g6
 obtain ⟨fu7,hl7,hF7⟩:=Dh Tryz.underlying27 k6;obtain ⟨y8,g8⟩:=hF7 0 _ rfl
 have k8:DataW.trod enc Tryz.prog w base spare held fu7 25 [e2]=some y8:=by
  rw [show Tryz.prog.cellsOf 25=1 by kernel_rfl] at g8;exact g8
 obtain ⟨s0MemRam,n0MemRam,c0MemRam,f0MemRam,q0MemRam,w0MemRam⟩:=Fe (k:=.i64) Tryz.underlying25 Tryz.underlying3 (by kernel_rfl) k8;simp only [List.cons.injEq,and_true] at q0MemRam;subst q0MemRam;obtain ⟨y9,g9⟩:=hF7 1 _ rfl
 have k9:DataW.trod enc Tryz.prog w base spare held fu7 3 [e3]=some y9:=by
  rw [show Tryz.prog.cellsOf 3=1 by kernel_rfl] at g9;exact g9
 obtain ⟨a0MemBank,q0MemBank,w0MemBank⟩:=Cv Tryz.underlying3 k9;simp only [List.cons.injEq,and_true] at q0MemBank;subst q0MemBank;obtain ⟨y10,g10⟩:=hF1 3 _ rfl
 have k10:DataW.trod enc Tryz.prog w base spare held fu1 29 [e4,e5,e6,e7,e8,e9,e10,e11]=some y10:=by
  rw [show Tryz.prog.cellsOf 29=8 by kernel_rfl] at g10;exact g10
 obtain ⟨fu11,hl11,hF11⟩:=Dh Tryz.underlying29 k10;obtain ⟨y12,g12⟩:=hF11 0 _ rfl
 have k12:DataW.trod enc Tryz.prog w base spare held fu11 3 [e4]=some y12:=by
  rw [show Tryz.prog.cellsOf 3=1 by kernel_rfl] at g12;exact g12
 obtain ⟨a0CpuA,q0CpuA,w0CpuA⟩:=Cv Tryz.underlying3 k12;simp only [List.cons.injEq,and_true] at q0CpuA;subst q0CpuA;obtain ⟨y13,g13⟩:=hF11 1 _ rfl
 have k13:DataW.trod enc Tryz.prog w base spare held fu11 3 [e5]=some y13:=by
  rw [show Tryz.prog.cellsOf 3=1 by kernel_rfl] at g13;exact g13
 obtain ⟨a0CpuX,q0CpuX,w0CpuX⟩:=Cv Tryz.underlying3 k13;simp only [List.cons.injEq,and_true] at q0CpuX;subst q0CpuX;obtain ⟨y14,g14⟩:=hF11 2 _ rfl
 have k14:DataW.trod enc Tryz.prog w base spare held fu11 3 [e6]=some y14:=by
  rw [show Tryz.prog.cellsOf 3=1 by kernel_rfl] at g14;exact g14
 obtain ⟨a0CpuS,q0CpuS,w0CpuS⟩:=Cv Tryz.underlying3 k14;simp only [List.cons.injEq,and_true] at q0CpuS;subst q0CpuS;obtain ⟨y15,g15⟩:=hF11 3 _ rfl
 have k15:DataW.trod enc Tryz.prog w base spare held fu11 3 [e7]=some y15:=by
  rw [show Tryz.prog.cellsOf 3=1 by kernel_rfl] at g15;exact g15
 obtain ⟨a0CpuPc,q0CpuPc,w0CpuPc⟩:=Cv Tryz.underlying3 k15;simp only [List.cons.injEq,and_true] at q0CpuPc;subst q0CpuPc;obtain ⟨y16,g16⟩:=hF11 4 _ rfl
 have k16:DataW.trod enc Tryz.prog w base spare held fu11 4 [e8]=some y16:=by
  rw [show Tryz.prog.cellsOf 4=1 by kernel_rfl] at g16;exact g16
 obtain ⟨a0CpuZ,q0CpuZ⟩:=Ee Tryz.underlying4 k16;simp only [List.cons.injEq,and_true] at q0CpuZ;subst q0CpuZ;obtain ⟨y17,g17⟩:=hF11 5 _ rfl
 have k17:DataW.trod enc Tryz.prog w base spare held fu11 4 [e9]=some y17:=by
  rw [show Tryz.prog.cellsOf 4=1 by kernel_rfl] at g17;exact g17
 obtain ⟨a0CpuN,q0CpuN⟩:=Ee Tryz.underlying4 k17;simp only [List.cons.injEq,and_true] at q0CpuN;subst q0CpuN;obtain ⟨y18,g18⟩:=hF11 6 _ rfl
 have k18:DataW.trod enc Tryz.prog w base spare held fu11 4 [e10]=some y18:=by
  rw [show Tryz.prog.cellsOf 4=1 by kernel_rfl] at g18;exact g18
 obtain ⟨a0CpuC,q0CpuC⟩:=Ee Tryz.underlying4 k18;simp only [List.cons.injEq,and_true] at q0CpuC;subst q0CpuC;obtain ⟨y19,g19⟩:=hF11 7 _ rfl
 have k19:DataW.trod enc Tryz.prog w base spare held fu11 4 [e11]=some y19:=by
  rw [show Tryz.prog.cellsOf 4=1 by kernel_rfl] at g19;exact g19
 obtain ⟨a0CpuI,q0CpuI⟩:=Ee Tryz.underlying4 k19;simp only [List.cons.injEq,and_true] at q0CpuI;subst q0CpuI;obtain ⟨y20,g20⟩:=hF1 4 _ rfl
 have k20:DataW.trod enc Tryz.prog w base spare held fu1 31 [e12,e13,e14,e15,e16,e17,e18,e19]=some y20:=by
  rw [show Tryz.prog.cellsOf 31=8 by kernel_rfl] at g20;exact g20
 obtain ⟨fu21,hl21,hF21⟩:=Dh Tryz.underlying31 k20;obtain ⟨y22,g22⟩:=hF21 0 _ rfl
 have k22:DataW.trod enc Tryz.prog w base spare held fu21 3 [e12]=some y22:=by
  rw [show Tryz.prog.cellsOf 3=1 by kernel_rfl] at g22;exact g22
 obtain ⟨a0PpuT,q0PpuT,w0PpuT⟩:=Cv Tryz.underlying3 k22;simp only [List.cons.injEq,and_true] at q0PpuT;subst q0PpuT;obtain ⟨y23,g23⟩:=hF21 1 _ rfl
 have k23:DataW.trod enc Tryz.prog w base spare held fu21 3 [e13]=some y23:=by
  rw [show Tryz.prog.cellsOf 3=1 by kernel_rfl] at g23;exact g23
 obtain ⟨a0PpuCtrl,q0PpuCtrl,w0PpuCtrl⟩:=Cv Tryz.underlying3 k23;simp only [List.cons.injEq,and_true] at q0PpuCtrl;subst q0PpuCtrl;obtain ⟨y24,g24⟩:=hF21 2 _ rfl
 have k24:DataW.trod enc Tryz.prog w base spare held fu21 3 [e14]=some y24:=by
  rw [show Tryz.prog.cellsOf 3=1 by kernel_rfl] at g24;exact g24
 obtain ⟨a0PpuScroll,q0PpuScroll,w0PpuScroll⟩:=Cv Tryz.underlying3 k24;simp only [List.cons.injEq,and_true] at q0PpuScroll;subst q0PpuScroll;obtain ⟨y25,g25⟩:=hF21 3 _ rfl
 have k25:DataW.trod enc Tryz.prog w base spare held fu21 3 [e15]=some y25:=by
  rw [show Tryz.prog.cellsOf 3=1 by kernel_rfl] at g25;exact g25
 obtain ⟨a0PpuAddr,q0PpuAddr,w0PpuAddr⟩:=Cv Tryz.underlying3 k25;simp only [List.cons.injEq,and_true] at q0PpuAddr;subst q0PpuAddr;obtain ⟨y26,g26⟩:=hF21 4 _ rfl
 have k26:DataW.trod enc Tryz.prog w base spare held fu21 3 [e16]=some y26:=by
  rw [show Tryz.prog.cellsOf 3=1 by kernel_rfl] at g26;exact g26
 obtain ⟨a0PpuPal,q0PpuPal,w0PpuPal⟩:=Cv Tryz.underlying3 k26;simp only [List.cons.injEq,and_true] at q0PpuPal;subst q0PpuPal;obtain ⟨y27,g27⟩:=hF21 5 _ rfl
 have k27:DataW.trod enc Tryz.prog w base spare held fu21 4 [e17]=some y27:=by
  rw [show Tryz.prog.cellsOf 4=1 by kernel_rfl] at g27;exact g27
 obtain ⟨a0PpuBlank,q0PpuBlank⟩:=Ee Tryz.underlying4 k27;simp only [List.cons.injEq,and_true] at q0PpuBlank;subst q0PpuBlank;obtain ⟨y28,g28⟩:=hF21 6 _ rfl
 have k28:DataW.trod enc Tryz.prog w base spare held fu21 25 [e18]=some y28:=by
  rw [show Tryz.prog.cellsOf 25=1 by kernel_rfl] at g28;exact g28
 obtain ⟨s0PpuTable,n0PpuTable,c0PpuTable,f0PpuTable,q0PpuTable,w0PpuTable⟩:=Fe (k:=.i64) Tryz.underlying25 Tryz.underlying3 (by kernel_rfl) k28;simp only [List.cons.injEq,and_true] at q0PpuTable;subst q0PpuTable;obtain ⟨y29,g29⟩:=hF21 7 _ rfl
 have k29:DataW.trod enc Tryz.prog w base spare held fu21 25 [e19]=some y29:=by
  rw [show Tryz.prog.cellsOf 25=1 by kernel_rfl] at g29;exact g29
 obtain ⟨s0PpuDots,n0PpuDots,c0PpuDots,f0PpuDots,q0PpuDots,w0PpuDots⟩:=Fe (k:=.i64) Tryz.underlying25 Tryz.underlying3 (by kernel_rfl) k29;simp only [List.cons.injEq,and_true] at q0PpuDots;subst q0PpuDots;obtain ⟨y30,g30⟩:=hF1 5 _ rfl
 have k30:DataW.trod enc Tryz.prog w base spare held fu1 33 [e20,e21,e22,e23,e24,e25,e26]=some y30:=by
  rw [show Tryz.prog.cellsOf 33=7 by kernel_rfl] at g30;exact g30
 obtain ⟨fu31,hl31,hF31⟩:=Dh Tryz.underlying33 k30;obtain ⟨y32,g32⟩:=hF31 0 _ rfl
 have k32:DataW.trod enc Tryz.prog w base spare held fu31 3 [e20]=some y32:=by
  rw [show Tryz.prog.cellsOf 3=1 by kernel_rfl] at g32;exact g32
 obtain ⟨a0ApuT,q0ApuT,w0ApuT⟩:=Cv Tryz.underlying3 k32;simp only [List.cons.injEq,and_true] at q0ApuT;subst q0ApuT;obtain ⟨y33,g33⟩:=hF31 1 _ rfl
 have k33:DataW.trod enc Tryz.prog w base spare held fu31 3 [e21]=some y33:=by
  rw [show Tryz.prog.cellsOf 3=1 by kernel_rfl] at g33;exact g33
 obtain ⟨a0ApuPeriod,q0ApuPeriod,w0ApuPeriod⟩:=Cv Tryz.underlying3 k33;simp only [List.cons.injEq,and_true] at q0ApuPeriod;subst q0ApuPeriod;obtain ⟨y34,g34⟩:=hF31 2 _ rfl
 have k34:DataW.trod enc Tryz.prog w base spare held fu31 3 [e22]=some y34:=by
  rw [show Tryz.prog.cellsOf 3=1 by kernel_rfl] at g34;exact g34
 obtain ⟨a0ApuCount,q0ApuCount,w0ApuCount⟩:=Cv Tryz.underlying3 k34;simp only [List.cons.injEq,and_true] at q0ApuCount;subst q0ApuCount;obtain ⟨y35,g35⟩:=hF31 3 _ rfl
 have k35:DataW.trod enc Tryz.prog w base spare held fu31 3 [e23]=some y35:=by
  rw [show Tryz.prog.cellsOf 3=1 by kernel_rfl] at g35;exact g35
 obtain ⟨a0ApuBit,q0ApuBit,w0ApuBit⟩:=Cv Tryz.underlying3 k35;simp only [List.cons.injEq,and_true] at q0ApuBit;subst q0ApuBit;obtain ⟨y36,g36⟩:=hF31 4 _ rfl
 have k36:DataW.trod enc Tryz.prog w base spare held fu31 3 [e24]=some y36:=by
  rw [show Tryz.prog.cellsOf 3=1 by kernel_rfl] at g36;exact g36
 obtain ⟨a0ApuLength,q0ApuLength,w0ApuLength⟩:=Cv Tryz.underlying3 k36;simp only [List.cons.injEq,and_true] at q0ApuLength;subst q0ApuLength;obtain ⟨y37,g37⟩:=hF31 5 _ rfl
 have k37:DataW.trod enc Tryz.prog w base spare held fu31 4 [e25]=some y37:=by
  rw [show Tryz.prog.cellsOf 4=1 by kernel_rfl] at g37;exact g37
 obtain ⟨a0ApuAsks,q0ApuAsks⟩:=Ee Tryz.underlying4 k37;simp only [List.cons.injEq,and_true] at q0ApuAsks;subst q0ApuAsks;obtain ⟨y38,g38⟩:=hF31 6 _ rfl
 have k38:DataW.trod enc Tryz.prog w base spare held fu31 4 [e26]=some y38:=by
  rw [show Tryz.prog.cellsOf 4=1 by kernel_rfl] at g38;exact g38
 obtain ⟨a0ApuIrq,q0ApuIrq⟩:=Ee Tryz.underlying4 k38;simp only [List.cons.injEq,and_true] at q0ApuIrq;subst q0ApuIrq;obtain ⟨y39,g39⟩:=hF1 6 _ rfl
 have k39:DataW.trod enc Tryz.prog w base spare held fu1 35 [e27,e28]=some y39:=by
  rw [show Tryz.prog.cellsOf 35=2 by kernel_rfl] at g39;exact g39
 obtain ⟨fu40,hl40,hF40⟩:=Dh Tryz.underlying35 k39;obtain ⟨y41,g41⟩:=hF40 0 _ rfl
 have k41:DataW.trod enc Tryz.prog w base spare held fu40 4 [e27]=some y41:=by
  rw [show Tryz.prog.cellsOf 4=1 by kernel_rfl] at g41;exact g41
 obtain ⟨a0PadHeld,q0PadHeld⟩:=Ee Tryz.underlying4 k41;simp only [List.cons.injEq,and_true] at q0PadHeld;subst q0PadHeld;obtain ⟨y42,g42⟩:=hF40 1 _ rfl
 have k42:DataW.trod enc Tryz.prog w base spare held fu40 3 [e28]=some y42:=by
  rw [show Tryz.prog.cellsOf 3=1 by kernel_rfl] at g42;exact g42
 obtain ⟨a0PadShift,q0PadShift,w0PadShift⟩:=Cv Tryz.underlying3 k42;simp only [List.cons.injEq,and_true] at q0PadShift;subst q0PadShift;obtain ⟨y43,g43⟩:=hF1 7 _ rfl
 have k43:DataW.trod enc Tryz.prog w base spare held fu1 4 [e29]=some y43:=by
  rw [show Tryz.prog.cellsOf 4=1 by kernel_rfl] at g43;exact g43
 obtain ⟨a0Nmi,q0Nmi⟩:=Ee Tryz.underlying4 k43;simp only [List.cons.injEq,and_true] at q0Nmi;subst q0Nmi;obtain ⟨y44,g44⟩:=hF1 8 _ rfl
 have k44:DataW.trod enc Tryz.prog w base spare held fu1 3 [e30]=some y44:=by
  rw [show Tryz.prog.cellsOf 3=1 by kernel_rfl] at g44;exact g44
 obtain ⟨a0Steps,q0Steps,w0Steps⟩:=Cv Tryz.underlying3 k44;simp only [List.cons.injEq,and_true] at q0Steps;subst q0Steps;obtain ⟨y45,g45⟩:=hF1 9 _ rfl
 have k45:DataW.trod enc Tryz.prog w base spare held fu1 37 [e31,e32,e33]=some y45:=by
  rw [show Tryz.prog.cellsOf 37=3 by kernel_rfl] at g45;exact g45
 obtain ⟨fu46,hl46,hF46⟩:=Dh Tryz.underlying37 k45;obtain ⟨y47,g47⟩:=hF46 0 _ rfl
 have k47:DataW.trod enc Tryz.prog w base spare held fu46 22 [e31]=some y47:=by
  rw [show Tryz.prog.cellsOf 22=1 by kernel_rfl] at g47;exact g47
 obtain ⟨u0ObsFrames,m0ObsFrames,ra0ObsFrames,ln0ObsFrames,rc0ObsFrames,f0ObsFrames,q0ObsFrames,w0ObsFrames⟩:=Oa Tryz.underlying22 (by kernel_rfl) Tryz.underlying25 Tryz.underlying3 (by kernel_rfl) k47;simp only [List.cons.injEq,and_true] at q0ObsFrames;subst q0ObsFrames;obtain ⟨y48,g48⟩:=hF46 1 _ rfl
 have k48:DataW.trod enc Tryz.prog w base spare held fu46 25 [e32]=some y48:=by
  rw [show Tryz.prog.cellsOf 25=1 by kernel_rfl] at g48;exact g48
 obtain ⟨s0ObsSamples,n0ObsSamples,c0ObsSamples,f0ObsSamples,q0ObsSamples,w0ObsSamples⟩:=Fe (k:=.i64) Tryz.underlying25 Tryz.underlying3 (by kernel_rfl) k48;simp only [List.cons.injEq,and_true] at q0ObsSamples;subst q0ObsSamples;obtain ⟨y49,g49⟩:=hF46 2 _ rfl
 have k49:DataW.trod enc Tryz.prog w base spare held fu46 25 [e33]=some y49:=by
  rw [show Tryz.prog.cellsOf 25=1 by kernel_rfl] at g49;exact g49
 obtain ⟨s0ObsReads,n0ObsReads,c0ObsReads,f0ObsReads,q0ObsReads,w0ObsReads⟩:=Fe (k:=.i64) Tryz.underlying25 Tryz.underlying3 (by kernel_rfl) k49;simp only [List.cons.injEq,and_true] at q0ObsReads;subst q0ObsReads;exact ⟨_,_,_,_,_,_,_,_,_,_,_,_,_,_,_,_,_,_,_,_,_,_,_,_,_,_,_,_,_,_,_,_,_,_,_,_,_,_,_,_,_,_,_,_,_,_,_,_,_,_,_,_,_,_,_,_,_,_,_,_,_,_,rfl,w0ImgBanks,w0Pads,w0MemRam,w0MemBank,w0CpuA,w0CpuX,w0CpuS,w0CpuPc,w0PpuT,w0PpuCtrl,w0PpuScroll,w0PpuAddr,w0PpuPal,w0PpuTable,w0PpuDots,w0ApuT,w0ApuPeriod,w0ApuCount,w0ApuBit,w0ApuLength,w0PadShift,w0Steps,w0ObsFrames,w0ObsSamples,w0ObsReads⟩
structure Am (w:World) (lo:Nat) (v:Value) (n:Nat) (f:Nat→Int):Prop where
 ex:∃ a cap,v=.slice a n cap∧n≤1048576∧Be .i64 w a n f∧Pd w (Da a n)∧∀ b o,Da a n b o→lo≤b
theorem Gk {m:Nat} {ln:Nat→Nat} {f:Nat→Nat→Int} (h:Fx m ln f=true):(∀ i,i<m→Dq (ln i) (f i)=true)∧1≤m∧m≤8:=of_decide_eq_true h
def rowVals (n:Nat) (g:Nat→Int):List Value:=(List.range n).map (fun i=>.int .i64 (g i))
theorem A2 (n:Nat) (g:Nat→Int):(rowVals n g).length=n:=by simp [rowVals]
theorem Bj (n:Nat) (g:Nat→Int) (j:Nat) (h:j<n):(rowVals n g)[j]?=some (.int .i64 (g j)):=by simp [rowVals,h]
theorem Fy (n:Nat) (g:Nat→Int):∀ u∈rowVals n g,u.oneCell'=true:=fun u hu=>by
 simp only [rowVals,List.mem_map] at hu;obtain ⟨i,_,rfl⟩:=hu
 rfl
theorem J9 (b off j:Nat):(⟨b,off,none⟩:Addr).add j=⟨b,off+j,none⟩:=by
 unfold Addr.add;split
 ·rename_i h
  subst h
  rfl
 ·rfl
theorem Cy {w:World} {b off n:Nat} {g:Nat→Int} (h:Be .i64 w (some ⟨b,off,none⟩) n g):∀ j u,(rowVals n g)[j]?=some u→w.cell? ((⟨b,off,none⟩:Addr).add j)=some u:=fun j u hu=>by
 have hj:j<n:=by
  have:=List.getElem?_eq_some_iff.1 hu;obtain ⟨hl,_⟩:=this;rw [A2] at hl;exact hl
 rw [Bj n g j hj] at hu;obtain ⟨b',off',e,hc⟩:=h j hj;simp only [Option.some.injEq,Addr.mk.injEq,and_true] at e hu;obtain ⟨rfl,rfl⟩:=e;rw [J9,hc,hu]
theorem Ph {w:World} {base lo n cap g:Nat} {f:Nat→Int} (h:w.ownsRow base 3 1 (.slice (some ⟨g,0,none⟩) n cap) n (rowVals n f)) (hg:lo≤g) (hlt:g<w.heap.size) (hn:n≤1048576):Am w lo (.slice (some ⟨g,0,none⟩) n cap) n f :=
 ⟨_,cap,rfl,hn,fun i hi=>⟨g,0,rfl,by rw [Nat.zero_add,h.cellAt i (by omega),Bj n f i hi]⟩,fun b o hF=>by
  obtain ⟨off,e,_⟩:=hF;simp only [Option.some.injEq,Addr.mk.injEq,and_true] at e;obtain ⟨rfl,rfl⟩:=e
  exact ⟨hlt,h.frozenAt o⟩,fun b o hF=>by
  obtain ⟨off,e,_⟩:=hF;simp only [Option.some.injEq,Addr.mk.injEq,and_true] at e
  omega⟩
theorem Bo (a:Option Addr) (b o:Nat):¬ Da a 0 b o:=fun ⟨_,_,_,_⟩=>by omega
end Go.Proofs.YtgcmimcalmjaaaaGreatDoor
