import Derived.Test.YtgcmimcalmjaaaaGreatDoorE2
import Derived.ChangeOld
import Derived.ShutString
import Derived.Lib.SmallJoins
import Derived.Lib.LaidTab
import Derived.Deep.RegionLawGrows
import Derived.Deep.RegionWith
import Derived.Deep.RegionHeld3
import Derived.Deep.AppendLies
namespace Go.Proofs.YtgcmimcalmjaaaaGreatDoor
set_option maxRecDepth 20000
open Go.ChangeShapes Go.WideShapes Go.ChangeAt Go.RowKit
section
variable {H:Type} {enc:TypeId × Value→H} {P:Program} {w:World} {base:Nat} {spare:Nat→Bool} {held:Bool}
theorem Fe {t e:TypeId} {k:IntKind} {fuel:Nat} {cs:List Value} {x:DataW H × List MemPlace} (ht:P.underlying t=some (.slice e)) (he:P.underlying e=some (.int k)) (hc:P.cellsOf e=1)
  (h:DataW.trod enc P w base spare held fuel t cs=some x) :
  ∃ (a:Option Addr) (n cap:Nat) (f:Nat→Int),cs=[.slice a n cap]∧n≤9223372036854775807∧Be k w a n f∧∀ i,i<n→(Lit.int k (f i)).wf=true:=by
 rcases open_ints ht he hc h with ⟨rfl,_⟩ | ⟨⟨b,off,spot⟩,n,cap,zs,rfl,_,hl,hm,hz,_,hcell,hw⟩
 ·exact ⟨none,0,0,fun _=>0,rfl,by omega,fun i hi=>absurd hi (Nat.not_lt_zero _),fun i hi=>absurd hi (Nat.not_lt_zero _)⟩
 ·have hnz:n≤zs.length:=by rw [hz]; split <;> omega
  refine ⟨some ⟨b,off,spot⟩,n,cap,fun i=>zs.getD i 0,rfl,by unfold maxLen at hm; omega,fun i hi=>?_,fun i hi=>hw _ ?_⟩
  ·have hs:spot=none:=by simpa [Addr.add] using World.cell?_spot (hcell 0 (by omega))
   subst hs;refine ⟨b,off,rfl,?_⟩;have:=hcell i (by omega);unfold Addr.add at this;split at this
   ·rename_i h0
    subst h0;exact this
   ·exact this
  ·show zs.getD i 0∈zs
   rw [List.getD_eq_getElem?_getD,List.getElem?_eq_getElem (by omega)];exact List.getElem_mem _
theorem Yh {a:Addr} {cs:List Value} (h:w.cells? base a 1=some cs):∃ u,cs=[u]∧w.cell? a=some u:=by
 unfold World.cells? at h;split at h
 ·simp [List.range_succ,Addr.add] at h
  cases hc:w.cell? a with
  | none=>simp [hc] at h
  | some u =>
   simp [hc] at h
   exact ⟨u,h.symm,rfl⟩
 ·cases h
theorem Yi {t e:TypeId} {fuel:Nat} {cs:List Value} {x:DataW H × List MemPlace} (ht:P.underlying t=some (.slice e)) (hc:P.cellsOf e=1)
  (h:DataW.trod enc P w base spare held fuel t cs=some x) :
  ∃ (a:Option Addr) (n cap fuel':Nat),cs=[.slice a n cap]∧n≤9223372036854775807∧∀ i,i<n→∃ b off u y,a=some ⟨b,off,none⟩∧w.cell? ⟨b,off+i,none⟩=some u∧DataW.trod enc P w base spare held fuel' e [u]=some y:=by
 rcases Deep.open_slice ht h with ⟨rfl,_⟩ | ⟨⟨b,off,spot⟩,n,cap,m,fu,D,Pl,rfl,_,hl,hm,he,_,hel⟩
 ·exact ⟨none,0,0,0,rfl,by omega,fun i hi=>absurd hi (Nat.not_lt_zero _)⟩
 ·have hnm:n≤m:=by rw [he]; split <;> omega
  refine ⟨some ⟨b,off,spot⟩,n,cap,fu,rfl,by unfold maxLen at hm; omega,fun i hi=>?_⟩;obtain ⟨cs0,h0,_⟩:=hel 0 (by omega);obtain ⟨csi,h1,h2⟩:=hel i (by omega);rw [hc,Nat.mul_one] at h0 h1;obtain ⟨u0,rfl,c0⟩:=Yh h0;obtain ⟨u,rfl,c1⟩:=Yh h1
  have hs:spot=none:=by simpa [Addr.add] using World.cell?_spot c0
  subst hs;refine ⟨b,off,u,_,rfl,?_,h2⟩;unfold Addr.add at c1;split at c1
  ·rename_i h0
   subst h0;exact c1
  ·exact c1
theorem Oa {t e g:TypeId} {fuel:Nat} {cs:List Value} {x:DataW H × List MemPlace} (ht:P.underlying t=some (.slice e)) (hc:P.cellsOf e=1) (he:P.underlying e=some (.slice g)) (hg:P.underlying g=some (.int .i64)) (hcg:P.cellsOf g=1)
  (h:DataW.trod enc P w base spare held fuel t cs=some x) :
  ∃ (v:Value) (m:Nat) (ra:Nat→Option Addr) (ln rc:Nat→Nat) (f:Nat→Nat→Int),cs=[v]∧Ed w v m ra ln rc f:=by
 obtain ⟨a,m,cap,fu,rfl,hm,hrow⟩:=Yi ht hc h
 have key:∀ i,∃ q:Option Addr × Nat × Nat × (Nat→Int),i<m→(∃ b off,a=some ⟨b,off,none⟩∧w.cell? ⟨b,off+i,none⟩=some (.slice q.1 q.2.1 q.2.2.1))∧q.2.1≤9223372036854775807∧Be .i64 w q.1 q.2.1 q.2.2.2∧∀ j,j<q.2.1→(Lit.i (q.2.2.2 j)).wf=true:=by
  intro i
  by_cases hi:i<m
  ·obtain ⟨b,off,u,y,ha,hcell,hu⟩:=hrow i hi
   obtain ⟨a',n,c',f,e,hn,hr,hw⟩:=Fe he hg hcg hu;simp only [List.cons.injEq,and_true] at e;subst e;exact ⟨(a',n,c',f),fun _=>⟨⟨b,off,ha,hcell⟩,hn,hr,hw⟩⟩
  ·exact ⟨(none,0,0,fun _=>0),fun h=>absurd h hi⟩
 obtain ⟨q,hq⟩:=Classical.skolem.1 key;exact ⟨_,m,fun i=>(q i).1,fun i=>(q i).2.1,fun i=>(q i).2.2.1,fun i=>(q i).2.2.2,rfl,⟨⟨a,cap,rfl,hm,fun i hi=>(hq i hi).1⟩,fun i hi=>(hq i hi).2⟩⟩
theorem Cv {t:TypeId} {k:IntKind} {fuel:Nat} {cs:List Value} {x:DataW H × List MemPlace} (ht:P.underlying t=some (.int k)) (h:DataW.trod enc P w base spare held fuel t cs=some x):∃ z,cs=[.int k z]∧(Lit.int k z).wf=true:=by
 cases fuel with
 | zero=>simp [DataW.trod] at h
 | succ n =>
  simp only [DataW.trod,ht] at h
  split at h <;> simp_all
theorem Ee {t:TypeId} {fuel:Nat} {cs:List Value} {x:DataW H × List MemPlace} (ht:P.underlying t=some .bool) (h:DataW.trod enc P w base spare held fuel t cs=some x):∃ b,cs=[.bool b]:=by
 cases fuel with
 | zero=>simp [DataW.trod] at h
 | succ n =>
  simp only [DataW.trod,ht] at h
  split at h <;> simp_all
theorem Dh {t:TypeId} {fs:Array Field} {fuel:Nat} {cs:List Value} {x:DataW H × List MemPlace} (ht:P.underlying t=some (.struct fs)) (h:DataW.trod enc P w base spare held fuel t cs=some x) :
  ∃ n,cs.length=P.cellsOf t∧∀ (j:Nat) (f:Field),fs.toList[j]?=some f→∃ y,DataW.trod enc P w base spare held n f.type ((cs.drop f.offset).take (P.cellsOf f.type))=some y:=by
 cases fuel with
 | zero=>simp [DataW.trod] at h
 | succ n =>
  simp only [DataW.trod,ht] at h;split at h
  ·rename_i hl
   obtain ⟨xs,hm,_⟩:=Option.map_eq_some_iff.1 h;exact ⟨n,hl,fun j f hj=>by obtain ⟨b,_,hf⟩:=Lib.mapM_at hm j f hj; exact ⟨b,hf⟩⟩
  ·cases h
end
theorem Vn {H:Type} {enc:TypeId × Value→H} {w:World} {base:Nat} {spare:Nat→Bool} {held:Bool} {r:Reach} {b0:Nat} {v:Value} {d:DataW H} {p:List MemPlace}
  (hv:Value.okWide Tryz.prog w r b0 39 v) (h:DataW.Trod enc Tryz.prog w base spare held 39 v d p) :
  ∃ (u0ImgBanks:Value) (m0ImgBanks:Nat) (ra0ImgBanks:Nat→Option Addr) (ln0ImgBanks rc0ImgBanks:Nat→Nat) (f0ImgBanks:Nat→Nat→Int) (s0Pads:Option Addr) (n0Pads c0Pads:Nat) (f0Pads:Nat→Int) (s0MemRam:Option Addr) (n0MemRam c0MemRam:Nat) (f0MemRam:Nat→Int) (a0MemBank:Int) (a0CpuA:Int) (a0CpuX:Int) (a0CpuS:Int) (a0CpuPc:Int) (a0CpuZ:Bool) (a0CpuN:Bool) (a0CpuC:Bool) (a0CpuI:Bool) (a0PpuT:Int) (a0PpuCtrl:Int) (a0PpuScroll:Int) (a0PpuAddr:Int) (a0PpuPal:Int) (a0PpuBlank:Bool) (s0PpuTable:Option Addr) (n0PpuTable c0PpuTable:Nat) (f0PpuTable:Nat→Int) (s0PpuDots:Option Addr) (n0PpuDots c0PpuDots:Nat) (f0PpuDots:Nat→Int) (a0ApuT:Int) (a0ApuPeriod:Int) (a0ApuCount:Int) (a0ApuBit:Int) (a0ApuLength:Int) (a0ApuAsks:Bool) (a0ApuIrq:Bool) (a0PadHeld:Bool) (a0PadShift:Int) (a0Nmi:Bool) (a0Steps:Int) (u0ObsFrames:Value) (m0ObsFrames:Nat) (ra0ObsFrames:Nat→Option Addr) (ln0ObsFrames rc0ObsFrames:Nat→Nat) (f0ObsFrames:Nat→Nat→Int) (s0ObsSamples:Option Addr) (n0ObsSamples c0ObsSamples:Nat) (f0ObsSamples:Nat→Int) (s0ObsReads:Option Addr) (n0ObsReads c0ObsReads:Nat) (f0ObsReads:Nat→Int),v=.agg #[u0ImgBanks,.slice s0Pads n0Pads c0Pads,.slice s0MemRam n0MemRam c0MemRam,.i a0MemBank,.i a0CpuA,.i a0CpuX,.i a0CpuS,.i a0CpuPc,.bool a0CpuZ,.bool a0CpuN,.bool a0CpuC,.bool a0CpuI,.i a0PpuT,.i a0PpuCtrl,.i a0PpuScroll,.i a0PpuAddr,.i a0PpuPal,.bool a0PpuBlank,.slice s0PpuTable n0PpuTable c0PpuTable,.slice s0PpuDots n0PpuDots c0PpuDots,.i a0ApuT,.i a0ApuPeriod,.i a0ApuCount,.i a0ApuBit,.i a0ApuLength,.bool a0ApuAsks,.bool a0ApuIrq,.bool a0PadHeld,.i a0PadShift,.bool a0Nmi,.i a0Steps,u0ObsFrames,.slice s0ObsSamples n0ObsSamples c0ObsSamples,.slice s0ObsReads n0ObsReads c0ObsReads]∧(Ed w u0ImgBanks m0ImgBanks ra0ImgBanks ln0ImgBanks rc0ImgBanks f0ImgBanks)∧(n0Pads≤9223372036854775807∧Be .i64 w s0Pads n0Pads f0Pads∧∀ i,i<n0Pads→(Lit.i (f0Pads i)).wf=true)∧(n0MemRam≤9223372036854775807∧Be .i64 w s0MemRam n0MemRam f0MemRam∧∀ i,i<n0MemRam→(Lit.i (f0MemRam i)).wf=true)∧((Lit.i a0MemBank).wf=true)∧((Lit.i a0CpuA).wf=true)∧((Lit.i a0CpuX).wf=true)∧((Lit.i a0CpuS).wf=true)∧((Lit.i a0CpuPc).wf=true)∧((Lit.i a0PpuT).wf=true)∧((Lit.i a0PpuCtrl).wf=true)∧((Lit.i a0PpuScroll).wf=true)∧((Lit.i a0PpuAddr).wf=true)∧((Lit.i a0PpuPal).wf=true)∧(n0PpuTable≤9223372036854775807∧Be .i64 w s0PpuTable n0PpuTable f0PpuTable∧∀ i,i<n0PpuTable→(Lit.i (f0PpuTable i)).wf=true)∧(n0PpuDots≤9223372036854775807∧Be .i64 w s0PpuDots n0PpuDots f0PpuDots∧∀ i,i<n0PpuDots→(Lit.i (f0PpuDots i)).wf=true)∧((Lit.i a0ApuT).wf=true)∧((Lit.i a0ApuPeriod).wf=true)∧((Lit.i a0ApuCount).wf=true)∧((Lit.i a0ApuBit).wf=true)∧((Lit.i a0ApuLength).wf=true)∧((Lit.i a0PadShift).wf=true)∧((Lit.i a0Steps).wf=true)∧(Ed w u0ObsFrames m0ObsFrames ra0ObsFrames ln0ObsFrames rc0ObsFrames f0ObsFrames)∧(n0ObsSamples≤9223372036854775807∧Be .i64 w s0ObsSamples n0ObsSamples f0ObsSamples∧∀ i,i<n0ObsSamples→(Lit.i (f0ObsSamples i)).wf=true)∧(n0ObsReads≤9223372036854775807∧Be .i64 w s0ObsReads n0ObsReads f0ObsReads∧∀ i,i<n0ObsReads→(Lit.i (f0ObsReads i)).wf=true):=by
 obtain ⟨cs,rfl,hsz⟩:=okWide_struct Tryz.underlying39 hv;obtain ⟨fuel,hf⟩:=h
 have hC:Tryz.prog.cellsOf 39=34:=by kernel_rfl
 rw [hC] at hsz
 obtain ⟨e0,e1,e2,e3,e4,e5,e6,e7,e8,e9,e10,e11,e12,e13,e14,e15,e16,e17,e18,e19,e20,e21,e22,e23,e24,e25,e26,e27,e28,e29,e30,e31,e32,e33,rfl⟩:∃ e0 e1 e2 e3 e4 e5 e6 e7 e8 e9 e10 e11 e12 e13 e14 e15 e16 e17 e18 e19 e20 e21 e22 e23 e24 e25 e26 e27 e28 e29 e30 e31 e32 e33,cs=#[e0,e1,e2,e3,e4,e5,e6,e7,e8,e9,e10,e11,e12,e13,e14,e15,e16,e17,e18,e19,e20,e21,e22,e23,e24,e25,e26,e27,e28,e29,e30,e31,e32,e33]:=by
  rcases cs with ⟨l⟩
  match l,hsz with
  | e0 :: e1 :: e2 :: e3 :: e4 :: e5 :: e6 :: e7 :: e8 :: e9 :: e10 :: e11 :: e12 :: e13 :: e14 :: e15 :: e16 :: e17 :: e18 :: e19 :: e20 :: e21 :: e22 :: e23 :: e24 :: e25 :: e26 :: e27 :: e28 :: e29 :: e30 :: e31 :: e32 :: e33 :: [],_=>exact ⟨_,_,_,_,_,_,_,_,_,_,_,_,_,_,_,_,_,_,_,_,_,_,_,_,_,_,_,_,_,_,_,_,_,_,rfl⟩
 have hf':DataW.trod enc Tryz.prog w base spare held fuel 39 [e0,e1,e2,e3,e4,e5,e6,e7,e8,e9,e10,e11,e12,e13,e14,e15,e16,e17,e18,e19,e20,e21,e22,e23,e24,e25,e26,e27,e28,e29,e30,e31,e32,e33]=some (d,p):=hf;obtain ⟨fu1,hl1,hF1⟩:=Dh Tryz.underlying39 hf';obtain ⟨y2,g2⟩:=hF1 0 _ rfl
 have k2:DataW.trod enc Tryz.prog w base spare held fu1 24 [e0]=some y2:=by
  rw [show Tryz.prog.cellsOf 24=1 by kernel_rfl] at g2;exact g2
 obtain ⟨fu3,hl3,hF3⟩:=Dh Tryz.underlying24 k2;obtain ⟨y4,g4⟩:=hF3 0 _ rfl
 have k4:DataW.trod enc Tryz.prog w base spare held fu3 22 [e0]=some y4:=by
  rw [show Tryz.prog.cellsOf 22=1 by kernel_rfl] at g4;exact g4
 obtain ⟨u0ImgBanks,m0ImgBanks,ra0ImgBanks,ln0ImgBanks,rc0ImgBanks,f0ImgBanks,q0ImgBanks,w0ImgBanks⟩:=Oa Tryz.underlying22 (by kernel_rfl) Tryz.underlying25 Tryz.underlying3 (by kernel_rfl) k4;simp only [List.cons.injEq,and_true] at q0ImgBanks;subst q0ImgBanks;obtain ⟨y5,g5⟩:=hF1 1 _ rfl
 have k5:DataW.trod enc Tryz.prog w base spare held fu1 25 [e1]=some y5:=by
  rw [show Tryz.prog.cellsOf 25=1 by kernel_rfl] at g5;exact g5
 obtain ⟨s0Pads,n0Pads,c0Pads,f0Pads,q0Pads,w0Pads⟩:=Fe (k:=.i64) Tryz.underlying25 Tryz.underlying3 (by kernel_rfl) k5;simp only [List.cons.injEq,and_true] at q0Pads;subst q0Pads;obtain ⟨y6,g6⟩:=hF1 2 _ rfl
 have k6:DataW.trod enc Tryz.prog w base spare held fu1 27 [e2,e3]=some y6:=by
  rw [show Tryz.prog.cellsOf 27=2 by kernel_rfl] at g6;exact g6
 obtain ⟨fu7,hl7,hF7⟩:=Dh Tryz.underlying27 k6;obtain ⟨y8,g8⟩:=hF7 0 _ rfl
 have k8:DataW.trod enc Tryz.prog w base spare held fu7 25 [e2]=some y8:=by
  rw [show Tryz.prog.cellsOf 25=1 by kernel_rfl] at g8;exact g8
 obtain ⟨s0MemRam,n0MemRam,c0MemRam,f0MemRam,q0MemRam,w0MemRam⟩:=Fe (k:=.i64) Tryz.underlying25 Tryz.underlying3 (by kernel_rfl) k8;simp only [List.cons.injEq,and_true] at q0MemRam;subst q0MemRam;obtain ⟨y9,g9⟩:=hF7 1 _ rfl
 have k9:DataW.trod enc Tryz.prog w base spare held fu7 3 [e3]=some y9:=by
  rw [show Tryz.prog.cellsOf 3=1 by kernel_rfl] at g9;exact g9
 obtain ⟨a0MemBank,q0MemBank,w0MemBank⟩:=Cv Tryz.underlying3 k9;simp only [List.cons.injEq,and_true] at q0MemBank;subst q0MemBank;obtain ⟨y10,g10⟩:=hF1 3 _ rfl
 have k10:DataW.trod enc Tryz.prog w base spare held fu1 29 [e4,e5,e6,e7,e8,e9,e10,e11]=some y10:=by
  rw [show Tryz.prog.cellsOf 29=8 by kernel_rfl] at g10;exact g10
 obtain ⟨fu11,hl11,hF11⟩:=Dh Tryz.underlying29 k10;obtain ⟨y12,g12⟩:=hF11 0 _ rfl
 have k12:DataW.trod enc Tryz.prog w base spare held fu11 3 [e4]=some y12:=by
  rw [show Tryz.prog.cellsOf 3=1 by kernel_rfl] at g12;exact g12
 obtain ⟨a0CpuA,q0CpuA,w0CpuA⟩:=Cv Tryz.underlying3 k12;simp only [List.cons.injEq,and_true] at q0CpuA;subst q0CpuA;obtain ⟨y13,g13⟩:=hF11 1 _ rfl
 have k13:DataW.trod enc Tryz.prog w base spare held fu11 3 [e5]=some y13:=by
  rw [show Tryz.prog.cellsOf 3=1 by kernel_rfl] at g13;exact g13
 obtain ⟨a0CpuX,q0CpuX,w0CpuX⟩:=Cv Tryz.underlying3 k13;simp only [List.cons.injEq,and_true] at q0CpuX;subst q0CpuX;obtain ⟨y14,g14⟩:=hF11 2 _ rfl
 have k14:DataW.trod enc Tryz.prog w base spare held fu11 3 [e6]=some y14:=by
  rw [show Tryz.prog.cellsOf 3=1 by kernel_rfl] at g14;exact g14
 obtain ⟨a0CpuS,q0CpuS,w0CpuS⟩:=Cv Tryz.underlying3 k14;simp only [List.cons.injEq,and_true] at q0CpuS;subst q0CpuS;obtain ⟨y15,g15⟩:=hF11 3 _ rfl
 have k15:DataW.trod enc Tryz.prog w base spare held fu11 3 [e7]=some y15:=by
  rw [show Tryz.prog.cellsOf 3=1 by kernel_rfl] at g15;exact g15
 obtain ⟨a0CpuPc,q0CpuPc,w0CpuPc⟩:=Cv Tryz.underlying3 k15;simp only [List.cons.injEq,and_true] at q0CpuPc;subst q0CpuPc;obtain ⟨y16,g16⟩:=hF11 4 _ rfl
 have k16:DataW.trod enc Tryz.prog w base spare held fu11 4 [e8]=some y16:=by
  rw [show Tryz.prog.cellsOf 4=1 by kernel_rfl] at g16;exact g16
 obtain ⟨a0CpuZ,q0CpuZ⟩:=Ee Tryz.underlying4 k16;simp only [List.cons.injEq,and_true] at q0CpuZ;subst q0CpuZ;obtain ⟨y17,g17⟩:=hF11 5 _ rfl
 have k17:DataW.trod enc Tryz.prog w base spare held fu11 4 [e9]=some y17:=by
  rw [show Tryz.prog.cellsOf 4=1 by kernel_rfl] at g17;exact g17
 obtain ⟨a0CpuN,q0CpuN⟩:=Ee Tryz.underlying4 k17;simp only [List.cons.injEq,and_true] at q0CpuN;subst q0CpuN;obtain ⟨y18,g18⟩:=hF11 6 _ rfl
 have k18:DataW.trod enc Tryz.prog w base spare held fu11 4 [e10]=some y18:=by
  rw [show Tryz.prog.cellsOf 4=1 by kernel_rfl] at g18;exact g18
 obtain ⟨a0CpuC,q0CpuC⟩:=Ee Tryz.underlying4 k18;simp only [List.cons.injEq,and_true] at q0CpuC;subst q0CpuC;obtain ⟨y19,g19⟩:=hF11 7 _ rfl
 have k19:DataW.trod enc Tryz.prog w base spare held fu11 4 [e11]=some y19:=by
  rw [show Tryz.prog.cellsOf 4=1 by kernel_rfl] at g19;exact g19
 obtain ⟨a0CpuI,q0CpuI⟩:=Ee Tryz.underlying4 k19;simp only [List.cons.injEq,and_true] at q0CpuI;subst q0CpuI;obtain ⟨y20,g20⟩:=hF1 4 _ rfl
 have k20:DataW.trod enc Tryz.prog w base spare held fu1 31 [e12,e13,e14,e15,e16,e17,e18,e19]=some y20:=by
  rw [show Tryz.prog.cellsOf 31=8 by kernel_rfl] at g20;exact g20
 obtain ⟨fu21,hl21,hF21⟩:=Dh Tryz.underlying31 k20;obtain ⟨y22,g22⟩:=hF21 0 _ rfl
 have k22:DataW.trod enc Tryz.prog w base spare held fu21 3 [e12]=some y22:=by
  rw [show Tryz.prog.cellsOf 3=1 by kernel_rfl] at g22;exact g22
 obtain ⟨a0PpuT,q0PpuT,w0PpuT⟩:=Cv Tryz.underlying3 k22;simp only [List.cons.injEq,and_true] at q0PpuT;subst q0PpuT;obtain ⟨y23,g23⟩:=hF21 1 _ rfl
 have k23:DataW.trod enc Tryz.prog w base spare held fu21 3 [e13]=some y23:=by
  rw [show Tryz.prog.cellsOf 3=1 by kernel_rfl] at g23;exact g23
 obtain ⟨a0PpuCtrl,q0PpuCtrl,w0PpuCtrl⟩:=Cv Tryz.underlying3 k23;simp only [List.cons.injEq,and_true] at q0PpuCtrl;subst q0PpuCtrl;obtain ⟨y24,g24⟩:=hF21 2 _ rfl
 have k24:DataW.trod enc Tryz.prog w base spare held fu21 3 [e14]=some y24:=by
  rw [show Tryz.prog.cellsOf 3=1 by kernel_rfl] at g24;exact g24
 obtain ⟨a0PpuScroll,q0PpuScroll,w0PpuScroll⟩:=Cv Tryz.underlying3 k24;simp only [List.cons.injEq,and_true] at q0PpuScroll;subst q0PpuScroll;obtain ⟨y25,g25⟩:=hF21 3 _ rfl
 have k25:DataW.trod enc Tryz.prog w base spare held fu21 3 [e15]=some y25:=by
  rw [show Tryz.prog.cellsOf 3=1 by kernel_rfl] at g25;exact g25
 obtain ⟨a0PpuAddr,q0PpuAddr,w0PpuAddr⟩:=Cv Tryz.underlying3 k25;simp only [List.cons.injEq,and_true] at q0PpuAddr;subst q0PpuAddr;obtain ⟨y26,g26⟩:=hF21 4 _ rfl
 have k26:DataW.trod enc Tryz.prog w base spare held fu21 3 [e16]=some y26:=by
  rw [show Tryz.prog.cellsOf 3=1 by kernel_rfl] at g26;exact g26
 obtain ⟨a0PpuPal,q0PpuPal,w0PpuPal⟩:=Cv Tryz.underlying3 k26;simp only [List.cons.injEq,and_true] at q0PpuPal;subst q0PpuPal;obtain ⟨y27,g27⟩:=hF21 5 _ rfl
 have k27:DataW.trod enc Tryz.prog w base spare held fu21 4 [e17]=some y27:=by
  rw [show Tryz.prog.cellsOf 4=1 by kernel_rfl] at g27;exact g27
 obtain ⟨a0PpuBlank,q0PpuBlank⟩:=Ee Tryz.underlying4 k27;simp only [List.cons.injEq,and_true] at q0PpuBlank;subst q0PpuBlank;obtain ⟨y28,g28⟩:=hF21 6 _ rfl
 have k28:DataW.trod enc Tryz.prog w base spare held fu21 25 [e18]=some y28:=by
  rw [show Tryz.prog.cellsOf 25=1 by kernel_rfl] at g28;exact g28
 obtain ⟨s0PpuTable,n0PpuTable,c0PpuTable,f0PpuTable,q0PpuTable,w0PpuTable⟩:=Fe (k:=.i64) Tryz.underlying25 Tryz.underlying3 (by kernel_rfl) k28;simp only [List.cons.injEq,and_true] at q0PpuTable;subst q0PpuTable;obtain ⟨y29,g29⟩:=hF21 7 _ rfl
 have k29:DataW.trod enc Tryz.prog w base spare held fu21 25 [e19]=some y29:=by
  rw [show Tryz.prog.cellsOf 25=1 by kernel_rfl] at g29;exact g29
 obtain ⟨s0PpuDots,n0PpuDots,c0PpuDots,f0PpuDots,q0PpuDots,w0PpuDots⟩:=Fe (k:=.i64) Tryz.underlying25 Tryz.underlying3 (by kernel_rfl) k29;simp only [List.cons.injEq,and_true] at q0PpuDots;subst q0PpuDots;obtain ⟨y30,g30⟩:=hF1 5 _ rfl
 have k30:DataW.trod enc Tryz.prog w base spare held fu1 33 [e20,e21,e22,e23,e24,e25,e26]=some y30:=by
  rw [show Tryz.prog.cellsOf 33=7 by kernel_rfl] at g30;exact g30
 obtain ⟨fu31,hl31,hF31⟩:=Dh Tryz.underlying33 k30;obtain ⟨y32,g32⟩:=hF31 0 _ rfl
 have k32:DataW.trod enc Tryz.prog w base spare held fu31 3 [e20]=some y32:=by
  rw [show Tryz.prog.cellsOf 3=1 by kernel_rfl] at g32;exact g32
 obtain ⟨a0ApuT,q0ApuT,w0ApuT⟩:=Cv Tryz.underlying3 k32;simp only [List.cons.injEq,and_true] at q0ApuT;subst q0ApuT;obtain ⟨y33,g33⟩:=hF31 1 _ rfl
 have k33:DataW.trod enc Tryz.prog w base spare held fu31 3 [e21]=some y33:=by
  rw [show Tryz.prog.cellsOf 3=1 by kernel_rfl] at g33;exact g33
 obtain ⟨a0ApuPeriod,q0ApuPeriod,w0ApuPeriod⟩:=Cv Tryz.underlying3 k33;simp only [List.cons.injEq,and_true] at q0ApuPeriod;subst q0ApuPeriod;obtain ⟨y34,g34⟩:=hF31 2 _ rfl
 have k34:DataW.trod enc Tryz.prog w base spare held fu31 3 [e22]=some y34:=by
  rw [show Tryz.prog.cellsOf 3=1 by kernel_rfl] at g34;exact g34
 obtain ⟨a0ApuCount,q0ApuCount,w0ApuCount⟩:=Cv Tryz.underlying3 k34;simp only [List.cons.injEq,and_true] at q0ApuCount;subst q0ApuCount;obtain ⟨y35,g35⟩:=hF31 3 _ rfl
 have k35:DataW.trod enc Tryz.prog w base spare held fu31 3 [e23]=some y35:=by
  rw [show Tryz.prog.cellsOf 3=1 by kernel_rfl] at g35;exact g35
 obtain ⟨a0ApuBit,q0ApuBit,w0ApuBit⟩:=Cv Tryz.underlying3 k35;simp only [List.cons.injEq,and_true] at q0ApuBit;subst q0ApuBit;obtain ⟨y36,g36⟩:=hF31 4 _ rfl
 have k36:DataW.trod enc Tryz.prog w base spare held fu31 3 [e24]=some y36:=by
  rw [show Tryz.prog.cellsOf 3=1 by kernel_rfl] at g36;exact g36
 obtain ⟨a0ApuLength,q0ApuLength,w0ApuLength⟩:=Cv Tryz.underlying3 k36;simp only [List.cons.injEq,and_true] at q0ApuLength;subst q0ApuLength;obtain ⟨y37,g37⟩:=hF31 5 _ rfl
 have k37:DataW.trod enc Tryz.prog w base spare held fu31 4 [e25]=some y37:=by
  rw [show Tryz.prog.cellsOf 4=1 by kernel_rfl] at g37;exact g37
 obtain ⟨a0ApuAsks,q0ApuAsks⟩:=Ee Tryz.underlying4 k37;simp only [List.cons.injEq,and_true] at q0ApuAsks;subst q0ApuAsks;obtain ⟨y38,g38⟩:=hF31 6 _ rfl
 have k38:DataW.trod enc Tryz.prog w base spare held fu31 4 [e26]=some y38:=by
  rw [show Tryz.prog.cellsOf 4=1 by kernel_rfl] at g38;exact g38
 obtain ⟨a0ApuIrq,q0ApuIrq⟩:=Ee Tryz.underlying4 k38;simp only [List.cons.injEq,and_true] at q0ApuIrq;subst q0ApuIrq;obtain ⟨y39,g39⟩:=hF1 6 _ rfl
 have k39:DataW.trod enc Tryz.prog w base spare held fu1 35 [e27,e28]=some y39:=by
  rw [show Tryz.prog.cellsOf 35=2 by kernel_rfl] at g39;exact g39
 obtain ⟨fu40,hl40,hF40⟩:=Dh Tryz.underlying35 k39;obtain ⟨y41,g41⟩:=hF40 0 _ rfl
 have k41:DataW.trod enc Tryz.prog w base spare held fu40 4 [e27]=some y41:=by
  rw [show Tryz.prog.cellsOf 4=1 by kernel_rfl] at g41;exact g41
 obtain ⟨a0PadHeld,q0PadHeld⟩:=Ee Tryz.underlying4 k41;simp only [List.cons.injEq,and_true] at q0PadHeld;subst q0PadHeld;obtain ⟨y42,g42⟩:=hF40 1 _ rfl
 have k42:DataW.trod enc Tryz.prog w base spare held fu40 3 [e28]=some y42:=by
  rw [show Tryz.prog.cellsOf 3=1 by kernel_rfl] at g42;exact g42
 obtain ⟨a0PadShift,q0PadShift,w0PadShift⟩:=Cv Tryz.underlying3 k42;simp only [List.cons.injEq,and_true] at q0PadShift;subst q0PadShift;obtain ⟨y43,g43⟩:=hF1 7 _ rfl
 have k43:DataW.trod enc Tryz.prog w base spare held fu1 4 [e29]=some y43:=by
  rw [show Tryz.prog.cellsOf 4=1 by kernel_rfl] at g43;exact g43
 obtain ⟨a0Nmi,q0Nmi⟩:=Ee Tryz.underlying4 k43;simp only [List.cons.injEq,and_true] at q0Nmi;subst q0Nmi;obtain ⟨y44,g44⟩:=hF1 8 _ rfl
 have k44:DataW.trod enc Tryz.prog w base spare held fu1 3 [e30]=some y44:=by
  rw [show Tryz.prog.cellsOf 3=1 by kernel_rfl] at g44;exact g44
 obtain ⟨a0Steps,q0Steps,w0Steps⟩:=Cv Tryz.underlying3 k44;simp only [List.cons.injEq,and_true] at q0Steps;subst q0Steps;obtain ⟨y45,g45⟩:=hF1 9 _ rfl
 have k45:DataW.trod enc Tryz.prog w base spare held fu1 37 [e31,e32,e33]=some y45:=by
  rw [show Tryz.prog.cellsOf 37=3 by kernel_rfl] at g45;exact g45
 obtain ⟨fu46,hl46,hF46⟩:=Dh Tryz.underlying37 k45;obtain ⟨y47,g47⟩:=hF46 0 _ rfl
 have k47:DataW.trod enc Tryz.prog w base spare held fu46 22 [e31]=some y47:=by
  rw [show Tryz.prog.cellsOf 22=1 by kernel_rfl] at g47;exact g47
 obtain ⟨u0ObsFrames,m0ObsFrames,ra0ObsFrames,ln0ObsFrames,rc0ObsFrames,f0ObsFrames,q0ObsFrames,w0ObsFrames⟩:=Oa Tryz.underlying22 (by kernel_rfl) Tryz.underlying25 Tryz.underlying3 (by kernel_rfl) k47;simp only [List.cons.injEq,and_true] at q0ObsFrames;subst q0ObsFrames;obtain ⟨y48,g48⟩:=hF46 1 _ rfl
 have k48:DataW.trod enc Tryz.prog w base spare held fu46 25 [e32]=some y48:=by
  rw [show Tryz.prog.cellsOf 25=1 by kernel_rfl] at g48;exact g48
 obtain ⟨s0ObsSamples,n0ObsSamples,c0ObsSamples,f0ObsSamples,q0ObsSamples,w0ObsSamples⟩:=Fe (k:=.i64) Tryz.underlying25 Tryz.underlying3 (by kernel_rfl) k48;simp only [List.cons.injEq,and_true] at q0ObsSamples;subst q0ObsSamples;obtain ⟨y49,g49⟩:=hF46 2 _ rfl
 have k49:DataW.trod enc Tryz.prog w base spare held fu46 25 [e33]=some y49:=by
  rw [show Tryz.prog.cellsOf 25=1 by kernel_rfl] at g49;exact g49
 obtain ⟨s0ObsReads,n0ObsReads,c0ObsReads,f0ObsReads,q0ObsReads,w0ObsReads⟩:=Fe (k:=.i64) Tryz.underlying25 Tryz.underlying3 (by kernel_rfl) k49;simp only [List.cons.injEq,and_true] at q0ObsReads;subst q0ObsReads;exact ⟨_,_,_,_,_,_,_,_,_,_,_,_,_,_,_,_,_,_,_,_,_,_,_,_,_,_,_,_,_,_,_,_,_,_,_,_,_,_,_,_,_,_,_,_,_,_,_,_,_,_,_,_,_,_,_,_,_,_,_,_,_,_,rfl,w0ImgBanks,w0Pads,w0MemRam,w0MemBank,w0CpuA,w0CpuX,w0CpuS,w0CpuPc,w0PpuT,w0PpuCtrl,w0PpuScroll,w0PpuAddr,w0PpuPal,w0PpuTable,w0PpuDots,w0ApuT,w0ApuPeriod,w0ApuCount,w0ApuBit,w0ApuLength,w0PadShift,w0Steps,w0ObsFrames,w0ObsSamples,w0ObsReads⟩
structure Am (w:World) (lo:Nat) (v:Value) (n:Nat) (f:Nat→Int):Prop where
 ex:∃ a cap,v=.slice a n cap∧n≤1048576∧Be .i64 w a n f∧Pd w (Da a n)∧∀ b o,Da a n b o→lo≤b
theorem Gk {m:Nat} {ln:Nat→Nat} {f:Nat→Nat→Int} (h:Fx m ln f=true):(∀ i,i<m→Dq (ln i) (f i)=true)∧1≤m∧m≤8:=of_decide_eq_true h
def rowVals (n:Nat) (g:Nat→Int):List Value:=(List.range n).map (fun i=>.int .i64 (g i))
theorem A2 (n:Nat) (g:Nat→Int):(rowVals n g).length=n:=by simp [rowVals]
theorem Bj (n:Nat) (g:Nat→Int) (j:Nat) (h:j<n):(rowVals n g)[j]?=some (.int .i64 (g j)):=by simp [rowVals,h]
theorem Fy (n:Nat) (g:Nat→Int):∀ u∈rowVals n g,u.oneCell'=true:=fun u hu=>by
 simp only [rowVals,List.mem_map] at hu;obtain ⟨i,_,rfl⟩:=hu
 rfl
theorem J9 (b off j:Nat):(⟨b,off,none⟩:Addr).add j=⟨b,off+j,none⟩:=by
 unfold Addr.add;split
 ·rename_i h
  subst h
  rfl
 ·rfl
theorem Cy {w:World} {b off n:Nat} {g:Nat→Int} (h:Be .i64 w (some ⟨b,off,none⟩) n g):∀ j u,(rowVals n g)[j]?=some u→w.cell? ((⟨b,off,none⟩:Addr).add j)=some u:=fun j u hu=>by
 have hj:j<n:=by
  have:=List.getElem?_eq_some_iff.1 hu;obtain ⟨hl,_⟩:=this;rw [A2] at hl;exact hl
 rw [Bj n g j hj] at hu;obtain ⟨b',off',e,hc⟩:=h j hj;simp only [Option.some.injEq,Addr.mk.injEq,and_true] at e hu;obtain ⟨rfl,rfl⟩:=e;rw [J9,hc,hu]
theorem Ph {w:World} {base lo n cap g:Nat} {f:Nat→Int} (h:w.ownsRow base 3 1 (.slice (some ⟨g,0,none⟩) n cap) n (rowVals n f)) (hg:lo≤g) (hlt:g<w.heap.size) (hn:n≤1048576):Am w lo (.slice (some ⟨g,0,none⟩) n cap) n f :=
 ⟨_,cap,rfl,hn,fun i hi=>⟨g,0,rfl,by rw [Nat.zero_add,h.cellAt i (by omega),Bj n f i hi]⟩,fun b o hF=>by
  obtain ⟨off,e,_⟩:=hF;simp only [Option.some.injEq,Addr.mk.injEq,and_true] at e;obtain ⟨rfl,rfl⟩:=e
  exact ⟨hlt,h.frozenAt o⟩,fun b o hF=>by
  obtain ⟨off,e,_⟩:=hF;simp only [Option.some.injEq,Addr.mk.injEq,and_true] at e
  omega⟩
theorem Bo (a:Option Addr) (b o:Nat):¬ Da a 0 b o:=fun ⟨_,_,_,_⟩=>by omega
theorem isByte (x:Int) (w:World):Calls Tryz.prog 69 #[.i x] w fun e w'=>e=.returned (.bool (Cs x 0 255))∧w'=w:=by
 by_cases h:0≤x∧x≤255
 ·have e:=Ad (Bn h)
  go_enter Tryz.func69,Tryz.ntmps69
  go_wp2;go_ret;exact ⟨Ap ((by first | rfl | (simp; done) | (simp; omega):_=true).trans (An e).symm),rfl⟩
 ·have e:=Ad (Cu h)
  go_enter Tryz.func69,Tryz.ntmps69
  go_wp2;go_ret;exact ⟨Ap ((by simp; omega:_=false).trans (An e).symm),rfl⟩
def Nl (n:Nat) (f:Nat→Int):Bool:=decide (∀ j,j<n→Cs (f j) 0 255=true)
theorem Jag {n j:Nat} {f:Nat→Int} (hj:j<n) (h:Cs (f j) 0 255=false):Nl n f=false:=decide_eq_false (fun x=>by have:=x j hj; rw [h] at this; cases this)
theorem Lh {n:Nat} {f:Nat→Int} (h:∀ j,j<n→Cs (f j) 0 255=true):Nl n f=true:=decide_eq_true h
theorem Sv {f:Nat→Int}:Dq 256 f=Nl 256 f:=by
 unfold Dq Nl
 simp
theorem Qy (w:World) (F:Nat→Nat→Prop) (v:Value) (n:Nat) (f:Nat→Int) (H:Ints .i64 w F v n f) :
  Calls Tryz.prog 97 #[v] w fun e w'=>e=.returned (.bool (Nl n f))∧w'=w:=by
 obtain ⟨a,cap,rfl,hn,hrow,-⟩:=H
 go_enter Tryz.func97,Tryz.ntmps97
 go_wp2
 go_loop [7] (fun i=>∃ q:Nat,q≤n∧i=.i q∧∀ j,j<q→Cs (f j) 0 255=true) (fun i=>n-(intOf i).toNat)
 case atStart=>exact ⟨0,Nat.zero_le _,rfl,fun i hi=>absurd hi (Nat.not_lt_zero _)⟩
 case round =>
  obtain ⟨q,hq,rfl,hok⟩:=hrel;have HO:=Ad hok;clear hok
  by_cases hlt:q<n
  ·obtain ⟨b,off,rfl,hcell⟩:=hrow q hlt
   have hlt':(q:Int)<(n:Int):=by omega
   cases hin:Cs (f q) 0 255
   ·go_wp2_with fail
    refine (isByte _ _).mono ?_;rintro e w1 ⟨rfl,rfl⟩;rw [hin];go_wp2;go_ret;exact ⟨Ap (Jag hlt hin).symm,rfl⟩
   ·go_wp2_with fail
    refine (isByte _ _).mono ?_;rintro e w1 ⟨rfl,rfl⟩;rw [hin];go_wp2
    go_round
    case rel =>
     refine ⟨q+1,by omega,by go_num,fun j hj=>?_⟩
     by_cases e:j=q
     ·rw [e]; exact hin
     ·exact An HO j (by omega)
    case measure=>simp [intOf]; omega
  ·have hlt':¬ (q:Int)<(n:Int):=by omega
   go_wp2;go_ret;exact ⟨Ap (Lh (fun j hj=>An HO j (by omega))).symm,rfl⟩
def isRow (n:Nat) (f:Nat→Int) (many:Int):Bool:=decide ((n:Int)=many) && Nl n f
theorem Li {n:Nat} {f:Nat→Int} {many:Int} (h:¬ (n:Int)=many):isRow n f many=false:=by unfold isRow; rw [decide_eq_false h]; rfl
theorem E9 {n:Nat} {f:Nat→Int} {many:Int} (h:(n:Int)=many):isRow n f many=Nl n f:=by unfold isRow; rw [decide_eq_true h]; rfl
theorem Pi {n:Nat} {f:Nat→Int}:Dq n f=isRow n f 256:=by
 by_cases h:n=256
 ·subst h
  rw [E9 (by rfl)];exact Sv
 ·rw [Li (by omega),Lf h]
theorem isBytes (w:World) (F:Nat→Nat→Prop) (v:Value) (n:Nat) (f:Nat→Int) (many:Int) (H:Ints .i64 w F v n f) :
  Calls Tryz.prog 96 #[v,.i many] w fun e w'=>e=.returned (.bool (isRow n f many))∧w'=w:=by
 have H0:=H;obtain ⟨a,cap,rfl,hn,-,-⟩:=H
 by_cases h:(n:Int)=many
 ·have h':((n:Int)==many)=true:=by simpa using h
  have HE:=Ad (E9 (f:=f) h);clear h
  go_enter Tryz.func96,Tryz.ntmps96
  go_wp2_with fail;refine (Qy _ F _ n f H0).mono ?_;rintro e w1 ⟨rfl,rfl⟩;go_wp2;go_ret;exact ⟨Ap HE.out.symm,rfl⟩
 ·have h':((n:Int)==many)=false:=by simpa using h
  have HE:=Ad (Li (f:=f) h);clear h
  go_enter Tryz.func96,Tryz.ntmps96
  go_wp2;go_ret;exact ⟨Ap HE.out.symm,rfl⟩
theorem Lj {m:Nat} {ln:Nat→Nat} {f:Nat→Nat→Int} (h:¬ (1≤m∧m≤8)):Fx m ln f=false:=decide_eq_false (fun x=>h x.2)
theorem Vo {m:Nat} {ln:Nat→Nat} {f:Nat→Nat→Int} (h:∀ i,i<m→Dq (ln i) (f i)=true) (h1:1≤m) (h8:m≤8):Fx m ln f=true:=decide_eq_true ⟨h,h1,h8⟩
theorem Qz (w:World) (F:Nat→Nat→Prop) (v:Value) (m:Nat) (ln:Nat→Nat) (f:Nat→Nat→Int) (H:Ba .i64 w F v m ln f) :
  Calls Tryz.prog 95 #[.agg #[v]] w fun e w'=>e=.returned (.bool (Fx m ln f))∧Below w.heap.size w w':=by
 have L0:Below w.heap.size w (w.alloc (.cells #[v] 41)):=(Below.refl _ _).alloc (Nat.le_refl _) _;have H0:=H.keep (Ab L0 Aj) (fun _ _ _ x=>x);obtain ⟨a,cap,rfl,hm,-,hc⟩:=H0
 by_cases h1:1≤m
 ·by_cases h8:m≤8
  ·go_enter Tryz.func95,Tryz.ntmps95
   have h1':¬ (m:Int)<1:=by omega
   have h8':¬ (8:Int)<m:=by omega
   go_wp2
   go_loop [18] (fun i=>∃ q:Nat,q≤m∧i=.i q∧∀ i,i<q→Dq (ln i) (f i)=true) (fun i=>m-(intOf i).toNat)
   case atStart=>exact ⟨0,Nat.zero_le _,rfl,fun i hi=>absurd hi (Nat.not_lt_zero _)⟩
   case round =>
    obtain ⟨q,hq,rfl,hok⟩:=hrel;have HO:=Ad hok;clear hok
    by_cases hlt:q<m
    ·obtain ⟨b,off,u,rfl,hcell,a',cap',rfl,hn',hrow,-⟩:=hc q hlt
     have hlt':(q:Int)<(m:Int):=by omega
     have EA:=Ad (Pi (n:=ln q) (f:=f q));cases hin:isRow (ln q) (f q) 256
     ·go_wp2_with fail
      refine (isBytes _ (fun _ _=>True) _ (ln q) (f q) 256 ⟨_,_,rfl,hn',hrow,fun _ _ _=>trivial⟩).mono ?_;rintro e w1 ⟨rfl,rfl⟩;rw [hin];go_wp2;go_ret;exact ⟨Ap (Lg hlt ((An EA).trans hin)).symm,L0⟩
     ·go_wp2_with fail
      refine (isBytes _ (fun _ _=>True) _ (ln q) (f q) 256 ⟨_,_,rfl,hn',hrow,fun _ _ _=>trivial⟩).mono ?_;rintro e w1 ⟨rfl,rfl⟩;rw [hin];go_wp2
      go_round
      case rel=>exact ⟨q+1,by omega,by go_num,Qw (An HO) ((An EA).trans hin)⟩
      case measure=>simp [intOf]; omega
    ·have hlt':¬ (q:Int)<(m:Int):=by omega
     have e:q=m:=by omega
     subst e;go_wp2;go_ret;exact ⟨Ap (Vo (An HO) (by omega) (by omega)).symm,L0⟩
  ·have HI:=Ad (Lj (ln:=ln) (f:=f) (m:=m) (by omega))
   have h1':¬ (m:Int)<1:=by omega
   have h8':(8:Int)<m:=by omega
   go_enter Tryz.func95,Tryz.ntmps95
   go_wp2;go_ret;exact ⟨Ap (An HI).symm,L0⟩
 ·have HI:=Ad (Lj (ln:=ln) (f:=f) (m:=m) (by omega))
  have h1':(m:Int)<1:=by omega
  go_enter Tryz.func95,Tryz.ntmps95
  go_wp2;go_ret;exact ⟨Ap (An HI).symm,L0⟩
theorem Vp (w:World) (v:Value) (m:Nat) (ra:Nat→Option Addr) (ln rc:Nat→Nat) (f:Nat→Nat→Int) (k:Int) (S:Sep w v m ra ln rc) (hr:∀ i,i<m→Be .i64 w (ra i) (ln i) (f i)) (k0:0≤k) (k1:k≤1099511627776) :
  Calls Tryz.prog 38 #[.agg #[v],.i k] w fun e w'=>e=.returned (.i (k+psum ln m))∧(∀ i,i<m→Be .i64 w' (ra i) (ln i) (fun j=>k+psum ln i+j))∧Wrote (fun b o=>∃ i,i<m∧Da (ra i) (ln i) b o) w w':=by
 have L0:Below w.heap.size w (w.alloc (.cells #[v] 41)):=(Below.refl _ _).alloc (Nat.le_refl _) _;have W0:=Ab L0 (fun b o=>∃ i,i<m∧Da (ra i) (ln i) b o)
 have hr0:=fun i hi=>(hr i hi).keep (Ab L0 Aj) (fun _ _ _ x=>x)
 have S0:=S.keep (Ab L0 Aj) (fun _ _ x=>absurd x id)
 go_enter Tryz.func38,Tryz.ntmps38
 go_wp2_with fail;refine (N8 _ v m ra ln rc f k S0 hr0 k0 k1).mono ?_;rintro e w1 ⟨rfl,R1,W1,s1⟩;go_wp2;go_ret;exact ⟨rfl,R1,W0.trans W1⟩
theorem Vq (w:World) (v:Value) (m:Nat) (ra:Nat→Option Addr) (ln rc:Nat→Nat) (k:Int) (S:Sep w v m ra ln rc) (hr:∀ i,i<m→Be .i64 w (ra i) (ln i) (fun j=>k+psum ln i+j)) (k0:0≤k) (k1:k≤1099511627776) :
  Calls Tryz.prog 43 #[.agg #[v],.i k] w fun e w'=>e=.returned (.i (k+psum ln m))∧Below w.heap.size w w':=by
 have L0:Below w.heap.size w (w.alloc (.cells #[v] 41)):=(Below.refl _ _).alloc (Nat.le_refl _) _
 have hr0:=fun i hi=>(hr i hi).keep (Ab L0 Aj) (fun _ _ _ x=>x)
 have S0:=S.keep (Ab L0 Aj) (fun _ _ x=>absurd x id)
 have hk:¬ (k+(psum ln m:Int)<0):=by omega
 go_enter Tryz.func43,Tryz.ntmps43
 go_wp2_with fail;refine (N9 _ v m ra ln rc k S0 hr0 k0 k1).mono ?_;rintro e w1 ⟨rfl,rfl⟩;go_wp2;go_ret;exact ⟨rfl,L0⟩
def Vr:List ByteArray:=[⟨#[110,111,112]⟩,⟨#[108,100,105]⟩,⟨#[108,100,97]⟩,⟨#[115,116,97]⟩,⟨#[97,100,105]⟩,⟨#[115,98,105]⟩,⟨#[97,110,105]⟩,⟨#[111,114,105]⟩,⟨#[120,114,105]⟩,⟨#[99,112,105]⟩,⟨#[116,97,120]⟩,⟨#[116,120,97]⟩,⟨#[105,110,120]⟩,⟨#[100,101,120]⟩,⟨#[108,97,120]⟩,⟨#[115,97,120]⟩,⟨#[98,110,101]⟩,⟨#[98,101,113]⟩,⟨#[98,99,115]⟩,⟨#[106,109,112]⟩,⟨#[106,115,114]⟩,⟨#[114,116,115]⟩,⟨#[112,104,97]⟩,⟨#[112,108,97]⟩,⟨#[114,116,105]⟩,⟨#[115,101,105]⟩,⟨#[99,108,105]⟩,⟨#[115,101,99]⟩,⟨#[99,108,99]⟩,⟨#[97,100,97]⟩]
def Gz:List Int:=[1,2,3,3,2,2,2,2,2,2,1,1,1,1,3,3,3,3,3,3,3,1,1,1,1,1,1,1,1,3]
def G8:List Int:=[2,2,4,4,2,2,2,2,2,2,2,2,2,2,4,5,3,3,3,3,6,6,3,4,6,2,2,2,2,4]
theorem ints_at (L:List Int) (d:Int) (i:Nat) (h:i<L.length):(L.map (Value.int .i64))[i]'(by simpa using h)=.i (L.getD ((i:Int).toNat) d):=by
 rw [List.getElem_map,Int.toNat_natCast,List.getD_eq_getElem?_getD,List.getElem?_eq_getElem h]
 rfl
theorem Ob (w:World) (x:Int):Calls Tryz.prog 113 #[.i x] w fun e w'=>e=.returned (.i (if 0≤x∧x≤29 then Gz.getD x.toNat 1 else 1))∧Below w.heap.size w w':=by
 by_cases h:0≤x∧x≤29
 ·have hin:=Bn h
  obtain ⟨i,rfl⟩:∃ i:Nat,x=i:=⟨x.toNat,by omega⟩
  have hi:i<30:=by omega
  rw [if_pos h]
  go_enter Tryz.func113,Tryz.ntmps113
  go_wp2_with fail;refine (Gj _ _ _ _).mono ?_;rintro e w1 ⟨rfl,rfl⟩;rw [hin];go_wp2;go_ret;exact ⟨congrArg Ending.returned (ints_at Gz 1 i hi),(Below.refl _ _).alloc (Nat.le_refl _) _⟩
 ·have hin:=Cu h
  rw [if_neg h]
  go_enter Tryz.func113,Tryz.ntmps113
  go_wp2_with fail;refine (Gj _ _ _ _).mono ?_;rintro e w1 ⟨rfl,rfl⟩;rw [hin];go_wp2;go_ret;exact ⟨rfl,Below.refl _ _⟩
theorem Pj (w:World) (x:Int):Calls Tryz.prog 92 #[.i x] w fun e w'=>e=.returned (.i (if 0≤x∧x≤29 then G8.getD x.toNat 2 else 2))∧Below w.heap.size w w':=by
 by_cases h:0≤x∧x≤29
 ·have hin:=Bn h
  obtain ⟨i,rfl⟩:∃ i:Nat,x=i:=⟨x.toNat,by omega⟩
  have hi:i<30:=by omega
  rw [if_pos h]
  go_enter Tryz.func92,Tryz.ntmps92
  go_wp2_with fail;refine (Gj _ _ _ _).mono ?_;rintro e w1 ⟨rfl,rfl⟩;rw [hin];go_wp2;go_ret;exact ⟨congrArg Ending.returned (ints_at G8 2 i hi),(Below.refl _ _).alloc (Nat.le_refl _) _⟩
 ·have hin:=Cu h
  rw [if_neg h]
  go_enter Tryz.func92,Tryz.ntmps92
  go_wp2_with fail;refine (Gj _ _ _ _).mono ?_;rintro e w1 ⟨rfl,rfl⟩;rw [hin];go_wp2;go_ret;exact ⟨rfl,Below.refl _ _⟩
def B9 (x:Int):Int:=if x=2∨x=14∨x=29 then 1 else if x=3∨x=15 then 2 else 0
theorem Dw (w:World) (x:Int):Calls Tryz.prog 114 #[.i x] w fun e w'=>e=.returned (.i (B9 x))∧w'=w:=by
 go_enter Tryz.func114,Tryz.ntmps114
 go_wp2
 all_goals go_ret
 all_goals (refine ⟨congrArg (fun n=>Ending.returned (.i n)) ?_,rfl⟩; unfold B9; grind)
def Ff (P:Program):Nat→TypeId→DataW Unit→Nat→Option Value
 | 0,_,_,_=>Option.none
 | n+1,t,d,i =>
  match P.underlying t,d with
  | some (.int k),.lit (.int k' z)=>if k'=k∧i=0 then some (.int k z) else Option.none
  | some .bool,.lit (.bool b)=>if i=0 then some (.bool b) else Option.none
  | some .string,.lit (.string s)=>if i=0 then some (.string ⟨s.toArray⟩) else Option.none
  | some (.array m e),.agg ps=>if i/P.cellsOf e<m then (ps[i/P.cellsOf e]?).bind fun x=>if i%P.cellsOf e<P.cellsOf e then Ff P n e x (i%P.cellsOf e) else Option.none else Option.none
  | some (.struct fs),.agg ps=>(List.range fs.toList.length).findSome? fun j=>(fs.toList[j]?).bind fun f=>if f.offset≤i∧i<f.offset+P.cellsOf f.type then (ps[j]?).bind fun x=>Ff P n f.type x (i-f.offset) else Option.none
  | _,_=>Option.none
theorem U0 {α:Type} {cs:List α} {a c i:Nat} {v:α} (h:((cs.drop a).take c)[i]?=some v):cs[a+i]?=some v:=by
 rw [List.getElem?_take] at h;split at h
 ·rwa [List.getElem?_drop] at h
 ·cases h
theorem Pk {enc:TypeId × Value→Unit} {P:Program} {w:World} {base:Nat} {sp:Nat→Bool} {held:Bool} :
  ∀ (n fuel:Nat) (t:TypeId) (cs:List Value) (d:DataW Unit) (p:List MemPlace) (i:Nat) (v:Value),
   DataW.trod enc P w base sp held fuel t cs=some (d,p)→Ff P n t d i=some v→cs[i]?=some v:=by
 intro n
 induction n with
 | zero=>intro fuel t cs d p i v h hv; cases hv
 | succ n ih =>
  intro fuel t cs d p i v h hv
  cases fuel with
  | zero=>simp [DataW.trod] at h
  | succ fuel =>
   unfold Ff at hv;split at hv
   ·rename_i k k' z hu
    obtain ⟨z',hc,hd,_⟩:=DataW.trod_int hu h;split at hv
    ·rename_i hk
     obtain ⟨rfl,rfl⟩:=hk;cases hd
     simpa [hc] using hv
    ·cases hv
   ·rename_i b hu
    simp only [DataW.trod,hu] at h
    split at h <;> simp_all
   ·rename_i s hu
    simp only [DataW.trod,hu] at h
    split at h <;> simp_all
    obtain ⟨hl,rfl,rfl⟩:=h
    simpa using hv.2
   ·rename_i m e ps hu
    simp only [DataW.trod,hu] at h;split at h
    ·obtain ⟨xs,hm,hx⟩:=Option.map_eq_some_iff.1 h
     split at hv
     ·rename_i hq
      obtain ⟨x,hpx,hv⟩:=Option.bind_eq_some_iff.1 hv;split at hv
      ·obtain ⟨b,hb,hf⟩:=Lib.mapM_at hm (i/P.cellsOf e) (i/P.cellsOf e) (by simp [hq])
       have hxs:ps=xs.map (·.1):=by
        have:=congrArg Prod.fst hx
        simpa using this.symm
       have hbx:b.1=x:=by
        rw [hxs,List.getElem?_map,hb] at hpx
        simpa using hpx
       have:=U0 (ih fuel e _ x b.2 (i%P.cellsOf e) v (by rw [hf,← hbx]) hv)
       rwa [Nat.mul_comm,Nat.div_add_mod] at this
      ·cases hv
     ·cases hv
    ·cases h
   ·rename_i fs ps hu
    simp only [DataW.trod,hu] at h;split at h
    ·obtain ⟨xs,hm,hx⟩:=Option.map_eq_some_iff.1 h
     obtain ⟨j,_,hj⟩:=List.exists_of_findSome?_eq_some hv;obtain ⟨f,hfj,hj⟩:=Option.bind_eq_some_iff.1 hj;split at hj
     ·rename_i hin
      obtain ⟨x,hpx,hj⟩:=Option.bind_eq_some_iff.1 hj;obtain ⟨b,hb,hf⟩:=Lib.mapM_at hm j f hfj
      have hxs:ps=xs.map (·.1):=by
       have:=congrArg Prod.fst hx
       simpa using this.symm
      have hbx:b.1=x:=by
       rw [hxs,List.getElem?_map,hb] at hpx
       simpa using hpx
      have:=U0 (ih fuel f.type _ x b.2 (i-f.offset) v (by rw [hf,← hbx]) hj)
      rwa [Nat.add_sub_cancel' hin.1] at this
     ·cases hj
    ·cases h
   ·cases hv
theorem Jn {P:Program} {w:World} {name:String} {d:DataW Unit}:∀ {l:List (String × DataW Unit)} {ps:List MemPlace},DataW.LaidVars P w l ps→(name,d)∈l →
  ∃ g t cs fuel p,P.globalNamed name=some g∧(P.globals[g]?).map (·.type)=some t∧w.var? P name=some cs∧DataW.trod (fun _=>()) P w 0 (fun _=>true) false fuel t cs.toList=some (d,p)
 | [],_,_,h=>by cases h
 | (n,x) :: r,_,⟨g,t,cs,fuel,p,q,h1,h2,h3,h4,h5,_⟩,h=>by
  rcases List.mem_cons.1 h with h | h
  ·cases h
   exact ⟨g,t,cs,fuel,p,h1,h2,h3,h4⟩
  ·exact Jn h5 h
theorem Nm {P:Program} {W:World} {name:String} {d:DataW Unit} {l:List (String × DataW Unit)} {g:Nat} {t:TypeId}
  (hg:P.globalNamed name=some g) (hty:(P.globals[g]?).map (·.type)=some t) (hm:(name,d)∈l) (h:laidMet P l W) (n:Nat):∀ (i:Nat) (v:Value),Ff P n t d i=some v→W.cell? ⟨g,i,Option.none⟩=some v:=by
 intro i v hv;obtain ⟨ps,hl,_⟩:=h;obtain ⟨g',t',cs,fuel,p,hg',ht',hvar,hd⟩:=Jn hl hm;obtain rfl:=Option.some.inj (hg.symm.trans hg');obtain rfl:=Option.some.inj (hty.symm.trans ht');have:=World.var?_cell hg hvar i;rw [this]
 simpa using Pk n fuel _ _ d p i v hd hv
theorem Nn {H:Type} {enc:TypeId × Value→H} {P:Program} {w:World} {sp:Nat→Bool} {n:String} {ns:List String} {gs:List (DataW H)} {ps:List MemPlace} (h:DataW.TrodVars enc P w sp (n :: ns) gs ps) :
  ∃ d ds q,gs=d :: ds∧DataW.TrodVars enc P w sp ns ds q:=by
 cases gs with
 | nil=>exact h.elim
 | cons d ds =>
  obtain ⟨g,t,cs,fuel,p,q,h1,h2,h3,h4,hs,e⟩:=h;exact ⟨d,ds,q,rfl,hs⟩
theorem Pm {H:Type} {enc:TypeId × Value→H} {P:Program} {w:World} {sp:Nat→Bool} {gs:List (DataW H)} {ps:List MemPlace} (h:DataW.TrodVars enc P w sp [] gs ps):gs=[]:=by
 cases gs with
 | nil=>rfl
 | cons d ds=>exact h.elim
def Jbt:Nat→DataW Unit→List Value
 | _,.lit (.int k z)=>[.int k z]
 | _,.lit (.bool b)=>[.bool b]
 | _,.lit (.string s)=>[.string ⟨s.toArray⟩]
 | n+1,.agg ps=>ps.flatMap (Jbt n)
 | _,_=>[]
end Go.Proofs.YtgcmimcalmjaaaaGreatDoor
