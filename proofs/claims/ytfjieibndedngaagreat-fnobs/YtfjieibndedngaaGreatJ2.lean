import Derived.Test.YtfjieibndedngaaGreatY2
import Derived.Test.YtfjieibndedngaaGreatAC
import Derived.Laws.CopyOwn
namespace Go.Proofs.YtfjieibndedngaaGreat
open Go.ChangeShapes Go.WideShapes Go.ChangeAt Go.RowKit
theorem Q7 {w:World} {lo g n:Nat} {f:Nat→Int} (h:w.heap[g]?=some (.cells (rowVals n f).toArray 3 (0,0))) (hg:lo≤g) (hn:n≤1048576):Au w lo (.slice (some ⟨g,0,none⟩) n n) n f:=by
 have hc:=World.news_of_block h;have hz:g<w.heap.size:=(Array.getElem?_eq_some_iff.1 h).1;refine ⟨_,n,rfl,hn,fun i hi=>⟨g,0,rfl,?_⟩,fun b o hF=>?_,fun b o hF=>?_⟩
 ·have:=hc i (.i (f i)) (B4 n f i hi)
  rw [F5] at this;exact this
 ·obtain ⟨off,e,_⟩:=hF
  simp only [Option.some.injEq,Addr.mk.injEq,and_true] at e;obtain ⟨rfl,rfl⟩:=e;refine ⟨hz,?_⟩
  simp [World.frozen?,h]
 ·obtain ⟨off,e,_⟩:=hF
  simp only [Option.some.injEq,Addr.mk.injEq,and_true] at e
  omega
set_option linter.unusedVariables false
set_option linter.unusedSimpArgs false
def Ub (t:Int):Int:=(t+15)/64
def Ol (m:Nat) (ln:Nat→Nat) (t:Int):Bool:=decide ((∀ i,i<m→ln i=48)∧(m:Int)=Ub t)
theorem Uw {m:Nat} {ln:Nat→Nat} {t:Int} {i:Nat} (hi:i<m) (h:¬ ln i=48):Ol m ln t=false:=decide_eq_false (fun x=>h (x.1 i hi))
theorem Tm {m:Nat} {ln:Nat→Nat} {t:Int} (h:∀ i,i<m→ln i=48):Ol m ln t=((m:Int)==Ub t):=by
 by_cases e:(m:Int)=Ub t
 ·rw [Ol,decide_eq_true ⟨h,e⟩]; exact (beq_iff_eq.2 e).symm
 ·rw [Ol,decide_eq_false (fun x=>e x.2)]; exact (beq_eq_false_iff_ne.2 e).symm
theorem Gd {t c s ad pl:Int} {n:Nat} {f:Nat→Int} {m:Nat} {g:Nat→Int} (h:A6 t c s ad pl n f m g=true):0≤t∧t≤20000:=by
 unfold A6 at h;rw [Bool.and_eq_true] at h;exact (Cr _ _ _).1 h.1
def okLock (d:Am):Bool:=Ff d.np d.p && (Co d.m d.ln d.f d.nr d.g d.bank && (Nx d.A d.X d.S d.Pc && (A6 d.t d.c d.s d.ad d.pl d.nt d.tb d.nd d.dt && (Dl d.T d.P d.K d.B d.L && (Cw d.sh 0 255 && ((d.t==d.T) && (Cw d.st 0 d.t && (Ol d.mf d.lf d.t && ((d.ns:Int)==d.t/16)))))))))
end Go.Proofs.YtfjieibndedngaaGreat
