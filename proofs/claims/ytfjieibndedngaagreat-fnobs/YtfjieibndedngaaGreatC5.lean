import Derived.Test.YtfjieibndedngaaGreatS2
import Derived.Test.YtfjieibndedngaaGreatC1
import Derived.Lib.Builder
namespace Go.Proofs.YtfjieibndedngaaGreat
set_option linter.unusedVariables false
open Go.ChangeShapes Go.WideShapes Go.ChangeAt Go.RowKit
theorem Hn (n:Int) (m:Nat) (hm:m<256):bits .and .i64 n (m:Int)=(((n%256).toNat &&& m:Nat):Int):=by
  have h0:0≤n%((2 ^ 64:Nat):Int):=Int.emod_nonneg _ (by decide)
  have key:(BitVec.ofInt 64 n &&& BitVec.ofInt 64 (m:Int)).toNat=(n%256).toNat &&& m:=by
    rw [BitVec.toNat_and,BitVec.toNat_ofInt,BitVec.toNat_ofInt]
    have e1:((m:Int)%((2 ^ 64:Nat):Int)).toNat=m:=by omega
    have e2:(n%256).toNat=(n%((2 ^ 64:Nat):Int)).toNat%2 ^ 8:=by omega
    have e3:m=(2 ^ 8-1) &&& m:=by rw [Nat.and_comm,Nat.and_two_pow_sub_one_eq_mod]; omega
    rw [e1,e2];generalize (n%((2 ^ 64:Nat):Int)).toNat=x;rw [← Nat.and_two_pow_sub_one_eq_mod,Nat.and_assoc,← e3]
  show IntKind.i64.wrap ((BitVec.ofInt 64 n &&& BitVec.ofInt 64 (m:Int)).toNat:Nat)=_
  rw [key,IntKind.wrap_i64];have hle:(n%256).toNat &&& m≤m:=Nat.and_le_right;generalize (n%256).toNat &&& m=y at *
  omega
def hasB (v:Int) (m:Nat):Bool:=((v%256).toNat &&& m) != 0
theorem Iy (v:Int) (m:Nat) (hm:m<256):(bits .and .i64 v (m:Int) != 0)=hasB v m:=by
  rw [Hn v m hm];unfold hasB;generalize (v%256).toNat &&& m=y
  cases y <;> simp <;> omega
theorem Ac {w w':World} {b n:Nat} {o:Obj} (hb:w.heap[b]?=some o) (L:Below n w w') (h:b<n):w'.heap[b]?=some o:=(L.block b h).trans hb
theorem Ak (w:World) (cs:Array Value) (t:TypeId):(w.alloc (.cells cs t)).heap[w.heap.size]?=some (.cells cs t (0,0)):=by show (w.heap.push _)[w.heap.size]?=_; simp
theorem Aj {w:World} {b:Nat} {cs:Array Value} {t:TypeId} {fr:Nat × Nat} (h:w.heap[b]?=some (.cells cs t fr)):∀ j,w.cell? ⟨b,j,none⟩=cs[j]?:=fun j=>Lib.cell_of_heap h j
theorem Ax {w:World} {b:Nat} {cs:Array Value} {t:TypeId} (h:w.heap[b]?=some (.cells cs t (0,0))):∀ j,w.frozen? ⟨b,j,none⟩=false:=fun j=>Lib.frozen_of_heap h j
theorem Af {w:World} {b:Nat} {o:Obj} (hb:w.heap[b]?=some o):b<w.heap.size:=by
  rcases Nat.lt_or_ge b w.heap.size with h' | h'
  · exact h'
  · simp [Array.getElem?_eq_none h'] at hb
theorem A9 {w:World} {b:Nat} {o:Obj} (hb:w.heap[b]?=some o) (x:Obj):(w.alloc x).heap[b]?=some o:=Ac hb ((Below.refl w.heap.size w).alloc (Nat.le_refl _) x) (Af hb)
theorem Ai {w w' w'':World} (h:Below w.heap.size w w') (k:Below w'.heap.size w' w''):Below w.heap.size w w'':=h.trans (k.mono h.size)
theorem Lc {w:World} {g n:Nat} {t:TypeId} {k:IntKind} {f:Nat→Int} (h:w.rowIs g t n (fun j=>.int k (f j))):Bv k w (some ⟨g,0,none⟩) n f:=fun i hi=>⟨g,0,rfl,by rw [Nat.zero_add]; exact h.cell hi⟩
theorem Er {w:World} {b:Nat} {t:TypeId} {v0 v1 v2 v3 v4 v5 v6 v7:Value} (h:w.heap[b]?=some (.cells #[v0,v1,v2,v3,v4,v5,v6,v7] t (0,0))) :
    w.cell? ⟨b,0,none⟩=some v0∧w.cell? ⟨b,1,none⟩=some v1∧w.cell? ⟨b,2,none⟩=some v2∧w.cell? ⟨b,3,none⟩=some v3∧w.cell? ⟨b,4,none⟩=some v4∧w.cell? ⟨b,5,none⟩=some v5∧w.cell? ⟨b,6,none⟩=some v6∧w.cell? ⟨b,7,none⟩=some v7:=by
  refine ⟨?_,?_,?_,?_,?_,?_,?_,?_⟩ <;> simp [World.cell?,h]
def Nx (A X S Pc:Int):Bool:=Cw A 0 255 && Cw X 0 255 && Cw S 0 255 && Cw Pc 0 65535
def flagsOf (Z N C I:Bool):Int:=Bc C+2*Bc Z+4*Bc I+128*Bc N
theorem Sy {P:Program} {f:FuncId} {args:Array Value} {w:World} {v:Value} (h:Calls P f args w fun e w'=>e=.returned v∧w'=w):Calls P f args w fun e w'=>e=.returned v∧∃ m,w'=w.drewN m :=
  h.mono fun _ _ ⟨he,hw⟩=>⟨he,0,by rw [hw]; simp [World.drewN]⟩
theorem Ft (w:World) (x:Int):Calls Tryz.prog 50 #[.i x] w fun e w'=>e=.returned (.bool (Cw x 0 255))∧w'=w:=by
  go_enter Tryz.func50,Tryz.ntmps50
  go_wp2_with fail;refine (Dy _ _ _ _).mono ?_;rintro e w' ⟨rfl,rfl⟩;go_wp2;go_ret;exact ⟨rfl,rfl⟩
theorem Rh (w:World) (A X S Pc:Int) (Z N C I:Bool):Calls Tryz.prog 47 #[.agg (cR A X S Pc Z N C I)] w
    fun e w'=>e=.returned (.bool (Nx A X S Pc))∧Below w.heap.size w w':=by
  unfold Nx
  go_enter Tryz.func47,Tryz.ntmps47
  generalize hA:Cw A 0 255=bA;generalize hX:Cw X 0 255=bX;generalize hS:Cw S 0 255=bS;generalize hP:Cw Pc 0 65535=bP
  have L0:∀ o,Below w.heap.size w (w.alloc o):=fun o=>(Below.refl _ _).alloc (Nat.le_refl _) _
  cases bA <;> cases bX <;> cases bS <;> cases bP <;>
    (go_wp2_with (first | (go_at_call 50; refine (Ft _ _).mono ?_; rintro e w' ⟨rfl,rfl⟩; first | rw [hA] | rw [hX] | rw [hS]) | (go_at_call 51; refine (Dy _ _ _ _).mono ?_; rintro e w' ⟨rfl,rfl⟩; rw [hP]))
     go_ret
     exact ⟨rfl,L0 _⟩)
theorem Ri (w:World) (A X S Pc:Int) (Z N C I:Bool):Calls Tryz.prog 85 #[.agg (cR A X S Pc Z N C I)] w
    fun e w'=>e=.returned (.i (flagsOf Z N C I))∧Below w.heap.size w w':=by
  have hz:0≤Bc Z∧Bc Z≤1:=by cases Z <;> decide
  have hn:0≤Bc N∧Bc N≤1:=by cases N <;> decide
  have hc:0≤Bc C∧Bc C≤1:=by cases C <;> decide
  have hi:0≤Bc I∧Bc I≤1:=by cases I <;> decide
  unfold flagsOf
  have L0:∀ o n,Below w.heap.size w ((w.alloc o).drewN n):=fun o n=>((Below.refl _ _).alloc (Nat.le_refl _) _).trans ⟨rfl,rfl,rfl,Nat.le_refl _,fun _ _=>rfl⟩
  go_enter Tryz.func85,Tryz.ntmps85
  go_wp2_with fail
  go_quiet ((go_at_call 104; exact Calls.quiet_of (Sy (Nh _ _))))
  go_wp2;go_ret;exact ⟨rfl,L0 _ _⟩
theorem Gq (w:World) (A X S Pc:Int) (Z N C I:Bool) (v:Int):Calls Tryz.prog 61 #[.agg (cR A X S Pc Z N C I),.i v] w
    fun e w'=>e=.returned (.agg (cR A X S Pc (hasB v 2) (hasB v 128) (hasB v 1) (hasB v 4)))∧Below w.heap.size w w':=by
  have h1:(bits .and .i64 v 1 != 0)=hasB v 1:=Iy v 1 (by omega);have h2:(bits .and .i64 v 2 != 0)=hasB v 2:=Iy v 2 (by omega);have h4:(bits .and .i64 v 4 != 0)=hasB v 4:=Iy v 4 (by omega);have h8:(bits .and .i64 v 128 != 0)=hasB v 128:=Iy v 128 (by omega)
  go_enter Tryz.func61,Tryz.ntmps61
  go_wp2;refine bodyPost_ret (v:=.agg (cR A X S Pc (hasB v 2) (hasB v 128) (hasB v 1) (hasB v 4))) (by simp [results,Tryz.results61,go_sem]) rfl ?_;exact ⟨rfl,((Below.refl _ _).alloc (Nat.le_refl _) _).alloc (by simp) _⟩
theorem Sz (w:World) (A X S Pc:Int) (Z N C I:Bool) (v:Int):Calls Tryz.prog 100 #[.agg (cR A X S Pc Z N C I),.i v] w
    fun e w'=>e=.returned (.agg (cR (v%256) X S Pc (v%256==0) (decide (127<v%256)) C I))∧Below w.heap.size w w':=by
  go_enter Tryz.func100,Tryz.ntmps100
  go_wp2_with (first | (go_at_call 70; refine (Ba _ _).mono ?_; rintro e w' ⟨rfl,rfl⟩) | (go_at_call 108; refine (Ic _ _).mono ?_; rintro e w' ⟨rfl,rfl⟩));refine bodyPost_ret (v:=.agg (cR (v%256) X S Pc (v%256==0) (decide (127<v%256)) C I)) (by simp [results,Tryz.results100,go_sem]) rfl ?_;exact ⟨rfl,((Below.refl _ _).alloc (Nat.le_refl _) _).alloc (by simp) _⟩
theorem S7 (w:World) (A X S Pc:Int) (Z N C I:Bool) (v:Int):Calls Tryz.prog 109 #[.agg (cR A X S Pc Z N C I),.i v] w
    fun e w'=>e=.returned (.agg (cR A (v%256) S Pc (v%256==0) (decide (127<v%256)) C I))∧Below w.heap.size w w':=by
  go_enter Tryz.func109,Tryz.ntmps109
  go_wp2_with (first | (go_at_call 70; refine (Ba _ _).mono ?_; rintro e w' ⟨rfl,rfl⟩) | (go_at_call 108; refine (Ic _ _).mono ?_; rintro e w' ⟨rfl,rfl⟩));refine bodyPost_ret (v:=.agg (cR A (v%256) S Pc (v%256==0) (decide (127<v%256)) C I)) (by simp [results,Tryz.results109,go_sem]) rfl ?_;exact ⟨rfl,((Below.refl _ _).alloc (Nat.le_refl _) _).alloc (by simp) _⟩
end Go.Proofs.YtfjieibndedngaaGreat
