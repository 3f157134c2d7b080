import Derived.Test.YtijljlnooibbmaaGreatDoorMath
import Derived.Lib.Builder
namespace Go.Proofs.YtijljlnooibbmaaGreatDoor
open Go.Proofs.Tryz
set_option linter.unusedVariables false
open Go.ChangeShapes Go.WideShapes Go.ChangeAt Go.RowKit
theorem Ks (n:Int) (m:Nat) (hm:m<256):bits .and .i64 n (m:Int)=(((n%256).toNat &&& m:Nat):Int):=by
  have h0:0<=n%((2 ^ 64:Nat):Int):=Int.emod_nonneg _ (by decide)
  have key:(BitVec.ofInt 64 n &&& BitVec.ofInt 64 (m:Int)).toNat=(n%256).toNat &&& m:=by
    rw [BitVec.toNat_and,BitVec.toNat_ofInt,BitVec.toNat_ofInt]
    have e1:((m:Int)%((2 ^ 64:Nat):Int)).toNat=m:=by omega
    have e2:(n%256).toNat=(n%((2 ^ 64:Nat):Int)).toNat%2 ^ 8:=by omega
    have e3:m=(2 ^ 8-1) &&& m:=by rw [Nat.and_comm,Nat.and_two_pow_sub_one_eq_mod]; omega
    rw [e1,e2];generalize (n%((2 ^ 64:Nat):Int)).toNat=x;rw [<- Nat.and_two_pow_sub_one_eq_mod,Nat.and_assoc,<- e3]
  show IntKind.i64.wrap ((BitVec.ofInt 64 n &&& BitVec.ofInt 64 (m:Int)).toNat:Nat)=_
  rw [key,IntKind.wrap_i64];have hle:(n%256).toNat &&& m<=m:=Nat.and_le_right;generalize (n%256).toNat &&& m=y at *
  omega
def hasB (v:Int) (m:Nat):Bool:=((v%256).toNat &&& m) != 0
theorem Ng (v:Int) (m:Nat) (hm:m<256):(bits .and .i64 v (m:Int) != 0)=hasB v m:=by
  rw [Ks v m hm];unfold hasB;generalize (v%256).toNat &&& m=y
  cases y <;> simp <;> omega
theorem Rs (v:Int) (m:Nat) (hm:m<256):(bits .and .u8 (v%256) (m:Int) != 0)=hasB v m:=by
  rw [u8_and (v%256) (m:Int) (by omega) (by omega) (by omega) (by omega),Int.toNat_natCast];unfold hasB;generalize (v%256).toNat &&& m=y
  cases y <;> simp <;> omega
theorem Ab {w w':World} {b n:Nat} {o:Obj} (hb:w.heap[b]?=some o) (L:Below n w w') (h:b<n):w'.heap[b]?=some o:=(L.block b h).trans hb
theorem Ak (w:World) (cs:Array Value) (t:TypeId):(w.alloc (.cells cs t)).heap[w.heap.size]?=some (.cells cs t (0,0)):=by show (w.heap.push _)[w.heap.size]?=_; simp
theorem Af {w:World} {b:Nat} {cs:Array Value} {t:TypeId} {fr:Nat × Nat} (h:w.heap[b]?=some (.cells cs t fr)):∀ j,w.cell? ⟨b,j,none⟩=cs[j]?:=fun j=>Lib.cell_of_heap h j
theorem Au {w:World} {b:Nat} {cs:Array Value} {t:TypeId} (h:w.heap[b]?=some (.cells cs t (0,0))):∀ j,w.frozen? ⟨b,j,none⟩=false:=fun j=>Lib.frozen_of_heap h j
theorem Ad {w:World} {b:Nat} {o:Obj} (hb:w.heap[b]?=some o):b<w.heap.size:=by
  rcases Nat.lt_or_ge b w.heap.size with h' | h'
  . exact h'
  . simp [Array.getElem?_eq_none h'] at hb
theorem Az {w:World} {b:Nat} {o:Obj} (hb:w.heap[b]?=some o) (x:Obj):(w.alloc x).heap[b]?=some o:=Ab hb ((Below.refl w.heap.size w).alloc (Nat.le_refl _) x) (Ad hb)
theorem Ah {w w' w'':World} (h:Below w.heap.size w w') (k:Below w'.heap.size w' w''):Below w.heap.size w w'':=h.trans (k.mono h.size)
theorem Qp {w:World} {g n:Nat} {t:TypeId} {k:IntKind} {f:Nat->Int} (h:w.rowIs g t n (fun j=>.int k (f j))):Cg k w (some ⟨g,0,none⟩) n f:=fun i hi=>⟨g,0,rfl,by rw [Nat.zero_add]; exact h.cell hi⟩
theorem Gg {w:World} {b:Nat} {t:TypeId} {v0 v1 v2 v3 v4 v5 v6 v7:Value} (h:w.heap[b]?=some (.cells #[v0,v1,v2,v3,v4,v5,v6,v7] t (0,0))) :
    w.cell? ⟨b,0,none⟩=some v0/\w.cell? ⟨b,1,none⟩=some v1/\w.cell? ⟨b,2,none⟩=some v2/\w.cell? ⟨b,3,none⟩=some v3/\w.cell? ⟨b,4,none⟩=some v4/\w.cell? ⟨b,5,none⟩=some v5/\w.cell? ⟨b,6,none⟩=some v6/\w.cell? ⟨b,7,none⟩=some v7:=by
  refine ⟨?_,?_,?_,?_,?_,?_,?_,?_⟩ <;> simp [World.cell?,h]
def I9 (A X S Pc:Int):Bool:=Cr A 0 255 && Cr X 0 255 && Cr S 0 255 && Cr Pc 0 65535
def flagsOf (Z N C I:Bool):Int:=Av C+2*Av Z+4*Av I+128*Av N
theorem Jb4 {P:Program} {f:FuncId} {args:Array Value} {w:World} {v:Value} (h:Calls P f args w fun e w'=>e=.returned v/\w'=w):Calls P f args w fun e w'=>e=.returned v/\∃ m,w'=w.drewN m :=
  h.mono fun _ _ ⟨he,hw⟩=>⟨he,0,by rw [hw]; simp [World.drewN]⟩
theorem Ih (w:World) (x:Int):Calls prog 32 #[.i x] w fun e w'=>e=.returned (.bool (Cr x 0 255))/\w'=w:=by
  go_enter func32,ntmps32
  go_wp2_with fail;refine (E8 _ _ _ _).mono ?_;rintro e w' ⟨rfl,rfl⟩;go_wp2;go_ret;exact ⟨rfl,rfl⟩
theorem Zs (w:World) (A X S Pc:Int) (Z N C I:Bool):Calls prog 29 #[.agg (cR A X S Pc Z N C I)] w
    fun e w'=>e=.returned (.bool (I9 A X S Pc))/\Below w.heap.size w w':=by
  unfold I9
  go_enter func29,ntmps29
  generalize hA:Cr A 0 255=bA;generalize hX:Cr X 0 255=bX;generalize hS:Cr S 0 255=bS;generalize hP:Cr Pc 0 65535=bP
  have L0:∀ o,Below w.heap.size w (w.alloc o):=fun o=>(Below.refl _ _).alloc (Nat.le_refl _) _
  cases bA <;> cases bX <;> cases bS <;> cases bP <;>
    (go_wp2_with (first | (go_at_call 32; refine (Ih _ _).mono ?_; rintro e w' ⟨rfl,rfl⟩; first | rw [hA] | rw [hX] | rw [hS]) | (go_at_call 33; refine (E8 _ _ _ _).mono ?_; rintro e w' ⟨rfl,rfl⟩; rw [hP]))
     go_ret
     exact ⟨rfl,L0 _⟩)
theorem Zt (w:World) (A X S Pc:Int) (Z N C I:Bool):Calls prog 121 #[.agg (cR A X S Pc Z N C I)] w
    fun e w'=>e=.returned (.i (flagsOf Z N C I))/\Below w.heap.size w w':=by
  have hz:0<=Av Z/\Av Z<=1:=by cases Z <;> decide
  have hn:0<=Av N/\Av N<=1:=by cases N <;> decide
  have hc:0<=Av C/\Av C<=1:=by cases C <;> decide
  have hi:0<=Av I/\Av I<=1:=by cases I <;> decide
  unfold flagsOf
  have L0:∀ o n,Below w.heap.size w ((w.alloc o).drewN n):=fun o n=>((Below.refl _ _).alloc (Nat.le_refl _) _).trans ⟨rfl,rfl,rfl,Nat.le_refl _,fun _ _=>rfl⟩
  go_enter func121,ntmps121
  go_wp2_with fail
  go_quiet ((go_at_call 166; exact Calls.quiet_of (Jb4 (Tr _ _))))
  go_wp2;go_ret;exact ⟨rfl,L0 _ _⟩
theorem Jw (w:World) (A X S Pc:Int) (Z N C I:Bool) (v:Int):Calls prog 112 #[.agg (cR A X S Pc Z N C I),.i v] w
    fun e w'=>e=.returned (.agg (cR A X S Pc (hasB v 2) (hasB v 128) (hasB v 1) (hasB v 4)))/\Below w.heap.size w w':=by
  have h1:(bits .and .i64 v 1 != 0)=hasB v 1:=Ng v 1 (by omega);have h2:(bits .and .i64 v 2 != 0)=hasB v 2:=Ng v 2 (by omega);have h4:(bits .and .i64 v 4 != 0)=hasB v 4:=Ng v 4 (by omega);have h8:(bits .and .i64 v 128 != 0)=hasB v 128:=Ng v 128 (by omega)
  go_enter func112,ntmps112
  go_wp2;refine bodyPost_ret (v:=.agg (cR A X S Pc (hasB v 2) (hasB v 128) (hasB v 1) (hasB v 4))) (by simp [results,results112,go_sem]) rfl ?_;exact ⟨rfl,((Below.refl _ _).alloc (Nat.le_refl _) _).alloc (by simp) _⟩
theorem Jb5 (w:World) (A X S Pc:Int) (Z N C I:Bool) (v:Int):Calls prog 141 #[.agg (cR A X S Pc Z N C I),.i v] w
    fun e w'=>e=.returned (.agg (cR (v%256) X S Pc (v%256==0) (decide (127<v%256)) C I))/\Below w.heap.size w w':=by
  go_enter func141,ntmps141
  go_wp2_with (first | (go_at_call 128; refine (Bo _ _).mono ?_; rintro e w' ⟨rfl,rfl⟩) | (go_at_call 170; refine (Ma _ _).mono ?_; rintro e w' ⟨rfl,rfl⟩));refine bodyPost_ret (v:=.agg (cR (v%256) X S Pc (v%256==0) (decide (127<v%256)) C I)) (by simp [results,results141,go_sem]) rfl ?_;exact ⟨rfl,((Below.refl _ _).alloc (Nat.le_refl _) _).alloc (by simp) _⟩
theorem Jb6 (w:World) (A X S Pc:Int) (Z N C I:Bool) (v:Int):Calls prog 171 #[.agg (cR A X S Pc Z N C I),.i v] w
    fun e w'=>e=.returned (.agg (cR A (v%256) S Pc (v%256==0) (decide (127<v%256)) C I))/\Below w.heap.size w w':=by
  go_enter func171,ntmps171
  go_wp2_with (first | (go_at_call 128; refine (Bo _ _).mono ?_; rintro e w' ⟨rfl,rfl⟩) | (go_at_call 170; refine (Ma _ _).mono ?_; rintro e w' ⟨rfl,rfl⟩));refine bodyPost_ret (v:=.agg (cR A (v%256) S Pc (v%256==0) (decide (127<v%256)) C I)) (by simp [results,results171,go_sem]) rfl ?_;exact ⟨rfl,((Below.refl _ _).alloc (Nat.le_refl _) _).alloc (by simp) _⟩
end Go.Proofs.YtijljlnooibbmaaGreatDoor
