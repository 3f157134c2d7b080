import Derived.Test.YtgcmimcalmjaaaaGreatDoorO
import Derived.Lib.Builder
import Derived.Laws.StructEq
namespace Go.Proofs.YtgcmimcalmjaaaaGreatDoor
open Go.ChangeShapes Go.WideShapes Go.ChangeAt Go.RowKit
def Pn:List Int:=[0,0,1,2,0,0,0,0,0,0,0,0,0,0,1,2,0,0,0,0,0,0,0,0,0,0,0,0,0,1]
def Dc (w:World):Prop:=∀ i:Nat,i<30→w.cell? ⟨0,i*4,none⟩=some (.string (Vr.getD i ByteArray.empty))∧w.cell? ⟨0,i*4+1,none⟩=some (.i (Gz.getD i 1)) ∧
 w.cell? ⟨0,i*4+2,none⟩=some (.i (G8.getD i 2))∧w.cell? ⟨0,i*4+3,none⟩=some (.i (Pn.getD i 0))
theorem Sw:∀ i:Fin 30,Ff Tryz.prog 4 190 Rows.laid_loop_example_g00231_impl_opRows (i.1*4)=some (.string (Vr.getD i.1 ByteArray.empty)) ∧
  Ff Tryz.prog 4 190 Rows.laid_loop_example_g00231_impl_opRows (i.1*4+1)=some (.i (Gz.getD i.1 1)) ∧
  Ff Tryz.prog 4 190 Rows.laid_loop_example_g00231_impl_opRows (i.1*4+2)=some (.i (G8.getD i.1 2)) ∧
  Ff Tryz.prog 4 190 Rows.laid_loop_example_g00231_impl_opRows (i.1*4+3)=some (.i (Pn.getD i.1 0)):=by
 intro ⟨i,hi⟩
 show _∧_∧_∧_
 match i,hi with
 | 0,_=>exact ⟨by kernel_rfl,by kernel_rfl,by kernel_rfl,by kernel_rfl⟩
 | 1,_=>exact ⟨by kernel_rfl,by kernel_rfl,by kernel_rfl,by kernel_rfl⟩
 | 2,_=>exact ⟨by kernel_rfl,by kernel_rfl,by kernel_rfl,by kernel_rfl⟩
 | 3,_=>exact ⟨by kernel_rfl,by kernel_rfl,by kernel_rfl,by kernel_rfl⟩
 | 4,_=>exact ⟨by kernel_rfl,by kernel_rfl,by kernel_rfl,by kernel_rfl⟩
 | 5,_=>exact ⟨by kernel_rfl,by kernel_rfl,by kernel_rfl,by kernel_rfl⟩
 | 6,_=>exact ⟨by kernel_rfl,by kernel_rfl,by kernel_rfl,by kernel_rfl⟩
 | 7,_=>exact ⟨by kernel_rfl,by kernel_rfl,by kernel_rfl,by kernel_rfl⟩
 | 8,_=>exact ⟨by kernel_rfl,by kernel_rfl,by kernel_rfl,by kernel_rfl⟩
 | 9,_=>exact ⟨by kernel_rfl,by kernel_rfl,by kernel_rfl,by kernel_rfl⟩
 | 10,_=>exact ⟨by kernel_rfl,by kernel_rfl,by kernel_rfl,by kernel_rfl⟩
 | 11,_=>exact ⟨by kernel_rfl,by kernel_rfl,by kernel_rfl,by kernel_rfl⟩
 | 12,_=>exact ⟨by kernel_rfl,by kernel_rfl,by kernel_rfl,by kernel_rfl⟩
 | 13,_=>exact ⟨by kernel_rfl,by kernel_rfl,by kernel_rfl,by kernel_rfl⟩
 | 14,_=>exact ⟨by kernel_rfl,by kernel_rfl,by kernel_rfl,by kernel_rfl⟩
 | 15,_=>exact ⟨by kernel_rfl,by kernel_rfl,by kernel_rfl,by kernel_rfl⟩
 | 16,_=>exact ⟨by kernel_rfl,by kernel_rfl,by kernel_rfl,by kernel_rfl⟩
 | 17,_=>exact ⟨by kernel_rfl,by kernel_rfl,by kernel_rfl,by kernel_rfl⟩
 | 18,_=>exact ⟨by kernel_rfl,by kernel_rfl,by kernel_rfl,by kernel_rfl⟩
 | 19,_=>exact ⟨by kernel_rfl,by kernel_rfl,by kernel_rfl,by kernel_rfl⟩
 | 20,_=>exact ⟨by kernel_rfl,by kernel_rfl,by kernel_rfl,by kernel_rfl⟩
 | 21,_=>exact ⟨by kernel_rfl,by kernel_rfl,by kernel_rfl,by kernel_rfl⟩
 | 22,_=>exact ⟨by kernel_rfl,by kernel_rfl,by kernel_rfl,by kernel_rfl⟩
 | 23,_=>exact ⟨by kernel_rfl,by kernel_rfl,by kernel_rfl,by kernel_rfl⟩
 | 24,_=>exact ⟨by kernel_rfl,by kernel_rfl,by kernel_rfl,by kernel_rfl⟩
 | 25,_=>exact ⟨by kernel_rfl,by kernel_rfl,by kernel_rfl,by kernel_rfl⟩
 | 26,_=>exact ⟨by kernel_rfl,by kernel_rfl,by kernel_rfl,by kernel_rfl⟩
 | 27,_=>exact ⟨by kernel_rfl,by kernel_rfl,by kernel_rfl,by kernel_rfl⟩
 | 28,_=>exact ⟨by kernel_rfl,by kernel_rfl,by kernel_rfl,by kernel_rfl⟩
 | 29,_=>exact ⟨by kernel_rfl,by kernel_rfl,by kernel_rfl,by kernel_rfl⟩
 | n+30,hi=>exact absurd hi (by omega)
theorem Yj {w:World} (h:∀ i v,Ff Tryz.prog 4 190 Rows.laid_loop_example_g00231_impl_opRows i=some v→w.cell? ⟨0,i,none⟩=some v):Dc w:=fun i hi=>by
 obtain ⟨a,b,c,d⟩:=Sw ⟨i,hi⟩;exact ⟨h _ _ a,h _ _ b,h _ _ c,h _ _ d⟩
theorem Dc.mono {w w':World} (h:Dc w) (hb:Below w.heap.size w w'):Dc w':=fun i hi=>by
 obtain ⟨a,b,c,d⟩:=h i hi;have h0:0<w.heap.size:=block_lt_of_cell a;exact ⟨(hb.cell h0).trans a,(hb.cell h0).trans b,(hb.cell h0).trans c,(hb.cell h0).trans d⟩
def nmOf (x:Int):ByteArray:=if 0≤x∧x≤29 then Vr.getD x.toNat ByteArray.empty else ⟨#[]⟩
def lenOf (x:Int):Int:=if 0≤x∧x≤29 then Gz.getD x.toNat 1 else 1
def Jo (x:Int):Int:=if 0≤x∧x≤29 then G8.getD x.toNat 2 else 2
def Lk (x:Int):Int:=if 0≤x∧x≤29 then Pn.getD x.toNat 0 else 0
theorem opAt (w:World) (x:Int) (h:Dc w):Calls Tryz.prog 170 #[.i x] w fun e w'=>e=.returned (.agg #[.string (nmOf x),.i (lenOf x),.i (Jo x),.i (Lk x)])∧Below w.heap.size w w':=by
 have L0:∀ o,Below w.heap.size w (w.alloc o):=fun o=>(Below.refl _ _).alloc (Nat.le_refl _) _
 by_cases hx:0≤x∧x≤29
 ·obtain ⟨i,rfl⟩:∃ i:Nat,x=i:=⟨x.toNat,by omega⟩
  have hi:i<30:=by omega
  have hi':(i:Int)<30:=by omega
  obtain ⟨a,b,c,d⟩:=h i hi;have h0:0<w.heap.size:=block_lt_of_cell a
  have h1:decide ((i:Int)<0)=false:=by simp
  have h2:decide (30≤(i:Int))=false:=by simp; omega
  unfold nmOf lenOf Jo Lk;rw [if_pos hx,if_pos hx,if_pos hx,if_pos hx,Int.toNat_natCast]
  obtain ⟨v0,e0⟩:∃ v,v=Vr.getD i ByteArray.empty:=⟨_,rfl⟩
  obtain ⟨v1,e1⟩:∃ v,v=Gz.getD i 1:=⟨_,rfl⟩
  obtain ⟨v2,e2⟩:∃ v,v=G8.getD i 2:=⟨_,rfl⟩
  obtain ⟨v3,e3⟩:∃ v,v=Pn.getD i 0:=⟨_,rfl⟩
  rw [← e0] at a; rw [← e1] at b; rw [← e2] at c; rw [← e3] at d;rw [← e0,← e1,← e2,← e3];clear e0 e1 e2 e3 h hx
  go_enter Tryz.func170,Tryz.ntmps170
  go_wp2;refine bodyPost_ret (v:=.agg #[.string v0,.i v1,.i v2,.i v3]) (by simp [results,Tryz.results170,go_sem]) rfl ?_;exact ⟨rfl,L0 _⟩
 ·unfold nmOf lenOf Jo Lk
  rw [if_neg hx,if_neg hx,if_neg hx,if_neg hx]
  rcases (by omega:x<0∨30≤x) with h1 | h1
  ·have h2:decide (x<0)=true:=by simpa using h1
   clear hx
   go_enter Tryz.func170,Tryz.ntmps170
   go_wp2
   all_goals first | (exfalso; omega) | skip
   refine bodyPost_ret (v:=.agg #[.string ⟨#[]⟩,.i 1,.i 2,.i 0]) (by simp [results,Tryz.results170,go_sem]) rfl ?_;exact ⟨rfl,L0 _⟩
  ·have h2:decide (x<0)=false:=by simp; omega
   have h3:decide (30≤x)=true:=by simpa using h1
   clear hx
   go_enter Tryz.func170,Tryz.ntmps170
   go_wp2
   all_goals first | (exfalso; omega) | skip
   refine bodyPost_ret (v:=.agg #[.string ⟨#[]⟩,.i 1,.i 2,.i 0]) (by simp [results,Tryz.results170,go_sem]) rfl ?_;exact ⟨rfl,L0 _⟩
theorem Oc (w:World) (x:Int) (h:Dc w):Calls Tryz.prog 157 #[.i x] w fun e w'=>e=.returned (.i (lenOf x))∧Below w.heap.size w w':=by
 have hfd:∀ w:World,(Instr.field 167 (.agg #[.string (nmOf x),.i (lenOf x),.i (Jo x),.i (Lk x)]) 1).run Tryz.prog w=.ok (.i (lenOf x)) w:=fun _=>by kernel_rfl
 go_enter Tryz.func157,Tryz.ntmps157
 go_wp2_with fail;refine (opAt _ _ h).mono ?_;rintro e w1 ⟨rfl,hb⟩;go_wp2;go_ret;exact ⟨rfl,hb⟩
theorem Po (w:World) (x:Int) (h:Dc w):Calls Tryz.prog 142 #[.i x] w fun e w'=>e=.returned (.i (Jo x))∧Below w.heap.size w w':=by
 have hfd:∀ w:World,(Instr.field 167 (.agg #[.string (nmOf x),.i (lenOf x),.i (Jo x),.i (Lk x)]) 2).run Tryz.prog w=.ok (.i (Jo x)) w:=fun _=>by kernel_rfl
 go_enter Tryz.func142,Tryz.ntmps142
 go_wp2_with fail;refine (opAt _ _ h).mono ?_;rintro e w1 ⟨rfl,hb⟩;go_wp2;go_ret;exact ⟨rfl,hb⟩
theorem Pp (w:World) (x:Int) (h:Dc w):Calls Tryz.prog 159 #[.i x] w fun e w'=>e=.returned (.i (Lk x))∧Below w.heap.size w w':=by
 have hfd:∀ w:World,(Instr.field 167 (.agg #[.string (nmOf x),.i (lenOf x),.i (Jo x),.i (Lk x)]) 3).run Tryz.prog w=.ok (.i (Lk x)) w:=fun _=>by kernel_rfl
 go_enter Tryz.func159,Tryz.ntmps159
 go_wp2_with fail;refine (opAt _ _ h).mono ?_;rintro e w1 ⟨rfl,hb⟩;go_wp2;go_ret;exact ⟨rfl,hb⟩
theorem Sx (w:World) (x:Int) (h:Dc w):Calls Tryz.prog 182 #[.i x] w fun e w'=>e=.returned (.string (nmOf x))∧Below w.heap.size w w':=by
 have hfd:∀ w:World,(Instr.field 167 (.agg #[.string (nmOf x),.i (lenOf x),.i (Jo x),.i (Lk x)]) 0).run Tryz.prog w=.ok (.string (nmOf x)) w:=fun _=>by kernel_rfl
 go_enter Tryz.func182,Tryz.ntmps182
 go_wp2_with fail;refine (opAt _ _ h).mono ?_;rintro e w1 ⟨rfl,hb⟩;go_wp2;go_ret;exact ⟨rfl,hb⟩
theorem Jah (x:Int):Lk x=B9 x:=by
 unfold Lk;split
 ·rename_i h
  obtain ⟨i,rfl⟩:∃ i:Nat,x=i:=⟨x.toNat,by omega⟩
  have hi:i<30:=by omega
  rw [Int.toNat_natCast];clear h
  revert i
  decide
 ·unfold B9
  rw [if_neg (by omega),if_neg (by omega)]
set_option linter.unusedVariables false
theorem Jp (n:Int) (m:Nat) (hm:m<256):bits .and .i64 n (m:Int)=(((n%256).toNat &&& m:Nat):Int):=by
  have h0:0≤n%((2 ^ 64:Nat):Int):=Int.emod_nonneg _ (by decide)
  have key:(BitVec.ofInt 64 n &&& BitVec.ofInt 64 (m:Int)).toNat=(n%256).toNat &&& m:=by
    rw [BitVec.toNat_and,BitVec.toNat_ofInt,BitVec.toNat_ofInt]
    have e1:((m:Int)%((2 ^ 64:Nat):Int)).toNat=m:=by omega
    have e2:(n%256).toNat=(n%((2 ^ 64:Nat):Int)).toNat%2 ^ 8:=by omega
    have e3:m=(2 ^ 8-1) &&& m:=by rw [Nat.and_comm,Nat.and_two_pow_sub_one_eq_mod]; omega
    rw [e1,e2];generalize (n%((2 ^ 64:Nat):Int)).toNat=x;rw [← Nat.and_two_pow_sub_one_eq_mod,Nat.and_assoc,← e3]
  show IntKind.i64.wrap ((BitVec.ofInt 64 n &&& BitVec.ofInt 64 (m:Int)).toNat:Nat)=_
  rw [key,IntKind.wrap_i64];have hle:(n%256).toNat &&& m≤m:=Nat.and_le_right;generalize (n%256).toNat &&& m=y at *
  omega
def hasB (v:Int) (m:Nat):Bool:=((v%256).toNat &&& m) != 0
theorem Kx (v:Int) (m:Nat) (hm:m<256):(bits .and .i64 v (m:Int) != 0)=hasB v m:=by
  rw [Jp v m hm];unfold hasB;generalize (v%256).toNat &&& m=y
  cases y <;> simp <;> omega
theorem Pq (v:Int) (m:Nat) (hm:m<256):(bits .and .u8 (v%256) (m:Int) != 0)=hasB v m:=by
  rw [u8_and (v%256) (m:Int) (by omega) (by omega) (by omega) (by omega),Int.toNat_natCast];unfold hasB;generalize (v%256).toNat &&& m=y
  cases y <;> simp <;> omega
theorem Aa {w w':World} {b n:Nat} {o:Obj} (hb:w.heap[b]?=some o) (L:Below n w w') (h:b<n):w'.heap[b]?=some o:=(L.block b h).trans hb
theorem Al (w:World) (cs:Array Value) (t:TypeId):(w.alloc (.cells cs t)).heap[w.heap.size]?=some (.cells cs t (0,0)):=by show (w.heap.push _)[w.heap.size]?=_; simp
theorem Ag {w:World} {b:Nat} {cs:Array Value} {t:TypeId} {fr:Nat × Nat} (h:w.heap[b]?=some (.cells cs t fr)):∀ j,w.cell? ⟨b,j,none⟩=cs[j]?:=fun j=>Lib.cell_of_heap h j
theorem As {w:World} {b:Nat} {cs:Array Value} {t:TypeId} (h:w.heap[b]?=some (.cells cs t (0,0))):∀ j,w.frozen? ⟨b,j,none⟩=false:=fun j=>Lib.frozen_of_heap h j
theorem Ac {w:World} {b:Nat} {o:Obj} (hb:w.heap[b]?=some o):b<w.heap.size:=by
  rcases Nat.lt_or_ge b w.heap.size with h' | h'
  · exact h'
  · simp [Array.getElem?_eq_none h'] at hb
theorem Ax {w:World} {b:Nat} {o:Obj} (hb:w.heap[b]?=some o) (x:Obj):(w.alloc x).heap[b]?=some o:=Aa hb ((Below.refl w.heap.size w).alloc (Nat.le_refl _) x) (Ac hb)
theorem Ae {w w' w'':World} (h:Below w.heap.size w w') (k:Below w'.heap.size w' w''):Below w.heap.size w w'':=h.trans (k.mono h.size)
theorem Od {w:World} {g n:Nat} {t:TypeId} {k:IntKind} {f:Nat→Int} (h:w.rowIs g t n (fun j=>.int k (f j))):Be k w (some ⟨g,0,none⟩) n f:=fun i hi=>⟨g,0,rfl,by rw [Nat.zero_add]; exact h.cell hi⟩
def It (A X S Pc:Int):Bool:=Cs A 0 255 && Cs X 0 255 && Cs S 0 255 && Cs Pc 0 65535
def flagsOf (Z N C I:Bool):Int:=Av C+2*Av Z+4*Av I+128*Av N
theorem Yk {P:Program} {f:FuncId} {args:Array Value} {w:World} {v:Value} (h:Calls P f args w fun e w'=>e=.returned v∧w'=w):Calls P f args w fun e w'=>e=.returned v∧∃ m,w'=w.drewN m :=
  h.mono fun _ _ ⟨he,hw⟩=>⟨he,0,by rw [hw]; simp [World.drewN]⟩
theorem Jcy (w:World) (A X S Pc:Int) (Z N C I:Bool):Calls Tryz.prog 22 #[.agg (cR A X S Pc Z N C I)] w
    fun e w'=>e=.returned (.agg (cR A X S Pc Z N C I))∧Below w.heap.size w w':=by
  go_enter Tryz.func22,Tryz.ntmps22
  go_wp2;refine bodyPost_ret (v:=.agg (cR A X S Pc Z N C I)) (by simp [results,Tryz.results22,go_sem]) rfl ?_;exact ⟨rfl,(((Below.refl _ _).alloc (Nat.le_refl _) _).alloc (by simp) _).alloc (by simp; omega) _⟩
theorem Sy (w:World) (A X S Pc:Int) (Z N C I:Bool):Calls Tryz.prog 33 #[.agg (cR A X S Pc Z N C I),.agg (cR A X S Pc Z N C I)] w
    fun e w'=>e=.returned (.bool true)∧Below w.heap.size w w':=by
  go_enter Tryz.func33,Tryz.ntmps33
  go_wp2;go_ret;exact ⟨rfl,((Below.refl _ _).alloc (Nat.le_refl _) _).alloc (by simp) _⟩
theorem Ha (w:World) (x:Int):Calls Tryz.prog 54 #[.i x] w fun e w'=>e=.returned (.bool (Cs x 0 255))∧w'=w:=by
  go_enter Tryz.func54,Tryz.ntmps54
  go_wp2_with fail;refine (Gj _ _ _ _).mono ?_;rintro e w' ⟨rfl,rfl⟩;go_wp2;go_ret;exact ⟨rfl,rfl⟩
theorem Vs (w:World) (A X S Pc:Int) (Z N C I:Bool):Calls Tryz.prog 51 #[.agg (cR A X S Pc Z N C I)] w
    fun e w'=>e=.returned (.bool (It A X S Pc))∧Below w.heap.size w w':=by
  unfold It
  go_enter Tryz.func51,Tryz.ntmps51
  generalize hA:Cs A 0 255=bA;generalize hX:Cs X 0 255=bX;generalize hS:Cs S 0 255=bS;generalize hP:Cs Pc 0 65535=bP
  have L0:∀ o,Below w.heap.size w (w.alloc o):=fun o=>(Below.refl _ _).alloc (Nat.le_refl _) _
  cases bA <;> cases bX <;> cases bS <;> cases bP <;>
    (go_wp2_with (first | (go_at_call 54; refine (Ha _ _).mono ?_; rintro e w' ⟨rfl,rfl⟩; first | rw [hA] | rw [hX] | rw [hS]) | (go_at_call 55; refine (Gj _ _ _ _).mono ?_; rintro e w' ⟨rfl,rfl⟩; rw [hP]))
     go_ret
     exact ⟨rfl,L0 _⟩)
theorem Vt (w:World) (A X S Pc:Int) (Z N C I:Bool):Calls Tryz.prog 109 #[.agg (cR A X S Pc Z N C I)] w
    fun e w'=>e=.returned (.i (flagsOf Z N C I))∧Below w.heap.size w w':=by
  have hz:0≤Av Z∧Av Z≤1:=by cases Z <;> decide
  have hn:0≤Av N∧Av N≤1:=by cases N <;> decide
  have hc:0≤Av C∧Av C≤1:=by cases C <;> decide
  have hi:0≤Av I∧Av I≤1:=by cases I <;> decide
  unfold flagsOf
  have L0:∀ o n,Below w.heap.size w ((w.alloc o).drewN n):=fun o n=>((Below.refl _ _).alloc (Nat.le_refl _) _).trans ⟨rfl,rfl,rfl,Nat.le_refl _,fun _ _=>rfl⟩
  go_enter Tryz.func109,Tryz.ntmps109
  go_wp2_with fail
  go_quiet ((go_at_call 145; exact Calls.quiet_of (Yk (Qr _ _))))
  go_wp2;go_ret;exact ⟨rfl,L0 _ _⟩
theorem No (w:World) (A X S Pc:Int) (Z N C I:Bool) (v:Int):Calls Tryz.prog 130 #[.agg (cR A X S Pc Z N C I),.i v] w
    fun e w'=>e=.returned (.agg (cR A X S Pc (hasB v 2) (hasB v 128) (hasB v 1) (hasB v 4)))∧Below w.heap.size w w':=by
  have h1:(bits .and .i64 v 1 != 0)=hasB v 1:=Kx v 1 (by omega);have h2:(bits .and .i64 v 2 != 0)=hasB v 2:=Kx v 2 (by omega);have h4:(bits .and .i64 v 4 != 0)=hasB v 4:=Kx v 4 (by omega);have h8:(bits .and .i64 v 128 != 0)=hasB v 128:=Kx v 128 (by omega)
  go_enter Tryz.func130,Tryz.ntmps130
  go_wp2;refine bodyPost_ret (v:=.agg (cR A X S Pc (hasB v 2) (hasB v 128) (hasB v 1) (hasB v 4))) (by simp [results,Tryz.results130,go_sem]) rfl ?_;exact ⟨rfl,((Below.refl _ _).alloc (Nat.le_refl _) _).alloc (by simp) _⟩
theorem Yl (w:World) (A X S Pc:Int) (Z N C I:Bool) (v:Int):Calls Tryz.prog 129 #[.agg (cR A X S Pc Z N C I),.i v] w
    fun e w'=>e=.returned (.agg (cR (v%256) X S Pc (v%256==0) (decide (127<v%256)) C I))∧Below w.heap.size w w':=by
  go_enter Tryz.func129,Tryz.ntmps129
  go_wp2_with (first | (go_at_call 116; refine (Bs _ _).mono ?_; rintro e w' ⟨rfl,rfl⟩) | (go_at_call 149; refine (J7 _ _).mono ?_; rintro e w' ⟨rfl,rfl⟩));refine bodyPost_ret (v:=.agg (cR (v%256) X S Pc (v%256==0) (decide (127<v%256)) C I)) (by simp [results,Tryz.results129,go_sem]) rfl ?_;exact ⟨rfl,((Below.refl _ _).alloc (Nat.le_refl _) _).alloc (by simp) _⟩
theorem Ym (w:World) (A X S Pc:Int) (Z N C I:Bool) (v:Int):Calls Tryz.prog 150 #[.agg (cR A X S Pc Z N C I),.i v] w
    fun e w'=>e=.returned (.agg (cR A (v%256) S Pc (v%256==0) (decide (127<v%256)) C I))∧Below w.heap.size w w':=by
  go_enter Tryz.func150,Tryz.ntmps150
  go_wp2_with (first | (go_at_call 116; refine (Bs _ _).mono ?_; rintro e w' ⟨rfl,rfl⟩) | (go_at_call 149; refine (J7 _ _).mono ?_; rintro e w' ⟨rfl,rfl⟩));refine bodyPost_ret (v:=.agg (cR A (v%256) S Pc (v%256==0) (decide (127<v%256)) C I)) (by simp [results,Tryz.results150,go_sem]) rfl ?_;exact ⟨rfl,((Below.refl _ _).alloc (Nat.le_refl _) _).alloc (by simp) _⟩
theorem Jbx (w:World) (d:Nat) (v0 v1 v2 v3 v4 v5 v6 v7:Value):Below d w ((((((((w.setCell ⟨d,0,none⟩ v0).setCell ⟨d,1,none⟩ v1).setCell ⟨d,2,none⟩ v2).setCell ⟨d,3,none⟩ v3).setCell ⟨d,4,none⟩ v4).setCell ⟨d,5,none⟩ v5).setCell ⟨d,6,none⟩ v6).setCell ⟨d,7,none⟩ v7) :=
 ((((((((Below.refl d w).setCell (Nat.le_refl _) _).setCell (Nat.le_refl _) _).setCell (Nat.le_refl _) _).setCell (Nat.le_refl _) _).setCell (Nat.le_refl _) _).setCell (Nat.le_refl _) _).setCell (Nat.le_refl _) _).setCell (Nat.le_refl _) _
theorem Jai (W:World) (A X S Pc A' X' S' Pc':Int) (Z N C I:Bool):(binOp .eql 43 (.agg (cR A' X' S' Pc' Z N C I)) (.agg (cR A X S Pc Z N C I))).run Tryz.prog W=.ok (.bool (A'==A && (X'==X && (S'==S && Pc'==Pc)))) W:=by
 obtain ⟨fs,hfs,hf⟩:∃ fs,Tryz.prog.underlying 43=some (.struct fs)∧Tryz.prog.fieldsOf 43=fs:=⟨_,Tryz.underlying43,by unfold Program.fieldsOf; rw [Tryz.underlying43]⟩
 have hu':Tryz.prog.underlying 43=some (.struct (Tryz.prog.fieldsOf 43)):=by rw [hf,hfs]
 rw [run_eql_struct,show (10000:Nat)=9999+1 from rfl,run_equalIn_agg W 9999 43 _ _ hu' (by kernel_rfl),hf];obtain rfl:=TypeDesc.struct.inj (Option.some.inj (hfs.symm.trans Tryz.underlying43))
 cases hA:A'==A <;> cases hX:X'==X <;> cases hS:S'==S <;> cases hP:Pc'==Pc <;> simp [Op.eqFields,go_sem,Tryz.underlying3,Tryz.underlying4,hA,hX,hS,hP]
theorem Jby (A X S Pc:Int):(A%256==A && (X%256==X && (S%256==S && Pc%65536==Pc)))=It A X S Pc:=by
 have b:∀ x:Int,(x%256==x)=Cs x 0 255:=fun x=>by
  by_cases h:0≤x∧x≤255
  ·rw [Bn h]; exact beq_iff_eq.2 (by omega)
  ·rw [Cu h]; exact beq_eq_false_iff_ne.2 (by omega)
 have p:∀ x:Int,(x%65536==x)=Cs x 0 65535:=fun x=>by
  by_cases h:0≤x∧x≤65535
  ·rw [Bn h]; exact beq_iff_eq.2 (by omega)
  ·rw [Cu h]; exact beq_eq_false_iff_ne.2 (by omega)
 unfold It;rw [b,b,b,p];simp only [Bool.and_assoc]
def Q0 (f m:Int) (on:Bool):Int:=if on then bits .or .u8 f m else bits .andNot .u8 f m
def Hu (f m:Int):Bool:=bits .and .u8 f m != 0
def Jq (f o:Int):Int:=bits .or .u8 (bits .andNot .u8 f 130) (2*Av (o==0)+128*Av (decide (127<o)))
theorem Yn (Z N C I:Bool):Q0 (Q0 (Q0 (Q0 0 1 C) 2 Z) 4 I) 128 N=flagsOf Z N C I:=by
 cases Z <;> cases N <;> cases C <;> cases I <;> decide
theorem Yo (Z N C I:Bool) (o:Int):Hu (Jq (flagsOf Z N C I) o) 1=C:=by
 unfold Jq;generalize (o==0)=a;generalize decide (127<o)=b
 cases Z <;> cases N <;> cases C <;> cases I <;> cases a <;> cases b <;> decide
theorem Yp (Z N C I:Bool) (o:Int):Hu (Jq (flagsOf Z N C I) o) 4=I:=by
 unfold Jq;generalize (o==0)=a;generalize decide (127<o)=b
 cases Z <;> cases N <;> cases C <;> cases I <;> cases a <;> cases b <;> decide
theorem Yq (Z N C I:Bool) (o:Int):Hu (Jq (flagsOf Z N C I) o) 2=(o==0):=by
 unfold Jq;generalize (o==0)=a;generalize decide (127<o)=b
 cases Z <;> cases N <;> cases C <;> cases I <;> cases a <;> cases b <;> decide
theorem Yr (Z N C I:Bool) (o:Int):Hu (Jq (flagsOf Z N C I) o) 128=decide (127<o):=by
 unfold Jq;generalize (o==0)=a;generalize decide (127<o)=b
 cases Z <;> cases N <;> cases C <;> cases I <;> cases a <;> cases b <;> decide
theorem Vu (w:World) (f m:Int) (on:Bool):Calls Tryz.prog 220 #[.int .u8 f,.int .u8 m,.bool on] w fun e w'=>e=.returned (.int .u8 (Q0 f m on))∧w'=w:=by
 cases on <;> (go_enter Tryz.func220,Tryz.ntmps220; go_wp2; go_ret; exact ⟨rfl,rfl⟩)
theorem Vv (w:World) (f m:Int):Calls Tryz.prog 242 #[.int .u8 f,.int .u8 m] w fun e w'=>e=.returned (.bool (Hu f m))∧w'=w:=Jk f m w
theorem Jr (w:World) (f o:Int) (o0:0≤o) (o1:o<256):Calls Tryz.prog 239 #[.int .u8 f,.int .u8 o] w fun e w'=>e=.returned (.int .u8 (Jq f o))∧w'=w:=by
 go_enter Tryz.func239,Tryz.ntmps239
 go_wp2_with (go_at_call 244; refine (Qu _ _ o0 o1).mono ?_; rintro e w' ⟨rfl,rfl⟩);go_ret;exact ⟨rfl,rfl⟩
theorem Jaj (w:World) (x:Int):Calls Tryz.prog 246 #[.i x] w fun e w'=>e=.returned (.int .u8 (x%256))∧w'=w:=by
 go_enter Tryz.func246,Tryz.ntmps246
 go_wp2;go_ret;exact ⟨rfl,rfl⟩
theorem Pr (w:World) (A X S Pc:Int) (Z N C I:Bool):Calls Tryz.prog 178 #[.agg (cR A X S Pc Z N C I)] w
  fun e w'=>e=.returned (.agg #[.int .u8 (flagsOf Z N C I),.i A,.i X,.i S,.i Pc])∧Below w.heap.size w w':=by
 have e:=Ad (Yn Z N C I)
 go_enter Tryz.func178,Tryz.ntmps178
 go_wp2_with (go_at_call 220; refine (Vu _ _ _ _).mono ?_; rintro e w' ⟨rfl,rfl⟩);refine bodyPost_ret (v:=.agg #[.int .u8 (flagsOf Z N C I),.i A,.i X,.i S,.i Pc]) (by simp [results,Tryz.results178,go_sem,An e]) rfl ?_;exact ⟨rfl,(((Below.refl _ _).alloc (Nat.le_refl _) _).alloc (by simp) _).alloc (by simp; omega) _⟩
theorem Ps (w:World) (F A X S Pc:Int):Calls Tryz.prog 240 #[.agg #[.int .u8 (F),.i A,.i X,.i S,.i Pc]] w
  fun e w'=>e=.returned (.agg (cR A X S Pc (Hu F 2) (Hu F 128) (Hu F 1) (Hu F 4)))∧Below w.heap.size w w':=by
 go_enter Tryz.func240,Tryz.ntmps240
 go_wp2_with fail
 go_region_held3 (fun w'=>w'.cell? ⟨w.heap.size,0,none⟩=some (.int .u8 F)∧w'.cell? ⟨w.heap.size,1,none⟩=some (.i A)∧w'.cell? ⟨w.heap.size,2,none⟩=some (.i X)∧w'.cell? ⟨w.heap.size,3,none⟩=some (.i S)∧w'.cell? ⟨w.heap.size,4,none⟩=some (.i Pc)) (first | assumption | go_keep) ((go_at_call 242; refine (Vv _ _ _).mono ?_; rintro e w' ⟨rfl,rfl⟩))
 all_goals (go_wp2; refine bodyPost_ret (v:=.agg (cR A X S Pc (Hu F 2) (Hu F 128) (Hu F 1) (Hu F 4))) (by simp [results,Tryz.results240,go_sem]) rfl ?_)
 all_goals exact ⟨rfl,(((Below.refl _ _).alloc (Nat.le_refl _) _).alloc (by simp) _).drew⟩
theorem Vw (w:World) (A X S Pc:Int) (Z N C I:Bool):Calls Tryz.prog 66 #[.agg (cR A X S Pc Z N C I)] w
  fun e w'=>e=.returned (.bool (It A X S Pc))∧Below w.heap.size w w':=by
 have hq:=fun W=>Jai W A X S Pc (A%256) (X%256) (S%256) (Pc%65536) Z N C I
 have ho:=Ad (Jby A X S Pc)
 go_enter Tryz.func66,Tryz.ntmps66
 go_wp2_with fail
 go_region_held3 (fun w'=>w'.cell? ⟨w.heap.size,0,none⟩=some (.i A)∧w'.cell? ⟨w.heap.size,1,none⟩=some (.i X)∧w'.cell? ⟨w.heap.size,2,none⟩=some (.i S)∧w'.cell? ⟨w.heap.size,3,none⟩=some (.i Pc)) (first | assumption | go_keep) (first | (go_at_call 98; refine (Ck _ _).mono ?_; rintro e w' ⟨rfl,rfl⟩) | (go_at_call 99; refine (Gh _ _).mono ?_; rintro e w' ⟨rfl,rfl⟩))
 all_goals go_wp2
 all_goals go_ret
 all_goals exact ⟨Ap (An ho),(((Below.refl _ _).alloc (Nat.le_refl _) _).alloc (by simp) _).drew⟩
theorem Vx (w:World) (A X S Pc:Int) (Z N C I:Bool):Calls Tryz.prog 153 #[.agg (cR A X S Pc Z N C I)] w
  fun e w'=>e=.returned (.i (flagsOf Z N C I))∧Below w.heap.size w w':=by
 go_enter Tryz.func153,Tryz.ntmps153
 go_wp2_with fail;refine (Pr _ A X S Pc Z N C I).mono ?_;rintro e w1 ⟨rfl,L1⟩
 have b0:0≤flagsOf Z N C I∧flagsOf Z N C I<256:=by cases Z <;> cases N <;> cases C <;> cases I <;> decide
 generalize hF:flagsOf Z N C I=F at *
 have hf:∀ W,(Instr.field 173 (.agg #[.int .u8 F,.i A,.i X,.i S,.i Pc]) 0).run Tryz.prog W=.ok (.int .u8 F) W:=fun W=>by kernel_rfl
 go_wp2;go_ret;exact ⟨Az hF.symm,Ae ((Below.refl _ _).alloc (Nat.le_refl _) _) L1⟩
theorem Er (w:World) (A X S Pc:Int) (Z N C I:Bool) (v:Int):Calls Tryz.prog 228 #[.agg (cR A X S Pc Z N C I),.i v] w
  fun e w'=>e=.returned (.agg (cR (v%256) X S Pc (v%256==0) (decide (127<v%256)) C I))∧Below w.heap.size w w':=by
 have e1:=Ad (Yo Z N C I (v%256));have e2:=Ad (Yq Z N C I (v%256));have e4:=Ad (Yp Z N C I (v%256));have e8:=Ad (Yr Z N C I (v%256))
 go_enter Tryz.func228,Tryz.ntmps228
 go_wp2_with fail;refine (Pr _ A X S Pc Z N C I).mono ?_;rintro e w1 ⟨rfl,L1⟩;have K1:=Aa (Al (w.alloc _) _ _) L1 (by simp);have M1:=((((Below.refl _ _).alloc (Nat.le_refl _) _).alloc (by simp) _)).trans (L1.mono (by simp; omega));simp only [World.size_alloc] at K1;generalize flagsOf Z N C I=F at *;clear L1;go_wp2_with (first | (go_at_call 98; refine (Ck _ _).mono ?_; rintro e w' ⟨rfl,rfl⟩) | (go_at_call 239; refine (Jr _ _ _ (by omega) (by omega)).mono ?_; rintro e w' ⟨rfl,rfl⟩));refine (Ps _ _ _ _ _ _).mono ?_;rintro e w2 ⟨rfl,L2⟩;have K2:=Aa (Ax K1 _) L2 (by have:=Ac K1; simp; omega);have c2:=Ag K2;have f2:=As K2;rw [An e1,An e2,An e4,An e8];go_wp2;refine bodyPost_ret (v:=.agg (cR (v%256) X S Pc (v%256==0) (decide (127<v%256)) C I)) (by simp [results,Tryz.results228,go_sem,c2]) rfl ?_
 exact ⟨rfl,(M1.trans ((((Below.refl _ _).alloc (Nat.le_refl _) _).trans (L2.mono (by simp))).mono M1.size)).trans ((Jbx w2 _ _ _ _ _ _ _ _ _).mono (by omega))⟩
theorem Ll (w:World) (A X S Pc:Int) (Z N C I:Bool) (v:Int):Calls Tryz.prog 233 #[.agg (cR A X S Pc Z N C I),.i v] w
  fun e w'=>e=.returned (.agg (cR A (v%256) S Pc (v%256==0) (decide (127<v%256)) C I))∧Below w.heap.size w w':=by
 have e1:=Ad (Yo Z N C I (v%256));have e2:=Ad (Yq Z N C I (v%256));have e4:=Ad (Yp Z N C I (v%256));have e8:=Ad (Yr Z N C I (v%256))
 go_enter Tryz.func233,Tryz.ntmps233
 go_wp2_with fail;refine (Pr _ A X S Pc Z N C I).mono ?_;rintro e w1 ⟨rfl,L1⟩;have K1:=Aa (Al (w.alloc _) _ _) L1 (by simp);have M1:=((((Below.refl _ _).alloc (Nat.le_refl _) _).alloc (by simp) _)).trans (L1.mono (by simp; omega));simp only [World.size_alloc] at K1;generalize flagsOf Z N C I=F at *;clear L1;go_wp2_with (first | (go_at_call 98; refine (Ck _ _).mono ?_; rintro e w' ⟨rfl,rfl⟩) | (go_at_call 239; refine (Jr _ _ _ (by omega) (by omega)).mono ?_; rintro e w' ⟨rfl,rfl⟩));refine (Ps _ _ _ _ _ _).mono ?_;rintro e w2 ⟨rfl,L2⟩;have K2:=Aa (Ax K1 _) L2 (by have:=Ac K1; simp; omega);have c2:=Ag K2;have f2:=As K2;rw [An e1,An e2,An e4,An e8];go_wp2;refine bodyPost_ret (v:=.agg (cR A (v%256) S Pc (v%256==0) (decide (127<v%256)) C I)) (by simp [results,Tryz.results233,go_sem,c2]) rfl ?_
 exact ⟨rfl,(M1.trans ((((Below.refl _ _).alloc (Nat.le_refl _) _).trans (L2.mono (by simp))).mono M1.size)).trans ((Jbx w2 _ _ _ _ _ _ _ _ _).mono (by omega))⟩
theorem Np (w:World) (A X S Pc:Int) (Z N C I:Bool) (v:Int):Calls Tryz.prog 236 #[.agg (cR A X S Pc Z N C I),.i v] w
  fun e w'=>e=.returned (.agg (cR A X S Pc (hasB v 2) (hasB v 128) (hasB v 1) (hasB v 4)))∧Below w.heap.size w w':=by
 have e1:Hid (Hu (v%256) 1=hasB v 1):=Ad (Pq v 1 (by omega));have e2:Hid (Hu (v%256) 2=hasB v 2):=Ad (Pq v 2 (by omega));have e4:Hid (Hu (v%256) 4=hasB v 4):=Ad (Pq v 4 (by omega));have e8:Hid (Hu (v%256) 128=hasB v 128):=Ad (Pq v 128 (by omega))
 go_enter Tryz.func236,Tryz.ntmps236
 go_wp2_with fail;refine (Pr _ A X S Pc Z N C I).mono ?_;rintro e w1 ⟨rfl,L1⟩;have K1:=Aa (Al (w.alloc _) _ _) L1 (by simp);have M1:=((((Below.refl _ _).alloc (Nat.le_refl _) _).alloc (by simp) _)).trans (L1.mono (by simp; omega));simp only [World.size_alloc] at K1;clear L1;go_wp2_with (go_at_call 246; refine (Jaj _ _).mono ?_; rintro e w' ⟨rfl,rfl⟩);refine (Ps _ _ _ _ _ _).mono ?_;rintro e w2 ⟨rfl,L2⟩;have K2:=Aa (Ax K1 _) L2 (by have:=Ac K1; simp; omega);have c2:=Ag K2;have f2:=As K2;rw [An e1,An e2,An e4,An e8];go_wp2;refine bodyPost_ret (v:=.agg (cR A X S Pc (hasB v 2) (hasB v 128) (hasB v 1) (hasB v 4))) (by simp [results,Tryz.results236,go_sem,c2]) rfl ?_
 exact ⟨rfl,(M1.trans ((((Below.refl _ _).alloc (Nat.le_refl _) _).trans (L2.mono (by simp))).mono M1.size)).trans ((Jbx w2 _ _ _ _ _ _ _ _ _).mono (by omega))⟩
end Go.Proofs.YtgcmimcalmjaaaaGreatDoor
