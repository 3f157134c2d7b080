import Derived.Test.YtgcmimcalmjaaaaGreatDoorWB
import Derived.Test.YtgcmimcalmjaaaaGreatDoorKIb
import Derived.Test.YtgcmimcalmjaaaaGreatDoorKR
import Derived.Test.YtgcmimcalmjaaaaGreatDoorPI
import Derived.Test.YtgcmimcalmjaaaaGreatDoorI6d
namespace Go.Proofs.YtgcmimcalmjaaaaGreatDoor
set_option maxHeartbeats 4000000
set_option maxRecDepth 8000
set_option linter.unusedVariables false
set_option linter.unusedSimpArgs false
open Go.ChangeShapes Go.WideShapes Go.ChangeAt Go.RowKit
def Zp:List Nat:=[191,192,193,191,194,195,196,197,198,199,200,201,202,203,193,191,204,205,206,207,208,209,210,211,212,154,213,214,215,216]
def Gd (op:Int):Nat:=if 0≤op∧op≤29 then Zp.getD op.toNat 191 else 191
theorem Xo:(Tryz.prog.info? 189).map (·.size)=some 30:=by kernel_rfl
def deedVs:Array Value:=(Zp.map fun f=>Value.func (.func f) #[] #[]).toArray
theorem Xp:(#[.func (.func 191) #[] #[],.func (.func 192) #[] #[],.func (.func 193) #[] #[],.func (.func 191) #[] #[],.func (.func 194) #[] #[],.func (.func 195) #[] #[],.func (.func 196) #[] #[],.func (.func 197) #[] #[],.func (.func 198) #[] #[],.func (.func 199) #[] #[],.func (.func 200) #[] #[],.func (.func 201) #[] #[],.func (.func 202) #[] #[],.func (.func 203) #[] #[],.func (.func 193) #[] #[],.func (.func 191) #[] #[],.func (.func 204) #[] #[],.func (.func 205) #[] #[],.func (.func 206) #[] #[],.func (.func 207) #[] #[],.func (.func 208) #[] #[],.func (.func 209) #[] #[],.func (.func 210) #[] #[],.func (.func 211) #[] #[],.func (.func 212) #[] #[],.func (.func 154) #[] #[],.func (.func 213) #[] #[],.func (.func 214) #[] #[],.func (.func 215) #[] #[],.func (.func 216) #[] #[]]:Array Value)=deedVs:=rfl
theorem Xq (n:Nat) (hn:n<30):deedVs[n]?=some (.func (.func (Gd n)) #[] #[]):=by
 have hl:n<Zp.length:=hn;unfold deedVs Gd;rw [if_pos (by omega),Int.toNat_natCast,List.getElem?_toArray,List.getElem?_map,List.getD_eq_getElem?_getD,List.getElem?_eq_getElem hl]
 rfl
theorem Jco (w:World) (op:Int):Calls Tryz.prog 169 #[.i op] w fun e w'=>e=.returned (.func (.func (Gd op)) #[] #[])∧Below w.heap.size w w':=by
 obtain ⟨fv,hfv⟩:∃ x,Hid (x=Value.func (.func (Gd op)) #[] #[]):=⟨_,rfl⟩
 rw [← hfv.out]
 go_enter Tryz.func169,Tryz.ntmps169
 go_upto_region 1 with (fail);rename_i K1 hK1;refine wp_region_lit ?_;refine wpList_plain rfl (fun K9 hK9=>?_);go_simp;refine hK9 _ _ ?_;clear hK9;refine wpList_plain rfl (fun K9 hK9=>?_);go_simp;refine hK9 _ _ ?_;clear hK9;rw [Xp];have LA:=(Below.refl w.heap.size w).alloc (Nat.le_refl _) (.cells #[.nilFunc,.nilFunc,.nilFunc,.nilFunc,.nilFunc,.nilFunc,.nilFunc,.nilFunc,.nilFunc,.nilFunc,.nilFunc,.nilFunc,.nilFunc,.nilFunc,.nilFunc,.nilFunc,.nilFunc,.nilFunc,.nilFunc,.nilFunc,.nilFunc,.nilFunc,.nilFunc,.nilFunc,.nilFunc,.nilFunc,.nilFunc,.nilFunc,.nilFunc,.nilFunc] 189)
 have kA:=Al w #[.nilFunc,.nilFunc,.nilFunc,.nilFunc,.nilFunc,.nilFunc,.nilFunc,.nilFunc,.nilFunc,.nilFunc,.nilFunc,.nilFunc,.nilFunc,.nilFunc,.nilFunc,.nilFunc,.nilFunc,.nilFunc,.nilFunc,.nilFunc,.nilFunc,.nilFunc,.nilFunc,.nilFunc,.nilFunc,.nilFunc,.nilFunc,.nilFunc,.nilFunc,.nilFunc] 189;refine wpList_store_row rfl _ _ _ rfl (w.heap.size) deedVs rfl rfl _ _ kA Xo rfl (by first | kernel_rfl | simp [Value.oneCell']) ?_;have TT:=Bm kA deedVs;have C0:=LA.trans (TT.below LA.size (fun b o hb (h:b=_)=>by omega));have kF:=setRow_heap _ _ _ deedVs _ _ kA;clear LA TT kA
 generalize (w.alloc (.cells #[.nilFunc,.nilFunc,.nilFunc,.nilFunc,.nilFunc,.nilFunc,.nilFunc,.nilFunc,.nilFunc,.nilFunc,.nilFunc,.nilFunc,.nilFunc,.nilFunc,.nilFunc,.nilFunc,.nilFunc,.nilFunc,.nilFunc,.nilFunc,.nilFunc,.nilFunc,.nilFunc,.nilFunc,.nilFunc,.nilFunc,.nilFunc,.nilFunc,.nilFunc,.nilFunc] 189)).setRow w.heap.size deedVs=W1 at *;refine hK1 _ _ ?_;clear hK1;have cc:=Ag kF
 by_cases h:0≤op∧op≤29
 ·obtain ⟨n,rfl⟩:∃ n:Nat,op=n:=⟨op.toNat,by omega⟩
  have hn:n<30:=by omega
  have hcell:W1.cell? ⟨w.heap.size,n,none⟩=some (.func (.func (Gd n)) #[] #[]):=(cc n).trans (Xq n hn);rw [← hfv.out] at hcell;clear cc;go_wp2;go_ret;exact ⟨rfl,C0⟩
 ·have hF:Gd op=191:=by unfold Gd; rw [if_neg h]
  have hv:fv=.func (.func 191) #[] #[]:=by rw [hfv.out,hF]
  subst hv;clear cc hfv
  have h':op<0∨30≤op:=by omega
  rcases h' with h' | h'
  ·go_wp2
   go_ret;exact ⟨rfl,C0⟩
  ·have h2:0≤op:=by omega
   go_wp2;go_ret;exact ⟨rfl,C0⟩
theorem Xr (op:Int) (args:Array Value) (w:World):(callFunc (Gd op) args).run Tryz.prog w=.ok (.enter (Gd op) args) w:=by
 by_cases h:0≤op∧op≤29
 ·obtain ⟨n,rfl⟩:∃ n:Nat,op=n:=⟨op.toNat,by omega⟩
  have hn:n<30:=by omega
  match n,hn with
  | 0,_=>show (callFunc 191 args).run Tryz.prog w=.ok (.enter 191 args) w; kernel_rfl
  | 1,_=>show (callFunc 192 args).run Tryz.prog w=.ok (.enter 192 args) w; kernel_rfl
  | 2,_=>show (callFunc 193 args).run Tryz.prog w=.ok (.enter 193 args) w; kernel_rfl
  | 3,_=>show (callFunc 191 args).run Tryz.prog w=.ok (.enter 191 args) w; kernel_rfl
  | 4,_=>show (callFunc 194 args).run Tryz.prog w=.ok (.enter 194 args) w; kernel_rfl
  | 5,_=>show (callFunc 195 args).run Tryz.prog w=.ok (.enter 195 args) w; kernel_rfl
  | 6,_=>show (callFunc 196 args).run Tryz.prog w=.ok (.enter 196 args) w; kernel_rfl
  | 7,_=>show (callFunc 197 args).run Tryz.prog w=.ok (.enter 197 args) w; kernel_rfl
  | 8,_=>show (callFunc 198 args).run Tryz.prog w=.ok (.enter 198 args) w; kernel_rfl
  | 9,_=>show (callFunc 199 args).run Tryz.prog w=.ok (.enter 199 args) w; kernel_rfl
  | 10,_=>show (callFunc 200 args).run Tryz.prog w=.ok (.enter 200 args) w; kernel_rfl
  | 11,_=>show (callFunc 201 args).run Tryz.prog w=.ok (.enter 201 args) w; kernel_rfl
  | 12,_=>show (callFunc 202 args).run Tryz.prog w=.ok (.enter 202 args) w; kernel_rfl
  | 13,_=>show (callFunc 203 args).run Tryz.prog w=.ok (.enter 203 args) w; kernel_rfl
  | 14,_=>show (callFunc 193 args).run Tryz.prog w=.ok (.enter 193 args) w; kernel_rfl
  | 15,_=>show (callFunc 191 args).run Tryz.prog w=.ok (.enter 191 args) w; kernel_rfl
  | 16,_=>show (callFunc 204 args).run Tryz.prog w=.ok (.enter 204 args) w; kernel_rfl
  | 17,_=>show (callFunc 205 args).run Tryz.prog w=.ok (.enter 205 args) w; kernel_rfl
  | 18,_=>show (callFunc 206 args).run Tryz.prog w=.ok (.enter 206 args) w; kernel_rfl
  | 19,_=>show (callFunc 207 args).run Tryz.prog w=.ok (.enter 207 args) w; kernel_rfl
  | 20,_=>show (callFunc 208 args).run Tryz.prog w=.ok (.enter 208 args) w; kernel_rfl
  | 21,_=>show (callFunc 209 args).run Tryz.prog w=.ok (.enter 209 args) w; kernel_rfl
  | 22,_=>show (callFunc 210 args).run Tryz.prog w=.ok (.enter 210 args) w; kernel_rfl
  | 23,_=>show (callFunc 211 args).run Tryz.prog w=.ok (.enter 211 args) w; kernel_rfl
  | 24,_=>show (callFunc 212 args).run Tryz.prog w=.ok (.enter 212 args) w; kernel_rfl
  | 25,_=>show (callFunc 154 args).run Tryz.prog w=.ok (.enter 154 args) w; kernel_rfl
  | 26,_=>show (callFunc 213 args).run Tryz.prog w=.ok (.enter 213 args) w; kernel_rfl
  | 27,_=>show (callFunc 214 args).run Tryz.prog w=.ok (.enter 214 args) w; kernel_rfl
  | 28,_=>show (callFunc 215 args).run Tryz.prog w=.ok (.enter 215 args) w; kernel_rfl
  | 29,_=>show (callFunc 216 args).run Tryz.prog w=.ok (.enter 216 args) w; kernel_rfl
  | n+30,hn=>omega
 ·have hF:Gd op=191:=by unfold Gd; rw [if_neg h]
  rw [hF]
  show (callFunc 191 args).run Tryz.prog w=.ok (.enter 191 args) w
  kernel_rfl
set_option maxHeartbeats 1000000
theorem Ey (n:Int):IntKind.i64.wrap n%256=n%256:=by rw [IntKind.wrap_i64]; omega
theorem Fc (x:Int):(BitVec.ofInt 64 x).toNat%2 ^ 8=(BitVec.ofInt 64 (x%256)).toNat%2 ^ 8:=by
 rw [BitVec.toNat_ofInt,BitVec.toNat_ofInt]
 omega
theorem Zq (x y:Int):bits .and .i64 x y%256=bits .and .i64 (x%256) (y%256)%256:=by
 show IntKind.i64.wrap ((BitVec.ofInt 64 x &&& BitVec.ofInt 64 y).toNat:Nat)%256=IntKind.i64.wrap ((BitVec.ofInt 64 (x%256) &&& BitVec.ofInt 64 (y%256)).toNat:Nat)%256
 rw [Ey,Ey,BitVec.toNat_and,BitVec.toNat_and]
 have h:((BitVec.ofInt 64 x).toNat &&& (BitVec.ofInt 64 y).toNat)%2 ^ 8=((BitVec.ofInt 64 (x%256)).toNat &&& (BitVec.ofInt 64 (y%256)).toNat)%2 ^ 8:=by
  rw [Nat.and_mod_two_pow,Nat.and_mod_two_pow,Fc x,Fc y]
 omega
theorem Jbp (x y:Int):bits .or .i64 x y%256=bits .or .i64 (x%256) (y%256)%256:=by
 show IntKind.i64.wrap ((BitVec.ofInt 64 x ||| BitVec.ofInt 64 y).toNat:Nat)%256=IntKind.i64.wrap ((BitVec.ofInt 64 (x%256) ||| BitVec.ofInt 64 (y%256)).toNat:Nat)%256
 rw [Ey,Ey,BitVec.toNat_or,BitVec.toNat_or]
 have h:((BitVec.ofInt 64 x).toNat ||| (BitVec.ofInt 64 y).toNat)%2 ^ 8=((BitVec.ofInt 64 (x%256)).toNat ||| (BitVec.ofInt 64 (y%256)).toNat)%2 ^ 8:=by
  rw [Nat.or_mod_two_pow,Nat.or_mod_two_pow,Fc x,Fc y]
 omega
theorem Zr (x y:Int):bits .xor .i64 x y%256=bits .xor .i64 (x%256) (y%256)%256:=by
 show IntKind.i64.wrap ((BitVec.ofInt 64 x ^^^ BitVec.ofInt 64 y).toNat:Nat)%256=IntKind.i64.wrap ((BitVec.ofInt 64 (x%256) ^^^ BitVec.ofInt 64 (y%256)).toNat:Nat)%256
 rw [Ey,Ey,BitVec.toNat_xor,BitVec.toNat_xor]
 have h:((BitVec.ofInt 64 x).toNat ^^^ (BitVec.ofInt 64 y).toNat)%2 ^ 8=((BitVec.ofInt 64 (x%256)).toNat ^^^ (BitVec.ofInt 64 (y%256)).toNat)%2 ^ 8:=by
  rw [Nat.xor_mod_two_pow,Nat.xor_mod_two_pow,Fc x,Fc y]
 omega
def B5 (u:Value) (bank:Int) (c:A4) (arg rd:Int):Array Value:=(rR u bank c.A c.X c.S c.Pc c.Z c.N c.C c.I arg rd)
theorem A7 {w:World} {G:Nat→Nat→Prop} {u:Value} {g:Nat→Int} {z:Nat} {cs:Array Value} {T:TypeId} {fr:Nat × Nat} (K:Ints .i64 w G u 512 g) (k:w.heap[z]?=some (.cells cs T fr)) (hs:cs.size≤511):Ints .i64 w (fun b _=>b≠z) u 512 g:=by
 obtain ⟨a,cap,h1,h2,h3,h4⟩:=K;refine ⟨a,cap,h1,h2,h3,fun b o ⟨off,e1,e2,e3⟩ e=>?_⟩;obtain ⟨b',off',e4,e5⟩:=h3 511 (by omega);rw [e1] at e4
 obtain ⟨rfl,rfl⟩:b=b'∧off=off':=by simpa using e4
 subst e
 have e6:w.cell? ⟨b,off+511,none⟩=cs[off+511]?:=by unfold World.cell?; rw [k]; rfl
 rw [e6,Array.getElem?_eq_none (by omega)] at e5;cases e5
theorem Bd {w w':World} {lo:Nat} {u:Value} {g:Nat→Int} {z:Nat} {cs:Array Value} {T:TypeId} {fr:Nat × Nat} (O:Am w lo u 512 g) (k:w.heap[z]?=some (.cells cs T fr)) (hs:cs.size≤511) (hW:Wrote (fun b _=>b=z) w w'):Am w' lo u 512 g:=by
 obtain ⟨a,cap,hv,hn,hr,hF,hL⟩:=O.ex;obtain ⟨a',cap',hv',-,-,hO⟩:=A7 (Ex O) k hs;rw [hv] at hv'
 obtain ⟨rfl,rfl⟩:a=a'∧cap=cap':=by simpa using hv'
 exact ⟨⟨a,cap,hv,hn,hr.keep hW (fun b o hf e=>hO b o hf e),hF.keep hW,hL⟩⟩
theorem Gw {g:Nat→Int} (hb:isRow 512 g 512=true) (S:Int):D7 g S=De g S:=by
 have h1:=(Ls hb).2 (256+(Eb S).toNat) (by unfold Eb; omega);unfold D7 De;rw [show (256+(S+1)%256).toNat=256+(Eb S).toNat by unfold Eb; omega]
 omega
theorem O8 (w:World) (z:Nat) (u:Value) (bank:Int) (c:A4) (arg rd:Int) (G:Nat→Nat→Prop) (g:Nat→Int) (k:w.heap[z]?=some (.cells (B5 u bank c arg rd) 161 (0,0))) (K:Ints .i64 w G u 512 g) (hb:isRow 512 g 512=true) :
  Calls Tryz.prog 191 #[(pt z 0)] w fun e w'=>e=.returned (.tuple #[])∧∃ u',w'.heap[z]?=some (.cells (B5 u' bank (Cg g c 0 arg rd) arg rd) 161 (0,0))∧(∀ lo,lo≤w.heap.size→Am w lo u 512 g→Am w' lo u' 512 (Ch g c 0))∧Wrote (fun b _=>b=z) w w':=by
 obtain ⟨A,X,S,Pc,Z,N,C,I⟩:=c;have KZ:=A7 K k (by show (12:Nat)≤511; omega);refine (M8 w z u bank A X S Pc Z N C I arg rd k).mono ?_;rintro e w' ⟨rfl,kk,hW⟩;refine ⟨rfl,u,?_,fun lo hl O=>Bd O k (by show (12:Nat)≤511; omega) hW,hW⟩;exact kk
theorem Xs (w:World) (z:Nat) (u:Value) (bank:Int) (c:A4) (arg rd:Int) (G:Nat→Nat→Prop) (g:Nat→Int) (k:w.heap[z]?=some (.cells (B5 u bank c arg rd) 161 (0,0))) (K:Ints .i64 w G u 512 g) (hb:isRow 512 g 512=true) :
  Calls Tryz.prog 192 #[(pt z 0)] w fun e w'=>e=.returned (.tuple #[])∧∃ u',w'.heap[z]?=some (.cells (B5 u' bank (Cg g c 1 arg rd) arg rd) 161 (0,0))∧(∀ lo,lo≤w.heap.size→Am w lo u 512 g→Am w' lo u' 512 (Ch g c 1))∧Wrote (fun b _=>b=z) w w':=by
 obtain ⟨A,X,S,Pc,Z,N,C,I⟩:=c;have KZ:=A7 K k (by show (12:Nat)≤511; omega);refine (Ru w z u bank A X S Pc Z N C I arg rd k).mono ?_;rintro e w' ⟨rfl,kk,hW⟩;refine ⟨rfl,u,?_,fun lo hl O=>Bd O k (by show (12:Nat)≤511; omega) hW,hW⟩;exact kk
theorem Xt (w:World) (z:Nat) (u:Value) (bank:Int) (c:A4) (arg rd:Int) (G:Nat→Nat→Prop) (g:Nat→Int) (k:w.heap[z]?=some (.cells (B5 u bank c arg rd) 161 (0,0))) (K:Ints .i64 w G u 512 g) (hb:isRow 512 g 512=true) :
  Calls Tryz.prog 193 #[(pt z 0)] w fun e w'=>e=.returned (.tuple #[])∧∃ u',w'.heap[z]?=some (.cells (B5 u' bank (Cg g c 2 arg rd) arg rd) 161 (0,0))∧(∀ lo,lo≤w.heap.size→Am w lo u 512 g→Am w' lo u' 512 (Ch g c 2))∧Wrote (fun b _=>b=z) w w':=by
 obtain ⟨A,X,S,Pc,Z,N,C,I⟩:=c;have KZ:=A7 K k (by show (12:Nat)≤511; omega);refine (J1 w z u bank A X S Pc Z N C I arg rd k).mono ?_;rintro e w' ⟨rfl,kk,hW⟩;refine ⟨rfl,u,?_,fun lo hl O=>Bd O k (by show (12:Nat)≤511; omega) hW,hW⟩;exact kk
theorem Xu (w:World) (z:Nat) (u:Value) (bank:Int) (c:A4) (arg rd:Int) (G:Nat→Nat→Prop) (g:Nat→Int) (k:w.heap[z]?=some (.cells (B5 u bank c arg rd) 161 (0,0))) (K:Ints .i64 w G u 512 g) (hb:isRow 512 g 512=true) :
  Calls Tryz.prog 191 #[(pt z 0)] w fun e w'=>e=.returned (.tuple #[])∧∃ u',w'.heap[z]?=some (.cells (B5 u' bank (Cg g c 3 arg rd) arg rd) 161 (0,0))∧(∀ lo,lo≤w.heap.size→Am w lo u 512 g→Am w' lo u' 512 (Ch g c 3))∧Wrote (fun b _=>b=z) w w':=by
 obtain ⟨A,X,S,Pc,Z,N,C,I⟩:=c;have KZ:=A7 K k (by show (12:Nat)≤511; omega);refine (M8 w z u bank A X S Pc Z N C I arg rd k).mono ?_;rintro e w' ⟨rfl,kk,hW⟩;refine ⟨rfl,u,?_,fun lo hl O=>Bd O k (by show (12:Nat)≤511; omega) hW,hW⟩;exact kk
theorem Xv (w:World) (z:Nat) (u:Value) (bank:Int) (c:A4) (arg rd:Int) (G:Nat→Nat→Prop) (g:Nat→Int) (k:w.heap[z]?=some (.cells (B5 u bank c arg rd) 161 (0,0))) (K:Ints .i64 w G u 512 g) (hb:isRow 512 g 512=true) :
  Calls Tryz.prog 194 #[(pt z 0)] w fun e w'=>e=.returned (.tuple #[])∧∃ u',w'.heap[z]?=some (.cells (B5 u' bank (Cg g c 4 arg rd) arg rd) 161 (0,0))∧(∀ lo,lo≤w.heap.size→Am w lo u 512 g→Am w' lo u' 512 (Ch g c 4))∧Wrote (fun b _=>b=z) w w':=by
 obtain ⟨A,X,S,Pc,Z,N,C,I⟩:=c;have KZ:=A7 K k (by show (12:Nat)≤511; omega);refine (Tv w z u bank A X S Pc Z N C I arg rd k).mono ?_;rintro e w' ⟨rfl,kk,hW⟩;refine ⟨rfl,u,?_,fun lo hl O=>Bd O k (by show (12:Nat)≤511; omega) hW,hW⟩;exact kk
theorem Xw (w:World) (z:Nat) (u:Value) (bank:Int) (c:A4) (arg rd:Int) (G:Nat→Nat→Prop) (g:Nat→Int) (k:w.heap[z]?=some (.cells (B5 u bank c arg rd) 161 (0,0))) (K:Ints .i64 w G u 512 g) (hb:isRow 512 g 512=true) :
  Calls Tryz.prog 195 #[(pt z 0)] w fun e w'=>e=.returned (.tuple #[])∧∃ u',w'.heap[z]?=some (.cells (B5 u' bank (Cg g c 5 arg rd) arg rd) 161 (0,0))∧(∀ lo,lo≤w.heap.size→Am w lo u 512 g→Am w' lo u' 512 (Ch g c 5))∧Wrote (fun b _=>b=z) w w':=by
 obtain ⟨A,X,S,Pc,Z,N,C,I⟩:=c;have KZ:=A7 K k (by show (12:Nat)≤511; omega);refine (Rw w z u bank A X S Pc Z N C I arg rd k).mono ?_;rintro e w' ⟨rfl,kk,hW⟩;refine ⟨rfl,u,?_,fun lo hl O=>Bd O k (by show (12:Nat)≤511; omega) hW,hW⟩;exact kk
theorem Xx (w:World) (z:Nat) (u:Value) (bank:Int) (c:A4) (arg rd:Int) (G:Nat→Nat→Prop) (g:Nat→Int) (k:w.heap[z]?=some (.cells (B5 u bank c arg rd) 161 (0,0))) (K:Ints .i64 w G u 512 g) (hb:isRow 512 g 512=true) :
  Calls Tryz.prog 196 #[(pt z 0)] w fun e w'=>e=.returned (.tuple #[])∧∃ u',w'.heap[z]?=some (.cells (B5 u' bank (Cg g c 6 arg rd) arg rd) 161 (0,0))∧(∀ lo,lo≤w.heap.size→Am w lo u 512 g→Am w' lo u' 512 (Ch g c 6))∧Wrote (fun b _=>b=z) w w':=by
 obtain ⟨A,X,S,Pc,Z,N,C,I⟩:=c;have KZ:=A7 K k (by show (12:Nat)≤511; omega);refine (Mx w z u bank A X S Pc Z N C I arg rd k).mono ?_;rintro e w' ⟨rfl,kk,hW⟩;refine ⟨rfl,u,?_,fun lo hl O=>Bd O k (by show (12:Nat)≤511; omega) hW,hW⟩;rw [Zq A arg] at kk;exact kk
theorem Xy (w:World) (z:Nat) (u:Value) (bank:Int) (c:A4) (arg rd:Int) (G:Nat→Nat→Prop) (g:Nat→Int) (k:w.heap[z]?=some (.cells (B5 u bank c arg rd) 161 (0,0))) (K:Ints .i64 w G u 512 g) (hb:isRow 512 g 512=true) :
  Calls Tryz.prog 197 #[(pt z 0)] w fun e w'=>e=.returned (.tuple #[])∧∃ u',w'.heap[z]?=some (.cells (B5 u' bank (Cg g c 7 arg rd) arg rd) 161 (0,0))∧(∀ lo,lo≤w.heap.size→Am w lo u 512 g→Am w' lo u' 512 (Ch g c 7))∧Wrote (fun b _=>b=z) w w':=by
 obtain ⟨A,X,S,Pc,Z,N,C,I⟩:=c;have KZ:=A7 K k (by show (12:Nat)≤511; omega);refine (N1 w z u bank A X S Pc Z N C I arg rd k).mono ?_;rintro e w' ⟨rfl,kk,hW⟩;refine ⟨rfl,u,?_,fun lo hl O=>Bd O k (by show (12:Nat)≤511; omega) hW,hW⟩;rw [Jbp A arg] at kk;exact kk
theorem Xz (w:World) (z:Nat) (u:Value) (bank:Int) (c:A4) (arg rd:Int) (G:Nat→Nat→Prop) (g:Nat→Int) (k:w.heap[z]?=some (.cells (B5 u bank c arg rd) 161 (0,0))) (K:Ints .i64 w G u 512 g) (hb:isRow 512 g 512=true) :
  Calls Tryz.prog 198 #[(pt z 0)] w fun e w'=>e=.returned (.tuple #[])∧∃ u',w'.heap[z]?=some (.cells (B5 u' bank (Cg g c 8 arg rd) arg rd) 161 (0,0))∧(∀ lo,lo≤w.heap.size→Am w lo u 512 g→Am w' lo u' 512 (Ch g c 8))∧Wrote (fun b _=>b=z) w w':=by
 obtain ⟨A,X,S,Pc,Z,N,C,I⟩:=c;have KZ:=A7 K k (by show (12:Nat)≤511; omega);refine (J2 w z u bank A X S Pc Z N C I arg rd k).mono ?_;rintro e w' ⟨rfl,kk,hW⟩;refine ⟨rfl,u,?_,fun lo hl O=>Bd O k (by show (12:Nat)≤511; omega) hW,hW⟩;rw [Zr A arg] at kk;exact kk
theorem X0 (w:World) (z:Nat) (u:Value) (bank:Int) (c:A4) (arg rd:Int) (G:Nat→Nat→Prop) (g:Nat→Int) (k:w.heap[z]?=some (.cells (B5 u bank c arg rd) 161 (0,0))) (K:Ints .i64 w G u 512 g) (hb:isRow 512 g 512=true) :
  Calls Tryz.prog 199 #[(pt z 0)] w fun e w'=>e=.returned (.tuple #[])∧∃ u',w'.heap[z]?=some (.cells (B5 u' bank (Cg g c 9 arg rd) arg rd) 161 (0,0))∧(∀ lo,lo≤w.heap.size→Am w lo u 512 g→Am w' lo u' 512 (Ch g c 9))∧Wrote (fun b _=>b=z) w w':=by
 obtain ⟨A,X,S,Pc,Z,N,C,I⟩:=c;have KZ:=A7 K k (by show (12:Nat)≤511; omega);refine (Na w z u bank A X S Pc Z N C I arg rd k).mono ?_;rintro e w' ⟨rfl,kk,hW⟩;refine ⟨rfl,u,?_,fun lo hl O=>Bd O k (by show (12:Nat)≤511; omega) hW,hW⟩
 have e1:(A%256-arg%256-1+Av true)%256%256=(A%256-arg%256)%256:=by show (A%256-arg%256-1+1)%256%256=_; omega
 have e2:decide (0≤A%256-arg%256-1+Av true)=decide (arg%256≤A%256):=by show decide (0≤A%256-arg%256-1+1)=_; exact decide_eq_decide.2 (by omega)
 rw [e1,e2] at kk;exact kk
theorem Tw (w:World) (z:Nat) (u:Value) (bank:Int) (c:A4) (arg rd:Int) (G:Nat→Nat→Prop) (g:Nat→Int) (k:w.heap[z]?=some (.cells (B5 u bank c arg rd) 161 (0,0))) (K:Ints .i64 w G u 512 g) (hb:isRow 512 g 512=true) :
  Calls Tryz.prog 200 #[(pt z 0)] w fun e w'=>e=.returned (.tuple #[])∧∃ u',w'.heap[z]?=some (.cells (B5 u' bank (Cg g c 10 arg rd) arg rd) 161 (0,0))∧(∀ lo,lo≤w.heap.size→Am w lo u 512 g→Am w' lo u' 512 (Ch g c 10))∧Wrote (fun b _=>b=z) w w':=by
 obtain ⟨A,X,S,Pc,Z,N,C,I⟩:=c;have KZ:=A7 K k (by show (12:Nat)≤511; omega);refine (Qh w z u bank A X S Pc Z N C I arg rd k).mono ?_;rintro e w' ⟨rfl,kk,hW⟩;refine ⟨rfl,u,?_,fun lo hl O=>Bd O k (by show (12:Nat)≤511; omega) hW,hW⟩;exact kk
theorem Tx (w:World) (z:Nat) (u:Value) (bank:Int) (c:A4) (arg rd:Int) (G:Nat→Nat→Prop) (g:Nat→Int) (k:w.heap[z]?=some (.cells (B5 u bank c arg rd) 161 (0,0))) (K:Ints .i64 w G u 512 g) (hb:isRow 512 g 512=true) :
  Calls Tryz.prog 201 #[(pt z 0)] w fun e w'=>e=.returned (.tuple #[])∧∃ u',w'.heap[z]?=some (.cells (B5 u' bank (Cg g c 11 arg rd) arg rd) 161 (0,0))∧(∀ lo,lo≤w.heap.size→Am w lo u 512 g→Am w' lo u' 512 (Ch g c 11))∧Wrote (fun b _=>b=z) w w':=by
 obtain ⟨A,X,S,Pc,Z,N,C,I⟩:=c;have KZ:=A7 K k (by show (12:Nat)≤511; omega);refine (Qi w z u bank A X S Pc Z N C I arg rd k).mono ?_;rintro e w' ⟨rfl,kk,hW⟩;refine ⟨rfl,u,?_,fun lo hl O=>Bd O k (by show (12:Nat)≤511; omega) hW,hW⟩;exact kk
theorem Ty (w:World) (z:Nat) (u:Value) (bank:Int) (c:A4) (arg rd:Int) (G:Nat→Nat→Prop) (g:Nat→Int) (k:w.heap[z]?=some (.cells (B5 u bank c arg rd) 161 (0,0))) (K:Ints .i64 w G u 512 g) (hb:isRow 512 g 512=true) :
  Calls Tryz.prog 202 #[(pt z 0)] w fun e w'=>e=.returned (.tuple #[])∧∃ u',w'.heap[z]?=some (.cells (B5 u' bank (Cg g c 12 arg rd) arg rd) 161 (0,0))∧(∀ lo,lo≤w.heap.size→Am w lo u 512 g→Am w' lo u' 512 (Ch g c 12))∧Wrote (fun b _=>b=z) w w':=by
 obtain ⟨A,X,S,Pc,Z,N,C,I⟩:=c;have KZ:=A7 K k (by show (12:Nat)≤511; omega);refine (Qj w z u bank A X S Pc Z N C I arg rd k).mono ?_;rintro e w' ⟨rfl,kk,hW⟩;refine ⟨rfl,u,?_,fun lo hl O=>Bd O k (by show (12:Nat)≤511; omega) hW,hW⟩
 have e1:IntKind.i64.wrap (X+1)%256=(X%256+1)%256:=by rw [Ey]; omega
 rw [e1] at kk;exact kk
theorem Tz (w:World) (z:Nat) (u:Value) (bank:Int) (c:A4) (arg rd:Int) (G:Nat→Nat→Prop) (g:Nat→Int) (k:w.heap[z]?=some (.cells (B5 u bank c arg rd) 161 (0,0))) (K:Ints .i64 w G u 512 g) (hb:isRow 512 g 512=true) :
  Calls Tryz.prog 203 #[(pt z 0)] w fun e w'=>e=.returned (.tuple #[])∧∃ u',w'.heap[z]?=some (.cells (B5 u' bank (Cg g c 13 arg rd) arg rd) 161 (0,0))∧(∀ lo,lo≤w.heap.size→Am w lo u 512 g→Am w' lo u' 512 (Ch g c 13))∧Wrote (fun b _=>b=z) w w':=by
 obtain ⟨A,X,S,Pc,Z,N,C,I⟩:=c;have KZ:=A7 K k (by show (12:Nat)≤511; omega);refine (Qk w z u bank A X S Pc Z N C I arg rd k).mono ?_;rintro e w' ⟨rfl,kk,hW⟩;refine ⟨rfl,u,?_,fun lo hl O=>Bd O k (by show (12:Nat)≤511; omega) hW,hW⟩
 have e1:IntKind.i64.wrap (X-1)%256=(X%256-1)%256:=by rw [Ey]; omega
 rw [e1] at kk;exact kk
theorem T8 (w:World) (z:Nat) (u:Value) (bank:Int) (c:A4) (arg rd:Int) (G:Nat→Nat→Prop) (g:Nat→Int) (k:w.heap[z]?=some (.cells (B5 u bank c arg rd) 161 (0,0))) (K:Ints .i64 w G u 512 g) (hb:isRow 512 g 512=true) :
  Calls Tryz.prog 193 #[(pt z 0)] w fun e w'=>e=.returned (.tuple #[])∧∃ u',w'.heap[z]?=some (.cells (B5 u' bank (Cg g c 14 arg rd) arg rd) 161 (0,0))∧(∀ lo,lo≤w.heap.size→Am w lo u 512 g→Am w' lo u' 512 (Ch g c 14))∧Wrote (fun b _=>b=z) w w':=by
 obtain ⟨A,X,S,Pc,Z,N,C,I⟩:=c;have KZ:=A7 K k (by show (12:Nat)≤511; omega);refine (J1 w z u bank A X S Pc Z N C I arg rd k).mono ?_;rintro e w' ⟨rfl,kk,hW⟩;refine ⟨rfl,u,?_,fun lo hl O=>Bd O k (by show (12:Nat)≤511; omega) hW,hW⟩;exact kk
theorem T9 (w:World) (z:Nat) (u:Value) (bank:Int) (c:A4) (arg rd:Int) (G:Nat→Nat→Prop) (g:Nat→Int) (k:w.heap[z]?=some (.cells (B5 u bank c arg rd) 161 (0,0))) (K:Ints .i64 w G u 512 g) (hb:isRow 512 g 512=true) :
  Calls Tryz.prog 191 #[(pt z 0)] w fun e w'=>e=.returned (.tuple #[])∧∃ u',w'.heap[z]?=some (.cells (B5 u' bank (Cg g c 15 arg rd) arg rd) 161 (0,0))∧(∀ lo,lo≤w.heap.size→Am w lo u 512 g→Am w' lo u' 512 (Ch g c 15))∧Wrote (fun b _=>b=z) w w':=by
 obtain ⟨A,X,S,Pc,Z,N,C,I⟩:=c;have KZ:=A7 K k (by show (12:Nat)≤511; omega);refine (M8 w z u bank A X S Pc Z N C I arg rd k).mono ?_;rintro e w' ⟨rfl,kk,hW⟩;refine ⟨rfl,u,?_,fun lo hl O=>Bd O k (by show (12:Nat)≤511; omega) hW,hW⟩;exact kk
theorem Ua (w:World) (z:Nat) (u:Value) (bank:Int) (c:A4) (arg rd:Int) (G:Nat→Nat→Prop) (g:Nat→Int) (k:w.heap[z]?=some (.cells (B5 u bank c arg rd) 161 (0,0))) (K:Ints .i64 w G u 512 g) (hb:isRow 512 g 512=true) :
  Calls Tryz.prog 204 #[(pt z 0)] w fun e w'=>e=.returned (.tuple #[])∧∃ u',w'.heap[z]?=some (.cells (B5 u' bank (Cg g c 16 arg rd) arg rd) 161 (0,0))∧(∀ lo,lo≤w.heap.size→Am w lo u 512 g→Am w' lo u' 512 (Ch g c 16))∧Wrote (fun b _=>b=z) w w':=by
 obtain ⟨A,X,S,Pc,Z,N,C,I⟩:=c;have KZ:=A7 K k (by show (12:Nat)≤511; omega);refine (Kw w z u bank A X S Pc Z N C I arg rd k).mono ?_;rintro e w' ⟨rfl,kk,hW⟩;refine ⟨rfl,u,?_,fun lo hl O=>Bd O k (by show (12:Nat)≤511; omega) hW,hW⟩
 cases Z <;> exact kk
theorem Ub (w:World) (z:Nat) (u:Value) (bank:Int) (c:A4) (arg rd:Int) (G:Nat→Nat→Prop) (g:Nat→Int) (k:w.heap[z]?=some (.cells (B5 u bank c arg rd) 161 (0,0))) (K:Ints .i64 w G u 512 g) (hb:isRow 512 g 512=true) :
  Calls Tryz.prog 205 #[(pt z 0)] w fun e w'=>e=.returned (.tuple #[])∧∃ u',w'.heap[z]?=some (.cells (B5 u' bank (Cg g c 17 arg rd) arg rd) 161 (0,0))∧(∀ lo,lo≤w.heap.size→Am w lo u 512 g→Am w' lo u' 512 (Ch g c 17))∧Wrote (fun b _=>b=z) w w':=by
 obtain ⟨A,X,S,Pc,Z,N,C,I⟩:=c;have KZ:=A7 K k (by show (12:Nat)≤511; omega);refine (Qm w z u bank A X S Pc Z N C I arg rd k).mono ?_;rintro e w' ⟨rfl,kk,hW⟩;refine ⟨rfl,u,?_,fun lo hl O=>Bd O k (by show (12:Nat)≤511; omega) hW,hW⟩
 cases Z <;> exact kk
theorem Uc (w:World) (z:Nat) (u:Value) (bank:Int) (c:A4) (arg rd:Int) (G:Nat→Nat→Prop) (g:Nat→Int) (k:w.heap[z]?=some (.cells (B5 u bank c arg rd) 161 (0,0))) (K:Ints .i64 w G u 512 g) (hb:isRow 512 g 512=true) :
  Calls Tryz.prog 206 #[(pt z 0)] w fun e w'=>e=.returned (.tuple #[])∧∃ u',w'.heap[z]?=some (.cells (B5 u' bank (Cg g c 18 arg rd) arg rd) 161 (0,0))∧(∀ lo,lo≤w.heap.size→Am w lo u 512 g→Am w' lo u' 512 (Ch g c 18))∧Wrote (fun b _=>b=z) w w':=by
 obtain ⟨A,X,S,Pc,Z,N,C,I⟩:=c;have KZ:=A7 K k (by show (12:Nat)≤511; omega);refine (N3 w z u bank A X S Pc Z N C I arg rd k).mono ?_;rintro e w' ⟨rfl,kk,hW⟩;refine ⟨rfl,u,?_,fun lo hl O=>Bd O k (by show (12:Nat)≤511; omega) hW,hW⟩
 cases C <;> exact kk
theorem Ud (w:World) (z:Nat) (u:Value) (bank:Int) (c:A4) (arg rd:Int) (G:Nat→Nat→Prop) (g:Nat→Int) (k:w.heap[z]?=some (.cells (B5 u bank c arg rd) 161 (0,0))) (K:Ints .i64 w G u 512 g) (hb:isRow 512 g 512=true) :
  Calls Tryz.prog 207 #[(pt z 0)] w fun e w'=>e=.returned (.tuple #[])∧∃ u',w'.heap[z]?=some (.cells (B5 u' bank (Cg g c 19 arg rd) arg rd) 161 (0,0))∧(∀ lo,lo≤w.heap.size→Am w lo u 512 g→Am w' lo u' 512 (Ch g c 19))∧Wrote (fun b _=>b=z) w w':=by
 obtain ⟨A,X,S,Pc,Z,N,C,I⟩:=c;have KZ:=A7 K k (by show (12:Nat)≤511; omega);refine (Mz w z u bank A X S Pc Z N C I arg rd k).mono ?_;rintro e w' ⟨rfl,kk,hW⟩;refine ⟨rfl,u,?_,fun lo hl O=>Bd O k (by show (12:Nat)≤511; omega) hW,hW⟩;exact kk
theorem Ue (w:World) (z:Nat) (u:Value) (bank:Int) (c:A4) (arg rd:Int) (G:Nat→Nat→Prop) (g:Nat→Int) (k:w.heap[z]?=some (.cells (B5 u bank c arg rd) 161 (0,0))) (K:Ints .i64 w G u 512 g) (hb:isRow 512 g 512=true) :
  Calls Tryz.prog 208 #[(pt z 0)] w fun e w'=>e=.returned (.tuple #[])∧∃ u',w'.heap[z]?=some (.cells (B5 u' bank (Cg g c 20 arg rd) arg rd) 161 (0,0))∧(∀ lo,lo≤w.heap.size→Am w lo u 512 g→Am w' lo u' 512 (Ch g c 20))∧Wrote (fun b _=>b=z) w w':=by
 obtain ⟨A,X,S,Pc,Z,N,C,I⟩:=c;have KZ:=A7 K k (by show (12:Nat)≤511; omega);refine (Zo w z u bank A X S Pc Z N C I arg rd G g k K hb).mono ?_;rintro e w' ⟨rfl,u',kk,O,hW⟩;exact ⟨rfl,u',kk,fun lo hl _=>Dl O hl,hW⟩
theorem Uf (w:World) (z:Nat) (u:Value) (bank:Int) (c:A4) (arg rd:Int) (G:Nat→Nat→Prop) (g:Nat→Int) (k:w.heap[z]?=some (.cells (B5 u bank c arg rd) 161 (0,0))) (K:Ints .i64 w G u 512 g) (hb:isRow 512 g 512=true) :
  Calls Tryz.prog 209 #[(pt z 0)] w fun e w'=>e=.returned (.tuple #[])∧∃ u',w'.heap[z]?=some (.cells (B5 u' bank (Cg g c 21 arg rd) arg rd) 161 (0,0))∧(∀ lo,lo≤w.heap.size→Am w lo u 512 g→Am w' lo u' 512 (Ch g c 21))∧Wrote (fun b _=>b=z) w w':=by
 obtain ⟨A,X,S,Pc,Z,N,C,I⟩:=c;have KZ:=A7 K k (by show (12:Nat)≤511; omega);refine (J5 w z u bank A X S Pc Z N C I arg rd _ g k KZ hb (fun b o h=>h)).mono ?_;rintro e w' ⟨rfl,kk,hW⟩;refine ⟨rfl,u,?_,fun lo hl O=>Bd O k (by show (12:Nat)≤511; omega) hW,hW⟩;rw [Gw hb,Gw hb] at kk;exact kk
theorem Ug (w:World) (z:Nat) (u:Value) (bank:Int) (c:A4) (arg rd:Int) (G:Nat→Nat→Prop) (g:Nat→Int) (k:w.heap[z]?=some (.cells (B5 u bank c arg rd) 161 (0,0))) (K:Ints .i64 w G u 512 g) (hb:isRow 512 g 512=true) :
  Calls Tryz.prog 210 #[(pt z 0)] w fun e w'=>e=.returned (.tuple #[])∧∃ u',w'.heap[z]?=some (.cells (B5 u' bank (Cg g c 22 arg rd) arg rd) 161 (0,0))∧(∀ lo,lo≤w.heap.size→Am w lo u 512 g→Am w' lo u' 512 (Ch g c 22))∧Wrote (fun b _=>b=z) w w':=by
 obtain ⟨A,X,S,Pc,Z,N,C,I⟩:=c;have KZ:=A7 K k (by show (12:Nat)≤511; omega);refine (Xl w z u bank A X S Pc Z N C I arg rd G g k K hb).mono ?_;rintro e w' ⟨rfl,u',kk,O,hW⟩;exact ⟨rfl,u',kk,fun lo hl _=>Dl O hl,hW⟩
theorem Uh (w:World) (z:Nat) (u:Value) (bank:Int) (c:A4) (arg rd:Int) (G:Nat→Nat→Prop) (g:Nat→Int) (k:w.heap[z]?=some (.cells (B5 u bank c arg rd) 161 (0,0))) (K:Ints .i64 w G u 512 g) (hb:isRow 512 g 512=true) :
  Calls Tryz.prog 211 #[(pt z 0)] w fun e w'=>e=.returned (.tuple #[])∧∃ u',w'.heap[z]?=some (.cells (B5 u' bank (Cg g c 23 arg rd) arg rd) 161 (0,0))∧(∀ lo,lo≤w.heap.size→Am w lo u 512 g→Am w' lo u' 512 (Ch g c 23))∧Wrote (fun b _=>b=z) w w':=by
 obtain ⟨A,X,S,Pc,Z,N,C,I⟩:=c;have KZ:=A7 K k (by show (12:Nat)≤511; omega);refine (Xm w z u bank A X S Pc Z N C I arg rd _ g k KZ hb).mono ?_;rintro e w' ⟨rfl,kk,hW⟩;refine ⟨rfl,u,?_,fun lo hl O=>Bd O k (by show (12:Nat)≤511; omega) hW,hW⟩;rw [Gw hb] at kk;exact kk
theorem Ui (w:World) (z:Nat) (u:Value) (bank:Int) (c:A4) (arg rd:Int) (G:Nat→Nat→Prop) (g:Nat→Int) (k:w.heap[z]?=some (.cells (B5 u bank c arg rd) 161 (0,0))) (K:Ints .i64 w G u 512 g) (hb:isRow 512 g 512=true) :
  Calls Tryz.prog 212 #[(pt z 0)] w fun e w'=>e=.returned (.tuple #[])∧∃ u',w'.heap[z]?=some (.cells (B5 u' bank (Cg g c 24 arg rd) arg rd) 161 (0,0))∧(∀ lo,lo≤w.heap.size→Am w lo u 512 g→Am w' lo u' 512 (Ch g c 24))∧Wrote (fun b _=>b=z) w w':=by
 obtain ⟨A,X,S,Pc,Z,N,C,I⟩:=c;have KZ:=A7 K k (by show (12:Nat)≤511; omega);refine (Xn w z u bank A X S Pc Z N C I arg rd _ g k KZ hb (fun b o h=>h)).mono ?_;rintro e w' ⟨rfl,kk,hW⟩;refine ⟨rfl,u,?_,fun lo hl O=>Bd O k (by show (12:Nat)≤511; omega) hW,hW⟩;rw [Gw hb,Gw hb,Gw hb] at kk;exact kk
theorem Uj (w:World) (z:Nat) (u:Value) (bank:Int) (c:A4) (arg rd:Int) (G:Nat→Nat→Prop) (g:Nat→Int) (k:w.heap[z]?=some (.cells (B5 u bank c arg rd) 161 (0,0))) (K:Ints .i64 w G u 512 g) (hb:isRow 512 g 512=true) :
  Calls Tryz.prog 154 #[(pt z 0)] w fun e w'=>e=.returned (.tuple #[])∧∃ u',w'.heap[z]?=some (.cells (B5 u' bank (Cg g c 25 arg rd) arg rd) 161 (0,0))∧(∀ lo,lo≤w.heap.size→Am w lo u 512 g→Am w' lo u' 512 (Ch g c 25))∧Wrote (fun b _=>b=z) w w':=by
 obtain ⟨A,X,S,Pc,Z,N,C,I⟩:=c;have KZ:=A7 K k (by show (12:Nat)≤511; omega);refine (Kt w z u bank A X S Pc Z N C I arg rd k).mono ?_;rintro e w' ⟨rfl,kk,hW⟩;refine ⟨rfl,u,?_,fun lo hl O=>Bd O k (by show (12:Nat)≤511; omega) hW,hW⟩;exact kk
theorem Uk (w:World) (z:Nat) (u:Value) (bank:Int) (c:A4) (arg rd:Int) (G:Nat→Nat→Prop) (g:Nat→Int) (k:w.heap[z]?=some (.cells (B5 u bank c arg rd) 161 (0,0))) (K:Ints .i64 w G u 512 g) (hb:isRow 512 g 512=true) :
  Calls Tryz.prog 213 #[(pt z 0)] w fun e w'=>e=.returned (.tuple #[])∧∃ u',w'.heap[z]?=some (.cells (B5 u' bank (Cg g c 26 arg rd) arg rd) 161 (0,0))∧(∀ lo,lo≤w.heap.size→Am w lo u 512 g→Am w' lo u' 512 (Ch g c 26))∧Wrote (fun b _=>b=z) w w':=by
 obtain ⟨A,X,S,Pc,Z,N,C,I⟩:=c;have KZ:=A7 K k (by show (12:Nat)≤511; omega);refine (N2 w z u bank A X S Pc Z N C I arg rd k).mono ?_;rintro e w' ⟨rfl,kk,hW⟩;refine ⟨rfl,u,?_,fun lo hl O=>Bd O k (by show (12:Nat)≤511; omega) hW,hW⟩;exact kk
theorem Ul (w:World) (z:Nat) (u:Value) (bank:Int) (c:A4) (arg rd:Int) (G:Nat→Nat→Prop) (g:Nat→Int) (k:w.heap[z]?=some (.cells (B5 u bank c arg rd) 161 (0,0))) (K:Ints .i64 w G u 512 g) (hb:isRow 512 g 512=true) :
  Calls Tryz.prog 214 #[(pt z 0)] w fun e w'=>e=.returned (.tuple #[])∧∃ u',w'.heap[z]?=some (.cells (B5 u' bank (Cg g c 27 arg rd) arg rd) 161 (0,0))∧(∀ lo,lo≤w.heap.size→Am w lo u 512 g→Am w' lo u' 512 (Ch g c 27))∧Wrote (fun b _=>b=z) w w':=by
 obtain ⟨A,X,S,Pc,Z,N,C,I⟩:=c;have KZ:=A7 K k (by show (12:Nat)≤511; omega);refine (Ql w z u bank A X S Pc Z N C I arg rd k).mono ?_;rintro e w' ⟨rfl,kk,hW⟩;refine ⟨rfl,u,?_,fun lo hl O=>Bd O k (by show (12:Nat)≤511; omega) hW,hW⟩;exact kk
theorem Um (w:World) (z:Nat) (u:Value) (bank:Int) (c:A4) (arg rd:Int) (G:Nat→Nat→Prop) (g:Nat→Int) (k:w.heap[z]?=some (.cells (B5 u bank c arg rd) 161 (0,0))) (K:Ints .i64 w G u 512 g) (hb:isRow 512 g 512=true) :
  Calls Tryz.prog 215 #[(pt z 0)] w fun e w'=>e=.returned (.tuple #[])∧∃ u',w'.heap[z]?=some (.cells (B5 u' bank (Cg g c 28 arg rd) arg rd) 161 (0,0))∧(∀ lo,lo≤w.heap.size→Am w lo u 512 g→Am w' lo u' 512 (Ch g c 28))∧Wrote (fun b _=>b=z) w w':=by
 obtain ⟨A,X,S,Pc,Z,N,C,I⟩:=c;have KZ:=A7 K k (by show (12:Nat)≤511; omega);refine (My w z u bank A X S Pc Z N C I arg rd k).mono ?_;rintro e w' ⟨rfl,kk,hW⟩;refine ⟨rfl,u,?_,fun lo hl O=>Bd O k (by show (12:Nat)≤511; omega) hW,hW⟩;exact kk
theorem Un (w:World) (z:Nat) (u:Value) (bank:Int) (c:A4) (arg rd:Int) (G:Nat→Nat→Prop) (g:Nat→Int) (k:w.heap[z]?=some (.cells (B5 u bank c arg rd) 161 (0,0))) (K:Ints .i64 w G u 512 g) (hb:isRow 512 g 512=true) :
  Calls Tryz.prog 216 #[(pt z 0)] w fun e w'=>e=.returned (.tuple #[])∧∃ u',w'.heap[z]?=some (.cells (B5 u' bank (Cg g c 29 arg rd) arg rd) 161 (0,0))∧(∀ lo,lo≤w.heap.size→Am w lo u 512 g→Am w' lo u' 512 (Ch g c 29))∧Wrote (fun b _=>b=z) w w':=by
 obtain ⟨A,X,S,Pc,Z,N,C,I⟩:=c;have KZ:=A7 K k (by show (12:Nat)≤511; omega);refine (Rv w z u bank A X S Pc Z N C I arg rd k).mono ?_;rintro e w' ⟨rfl,kk,hW⟩;refine ⟨rfl,u,?_,fun lo hl O=>Bd O k (by show (12:Nat)≤511; omega) hW,hW⟩;exact kk
theorem Zs (op:Int) (w:World) (z:Nat) (u:Value) (bank:Int) (c:A4) (arg rd:Int) (G:Nat→Nat→Prop) (g:Nat→Int) (k:w.heap[z]?=some (.cells (B5 u bank c arg rd) 161 (0,0))) (K:Ints .i64 w G u 512 g) (hb:isRow 512 g 512=true) :
  Calls Tryz.prog (Gd op) #[(pt z 0)] w fun e w'=>e=.returned (.tuple #[])∧∃ u',w'.heap[z]?=some (.cells (B5 u' bank (Cg g c op arg rd) arg rd) 161 (0,0))∧(∀ lo,lo≤w.heap.size→Am w lo u 512 g→Am w' lo u' 512 (Ch g c op))∧Wrote (fun b _=>b=z) w w':=by
 by_cases h:0≤op∧op≤29
 ·obtain ⟨n,rfl⟩:∃ n:Nat,op=n:=⟨op.toNat,by omega⟩
  have hn:n<30:=by omega
  match n,hn with
  | 0,_=>exact O8 w z u bank c arg rd G g k K hb
  | 1,_=>exact Xs w z u bank c arg rd G g k K hb
  | 2,_=>exact Xt w z u bank c arg rd G g k K hb
  | 3,_=>exact Xu w z u bank c arg rd G g k K hb
  | 4,_=>exact Xv w z u bank c arg rd G g k K hb
  | 5,_=>exact Xw w z u bank c arg rd G g k K hb
  | 6,_=>exact Xx w z u bank c arg rd G g k K hb
  | 7,_=>exact Xy w z u bank c arg rd G g k K hb
  | 8,_=>exact Xz w z u bank c arg rd G g k K hb
  | 9,_=>exact X0 w z u bank c arg rd G g k K hb
  | 10,_=>exact Tw w z u bank c arg rd G g k K hb
  | 11,_=>exact Tx w z u bank c arg rd G g k K hb
  | 12,_=>exact Ty w z u bank c arg rd G g k K hb
  | 13,_=>exact Tz w z u bank c arg rd G g k K hb
  | 14,_=>exact T8 w z u bank c arg rd G g k K hb
  | 15,_=>exact T9 w z u bank c arg rd G g k K hb
  | 16,_=>exact Ua w z u bank c arg rd G g k K hb
  | 17,_=>exact Ub w z u bank c arg rd G g k K hb
  | 18,_=>exact Uc w z u bank c arg rd G g k K hb
  | 19,_=>exact Ud w z u bank c arg rd G g k K hb
  | 20,_=>exact Ue w z u bank c arg rd G g k K hb
  | 21,_=>exact Uf w z u bank c arg rd G g k K hb
  | 22,_=>exact Ug w z u bank c arg rd G g k K hb
  | 23,_=>exact Uh w z u bank c arg rd G g k K hb
  | 24,_=>exact Ui w z u bank c arg rd G g k K hb
  | 25,_=>exact Uj w z u bank c arg rd G g k K hb
  | 26,_=>exact Uk w z u bank c arg rd G g k K hb
  | 27,_=>exact Ul w z u bank c arg rd G g k K hb
  | 28,_=>exact Um w z u bank c arg rd G g k K hb
  | 29,_=>exact Un w z u bank c arg rd G g k K hb
  | n+30,hn=>omega
 ·have hF:Gd op=191:=by unfold Gd; rw [if_neg h]
  have hC:Cg g c op arg rd=c:=by
   unfold Cg;rw [if_neg (by unfold Gv; intro hh; have:=of_decide_eq_true hh; omega)];simp only [show ¬ op=16 by omega,show ¬ op=17 by omega,show ¬ op=18 by omega,show ¬ op=19 by omega,show ¬ op=20 by omega,show ¬ op=21 by omega,show ¬ op=22 by omega,show ¬ op=23 by omega,show ¬ op=24 by omega,show ¬ op=25 by omega,show ¬ op=26 by omega,show ¬ op=27 by omega,show ¬ op=28 by omega,if_false]
  have hG:Ch g c op=g:=by unfold Ch; rw [if_neg (by omega),if_neg (by omega)]
  rw [hF,hC,hG];exact O8 w z u bank c arg rd G g k K hb
theorem Bi.upTo {W:World} {lo N N':Nat} {D:Nat→Nat→Prop} {u0 u1 u2 u3 u4 u5 u6 u7:Value} {ob:Nat→Option Nat} {iv ov:Nat→Value} {o6 o7:Option Nat} {d:Aq} (H:Bi W lo N D u0 u1 u2 u3 u4 u5 u6 u7 ob iv ov o6 o7 d) (h:N≤N') (h':N'≤W.heap.size):Bi W lo N' D u0 u1 u2 u3 u4 u5 u6 u7 ob iv ov o6 o7 d :=
 ⟨H.h0,H.h1,H.h2,H.h3,H.h5,H.h5D,H.h6,H.h6D,H.h7,H.h7D,H.dis,fun i b hb=>⟨(H.bd i b hb).1,Nat.lt_of_lt_of_le (H.bd i b hb).2 h⟩,h',H.hps⟩
def zero34:Array Value:=zR
def Sc:Aq :=
 { m:=0,ln:=fun _=>0,f:=fun _ _=>0,np:=0,p:=fun _=>0,nr:=0,g:=fun _=>0,bank:=0,A:=0,X:=0,S:=0,Pc:=0,Z:=false,N:=false,C:=false,I:=false,t:=0,c:=0,s:=0,ad:=0,pl:=0,bl:=false,nt:=0,tb:=fun _=>0,nd:=0,dt:=fun _=>0,T:=0,P:=0,K:=0,B:=0,L:=0,Q:=false,R:=false,hd:=false,sh:=0,nmi:=false,st:=0,mf:=0,lf:=fun _=>0,fr:=fun _ _=>0,ns:=0,sm:=fun _=>0,nq:=0,rd:=fun _=>0 }
theorem Co.noneL {W:World} {D:Nat→Prop} (f:Nat→Nat→Int):Co W D (.slice none 0 0) 0 (fun _=>0) f :=
 ⟨fun _=>none,fun _=>0,⟨⟨none,0,rfl,by omega,fun i hi=>absurd hi (Nat.not_lt_zero _)⟩,fun i hi=>absurd hi (Nat.not_lt_zero _),fun i j hi=>absurd hi (Nat.not_lt_zero _),by simp [psum]⟩,fun i hi=>absurd hi (Nat.not_lt_zero _),fun i hi=>absurd hi (Nat.not_lt_zero _),fun a cap e b o hF=>absurd hF (Bo _ _ _),fun i hi=>absurd hi (Nat.not_lt_zero _)⟩
theorem Sd {W:World} {D:Nat→Nat→Prop}:Bh W D (.agg zR) Sc :=
 ⟨_,_,_,_,_,_,_,_,rfl,Co.noneL _,⟨_,_,rfl,Cm.zero _ _⟩,⟨_,_,rfl,by show (0:Nat)≤_; omega,fun i hi=>absurd hi (Nat.not_lt_zero _),fun b o hF=>absurd hF (Bo _ _ _),fun b o hF=>absurd hF (Bo _ _ _)⟩,⟨_,_,_,_,rfl,Cm.zero _ _,Cm.zero _ _,fun b o h=>absurd h (Bo _ _ _)⟩,⟨_,_,_,rfl,Co.noneL _,⟨_,_,rfl,Cm.zero _ _⟩,⟨_,_,rfl,Cm.zero _ _⟩⟩⟩
end Go.Proofs.YtgcmimcalmjaaaaGreatDoor
