import Derived.Test.YtjnjnppongdhgaaGreatUQ0
import Derived.Handy
namespace Go.Proofs.YtjnjnppongdhgaaGreat
set_option maxHeartbeats 1000000
set_option linter.unusedVariables false
open Go.ChangeShapes Go.WideShapes Go.ChangeAt Go.RowKit
theorem Gm (w:World) (a s:Int) (a0:0≤a) (a1:a<65536) (s0:0<s) (s1:s<65536):Calls Tryz.prog 70 #[.int .u16 a,.int .u16 s] w fun e w'=>e=.returned (.i (a%s))∧w'=w:=by
 have ht:a.tmod s=a%s:=Int.tmod_eq_emod_of_nonneg a0
 have hz:(s==0)=false:=by simp; omega
 have hz':s≠0:=by omega
 have m0:0≤a%s:=Int.emod_nonneg _ hz';have m1:a%s<65536:=Int.lt_of_lt_of_le (Int.emod_lt_of_pos _ s0) (by omega)
 have hw:IntKind.u16.wrap (a%s)=a%s:=by rw [IntKind.wrap_u16]; omega
 go_enter Tryz.func70,Tryz.ntmps70
 go_wp2;go_ret;exact ⟨rfl,rfl⟩
def Gn (n p:Int):Value:=if n=1 then .iface 102 (.agg #[.i p]) else if n=2 then .iface 103 (.agg #[.i p]) else if n=3 then .iface 104 (.agg #[.i p]) else if n=4 then .iface 105 (.agg #[.i p]) else if n=5 then .iface 107 (.agg #[.i p]) else if n=6 then .iface 108 (.agg #[.i p]) else .iface 106 (.agg #[.i p])
theorem X0 (p:Int):Gn 1 p=.iface 102 (.agg #[.i p]):=rfl
theorem X4 (p:Int):Gn 2 p=.iface 103 (.agg #[.i p]):=rfl
theorem X6 (p:Int):Gn 3 p=.iface 104 (.agg #[.i p]):=rfl
theorem X7 (p:Int):Gn 4 p=.iface 105 (.agg #[.i p]):=rfl
theorem X8 (p:Int):Gn 5 p=.iface 107 (.agg #[.i p]):=rfl
theorem X9 (p:Int):Gn 6 p=.iface 108 (.agg #[.i p]):=rfl
theorem Ya (p:Int):Gn 7 p=.iface 106 (.agg #[.i p]):=rfl
theorem Wa (a:Int) (h0:0≤a) (h1:a<65536):(a<8192∧rgN a=1∧rgP a=a%512)∨(8192≤a∧a<16384∧rgN a=2∧rgP a=a%8)∨(16384≤a∧a<16388∧rgN a=3∧rgP a=a%4)∨(a=16406∧rgN a=4∧rgP a=0)∨(16388≤a∧a<32768∧a≠16406∧rgN a=7∧rgP a=0)∨(32768≤a∧a<49152∧rgN a=5∧rgP a=a%256)∨(49152≤a∧rgN a=6∧rgP a=a%256):=by
 unfold rgN rgP
 rcases (by omega:a<8192∨(8192≤a∧a<16384)∨(16384≤a∧a<16388)∨a=16406∨(16388≤a∧a<32768∧a≠16406)∨(32768≤a∧a<49152)∨49152≤a) with h | h | h | h | h | h | h
 ·exact Or.inl ⟨h,if_pos h,if_pos h⟩
 all_goals
  repeat (first | rw [if_neg (show ¬ a<8192 by omega)] | rw [if_neg (show ¬ a<16384 by omega)] | rw [if_pos (show a<16384 by omega)] | rw [if_neg (show ¬ a<16388 by omega)] | rw [if_pos (show a<16388 by omega)] | rw [if_pos (show a=16406 by omega)] | rw [if_neg (show ¬ a=16406 by omega)] | rw [if_pos (show a<32768 by omega)] | rw [if_neg (show ¬ a<32768 by omega)] | rw [if_pos (show a<49152 by omega)] | rw [if_neg (show ¬ a<49152 by omega)])
  simp
  try omega
theorem Ku (w:World) (a:Int) (a0:0≤a) (a1:a<65536):Calls Tryz.prog 25 #[.int .u16 a] w fun e w'=>e=.returned (Gn (rgN a) (rgP a))∧w'=w:=by
 rcases Wa a a0 a1 with h | h | h | h | h | h | h
 ·obtain ⟨h1,hn,hp⟩:=h
  have HR:=Ac (show Gn (rgN a) (rgP a)=Gn 1 _ by rw [hn,hp]);clear hn hp
  go_enter Tryz.func25,Tryz.ntmps25
  go_wp2_with fail;refine (Gm _ _ _ a0 a1 (by omega) (by omega)).mono ?_;rintro e w1 ⟨rfl,rfl⟩;go_wp2;go_ret
  first | exact ⟨by rw [HR.out]; rfl,rfl⟩ | exact ⟨rfl,rfl⟩
 ·obtain ⟨h1,h2,hn,hp⟩:=h
  have HR:=Ac (show Gn (rgN a) (rgP a)=Gn 2 _ by rw [hn,hp]);clear hn hp
  have q8192:¬ a<8192:=by omega
  go_enter Tryz.func25,Tryz.ntmps25
  go_wp2_with fail;refine (Gm _ _ _ a0 a1 (by omega) (by omega)).mono ?_;rintro e w1 ⟨rfl,rfl⟩;go_wp2;go_ret
  first | exact ⟨by rw [HR.out]; rfl,rfl⟩ | exact ⟨rfl,rfl⟩
 ·obtain ⟨h1,h2,hn,hp⟩:=h
  have HR:=Ac (show Gn (rgN a) (rgP a)=Gn 3 _ by rw [hn,hp]);clear hn hp
  have q8192:¬ a<8192:=by omega
  have q16384:¬ a<16384:=by omega
  go_enter Tryz.func25,Tryz.ntmps25
  go_wp2_with fail;refine (Gm _ _ _ a0 a1 (by omega) (by omega)).mono ?_;rintro e w1 ⟨rfl,rfl⟩;go_wp2;go_ret
  first | exact ⟨by rw [HR.out]; rfl,rfl⟩ | exact ⟨rfl,rfl⟩
 ·obtain ⟨h1,hn,hp⟩:=h
  have HR:=Ac (show Gn (rgN a) (rgP a)=Gn 4 _ by rw [hn,hp]);clear hn hp
  have q8192:¬ a<8192:=by omega
  have q16384:¬ a<16384:=by omega
  have q16388:¬ a<16388:=by omega
  have e5:(a==16406)=true:=by simp; omega
  go_enter Tryz.func25,Tryz.ntmps25
  go_wp2;go_ret
  first | exact ⟨by rw [HR.out]; rfl,rfl⟩ | exact ⟨rfl,rfl⟩
 ·obtain ⟨h1,h2,h3,hn,hp⟩:=h
  have HR:=Ac (show Gn (rgN a) (rgP a)=Gn 7 _ by rw [hn,hp]);clear hn hp
  have q8192:¬ a<8192:=by omega
  have q16384:¬ a<16384:=by omega
  have q16388:¬ a<16388:=by omega
  have e5:(a==16406)=false:=by simp; omega
  go_enter Tryz.func25,Tryz.ntmps25
  go_wp2;go_ret
  first | exact ⟨by rw [HR.out]; rfl,rfl⟩ | exact ⟨rfl,rfl⟩
 ·obtain ⟨h1,h2,hn,hp⟩:=h
  have HR:=Ac (show Gn (rgN a) (rgP a)=Gn 5 _ by rw [hn,hp]);clear hn hp
  have q8192:¬ a<8192:=by omega
  have q16384:¬ a<16384:=by omega
  have q16388:¬ a<16388:=by omega
  have e5:(a==16406)=false:=by simp; omega
  have q32768:¬ a<32768:=by omega
  go_enter Tryz.func25,Tryz.ntmps25
  go_wp2_with fail;refine (Gm _ _ _ a0 a1 (by omega) (by omega)).mono ?_;rintro e w1 ⟨rfl,rfl⟩;go_wp2;go_ret
  first | exact ⟨by rw [HR.out]; rfl,rfl⟩ | exact ⟨rfl,rfl⟩
 ·obtain ⟨h1,hn,hp⟩:=h
  have HR:=Ac (show Gn (rgN a) (rgP a)=Gn 6 _ by rw [hn,hp]);clear hn hp
  have q8192:¬ a<8192:=by omega
  have q16384:¬ a<16384:=by omega
  have q16388:¬ a<16388:=by omega
  have e5:(a==16406)=false:=by simp; omega
  have q32768:¬ a<32768:=by omega
  have q49152:¬ a<49152:=by omega
  go_enter Tryz.func25,Tryz.ntmps25
  go_wp2_with fail;refine (Gm _ _ _ a0 a1 (by omega) (by omega)).mono ?_;rintro e w1 ⟨rfl,rfl⟩;go_wp2;go_ret
  first | exact ⟨by rw [HR.out]; rfl,rfl⟩ | exact ⟨rfl,rfl⟩
theorem Zh (p:Int) (w:World):(Instr.typeAssert (.iface 102 (.agg #[.i p])) 62 102 true).run Tryz.prog w=.ok (.tuple #[.agg #[.i p],.bool true]) w:=by kernel_rfl
theorem Zi (p:Int) (w:World):(Instr.typeAssert (.iface 103 (.agg #[.i p])) 62 102 true).run Tryz.prog w=.ok (.tuple #[.agg #[.i 0],.bool false]) w:=by kernel_rfl
theorem Jas (p:Int) (w:World):(Instr.typeAssert (.iface 103 (.agg #[.i p])) 62 103 true).run Tryz.prog w=.ok (.tuple #[.agg #[.i p],.bool true]) w:=by kernel_rfl
theorem Jac (p:Int) (w:World):(Instr.typeAssert (.iface 103 (.agg #[.i p])) 62 107 true).run Tryz.prog w=.ok (.tuple #[.agg #[.i 0],.bool false]) w:=by kernel_rfl
theorem Jad (p:Int) (w:World):(Instr.typeAssert (.iface 103 (.agg #[.i p])) 62 108 true).run Tryz.prog w=.ok (.tuple #[.agg #[.i 0],.bool false]) w:=by kernel_rfl
theorem Zj (p:Int) (w:World):(Instr.typeAssert (.iface 104 (.agg #[.i p])) 62 102 true).run Tryz.prog w=.ok (.tuple #[.agg #[.i 0],.bool false]) w:=by kernel_rfl
theorem Jat (p:Int) (w:World):(Instr.typeAssert (.iface 104 (.agg #[.i p])) 62 103 true).run Tryz.prog w=.ok (.tuple #[.agg #[.i 0],.bool false]) w:=by kernel_rfl
theorem Jau (p:Int) (w:World):(Instr.typeAssert (.iface 104 (.agg #[.i p])) 62 104 true).run Tryz.prog w=.ok (.tuple #[.agg #[.i p],.bool true]) w:=by kernel_rfl
theorem Jae (p:Int) (w:World):(Instr.typeAssert (.iface 104 (.agg #[.i p])) 62 107 true).run Tryz.prog w=.ok (.tuple #[.agg #[.i 0],.bool false]) w:=by kernel_rfl
theorem Jaf (p:Int) (w:World):(Instr.typeAssert (.iface 104 (.agg #[.i p])) 62 108 true).run Tryz.prog w=.ok (.tuple #[.agg #[.i 0],.bool false]) w:=by kernel_rfl
theorem Zk (p:Int) (w:World):(Instr.typeAssert (.iface 105 (.agg #[.i p])) 62 102 true).run Tryz.prog w=.ok (.tuple #[.agg #[.i 0],.bool false]) w:=by kernel_rfl
theorem Jav (p:Int) (w:World):(Instr.typeAssert (.iface 105 (.agg #[.i p])) 62 103 true).run Tryz.prog w=.ok (.tuple #[.agg #[.i 0],.bool false]) w:=by kernel_rfl
theorem Jaw (p:Int) (w:World):(Instr.typeAssert (.iface 105 (.agg #[.i p])) 62 104 true).run Tryz.prog w=.ok (.tuple #[.agg #[.i 0],.bool false]) w:=by kernel_rfl
theorem Jax (p:Int) (w:World):(Instr.typeAssert (.iface 105 (.agg #[.i p])) 62 105 true).run Tryz.prog w=.ok (.tuple #[.agg #[.i p],.bool true]) w:=by kernel_rfl
theorem Jag (p:Int) (w:World):(Instr.typeAssert (.iface 105 (.agg #[.i p])) 62 107 true).run Tryz.prog w=.ok (.tuple #[.agg #[.i 0],.bool false]) w:=by kernel_rfl
theorem Jah (p:Int) (w:World):(Instr.typeAssert (.iface 105 (.agg #[.i p])) 62 108 true).run Tryz.prog w=.ok (.tuple #[.agg #[.i 0],.bool false]) w:=by kernel_rfl
theorem Zl (p:Int) (w:World):(Instr.typeAssert (.iface 107 (.agg #[.i p])) 62 102 true).run Tryz.prog w=.ok (.tuple #[.agg #[.i 0],.bool false]) w:=by kernel_rfl
theorem Jay (p:Int) (w:World):(Instr.typeAssert (.iface 107 (.agg #[.i p])) 62 103 true).run Tryz.prog w=.ok (.tuple #[.agg #[.i 0],.bool false]) w:=by kernel_rfl
theorem Jaz (p:Int) (w:World):(Instr.typeAssert (.iface 107 (.agg #[.i p])) 62 104 true).run Tryz.prog w=.ok (.tuple #[.agg #[.i 0],.bool false]) w:=by kernel_rfl
theorem Ja0 (p:Int) (w:World):(Instr.typeAssert (.iface 107 (.agg #[.i p])) 62 105 true).run Tryz.prog w=.ok (.tuple #[.agg #[.i 0],.bool false]) w:=by kernel_rfl
theorem Zm (p:Int) (w:World):(Instr.typeAssert (.iface 107 (.agg #[.i p])) 62 107 true).run Tryz.prog w=.ok (.tuple #[.agg #[.i p],.bool true]) w:=by kernel_rfl
theorem Ja1 (p:Int) (w:World):(Instr.typeAssert (.iface 107 (.agg #[.i p])) 62 108 true).run Tryz.prog w=.ok (.tuple #[.agg #[.i 0],.bool false]) w:=by kernel_rfl
theorem Zn (p:Int) (w:World):(Instr.typeAssert (.iface 108 (.agg #[.i p])) 62 102 true).run Tryz.prog w=.ok (.tuple #[.agg #[.i 0],.bool false]) w:=by kernel_rfl
theorem Ja2 (p:Int) (w:World):(Instr.typeAssert (.iface 108 (.agg #[.i p])) 62 103 true).run Tryz.prog w=.ok (.tuple #[.agg #[.i 0],.bool false]) w:=by kernel_rfl
theorem Ja3 (p:Int) (w:World):(Instr.typeAssert (.iface 108 (.agg #[.i p])) 62 104 true).run Tryz.prog w=.ok (.tuple #[.agg #[.i 0],.bool false]) w:=by kernel_rfl
theorem Ja4 (p:Int) (w:World):(Instr.typeAssert (.iface 108 (.agg #[.i p])) 62 105 true).run Tryz.prog w=.ok (.tuple #[.agg #[.i 0],.bool false]) w:=by kernel_rfl
theorem Zo (p:Int) (w:World):(Instr.typeAssert (.iface 108 (.agg #[.i p])) 62 107 true).run Tryz.prog w=.ok (.tuple #[.agg #[.i 0],.bool false]) w:=by kernel_rfl
theorem Zp (p:Int) (w:World):(Instr.typeAssert (.iface 108 (.agg #[.i p])) 62 108 true).run Tryz.prog w=.ok (.tuple #[.agg #[.i p],.bool true]) w:=by kernel_rfl
theorem Zq (p:Int) (w:World):(Instr.typeAssert (.iface 106 (.agg #[.i p])) 62 102 true).run Tryz.prog w=.ok (.tuple #[.agg #[.i 0],.bool false]) w:=by kernel_rfl
theorem Ja5 (p:Int) (w:World):(Instr.typeAssert (.iface 106 (.agg #[.i p])) 62 103 true).run Tryz.prog w=.ok (.tuple #[.agg #[.i 0],.bool false]) w:=by kernel_rfl
theorem Ja6 (p:Int) (w:World):(Instr.typeAssert (.iface 106 (.agg #[.i p])) 62 104 true).run Tryz.prog w=.ok (.tuple #[.agg #[.i 0],.bool false]) w:=by kernel_rfl
theorem Ja7 (p:Int) (w:World):(Instr.typeAssert (.iface 106 (.agg #[.i p])) 62 105 true).run Tryz.prog w=.ok (.tuple #[.agg #[.i 0],.bool false]) w:=by kernel_rfl
theorem Zr (p:Int) (w:World):(Instr.typeAssert (.iface 106 (.agg #[.i p])) 62 107 true).run Tryz.prog w=.ok (.tuple #[.agg #[.i 0],.bool false]) w:=by kernel_rfl
theorem Zs (p:Int) (w:World):(Instr.typeAssert (.iface 106 (.agg #[.i p])) 62 108 true).run Tryz.prog w=.ok (.tuple #[.agg #[.i 0],.bool false]) w:=by kernel_rfl
theorem partOf (w:World) (p:Int):Calls Tryz.prog 185 #[.i p] w fun e w'=>e=.returned (.i p)∧w'=w:=by
 go_enter Tryz.func185,Tryz.ntmps185
 go_wp2;go_ret;exact ⟨rfl,rfl⟩
theorem Jai (p : Int) (w : World) : (method 303 102 (.agg #[.i p]) "loop.example/g00231/impl.part").run Tryz.prog w = .ok (185, .i p) w := by kernel_rfl
theorem Ja8 (p : Int) (w : World) : (method 303 107 (.agg #[.i p]) "loop.example/g00231/impl.part").run Tryz.prog w = .ok (185, .i p) w := by kernel_rfl
theorem Ja9 (p : Int) (w : World) : (method 303 108 (.agg #[.i p]) "loop.example/g00231/impl.part").run Tryz.prog w = .ok (185, .i p) w := by kernel_rfl
theorem Nb (a:Int) (h0:0≤a) (h1:a<65536):rgN a=1∨rgN a=2∨rgN a=3∨rgN a=4∨rgN a=5∨rgN a=6∨rgN a=7:=by
 rcases Wa a h0 h1 with ⟨_,h,_⟩ | ⟨_,_,h,_⟩ | ⟨_,_,h,_⟩ | ⟨_,h,_⟩ | ⟨_,_,_,h,_⟩ | ⟨_,_,h,_⟩ | ⟨_,h,_⟩ <;> rw [h] <;> decide
theorem Me (w:World) (p:Int):Calls Tryz.prog 26 #[Gn 1 p] w fun e w'=>e=.returned (.i 1)∧w'=w:=by
 rw [X0];have q1:=Zh p
 go_enter Tryz.func26,Tryz.ntmps26
 go_wp2;go_ret;exact ⟨rfl,rfl⟩
theorem Mf (w:World) (p:Int):Calls Tryz.prog 26 #[Gn 2 p] w fun e w'=>e=.returned (.i 2)∧w'=w:=by
 rw [X4];have q1:=Zi p;have q2:=Jas p
 go_enter Tryz.func26,Tryz.ntmps26
 go_wp2;go_ret;exact ⟨rfl,rfl⟩
theorem Mg (w:World) (p:Int):Calls Tryz.prog 26 #[Gn 3 p] w fun e w'=>e=.returned (.i 3)∧w'=w:=by
 rw [X6];have q1:=Zj p;have q2:=Jat p;have q3:=Jau p
 go_enter Tryz.func26,Tryz.ntmps26
 go_wp2;go_ret;exact ⟨rfl,rfl⟩
theorem Mh (w:World) (p:Int):Calls Tryz.prog 26 #[Gn 4 p] w fun e w'=>e=.returned (.i 4)∧w'=w:=by
 rw [X7];have q1:=Zk p;have q2:=Jav p;have q3:=Jaw p;have q4:=Jax p
 go_enter Tryz.func26,Tryz.ntmps26
 go_wp2;go_ret;exact ⟨rfl,rfl⟩
theorem Mi (w:World) (p:Int):Calls Tryz.prog 26 #[Gn 5 p] w fun e w'=>e=.returned (.i 5)∧w'=w:=by
 rw [X8];have q1:=Zl p;have q2:=Jay p;have q3:=Jaz p;have q4:=Ja0 p;have q5:=Zm p
 go_enter Tryz.func26,Tryz.ntmps26
 go_wp2;go_ret;exact ⟨rfl,rfl⟩
theorem Mj (w:World) (p:Int):Calls Tryz.prog 26 #[Gn 6 p] w fun e w'=>e=.returned (.i 6)∧w'=w:=by
 rw [X9];have q1:=Zn p;have q2:=Ja2 p;have q3:=Ja3 p;have q4:=Ja4 p;have q5:=Zo p;have q6:=Zp p
 go_enter Tryz.func26,Tryz.ntmps26
 go_wp2;go_ret;exact ⟨rfl,rfl⟩
theorem Mk (w:World) (p:Int):Calls Tryz.prog 26 #[Gn 7 p] w fun e w'=>e=.returned (.i 7)∧w'=w:=by
 rw [Ya];have q1:=Zq p;have q2:=Ja5 p;have q3:=Ja6 p;have q4:=Ja7 p;have q5:=Zr p;have q6:=Zs p
 go_enter Tryz.func26,Tryz.ntmps26
 go_wp2;go_ret;exact ⟨rfl,rfl⟩
theorem Il (w:World) (x:Int):Calls Tryz.prog 9 #[.i x] w fun e w'=>e=.returned (.tuple #[.i (rgN (x%65536)),.i (rgP (x%65536))])∧w'=w:=by
 have h0:0≤x%65536:=by omega
 have h1:x%65536<65536:=by omega
 have HC:=Nb _ h0 h1;have HA:=Ac (Ku w _ h0 h1);generalize rgP (x%65536)=p at *;generalize rgN (x%65536)=n at *;clear h0 h1
 rcases HC with rfl | rfl | rfl | rfl | rfl | rfl | rfl
 ·go_enter Tryz.func9,Tryz.ntmps9
  go_wp2_with fail;refine (Ad HA).mono ?_;rintro e w1 ⟨rfl,rfl⟩;go_wp2_with fail;refine (Me _ p).mono ?_;rintro e w2 ⟨rfl,rfl⟩;rw [X0];go_wp2;go_ret2;exact ⟨rfl,rfl⟩
 ·go_enter Tryz.func9,Tryz.ntmps9
  go_wp2_with fail;refine (Ad HA).mono ?_;rintro e w1 ⟨rfl,rfl⟩;go_wp2_with fail;refine (Mf _ p).mono ?_;rintro e w2 ⟨rfl,rfl⟩;rw [X4];go_wp2;go_ret2;exact ⟨rfl,rfl⟩
 ·go_enter Tryz.func9,Tryz.ntmps9
  go_wp2_with fail;refine (Ad HA).mono ?_;rintro e w1 ⟨rfl,rfl⟩;go_wp2_with fail;refine (Mg _ p).mono ?_;rintro e w2 ⟨rfl,rfl⟩;rw [X6];go_wp2;go_ret2;exact ⟨rfl,rfl⟩
 ·go_enter Tryz.func9,Tryz.ntmps9
  go_wp2_with fail;refine (Ad HA).mono ?_;rintro e w1 ⟨rfl,rfl⟩;go_wp2_with fail;refine (Mh _ p).mono ?_;rintro e w2 ⟨rfl,rfl⟩;rw [X7];go_wp2;go_ret2;exact ⟨rfl,rfl⟩
 ·go_enter Tryz.func9,Tryz.ntmps9
  go_wp2_with fail;refine (Ad HA).mono ?_;rintro e w1 ⟨rfl,rfl⟩;go_wp2_with fail;refine (Mi _ p).mono ?_;rintro e w2 ⟨rfl,rfl⟩;rw [X8];go_wp2;go_ret2;exact ⟨rfl,rfl⟩
 ·go_enter Tryz.func9,Tryz.ntmps9
  go_wp2_with fail;refine (Ad HA).mono ?_;rintro e w1 ⟨rfl,rfl⟩;go_wp2_with fail;refine (Mj _ p).mono ?_;rintro e w2 ⟨rfl,rfl⟩;rw [X9];go_wp2;go_ret2;exact ⟨rfl,rfl⟩
 ·go_enter Tryz.func9,Tryz.ntmps9
  go_wp2_with fail;refine (Ad HA).mono ?_;rintro e w1 ⟨rfl,rfl⟩;go_wp2_with fail;refine (Mk _ p).mono ?_;rintro e w2 ⟨rfl,rfl⟩;rw [Ya];go_wp2;go_ret2;exact ⟨rfl,rfl⟩
end Go.Proofs.YtjnjnppongdhgaaGreat
