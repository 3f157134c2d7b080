import Derived.Test.YtfjieibndedngaaGreatS2
namespace Go.Proofs.YtfjieibndedngaaGreat
open Go.ChangeShapes Go.WideShapes Go.ChangeAt Go.RowKit
def opNm:List ByteArray:=[⟨#[110,111,112]⟩,⟨#[108,100,105]⟩,⟨#[108,100,97]⟩,⟨#[115,116,97]⟩,⟨#[97,100,105]⟩,⟨#[115,98,105]⟩,⟨#[97,110,105]⟩,⟨#[111,114,105]⟩,⟨#[120,114,105]⟩,⟨#[99,112,105]⟩,⟨#[116,97,120]⟩,⟨#[116,120,97]⟩,⟨#[105,110,120]⟩,⟨#[100,101,120]⟩,⟨#[108,97,120]⟩,⟨#[115,97,120]⟩,⟨#[98,110,101]⟩,⟨#[98,101,113]⟩,⟨#[98,99,115]⟩,⟨#[106,109,112]⟩,⟨#[106,115,114]⟩,⟨#[114,116,115]⟩,⟨#[112,104,97]⟩,⟨#[112,108,97]⟩,⟨#[114,116,105]⟩,⟨#[115,101,105]⟩,⟨#[99,108,105]⟩,⟨#[115,101,99]⟩,⟨#[99,108,99]⟩,⟨#[97,100,97]⟩]
def opCells:Array Value:=#[.string ⟨#[110,111,112]⟩,.string ⟨#[108,100,105]⟩,.string ⟨#[108,100,97]⟩,.string ⟨#[115,116,97]⟩,.string ⟨#[97,100,105]⟩,.string ⟨#[115,98,105]⟩,.string ⟨#[97,110,105]⟩,.string ⟨#[111,114,105]⟩,.string ⟨#[120,114,105]⟩,.string ⟨#[99,112,105]⟩,.string ⟨#[116,97,120]⟩,.string ⟨#[116,120,97]⟩,.string ⟨#[105,110,120]⟩,.string ⟨#[100,101,120]⟩,.string ⟨#[108,97,120]⟩,.string ⟨#[115,97,120]⟩,.string ⟨#[98,110,101]⟩,.string ⟨#[98,101,113]⟩,.string ⟨#[98,99,115]⟩,.string ⟨#[106,109,112]⟩,.string ⟨#[106,115,114]⟩,.string ⟨#[114,116,115]⟩,.string ⟨#[112,104,97]⟩,.string ⟨#[112,108,97]⟩,.string ⟨#[114,116,105]⟩,.string ⟨#[115,101,105]⟩,.string ⟨#[99,108,105]⟩,.string ⟨#[115,101,99]⟩,.string ⟨#[99,108,99]⟩,.string ⟨#[97,100,97]⟩]
def Dd:List Int:=[1,2,3,3,2,2,2,2,2,2,1,1,1,1,3,3,3,3,3,3,3,1,1,1,1,1,1,1,1,3]
def Jd:List Int:=[2,2,4,4,2,2,2,2,2,2,2,2,2,2,4,5,3,3,3,3,6,6,3,4,6,2,2,2,2,4]
theorem Ps (i:Nat) (h:i<30):opCells[i]?=some (.string (opNm.getD i ByteArray.empty)):=by
 have hm:opCells.toList=opNm.map Value.string:=rfl;rw [← Array.getElem?_toList,hm,List.getElem?_map,List.getD_eq_getElem?_getD]
 cases e:opNm[i]? with
 | none=>exact absurd (List.getElem?_eq_none_iff.1 e) (by show ¬ 30≤i; omega)
 | some x=>rfl
theorem ints_at (L:List Int) (d:Int) (i:Nat) (h:i<L.length):(L.map (Value.int .i64))[i]'(by simpa using h)=.i (L.getD ((i:Int).toNat) d):=by
 rw [List.getElem_map,Int.toNat_natCast,List.getD_eq_getElem?_getD,List.getElem?_eq_getElem h]
 rfl
def Ve (s:ByteArray) (r:Int):Prop:=(∃ i:Nat,i<30∧r=i∧(opNm.getD i ByteArray.empty).toList=s.toList)∨r=-1∧∀ i:Nat,i<30→¬ (opNm.getD i ByteArray.empty).toList=s.toList
theorem Ue (w:World):Calls Tryz.prog 103 #[] w fun e w'=>e=.returned (.slice (some ⟨w.heap.size,0,none⟩) 30 30)∧w'=w.alloc (.cells opCells 9):=by
 go_enter Tryz.func103,Tryz.ntmps103
 go_wp2;go_ret;exact ⟨rfl,rfl⟩
theorem Ig (w:World) (x:Int):Calls Tryz.prog 84 #[.i x] w fun e w'=>e=.returned (.i (if 0≤x∧x≤29 then Dd.getD x.toNat 1 else 1))∧Below w.heap.size w w':=by
 by_cases h:0≤x∧x≤29
 ·have hin:=Cf h
  obtain ⟨i,rfl⟩:∃ i:Nat,x=i:=⟨x.toNat,by omega⟩
  have hi:i<30:=by omega
  rw [if_pos h]
  go_enter Tryz.func84,Tryz.ntmps84
  go_wp2_with fail;refine (Dy _ _ _ _).mono ?_;rintro e w1 ⟨rfl,rfl⟩;rw [hin];go_wp2;go_ret;exact ⟨congrArg Ending.returned (ints_at Dd 1 i hi),(Below.refl _ _).alloc (Nat.le_refl _) _⟩
 ·have hin:=Fb h
  rw [if_neg h]
  go_enter Tryz.func84,Tryz.ntmps84
  go_wp2_with fail;refine (Dy _ _ _ _).mono ?_;rintro e w1 ⟨rfl,rfl⟩;rw [hin];go_wp2;go_ret;exact ⟨rfl,Below.refl _ _⟩
theorem Sq (w:World) (s:ByteArray):Calls Tryz.prog 83 #[.string s] w fun e w'=>(∃ r,e=.returned (.i r)∧Ve s r)∧Below w.heap.size w w':=by
 have hc:∀ i,i<30→(w.alloc (.cells opCells 9)).cell? ⟨w.heap.size,0+i,none⟩=some (.string (opNm.getD i ByteArray.empty)):=fun i hi=>by
  rw [World.cell?_alloc_at _ _ _ _ rfl]
  simpa using Ps i hi
 have L0:Below w.heap.size w (w.alloc (.cells opCells 9)):=(Below.refl _ _).alloc (Nat.le_refl _) _
 go_enter Tryz.func83,Tryz.ntmps83
 go_wp2_with fail;refine (Ue _).mono ?_;rintro e w1 ⟨rfl,rfl⟩;generalize w.alloc (.cells opCells 9)=wa at *;go_wp2
 go_loop [4] (fun i=>∃ q:Nat,q≤30∧i=.i q∧∀ j,j<q→¬ (opNm.getD j ByteArray.empty).toList=s.toList) (fun i=>30-(intOf i).toNat)
 case atStart=>exact ⟨0,Nat.zero_le _,rfl,fun j hj=>absurd hj (Nat.not_lt_zero _)⟩
 case round =>
  obtain ⟨q,hq,rfl,hno⟩:=hrel;have HN:=Ad hno;clear hno
  by_cases hlt:q<30
  ·have hlt':(q:Int)<30:=by omega
   have hcq:=hc q hlt;rw [Nat.zero_add] at hcq
   by_cases he:(opNm.getD q ByteArray.empty).toList=s.toList
   ·have he':((opNm.getD q ByteArray.empty).toList==s.toList)=true:=by simpa using he
    have HI:Hid (Ve s q):=Or.inl ⟨q,hlt,rfl,he⟩;clear he;generalize opNm.getD q ByteArray.empty=nm at *;go_wp2;go_ret;exact ⟨⟨_,rfl,HI.out⟩,L0⟩
   ·have he':((opNm.getD q ByteArray.empty).toList==s.toList)=false:=by simpa using he
    have hno2:∀ j,j<q+1→¬ (opNm.getD j ByteArray.empty).toList=s.toList:=fun j hj=>by
     by_cases e:j=q
     ·rw [e]; exact he
     ·exact Ab HN j (by omega)
    have HN2:=Ad hno2;clear he hno2;generalize opNm.getD q ByteArray.empty=nm at *;go_wp2
    go_round
    case rel=>exact ⟨q+1,by omega,by go_num,Ab HN2⟩
    case measure=>simp [intOf]; omega
  ·have hlt':¬ (q:Int)<30:=by omega
   go_wp2;go_ret;exact ⟨⟨_,rfl,Or.inr ⟨rfl,fun i hi=>Ab HN i (by omega)⟩⟩,L0⟩
theorem Ma (w:World) (x:Int):Calls Tryz.prog 78 #[.i x] w fun e w'=>e=.returned (.i (if 0≤x∧x≤29 then Jd.getD x.toNat 2 else 2))∧Below w.heap.size w w':=by
 by_cases h:0≤x∧x≤29
 ·have hin:=Cf h
  obtain ⟨i,rfl⟩:∃ i:Nat,x=i:=⟨x.toNat,by omega⟩
  have hi:i<30:=by omega
  rw [if_pos h]
  go_enter Tryz.func78,Tryz.ntmps78
  go_wp2_with fail;refine (Dy _ _ _ _).mono ?_;rintro e w1 ⟨rfl,rfl⟩;rw [hin];go_wp2;go_ret;exact ⟨congrArg Ending.returned (ints_at Jd 2 i hi),(Below.refl _ _).alloc (Nat.le_refl _) _⟩
 ·have hin:=Fb h
  rw [if_neg h]
  go_enter Tryz.func78,Tryz.ntmps78
  go_wp2_with fail;refine (Dy _ _ _ _).mono ?_;rintro e w1 ⟨rfl,rfl⟩;rw [hin];go_wp2;go_ret;exact ⟨rfl,Below.refl _ _⟩
def Di (x:Int):Int:=if x=2∨x=14∨x=29 then 1 else if x=3∨x=15 then 2 else 0
theorem C8 (w:World) (x:Int):Calls Tryz.prog 87 #[.i x] w fun e w'=>e=.returned (.i (Di x))∧w'=w:=by
 go_enter Tryz.func87,Tryz.ntmps87
 go_wp2
 all_goals go_ret
 all_goals (refine ⟨congrArg (fun n=>Ending.returned (.i n)) ?_,rfl⟩; unfold Di; grind)
end Go.Proofs.YtfjieibndedngaaGreat
