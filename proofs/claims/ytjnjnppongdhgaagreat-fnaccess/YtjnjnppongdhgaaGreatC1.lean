import Derived.Test.YtjnjnppongdhgaaGreatRows
import Derived.Test.YtjnjnppongdhgaaGreatMath
namespace Go.Proofs.YtjnjnppongdhgaaGreat
open Go.ChangeShapes Go.WideShapes Go.ChangeAt Go.RowKit
theorem Bc (x:Int) (w:World):Calls Tryz.prog 113 #[.i x] w fun e w'=>e=.returned (.i (x%256))∧w'=w:=by
 go_enter Tryz.func113,Tryz.ntmps113
 go_wp2;go_ret;exact ⟨A7 (Kg x),rfl⟩
theorem Dk (x:Int) (w:World):Calls Tryz.prog 92 #[.i x] w fun e w'=>e=.returned (.i (x%256))∧w'=w:=by
 go_enter Tryz.func92,Tryz.ntmps92
 go_wp2;go_ret;exact ⟨rfl,rfl⟩
theorem Cc (x:Int) (w:World):Calls Tryz.prog 104 #[.i x] w fun e w'=>e=.returned (.i (x%65536))∧w'=w:=by
 go_enter Tryz.func104,Tryz.ntmps104
 go_wp2;go_ret;exact ⟨A7 (Ny x),rfl⟩
theorem Vh (x:Int) (w:World):Calls Tryz.prog 93 #[.i x] w fun e w'=>e=.returned (.i (x%65536))∧w'=w:=by
 go_enter Tryz.func93,Tryz.ntmps93
 go_wp2;go_ret;exact ⟨A7 (by rw [IntKind.wrap_u16]; exact IntWalk.wrap64_in _ (by omega)),rfl⟩
theorem Pn (b:Bool) (w:World):Calls Tryz.prog 105 #[.bool b] w fun e w'=>e=.returned (.i (Bb b))∧w'=w:=by
 cases b <;> (go_enter Tryz.func105,Tryz.ntmps105; go_wp2; go_ret; exact ⟨rfl,rfl⟩)
theorem Vi (a b:Int) (c:Bool) (w:World):Calls Tryz.prog 168 #[.i a,.i b,.bool c] w fun e w'=>e=.returned (.tuple #[.i ((a%256+b%256+Bb c)%256),.bool (decide (255<a%256+b%256+Bb c))])∧w'=w:=by
 have hc:0≤Bb c∧Bb c≤1:=by cases c <;> simp [Bb]
 go_enter Tryz.func168,Tryz.ntmps168
 go_wp2_with (first | (go_at_call 113; refine (Bc _ _).mono ?_; rintro e w' ⟨rfl,rfl⟩) | (go_at_call 105; refine (Pn _ _).mono ?_; rintro e w' ⟨rfl,rfl⟩));go_ret2;exact ⟨Kh rfl rfl,rfl⟩
theorem Vj (a b:Int) (c:Bool) (w:World):Calls Tryz.prog 165 #[.i a,.i b,.bool c] w fun e w'=>e=.returned (.tuple #[.i ((a%256-b%256-1+Bb c)%256),.bool (decide (0≤a%256-b%256-1+Bb c))])∧w'=w:=by
 have hc:0≤Bb c∧Bb c≤1:=by cases c <;> simp [Bb]
 go_enter Tryz.func165,Tryz.ntmps165
 go_wp2_with (first | (go_at_call 113; refine (Bc _ _).mono ?_; rintro e w' ⟨rfl,rfl⟩) | (go_at_call 105; refine (Pn _ _).mono ?_; rintro e w' ⟨rfl,rfl⟩));go_ret2;exact ⟨Kh rfl rfl,rfl⟩
theorem Jh (x:Int) (w:World):Calls Tryz.prog 166 #[.i x] w fun e w'=>e=.returned (.tuple #[.bool (x%256==0),.bool (decide (127<x%256))])∧w'=w:=by
 go_enter Tryz.func166,Tryz.ntmps166
 go_wp2_with (first | (go_at_call 113; refine (Bc _ _).mono ?_; rintro e w' ⟨rfl,rfl⟩));go_ret2;exact ⟨Kh rfl rfl,rfl⟩
theorem It (a b:Int) (w:World):Calls Tryz.prog 135 #[.i a,.i b] w fun e w'=>e=.returned (.i (a%256+256*(b%256)))∧w'=w:=by
 go_enter Tryz.func135,Tryz.ntmps135
 go_wp2_with (first | (go_at_call 113; refine (Bc _ _).mono ?_; rintro e w' ⟨rfl,rfl⟩));go_ret;exact ⟨A7 rfl,rfl⟩
end Go.Proofs.YtjnjnppongdhgaaGreat
