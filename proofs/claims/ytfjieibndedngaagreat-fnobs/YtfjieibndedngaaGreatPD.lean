import Derived.Test.YtfjieibndedngaaGreatGQ
namespace Go.Proofs.YtfjieibndedngaaGreat
set_option maxHeartbeats 1000000
set_option linter.unusedVariables false
set_option linter.unusedSimpArgs false
open Go.ChangeShapes Go.WideShapes Go.ChangeAt Go.RowKit
def Ff (n:Nat) (f:Nat→Int):Bool:=decide ((∀ i,i<n→0≤f i∧f i≤255)∧n≤20)
theorem Rt {n:Nat} {f:Nat→Int} {j:Nat} (hj:j<n) (h:¬ (0≤f j∧f j≤255)):Ff n f=false:=decide_eq_false (fun x=>h (x.1 j hj))
theorem P7 {n:Nat} {f:Nat→Int} (h:∀ j,j<n→0≤f j∧f j≤255):Ff n f=decide (n≤20):=decide_eq_decide.2 ⟨fun x=>x.2,fun x=>⟨h,x⟩⟩
theorem Ru {n:Nat} {f:Nat→Int} (h:Ff n f=true):(∀ j,j<n→0≤f j∧f j≤255)∧n≤20:=of_decide_eq_true h
def Hs (n:Nat) (f:Nat→Int) (t:Int):Int:=if Ff n f=true∧0<n then f ((max t 0/64)%n).toNat else 0
def Lh (v:Int):Bool:=v%2==1
def Im (H:Bool) (S:Int) (n:Nat) (f:Nat→Int) (t v:Int):Int:=if (H || Lh v)=true then Hs n f t else S
def Gb (H:Bool) (S:Int) (n:Nat) (f:Nat→Int) (t:Int):Int:=if H=true then Hs n f t else S/2
def Mq (H:Bool) (S:Int) (n:Nat) (f:Nat→Int) (t:Int):Int:=if H=true then Hs n f t%2 else S%2
theorem Jr (v:Int):bits .and .i64 v 1=v%2:=by
  have h:=Hn v 1 (by omega);have e:((v%256).toNat &&& 1)=(v%256).toNat%2:=Nat.and_one_is_mod _;rw [show ((1:Nat):Int)=(1:Int) from rfl] at h;rw [h,e]
  omega
theorem Js (w:World) (F:Nat→Nat→Prop) (u:Value) (n:Nat) (f:Nat→Int) (H:Ints .i64 w F u n f) :
    Calls Tryz.prog 45 #[u] w fun e w'=>e=.returned (.bool (Ff n f))∧w'=w:=by
  obtain ⟨a,cap,rfl,hn,hr,-⟩:=H;have HR:=Ad hr;clear hr
  go_enter Tryz.func45,Tryz.ntmps45
  go_wp2
  go_loopw [3] (fun i wr=>wr=w∧∃ k:Nat,k≤n∧i=.i k∧∀ j,j<k→0≤f j∧f j≤255) (fun i _=>n-(intOf i).toNat)
  case atStart=>exact ⟨rfl,0,Nat.zero_le _,rfl,fun j hj=>absurd hj (Nat.not_lt_zero _)⟩
  case round =>
    obtain ⟨rfl,k,hk,rfl,hall⟩:=hrel;have HA:=Ad hall;clear hall
    by_cases hlt:k<n
    · have hlt':(k:Int)<(n:Int):=by omega
      obtain ⟨b,o,rfl,hc⟩:=HR.out k hlt
      by_cases hin:0≤f k∧f k≤255
      · have HI:=Ad (fun W=>Ft W (f k))
        rw [Cf hin] at HI;go_wp2_with fail;refine (Ab HI _).mono ?_;rintro e w1 ⟨rfl,rfl⟩;go_wp2
        go_round
        case rel=>exact ⟨trivial,k+1,by omega,by go_num,fun j hj=>by
          by_cases e:j=k
          · rw [e]; exact hin
          · exact HA.out j (by omega)⟩
        case measure=>simp [intOf]; omega
      · have HI:=Ad (fun W=>Ft W (f k))
        rw [Fb hin] at HI;have HE:=Ad (Rt hlt hin);go_wp2_with fail;refine (Ab HI _).mono ?_;rintro e w1 ⟨rfl,rfl⟩;go_wp2;go_ret;exact ⟨Al HE.out.symm,rfl⟩
    · have hkn:k=n:=by omega
      subst hkn;have HE:=Ad (P7 HA.out)
      by_cases h20:k≤20
      · go_wp2
        go_ret;exact ⟨Al (by rw [HE.out,decide_eq_true h20,decide_eq_true (by omega)]),rfl⟩
      · go_wp2
        go_ret;exact ⟨Al (by rw [HE.out,decide_eq_false h20,decide_eq_false (by omega)]),rfl⟩
theorem Li (w:World) (F:Nat→Nat→Prop) (u:Value) (n:Nat) (f:Nat→Int) (t:Int) (ht:t≤9223372036854775807) (H:Ints .i64 w F u n f) :
    Calls Tryz.prog 105 #[u,.i t] w fun e w'=>e=.returned (.i (Hs n f t))∧w'=w:=by
  have HO:=Ad (Js w F u n f H);have HF:=Ad (fun W=>Ob W t ht);obtain ⟨a,cap,rfl,hn,hr,-⟩:=H
  obtain ⟨ok,hok⟩:∃ ok,Hid (ok=Ff n f):=⟨_,rfl⟩
  rw [← hok.out] at HO;have HR:=Ad hr;clear hr;cases ok
  · have HE:Hid (Hs n f t=0):=if_neg (by rw [← hok.out]; simp)
    go_enter Tryz.func105,Tryz.ntmps105
    go_wp2_with fail;refine (Ab HO).mono ?_;rintro e w1 ⟨rfl,rfl⟩;go_wp2;go_ret;exact ⟨Bs HE.out.symm,rfl⟩
  · by_cases h0:n=0
    · have HE:Hid (Hs n f t=0):=if_neg (by omega)
      subst h0
      go_enter Tryz.func105,Tryz.ntmps105
      go_wp2_with fail;refine (Ab HO).mono ?_;rintro e w1 ⟨rfl,rfl⟩;go_wp2;go_ret;exact ⟨Bs HE.out.symm,rfl⟩
    · have HE:Hid (Hs n f t=f ((max t 0/64)%n).toNat):=if_pos ⟨hok.out.symm,by omega⟩
      have h20:=(Ru hok.out.symm).2
      obtain ⟨q,hq⟩:∃ q,Hid (q=max t 0/64):=⟨_,rfl⟩
      have q0:0≤q:=by rw [hq.out]; omega
      have q1:q≤9223372036854775807:=by rw [hq.out]; omega
      rw [← hq.out] at HE HF;have hm:q.tmod n=q%n:=Int.tmod_eq_emod_of_nonneg q0;have hm1:q%(n:Int)<n:=Int.emod_lt_of_pos _ (by omega);have hm0:0≤q%(n:Int):=Int.emod_nonneg _ (by omega)
      obtain ⟨i,hi⟩:∃ i:Nat,q%(n:Int)=i:=⟨(q%(n:Int)).toNat,by omega⟩
      rw [hi] at hm hm1 hm0 HE
      have hin:i<n:=by omega
      obtain ⟨b,o,rfl,hc⟩:=HR.out i hin
      have hz:¬ (n:Int)=0:=by omega
      clear hm1 hm0 hi hq h0 HR
      go_enter Tryz.func105,Tryz.ntmps105
      go_wp2_with fail;refine (Ab HO).mono ?_;rintro e w1 ⟨rfl,rfl⟩;go_wp2_with fail;refine (Ab HF _).mono ?_;rintro e w1 ⟨rfl,rfl⟩;go_wp2;go_ret;exact ⟨Bs HE.out.symm,rfl⟩
theorem Mr (w:World) (F:Nat→Nat→Prop) (H:Bool) (S:Int) (u:Value) (n:Nat) (f:Nat→Int) (t v:Int) (ht:t≤9223372036854775807) (K:Ints .i64 w F u n f) :
    Calls Tryz.prog 95 #[.agg #[.bool H,.i S],u,.i t,.i v] w fun e w'=>e=.returned (.agg #[.bool (Lh v),.i (Im H S n f t v)])∧Below w.heap.size w w':=by
  have L2:∀ o o2:Obj,Below w.heap.size w ((w.alloc o).alloc o2):=fun o o2=>((Below.refl _ _).alloc (Nat.le_refl _) _).alloc (by simp) _
  have HP:=Ad (fun (o o2:Obj)=>Li ((w.alloc o).alloc o2) F u n f t ht (K.keep (Aa (L2 o o2) Ah) (fun _ _ _ x=>x)));obtain ⟨a,cap,rfl,hn,hr,-⟩:=K;clear hr;have m1:bits .and .i64 v 1=v%2:=Jr v
  obtain ⟨x,hx⟩:∃ x,Hid (x=Hs n f t):=⟨_,rfl⟩
  obtain ⟨h',hh⟩:∃ h',Hid (Lh v=h'):=⟨_,rfl⟩
  have hb:(v%2==1)=h':=hh.out
  obtain ⟨s',hs⟩:∃ s',Hid (Im H S n f t v=s'):=⟨_,rfl⟩
  have e:(if (H || h')=true then x else S)=s':=by rw [← hs.out,Im,← hh.out,← hx.out]
  rw [← hx.out] at HP;rw [hh.out,hs.out];clear hh hs hx
  cases H <;> cases h'
  · obtain rfl:S=s':=e
    go_enter Tryz.func95,Tryz.ntmps95
    go_wp2;refine bodyPost_ret (v:=.agg #[.bool false,.i S]) (by simp [results,Tryz.results95,go_sem]) rfl ?_;exact ⟨rfl,L2 _ _⟩
  all_goals
    obtain rfl:x=s':=e
    go_enter Tryz.func95,Tryz.ntmps95
    go_wp2_with (go_at_call 105; refine (Ab HP _ _).mono ?_; rintro e w1 ⟨rfl,rfl⟩)
    first
      | (refine bodyPost_ret (v:=.agg #[.bool true,.i x]) (by simp [results,Tryz.results95,go_sem]) rfl ?_
         exact ⟨rfl,L2 _ _⟩)
      | (refine bodyPost_ret (v:=.agg #[.bool false,.i x]) (by simp [results,Tryz.results95,go_sem]) rfl ?_
         exact ⟨rfl,L2 _ _⟩)
theorem Of (w:World) (F:Nat→Nat→Prop) (H:Bool) (S:Int) (u:Value) (n:Nat) (f:Nat→Int) (t:Int) (ht:t≤9223372036854775807) (K:Ints .i64 w F u n f) :
    Calls Tryz.prog 92 #[.agg #[.bool H,.i S],u,.i t] w fun e w'=>e=.returned (.tuple #[.agg #[.bool H,.i (Gb H S n f t)],.i (Mq H S n f t)])∧Below w.heap.size w w':=by
  have L2:∀ o o2:Obj,Below w.heap.size w ((w.alloc o).alloc o2):=fun o o2=>((Below.refl _ _).alloc (Nat.le_refl _) _).alloc (by simp) _
  have HP:=Ad (fun (o o2:Obj)=>Li ((w.alloc o).alloc o2) F u n f t ht (K.keep (Aa (L2 o o2) Ah) (fun _ _ _ x=>x)));obtain ⟨a,cap,rfl,hn,hr,-⟩:=K;clear hr;cases H
  · have HE:Hid (Gb false S n f t=S/2∧Mq false S n f t=S%2):=by show _∧_; simp [Gb,Mq]
    rw [HE.out.1,HE.out.2];have m1:bits .and .i64 S 1=S%2:=Jr S;clear HE
    go_enter Tryz.func92,Tryz.ntmps92
    go_wp2;refine bodyPost_ret (v:=.tuple #[.agg #[.bool false,.i (S/2)],.i (S%2)]) (by simp [results,Tryz.results92,go_sem]) rfl ?_;exact ⟨rfl,L2 _ _⟩
  · obtain ⟨x,hx⟩:∃ x,Hid (x=Hs n f t):=⟨_,rfl⟩
    have HE:Hid (Gb true S n f t=x∧Mq true S n f t=x%2):=by show _∧_; rw [hx.out]; simp [Gb,Mq]
    rw [HE.out.1,HE.out.2];have m1:bits .and .i64 x 1=x%2:=Jr x;rw [← hx.out] at HP;clear HE hx
    go_enter Tryz.func92,Tryz.ntmps92
    go_wp2_with (go_at_call 105; refine (Ab HP _ _).mono ?_; rintro e w1 ⟨rfl,rfl⟩)
    go_region
    all_goals (
      go_wp2;refine bodyPost_ret (v:=.tuple #[.agg #[.bool true,.i x],.i (x%2)]) (by simp [results,Tryz.results92,go_sem]) rfl ?_
      exact ⟨rfl,(L2 _ _).trans ⟨rfl,rfl,rfl,Nat.le_refl _,fun _ _=>rfl⟩⟩)
end Go.Proofs.YtfjieibndedngaaGreat
