import Derived.Test.YtgcmimcalmjaaaaGreatDoorI8d
namespace Go.Proofs.YtgcmimcalmjaaaaGreatDoor
set_option maxHeartbeats 1000000
set_option linter.unusedVariables false
set_option linter.unusedSimpArgs false
open Go.ChangeShapes Go.WideShapes Go.ChangeAt Go.RowKit
def Dr (n:Nat) (f:Nat→Int):Bool:=decide ((∀ i,i<n→0≤f i∧f i≤255)∧n≤20)
theorem Ww {n:Nat} {f:Nat→Int} {j:Nat} (hj:j<n) (h:¬ (0≤f j∧f j≤255)):Dr n f=false:=decide_eq_false (fun x=>h (x.1 j hj))
theorem Tl {n:Nat} {f:Nat→Int} (h:∀ j,j<n→0≤f j∧f j≤255):Dr n f=decide (n≤20):=decide_eq_decide.2 ⟨fun x=>x.2,fun x=>⟨h,x⟩⟩
theorem Ov {n:Nat} {f:Nat→Int} (h:Dr n f=true):(∀ j,j<n→0≤f j∧f j≤255)∧n≤20:=of_decide_eq_true h
def Fj (n:Nat) (f:Nat→Int) (t:Int):Int:=if Dr n f=true∧0<n then f ((max t 0/64)%n).toNat else 0
def Gr (v:Int):Bool:=v%2==1
def Eo (H:Bool) (S:Int) (n:Nat) (f:Nat→Int) (t v:Int):Int:=if (H || Gr v)=true then Fj n f t else S
def Ea (H:Bool) (S:Int) (n:Nat) (f:Nat→Int) (t:Int):Int:=if H=true then Fj n f t else S/2
def Ig (H:Bool) (S:Int) (n:Nat) (f:Nat→Int) (t:Int):Int:=if H=true then Fj n f t%2 else S%2
theorem Jx (v:Int):bits .and .i64 v 1=v%2:=by
  have h:=Jp v 1 (by omega);have e:((v%256).toNat &&& 1)=(v%256).toNat%2:=Nat.and_one_is_mod _;rw [show ((1:Nat):Int)=(1:Int) from rfl] at h;rw [h,e]
  omega
theorem Jdg (w:World) (H:Bool) (S:Int):Calls Tryz.prog 25 #[.agg #[.bool H,.i S]] w
    fun e w'=>e=.returned (.agg #[.bool H,.i S])∧Below w.heap.size w w':=by
  go_enter Tryz.func25,Tryz.ntmps25
  go_wp2;refine bodyPost_ret (v:=.agg #[.bool H,.i S]) (by simp [results,Tryz.results25,go_sem]) rfl ?_;exact ⟨rfl,(((Below.refl _ _).alloc (Nat.le_refl _) _).alloc (by simp) _).alloc (by simp; omega) _⟩
theorem Tm (w:World) (H:Bool) (S:Int):Calls Tryz.prog 36 #[.agg #[.bool H,.i S],.agg #[.bool H,.i S]] w
    fun e w'=>e=.returned (.bool true)∧Below w.heap.size w w':=by
  go_enter Tryz.func36,Tryz.ntmps36
  go_wp2;go_ret;exact ⟨rfl,((Below.refl _ _).alloc (Nat.le_refl _) _).alloc (by simp) _⟩
theorem Mg (w:World) (F:Nat→Nat→Prop) (u:Value) (n:Nat) (f:Nat→Int) (H:Ints .i64 w F u n f) :
    Calls Tryz.prog 49 #[u] w fun e w'=>e=.returned (.bool (Dr n f))∧w'=w:=by
  obtain ⟨a,cap,rfl,hn,hr,-⟩:=H;have HR:=Ad hr;clear hr
  go_enter Tryz.func49,Tryz.ntmps49
  go_wp2
  go_loopw [3] (fun i wr=>wr=w∧∃ k:Nat,k≤n∧i=.i k∧∀ j,j<k→0≤f j∧f j≤255) (fun i _=>n-(intOf i).toNat)
  case atStart=>exact ⟨rfl,0,Nat.zero_le _,rfl,fun j hj=>absurd hj (Nat.not_lt_zero _)⟩
  case round =>
    obtain ⟨rfl,k,hk,rfl,hall⟩:=hrel;have HA:=Ad hall;clear hall
    by_cases hlt:k<n
    · have hlt':(k:Int)<(n:Int):=by omega
      obtain ⟨b,o,rfl,hc⟩:=HR.out k hlt
      by_cases hin:0≤f k∧f k≤255
      · have HI:=Ad (fun W=>Ha W (f k))
        rw [Bn hin] at HI;go_wp2_with fail;refine (An HI _).mono ?_;rintro e w1 ⟨rfl,rfl⟩;go_wp2
        go_round
        case rel=>exact ⟨trivial,k+1,by omega,by go_num,fun j hj=>by
          by_cases e:j=k
          · rw [e]; exact hin
          · exact HA.out j (by omega)⟩
        case measure=>simp [intOf]; omega
      · have HI:=Ad (fun W=>Ha W (f k))
        rw [Cu hin] at HI;have HE:=Ad (Ww hlt hin);go_wp2_with fail;refine (An HI _).mono ?_;rintro e w1 ⟨rfl,rfl⟩;go_wp2;go_ret;exact ⟨Ap HE.out.symm,rfl⟩
    · have hkn:k=n:=by omega
      subst hkn;have HE:=Ad (Tl HA.out)
      by_cases h20:k≤20
      · go_wp2
        go_ret;exact ⟨Ap (by rw [HE.out,decide_eq_true h20,decide_eq_true (by omega)]),rfl⟩
      · go_wp2
        go_ret;exact ⟨Ap (by rw [HE.out,decide_eq_false h20,decide_eq_false (by omega)]),rfl⟩
theorem Ow (w:World) (F:Nat→Nat→Prop) (u:Value) (n:Nat) (f:Nat→Int) (t:Int) (ht:t≤9223372036854775807) (H:Ints .i64 w F u n f) :
    Calls Tryz.prog 146 #[u,.i t] w fun e w'=>e=.returned (.i (Fj n f t))∧w'=w:=by
  have HO:=Ad (Mg w F u n f H);have HF:=Ad (fun W=>Q9 W t ht);obtain ⟨a,cap,rfl,hn,hr,-⟩:=H
  obtain ⟨ok,hok⟩:∃ ok,Hid (ok=Dr n f):=⟨_,rfl⟩
  rw [← hok.out] at HO;have HR:=Ad hr;clear hr;cases ok
  · have HE:Hid (Fj n f t=0):=if_neg (by rw [← hok.out]; simp)
    go_enter Tryz.func146,Tryz.ntmps146
    go_wp2_with fail;refine (An HO).mono ?_;rintro e w1 ⟨rfl,rfl⟩;go_wp2;go_ret;exact ⟨Az HE.out.symm,rfl⟩
  · by_cases h0:n=0
    · have HE:Hid (Fj n f t=0):=if_neg (by omega)
      subst h0
      go_enter Tryz.func146,Tryz.ntmps146
      go_wp2_with fail;refine (An HO).mono ?_;rintro e w1 ⟨rfl,rfl⟩;go_wp2;go_ret;exact ⟨Az HE.out.symm,rfl⟩
    · have HE:Hid (Fj n f t=f ((max t 0/64)%n).toNat):=if_pos ⟨hok.out.symm,by omega⟩
      have h20:=(Ov hok.out.symm).2
      obtain ⟨q,hq⟩:∃ q,Hid (q=max t 0/64):=⟨_,rfl⟩
      have q0:0≤q:=by rw [hq.out]; omega
      have q1:q≤9223372036854775807:=by rw [hq.out]; omega
      rw [← hq.out] at HE HF;have hm:q.tmod n=q%n:=Int.tmod_eq_emod_of_nonneg q0;have hm1:q%(n:Int)<n:=Int.emod_lt_of_pos _ (by omega);have hm0:0≤q%(n:Int):=Int.emod_nonneg _ (by omega)
      obtain ⟨i,hi⟩:∃ i:Nat,q%(n:Int)=i:=⟨(q%(n:Int)).toNat,by omega⟩
      rw [hi] at hm hm1 hm0 HE
      have hin:i<n:=by omega
      obtain ⟨b,o,rfl,hc⟩:=HR.out i hin
      have hz:¬ (n:Int)=0:=by omega
      clear hm1 hm0 hi hq h0 HR
      go_enter Tryz.func146,Tryz.ntmps146
      go_wp2_with fail;refine (An HO).mono ?_;rintro e w1 ⟨rfl,rfl⟩;go_wp2_with fail;refine (An HF _).mono ?_;rintro e w1 ⟨rfl,rfl⟩;go_wp2;go_ret;exact ⟨Az HE.out.symm,rfl⟩
theorem Qa (w:World) (F:Nat→Nat→Prop) (H:Bool) (S:Int) (u:Value) (n:Nat) (f:Nat→Int) (t v:Int) (ht:t≤9223372036854775807) (K:Ints .i64 w F u n f) :
    Calls Tryz.prog 124 #[.agg #[.bool H,.i S],u,.i t,.i v] w fun e w'=>e=.returned (.agg #[.bool (Gr v),.i (Eo H S n f t v)])∧Below w.heap.size w w':=by
  have L2:∀ o o2:Obj,Below w.heap.size w ((w.alloc o).alloc o2):=fun o o2=>((Below.refl _ _).alloc (Nat.le_refl _) _).alloc (by simp) _
  have HP:=Ad (fun (o o2:Obj)=>Ow ((w.alloc o).alloc o2) F u n f t ht (K.keep (Ab (L2 o o2) Aj) (fun _ _ _ x=>x)));obtain ⟨a,cap,rfl,hn,hr,-⟩:=K;clear hr;have m1:bits .and .i64 v 1=v%2:=Jx v
  obtain ⟨x,hx⟩:∃ x,Hid (x=Fj n f t):=⟨_,rfl⟩
  obtain ⟨h',hh⟩:∃ h',Hid (Gr v=h'):=⟨_,rfl⟩
  have hb:(v%2==1)=h':=hh.out
  obtain ⟨s',hs⟩:∃ s',Hid (Eo H S n f t v=s'):=⟨_,rfl⟩
  have e:(if (H || h')=true then x else S)=s':=by rw [← hs.out,Eo,← hh.out,← hx.out]
  rw [← hx.out] at HP;rw [hh.out,hs.out];clear hh hs hx
  cases H <;> cases h'
  · obtain rfl:S=s':=e
    go_enter Tryz.func124,Tryz.ntmps124
    go_wp2;refine bodyPost_ret (v:=.agg #[.bool false,.i S]) (by simp [results,Tryz.results124,go_sem]) rfl ?_;exact ⟨rfl,L2 _ _⟩
  all_goals
    obtain rfl:x=s':=e
    go_enter Tryz.func124,Tryz.ntmps124
    go_wp2_with (go_at_call 146; refine (An HP _ _).mono ?_; rintro e w1 ⟨rfl,rfl⟩)
    first
      | (refine bodyPost_ret (v:=.agg #[.bool true,.i x]) (by simp [results,Tryz.results124,go_sem]) rfl ?_
         exact ⟨rfl,L2 _ _⟩)
      | (refine bodyPost_ret (v:=.agg #[.bool false,.i x]) (by simp [results,Tryz.results124,go_sem]) rfl ?_
         exact ⟨rfl,L2 _ _⟩)
theorem Ri (w:World) (F:Nat→Nat→Prop) (H:Bool) (S:Int) (u:Value) (n:Nat) (f:Nat→Int) (t:Int) (ht:t≤9223372036854775807) (K:Ints .i64 w F u n f) :
    Calls Tryz.prog 120 #[.agg #[.bool H,.i S],u,.i t] w fun e w'=>e=.returned (.tuple #[.agg #[.bool H,.i (Ea H S n f t)],.i (Ig H S n f t)])∧Below w.heap.size w w':=by
  have L2:∀ o o2:Obj,Below w.heap.size w ((w.alloc o).alloc o2):=fun o o2=>((Below.refl _ _).alloc (Nat.le_refl _) _).alloc (by simp) _
  have HP:=Ad (fun (o o2:Obj)=>Ow ((w.alloc o).alloc o2) F u n f t ht (K.keep (Ab (L2 o o2) Aj) (fun _ _ _ x=>x)));obtain ⟨a,cap,rfl,hn,hr,-⟩:=K;clear hr;cases H
  · have HE:Hid (Ea false S n f t=S/2∧Ig false S n f t=S%2):=by show _∧_; simp [Ea,Ig]
    rw [HE.out.1,HE.out.2];have m1:bits .and .i64 S 1=S%2:=Jx S;clear HE
    go_enter Tryz.func120,Tryz.ntmps120
    go_wp2;refine bodyPost_ret (v:=.tuple #[.agg #[.bool false,.i (S/2)],.i (S%2)]) (by simp [results,Tryz.results120,go_sem]) rfl ?_;exact ⟨rfl,L2 _ _⟩
  · obtain ⟨x,hx⟩:∃ x,Hid (x=Fj n f t):=⟨_,rfl⟩
    have HE:Hid (Ea true S n f t=x∧Ig true S n f t=x%2):=by show _∧_; rw [hx.out]; simp [Ea,Ig]
    rw [HE.out.1,HE.out.2];have m1:bits .and .i64 x 1=x%2:=Jx x;rw [← hx.out] at HP;clear HE hx
    go_enter Tryz.func120,Tryz.ntmps120
    go_wp2_with (go_at_call 146; refine (An HP _ _).mono ?_; rintro e w1 ⟨rfl,rfl⟩)
    go_region
    all_goals (
      go_wp2;refine bodyPost_ret (v:=.tuple #[.agg #[.bool true,.i x],.i (x%2)]) (by simp [results,Tryz.results120,go_sem]) rfl ?_
      exact ⟨rfl,(L2 _ _).trans ⟨rfl,rfl,rfl,Nat.le_refl _,fun _ _=>rfl⟩⟩)
set_option maxHeartbeats 1000000
theorem Rj {n:Nat} {f:Nat→Int} (h:n≤20):Dr n f=Nl n f:=by
 unfold Dr Nl;refine decide_eq_decide.2 ⟨fun x j hj=>Bn (x.1 j hj),fun x=>⟨fun j hj=>?_,h⟩⟩
 by_cases hc:0≤f j∧f j≤255
 ·exact hc
 ·have:=x j hj
  rw [Cu hc] at this;cases this
theorem Rk {n:Nat} {f:Nat→Int} (h:¬ n≤20):Dr n f=false:=decide_eq_false (fun x=>h x.2)
theorem Kr (w:World) (F:Nat→Nat→Prop) (u:Value) (n:Nat) (f:Nat→Int) (H:Ints .i64 w F u n f) :
  Calls Tryz.prog 65 #[u] w fun e w'=>e=.returned (.bool (Dr n f))∧w'=w:=by
 have HA:=Ad (Qy w F u n f H);obtain ⟨a,cap,rfl,hn,hr,-⟩:=H;clear hr
 by_cases h20:n≤20
 ·have HE:=Ad (Rj (f:=f) h20)
  have h20':(n:Int)≤20:=by omega
  obtain ⟨ok,hok⟩:∃ ok,Hid (ok=Nl n f):=⟨_,rfl⟩
  rw [← hok.out] at HA HE
  go_enter Tryz.func65,Tryz.ntmps65
  go_wp2_with fail;refine (An HA).mono ?_;rintro e w1 ⟨rfl,rfl⟩;go_wp2;go_ret;exact ⟨Ap HE.out.symm,rfl⟩
 ·have HE:=Ad (Rk (f:=f) h20)
  have h20':¬ (n:Int)≤20:=by omega
  go_enter Tryz.func65,Tryz.ntmps65
  go_wp2;go_ret;exact ⟨Ap HE.out.symm,rfl⟩
theorem Mh (w:World) (F:Nat→Nat→Prop) (u:Value) (n:Nat) (f:Nat→Int) (t:Int) (ht:t≤9223372036854775807) (H:Ints .i64 w F u n f) :
  Calls Tryz.prog 186 #[u,.i t] w fun e w'=>e=.returned (.i (Fj n f t))∧w'=w:=by
 have HO:=Ad (Kr w F u n f H);have HF:=Ad (fun W=>Kp W t ht);obtain ⟨a,cap,rfl,hn,hr,-⟩:=H
 obtain ⟨ok,hok⟩:∃ ok,Hid (ok=Dr n f):=⟨_,rfl⟩
 rw [← hok.out] at HO;have HR:=Ad hr;clear hr
 by_cases h0:n=0
 ·have HE:Hid (Fj n f t=0):=if_neg (by omega)
  subst h0
  go_enter Tryz.func186,Tryz.ntmps186
  go_wp2;go_ret;exact ⟨Az HE.out.symm,rfl⟩
 ·have hz:¬ (n:Int)=0:=by omega
  cases ok
  ·have HE:Hid (Fj n f t=0):=if_neg (by rw [← hok.out]; simp)
   go_enter Tryz.func186,Tryz.ntmps186
   go_wp2_with fail;refine (An HO).mono ?_;rintro e w1 ⟨rfl,rfl⟩;go_wp2;go_ret;exact ⟨Az HE.out.symm,rfl⟩
  ·have HE:Hid (Fj n f t=f ((max t 0/64)%n).toNat):=if_pos ⟨hok.out.symm,by omega⟩
   have h20:=(Ov hok.out.symm).2
   obtain ⟨q,hq⟩:∃ q,Hid (q=max t 0/64):=⟨_,rfl⟩
   have q0:0≤q:=by rw [hq.out]; omega
   have q1:q≤9223372036854775807:=by rw [hq.out]; omega
   rw [← hq.out] at HE HF;have hm:q.tmod n=q%n:=Int.tmod_eq_emod_of_nonneg q0;have hm1:q%(n:Int)<n:=Int.emod_lt_of_pos _ (by omega);have hm0:0≤q%(n:Int):=Int.emod_nonneg _ (by omega)
   obtain ⟨i,hi⟩:∃ i:Nat,q%(n:Int)=i:=⟨(q%(n:Int)).toNat,by omega⟩
   rw [hi] at hm hm1 hm0 HE
   have hin:i<n:=by omega
   obtain ⟨b,o,rfl,hc⟩:=HR.out i hin;clear hm1 hm0 hi hq h0 HR
   go_enter Tryz.func186,Tryz.ntmps186
   go_wp2_with fail;refine (An HO).mono ?_;rintro e w1 ⟨rfl,rfl⟩;go_wp2_with fail;refine (An HF _).mono ?_;rintro e w1 ⟨rfl,rfl⟩;go_wp2;go_ret;exact ⟨Az HE.out.symm,rfl⟩
theorem Y8 {v:Int} (h:v%2=0):v.tmod 2=0∧Gr v=false:=⟨Int.tmod_eq_zero_of_dvd (Int.dvd_of_emod_eq_zero h),by unfold Gr; rw [h]; rfl⟩
theorem Wx {v:Int} (h:¬ v%2=0):¬ v.tmod 2=0∧Gr v=true:=⟨fun e=>h (Int.emod_eq_zero_of_dvd (Int.dvd_of_tmod_eq_zero e)),by unfold Gr; rw [show v%2=1 by omega]; rfl⟩
theorem Qb (w:World) (F:Nat→Nat→Prop) (H:Bool) (S:Int) (u:Value) (n:Nat) (f:Nat→Int) (t v:Int) (ht:t≤9223372036854775807) (K:Ints .i64 w F u n f) :
  Calls Tryz.prog 167 #[.agg #[.bool H,.i S],u,.i t,.i v] w fun e w'=>e=.returned (.agg #[.bool (Gr v),.i (Eo H S n f t v)])∧Below w.heap.size w w':=by
 have L2:∀ o o2:Obj,Below w.heap.size w ((w.alloc o).alloc o2):=fun o o2=>((Below.refl _ _).alloc (Nat.le_refl _) _).alloc (by simp) _
 have HP:=Ad (fun (W:World) (L:Below w.heap.size w W)=>Mh W F u n f t ht (K.keep (Ab L Aj) (fun _ _ _ x=>x)));obtain ⟨a,cap,rfl,hn,hr,-⟩:=K;clear hr
 obtain ⟨x,hx⟩:∃ x,Hid (x=Fj n f t):=⟨_,rfl⟩
 by_cases hv:v%2=0
 ·obtain ⟨h1,h2⟩:=Y8 hv
  have hs:Hid (Eo H S n f t v=if H=true then x else S):=by show _=_; rw [hx.out,Eo,h2]; simp
  rw [hs.out,h2];rw [← hx.out] at HP;clear hs hx hv h2;cases H
  ·have hs2:¬ (false=true):=by decide
   go_enter Tryz.func167,Tryz.ntmps167
   go_wp2_with (go_at_call 186; refine (An HP _ (L2 _ _)).mono ?_; rintro e w1 ⟨rfl,rfl⟩);refine bodyPost_ret (v:=.agg #[.bool false,.i S]) (by simp [results,Tryz.results167,go_sem]) rfl ?_;exact ⟨rfl,L2 _ _⟩
  ·have hs2:True:=trivial
   go_enter Tryz.func167,Tryz.ntmps167
   go_wp2_with (go_at_call 186; refine (An HP _ (L2 _ _)).mono ?_; rintro e w1 ⟨rfl,rfl⟩);refine bodyPost_ret (v:=.agg #[.bool false,.i x]) (by simp [results,Tryz.results167,go_sem]) rfl ?_;exact ⟨rfl,L2 _ _⟩
 ·obtain ⟨h1,h2⟩:=Wx hv
  have hs:Hid (Eo H S n f t v=x):=by show _=_; rw [hx.out,Eo,h2]; simp
  rw [hs.out,h2];rw [← hx.out] at HP;clear hs hx hv h2
  go_enter Tryz.func167,Tryz.ntmps167
  go_wp2_with (go_at_call 186; refine (An HP _ (L2 _ _)).mono ?_; rintro e w1 ⟨rfl,rfl⟩);refine bodyPost_ret (v:=.agg #[.bool true,.i x]) (by simp [results,Tryz.results167,go_sem,h1]) rfl ?_;exact ⟨rfl,L2 _ _⟩
theorem Rl (w:World) (b c:Nat) (H:Bool) (S:Int) (hb:w.heap[b]?=some (.cells #[.i S] 3 (0,0))) (hc:w.heap[c]?=some (.cells #[.bool H,.i S] 46 (0,0))) (m:Nat) (hm:m≤b) :
  Calls Tryz.prog 223 #[(pt b 0),(pt c 0)] w fun e w'=>e=.returned (.tuple #[.i (S%2),.i (if H then S else S/2)])∧Below m w w':=by
 have m1:bits .and .i64 S 1=S%2:=Jx S;have cb:=Ag hb;have fb:=As hb;have cc:=Ag hc;clear hb hc;cases H
 ·go_enter Tryz.func223,Tryz.ntmps223
  go_wp2
  go_region
  all_goals (
   go_wp2;refine bodyPost_ret (v:=.tuple #[.i (S%2),.i (S/2)]) (by simp [results,Tryz.results223,go_sem]) rfl ?_
   exact ⟨rfl,(((Below.refl m w).setCell hm _).trans ⟨rfl,rfl,rfl,Nat.le_refl _,fun _ _=>rfl⟩)⟩)
 ·go_enter Tryz.func223,Tryz.ntmps223
  go_wp2
  go_region
  all_goals (
   go_wp2;refine bodyPost_ret (v:=.tuple #[.i (S%2),.i S]) (by simp [results,Tryz.results223,go_sem]) rfl ?_
   exact ⟨rfl,⟨rfl,rfl,rfl,Nat.le_refl _,fun _ _=>rfl⟩⟩)
theorem U9 (w:World) (H:Bool) (S:Int) :
  Calls Tryz.prog 187 #[.agg #[.bool H,.i S]] w fun e w'=>e=.returned (.func (.func 223) #[] #[(pt (w.heap.size+1) 0),(pt w.heap.size 0)])∧w'.heap[w.heap.size]?=some (.cells #[.bool H,.i S] 46 (0,0))∧w'.heap[w.heap.size+1]?=some (.cells #[.i S] 3 (0,0))∧Below w.heap.size w w':=by
 have hmf:∀ (fn:Fn) (first cap:Array Value) (w:World),(Instr.makeFunc fn first cap).run Tryz.prog w=.ok (.func fn first cap) w:=fun _ _ _ _=>rfl
 have k1:((w.alloc (.cells #[.bool H,.i S] 46)).alloc (.cells #[.i S] 3)).heap[w.heap.size+1]?=some (.cells #[.i S] 3 (0,0)):=by simpa using Al (w.alloc (.cells #[.bool H,.i S] 46)) #[.i S] 3
 go_enter Tryz.func187,Tryz.ntmps187
 go_wp2;go_ret;exact ⟨rfl,Ax (Al w _ _) _,k1,((Below.refl _ _).alloc (Nat.le_refl _) _).alloc (by simp) _⟩
theorem Rm (w:World) (F:Nat→Nat→Prop) (H:Bool) (S:Int) (u:Value) (n:Nat) (f:Nat→Int) (t:Int) (ht:t≤9223372036854775807) (K:Ints .i64 w F u n f) :
  Calls Tryz.prog 164 #[.agg #[.bool H,.i S],u,.i t] w fun e w'=>e=.returned (.tuple #[.agg #[.bool H,.i (Ea H S n f t)],.i (Ig H S n f t)])∧Below w.heap.size w w':=by
 have L2:∀ o o2:Obj,Below w.heap.size w ((w.alloc o).alloc o2):=fun o o2=>((Below.refl _ _).alloc (Nat.le_refl _) _).alloc (by simp) _
 have HP:=Ad (fun (W:World) (L:Below w.heap.size w W)=>Mh W F u n f t ht (K.keep (Ab L Aj) (fun _ _ _ x=>x)));obtain ⟨a,cap,rfl,hn,hr,-⟩:=K;clear hr
 have L0:∀ s:Int,Below w.heap.size w ((w.alloc (.cells #[.bool H,.i s] 46)).alloc (.cells #[.bool false,.i 0] 46)):=fun s=>L2 _ _
 have k0:∀ s:Int,((w.alloc (.cells #[.bool H,.i s] 46)).alloc (.cells #[.bool false,.i 0] 46)).heap[w.heap.size]?=some (.cells #[.bool H,.i s] 46 (0,0)):=fun s=>Ax (Al w _ _) _
 have k1:∀ s:Int,((w.alloc (.cells #[.bool H,.i s] 46)).alloc (.cells #[.bool false,.i 0] 46)).heap[w.heap.size+1]?=some (.cells #[.bool false,.i 0] 46 (0,0)):=fun s=>by simpa using Al (w.alloc (.cells #[.bool H,.i s] 46)) #[.bool false,.i 0] 46
 have hW0:∀ s:Int,w.heap.size+2≤((w.alloc (.cells #[.bool H,.i s] 46)).alloc (.cells #[.bool false,.i 0] 46)).heap.size:=fun s=>by simp
 cases H
 ·have HE:Hid (Ea false S n f t=S/2∧Ig false S n f t=S%2):=by show _∧_; simp [Ea,Ig]
  rw [HE.out.1,HE.out.2];replace L0:=L0 S;replace k0:=k0 S;replace k1:=k1 S;replace hW0:=hW0 S;clear HE HP L2
  go_enter Tryz.func164,Tryz.ntmps164
  go_wp2_with fail;generalize ((w.alloc (.cells #[.bool false,.i S] 46)).alloc (.cells #[.bool false,.i 0] 46))=W0 at *;refine (U9 W0 false S).mono ?_;rintro e W1 ⟨rfl,b0,b1,L1⟩;have C1:=Ae L0 L1;replace k0:=Aa k0 L1 (Ac k0);replace k1:=Aa k1 L1 (Ac k1);clear L0 L1;go_wp2_with fail;refine (Rl W1 (W0.heap.size+1) W0.heap.size false S b1 b0 (w.heap.size+2) (by omega)).mono ?_;rintro e W2 ⟨rfl,L2⟩;have C2:Below w.heap.size w W2:=C1.trans (L2.mono (by omega));replace k0:=Aa k0 L2 (by omega);replace k1:=Aa k1 L2 (by omega);have c0:=Ag k0;have c1:=Ag k1;have f1:=As k1;clear L2 C1 b0 b1 hW0;go_wp2;refine bodyPost_ret (v:=.tuple #[.agg #[.bool false,.i (S/2)],.i (S%2)]) (by simp [results,Tryz.results164,go_sem,c1]) rfl ?_;exact ⟨rfl,(C2.setCell (by simp) _).setCell (by simp) _⟩
 ·obtain ⟨x,hx⟩:∃ x,Hid (x=Fj n f t):=⟨_,rfl⟩
  have HE:Hid (Ea true S n f t=x∧Ig true S n f t=x%2):=by show _∧_; rw [hx.out]; simp [Ea,Ig]
  rw [HE.out.1,HE.out.2];rw [← hx.out] at HP;replace L0:=L0 x;replace k0:=k0 x;replace k1:=k1 x;replace hW0:=hW0 x;clear HE hx
  go_enter Tryz.func164,Tryz.ntmps164
  go_wp2_with fail;refine (An HP _ (L2 _ _)).mono ?_;rintro e w1 ⟨rfl,rfl⟩;clear L2 HP;go_wp2_with fail;generalize ((w.alloc (.cells #[.bool true,.i x] 46)).alloc (.cells #[.bool false,.i 0] 46))=W0 at *;refine (U9 W0 true x).mono ?_;rintro e W1 ⟨rfl,b0,b1,L1⟩;have C1:=Ae L0 L1;replace k0:=Aa k0 L1 (Ac k0);replace k1:=Aa k1 L1 (Ac k1);clear L0 L1;go_wp2_with fail;refine (Rl W1 (W0.heap.size+1) W0.heap.size true x b1 b0 (w.heap.size+2) (by omega)).mono ?_;rintro e W2 ⟨rfl,L2⟩;have C2:Below w.heap.size w W2:=C1.trans (L2.mono (by omega));replace k0:=Aa k0 L2 (by omega);replace k1:=Aa k1 L2 (by omega);have c0:=Ag k0;have c1:=Ag k1;have f1:=As k1;clear L2 C1 b0 b1 hW0;go_wp2;refine bodyPost_ret (v:=.tuple #[.agg #[.bool true,.i x],.i (x%2)]) (by simp [results,Tryz.results164,go_sem,c1]) rfl ?_
  exact ⟨rfl,(C2.setCell (by simp) _).setCell (by simp) _⟩
structure Co (W:World) (D:Nat→Prop) (u:Value) (m:Nat) (ln:Nat→Nat) (f:Nat→Nat→Int):Prop where
 ex:∃ ra rc,Sep W u m ra ln rc∧(∀ i,i<m→Be .i64 W (ra i) (ln i) (f i))∧(∀ i,i<m→∀ b o,Da (ra i) (ln i) b o→D b)∧(∀ a cap,u=.slice a m cap→∀ b o,Da a m b o→D b)∧(∀ i,i<m→ln i≤1048576)
section
variable {R:Nat→Nat→Prop} {W W':World} {D E:Nat→Prop} {u:Value} {m:Nat} {ln:Nat→Nat} {f:Nat→Nat→Int}
theorem Co.keep (H:Co W D u m ln f) (hw:Wrote R W W') (hd:∀ b o,D b→b<W.heap.size→¬ R b o):Co W' D u m ln f:=by
 obtain ⟨ra,rc,⟨⟨a,cap,hv,hm,ho⟩,hf,hdj,hs⟩,hr,hi,hou,hl⟩:=H;refine ⟨ra,rc,⟨⟨a,cap,hv,hm,fun i hi'=>?_⟩,fun i hi'=>(hf i hi').keep hw,hdj,hs⟩,fun i hi'=>(hr i hi').keep hw (fun b o hF=>hd b o (hi i hi' b o hF) ((hr i hi').lt hF)),hi,hou,hl⟩;obtain ⟨b,off,ha,hc,hn⟩:=ho i hi';refine ⟨b,off,ha,?_,hn⟩;rw [hw.cell b (off+i) (block_lt_of_cell hc) (hd b _ (hou a cap hv b _ (ha ▸ Ep hi')) (block_lt_of_cell hc))];exact hc
theorem Co.below (H:Co W D u m ln f) (L:Below W.heap.size W W'):Co W' D u m ln f:=H.keep (Ab L Aj) (fun _ _ _ _ x=>x)
theorem Co.mono (H:Co W D u m ln f) (hd:∀ b,b<W.heap.size→D b→E b):Co W E u m ln f:=by
 obtain ⟨ra,rc,hS,hr,hi,hou,hl⟩:=H;refine ⟨ra,rc,hS,hr,fun i hi' b o hF=>hd b ((hr i hi').lt hF) (hi i hi' b o hF),fun a cap hv b o hF=>hd b ?_ (hou a cap hv b o hF),hl⟩;obtain ⟨a',cap',hv',-,ho⟩:=hS.outer;rw [hv] at hv';simp only [Value.slice.injEq,true_and] at hv';obtain ⟨rfl,rfl⟩:=hv';obtain ⟨off,e,h1,h2⟩:=hF;obtain ⟨b',off',e',hc,-⟩:=ho (o-off) (by omega);rw [e] at e';simp only [Option.some.injEq,Addr.mk.injEq,and_true] at e';rw [e'.1];exact block_lt_of_cell hc
theorem Co.form (H:Co W D u m ln f):∃ a c,u=.slice a m c:=by
 obtain ⟨ra,rc,⟨⟨a,cap,hv,-⟩,-⟩,-⟩:=H;exact ⟨a,cap,hv⟩
theorem Co.small (H:Co W D u m ln f):psum ln m≤1099511627776:=by
 obtain ⟨ra,rc,hS,-⟩:=H;exact hS.small
theorem Co.many (H:Co W D u m ln f):m≤1048576:=by
 obtain ⟨ra,rc,⟨⟨a,cap,hv,hm,-⟩,-⟩,-⟩:=H;exact hm
theorem Co.ints (H:Co W D u m ln f):Ba .i64 W (On D) u m ln f:=by
 obtain ⟨ra,rc,⟨⟨a,cap,hv,hm,ho⟩,hf,hdj,hs⟩,hr,hi,hou,hl⟩:=H;refine ⟨a,cap,hv,hm,hou a cap hv,fun i hi'=>?_⟩;obtain ⟨b,off,ha,hc,-⟩:=ho i hi';exact ⟨b,off,_,ha,hc,_,_,rfl,hl i hi',hr i hi',hi i hi'⟩
end
theorem Fw.on {W:World} {b0 m:Nat} {ln:Nat→Nat} {f:Nat→Nat→Int} {D:Nat→Prop} (h:Fw W b0 m ln f) (hm:m+psum ln m≤1048576) (hd:∀ b,b0≤b→b<b0+1+m→D b):Co W D (.slice (some ⟨b0,0,none⟩) m m) m ln f:=by
 refine ⟨_,_,h.sep hm,fun i hi=>h.rowOf i hi,fun i hi b o hF=>?_,fun a cap hv b o hF=>?_,fun i hi=>by have:=Pf ln hi; omega⟩
 ·obtain ⟨off,e,_⟩:=hF
  simp only [Option.some.injEq,Addr.mk.injEq,and_true] at e;exact hd b (by omega) (by omega)
 ·simp only [Value.slice.injEq,true_and] at hv
  obtain ⟨rfl,-⟩:=hv;obtain ⟨off,e,_⟩:=hF;simp only [Option.some.injEq,Addr.mk.injEq,and_true] at e;exact hd b (by omega) (by omega)
theorem Jck (w:World) (D E:Nat→Prop) (u v:Value) (m:Nat) (ln:Nat→Nat) (f:Nat→Nat→Int) (H:Co w D u m ln f) (K:Co w E v m ln f):Calls Tryz.prog 80 #[u,v] w fun e w'=>e=.returned (.bool true)∧Below w.heap.size w w':=by
 refine (Pe w _ _ _ _ m m ln ln f f H.ints K.ints).mono ?_;rintro e w' ⟨rfl,dd,rfl⟩;exact ⟨by rw [Jm],below_drewN (Below.refl _ _) dd⟩
theorem Jbc (w:World) (D E:Nat→Prop) (u v:Value) (m:Nat) (ln:Nat→Nat) (f:Nat→Nat→Int) (H:Co w D u m ln f) (K:Co w E v m ln f):Calls Tryz.prog 30 #[.agg #[u],.agg #[v]] w fun e w'=>e=.returned (.bool true)∧Below w.heap.size w w':=by
 refine (Jaf w _ _ _ _ m m ln ln f f H.ints K.ints).mono ?_;rintro e w' ⟨rfl,L⟩;exact ⟨by rw [Jm],L⟩
theorem Y9 (w:World) (D:Nat→Prop) (u:Value) (m:Nat) (ln:Nat→Nat) (f:Nat→Nat→Int) (k:Int) (H:Co w D u m ln f) (k0:0≤k) (k1:k≤1099511627776):Calls Tryz.prog 81 #[u,.i k] w fun e w'=>e=.returned (.i (k+psum ln m))∧Co w' D u m ln (fun i j=>k+psum ln i+j)∧Wrote (On D) w w':=by
 obtain ⟨ra,rc,hS,hr,hi,hou,hl⟩:=H;refine (N8 w u m ra ln rc f k hS hr k0 k1).mono ?_;rintro e w' ⟨rfl,hR,T,-⟩;exact ⟨rfl,⟨ra,rc,hS.keep T (fun b o h=>h),hR,hi,hou,hl⟩,T.mono (fun b o _ ⟨i,hi',hF⟩=>hi i hi' b o hF)⟩
theorem Wy (w:World) (D:Nat→Prop) (u:Value) (m:Nat) (ln:Nat→Nat) (f:Nat→Nat→Int) (k:Int) (H:Co w D u m ln f) (k0:0≤k) (k1:k≤1099511627776):Calls Tryz.prog 38 #[.agg #[u],.i k] w fun e w'=>e=.returned (.i (k+psum ln m))∧Co w' D u m ln (fun i j=>k+psum ln i+j)∧Wrote (On D) w w':=by
 obtain ⟨ra,rc,hS,hr,hi,hou,hl⟩:=H;refine (Vp w u m ra ln rc f k hS hr k0 k1).mono ?_;rintro e w' ⟨rfl,hR,T⟩;exact ⟨rfl,⟨ra,rc,hS.keep T (fun b o h=>h),hR,hi,hou,hl⟩,T.mono (fun b o _ ⟨i,hi',hF⟩=>hi i hi' b o hF)⟩
theorem Za (w:World) (D:Nat→Prop) (u:Value) (m:Nat) (ln:Nat→Nat) (k:Int) (H:Co w D u m ln (fun i j=>k+psum ln i+j)) (k0:0≤k) (k1:k≤1099511627776):Calls Tryz.prog 82 #[u,.i k] w fun e w'=>e=.returned (.i (k+psum ln m))∧Below w.heap.size w w':=by
 obtain ⟨ra,rc,hS,hr,hi,hou,hl⟩:=H;refine (N9 w u m ra ln rc k hS hr k0 k1).mono ?_;rintro e w' ⟨rfl,rfl⟩;exact ⟨rfl,Below.refl _ _⟩
theorem Xa (w:World) (D:Nat→Prop) (u:Value) (m:Nat) (ln:Nat→Nat) (k:Int) (H:Co w D u m ln (fun i j=>k+psum ln i+j)) (k0:0≤k) (k1:k≤1099511627776):Calls Tryz.prog 43 #[.agg #[u],.i k] w fun e w'=>e=.returned (.i (k+psum ln m))∧Below w.heap.size w w':=by
 obtain ⟨ra,rc,hS,hr,hi,hou,hl⟩:=H;refine (Vq w u m ra ln rc k hS hr k0 k1).mono ?_;rintro e w' ⟨rfl,L⟩;exact ⟨rfl,L⟩
theorem Jbd (w:World) (F:Nat→Nat→Prop) (u:Value) (m:Nat) (ln:Nat→Nat) (f:Nat→Nat→Int) (H:Ba .i64 w F u m ln f) (hm:m+psum ln m≤1048576):Calls Tryz.prog 19 #[.agg #[u]] w fun e w'=>∃ v,e=.returned (.agg #[v])∧Co w' (fun b=>w.heap.size≤b∧b<w'.heap.size) v m ln f∧Below w.heap.size w w':=by
 refine (Jae w F u m ln f H).mono ?_;rintro e w' ⟨b0,h0,rfl,hr,hs,L⟩;exact ⟨_,rfl,hr.on hm (fun b h1 h2=>⟨by omega,by omega⟩),L⟩
theorem Jcl (w:World) (F:Nat→Nat→Prop) (u:Value) (m:Nat) (ln:Nat→Nat) (f:Nat→Nat→Int) (H:Ba .i64 w F u m ln f) (hm:m+psum ln m≤1048576):Calls Tryz.prog 63 #[u] w fun e w'=>∃ v,e=.returned v∧Co w' (fun b=>w.heap.size≤b∧b<w'.heap.size) v m ln f∧Below w.heap.size w w':=by
 refine (Uz w F u m ln f H).mono ?_;rintro e w' ⟨rfl,hr,hs,L⟩;exact ⟨_,rfl,hr.on hm (fun b h1 h2=>⟨by omega,by omega⟩),L⟩
theorem Mi (w:World) (F:Nat→Nat→Prop) (u:Value) (n:Nat) (f:Nat→Int) (H:Ints .i64 w F u n f):Calls Tryz.prog 20 #[u] w fun e w'=>∃ v,e=.returned v∧By w' (fun b=>w.heap.size≤b∧b<w'.heap.size) v n f∧Below w.heap.size w w':=by
 have hn:n≤1048576:=by obtain ⟨a,c,e,h,-⟩:=H; exact h
 refine (Ld w F u n f H).mono ?_;rintro e w' ⟨rfl,hr,hs,L⟩;exact ⟨_,rfl,⟨_,_,rfl,(Cm.fresh hr hn (Nat.le_refl _)).mono (fun b hb h=>⟨h,hb⟩)⟩,L⟩
end Go.Proofs.YtgcmimcalmjaaaaGreatDoor
