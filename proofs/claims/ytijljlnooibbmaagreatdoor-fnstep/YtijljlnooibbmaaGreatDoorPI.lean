import Derived.Test.YtijljlnooibbmaaGreatDoorI9
import Derived.Test.YtijljlnooibbmaaGreatDoorI2
namespace Go.Proofs.YtijljlnooibbmaaGreatDoor
set_option maxHeartbeats 1000000
open Go.Proofs.Tryz
set_option linter.unusedVariables false
set_option linter.unusedSimpArgs false
open Go.ChangeShapes Go.WideShapes Go.ChangeAt Go.RowKit
theorem U7 {n:Nat} {f:Nat->Int} (h:n<=20):Du n f=Pt n f:=by
 unfold Du Pt;refine decide_eq_decide.2 ⟨fun x j hj=>Bh (x.1 j hj),fun x=>⟨fun j hj=>?_,h⟩⟩
 by_cases hc:0<=f j/\f j<=255
 .exact hc
 .have:=x j hj
  rw [C9 hc] at this;cases this
theorem U8 {n:Nat} {f:Nat->Int} (h:¬ n<=20):Du n f=false:=decide_eq_false (fun x=>h x.2)
theorem M8 (w:World) (F:Nat->Nat->Prop) (u:Value) (n:Nat) (f:Nat->Int) (H:Ints .i64 w F u n f) :
  Calls prog 20 #[u] w fun e w'=>e=.returned (.bool (Du n f))/\w'=w:=by
 have HA:=Ac (Tz w F u n f H);obtain ⟨a,cap,rfl,hn,hr,-⟩:=H;clear hr
 by_cases h20:n<=20
 .have HE:=Ac (U7 (f:=f) h20)
  have h20':(n:Int)<=20:=by omega
  obtain ⟨ok,hok⟩:∃ ok,Hid (ok=Pt n f):=⟨_,rfl⟩
  rw [<- hok.out] at HA HE
  go_enter func20,ntmps20
  go_wp2_with fail;refine (Ae HA).mono ?_;rintro e w1 ⟨rfl,rfl⟩;go_wp2;go_ret;exact ⟨Ap HE.out.symm,rfl⟩
 .have HE:=Ac (U8 (f:=f) h20)
  have h20':¬ (n:Int)<=20:=by omega
  go_enter func20,ntmps20
  go_wp2;go_ret;exact ⟨Ap HE.out.symm,rfl⟩
theorem Of (w:World) (F:Nat->Nat->Prop) (u:Value) (n:Nat) (f:Nat->Int) (t:Int) (ht:t<=9223372036854775807) (H:Ints .i64 w F u n f) :
  Calls prog 180 #[u,.i t] w fun e w'=>e=.returned (.i (Ex n f t))/\w'=w:=by
 have HO:=Ac (M8 w F u n f H);have HF:=Ac (fun W=>Mz W t ht);obtain ⟨a,cap,rfl,hn,hr,-⟩:=H
 obtain ⟨ok,hok⟩:∃ ok,Hid (ok=Du n f):=⟨_,rfl⟩
 rw [<- hok.out] at HO;have HR:=Ac hr;clear hr
 by_cases h0:n=0
 .have HE:Hid (Ex n f t=0):=if_neg (by omega)
  subst h0
  go_enter func180,ntmps180
  go_wp2;go_ret;exact ⟨A5 HE.out.symm,rfl⟩
 .have hz:¬ (n:Int)=0:=by omega
  cases ok
  .have HE:Hid (Ex n f t=0):=if_neg (by rw [<- hok.out]; simp)
   go_enter func180,ntmps180
   go_wp2_with fail;refine (Ae HO).mono ?_;rintro e w1 ⟨rfl,rfl⟩;go_wp2;go_ret;exact ⟨A5 HE.out.symm,rfl⟩
  .have HE:Hid (Ex n f t=f ((max t 0/64)%n).toNat):=if_pos ⟨hok.out.symm,by omega⟩
   have h20:=(Mn hok.out.symm).2
   obtain ⟨q,hq⟩:∃ q,Hid (q=max t 0/64):=⟨_,rfl⟩
   have q0:0<=q:=by rw [hq.out]; omega
   have q1:q<=9223372036854775807:=by rw [hq.out]; omega
   rw [<- hq.out] at HE HF;have hm:q.tmod n=q%n:=Int.tmod_eq_emod_of_nonneg q0;have hm1:q%(n:Int)<n:=Int.emod_lt_of_pos _ (by omega);have hm0:0<=q%(n:Int):=Int.emod_nonneg _ (by omega)
   obtain ⟨i,hi⟩:∃ i:Nat,q%(n:Int)=i:=⟨(q%(n:Int)).toNat,by omega⟩
   rw [hi] at hm hm1 hm0 HE
   have hin:i<n:=by omega
   obtain ⟨b,o,rfl,hc⟩:=HR.out i hin;clear hm1 hm0 hi hq h0 HR
   go_enter func180,ntmps180
   go_wp2_with fail;refine (Ae HO).mono ?_;rintro e w1 ⟨rfl,rfl⟩;go_wp2_with fail;refine (Ae HF _).mono ?_;rintro e w1 ⟨rfl,rfl⟩;go_wp2;go_ret;exact ⟨A5 HE.out.symm,rfl⟩
theorem Jcu {v:Int} (h:v%2=0):v.tmod 2=0/\Gx v=false:=⟨Int.tmod_eq_zero_of_dvd (Int.dvd_of_emod_eq_zero h),by unfold Gx; rw [h]; rfl⟩
theorem Jah {v:Int} (h:¬ v%2=0):¬ v.tmod 2=0/\Gx v=true:=⟨fun e=>h (Int.emod_eq_zero_of_dvd (Int.dvd_of_tmod_eq_zero e)),by unfold Gx; rw [show v%2=1 by omega]; rfl⟩
theorem Sv (w:World) (F:Nat->Nat->Prop) (H:Bool) (S:Int) (u:Value) (n:Nat) (f:Nat->Int) (t v:Int) (ht:t<=9223372036854775807) (K:Ints .i64 w F u n f) :
  Calls prog 159 #[.agg #[.bool H,.i S],u,.i t,.i v] w fun e w'=>e=.returned (.agg #[.bool (Gx v),.i (Ec H S n f t v)])/\Below w.heap.size w w':=by
 have L2:∀ o o2:Obj,Below w.heap.size w ((w.alloc o).alloc o2):=fun o o2=>((Below.refl _ _).alloc (Nat.le_refl _) _).alloc (by simp) _
 have HP:=Ac (fun (W:World) (L:Below w.heap.size w W)=>Of W F u n f t ht (K.keep (Aa L Aj) (fun _ _ _ x=>x)));obtain ⟨a,cap,rfl,hn,hr,-⟩:=K;clear hr
 obtain ⟨x,hx⟩:∃ x,Hid (x=Ex n f t):=⟨_,rfl⟩
 by_cases hv:v%2=0
 .obtain ⟨h1,h2⟩:=Jcu hv
  have hs:Hid (Ec H S n f t v=if H=true then x else S):=by show _=_; rw [hx.out,Ec,h2]; simp
  rw [hs.out,h2];rw [<- hx.out] at HP;clear hs hx hv h2;cases H
  .have hs2:¬ (false=true):=by decide
   go_enter func159,ntmps159
   go_wp2_with (go_at_call 180; refine (Ae HP _ (L2 _ _)).mono ?_; rintro e w1 ⟨rfl,rfl⟩);refine bodyPost_ret (v:=.agg #[.bool false,.i S]) (by simp [results,results159,go_sem]) rfl ?_;exact ⟨rfl,L2 _ _⟩
  .have hs2:True:=trivial
   go_enter func159,ntmps159
   go_wp2_with (go_at_call 180; refine (Ae HP _ (L2 _ _)).mono ?_; rintro e w1 ⟨rfl,rfl⟩);refine bodyPost_ret (v:=.agg #[.bool false,.i x]) (by simp [results,results159,go_sem]) rfl ?_;exact ⟨rfl,L2 _ _⟩
 .obtain ⟨h1,h2⟩:=Jah hv
  have hs:Hid (Ec H S n f t v=x):=by show _=_; rw [hx.out,Ec,h2]; simp
  rw [hs.out,h2];rw [<- hx.out] at HP;clear hs hx hv h2
  go_enter func159,ntmps159
  go_wp2_with (go_at_call 180; refine (Ae HP _ (L2 _ _)).mono ?_; rintro e w1 ⟨rfl,rfl⟩);refine bodyPost_ret (v:=.agg #[.bool true,.i x]) (by simp [results,results159,go_sem,h1]) rfl ?_;exact ⟨rfl,L2 _ _⟩
theorem U9 (w:World) (b c:Nat) (H:Bool) (S:Int) (hb:w.heap[b]?=some (.cells #[.i S] 3 (0,0))) (hc:w.heap[c]?=some (.cells #[.bool H,.i S] 37 (0,0))) (m:Nat) (hm:m<=b) :
  Calls prog 219 #[(pt b 0),(pt c 0)] w fun e w'=>e=.returned (.tuple #[.i (S%2),.i (if H then S else S/2)])/\Below m w w':=by
 have m1:bits .and .i64 S 1=S%2:=Le S;have cb:=Af hb;have fb:=Au hb;have cc:=Af hc;clear hb hc;cases H
 .go_enter func219,ntmps219
  go_wp2
  go_region
  all_goals (
   go_wp2;refine bodyPost_ret (v:=.tuple #[.i (S%2),.i (S/2)]) (by simp [results,results219,go_sem]) rfl ?_
   exact ⟨rfl,(((Below.refl m w).setCell hm _).trans ⟨rfl,rfl,rfl,Nat.le_refl _,fun _ _=>rfl⟩)⟩)
 .go_enter func219,ntmps219
  go_wp2
  go_region
  all_goals (
   go_wp2;refine bodyPost_ret (v:=.tuple #[.i (S%2),.i S]) (by simp [results,results219,go_sem]) rfl ?_
   exact ⟨rfl,⟨rfl,rfl,rfl,Nat.le_refl _,fun _ _=>rfl⟩⟩)
theorem Y1 (w:World) (H:Bool) (S:Int) :
  Calls prog 181 #[.agg #[.bool H,.i S]] w fun e w'=>e=.returned (.func (.func 219) #[] #[(pt (w.heap.size+1) 0),(pt w.heap.size 0)])/\w'.heap[w.heap.size]?=some (.cells #[.bool H,.i S] 37 (0,0))/\w'.heap[w.heap.size+1]?=some (.cells #[.i S] 3 (0,0))/\Below w.heap.size w w':=by
 have hmf:∀ (fn:Fn) (first cap:Array Value) (w:World),(Instr.makeFunc fn first cap).run prog w=.ok (.func fn first cap) w:=fun _ _ _ _=>rfl
 have k1:((w.alloc (.cells #[.bool H,.i S] 37)).alloc (.cells #[.i S] 3)).heap[w.heap.size+1]?=some (.cells #[.i S] 3 (0,0)):=by simpa using Ak (w.alloc (.cells #[.bool H,.i S] 37)) #[.i S] 3
 go_enter func181,ntmps181
 go_wp2;go_ret;exact ⟨rfl,Az (Ak w _ _) _,k1,((Below.refl _ _).alloc (Nat.le_refl _) _).alloc (by simp) _⟩
theorem Va (w:World) (F:Nat->Nat->Prop) (H:Bool) (S:Int) (u:Value) (n:Nat) (f:Nat->Int) (t:Int) (ht:t<=9223372036854775807) (K:Ints .i64 w F u n f) :
  Calls prog 156 #[.agg #[.bool H,.i S],u,.i t] w fun e w'=>e=.returned (.tuple #[.agg #[.bool H,.i (De H S n f t)],.i (I6 H S n f t)])/\Below w.heap.size w w':=by
 have L2:∀ o o2:Obj,Below w.heap.size w ((w.alloc o).alloc o2):=fun o o2=>((Below.refl _ _).alloc (Nat.le_refl _) _).alloc (by simp) _
 have HP:=Ac (fun (W:World) (L:Below w.heap.size w W)=>Of W F u n f t ht (K.keep (Aa L Aj) (fun _ _ _ x=>x)));obtain ⟨a,cap,rfl,hn,hr,-⟩:=K;clear hr
 have L0:∀ s:Int,Below w.heap.size w ((w.alloc (.cells #[.bool H,.i s] 37)).alloc (.cells #[.bool false,.i 0] 37)):=fun s=>L2 _ _
 have k0:∀ s:Int,((w.alloc (.cells #[.bool H,.i s] 37)).alloc (.cells #[.bool false,.i 0] 37)).heap[w.heap.size]?=some (.cells #[.bool H,.i s] 37 (0,0)):=fun s=>Az (Ak w _ _) _
 have k1:∀ s:Int,((w.alloc (.cells #[.bool H,.i s] 37)).alloc (.cells #[.bool false,.i 0] 37)).heap[w.heap.size+1]?=some (.cells #[.bool false,.i 0] 37 (0,0)):=fun s=>by simpa using Ak (w.alloc (.cells #[.bool H,.i s] 37)) #[.bool false,.i 0] 37
 have hW0:∀ s:Int,w.heap.size+2<=((w.alloc (.cells #[.bool H,.i s] 37)).alloc (.cells #[.bool false,.i 0] 37)).heap.size:=fun s=>by simp
 cases H
 .have HE:Hid (De false S n f t=S/2/\I6 false S n f t=S%2):=by show _/\_; simp [De,I6]
  rw [HE.out.1,HE.out.2];replace L0:=L0 S;replace k0:=k0 S;replace k1:=k1 S;replace hW0:=hW0 S;clear HE HP L2
  go_enter func156,ntmps156
  go_wp2_with fail;generalize ((w.alloc (.cells #[.bool false,.i S] 37)).alloc (.cells #[.bool false,.i 0] 37))=W0 at *;refine (Y1 W0 false S).mono ?_;rintro e W1 ⟨rfl,b0,b1,L1⟩;have C1:=Ah L0 L1;replace k0:=Ab k0 L1 (Ad k0);replace k1:=Ab k1 L1 (Ad k1);clear L0 L1;go_wp2_with fail;refine (U9 W1 (W0.heap.size+1) W0.heap.size false S b1 b0 (w.heap.size+2) (by omega)).mono ?_;rintro e W2 ⟨rfl,L2⟩;have C2:Below w.heap.size w W2:=C1.trans (L2.mono (by omega));replace k0:=Ab k0 L2 (by omega);replace k1:=Ab k1 L2 (by omega);have c0:=Af k0;have c1:=Af k1;have f1:=Au k1;clear L2 C1 b0 b1 hW0;go_wp2;refine bodyPost_ret (v:=.tuple #[.agg #[.bool false,.i (S/2)],.i (S%2)]) (by simp [results,results156,go_sem,c1]) rfl ?_;exact ⟨rfl,(C2.setCell (by simp) _).setCell (by simp) _⟩
 .obtain ⟨x,hx⟩:∃ x,Hid (x=Ex n f t):=⟨_,rfl⟩
  have HE:Hid (De true S n f t=x/\I6 true S n f t=x%2):=by show _/\_; rw [hx.out]; simp [De,I6]
  rw [HE.out.1,HE.out.2];rw [<- hx.out] at HP;replace L0:=L0 x;replace k0:=k0 x;replace k1:=k1 x;replace hW0:=hW0 x;clear HE hx
  go_enter func156,ntmps156
  go_wp2_with fail;refine (Ae HP _ (L2 _ _)).mono ?_;rintro e w1 ⟨rfl,rfl⟩;clear L2 HP;go_wp2_with fail;generalize ((w.alloc (.cells #[.bool true,.i x] 37)).alloc (.cells #[.bool false,.i 0] 37))=W0 at *;refine (Y1 W0 true x).mono ?_;rintro e W1 ⟨rfl,b0,b1,L1⟩;have C1:=Ah L0 L1;replace k0:=Ab k0 L1 (Ad k0);replace k1:=Ab k1 L1 (Ad k1);clear L0 L1;go_wp2_with fail;refine (U9 W1 (W0.heap.size+1) W0.heap.size true x b1 b0 (w.heap.size+2) (by omega)).mono ?_;rintro e W2 ⟨rfl,L2⟩;have C2:Below w.heap.size w W2:=C1.trans (L2.mono (by omega));replace k0:=Ab k0 L2 (by omega);replace k1:=Ab k1 L2 (by omega);have c0:=Af k0;have c1:=Af k1;have f1:=Au k1;clear L2 C1 b0 b1 hW0;go_wp2;refine bodyPost_ret (v:=.tuple #[.agg #[.bool true,.i x],.i (x%2)]) (by simp [results,results156,go_sem,c1]) rfl ?_
  exact ⟨rfl,(C2.setCell (by simp) _).setCell (by simp) _⟩
end Go.Proofs.YtijljlnooibbmaaGreatDoor
