import Derived.Test.YtijljlnooibbmaaGreatDoorC5
import Derived.Test.YtijljlnooibbmaaGreatDoorO
import Derived.Deep.DeepCutAuto
import Derived.Laws.StructEq
namespace Go.Proofs.YtijljlnooibbmaaGreatDoor
open Go.Proofs.Tryz
open Go.ChangeShapes Go.WideShapes Go.ChangeAt Go.RowKit
def opNm:List ByteArray:=[⟨#[110,111,112]⟩,⟨#[108,100,105]⟩,⟨#[108,100,97]⟩,⟨#[115,116,97]⟩,⟨#[97,100,105]⟩,⟨#[115,98,105]⟩,⟨#[97,110,105]⟩,⟨#[111,114,105]⟩,⟨#[120,114,105]⟩,⟨#[99,112,105]⟩,⟨#[116,97,120]⟩,⟨#[116,120,97]⟩,⟨#[105,110,120]⟩,⟨#[100,101,120]⟩,⟨#[108,97,120]⟩,⟨#[115,97,120]⟩,⟨#[98,110,101]⟩,⟨#[98,101,113]⟩,⟨#[98,99,115]⟩,⟨#[106,109,112]⟩,⟨#[106,115,114]⟩,⟨#[114,116,115]⟩,⟨#[112,104,97]⟩,⟨#[112,108,97]⟩,⟨#[114,116,105]⟩,⟨#[115,101,105]⟩,⟨#[99,108,105]⟩,⟨#[115,101,99]⟩,⟨#[99,108,99]⟩,⟨#[97,100,97]⟩]
def opCells:Array Value:=#[.string ⟨#[110,111,112]⟩,.string ⟨#[108,100,105]⟩,.string ⟨#[108,100,97]⟩,.string ⟨#[115,116,97]⟩,.string ⟨#[97,100,105]⟩,.string ⟨#[115,98,105]⟩,.string ⟨#[97,110,105]⟩,.string ⟨#[111,114,105]⟩,.string ⟨#[120,114,105]⟩,.string ⟨#[99,112,105]⟩,.string ⟨#[116,97,120]⟩,.string ⟨#[116,120,97]⟩,.string ⟨#[105,110,120]⟩,.string ⟨#[100,101,120]⟩,.string ⟨#[108,97,120]⟩,.string ⟨#[115,97,120]⟩,.string ⟨#[98,110,101]⟩,.string ⟨#[98,101,113]⟩,.string ⟨#[98,99,115]⟩,.string ⟨#[106,109,112]⟩,.string ⟨#[106,115,114]⟩,.string ⟨#[114,116,115]⟩,.string ⟨#[112,104,97]⟩,.string ⟨#[112,108,97]⟩,.string ⟨#[114,116,105]⟩,.string ⟨#[115,101,105]⟩,.string ⟨#[99,108,105]⟩,.string ⟨#[115,101,99]⟩,.string ⟨#[99,108,99]⟩,.string ⟨#[97,100,97]⟩]
def Dm:List Int:=[1,2,3,3,2,2,2,2,2,2,1,1,1,1,3,3,3,3,3,3,3,1,1,1,1,1,1,1,1,3]
def Hc:List Int:=[2,2,4,4,2,2,2,2,2,2,2,2,2,2,4,5,3,3,3,3,6,6,3,4,6,2,2,2,2,4]
theorem Wp (i:Nat) (h:i<30):opCells[i]?=some (.string (opNm.getD i ByteArray.empty)):=by
 have hm:opCells.toList=opNm.map Value.string:=rfl;rw [<- Array.getElem?_toList,hm,List.getElem?_map,List.getD_eq_getElem?_getD]
 cases e:opNm[i]? with
 | none=>exact absurd (List.getElem?_eq_none_iff.1 e) (by show ¬ 30<=i; omega)
 | some x=>rfl
theorem ints_at (L:List Int) (d:Int) (i:Nat) (h:i<L.length):(L.map (Value.int .i64))[i]'(by simpa using h)=.i (L.getD ((i:Int).toNat) d):=by
 rw [List.getElem_map,Int.toNat_natCast,List.getD_eq_getElem?_getD,List.getElem?_eq_getElem h]
 rfl
def Jff (s:ByteArray) (r:Int):Prop:=(∃ i:Nat,i<30/\r=i/\(opNm.getD i ByteArray.empty).toList=s.toList)\/r=-1/\∀ i:Nat,i<30->¬ (opNm.getD i ByteArray.empty).toList=s.toList
theorem Jdx (w:World):Calls prog 215 #[] w fun e w'=>e=.returned (.slice (some ⟨w.heap.size,0,none⟩) 30 30)/\w'=w.alloc (.cells opCells 9):=by
 go_enter func215,ntmps215
 go_wp2;go_ret;exact ⟨rfl,rfl⟩
theorem Md (w:World) (x:Int):Calls prog 125 #[.i x] w fun e w'=>e=.returned (.i (if 0<=x/\x<=29 then Dm.getD x.toNat 1 else 1))/\Below w.heap.size w w':=by
 by_cases h:0<=x/\x<=29
 .have hin:=Bh h
  obtain ⟨i,rfl⟩:∃ i:Nat,x=i:=⟨x.toNat,by omega⟩
  have hi:i<30:=by omega
  rw [if_pos h]
  go_enter func125,ntmps125
  go_wp2_with fail;refine (E8 _ _ _ _).mono ?_;rintro e w1 ⟨rfl,rfl⟩;rw [hin];go_wp2;go_ret;exact ⟨congrArg Ending.returned (ints_at Dm 1 i hi),(Below.refl _ _).alloc (Nat.le_refl _) _⟩
 .have hin:=C9 h
  rw [if_neg h]
  go_enter func125,ntmps125
  go_wp2_with fail;refine (E8 _ _ _ _).mono ?_;rintro e w1 ⟨rfl,rfl⟩;rw [hin];go_wp2;go_ret;exact ⟨rfl,Below.refl _ _⟩
theorem Jbw (w:World) (s:ByteArray):Calls prog 173 #[.string s] w fun e w'=>(∃ r,e=.returned (.i r)/\Jff s r)/\Below w.heap.size w w':=by
 have hc:∀ i,i<30->(w.alloc (.cells opCells 9)).cell? ⟨w.heap.size,0+i,none⟩=some (.string (opNm.getD i ByteArray.empty)):=fun i hi=>by
  rw [World.cell?_alloc_at _ _ _ _ rfl]
  simpa using Wp i hi
 have L0:Below w.heap.size w (w.alloc (.cells opCells 9)):=(Below.refl _ _).alloc (Nat.le_refl _) _
 go_enter func173,ntmps173
 go_wp2_with fail;refine (Jdx _).mono ?_;rintro e w1 ⟨rfl,rfl⟩;generalize w.alloc (.cells opCells 9)=wa at *;go_wp2
 go_loop [4] (fun i=>∃ q:Nat,q<=30/\i=.i q/\∀ j,j<q->¬ (opNm.getD j ByteArray.empty).toList=s.toList) (fun i=>30-(intOf i).toNat)
 case atStart=>exact ⟨0,Nat.zero_le _,rfl,fun j hj=>absurd hj (Nat.not_lt_zero _)⟩
 case round =>
  obtain ⟨q,hq,rfl,hno⟩:=hrel;have HN:=Ac hno;clear hno
  by_cases hlt:q<30
  .have hlt':(q:Int)<30:=by omega
   have hcq:=hc q hlt;rw [Nat.zero_add] at hcq
   by_cases he:(opNm.getD q ByteArray.empty).toList=s.toList
   .have he':((opNm.getD q ByteArray.empty).toList==s.toList)=true:=by simpa using he
    have HI:Hid (Jff s q):=Or.inl ⟨q,hlt,rfl,he⟩;clear he;generalize opNm.getD q ByteArray.empty=nm at *;go_wp2;go_ret;exact ⟨⟨_,rfl,HI.out⟩,L0⟩
   .have he':((opNm.getD q ByteArray.empty).toList==s.toList)=false:=by simpa using he
    have hno2:∀ j,j<q+1->¬ (opNm.getD j ByteArray.empty).toList=s.toList:=fun j hj=>by
     by_cases e:j=q
     .rw [e]; exact he
     .exact Ae HN j (by omega)
    have HN2:=Ac hno2;clear he hno2;generalize opNm.getD q ByteArray.empty=nm at *;go_wp2
    go_round
    case rel=>exact ⟨q+1,by omega,by go_num,Ae HN2⟩
    case measure=>simp [intOf]; omega
  .have hlt':¬ (q:Int)<30:=by omega
   go_wp2;go_ret;exact ⟨⟨_,rfl,Or.inr ⟨rfl,fun i hi=>Ae HN i (by omega)⟩⟩,L0⟩
theorem Rh (w:World) (x:Int):Calls prog 94 #[.i x] w fun e w'=>e=.returned (.i (if 0<=x/\x<=29 then Hc.getD x.toNat 2 else 2))/\Below w.heap.size w w':=by
 by_cases h:0<=x/\x<=29
 .have hin:=Bh h
  obtain ⟨i,rfl⟩:∃ i:Nat,x=i:=⟨x.toNat,by omega⟩
  have hi:i<30:=by omega
  rw [if_pos h]
  go_enter func94,ntmps94
  go_wp2_with fail;refine (E8 _ _ _ _).mono ?_;rintro e w1 ⟨rfl,rfl⟩;rw [hin];go_wp2;go_ret;exact ⟨congrArg Ending.returned (ints_at Hc 2 i hi),(Below.refl _ _).alloc (Nat.le_refl _) _⟩
 .have hin:=C9 h
  rw [if_neg h]
  go_enter func94,ntmps94
  go_wp2_with fail;refine (E8 _ _ _ _).mono ?_;rintro e w1 ⟨rfl,rfl⟩;rw [hin];go_wp2;go_ret;exact ⟨rfl,Below.refl _ _⟩
def Ch (x:Int):Int:=if x=2\/x=14\/x=29 then 1 else if x=3\/x=15 then 2 else 0
theorem Eh (w:World) (x:Int):Calls prog 126 #[.i x] w fun e w'=>e=.returned (.i (Ch x))/\w'=w:=by
 go_enter func126,ntmps126
 go_wp2
 all_goals go_ret
 all_goals (refine ⟨congrArg (fun n=>Ending.returned (.i n)) ?_,rfl⟩; unfold Ch; grind)
set_option maxHeartbeats 1000000
set_option linter.unusedVariables false
set_option linter.unusedSimpArgs false
def Du (n:Nat) (f:Nat->Int):Bool:=decide ((∀ i,i<n->0<=f i/\f i<=255)/\n<=20)
theorem Jag {n:Nat} {f:Nat->Int} {j:Nat} (hj:j<n) (h:¬ (0<=f j/\f j<=255)):Du n f=false:=decide_eq_false (fun x=>h (x.1 j hj))
theorem Xh {n:Nat} {f:Nat->Int} (h:∀ j,j<n->0<=f j/\f j<=255):Du n f=decide (n<=20):=decide_eq_decide.2 ⟨fun x=>x.2,fun x=>⟨h,x⟩⟩
theorem Mn {n:Nat} {f:Nat->Int} (h:Du n f=true):(∀ j,j<n->0<=f j/\f j<=255)/\n<=20:=of_decide_eq_true h
def Ex (n:Nat) (f:Nat->Int) (t:Int):Int:=if Du n f=true/\0<n then f ((max t 0/64)%n).toNat else 0
theorem U0 (n:Nat) (f:Nat->Int) (t:Int):0<=Ex n f t/\Ex n f t<=255:=by
  unfold Ex;split
  . rename_i h
    have h2:=h.2;have hm:max t 0/64%(n:Int)<n:=Int.emod_lt_of_pos _ (by omega);have hm0:0<=max t 0/64%(n:Int):=Int.emod_nonneg _ (by omega);exact (Mn h.1).1 _ (by omega)
  . omega
def Gx (v:Int):Bool:=v%2==1
def Ec (H:Bool) (S:Int) (n:Nat) (f:Nat->Int) (t v:Int):Int:=if (H || Gx v)=true then Ex n f t else S
def De (H:Bool) (S:Int) (n:Nat) (f:Nat->Int) (t:Int):Int:=if H=true then Ex n f t else S/2
def I6 (H:Bool) (S:Int) (n:Nat) (f:Nat->Int) (t:Int):Int:=if H=true then Ex n f t%2 else S%2
theorem Le (v:Int):bits .and .i64 v 1=v%2:=by
  have h:=Ks v 1 (by omega);have e:((v%256).toNat &&& 1)=(v%256).toNat%2:=Nat.and_one_is_mod _;rw [show ((1:Nat):Int)=(1:Int) from rfl] at h;rw [h,e]
  omega
theorem Oe (w:World) (F:Nat->Nat->Prop) (u:Value) (n:Nat) (f:Nat->Int) (H:Ints .i64 w F u n f) :
    Calls prog 27 #[u] w fun e w'=>e=.returned (.bool (Du n f))/\w'=w:=by
  obtain ⟨a,cap,rfl,hn,hr,-⟩:=H;have HR:=Ac hr;clear hr
  go_enter func27,ntmps27
  go_wp2
  go_loopw [3] (fun i wr=>wr=w/\∃ k:Nat,k<=n/\i=.i k/\∀ j,j<k->0<=f j/\f j<=255) (fun i _=>n-(intOf i).toNat)
  case atStart=>exact ⟨rfl,0,Nat.zero_le _,rfl,fun j hj=>absurd hj (Nat.not_lt_zero _)⟩
  case round =>
    obtain ⟨rfl,k,hk,rfl,hall⟩:=hrel;have HA:=Ac hall;clear hall
    by_cases hlt:k<n
    . have hlt':(k:Int)<(n:Int):=by omega
      obtain ⟨b,o,rfl,hc⟩:=HR.out k hlt
      by_cases hin:0<=f k/\f k<=255
      . have HI:=Ac (fun W=>Ih W (f k))
        rw [Bh hin] at HI;go_wp2_with fail;refine (Ae HI _).mono ?_;rintro e w1 ⟨rfl,rfl⟩;go_wp2
        go_round
        case rel=>exact ⟨trivial,k+1,by omega,by go_num,fun j hj=>by
          by_cases e:j=k
          . rw [e]; exact hin
          . exact HA.out j (by omega)⟩
        case measure=>simp [intOf]; omega
      . have HI:=Ac (fun W=>Ih W (f k))
        rw [C9 hin] at HI;have HE:=Ac (Jag hlt hin);go_wp2_with fail;refine (Ae HI _).mono ?_;rintro e w1 ⟨rfl,rfl⟩;go_wp2;go_ret;exact ⟨Ap HE.out.symm,rfl⟩
    . have hkn:k=n:=by omega
      subst hkn;have HE:=Ac (Xh HA.out)
      by_cases h20:k<=20
      . go_wp2
        go_ret;exact ⟨Ap (by rw [HE.out,decide_eq_true h20,decide_eq_true (by omega)]),rfl⟩
      . go_wp2
        go_ret;exact ⟨Ap (by rw [HE.out,decide_eq_false h20,decide_eq_false (by omega)]),rfl⟩
theorem Q0 (w:World) (F:Nat->Nat->Prop) (u:Value) (n:Nat) (f:Nat->Int) (t:Int) (ht:t<=9223372036854775807) (H:Ints .i64 w F u n f) :
    Calls prog 167 #[u,.i t] w fun e w'=>e=.returned (.i (Ex n f t))/\w'=w:=by
  have HO:=Ac (Oe w F u n f H);have HF:=Ac (fun W=>Us W t ht);obtain ⟨a,cap,rfl,hn,hr,-⟩:=H
  obtain ⟨ok,hok⟩:∃ ok,Hid (ok=Du n f):=⟨_,rfl⟩
  rw [<- hok.out] at HO;have HR:=Ac hr;clear hr;cases ok
  . have HE:Hid (Ex n f t=0):=if_neg (by rw [<- hok.out]; simp)
    go_enter func167,ntmps167
    go_wp2_with fail;refine (Ae HO).mono ?_;rintro e w1 ⟨rfl,rfl⟩;go_wp2;go_ret;exact ⟨A5 HE.out.symm,rfl⟩
  . by_cases h0:n=0
    . have HE:Hid (Ex n f t=0):=if_neg (by omega)
      subst h0
      go_enter func167,ntmps167
      go_wp2_with fail;refine (Ae HO).mono ?_;rintro e w1 ⟨rfl,rfl⟩;go_wp2;go_ret;exact ⟨A5 HE.out.symm,rfl⟩
    . have HE:Hid (Ex n f t=f ((max t 0/64)%n).toNat):=if_pos ⟨hok.out.symm,by omega⟩
      have h20:=(Mn hok.out.symm).2
      obtain ⟨q,hq⟩:∃ q,Hid (q=max t 0/64):=⟨_,rfl⟩
      have q0:0<=q:=by rw [hq.out]; omega
      have q1:q<=9223372036854775807:=by rw [hq.out]; omega
      rw [<- hq.out] at HE HF;have hm:q.tmod n=q%n:=Int.tmod_eq_emod_of_nonneg q0;have hm1:q%(n:Int)<n:=Int.emod_lt_of_pos _ (by omega);have hm0:0<=q%(n:Int):=Int.emod_nonneg _ (by omega)
      obtain ⟨i,hi⟩:∃ i:Nat,q%(n:Int)=i:=⟨(q%(n:Int)).toNat,by omega⟩
      rw [hi] at hm hm1 hm0 HE
      have hin:i<n:=by omega
      obtain ⟨b,o,rfl,hc⟩:=HR.out i hin
      have hz:¬ (n:Int)=0:=by omega
      clear hm1 hm0 hi hq h0 HR
      go_enter func167,ntmps167
      go_wp2_with fail;refine (Ae HO).mono ?_;rintro e w1 ⟨rfl,rfl⟩;go_wp2_with fail;refine (Ae HF _).mono ?_;rintro e w1 ⟨rfl,rfl⟩;go_wp2;go_ret;exact ⟨A5 HE.out.symm,rfl⟩
theorem Su (w:World) (F:Nat->Nat->Prop) (H:Bool) (S:Int) (u:Value) (n:Nat) (f:Nat->Int) (t v:Int) (ht:t<=9223372036854775807) (K:Ints .i64 w F u n f) :
    Calls prog 136 #[.agg #[.bool H,.i S],u,.i t,.i v] w fun e w'=>e=.returned (.agg #[.bool (Gx v),.i (Ec H S n f t v)])/\Below w.heap.size w w':=by
  have L2:∀ o o2:Obj,Below w.heap.size w ((w.alloc o).alloc o2):=fun o o2=>((Below.refl _ _).alloc (Nat.le_refl _) _).alloc (by simp) _
  have HP:=Ac (fun (o o2:Obj)=>Q0 ((w.alloc o).alloc o2) F u n f t ht (K.keep (Aa (L2 o o2) Aj) (fun _ _ _ x=>x)));obtain ⟨a,cap,rfl,hn,hr,-⟩:=K;clear hr;have m1:bits .and .i64 v 1=v%2:=Le v
  obtain ⟨x,hx⟩:∃ x,Hid (x=Ex n f t):=⟨_,rfl⟩
  obtain ⟨h',hh⟩:∃ h',Hid (Gx v=h'):=⟨_,rfl⟩
  have hb:(v%2==1)=h':=hh.out
  obtain ⟨s',hs⟩:∃ s',Hid (Ec H S n f t v=s'):=⟨_,rfl⟩
  have e:(if (H || h')=true then x else S)=s':=by rw [<- hs.out,Ec,<- hh.out,<- hx.out]
  rw [<- hx.out] at HP;rw [hh.out,hs.out];clear hh hs hx
  cases H <;> cases h'
  . obtain rfl:S=s':=e
    go_enter func136,ntmps136
    go_wp2;refine bodyPost_ret (v:=.agg #[.bool false,.i S]) (by simp [results,results136,go_sem]) rfl ?_;exact ⟨rfl,L2 _ _⟩
  all_goals
    obtain rfl:x=s':=e
    go_enter func136,ntmps136
    go_wp2_with (go_at_call 167; refine (Ae HP _ _).mono ?_; rintro e w1 ⟨rfl,rfl⟩)
    first
      | (refine bodyPost_ret (v:=.agg #[.bool true,.i x]) (by simp [results,results136,go_sem]) rfl ?_
         exact ⟨rfl,L2 _ _⟩)
      | (refine bodyPost_ret (v:=.agg #[.bool false,.i x]) (by simp [results,results136,go_sem]) rfl ?_
         exact ⟨rfl,L2 _ _⟩)
theorem U6 (w:World) (F:Nat->Nat->Prop) (H:Bool) (S:Int) (u:Value) (n:Nat) (f:Nat->Int) (t:Int) (ht:t<=9223372036854775807) (K:Ints .i64 w F u n f) :
    Calls prog 132 #[.agg #[.bool H,.i S],u,.i t] w fun e w'=>e=.returned (.tuple #[.agg #[.bool H,.i (De H S n f t)],.i (I6 H S n f t)])/\Below w.heap.size w w':=by
  have L2:∀ o o2:Obj,Below w.heap.size w ((w.alloc o).alloc o2):=fun o o2=>((Below.refl _ _).alloc (Nat.le_refl _) _).alloc (by simp) _
  have HP:=Ac (fun (o o2:Obj)=>Q0 ((w.alloc o).alloc o2) F u n f t ht (K.keep (Aa (L2 o o2) Aj) (fun _ _ _ x=>x)));obtain ⟨a,cap,rfl,hn,hr,-⟩:=K;clear hr;cases H
  . have HE:Hid (De false S n f t=S/2/\I6 false S n f t=S%2):=by show _/\_; simp [De,I6]
    rw [HE.out.1,HE.out.2];have m1:bits .and .i64 S 1=S%2:=Le S;clear HE
    go_enter func132,ntmps132
    go_wp2;refine bodyPost_ret (v:=.tuple #[.agg #[.bool false,.i (S/2)],.i (S%2)]) (by simp [results,results132,go_sem]) rfl ?_;exact ⟨rfl,L2 _ _⟩
  . obtain ⟨x,hx⟩:∃ x,Hid (x=Ex n f t):=⟨_,rfl⟩
    have HE:Hid (De true S n f t=x/\I6 true S n f t=x%2):=by show _/\_; rw [hx.out]; simp [De,I6]
    rw [HE.out.1,HE.out.2];have m1:bits .and .i64 x 1=x%2:=Le x;rw [<- hx.out] at HP;clear HE hx
    go_enter func132,ntmps132
    go_wp2_with (go_at_call 167; refine (Ae HP _ _).mono ?_; rintro e w1 ⟨rfl,rfl⟩)
    go_region
    all_goals (
      go_wp2;refine bodyPost_ret (v:=.tuple #[.agg #[.bool true,.i x],.i (x%2)]) (by simp [results,results132,go_sem]) rfl ?_
      exact ⟨rfl,(L2 _ _).trans ⟨rfl,rfl,rfl,Nat.le_refl _,fun _ _=>rfl⟩⟩)
def Jbd (n m:Nat) (f g:Nat->Int):Bool:=decide (n<=m/\∀ i,i<n->f i=g i)
theorem Je4 {n m k:Nat} {f g:Nat->Int} (hk:k<n) (h:¬ f k=g k):Jbd n m f g=false:=decide_eq_false (fun x=>h (x.2 k hk))
theorem Jbe {n m:Nat} {f g:Nat->Int} (h:m<n):Jbd n m f g=false:=decide_eq_false (fun x=>by omega)
theorem Jdp {n m:Nat} {f g:Nat->Int} (h:n<=m) (e:∀ i,i<n->f i=g i):Jbd n m f g=true:=decide_eq_true ⟨h,e⟩
theorem Jbf {n:Nat} {f g:Nat->Int}:Jbd n n f g=Cf n n f g:=by
 unfold Jbd Cf
 congr 1
 simp
def Q9 (m n:Nat) (ln lg:Nat->Nat) (f g:Nat->Nat->Int):Bool:=decide (m<=n/\∀ i,i<m->Cf (ln i) (lg i) (f i) (g i)=true)
theorem Jdq {m n k:Nat} {ln lg:Nat->Nat} {f g:Nat->Nat->Int} (hk:k<m) (h:Cf (ln k) (lg k) (f k) (g k)=false):Q9 m n ln lg f g=false :=
 decide_eq_false (fun x=>by have:=x.2 k hk; rw [h] at this; cases this)
theorem Yj {m n:Nat} {ln lg:Nat->Nat} {f g:Nat->Nat->Int} (h:n<m):Q9 m n ln lg f g=false:=decide_eq_false (fun x=>by omega)
theorem Jbg {m n:Nat} {ln lg:Nat->Nat} {f g:Nat->Nat->Int} (h:m<=n) (e:∀ i,i<m->Cf (ln i) (lg i) (f i) (g i)=true):Q9 m n ln lg f g=true:=decide_eq_true ⟨h,e⟩
theorem Yk {m:Nat} {ln lg:Nat->Nat} {f g:Nat->Nat->Int}:Q9 m m ln lg f g=If m m ln lg f g:=by
 unfold Q9 If
 congr 1
 simp
theorem Jn (w:World) (x y:Int):Calls prog 101 #[.i x,.i y] w fun e w'=>e=.returned (.bool (x==y))/\w'=w:=by
 go_enter func101,ntmps101
 go_wp2;go_ret;exact ⟨rfl,rfl⟩
theorem Yl (w:World) (F G:Nat->Nat->Prop) (v u:Value) (n m:Nat) (f g:Nat->Int) (H:Ints .i64 w F v n f) (H':Ints .i64 w G u m g) :
  Calls prog 143 #[v,u,.func (.func 101) #[] #[]] w fun e w'=>e=.returned (.bool (Jbd n m f g))/\w'=w:=by
 obtain ⟨a,cap,rfl,hn,hc,-⟩:=H;obtain ⟨a',cap',rfl,hn',hc',-⟩:=H'
 by_cases hnm:m<n
 .have h1:(m:Int)<(n:Int):=by omega
  go_enter func143,ntmps143
  go_wp2;go_ret;exact ⟨Ap (Jbe hnm).symm,rfl⟩
 have h1:¬ (m:Int)<(n:Int):=by omega
 go_enter func143,ntmps143
 go_wp2
 go_loopw [7,8,16] (fun x y i wr=>∃ k:Nat,k<=n/\i=.i k/\(∀ j,j<k->f j=g j)/\wr=w) (fun _ _ i _=>n-(intOf i).toNat)
 case atStart=>exact ⟨0,Nat.zero_le _,rfl,fun j hj=>absurd hj (Nat.not_lt_zero _),rfl⟩
 case round =>
  obtain ⟨k,hk,rfl,heq,rfl⟩:=hrel;have HQ:=Ac heq;clear heq
  by_cases hlt:k<n
  .have hlt1:(k:Int)<(n:Int):=by omega
   obtain ⟨b,off,rfl,hcell⟩:=hc k hlt;obtain ⟨b',off',rfl,hcell'⟩:=hc' k (by omega)
   by_cases hq:f k=g k
   .have hq':(f k==g k)=true:=by simpa using hq
    have HK:=Ac hq;clear hq;go_wp2_with fail;refine (Jn _ (f k) (g k)).mono ?_;rintro e W ⟨rfl,rfl⟩;go_wp2;go_roundw
    case rel=>exact ⟨k+1,by omega,by go_num,Jdu (Ae HQ) (Ae HK),trivial⟩
    case measure=>simp [intOf]; omega
   .have hq':(f k==g k)=false:=by simpa using hq
    go_wp2_with fail;refine (Jn _ (f k) (g k)).mono ?_;rintro e W ⟨rfl,rfl⟩;go_wp2;go_ret;exact ⟨Ap (Je4 hlt hq).symm,rfl⟩
  .have hlt1:¬ (k:Int)<(n:Int):=by omega
   go_wp2;go_ret;exact ⟨Ap (Jdp (by omega) (fun i hi=>Ae HQ i (by omega))).symm,rfl⟩
theorem Ym (w:World) (F G:Nat->Nat->Prop) (v u:Value) (n m:Nat) (f g:Nat->Int) (H:Ints .i64 w F v n f) (H':Ints .i64 w G u m g) :
  Calls prog 100 #[v,u,.func (.func 101) #[] #[]] w fun e w'=>e=.returned (.bool (Cf n m f g))/\w'=w:=by
 obtain ⟨a,cap,hv,hn,-⟩:=id H;obtain ⟨a',cap',hu,hn',-⟩:=id H';subst hv hu
 by_cases e:n=m
 .subst e
  have hne:((n:Int)==(n:Int))=true:=by simp
  go_enter func100,ntmps100
  go_wp2_with fail;refine (Yl _ F G _ _ n n f g H H').mono ?_;rintro e W ⟨rfl,rfl⟩;rw [Jbf];go_wp2;go_ret;exact ⟨rfl,rfl⟩
 .have hne:((n:Int)==(m:Int))=false:=by simp; omega
  go_enter func100,ntmps100
  go_wp2;go_ret;exact ⟨Ap (Zh e).symm,rfl⟩
theorem Ei (w:World) (F G:Nat->Nat->Prop) (v u:Value) (n m:Nat) (f g:Nat->Int) (H:Ints .i64 w F v n f) (H':Ints .i64 w G u m g) :
  Calls prog 72 #[v,u] w fun e w'=>e=.returned (.bool (Cf n m f g))/\w'=w:=by
 go_enter func72,ntmps72
 go_wp2_with fail;refine (Ym _ F G _ _ n m f g H H').mono ?_;rintro e W ⟨rfl,rfl⟩;go_wp2;go_ret;exact ⟨rfl,rfl⟩
theorem Tl (w:World) (F G:Nat->Nat->Prop) (v u:Value) (m n:Nat) (ln lg:Nat->Nat) (f g:Nat->Nat->Int) (H:Bg .i64 w F v m ln f) (H':Bg .i64 w G u n lg g) :
  Calls prog 102 #[v,u,.func (.func 72) #[] #[]] w fun e w'=>e=.returned (.bool (Q9 m n ln lg f g))/\w'=w:=by
 obtain ⟨a,cap,rfl,hn,-,hc⟩:=H;obtain ⟨a',cap',rfl,hn',-,hc'⟩:=H'
 by_cases hnm:n<m
 .have h1:(n:Int)<(m:Int):=by omega
  go_enter func102,ntmps102
  go_wp2;go_ret;exact ⟨Ap (Yj hnm).symm,rfl⟩
 have h1:¬ (n:Int)<(m:Int):=by omega
 go_enter func102,ntmps102
 go_wp2
 go_loopw [7,8,16] (fun x y i wr=>∃ k:Nat,k<=m/\i=.i k/\(∀ j,j<k->Cf (ln j) (lg j) (f j) (g j)=true)/\wr=w) (fun _ _ i _=>m-(intOf i).toNat)
 case atStart=>exact ⟨0,Nat.zero_le _,rfl,fun j hj=>absurd hj (Nat.not_lt_zero _),rfl⟩
 case round =>
  obtain ⟨k,hk,rfl,heq,rfl⟩:=hrel;have HQ:=Ac heq;clear heq
  by_cases hlt:k<m
  .have hlt1:(k:Int)<(m:Int):=by omega
   obtain ⟨b,off,x0,rfl,hcell,hx0⟩:=hc k hlt;obtain ⟨b',off',y0,rfl,hcell',hy0⟩:=hc' k (by omega);have HC:=Ac (Ei wr F G x0 y0 (ln k) (lg k) (f k) (g k) hx0 hy0);clear hc hc' hx0 hy0;cases hq:Cf (ln k) (lg k) (f k) (g k)
   .rw [hq] at HC
    go_wp2_with fail;refine HC.out.mono ?_;rintro e W ⟨rfl,rfl⟩;go_wp2;go_ret;exact ⟨Ap (Jdq hlt hq).symm,rfl⟩
   .rw [hq] at HC
    have HK:=Ac hq;clear hq;go_wp2_with fail;refine HC.out.mono ?_;rintro e W ⟨rfl,rfl⟩;go_wp2;go_roundw
    case rel=>exact ⟨k+1,by omega,by go_num,Jbp (Ae HQ) (Ae HK),trivial⟩
    case measure=>simp [intOf]; omega
  .have hlt1:¬ (k:Int)<(m:Int):=by omega
   go_wp2;go_ret;exact ⟨Ap (Jbg (by omega) (fun i hi=>Ae HQ i (by omega))).symm,rfl⟩
theorem Yn (w:World) (F G:Nat->Nat->Prop) (v u:Value) (m n:Nat) (ln lg:Nat->Nat) (f g:Nat->Nat->Int) (H:Bg .i64 w F v m ln f) (H':Bg .i64 w G u n lg g) :
  Calls prog 73 #[v,u,.func (.func 72) #[] #[]] w fun e w'=>e=.returned (.bool (If m n ln lg f g))/\w'=w:=by
 obtain ⟨a,cap,hv,hn,-⟩:=id H;obtain ⟨a',cap',hu,hn',-⟩:=id H';subst hv hu
 by_cases e:m=n
 .subst e
  have hne:((m:Int)==(m:Int))=true:=by simp
  go_enter func73,ntmps73
  go_wp2_with fail;refine (Tl _ F G _ _ m m ln lg f g H H').mono ?_;rintro e W ⟨rfl,rfl⟩;rw [Yk];go_wp2;go_ret;exact ⟨rfl,rfl⟩
 .have hne:((m:Int)==(n:Int))=false:=by simp; omega
  go_enter func73,ntmps73
  go_wp2;go_ret;exact ⟨Ap (Wl e).symm,rfl⟩
theorem Jfn (w:World) (d:Nat) (v0 v1 v2 v3 v4 v5 v6 v7:Value):Below d w ((((((((w.setCell ⟨d,0,none⟩ v0).setCell ⟨d,1,none⟩ v1).setCell ⟨d,2,none⟩ v2).setCell ⟨d,3,none⟩ v3).setCell ⟨d,4,none⟩ v4).setCell ⟨d,5,none⟩ v5).setCell ⟨d,6,none⟩ v6).setCell ⟨d,7,none⟩ v7) :=
 ((((((((Below.refl d w).setCell (Nat.le_refl _) _).setCell (Nat.le_refl _) _).setCell (Nat.le_refl _) _).setCell (Nat.le_refl _) _).setCell (Nat.le_refl _) _).setCell (Nat.le_refl _) _).setCell (Nat.le_refl _) _).setCell (Nat.le_refl _) _
theorem Jd2 (W:World) (A X S Pc A' X' S' Pc':Int) (Z N C I:Bool):(binOp .eql 31 (.agg (cR A' X' S' Pc' Z N C I)) (.agg (cR A X S Pc Z N C I))).run prog W=.ok (.bool (A'==A && (X'==X && (S'==S && Pc'==Pc)))) W:=by
 obtain ⟨fs,hfs,hf⟩:∃ fs,prog.underlying 31=some (.struct fs)/\prog.fieldsOf 31=fs:=⟨_,underlying31,by unfold Program.fieldsOf; rw [underlying31]⟩
 have hu':prog.underlying 31=some (.struct (prog.fieldsOf 31)):=by rw [hf,hfs]
 rw [run_eql_struct,show (10000:Nat)=9999+1 from rfl,run_equalIn_agg W 9999 31 _ _ hu' (by kernel_rfl),hf];obtain rfl:=TypeDesc.struct.inj (Option.some.inj (hfs.symm.trans underlying31))
 cases hA:A'==A <;> cases hX:X'==X <;> cases hS:S'==S <;> cases hP:Pc'==Pc <;> simp [Op.eqFields,go_sem,underlying3,underlying4,hA,hX,hS,hP]
theorem Jfo (A X S Pc:Int):(A%256==A && (X%256==X && (S%256==S && Pc%65536==Pc)))=I9 A X S Pc:=by
 have b:∀ x:Int,(x%256==x)=Cr x 0 255:=fun x=>by
  by_cases h:0<=x/\x<=255
  .rw [Bh h]; exact beq_iff_eq.2 (by omega)
  .rw [C9 h]; exact beq_eq_false_iff_ne.2 (by omega)
 have p:∀ x:Int,(x%65536==x)=Cr x 0 65535:=fun x=>by
  by_cases h:0<=x/\x<=65535
  .rw [Bh h]; exact beq_iff_eq.2 (by omega)
  .rw [C9 h]; exact beq_eq_false_iff_ne.2 (by omega)
 unfold I9;rw [b,b,b,p];simp only [Bool.and_assoc]
def Uh (f m:Int) (on:Bool):Int:=if on then bits .or .u8 f m else bits .andNot .u8 f m
def Ja (f m:Int):Bool:=bits .and .u8 f m != 0
def Kt (f o:Int):Int:=bits .or .u8 (bits .andNot .u8 f 130) (2*Av (o==0)+128*Av (decide (127<o)))
theorem Jb8 (Z N C I:Bool):Uh (Uh (Uh (Uh 0 1 C) 2 Z) 4 I) 128 N=flagsOf Z N C I:=by
 cases Z <;> cases N <;> cases C <;> cases I <;> decide
theorem Jb9 (Z N C I:Bool) (o:Int):Ja (Kt (flagsOf Z N C I) o) 1=C:=by
 unfold Kt;generalize (o==0)=a;generalize decide (127<o)=b
 cases Z <;> cases N <;> cases C <;> cases I <;> cases a <;> cases b <;> decide
theorem Jca (Z N C I:Bool) (o:Int):Ja (Kt (flagsOf Z N C I) o) 4=I:=by
 unfold Kt;generalize (o==0)=a;generalize decide (127<o)=b
 cases Z <;> cases N <;> cases C <;> cases I <;> cases a <;> cases b <;> decide
theorem Jcb (Z N C I:Bool) (o:Int):Ja (Kt (flagsOf Z N C I) o) 2=(o==0):=by
 unfold Kt;generalize (o==0)=a;generalize decide (127<o)=b
 cases Z <;> cases N <;> cases C <;> cases I <;> cases a <;> cases b <;> decide
theorem Jcc (Z N C I:Bool) (o:Int):Ja (Kt (flagsOf Z N C I) o) 128=decide (127<o):=by
 unfold Kt;generalize (o==0)=a;generalize decide (127<o)=b
 cases Z <;> cases N <;> cases C <;> cases I <;> cases a <;> cases b <;> decide
theorem Zu (w:World) (f m:Int) (on:Bool):Calls prog 217 #[.int .u8 f,.int .u8 m,.bool on] w fun e w'=>e=.returned (.int .u8 (Uh f m on))/\w'=w:=by
 cases on <;> (go_enter func217,ntmps217; go_wp2; go_ret; exact ⟨rfl,rfl⟩)
theorem Zv (w:World) (f m:Int):Calls prog 240 #[.int .u8 f,.int .u8 m] w fun e w'=>e=.returned (.bool (Ja f m))/\w'=w:=Ki f m w
theorem Ku (w:World) (f o:Int) (o0:0<=o) (o1:o<256):Calls prog 237 #[.int .u8 f,.int .u8 o] w fun e w'=>e=.returned (.int .u8 (Kt f o))/\w'=w:=by
 go_enter func237,ntmps237
 go_wp2_with (go_at_call 242; refine (Tu _ _ o0 o1).mono ?_; rintro e w' ⟨rfl,rfl⟩);go_ret;exact ⟨rfl,rfl⟩
theorem Jd3 (w:World) (x:Int):Calls prog 244 #[.i x] w fun e w'=>e=.returned (.int .u8 (x%256))/\w'=w:=by
 go_enter func244,ntmps244
 go_wp2;go_ret;exact ⟨rfl,rfl⟩
theorem Rt (w:World) (A X S Pc:Int) (Z N C I:Bool):Calls prog 175 #[.agg (cR A X S Pc Z N C I)] w
  fun e w'=>e=.returned (.agg #[.int .u8 (flagsOf Z N C I),.i A,.i X,.i S,.i Pc])/\Below w.heap.size w w':=by
 have e:=Ac (Jb8 Z N C I)
 go_enter func175,ntmps175
 go_wp2_with (go_at_call 217; refine (Zu _ _ _ _).mono ?_; rintro e w' ⟨rfl,rfl⟩);refine bodyPost_ret (v:=.agg #[.int .u8 (flagsOf Z N C I),.i A,.i X,.i S,.i Pc]) (by simp [results,results175,go_sem,Ae e]) rfl ?_;exact ⟨rfl,(((Below.refl _ _).alloc (Nat.le_refl _) _).alloc (by simp) _).alloc (by simp; omega) _⟩
theorem Ru (w:World) (F A X S Pc:Int):Calls prog 238 #[.agg #[.int .u8 (F),.i A,.i X,.i S,.i Pc]] w
  fun e w'=>e=.returned (.agg (cR A X S Pc (Ja F 2) (Ja F 128) (Ja F 1) (Ja F 4)))/\Below w.heap.size w w':=by
 go_enter func238,ntmps238
 go_wp2_with fail
 go_region_held3 (fun w'=>w'.cell? ⟨w.heap.size,0,none⟩=some (.int .u8 F)/\w'.cell? ⟨w.heap.size,1,none⟩=some (.i A)/\w'.cell? ⟨w.heap.size,2,none⟩=some (.i X)/\w'.cell? ⟨w.heap.size,3,none⟩=some (.i S)/\w'.cell? ⟨w.heap.size,4,none⟩=some (.i Pc)) (first | assumption | go_keep) ((go_at_call 240; refine (Zv _ _ _).mono ?_; rintro e w' ⟨rfl,rfl⟩))
 all_goals (go_wp2; refine bodyPost_ret (v:=.agg (cR A X S Pc (Ja F 2) (Ja F 128) (Ja F 1) (Ja F 4))) (by simp [results,results238,go_sem]) rfl ?_)
 all_goals exact ⟨rfl,(((Below.refl _ _).alloc (Nat.le_refl _) _).alloc (by simp) _).drew⟩
theorem Zw (w:World) (A X S Pc:Int) (Z N C I:Bool):Calls prog 21 #[.agg (cR A X S Pc Z N C I)] w
  fun e w'=>e=.returned (.bool (I9 A X S Pc))/\Below w.heap.size w w':=by
 have hq:=fun W=>Jd2 W A X S Pc (A%256) (X%256) (S%256) (Pc%65536) Z N C I
 have ho:=Ac (Jfo A X S Pc)
 go_enter func21,ntmps21
 go_wp2_with fail
 go_region_held3 (fun w'=>w'.cell? ⟨w.heap.size,0,none⟩=some (.i A)/\w'.cell? ⟨w.heap.size,1,none⟩=some (.i X)/\w'.cell? ⟨w.heap.size,2,none⟩=some (.i S)/\w'.cell? ⟨w.heap.size,3,none⟩=some (.i Pc)) (first | assumption | go_keep) (first | (go_at_call 62; refine (Ct _ _).mono ?_; rintro e w' ⟨rfl,rfl⟩) | (go_at_call 63; refine (Hj _ _).mono ?_; rintro e w' ⟨rfl,rfl⟩))
 all_goals go_wp2
 all_goals go_ret
 all_goals exact ⟨Ap (Ae ho),(((Below.refl _ _).alloc (Nat.le_refl _) _).alloc (by simp) _).drew⟩
theorem Zx (w:World) (A X S Pc:Int) (Z N C I:Bool):Calls prog 148 #[.agg (cR A X S Pc Z N C I)] w
  fun e w'=>e=.returned (.i (flagsOf Z N C I))/\Below w.heap.size w w':=by
 go_enter func148,ntmps148
 go_wp2_with fail;refine (Rt _ A X S Pc Z N C I).mono ?_;rintro e w1 ⟨rfl,L1⟩
 have b0:0<=flagsOf Z N C I/\flagsOf Z N C I<256:=by cases Z <;> cases N <;> cases C <;> cases I <;> decide
 generalize hF:flagsOf Z N C I=F at *
 have hf:∀ W,(Instr.field 188 (.agg #[.int .u8 F,.i A,.i X,.i S,.i Pc]) 0).run prog W=.ok (.int .u8 F) W:=fun W=>by kernel_rfl
 go_wp2;go_ret;exact ⟨A5 hF.symm,Ah ((Below.refl _ _).alloc (Nat.le_refl _) _) L1⟩
theorem E9 (w:World) (A X S Pc:Int) (Z N C I:Bool) (v:Int):Calls prog 224 #[.agg (cR A X S Pc Z N C I),.i v] w
  fun e w'=>e=.returned (.agg (cR (v%256) X S Pc (v%256==0) (decide (127<v%256)) C I))/\Below w.heap.size w w':=by
 have e1:=Ac (Jb9 Z N C I (v%256));have e2:=Ac (Jcb Z N C I (v%256));have e4:=Ac (Jca Z N C I (v%256));have e8:=Ac (Jcc Z N C I (v%256))
 go_enter func224,ntmps224
 go_wp2_with fail;refine (Rt _ A X S Pc Z N C I).mono ?_;rintro e w1 ⟨rfl,L1⟩;have K1:=Ab (Ak (w.alloc _) _ _) L1 (by simp);have M1:=((((Below.refl _ _).alloc (Nat.le_refl _) _).alloc (by simp) _)).trans (L1.mono (by simp; omega));simp only [World.size_alloc] at K1;generalize flagsOf Z N C I=F at *;clear L1;go_wp2_with (first | (go_at_call 62; refine (Ct _ _).mono ?_; rintro e w' ⟨rfl,rfl⟩) | (go_at_call 237; refine (Ku _ _ _ (by omega) (by omega)).mono ?_; rintro e w' ⟨rfl,rfl⟩));refine (Ru _ _ _ _ _ _).mono ?_;rintro e w2 ⟨rfl,L2⟩;have K2:=Ab (Az K1 _) L2 (by have:=Ad K1; simp; omega);have c2:=Af K2;have f2:=Au K2;rw [Ae e1,Ae e2,Ae e4,Ae e8];go_wp2;refine bodyPost_ret (v:=.agg (cR (v%256) X S Pc (v%256==0) (decide (127<v%256)) C I)) (by simp [results,results224,go_sem,c2]) rfl ?_
 exact ⟨rfl,(M1.trans ((((Below.refl _ _).alloc (Nat.le_refl _) _).trans (L2.mono (by simp))).mono M1.size)).trans ((Jfn w2 _ _ _ _ _ _ _ _ _).mono (by omega))⟩
theorem Nt (w:World) (A X S Pc:Int) (Z N C I:Bool) (v:Int):Calls prog 229 #[.agg (cR A X S Pc Z N C I),.i v] w
  fun e w'=>e=.returned (.agg (cR A (v%256) S Pc (v%256==0) (decide (127<v%256)) C I))/\Below w.heap.size w w':=by
 have e1:=Ac (Jb9 Z N C I (v%256));have e2:=Ac (Jcb Z N C I (v%256));have e4:=Ac (Jca Z N C I (v%256));have e8:=Ac (Jcc Z N C I (v%256))
 go_enter func229,ntmps229
 go_wp2_with fail;refine (Rt _ A X S Pc Z N C I).mono ?_;rintro e w1 ⟨rfl,L1⟩;have K1:=Ab (Ak (w.alloc _) _ _) L1 (by simp);have M1:=((((Below.refl _ _).alloc (Nat.le_refl _) _).alloc (by simp) _)).trans (L1.mono (by simp; omega));simp only [World.size_alloc] at K1;generalize flagsOf Z N C I=F at *;clear L1;go_wp2_with (first | (go_at_call 62; refine (Ct _ _).mono ?_; rintro e w' ⟨rfl,rfl⟩) | (go_at_call 237; refine (Ku _ _ _ (by omega) (by omega)).mono ?_; rintro e w' ⟨rfl,rfl⟩));refine (Ru _ _ _ _ _ _).mono ?_;rintro e w2 ⟨rfl,L2⟩;have K2:=Ab (Az K1 _) L2 (by have:=Ad K1; simp; omega);have c2:=Af K2;have f2:=Au K2;rw [Ae e1,Ae e2,Ae e4,Ae e8];go_wp2;refine bodyPost_ret (v:=.agg (cR A (v%256) S Pc (v%256==0) (decide (127<v%256)) C I)) (by simp [results,results229,go_sem,c2]) rfl ?_
 exact ⟨rfl,(M1.trans ((((Below.refl _ _).alloc (Nat.le_refl _) _).trans (L2.mono (by simp))).mono M1.size)).trans ((Jfn w2 _ _ _ _ _ _ _ _ _).mono (by omega))⟩
theorem Px (w:World) (A X S Pc:Int) (Z N C I:Bool) (v:Int):Calls prog 232 #[.agg (cR A X S Pc Z N C I),.i v] w
  fun e w'=>e=.returned (.agg (cR A X S Pc (hasB v 2) (hasB v 128) (hasB v 1) (hasB v 4)))/\Below w.heap.size w w':=by
 have e1:Hid (Ja (v%256) 1=hasB v 1):=Ac (Rs v 1 (by omega));have e2:Hid (Ja (v%256) 2=hasB v 2):=Ac (Rs v 2 (by omega));have e4:Hid (Ja (v%256) 4=hasB v 4):=Ac (Rs v 4 (by omega));have e8:Hid (Ja (v%256) 128=hasB v 128):=Ac (Rs v 128 (by omega))
 go_enter func232,ntmps232
 go_wp2_with fail;refine (Rt _ A X S Pc Z N C I).mono ?_;rintro e w1 ⟨rfl,L1⟩;have K1:=Ab (Ak (w.alloc _) _ _) L1 (by simp);have M1:=((((Below.refl _ _).alloc (Nat.le_refl _) _).alloc (by simp) _)).trans (L1.mono (by simp; omega));simp only [World.size_alloc] at K1;clear L1;go_wp2_with (go_at_call 244; refine (Jd3 _ _).mono ?_; rintro e w' ⟨rfl,rfl⟩);refine (Ru _ _ _ _ _ _).mono ?_;rintro e w2 ⟨rfl,L2⟩;have K2:=Ab (Az K1 _) L2 (by have:=Ad K1; simp; omega);have c2:=Af K2;have f2:=Au K2;rw [Ae e1,Ae e2,Ae e4,Ae e8];go_wp2;refine bodyPost_ret (v:=.agg (cR A X S Pc (hasB v 2) (hasB v 128) (hasB v 1) (hasB v 4))) (by simp [results,results232,go_sem,c2]) rfl ?_
 exact ⟨rfl,(M1.trans ((((Below.refl _ _).alloc (Nat.le_refl _) _).trans (L2.mono (by simp))).mono M1.size)).trans ((Jfn w2 _ _ _ _ _ _ _ _ _).mono (by omega))⟩
end Go.Proofs.YtijljlnooibbmaaGreatDoor
