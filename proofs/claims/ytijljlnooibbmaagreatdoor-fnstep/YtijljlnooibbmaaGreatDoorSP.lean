import Derived.Test.YtijljlnooibbmaaGreatDoorEB
import Derived.Test.YtijljlnooibbmaaGreatDoorSL
namespace Go.Proofs.YtijljlnooibbmaaGreatDoor
set_option maxHeartbeats 8000000
set_option maxRecDepth 40000
open Go.Proofs.Tryz
set_option linter.unusedVariables false
set_option linter.unusedSimpArgs false
open Go.ChangeShapes Go.WideShapes Go.ChangeAt Go.RowKit
theorem Jgl (w:World) (lo:Nat) (D:Nat->Nat->Prop) (v:Value) (d:Aq) (H:Fl w lo D v d) (hlo:lo<=w.heap.size) (hok:OkL d) (hnq:d.nq<1048576):Calls prog 53 #[v] w fun e w'=>∃ v',e=.returned (.tuple #[v',.i (actN d)])/\Iy w w' lo D v' (actD d)/\Below lo w w'/\Eg w w':=by
 cases hnm:d.nmi
 .cases hrr:d.R
  .exact Jdm w lo D v d H hlo hok hnq hnm (by rw [hrr]; rfl)
  .cases hii:d.I
   .exact Jgk w lo D v d H hlo hok hnm hrr hii
   .exact Jdm w lo D v d H hlo hok hnq hnm (by rw [hrr,hii]; rfl)
 .exact Jgj w lo D v d H hlo hok hnm
def Jg8 (cs:Array Value):Prop:=cs.size=34/\cs.all (·.oneCell')=true
theorem Lx.st {w W:World} {lo N b r:Nat} {E D:Nat->Nat->Prop} {u0 u1 u2 u3 u4 ov:Value} {gb cp:Nat->Nat} {g6 c6 g7 c7:Nat} {d:Aq} (H:Lx w W lo N b r E D u0 u1 u2 u3 u4 ov gb cp g6 c6 g7 c7 d) (x:Int):Lx w W lo N b r E D u0 u1 u2 u3 u4 ov gb cp g6 c6 g7 c7 (withSt d x) :=
 ⟨⟨H.lp.h0,H.lp.h1,H.lp.h2,H.lp.h3,H.lp.h4,H.lp.h4D,H.lp.h6,H.lp.h6D,H.lp.h7,H.lp.h7D,H.lp.dis,H.lp.bd,H.lp.n6,H.lp.n7,H.lp.nN,H.lp.hps⟩,H.ap,H.nr,H.nl⟩
theorem Jdn (w:World) (lo:Nat) (D:Nat->Nat->Prop) (v:Value) (d:Aq) (H:Fl w lo D v d) (hlo:lo<=w.heap.size) (hok:OkL d) (hnq:d.nq<1048576):Calls prog 17 #[v] w fun e w'=>∃ cs,e=.returned (.tuple #[.agg cs,.bool (D7 d)])/\Jg8 cs/\(D7 d=true->Iy w w' lo D (.agg cs) (stepD d))/\Below lo w w':=by
 obtain ⟨u0,u1,u2,u3,u4,ov,gb,cp,g6,c6,g7,c7,rfl,LX⟩:=H.start hlo (Below.refl w.heap.size w);have HONE:=Ac LX.one;replace LX:=LX.below (((Below.refl w.heap.size w).alloc (Nat.le_refl _) (.cells (rowL u0 u1 u2 u3 u4 ov g6 c6 g7 c7 d) 41)).alloc (by simp) (.cells zR 41));have BX:=Bx.start w (rowL u0 u1 u2 u3 u4 ov g6 c6 g7 c7 d) zR hlo
 obtain ⟨n,hn⟩:∃ n:Nat,Hid ((n:Int)=actN d):=⟨(actN d).toNat,by show _=_; have:=G8 d; omega⟩
 have hn7:n<=7:=by have:=G8 d; have:=hn.out; omega
 obtain ⟨T0,hT0⟩:∃ x,Hid (x=d.t):=⟨_,rfl⟩
 have h0:0<=T0:=by rw [hT0.out]; exact hok.t.ppu.t0
 have h1:T0<=20000:=by rw [hT0.out]; exact hok.t.ppu.t1
 have hAt:Hid ((actD d).t=T0):=by show _=_; rw [hT0.out]; exact (Ge d hok.row).1
 have hAs:Hid ((actD d).st=d.st):=(Ge d hok.row).2.1;have hAk:Hid (Ie (actD d)):=hok.t.act
 have HB:Hid (D7 d=decide (T0+n<=20000)):=by show _=_; unfold D7; rw [hAt.out,hn.out]
 have HD:Hid (stepD d=withSt (tickN n (actD d)) (d.st+1)):=by
  show _=_
  unfold stepD
  have e:(actN d).toNat=n:=by have:=hn.out; omega
  have es:∀ k (d:Aq),(tickN k d).st=d.st:=fun k=>by
   induction k with
   | zero=>intro d; rfl
   | succ k ih=>intro d; exact ih (Ds d)
  rw [e,es,hAs.out]
 have hst:Hid (0<=d.st/\d.st<=20000):=⟨hok.st.1,by have:=hok.st.2; rw [<- hT0.out] at this; omega⟩
 go_enter func17,ntmps17
 go_upto_region 1 with (fail);generalize (w.alloc (.cells (rowL u0 u1 u2 u3 u4 ov g6 c6 g7 c7 d) 41)).alloc (.cells zR 41)=W0 at *;generalize hrs:(zR:Array Value)=rs at BX
 have HRS:Hid (rs.size=34):=by show _=_; rw [<- hrs]; rfl
 clear hrs;have HDO:=Ac (fun W v h hl=>Jgl W lo D v d h hl hok hnq);rw [<- hn.out] at HDO;rename_i K3 hK3;refine wp_region_lit ?_;refine wpList_load_row rfl _ _ rfl w.heap.size rfl _ _ _ _ BX.box underlying41 rfl An ?_;have hz2:=BX.low.size;refine A3 rfl _ _ (by kernel_rfl) (HDO.out W0 _ LX.lp.x (by omega)) ?_;rintro e W1 ⟨v1,rfl,HN,LB,KB⟩;refine ⟨_,rfl,?_⟩;have hz3:=LB.size;obtain ⟨D1,a0,a1,a2,a3,a4,av,gb',cp',h6,i6,h7,i7,rfl,LX1⟩:=HN.lx LX.ap LX.nr (Ad BX.box) (Ad BX.res) hz2 (by omega);replace BX:=BX.turn LB KB;clear HN LB KB LX HDO
 iterate 4 (refine wpList_plain rfl (fun K9 hK9=>?_); go_simp; refine hK9 _ _ ?_; clear hK9)
 have LA:Below W1.heap.size W1 (W1.alloc (.cells zR 41)):=(Below.refl _ _).alloc (Nat.le_refl _) _;have kp:=Ak W1 zR 41
 obtain ⟨pp,hpp⟩:∃ x,Hid (x=W1.heap.size):=⟨_,rfl⟩
 have lpp:w.heap.size+1<pp:=by rw [hpp.out]; exact Ad BX.res
 rw [<- hpp.out] at kp ⊢;replace BX:=BX.below LA;replace LX1:=LX1.below LA;clear LA;generalize W1.alloc (.cells zR 41)=WA at *
 have BP:Bx w WA lo pp (w.heap.size+1) rs zR:=⟨kp,BX.res,BX.low,BX.kept,by omega,by omega,by omega,hlo⟩
 have LP:Lx w WA lo W1.heap.size pp (w.heap.size+1) D D1 a0 a1 a2 a3 a4 av gb' cp' h6 i6 h7 i7 (actD d):=⟨LX1.lp,fun i k h=>⟨by have:=(LX1.lp.bd i k h).2; rw [hpp.out]; omega,(LX1.ap i k h).2⟩,LX1.nr,LX1.nl⟩
 refine wpList_store_row rfl _ _ _ rfl pp _ rfl rfl _ _ kp An rfl LX1.one ?_
 iterate 1 (refine wpList_plain rfl (fun K9 hK9=>?_); go_simp; refine hK9 _ _ ?_; clear hK9)
 have LP2:=LP.wrote BP (Or.inl rfl) (As BP.box (rowL a0 a1 a2 a3 a4 av h6 i6 h7 i7 (actD d)));replace BP:=BP.set (rowL a0 a1 a2 a3 a4 av h6 i6 h7 i7 (actD d));replace BX:=BX.far (by omega) (by omega) (by omega) (As kp (rowL a0 a1 a2 a3 a4 av h6 i6 h7 i7 (actD d)));clear LP LX1 kp hpp;generalize WA.setRow pp (rowL a0 a1 a2 a3 a4 av h6 i6 h7 i7 (actD d))=W2 at *;refine hK3 _ _ ?_;clear hK3;have c0:=Af BP.box
 have f12:(rowL a0 a1 a2 a3 a4 av h6 i6 h7 i7 (actD d))[12]?=some (.i T0):=by rw [<- hAt.out]; rfl
 by_cases hT:T0+(n:Int)<=20000
 .have hnT:¬ (20000:Int)<T0+(n:Int):=by omega
  have HBt:Hid (D7 d=true):=by show _=_; rw [HB.out,decide_eq_true hT]
  have HT:=Ac hT;clear hT;go_wp2_with fail;clear c0 f12
  go_loopw [6] (fun kx wr=>∃ k:Nat,k<=n/\kx=.i k/\∃ (N:Nat) (D':Nat->Nat->Prop) (b0 b1 b2 b3 b4 bv:Value) (gb cp:Nat->Nat) (j6 e6 j7 e7:Nat),Bx w wr lo pp (w.heap.size+1) rs (rowL b0 b1 b2 b3 b4 bv j6 e6 j7 e7 (tickN k (actD d)))/\Lx w wr lo N pp (w.heap.size+1) D D' b0 b1 b2 b3 b4 bv gb cp j6 e6 j7 e7 (tickN k (actD d))) (fun kx _=>n-(intOf kx).toNat)
  case atStart=>exact ⟨0,Nat.zero_le _,rfl,_,_,_,_,_,_,_,_,_,_,_,_,_,_,BP,LP2⟩
  case round =>
   clear BP LP2 BX;obtain ⟨k,hk,rfl,N,D',b0,b1,b2,b3,b4,bv,gb2,cp2,j6,e6,j7,e7,BR,LR⟩:=hrel
   by_cases hlt:k<n
   .have hlt':(k:Int)<(n:Int):=by omega
    have hkt:(tickN k (actD d)).t=T0+k:=by rw [Ls k (actD d) (by rw [hAt.out]; have:=HT.out; omega),hAt.out]
    have hkk:Ie (tickN k (actD d)):=hAk.out.ticks k (by rw [hAt.out]; have:=HT.out; omega);have HTI:=Ac (fun W v h hl=>Jdk W lo D' v (tickN k (actD d)) h hl hkk (by rw [hkt]; have:=HT.out; omega));have HS:=Ac (Ke k (actD d));clear hkt hkk;go_upto_region 7 with (fail);rename_i K3 hK3;refine wp_region_lit ?_;refine wpList_load_row rfl _ _ rfl pp rfl _ _ _ _ BR.box underlying41 rfl An ?_;have hz4:=BR.low.size;refine A3 rfl _ _ (by kernel_rfl) (HTI.out wr _ LR.lp.x (by omega)) ?_;rintro e W3 ⟨v3,rfl,HN,LB,KB⟩;refine ⟨_,rfl,?_⟩;have hz5:=LB.size;rw [<- HS.out] at HN;obtain ⟨D3,m0,m1,m2,m3,m4,mv,gb3,cp3,y6,z6,y7,z7,rfl,LR3⟩:=HN.lx LR.ap LR.nr (Ad BR.box) (Ad BR.res) hz4 (by omega);replace BR:=BR.turn LB KB;clear HN LB KB LR HTI;refine wpList_store_row rfl _ _ _ rfl pp _ rfl rfl _ _ BR.box An rfl LR3.one ?_
    have LR4:=LR3.wrote BR (Or.inl rfl) (As BR.box (rowL m0 m1 m2 m3 m4 mv y6 z6 y7 z7 (tickN (k+1) (actD d))));replace BR:=BR.set (rowL m0 m1 m2 m3 m4 mv y6 z6 y7 z7 (tickN (k+1) (actD d)));clear LR3;generalize W3.setRow pp (rowL m0 m1 m2 m3 m4 mv y6 z6 y7 z7 (tickN (k+1) (actD d)))=W4 at *;refine hK3 _ _ ?_;clear hK3;go_wp2;go_roundw
    case rel=>exact ⟨k+1,by omega,by go_num,_,_,_,_,_,_,_,_,_,_,_,_,_,_,BR,LR4⟩
    case measure=>simp [intOf]; omega
   .have hkn:k=n:=by omega
    subst hkn
    have hlt':¬ (k:Int)<(k:Int):=by omega
    have es:(tickN k (actD d)).st=d.st:=by
     have:=congrArg Aq.st HD.out
     have es:∀ k (d:Aq),(tickN k d).st=d.st:=fun k=>by
      induction k with
      | zero=>intro d; rfl
      | succ k ih=>intro d; exact ih (Ds d)
     rw [es,hAs.out]
    have hst0:=hst.out.1;have hst1:=hst.out.2
    obtain ⟨S0,hS0⟩:∃ x,Hid (x=d.st):=⟨_,rfl⟩
    rw [<- hS0.out] at hst0 hst1 es;have c0:=Af BR.box;have f0:=Au BR.box
    have f30:(rowL b0 b1 b2 b3 b4 bv j6 e6 j7 e7 (tickN k (actD d)))[30]?=some (.i S0):=by rw [<- es]; rfl
    go_upto_region 9 with (fail);clear c0 f0 f30;rename_i K3 hK3;have LR5:=LR.wrote BR (Or.inl rfl) (BR.cellW 30 (.i (S0+1)));replace BR:=BR.cell 30 (.i (S0+1));generalize wr.setCell ⟨pp,30,none⟩ (.i (S0+1))=W5 at *;replace BR:Bx w W5 lo pp (w.heap.size+1) rs (rowL b0 b1 b2 b3 b4 bv j6 e6 j7 e7 (withSt (tickN k (actD d)) (S0+1))):=BR;have LR6:Lx w W5 lo N pp (w.heap.size+1) D D' b0 b1 b2 b3 b4 bv gb2 cp2 j6 e6 j7 e7 (withSt (tickN k (actD d)) (S0+1)):=LR5.st (S0+1);clear LR5 LR;refine wp_region_lit ?_;refine wpList_load_row rfl _ _ rfl pp rfl _ _ _ _ BR.box underlying41 rfl An ?_;refine wpList_store_row rfl _ _ _ rfl (w.heap.size+1) _ rfl rfl _ _ BR.res An HRS.out LR6.one ?_
    iterate 1 (refine wpList_plain rfl (fun K9 hK9=>?_); go_simp; refine hK9 _ _ ?_; clear hK9)
    have LXF:=LR6.wrote BR (Or.inr rfl) (As BR.res (rowL b0 b1 b2 b3 b4 bv j6 e6 j7 e7 (withSt (tickN k (actD d)) (S0+1))));have BXF:=BR.out (rowL b0 b1 b2 b3 b4 bv j6 e6 j7 e7 (withSt (tickN k (actD d)) (S0+1)));generalize W5.setRow (w.heap.size+1) (rowL b0 b1 b2 b3 b4 bv j6 e6 j7 e7 (withSt (tickN k (actD d)) (S0+1)))=W6 at *;refine hK3 _ _ ?_;clear hK3;go_wp2;refine bodyPost_ret (v:=.tuple #[.agg (rowL b0 b1 b2 b3 b4 bv j6 e6 j7 e7 (withSt (tickN k (actD d)) (S0+1))),.bool true]) (A2 results17 _ _ (w.heap.size+1) _ _ _ _ rfl BXF.res underlying41 rfl An) rfl ?_;rw [HBt.out];exact ⟨_,rfl,⟨rfl,LXF.one⟩,fun _=>by rw [HD.out,<- hS0.out]; exact LXF.nx,BXF.low⟩
 .have hnT:(20000:Int)<T0+(n:Int):=by omega
  have HBt:Hid (D7 d=false):=by show _=_; rw [HB.out,decide_eq_false hT]
  clear hT LP2 BP;go_upto_region 3 with (fail);clear c0 f12;rename_i K3 hK3;refine wp_region_lit ?_;refine wpList_load_row rfl _ _ rfl w.heap.size rfl _ _ _ _ BX.box underlying41 rfl An ?_;refine wpList_store_row rfl _ _ _ rfl (w.heap.size+1) _ rfl rfl _ _ BX.res An HRS.out HONE.out ?_
  iterate 1 (refine wpList_plain rfl (fun K9 hK9=>?_); go_simp; refine hK9 _ _ ?_; clear hK9)
  have BXF:=BX.out (rowL u0 u1 u2 u3 u4 ov g6 c6 g7 c7 d);generalize W2.setRow (w.heap.size+1) (rowL u0 u1 u2 u3 u4 ov g6 c6 g7 c7 d)=W6 at *;refine hK3 _ _ ?_;clear hK3;go_wp2;refine bodyPost_ret (v:=.tuple #[.agg (rowL u0 u1 u2 u3 u4 ov g6 c6 g7 c7 d),.bool false]) (A2 results17 _ _ (w.heap.size+1) _ _ _ _ rfl BXF.res underlying41 rfl An) rfl ?_;rw [HBt.out];exact ⟨_,rfl,⟨rfl,HONE.out⟩,fun h=>absurd h (by decide),BXF.low⟩
end Go.Proofs.YtijljlnooibbmaaGreatDoor
