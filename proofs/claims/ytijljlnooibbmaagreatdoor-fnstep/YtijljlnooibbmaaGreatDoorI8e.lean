import Derived.Test.YtijljlnooibbmaaGreatDoorGT
import Derived.Test.YtijljlnooibbmaaGreatDoorI8b
import Derived.Test.YtijljlnooibbmaaGreatDoorI6b
import Derived.Laws.EntriesVeiled
namespace Go.Proofs.YtijljlnooibbmaaGreatDoor
set_option maxHeartbeats 2000000
open Go.Proofs.Tryz
set_option linter.unusedVariables false
set_option linter.unusedSimpArgs false
open Go.ChangeShapes Go.WideShapes Go.ChangeAt Go.RowKit
theorem Ur (w:World) (z:Nat) (t c s ad pl:Int) (bl:Bool) (u1 u2:Value) (hb:w.heap[z]?=some (.cells (pR t c s ad pl bl u1 u2) 33 (0,0))) (a0:0<=ad) (a1:ad<=15) :
  Calls prog 218 #[(pt z 0)] w fun e w'=>e=.returned (.tuple #[])/\w'=w.setCell ⟨z,3,none⟩ (.i ((ad+1)%16)):=by
 have hc:=Af hb;have hf:=Au hb;have t16:(ad+1).tmod 16=(ad+1)%16:=Int.tmod_eq_emod_of_nonneg (by omega)
 go_enter func218,ntmps218
 go_wp2
 ((try simp only [Exit.inBlock,Exit.then]); first | (refine bodyPost_ret (results_none rfl _ _ _) rfl ?_) | (refine bodyPost_end (results_none rfl _ _ _) rfl ?_))
 exact ⟨rfl,rfl⟩
theorem Jcq (w:World) (z p n x lo:Nat) (t c s ad pl:Int) (bl:Bool) (u2:Value) (f:Nat->Int) (reg v:Int) (hb:w.heap[z]?=some (.cells (pR t c s ad pl bl (.slice (some ⟨p,0,none⟩) n x) u2) 33 (0,0))) (R:Row w lo p n x f) (hzp:z≠p) (h16:n=16) (a0:0<=ad) (a1:ad<=15) :
  Calls prog 182 #[(pt z 0),.i reg,.i (v%256)] w fun e w'=>e=.returned (.tuple #[])/\w'.heap[z]?=some (.cells (pR t (Kx true reg v c) (Ky true reg v s) (Kz true reg v ad) (La true reg v pl) bl (.slice (some ⟨p,0,none⟩) n x) u2) 33 (0,0))/\Row w' lo p n x (My true reg v ad f)/\Wrote (fun b _=>b=z\/b=p) w w':=by
 have hc:=Af hb;have hf:=Au hb
 have KEY:Hid (∀ (k:Nat) (y:Value) (cs:Array Value),w.heap[z]?=some (.cells (pR t c s ad pl bl (.sl p 0 n x) u2) 33 (0,0))->(pR t c s ad pl bl (.sl p 0 n x) u2).setIfInBounds k y=cs->(w.sc z k y).heap[z]?=some (.cells cs 33 (0,0))/\Row (w.sc z k y) lo p n x f/\Wrote (fun b _=>b=z\/b=p) w (w.sc z k y)):=fun k y cs h e =>
  ⟨e ▸ Am (o:=k) h y,R.keep (Wrote.setCell (R:=fun b _=>b=z) (Wrote.refl _ w) (fun _=>rfl) _) (fun _ h=>hzp h.symm),Wrote.setCell (Wrote.refl _ w) (fun _=>Or.inl rfl) _⟩
 have HB:=Ac hb;clear hb
 obtain ⟨vb,hvb⟩:∃ vb,Hid (vb=v%256):=⟨_,rfl⟩
 have vb0:0<=vb:=by rw [hvb.out]; omega
 have vb1:vb<256:=by rw [hvb.out]; omega
 rw [<- hvb.out]
 by_cases e0:reg=0
 .subst e0
  have HE:Hid (Kx true 0 v c=vb/\Ky true 0 v s=s/\Kz true 0 v ad=ad/\La true 0 v pl=pl/\My true 0 v ad f=f):=by rw [hvb.out]; exact ⟨rfl,rfl,rfl,rfl,rfl⟩
  go_enter func182,ntmps182
  go_wp2
  ((try simp only [Exit.inBlock,Exit.then]); first | (refine bodyPost_ret (results_none rfl _ _ _) rfl ?_) | (refine bodyPost_end (results_none rfl _ _ _) rfl ?_))
  rw [HE.out.1,HE.out.2.1,HE.out.2.2.1,HE.out.2.2.2.1,HE.out.2.2.2.2];exact ⟨rfl,KEY.out _ _ _ HB.out rfl⟩
 by_cases e1:reg=1
 .subst e1
  have HE:Hid (Kx true 1 v c=c/\Ky true 1 v s=vb/\Kz true 1 v ad=ad/\La true 1 v pl=pl/\My true 1 v ad f=f):=by rw [hvb.out]; exact ⟨rfl,rfl,rfl,rfl,rfl⟩
  go_enter func182,ntmps182
  go_wp2
  ((try simp only [Exit.inBlock,Exit.then]); first | (refine bodyPost_ret (results_none rfl _ _ _) rfl ?_) | (refine bodyPost_end (results_none rfl _ _ _) rfl ?_))
  rw [HE.out.1,HE.out.2.1,HE.out.2.2.1,HE.out.2.2.2.1,HE.out.2.2.2.2];exact ⟨rfl,KEY.out _ _ _ HB.out rfl⟩
 by_cases e3:reg=3
 .subst e3
  have HE:Hid (Kx true 3 v c=c/\Ky true 3 v s=s/\Kz true 3 v ad=vb%16/\La true 3 v pl=pl/\My true 3 v ad f=f):=by rw [hvb.out]; exact ⟨rfl,rfl,rfl,rfl,rfl⟩
  have tm:vb.tmod 16=vb%16:=Int.tmod_eq_emod_of_nonneg vb0
  go_enter func182,ntmps182
  go_wp2
  ((try simp only [Exit.inBlock,Exit.then]); first | (refine bodyPost_ret (results_none rfl _ _ _) rfl ?_) | (refine bodyPost_end (results_none rfl _ _ _) rfl ?_))
  rw [HE.out.1,HE.out.2.1,HE.out.2.2.1,HE.out.2.2.2.1,HE.out.2.2.2.2];exact ⟨rfl,KEY.out _ _ _ HB.out rfl⟩
 by_cases e5:reg=5
 .subst e5
  have HE:Hid (Kx true 5 v c=c/\Ky true 5 v s=s/\Kz true 5 v ad=ad/\La true 5 v pl=vb%64/\My true 5 v ad f=f):=by rw [hvb.out]; exact ⟨rfl,rfl,rfl,rfl,rfl⟩
  have tm:vb.tmod 64=vb%64:=Int.tmod_eq_emod_of_nonneg vb0
  go_enter func182,ntmps182
  go_wp2
  ((try simp only [Exit.inBlock,Exit.then]); first | (refine bodyPost_ret (results_none rfl _ _ _) rfl ?_) | (refine bodyPost_end (results_none rfl _ _ _) rfl ?_))
  rw [HE.out.1,HE.out.2.1,HE.out.2.2.1,HE.out.2.2.2.1,HE.out.2.2.2.2];exact ⟨rfl,KEY.out _ _ _ HB.out rfl⟩
 by_cases e4:reg=4
 .subst e4
  obtain ⟨k,rfl⟩:∃ k:Nat,ad=k:=⟨ad.toNat,by omega⟩
  have hk:k<n:=by omega
  have hki:(k:Int)<(n:Int):=by omega
  have HE:Hid (Kx true 4 v c=c/\Ky true 4 v s=s/\Kz true 4 v k=((k:Int)+1)%16/\La true 4 v pl=pl/\My true 4 v k f=fun i=>if i=k then vb%64 else f i):=by rw [hvb.out]; exact ⟨rfl,rfl,rfl,rfl,rfl⟩
  have t64:vb.tmod 64=vb%64:=Int.tmod_eq_emod_of_nonneg vb0
  have wk:IntKind.i64.wrap (k:Int)=k:=by rw [IntKind.wrap_i64]; omega
  have wv:IntKind.i64.wrap (vb%64)=vb%64:=by rw [IntKind.wrap_i64]; omega
  obtain ⟨bb,oo,ee,hcell⟩:=R.sl.row k hk;simp only [Option.some.injEq,Addr.mk.injEq,and_true] at ee;obtain ⟨rfl,rfl⟩:=ee;rw [Nat.zero_add] at hcell;have hfro:w.frozen? ⟨p,k,none⟩=false:=R.own.frozenAt k
  go_enter func182,ntmps182
  go_upto_region 8 with (fail);have hS:∀ j,(w.sc p k (.i (vb%64))).drew.cell? ⟨z,j,none⟩=(pR t c s (k:Int) pl bl (.sl p 0 n x) u2)[j]?:=Af (show (w.sc p k (.i (vb%64))).heap[z]?=_ from Ce HB.out hzp)
  have hk0:(0:Int)<=(k:Int):=by omega
  have hb2:(w.sc p k (.i (vb%64))).drew.heap[z]?=some (.cells (pR t c s (k:Int) pl bl (.sl p 0 n x) u2) 33 (0,0)):=Ce HB.out hzp;have W1:Wrote (fun b _=>b=z\/b=p) w (w.sc p k (.i (vb%64))).drew:=(Wrote.setCell (Wrote.refl _ w) (fun _=>Or.inr rfl) _).drew;have R1:Row (w.sc p k (.i (vb%64))).drew lo p n x (fun i=>if i=k then vb%64 else f i):=(R.put k hk (vb%64)).block rfl;have HX:=Ac (And.intro hb2 (And.intro W1 R1));clear hb2 W1 R1 h16 KEY
  go_region_held3 (fun w'=>∀ j,w'.cell? ⟨z,j,none⟩=(pR t c s (k:Int) pl bl (.sl p 0 n x) u2)[j]?) (first | (with_reducible assumption) | go_keep) (fail)
  all_goals
   go_wp2_with fail;obtain ⟨hb2,W1,R1⟩:=HX.out;generalize (w.sc p k (.i (vb%64))).drew=w2 at *;refine (Ur _ z t c s k pl bl _ u2 hb2 (by omega) (by omega)).mono ?_;rintro e w3 ⟨rfl,rfl⟩;have hb3:=Am (o:=3) hb2 (.i (((k:Int)+1)%16));simp only [Sa,Sb,Sc] at hb3;have R3:=R1.keep (Wz 3 (Wrote.refl _ w2) (.i (((k:Int)+1)%16))) (fun _ h=>hzp h.symm);have W3:Wrote (fun b _=>b=z\/b=p) w (w2.sc z 3 (.i (((k:Int)+1)%16))):=W1.setCell (fun _=>Or.inl rfl) _;clear hb2 R1 W1 hS hc hf hcell hfro HX;rename_i hh1;clear hh1;go_wp2
   ((try simp only [Exit.inBlock,Exit.then]); first | (refine bodyPost_ret (results_none rfl _ _ _) rfl ?_) | (refine bodyPost_end (results_none rfl _ _ _) rfl ?_))
   rw [HE.out.1,HE.out.2.1,HE.out.2.2.1,HE.out.2.2.2.1,HE.out.2.2.2.2];exact ⟨rfl,hb3,R3,W3⟩
 .have HE:Hid (Kx true reg v c=c/\Ky true reg v s=s/\Kz true reg v ad=ad/\La true reg v pl=pl/\My true reg v ad f=f):=⟨if_neg (by simp [e0]),if_neg (by simp [e1]),(if_neg (by simp [e3])).trans (if_neg (by simp [e4])),if_neg (by simp [e5]),if_neg (by simp [e4])⟩
  have e0':(reg==0)=false:=by simpa using e0
  have e1':(reg==1)=false:=by simpa using e1
  have e3':(reg==3)=false:=by simpa using e3
  have e4':(reg==4)=false:=by simpa using e4
  have e5':(reg==5)=false:=by simpa using e5
  clear e0 e1 e3 e4 e5
  go_enter func182,ntmps182
  go_wp2
  ((try simp only [Exit.inBlock,Exit.then]); first | (refine bodyPost_ret (results_none rfl _ _ _) rfl ?_) | (refine bodyPost_end (results_none rfl _ _ _) rfl ?_))
  rw [HE.out.1,HE.out.2.1,HE.out.2.2.1,HE.out.2.2.2.1,HE.out.2.2.2.2];exact ⟨rfl,HB.out,R,Wrote.refl _ _⟩
theorem Jeo (w:World) (z p n x lo:Nat) (t c s ad pl:Int) (bl:Bool) (u2:Value) (f:Nat->Int) (reg:Int) (hb:w.heap[z]?=some (.cells (pR t c s ad pl bl (.slice (some ⟨p,0,none⟩) n x) u2) 33 (0,0))) (R:Row w lo p n x f) (h16:n=16) (a0:0<=ad) (a1:ad<=15) :
  Calls prog 178 #[(pt z 0),.i reg] w fun e w'=>e=.returned (.i (R5 true reg bl ad f))/\w'.heap[z]?=some (.cells (pR t c s (Ps true reg ad) pl (Rz true reg bl) (.slice (some ⟨p,0,none⟩) n x) u2) 33 (0,0))/\Wrote (fun b _=>b=z) w w':=by
 have hc:=Af hb;have hf:=Au hb;have HB:=Ac hb;clear hb
 by_cases e2:reg=2
 .subst e2
  have HE:Hid (Ps true 2 ad=ad/\Rz true 2 bl=false/\R5 true 2 bl ad f=128*Av bl):=⟨rfl,rfl,rfl⟩
  have hb3:=Am (o:=5) HB.out (.bool false);simp only [Sa,Sb,Sc] at hb3;have HX:=Ac hb3;clear hb3;cases bl
  .go_enter func178,ntmps178
   go_wp2;go_ret;rw [HE.out.1,HE.out.2.1,HE.out.2.2];exact ⟨rfl,HX.out,Wrote.setCell (R:=fun b _=>b=z) (Wrote.refl _ w) (fun _=>rfl) _⟩
  .go_enter func178,ntmps178
   go_wp2;go_ret;rw [HE.out.1,HE.out.2.1,HE.out.2.2];exact ⟨rfl,HX.out,Wrote.setCell (R:=fun b _=>b=z) (Wrote.refl _ w) (fun _=>rfl) _⟩
 .by_cases e4:reg=4
  .subst e4
   obtain ⟨k,rfl⟩:∃ k:Nat,ad=k:=⟨ad.toNat,by omega⟩
   have hk:k<n:=by omega
   have hki:(k:Int)<(n:Int):=by omega
   have HE:Hid (Ps true 4 (k:Int)=((k:Int)+1)%16/\Rz true 4 bl=bl/\R5 true 4 bl (k:Int) f=f k):=⟨rfl,rfl,rfl⟩
   have wk:IntKind.i64.wrap (k:Int)=k:=by rw [IntKind.wrap_i64]; omega
   obtain ⟨bb,oo,ee,hcell⟩:=R.sl.row k hk;simp only [Option.some.injEq,Addr.mk.injEq,and_true] at ee;obtain ⟨rfl,rfl⟩:=ee;rw [Nat.zero_add] at hcell
   have hk0:(0:Int)<=(k:Int):=by omega
   clear h16
   go_enter func178,ntmps178
   go_upto_region 8 with (fail)
   go_quiet (fail)
   go_wp2_with fail;have hb2:(w.drewN nq).heap[z]?=_:=HB.out;have W1:Wrote (fun b _=>b=z) w (w.drewN nq):=Aa (below_drewN (Below.refl _ _) _) _;generalize w.drewN nq=w2 at *;refine (Ur _ z t c s k pl bl _ u2 hb2 (by omega) (by omega)).mono ?_;rintro e w3 ⟨rfl,rfl⟩;have hb3:=Am (o:=3) hb2 (.i (((k:Int)+1)%16));simp only [Sa,Sb,Sc] at hb3;have W3:Wrote (fun b _=>b=z) w (w2.sc z 3 (.i (((k:Int)+1)%16))):=W1.setCell (fun _=>rfl) _;clear hb2 W1 hc hf hcell;go_wp2;go_ret;rw [HE.out.1,HE.out.2.1,HE.out.2.2];exact ⟨rfl,hb3,W3⟩
  .have HE:Hid (Ps true reg ad=ad/\Rz true reg bl=bl/\R5 true reg bl ad f=0):=⟨if_neg (by simp [e4]),if_neg (by simp [e2]),(if_neg (by simp [e2])).trans (if_neg (by simp [e4]))⟩
   have e2':(reg==2)=false:=by simpa using e2
   have e4':(reg==4)=false:=by simpa using e4
   clear e2 e4
   go_enter func178,ntmps178
   go_wp2;go_ret;rw [HE.out.1,HE.out.2.1,HE.out.2.2];exact ⟨rfl,HB.out,Wrote.refl _ _⟩
set_option maxHeartbeats 1000000
theorem Jev {W:World} {lo g n c:Nat} {e:TypeId} {vs:List Value} (h:W.ownsRow lo e 1 (.slice (some ⟨g,0,none⟩) n c) n vs) (q:Nat) (y:Value):(W.setCell ⟨g,q,none⟩ y).ownsRow lo e 1 (.slice (some ⟨g,0,none⟩) n c) n (vs.set q y):=by
 refine ⟨by rw [List.length_set]; exact h.1,?_⟩
 rcases h.2 with ⟨e,_⟩ | ⟨g',cap,cur,hv,hb,hg,h1,h2,h3,h4⟩
 .cases e
 .have hv':=hv
  simp only [Value.slice.injEq,Option.some.injEq,Addr.mk.injEq,and_true,true_and] at hv';obtain ⟨rfl,rfl⟩:=hv';refine Or.inr ⟨g,c,cur.setIfInBounds q y,rfl,hb,Am hg _,h1,h2,by simpa using h3,?_⟩;rw [Nat.mul_one] at h4 ⊢;rw [Array.toList_setIfInBounds,List.take_set,h4]
def Dh (m:Nat) (ov:Nat->Value):List Value:=(List.range m).map ov
theorem Gl (m:Nat) (ov:Nat->Value):(Dh m ov).length=m:=by unfold Dh; simp
theorem Iq {m i:Nat} (ov:Nat->Value) (hi:i<m):(Dh m ov)[i]?=some (ov i):=by unfold Dh; simp [hi]
theorem Jak {m i:Nat} {ov:Nat->Value} {u:Value} (h:(Dh m ov)[i]?=some u):i<m/\u=ov i:=by
 rcases Nat.lt_or_ge i m with hi | hi
 .rw [Iq ov hi] at h; exact ⟨hi,(Option.some.inj h).symm⟩
 .rw [List.getElem?_eq_none (by rw [Gl]; exact hi)] at h; cases h
theorem Ir {m:Nat} {f g:Nat->Value} (h:∀ i,i<m->f i=g i):Dh m f=Dh m g:=List.map_congr_left (fun i hi=>h i (List.mem_range.1 hi))
theorem Xi (m q:Nat) (f:Nat->Value) (y:Value):(Dh m f).set q y=Dh m (fun i=>if i=q then y else f i):=by
 apply List.ext_getElem?
 intro j
 by_cases hj:j<m
 .rw [Iq _ hj]
  by_cases e:j=q
  .subst e
   rw [if_pos rfl,List.getElem?_set_self (by rw [Gl]; exact hj)]
  .rw [if_neg e,List.getElem?_set_ne (by omega),Iq _ hj]
 .rw [List.getElem?_eq_none (by rw [List.length_set,Gl]; omega),List.getElem?_eq_none (by rw [Gl]; omega)]
theorem Bg.vals {w:World} {F:Nat->Nat->Prop} {a:Option Addr} {m cap:Nat} {ln:Nat->Nat} {f:Nat->Nat->Int} (H:Bg .i64 w F (.slice a m cap) m ln f):∃ ov:Nat->Value,(∀ i,i<m->Ints .i64 w F (ov i) (ln i) (f i))/\∀ i,i<m->∃ b off,a=some ⟨b,off,none⟩/\w.cell? ⟨b,off+i,none⟩=some (ov i):=by
 obtain ⟨a',cap',e,hm,hF,hc⟩:=H;simp only [Value.slice.injEq,true_and] at e;obtain ⟨rfl,rfl⟩:=e
 have key:∀ i,∃ u:Value,i<m->Ints .i64 w F u (ln i) (f i)/\∃ b off,a=some ⟨b,off,none⟩/\w.cell? ⟨b,off+i,none⟩=some u:=fun i=>by
  by_cases hi:i<m
  .obtain ⟨b,off,u,h1,h2,h3⟩:=hc i hi
   exact ⟨u,fun _=>⟨h3,b,off,h1,h2⟩⟩
  .exact ⟨undef,fun h=>absurd h hi⟩
 obtain ⟨ov,hov⟩:=Classical.axiomOfChoice key;exact ⟨ov,fun i hi=>(hov i hi).1,fun i hi=>(hov i hi).2⟩
theorem Jcw (W:World) {o:Oper} {a:Act} {K:Act->World->Prop} {Q:Exit->Act->World->Prop} (s x:Operand) (hop:o.op=Op.call { callee:=Callee.builtin Builtin.append,args:=#[s,x],argTypes:=#[24,24] })
  (g0:Nat) (hs:a.eval s=.slice (some ⟨g0,0,none⟩) 0 0) (h0:W.heap[g0]?=some (.cells #[] 27 (0,0))) (lo:Nat) (hlo:lo<=g0) (ua:Option Addr) (m ux:Nat) (ov:Nat->Value) (hm:m<=1048576) (hx:a.eval x=.slice ua m ux) (hc:∀ i,i<m->∃ b off,ua=some ⟨b,off,none⟩/\W.cell? ⟨b,off+i,none⟩=some (ov i))
  (h:∀ g c W',W'.ownsRow lo 27 1 (.slice (some ⟨g,0,none⟩) m c) m (Dh m ov)->Below W.heap.size W W'->(g=g0\/W.heap.size<=g)->K (a.put o.dst (.slice (some ⟨g,0,none⟩) m c)) W'):o.wp prog a W K Q:=by
 obtain ⟨i0,hi,hz0,hz1,hz2⟩:=info_parts Kk
 by_cases hn:m=0
 .subst hn
  have hsrc:Src prog i0.size 24 (.slice ua 0 ux) 0 [] W:=by
   cases ua with
   | none=>exact Src.ofNil W underlying24 ux
   | some ad=>exact Src.ofSlice W underlying24 ad 0 ux [] (by simp) (fun j v hh=>by simp at hh) (fun v hh=>by cases hh)
  have hrun:=run_append_nothing (P:=prog) W 24 24 o.type 27 i0 underlying24 hi (some ⟨g0,0,none⟩) 0 0 (Nat.le_refl _) _ hsrc;unfold Oper.wp
  simp [execOp,hop,resolve,invoke,builtin,hs,hx,hrun,Result.andThen]
  exact h g0 0 W ⟨rfl,Or.inr ⟨g0,0,#[],rfl,hlo,h0,Nat.le_refl _,by simp,rfl,rfl⟩⟩ (Below.refl _ _) (Or.inl rfl)
 .obtain ⟨rb,ro,rfl,-⟩:=hc 0 (by omega)
  have hcs:∀ j u,(Dh m ov)[j]?=some u->W.cell? ((⟨rb,ro,none⟩:Addr).add j)=some u:=fun j u hu=>by
   obtain ⟨hj,rfl⟩:=Jak hu;obtain ⟨b,off,e,hcj⟩:=hc j hj;simp only [Option.some.injEq,Addr.mk.injEq,and_true] at e;obtain ⟨rfl,rfl⟩:=e;rw [Ig];exact hcj
  obtain ⟨v',w',hrun,r1,r2⟩:=run_append_arg_grows (P:=prog) W 24 o.type 27 i0 (.slice none 0 0) 1 24 underlying24 hi hz0 hz1 hz2 rfl (by decide) ⟨g0,0,none⟩ 0 0 [] rfl (fun j u hh=>by simp at hh) ⟨rb,ro,none⟩ m ux (Dh m ov) (by rw [Gl,Nat.mul_one]) hcs (by omega) (by unfold maxLen; omega) (by omega)
  have hon:w'.ownsRow W.heap.size 27 1 v' m (Dh m ov):=by simpa using r1
  obtain ⟨g',cap2,rfl,hg,hlt⟩:=hon.form (by omega);have L:Below W.heap.size W w':=(Below.refl _ _).grown r2 (Nat.le_refl _) (fun _ e=>by cases e);unfold Oper.wp
  simp [execOp,hop,resolve,invoke,builtin,hs,hx,hrun,Result.andThen]
  exact h g' cap2 w' (Og hon (by have:=Ad h0; omega)) L (Or.inr hg)
theorem Sy (W:World) {ops:Array Oper} {rest:List Oper} {o:Oper} {a:Act} {Q:Exit->Act->World->Prop} (hg:o.guard=none) (s x:Operand) (hop:o.op=Op.call { callee:=Callee.builtin Builtin.append,args:=#[s,x],argTypes:=#[24,24] })
  (g0:Nat) (hs:a.eval s=.slice (some ⟨g0,0,none⟩) 0 0) (h0:W.heap[g0]?=some (.cells #[] 27 (0,0))) (lo:Nat) (hlo:lo<=g0) (ua:Option Addr) (m ux:Nat) (ov:Nat->Value) (hm:m<=1048576) (hx:a.eval x=.slice ua m ux) (hc:∀ i,i<m->∃ b off,ua=some ⟨b,off,none⟩/\W.cell? ⟨b,off+i,none⟩=some (ov i))
  (h:∀ g c W',W'.ownsRow lo 27 1 (.slice (some ⟨g,0,none⟩) m c) m (Dh m ov)->Below W.heap.size W W'->(g=g0\/W.heap.size<=g)->wpList prog ops Q rest (a.put o.dst (.slice (some ⟨g,0,none⟩) m c)) W'):wpList prog ops Q (o :: rest) a W :=
 wpList_plain hg fun K hK=>Jcw W s x hop g0 hs h0 lo hlo ua m ux ov hm hx hc (fun g c W' r1 r2 r3=>hK _ _ (h g c W' r1 r2 r3))
structure SA (W:World) (lo:Nat) (v:Value) (m q:Nat) (ob:Nat->Option Nat) (iv ov:Nat->Value) (ln:Nat->Nat) (f:Nat->Nat->Int):Prop where
 own:W.ownsRow lo 27 1 v m (Dh m (fun i=>if i<q then iv i else ov i))
 rows:∀ i,i<q->A8 W lo (ob i) (iv i) (ln i) (f i)
 inj:∀ i j,i<q->j<q->i≠j->Sl (ob i) (ob j)
 dj:∀ g,v.ownBlock=some g->∀ i,i<q->ob i≠some g
 small:m<=1048576
section
variable {W W':World} {lo m q:Nat} {v:Value} {ob:Nat->Option Nat} {iv ov:Nat->Value} {ln:Nat->Nat} {f:Nat->Nat->Int} {R:Nat->Nat->Prop}
theorem SA.keep (H:SA W lo v m q ob iv ov ln f) (hw:Wrote R W W') (h1:∀ g o,v.ownBlock=some g->¬ R g o) (h2:∀ i b o,i<q->ob i=some b->¬ R b o):SA W' lo v m q ob iv ov ln f :=
 ⟨Oh H.own (fun g hg=>hw.block g (Df H.own hg).2 (fun o=>h1 g o hg)),fun i hi=>(H.rows i hi).keep hw (fun b hb _ _ o=>h2 i b o hi hb),H.inj,H.dj,H.small⟩
theorem SA.below (H:SA W lo v m q ob iv ov ln f) (L:Below W.heap.size W W'):SA W' lo v m q ob iv ov ln f:=H.keep (Aa L Aj) (fun _ _ _ x=>x) (fun _ _ _ _ _ x=>x)
theorem SA.mono {lo':Nat} (H:SA W lo v m q ob iv ov ln f) (h:lo'<=lo):SA W lo' v m q ob iv ov ln f :=
 ⟨Og H.own h,fun i hi=>(H.rows i hi).mono h,H.inj,H.dj,H.small⟩
theorem SA.form (H:SA W lo v m q ob iv ov ln f):∃ a c,v=.slice a m c:=by
 rcases H.own.2 with ⟨e,e0⟩ | ⟨g,c,cur,hv,-⟩
 .have:m=0:=e0
  exact ⟨none,0,by rw [e,this]⟩
 .exact ⟨_,_,hv⟩
theorem SA.cell {g c:Nat} (H:SA W lo (.slice (some ⟨g,0,none⟩) m c) m q ob iv ov ln f) {i:Nat} (hi:i<m):W.cell? ⟨g,i,none⟩=some (if i<q then iv i else ov i):=by
 have:=Ia H.own i _ (Iq _ hi)
 rwa [Ig,Nat.zero_add] at this
theorem SA.next {g c:Nat} {o:Option Nat} {y:Value} (H:SA W lo (.slice (some ⟨g,0,none⟩) m c) m q ob iv ov ln f) (RN:A8 W lo o y (ln q) (f q)) (h1:o≠some g) (h2:∀ i,i<q->Sl (ob i) o) :
  SA (W.setCell ⟨g,q,none⟩ y) lo (.slice (some ⟨g,0,none⟩) m c) m (q+1) (fun i=>if i=q then o else ob i) (fun i=>if i=q then y else iv i) ov ln f:=by
 have hob:(Value.sl g 0 m c).ownBlock=some g:=rfl;have hw:Wrote (fun b _=>b=g) W (W.sc g q y):=Wrote.setCell (R:=fun b _=>b=g) (Wrote.refl _ W) (fun _=>rfl) _;have e0:=Jev H.own q y;rw [Xi] at e0;refine ⟨?_,fun i hi=>?_,fun i j hi hj hij=>?_,fun g' hg i hi=>?_,H.small⟩
 .rw [Ir (g:=fun i=>if i=q then y else if i<q then iv i else ov i) (fun i hi=>?_)]
  .exact e0
  .show (if i<q+1 then (if i=q then y else iv i) else ov i)=_
   by_cases e:i=q
   .rw [if_pos (by omega),if_pos e,if_pos e]
   .rw [if_neg e]
    by_cases h:i<q
    .rw [if_pos (by omega),if_neg e,if_pos h]
    .rw [if_neg (by omega),if_neg e,if_neg h]
 .by_cases e:i=q
  .subst e
   simp only [if_true];exact RN.keep hw (fun b hb _ _ o hR=>h1 (hb.trans (congrArg some hR)))
  .simp only [if_neg e]
   exact (H.rows i (by omega)).keep hw (fun b hb _ _ o hR=>H.dj g hob i (by omega) (hb.trans (congrArg some hR)))
 .by_cases e:i=q
  .rw [if_pos e,if_neg (by omega)]
   exact fun b hb hb'=>h2 j (by omega) b hb' hb
  .by_cases e':j=q
   .rw [if_neg e,if_pos e']
    exact h2 i (by omega)
   .rw [if_neg e,if_neg e']
    exact H.inj i j (by omega) (by omega) hij
 .obtain rfl:g=g':=by simpa [Value.ownBlock] using hg
  by_cases e:i=q
  .rw [if_pos e]; exact h1
  .rw [if_neg e]; exact H.dj g hob i (by omega)
def slA:Value->Option Addr
 | .slice a _ _=>a
 | _=>none
def slC:Value->Nat
 | .slice _ _ c=>c
 | _=>0
theorem SA.onD (H:SA W lo v m m ob iv ov ln f) {D:Nat->Prop} (hD:∀ b,(v.ownBlock=some b\/∃ i,i<m/\ob i=some b)->D b) (hs:Dw ln m<=1099511627776):Cu W D v m ln f:=by
 have hsl:∀ i,i<m->iv i=.slice (slA (iv i)) (ln i) (slC (iv i))/\Bu W (fun b=>ob i=some b) (slA (iv i)) (ln i) (f i):=fun i hi=>by
  obtain ⟨a,x,e,hS⟩:=(H.rows i hi).sl;rw [e];exact ⟨rfl,hS⟩
 rcases id H.own.2 with ⟨e,e0⟩ | ⟨g,c,cur,hv,hb,hg,k1,k2,k3,k4⟩
 .have hq:m=0:=e0
  subst hq;subst e;refine ⟨fun _=>none,fun _=>0,⟨⟨none,0,rfl,by omega,fun i hi=>absurd hi (Nat.not_lt_zero _)⟩,fun i hi=>absurd hi (Nat.not_lt_zero _),fun i j hi=>absurd hi (Nat.not_lt_zero _),hs⟩,fun i hi=>absurd hi (Nat.not_lt_zero _),fun i hi=>absurd hi (Nat.not_lt_zero _),fun a cap e b o hF=>absurd hF (A4 _ _ _),fun i hi=>absurd hi (Nat.not_lt_zero _)⟩
 .subst hv
  have hob:(Value.sl g 0 m c).ownBlock=some g:=rfl;refine ⟨fun i=>slA (iv i),fun i=>slC (iv i),⟨⟨_,_,rfl,H.small,fun i hi=>⟨g,0,rfl,?_,fun j hj hF=>H.dj g hob j hj ((hsl j hj).2.on _ _ hF)⟩⟩,fun i hi=>(hsl i hi).2.free,fun i j hi hj hij b o h1 h2=>H.inj i j hi hj hij b ((hsl i hi).2.on _ _ h1) ((hsl j hj).2.on _ _ h2),hs⟩,fun i hi=>(hsl i hi).2.row,fun i hi b o hF=>hD b (Or.inr ⟨i,hi,(hsl i hi).2.on _ _ hF⟩),fun a cap e b o hF=>?_,fun i hi=>(hsl i hi).2.small⟩
  .rw [Nat.zero_add,H.cell hi,if_pos hi]
   exact congrArg some (hsl i hi).1
  .simp only [Value.slice.injEq,true_and] at e
   obtain ⟨rfl,-⟩:=e;obtain ⟨off,e,_,_⟩:=hF;simp only [Option.some.injEq,Addr.mk.injEq] at e;rw [<- e.1];exact hD _ (Or.inl rfl)
end
theorem Jew (w:World) (F:Nat->Nat->Prop) (u:Value) (m:Nat) (ln:Nat->Nat) (f:Nat->Nat->Int) (H:Bg .i64 w F u m ln f) :
  Calls prog 113 #[u] w fun e w'=>∃ v ov,e=.returned v/\w'.ownsRow w.heap.size 27 1 v m (Dh m ov)/\(∀ i,i<m->Ints .i64 w F (ov i) (ln i) (f i))/\Below w.heap.size w w':=by
 obtain ⟨ua,ucap,rfl,um,-,-⟩:=id H;obtain ⟨ov,h1,h2⟩:=H.vals;clear H
 have hq:∀ W:World,(binOp .eql 24 (.slice ua m ucap) (.slice none 0 0)).run prog W=.ok (.bool ua.isNone) W:=fun W=>Lib.run_eql_slice_nil W 24 27 ua m ucap 0 0 underlying24
 cases ua with
 | none =>
  have hq':∀ W:World,(binOp .eql 24 (.slice none m ucap) (.slice none 0 0)).run prog W=.ok (.bool true) W:=hq;clear hq
  have hn:m=0:=by
   rcases Nat.eq_zero_or_pos m with h | h
   .exact h
   .obtain ⟨b,off,e,-⟩:=h2 0 h
    cases e
  subst hn;have HI:=Ac h1;clear h1 h2
  go_enter func113,ntmps113
  go_wp2;go_ret;exact ⟨_,ov,rfl,⟨rfl,Or.inl ⟨rfl,rfl⟩⟩,HI.out,Below.refl _ _⟩
 | some ua =>
  have hq':∀ W:World,(binOp .eql 24 (.slice (some ua) m ucap) (.slice none 0 0)).run prog W=.ok (.bool false) W:=hq;clear hq;have L0:Below w.heap.size w (w.alloc (.cells #[] 27)):=(Below.refl _ _).alloc (Nat.le_refl _) _;have k0:=Ak w #[] 27;have HI:=Ac h1
  have HC:=Ac (show ∀ i,i<m->∃ b off,some ua=some ⟨b,off,none⟩/\(w.alloc (.cells #[] 27)).cell? ⟨b,off+i,none⟩=some (ov i) from fun i hi=>by
   obtain ⟨b,off,e,hc⟩:=h2 i hi
   exact ⟨b,off,e,(L0.cell (block_lt_of_cell hc)).trans hc⟩)
  clear h1 h2
  go_enter func113,ntmps113
  go_wp2_with (at_builtin; refine Sy _ rfl _ _ rfl w.heap.size rfl k0 w.heap.size (Nat.le_refl _) (some ua) m ucap ov um rfl HC.out ?_);rintro p x W2 R2 L2 hp;have L3:=L0.trans (L2.mono (by omega));have HR:=Ac R2;clear L0 L2 R2;go_wp2;go_ret;exact ⟨_,ov,rfl,HR.out,HI.out,L3⟩
theorem Q3 (w:World) (F:Nat->Nat->Prop) (u:Value) (m:Nat) (ln:Nat->Nat) (f:Nat->Nat->Int) (H:Bg .i64 w F u m ln f) :
  Calls prog 84 #[u] w fun e w'=>∃ v ob iv ov,e=.returned v/\SA w' w.heap.size v m m ob iv ov ln f/\Below w.heap.size w w':=by
 obtain ⟨ua,ucap,rfl,um,-,-⟩:=id H;have HC:=Ac (Jew w F _ m ln f H);clear H
 go_enter func84,ntmps84
 go_wp2_with fail;refine HC.out.mono ?_;rintro e W1 ⟨v,ov,rfl,O1,HI,L1⟩
 have S1:SA W1 w.heap.size v m 0 (fun _=>none) ov ov ln f:=⟨by rw [Ir (g:=ov) (fun i hi=>if_neg (Nat.not_lt_zero _))]; exact O1,fun i hi=>absurd hi (Nat.not_lt_zero _),fun i j hi=>absurd hi (Nat.not_lt_zero _),fun g hg i hi=>absurd hi (Nat.not_lt_zero _),um⟩
 obtain ⟨va,vc,rfl⟩:=S1.form;have HV:=Ac HI;clear HI O1 HC;go_wp2
 go_loopw [10] (fun i wr=>∃ (q:Nat) (ob:Nat->Option Nat) (iv:Nat->Value),q<=m/\i=.i q/\SA wr w.heap.size (.slice va m vc) m q ob iv ov ln f/\Below w.heap.size w wr) (fun i _=>m-(intOf i).toNat)
 case atStart=>exact ⟨0,_,_,Nat.zero_le _,rfl,S1,L1⟩
 case round =>
  obtain ⟨q,ob,iv,hq,rfl,hS,hL⟩:=hrel;clear S1 L1
  by_cases hqm:q<m
  .have hqm':(q:Int)<(m:Int):=by omega
   obtain ⟨g,cur,rfl,hlo,hg⟩:∃ g cur,va=some ⟨g,0,none⟩/\w.heap.size<=g/\wr.heap[g]?=some (.cells cur 27 (0,0)):=by
    rcases id hS.own.2 with ⟨e,e0⟩ | ⟨g,c,cur,hv,hb,hg,-⟩
    .have h0:m=0:=e0
     omega
    .simp only [Value.slice.injEq,true_and] at hv
     exact ⟨g,cur,hv.1,hb,hg⟩
   have hc:wr.cell? ⟨g,q,none⟩=some (ov q):=by
    have:=hS.cell hqm
    rwa [if_neg (Nat.lt_irrefl _)] at this
   have HI:=Ac (HV.out q hqm);obtain ⟨xa,xc,hov,xn,-,-⟩:=id HI.out;rw [hov] at hc HI
   have wq:IntKind.i64.wrap (q:Int)=q:=by rw [IntKind.wrap_i64]; omega
   have HS:=Ac hS;clear hS;go_wp2_with fail;refine (Hy _ F _ (ln q) (f q) (HI.out.keep (Aa hL Aj) (fun _ _ _ x=>x))).mono ?_;rintro e W2 ⟨y,o,rfl,RN,L2⟩;obtain ⟨ra,rx,rfl⟩:=RN.form;have hbl:=Ad hg;have hg2:=Ab hg L2 hbl;have f2:=Au hg2 q;have c2:W2.cell? ⟨g,q,none⟩=some (.slice xa (ln q) xc):=(L2.cell hbl).trans hc;have S2:=Ac (HS.out.below L2);have LB:=Ac (Ah hL L2)
   have fr:∀ b,o=some b->wr.heap.size<=b:=fun b hb=>by subst hb; exact RN.lt.1
   have hin:∀ i b,i<q->ob i=some b->b<wr.heap.size:=fun i b hi hb=>by have:=HS.out.rows i hi; rw [hb] at this; exact this.lt.2
   have RN':=Ac (RN.mono hL.size);clear HS RN hL L2 hg hc HI hg2;go_wp2;go_roundw
   case rel=>exact ⟨q+1,_,_,by omega,by go_num,S2.out.next RN'.out (fun e=>by have:=fr g e; omega) (fun i hi b h1 h2=>by have:=fr b h2; have:=hin i b hi h1; omega),LB.out.setCell hlo _⟩
   case measure=>simp [intOf]; omega
  .have hqm':¬ (q:Int)<(m:Int):=by omega
   obtain rfl:q=m:=by omega
   have HP:=Ac (And.intro hS hL);clear hS hL HV;go_wp2;go_ret;exact ⟨_,rfl,⟨ob,iv,ov,HP.out.1⟩,HP.out.2⟩
theorem Jal (w:World) (F:Nat->Nat->Prop) (u:Value) (m:Nat) (ln:Nat->Nat) (f:Nat->Nat->Int) (H:Bg .i64 w F u m ln f) :
  Calls prog 45 #[.agg #[u]] w fun e w'=>∃ v ob iv ov,e=.returned (.agg #[v])/\SA w' w.heap.size v m m ob iv ov ln f/\Below w.heap.size w w':=by
 have L0:Below w.heap.size w ((w.alloc (.cells #[u] 26)).alloc (.cells #[.slice none 0 0] 26)):=((Below.refl _ _).alloc (Nat.le_refl _) _).alloc (by simp) _;have K0:=H.keep (Aa L0 Aj) (fun _ _ _ x=>x);obtain ⟨ua,ucap,rfl,un,-,-⟩:=H;have b1:((w.alloc (.cells #[.slice ua m ucap] 26)).alloc (.cells #[.slice none 0 0] 26)).heap[w.heap.size]?=some (.cells #[.slice ua m ucap] 26 (0,0)):=Az (Ak w _ _) _
 have r1:((w.alloc (.cells #[.slice ua m ucap] 26)).alloc (.cells #[.slice none 0 0] 26)).heap[w.heap.size+1]?=some (.cells #[.slice none 0 0] 26 (0,0)):=by simpa using Ak (w.alloc (.cells #[.slice ua m ucap] 26)) #[.slice none 0 0] 26
 go_enter func45,ntmps45
 go_wp2_with fail;generalize ((w.alloc (.cells #[.slice ua m ucap] 26)).alloc (.cells #[.slice none 0 0] 26))=w1 at *;have cb:=Af b1;have hr1:=Ad r1;go_wp2_with fail;refine (Q3 _ F _ m ln f K0).mono ?_;rintro e w2 ⟨q,ob,iv,ov,rfl,O2,L2⟩;obtain ⟨qa,qc,rfl⟩:=O2.form;have cb2:=Af (Ab b1 L2 (Ad b1));have cr2:=Af (Ab r1 L2 (Ad r1));have fr2:=Au (Ab r1 L2 (Ad r1));have HO2:=Ac O2;clear O2 K0 cb b1 r1;go_wp2;refine bodyPost_ret (v:=.agg #[.slice qa m qc]) (by simp [results,results45,go_sem,cr2]) rfl ?_;have TT:=Wrote.setCell (R:=fun b _=>b=w.heap.size+1) (Wrote.refl _ w2) (o:=0) (b:=w.heap.size+1) (fun _=>rfl) (.slice qa m qc)
 have O3:=HO2.out.keep TT (fun g o hg (h:g=_)=>by have h1:=Df HO2.out.own hg; have h2:w1.heap.size<=g:=h1.1; omega) (fun i b o hi hb (h:b=_)=>by have h1:=HO2.out.rows i hi; rw [hb] at h1; have h2:w1.heap.size<=b:=h1.lt.1; omega);exact ⟨_,ob,iv,ov,rfl,O3.mono (show w.heap.size<=w1.heap.size by omega),(L0.trans (L2.mono L0.size)).setCell (by simp) _⟩
def Rp:List Int:=[0,0,1,2,0,0,0,0,0,0,0,0,0,0,1,2,0,0,0,0,0,0,0,0,0,0,0,0,0,1]
def Da (w:World):Prop:=∀ i:Nat,i<30->w.cell? ⟨0,i*4,none⟩=some (.string (opNm.getD i ByteArray.empty))/\w.cell? ⟨0,i*4+1,none⟩=some (.i (Dm.getD i 1)) /\
 w.cell? ⟨0,i*4+2,none⟩=some (.i (Hc.getD i 2))/\w.cell? ⟨0,i*4+3,none⟩=some (.i (Rp.getD i 0))
theorem Wr:∀ i:Fin 30,Gf prog 4 90 Rows.laid_loop_example_g00231_impl_opRows (i.1*4)=some (.string (opNm.getD i.1 ByteArray.empty)) /\
  Gf prog 4 90 Rows.laid_loop_example_g00231_impl_opRows (i.1*4+1)=some (.i (Dm.getD i.1 1)) /\
  Gf prog 4 90 Rows.laid_loop_example_g00231_impl_opRows (i.1*4+2)=some (.i (Hc.getD i.1 2)) /\
  Gf prog 4 90 Rows.laid_loop_example_g00231_impl_opRows (i.1*4+3)=some (.i (Rp.getD i.1 0)):=by
 intro ⟨i,hi⟩
 show _/\_/\_/\_
 match i,hi with
 | 0,_=>exact ⟨by kernel_rfl,by kernel_rfl,by kernel_rfl,by kernel_rfl⟩
 | 1,_=>exact ⟨by kernel_rfl,by kernel_rfl,by kernel_rfl,by kernel_rfl⟩
 | 2,_=>exact ⟨by kernel_rfl,by kernel_rfl,by kernel_rfl,by kernel_rfl⟩
 | 3,_=>exact ⟨by kernel_rfl,by kernel_rfl,by kernel_rfl,by kernel_rfl⟩
 | 4,_=>exact ⟨by kernel_rfl,by kernel_rfl,by kernel_rfl,by kernel_rfl⟩
 | 5,_=>exact ⟨by kernel_rfl,by kernel_rfl,by kernel_rfl,by kernel_rfl⟩
 | 6,_=>exact ⟨by kernel_rfl,by kernel_rfl,by kernel_rfl,by kernel_rfl⟩
 | 7,_=>exact ⟨by kernel_rfl,by kernel_rfl,by kernel_rfl,by kernel_rfl⟩
 | 8,_=>exact ⟨by kernel_rfl,by kernel_rfl,by kernel_rfl,by kernel_rfl⟩
 | 9,_=>exact ⟨by kernel_rfl,by kernel_rfl,by kernel_rfl,by kernel_rfl⟩
 | 10,_=>exact ⟨by kernel_rfl,by kernel_rfl,by kernel_rfl,by kernel_rfl⟩
 | 11,_=>exact ⟨by kernel_rfl,by kernel_rfl,by kernel_rfl,by kernel_rfl⟩
 | 12,_=>exact ⟨by kernel_rfl,by kernel_rfl,by kernel_rfl,by kernel_rfl⟩
 | 13,_=>exact ⟨by kernel_rfl,by kernel_rfl,by kernel_rfl,by kernel_rfl⟩
 | 14,_=>exact ⟨by kernel_rfl,by kernel_rfl,by kernel_rfl,by kernel_rfl⟩
 | 15,_=>exact ⟨by kernel_rfl,by kernel_rfl,by kernel_rfl,by kernel_rfl⟩
 | 16,_=>exact ⟨by kernel_rfl,by kernel_rfl,by kernel_rfl,by kernel_rfl⟩
 | 17,_=>exact ⟨by kernel_rfl,by kernel_rfl,by kernel_rfl,by kernel_rfl⟩
 | 18,_=>exact ⟨by kernel_rfl,by kernel_rfl,by kernel_rfl,by kernel_rfl⟩
 | 19,_=>exact ⟨by kernel_rfl,by kernel_rfl,by kernel_rfl,by kernel_rfl⟩
 | 20,_=>exact ⟨by kernel_rfl,by kernel_rfl,by kernel_rfl,by kernel_rfl⟩
 | 21,_=>exact ⟨by kernel_rfl,by kernel_rfl,by kernel_rfl,by kernel_rfl⟩
 | 22,_=>exact ⟨by kernel_rfl,by kernel_rfl,by kernel_rfl,by kernel_rfl⟩
 | 23,_=>exact ⟨by kernel_rfl,by kernel_rfl,by kernel_rfl,by kernel_rfl⟩
 | 24,_=>exact ⟨by kernel_rfl,by kernel_rfl,by kernel_rfl,by kernel_rfl⟩
 | 25,_=>exact ⟨by kernel_rfl,by kernel_rfl,by kernel_rfl,by kernel_rfl⟩
 | 26,_=>exact ⟨by kernel_rfl,by kernel_rfl,by kernel_rfl,by kernel_rfl⟩
 | 27,_=>exact ⟨by kernel_rfl,by kernel_rfl,by kernel_rfl,by kernel_rfl⟩
 | 28,_=>exact ⟨by kernel_rfl,by kernel_rfl,by kernel_rfl,by kernel_rfl⟩
 | 29,_=>exact ⟨by kernel_rfl,by kernel_rfl,by kernel_rfl,by kernel_rfl⟩
 | n+30,hi=>exact absurd hi (by omega)
theorem Jb1 {w:World} (h:∀ i v,Gf prog 4 90 Rows.laid_loop_example_g00231_impl_opRows i=some v->w.cell? ⟨0,i,none⟩=some v):Da w:=fun i hi=>by
 obtain ⟨a,b,c,d⟩:=Wr ⟨i,hi⟩;exact ⟨h _ _ a,h _ _ b,h _ _ c,h _ _ d⟩
theorem Da.mono {w w':World} (h:Da w) (hb:Below w.heap.size w w'):Da w':=fun i hi=>by
 obtain ⟨a,b,c,d⟩:=h i hi;have h0:0<w.heap.size:=block_lt_of_cell a;exact ⟨(hb.cell h0).trans a,(hb.cell h0).trans b,(hb.cell h0).trans c,(hb.cell h0).trans d⟩
def nmOf (x:Int):ByteArray:=if 0<=x/\x<=29 then opNm.getD x.toNat ByteArray.empty else ⟨#[]⟩
def lenOf (x:Int):Int:=if 0<=x/\x<=29 then Dm.getD x.toNat 1 else 1
def Jv (x:Int):Int:=if 0<=x/\x<=29 then Hc.getD x.toNat 2 else 2
def Ns (x:Int):Int:=if 0<=x/\x<=29 then Rp.getD x.toNat 0 else 0
theorem opAt (w:World) (x:Int) (h:Da w):Calls prog 38 #[.i x] w fun e w'=>e=.returned (.agg #[.string (nmOf x),.i (lenOf x),.i (Jv x),.i (Ns x)])/\Below w.heap.size w w':=by
 have L0:∀ o,Below w.heap.size w (w.alloc o):=fun o=>(Below.refl _ _).alloc (Nat.le_refl _) _
 by_cases hx:0<=x/\x<=29
 .obtain ⟨i,rfl⟩:∃ i:Nat,x=i:=⟨x.toNat,by omega⟩
  have hi:i<30:=by omega
  have hi':(i:Int)<30:=by omega
  obtain ⟨a,b,c,d⟩:=h i hi;have h0:0<w.heap.size:=block_lt_of_cell a
  have h1:decide ((i:Int)<0)=false:=by simp
  have h2:decide (30<=(i:Int))=false:=by simp; omega
  unfold nmOf lenOf Jv Ns;rw [if_pos hx,if_pos hx,if_pos hx,if_pos hx,Int.toNat_natCast]
  obtain ⟨v0,e0⟩:∃ v,v=opNm.getD i ByteArray.empty:=⟨_,rfl⟩
  obtain ⟨v1,e1⟩:∃ v,v=Dm.getD i 1:=⟨_,rfl⟩
  obtain ⟨v2,e2⟩:∃ v,v=Hc.getD i 2:=⟨_,rfl⟩
  obtain ⟨v3,e3⟩:∃ v,v=Rp.getD i 0:=⟨_,rfl⟩
  rw [<- e0] at a; rw [<- e1] at b; rw [<- e2] at c; rw [<- e3] at d;rw [<- e0,<- e1,<- e2,<- e3];clear e0 e1 e2 e3 h hx
  go_enter func38,ntmps38
  go_wp2;refine bodyPost_ret (v:=.agg #[.string v0,.i v1,.i v2,.i v3]) (by simp [results,results38,go_sem]) rfl ?_;exact ⟨rfl,L0 _⟩
 .unfold nmOf lenOf Jv Ns
  rw [if_neg hx,if_neg hx,if_neg hx,if_neg hx]
  rcases (by omega:x<0\/30<=x) with h1 | h1
  .have h2:decide (x<0)=true:=by simpa using h1
   clear hx
   go_enter func38,ntmps38
   go_wp2
   all_goals first | (exfalso; omega) | skip
   refine bodyPost_ret (v:=.agg #[.string ⟨#[]⟩,.i 1,.i 2,.i 0]) (by simp [results,results38,go_sem]) rfl ?_;exact ⟨rfl,L0 _⟩
  .have h2:decide (x<0)=false:=by simp; omega
   have h3:decide (30<=x)=true:=by simpa using h1
   clear hx
   go_enter func38,ntmps38
   go_wp2
   all_goals first | (exfalso; omega) | skip
   refine bodyPost_ret (v:=.agg #[.string ⟨#[]⟩,.i 1,.i 2,.i 0]) (by simp [results,results38,go_sem]) rfl ?_;exact ⟨rfl,L0 _⟩
theorem Qn (w:World) (x:Int) (h:Da w):Calls prog 40 #[.i x] w fun e w'=>e=.returned (.i (lenOf x))/\Below w.heap.size w w':=by
 have hfd:∀ w:World,(Instr.field 69 (.agg #[.string (nmOf x),.i (lenOf x),.i (Jv x),.i (Ns x)]) 1).run prog w=.ok (.i (lenOf x)) w:=fun _=>by kernel_rfl
 go_enter func40,ntmps40
 go_wp2_with fail;refine (opAt _ _ h).mono ?_;rintro e w1 ⟨rfl,hb⟩;go_wp2;go_ret;exact ⟨rfl,hb⟩
theorem Kp (w:World) (x:Int) (h:Da w):Calls prog 11 #[.i x] w fun e w'=>e=.returned (.i (Jv x))/\Below w.heap.size w w':=by
 have hfd:∀ w:World,(Instr.field 69 (.agg #[.string (nmOf x),.i (lenOf x),.i (Jv x),.i (Ns x)]) 2).run prog w=.ok (.i (Jv x)) w:=fun _=>by kernel_rfl
 go_enter func11,ntmps11
 go_wp2_with fail;refine (opAt _ _ h).mono ?_;rintro e w1 ⟨rfl,hb⟩;go_wp2;go_ret;exact ⟨rfl,hb⟩
theorem Rq (w:World) (x:Int) (h:Da w):Calls prog 151 #[.i x] w fun e w'=>e=.returned (.i (Ns x))/\Below w.heap.size w w':=by
 have hfd:∀ w:World,(Instr.field 69 (.agg #[.string (nmOf x),.i (lenOf x),.i (Jv x),.i (Ns x)]) 3).run prog w=.ok (.i (Ns x)) w:=fun _=>by kernel_rfl
 go_enter func151,ntmps151
 go_wp2_with fail;refine (opAt _ _ h).mono ?_;rintro e w1 ⟨rfl,hb⟩;go_wp2;go_ret;exact ⟨rfl,hb⟩
theorem Ws (w:World) (x:Int) (h:Da w):Calls prog 176 #[.i x] w fun e w'=>e=.returned (.string (nmOf x))/\Below w.heap.size w w':=by
 have hfd:∀ w:World,(Instr.field 69 (.agg #[.string (nmOf x),.i (lenOf x),.i (Jv x),.i (Ns x)]) 0).run prog w=.ok (.string (nmOf x)) w:=fun _=>by kernel_rfl
 go_enter func176,ntmps176
 go_wp2_with fail;refine (opAt _ _ h).mono ?_;rintro e w1 ⟨rfl,hb⟩;go_wp2;go_ret;exact ⟨rfl,hb⟩
theorem Jd0 (x:Int):Ns x=Ch x:=by
 unfold Ns;split
 .rename_i h
  obtain ⟨i,rfl⟩:∃ i:Nat,x=i:=⟨x.toNat,by omega⟩
  have hi:i<30:=by omega
  rw [Int.toNat_natCast];clear h
  revert i
  decide
 .unfold Ch
  rw [if_neg (by omega),if_neg (by omega)]
set_option maxHeartbeats 2000000
structure Cx (W:World) (lo:Nat) (D:Nat->Prop) (v:Value) (t c s ad pl:Int) (bl:Bool) (n:Nat) (f:Nat->Int) (m:Nat) (g:Nat->Int):Prop where
 ex:∃ u u' o o',v=.agg (pR t c s ad pl bl u u')/\A8 W lo o u n f/\A8 W lo o' u' m g/\Sl o o'/\∀ b,(o=some b\/o'=some b)->D b
section
variable {R:Nat->Nat->Prop} {W W':World} {lo lo':Nat} {D E:Nat->Prop} {v:Value} {t c s ad pl:Int} {bl:Bool} {n m:Nat} {f g:Nat->Int}
theorem Cx.on (h:Cx W lo D v t c s ad pl bl n f m g):Co W D v t c s ad pl bl n f m g:=by
 obtain ⟨u,u',o,o',rfl,h1,h2,h3,h4⟩:=h;exact (Jck h1 h2 h3).mono (fun b _ h=>h4 b h)
theorem Cx.keep (h:Cx W lo D v t c s ad pl bl n f m g) (hw:Wrote R W W') (hd:∀ b o,D b->b<W.heap.size->¬ R b o):Cx W' lo D v t c s ad pl bl n f m g:=by
 obtain ⟨u,u',o,o',e,h1,h2,h3,h4⟩:=h;exact ⟨u,u',o,o',e,h1.keep hw (fun q hq _ hl k=>hd q k (h4 q (Or.inl hq)) hl),h2.keep hw (fun q hq _ hl k=>hd q k (h4 q (Or.inr hq)) hl),h3,h4⟩
theorem Cx.below (h:Cx W lo D v t c s ad pl bl n f m g) (L:Below W.heap.size W W'):Cx W' lo D v t c s ad pl bl n f m g:=h.keep (Aa L Aj) (fun _ _ _ _ x=>x)
theorem Cx.mono (h:Cx W lo D v t c s ad pl bl n f m g) (hd:∀ b,b<W.heap.size->D b->E b):Cx W lo E v t c s ad pl bl n f m g:=by
 obtain ⟨u,u',o,o',e,h1,h2,h3,h4⟩:=h;refine ⟨u,u',o,o',e,h1,h2,h3,fun b hb=>hd b ?_ (h4 b hb)⟩
 rcases hb with rfl | rfl
 .exact h1.lt.2
 .exact h2.lt.2
theorem Cx.lower (h:Cx W lo D v t c s ad pl bl n f m g) (hl:lo'<=lo):Cx W lo' D v t c s ad pl bl n f m g:=by
 obtain ⟨u,u',o,o',e,h1,h2,h3,h4⟩:=h;exact ⟨u,u',o,o',e,h1.mono hl,h2.mono hl,h3,h4⟩
theorem Cx.two (h:Cx W lo D v t c s ad pl bl n f m g):∃ a x b y,v=.agg (pR t c s ad pl bl (.slice a n x) (.slice b m y)):=h.on.two
theorem Cx.ints (h:Cx W lo D v t c s ad pl bl n f m g):∃ u u',v=.agg (pR t c s ad pl bl u u')/\Ints .i64 W (On D) u n f/\Ints .i64 W (On D) u' m g:=h.on.ints
theorem Jh {o o':Option Nat} {u u':Value} (h1:A8 W lo o u n f) (h2:A8 W lo o' u' m g) (h3:Sl o o') (hl:lo'<=lo):Cx W lo' (fun b=>lo'<=b) (.agg (pR t c s ad pl bl u u')) t c s ad pl bl n f m g :=
 ⟨u,u',o,o',rfl,h1.mono hl,h2.mono hl,h3,fun b hb=>Nat.le_trans hl (Jg0 h1 h2 b hb)⟩
end
theorem Qa (w:World) (F G:Nat->Nat->Prop) (t c s ad pl:Int) (bl:Bool) (u u':Value) (n:Nat) (f:Nat->Int) (m:Nat) (g:Nat->Int) (reg v:Int) (H:Ints .i64 w F u n f) (K:Ints .i64 w G u' m g) :
  Calls prog 157 #[.agg (pR t c s ad pl bl u u'),.i reg,.i v] w fun e w'=>∃ v',e=.returned v'/\Cx w' w.heap.size (fun b=>w.heap.size<=b) v' t (Kx (A1 t c s ad pl n f m g) reg v c) (Ky (A1 t c s ad pl n f m g) reg v s) (Kz (A1 t c s ad pl n f m g) reg v ad) (La (A1 t c s ad pl n f m g) reg v pl) bl n (My (A1 t c s ad pl n f m g) reg v ad f) m g/\Below w.heap.size w w':=by
 obtain ⟨ua,ux,rfl,un,hr,hF⟩:=H;obtain ⟨va,vx,rfl,vn,hr',hF'⟩:=K
 have H:Ints .i64 w F (.slice ua n ux) n f:=⟨_,_,rfl,un,hr,hF⟩
 have K:Ints .i64 w G (.slice va m vx) m g:=⟨_,_,rfl,vn,hr',hF'⟩
 clear hr hF hr' hF';have L0:Below w.heap.size w ((w.alloc (.cells (pR t c s ad pl bl (.slice ua n ux) (.slice va m vx)) 33)).alloc (.cells (pR 0 0 0 0 0 false (.slice none 0 0) (.slice none 0 0)) 33)):=((Below.refl _ _).alloc (Nat.le_refl _) _).alloc (by simp) _;have k0:((w.alloc (.cells (pR t c s ad pl bl (.slice ua n ux) (.slice va m vx)) 33)).alloc (.cells (pR 0 0 0 0 0 false (.slice none 0 0) (.slice none 0 0)) 33)).heap[w.heap.size]?=some (.cells (pR t c s ad pl bl (.slice ua n ux) (.slice va m vx)) 33 (0,0)):=Az (Ak w _ _) _
 have k1:((w.alloc (.cells (pR t c s ad pl bl (.slice ua n ux) (.slice va m vx)) 33)).alloc (.cells (pR 0 0 0 0 0 false (.slice none 0 0) (.slice none 0 0)) 33)).heap[w.heap.size+1]?=some (.cells (pR 0 0 0 0 0 false (.slice none 0 0) (.slice none 0 0)) 33 (0,0)):=by simpa using Ak (w.alloc (.cells (pR t c s ad pl bl (.slice ua n ux) (.slice va m vx)) 33)) (pR 0 0 0 0 0 false (.slice none 0 0) (.slice none 0 0)) 33
 go_enter func157,ntmps157
 go_wp2_with fail;generalize ((w.alloc (.cells (pR t c s ad pl bl (.slice ua n ux) (.slice va m vx)) 33)).alloc (.cells (pR 0 0 0 0 0 false (.slice none 0 0) (.slice none 0 0)) 33))=W0 at *;refine (Sm _ F G t c s ad pl bl _ _ n f m g (H.keep (Aa L0 Aj) (fun _ _ _ x=>x)) (K.keep (Aa L0 Aj) (fun _ _ _ x=>x))).mono ?_;rintro e W1 ⟨v1,v2,o1,o2,rfl,R1,R2,h12,L1⟩;have hz0:=Ad k1;have sz:=L1.size;have C1:=Ah L0 L1;obtain ⟨pa,px,rfl⟩:=R1.form;obtain ⟨qa,qx,rfl⟩:=R2.form;have x0:=Az (Ab k0 L1 (Ad k0)) (.cells (pR t c s ad pl bl (.slice pa n px) (.slice qa m qx)) 33);have x1:=Az (Ab k1 L1 (Ad k1)) (.cells (pR t c s ad pl bl (.slice pa n px) (.slice qa m qx)) 33);have x2:=Ak W1 (pR t c s ad pl bl (.slice pa n px) (.slice qa m qx)) 33
 have LA:Below W1.heap.size W1 (W1.alloc (.cells (pR t c s ad pl bl (.slice pa n px) (.slice qa m qx)) 33)):=(Below.refl _ _).alloc (Nat.le_refl _) _;have C2:=Ah C1 LA;have HS1:=Ac (R1.below LA);have HS2:=Ac (R2.below LA)
 have HP:Hid ((∀ q,o1=some q->W0.heap.size<=q/\q<W1.heap.size)/\(∀ q,o2=some q->W0.heap.size<=q/\q<W1.heap.size)):=⟨fun q e=>by subst e; exact R1.lt,fun q e=>by subst e; exact R2.lt⟩
 have c0:=Af x0;go_wp2_with fail;clear c0 k0 k1 L0 L1 C1 R1 R2 LA
 obtain ⟨z,hz⟩:∃ z,Hid (z=W1.heap.size):=⟨_,rfl⟩
 generalize W1.alloc (.cells (pR t c s ad pl bl (.slice pa n px) (.slice qa m qx)) 33)=W2 at *;rw [<- hz.out] at x2 HP ⊢
 have hzw:w.heap.size+1<z:=by rw [hz.out]; omega
 have z0w:w.heap.size+1<W0.heap.size:=hz0;clear hz sz hz0;refine (Js _ F G t c s ad pl bl _ _ n f m g (H.keep (Aa C2 Aj) (fun _ _ _ x=>x)) (K.keep (Aa C2 Aj) (fun _ _ _ x=>x))).mono ?_;rintro e W3 ⟨rfl,L⟩;replace x0:=Ab x0 L (Ad x0);replace x1:=Ab x1 L (Ad x1);replace x2:=Ab x2 L (Ad x2);have S1:=HS1.out.below L;have S2:=HS2.out.below L;have C3:=Ah C2 L;clear L C2 HS1 HS2 H K;have c1:=Af x1;have c2:=Af x2;have f1:=Au x1;cases hok:A1 t c s ad pl n f m g
 .have HE:Hid (Kx false reg v c=c/\Ky false reg v s=s/\Kz false reg v ad=ad/\La false reg v pl=pl/\My false reg v ad f=f):=⟨if_neg (by simp),if_neg (by simp),(if_neg (by simp)).trans (if_neg (by simp)),if_neg (by simp),if_neg (by simp)⟩
  have KEY:Hid (∀ W5,Wrote (fun b _=>b=w.heap.size+1) W3 W5->Cx W5 w.heap.size (fun b=>w.heap.size<=b) (.agg (pR t c s ad pl bl (.slice pa n px) (.slice qa m qx))) t c s ad pl bl n f m g/\Below w.heap.size w W5):=fun W5 WW=>by
   have T1:=S1.keep WW (fun q e _ _ _ h=>by have:=HP.out.1 q e; omega);have T2:=S2.keep WW (fun q e _ _ _ h=>by have:=HP.out.2 q e; omega);exact ⟨Jh T1 T2 h12 (by omega),C3.trans (WW.below C3.size (fun b o hb h=>by omega))⟩
  have HO:=Ac hok;clear hok S1 S2 C3 x0 x1 x2;go_wp2;refine bodyPost_ret (v:=.agg (pR t c s ad pl bl (.slice pa n px) (.slice qa m qx))) (by simp [results,results157,go_sem,c1]) rfl ?_;rw [HO.out,HE.out.1,HE.out.2.1,HE.out.2.2.1,HE.out.2.2.2.1,HE.out.2.2.2.2];refine ⟨_,rfl,KEY.out _ ?_⟩
  iterate 8 (refine Wrote.setCell ?_ (fun _=>by omega) _)
  exact Wrote.refl _ _
 .have IP:=Ff hok
  have a0:=IP.a0;have a1:=IP.a1;have h16:=IP.n16
  obtain ⟨p,rfl⟩:∃ p,o1=some p:=by
   cases o1 with
   | none=>obtain ⟨-,e⟩:=S1; omega
   | some p=>exact ⟨p,rfl⟩
  obtain ⟨y,e,R⟩:=S1;cases e;have hp:=HP.out.1 p rfl;have HO:=Ac hok;clear hok IP;go_wp2_with fail;refine (Ct _ _).mono ?_;rintro e W' ⟨rfl,rfl⟩;go_wp2_with fail;refine (Jcq _ z p n px _ t c s ad pl bl (.slice qa m qx) f reg v x2 R (by omega) h16 a0 a1).mono ?_;rintro e W4 ⟨rfl,y2,R4,WR⟩;have y1:=Al x1 WR (fun o h=>by omega);have S4:=S2.keep WR (fun q e _ _ _ h=>by have:=HP.out.2 q e; rcases h with h | h; omega; subst h; exact h12 q rfl e);have C4:=C3.trans (WR.below C3.size (fun b o hb h=>by omega));have d1:=Af y1;have d2:=Af y2;have g1:=Au y1
  have HE:Hid (∀ W5,Wrote (fun b _=>b=w.heap.size+1) W4 W5->Cx W5 w.heap.size (fun b=>w.heap.size<=b) (.agg (pR t (Kx true reg v c) (Ky true reg v s) (Kz true reg v ad) (La true reg v pl) bl (.sl p 0 n px) (.slice qa m qx))) t (Kx true reg v c) (Ky true reg v s) (Kz true reg v ad) (La true reg v pl) bl n (My true reg v ad f) m g/\Below w.heap.size w W5):=fun W5 WW=>by
   have T1:A8 W5 W0.heap.size (some p) (.sl p 0 n px) n (My true reg v ad f):=⟨_,rfl,R4.keep WW (fun _ h=>by omega)⟩
   have T2:=S4.keep WW (fun q e _ _ _ h=>by have:=HP.out.2 q e; omega);exact ⟨Jh T1 T2 h12 (by omega),C4.trans (WW.below C4.size (fun b o hb h=>by omega))⟩
  clear c1 c2 f1 R R4 S2 S4 C3 C4 x0 x1 x2 y1 y2 WR;clear h16;go_wp2;refine bodyPost_ret (v:=.agg (pR t (Kx true reg v c) (Ky true reg v s) (Kz true reg v ad) (La true reg v pl) bl (.sl p 0 n px) (.slice qa m qx))) (by simp [results,results157,go_sem,d1]) rfl ?_;rw [HO.out];refine ⟨_,rfl,HE.out _ ?_⟩
  iterate 8 (refine Wrote.setCell ?_ (fun _=>by omega) _)
  exact Wrote.refl _ _
theorem Sp (w:World) (F G:Nat->Nat->Prop) (t c s ad pl:Int) (bl:Bool) (u u':Value) (n:Nat) (f:Nat->Int) (m:Nat) (g:Nat->Int) (reg:Int) (H:Ints .i64 w F u n f) (K:Ints .i64 w G u' m g) :
  Calls prog 154 #[.agg (pR t c s ad pl bl u u'),.i reg] w fun e w'=>∃ v',e=.returned (.tuple #[v',.i (R5 (A1 t c s ad pl n f m g) reg bl ad f)])/\Cx w' w.heap.size (fun b=>w.heap.size<=b) v' t c s (Ps (A1 t c s ad pl n f m g) reg ad) pl (Rz (A1 t c s ad pl n f m g) reg bl) n f m g/\Below w.heap.size w w':=by
 obtain ⟨ua,ux,rfl,un,hr,hF⟩:=H;obtain ⟨va,vx,rfl,vn,hr',hF'⟩:=K
 have H:Ints .i64 w F (.slice ua n ux) n f:=⟨_,_,rfl,un,hr,hF⟩
 have K:Ints .i64 w G (.slice va m vx) m g:=⟨_,_,rfl,vn,hr',hF'⟩
 clear hr hF hr' hF';have L0:Below w.heap.size w ((w.alloc (.cells (pR t c s ad pl bl (.slice ua n ux) (.slice va m vx)) 33)).alloc (.cells (pR 0 0 0 0 0 false (.slice none 0 0) (.slice none 0 0)) 33)):=((Below.refl _ _).alloc (Nat.le_refl _) _).alloc (by simp) _;have k0:((w.alloc (.cells (pR t c s ad pl bl (.slice ua n ux) (.slice va m vx)) 33)).alloc (.cells (pR 0 0 0 0 0 false (.slice none 0 0) (.slice none 0 0)) 33)).heap[w.heap.size]?=some (.cells (pR t c s ad pl bl (.slice ua n ux) (.slice va m vx)) 33 (0,0)):=Az (Ak w _ _) _
 have k1:((w.alloc (.cells (pR t c s ad pl bl (.slice ua n ux) (.slice va m vx)) 33)).alloc (.cells (pR 0 0 0 0 0 false (.slice none 0 0) (.slice none 0 0)) 33)).heap[w.heap.size+1]?=some (.cells (pR 0 0 0 0 0 false (.slice none 0 0) (.slice none 0 0)) 33 (0,0)):=by simpa using Ak (w.alloc (.cells (pR t c s ad pl bl (.slice ua n ux) (.slice va m vx)) 33)) (pR 0 0 0 0 0 false (.slice none 0 0) (.slice none 0 0)) 33
 go_enter func154,ntmps154
 go_wp2_with fail;generalize ((w.alloc (.cells (pR t c s ad pl bl (.slice ua n ux) (.slice va m vx)) 33)).alloc (.cells (pR 0 0 0 0 0 false (.slice none 0 0) (.slice none 0 0)) 33))=W0 at *;refine (Sm _ F G t c s ad pl bl _ _ n f m g (H.keep (Aa L0 Aj) (fun _ _ _ x=>x)) (K.keep (Aa L0 Aj) (fun _ _ _ x=>x))).mono ?_;rintro e W1 ⟨v1,v2,o1,o2,rfl,R1,R2,h12,L1⟩;have hz0:=Ad k1;have sz:=L1.size;have C1:=Ah L0 L1;obtain ⟨pa,px,rfl⟩:=R1.form;obtain ⟨qa,qx,rfl⟩:=R2.form;have x0:=Az (Ab k0 L1 (Ad k0)) (.cells (pR t c s ad pl bl (.slice pa n px) (.slice qa m qx)) 33);have x1:=Az (Ab k1 L1 (Ad k1)) (.cells (pR t c s ad pl bl (.slice pa n px) (.slice qa m qx)) 33);have x2:=Ak W1 (pR t c s ad pl bl (.slice pa n px) (.slice qa m qx)) 33
 have LA:Below W1.heap.size W1 (W1.alloc (.cells (pR t c s ad pl bl (.slice pa n px) (.slice qa m qx)) 33)):=(Below.refl _ _).alloc (Nat.le_refl _) _;have C2:=Ah C1 LA;have HS1:=Ac (R1.below LA);have HS2:=Ac (R2.below LA)
 have HP:Hid ((∀ q,o1=some q->W0.heap.size<=q/\q<W1.heap.size)/\(∀ q,o2=some q->W0.heap.size<=q/\q<W1.heap.size)):=⟨fun q e=>by subst e; exact R1.lt,fun q e=>by subst e; exact R2.lt⟩
 have c0:=Af x0;go_wp2_with fail;clear c0 k0 k1 L0 L1 C1 R1 R2 LA
 obtain ⟨z,hz⟩:∃ z,Hid (z=W1.heap.size):=⟨_,rfl⟩
 generalize W1.alloc (.cells (pR t c s ad pl bl (.slice pa n px) (.slice qa m qx)) 33)=W2 at *;rw [<- hz.out] at x2 HP ⊢
 have hzw:w.heap.size+1<z:=by rw [hz.out]; omega
 have z0w:w.heap.size+1<W0.heap.size:=hz0;clear hz sz hz0;refine (Js _ F G t c s ad pl bl _ _ n f m g (H.keep (Aa C2 Aj) (fun _ _ _ x=>x)) (K.keep (Aa C2 Aj) (fun _ _ _ x=>x))).mono ?_;rintro e W3 ⟨rfl,L⟩;replace x0:=Ab x0 L (Ad x0);replace x1:=Ab x1 L (Ad x1);replace x2:=Ab x2 L (Ad x2);have S1:=HS1.out.below L;have S2:=HS2.out.below L;have C3:=Ah C2 L;clear L C2 HS1 HS2 H K;have c1:=Af x1;have c2:=Af x2;have f1:=Au x1;cases hok:A1 t c s ad pl n f m g
 .have HE:Hid (Ps false reg ad=ad/\Rz false reg bl=bl/\R5 false reg bl ad f=0):=⟨if_neg (by simp),if_neg (by simp),(if_neg (by simp)).trans (if_neg (by simp))⟩
  have KEY:Hid (∀ W5,Wrote (fun b _=>b=w.heap.size+1) W3 W5->Cx W5 w.heap.size (fun b=>w.heap.size<=b) (.agg (pR t c s ad pl bl (.slice pa n px) (.slice qa m qx))) t c s ad pl bl n f m g/\Below w.heap.size w W5):=fun W5 WW=>by
   have T1:=S1.keep WW (fun q e _ _ _ h=>by have:=HP.out.1 q e; omega);have T2:=S2.keep WW (fun q e _ _ _ h=>by have:=HP.out.2 q e; omega);exact ⟨Jh T1 T2 h12 (by omega),C3.trans (WW.below C3.size (fun b o hb h=>by omega))⟩
  have HO:=Ac hok;clear hok S1 S2 C3 x0 x1 x2;go_wp2;refine bodyPost_ret (v:=.tuple #[.agg (pR t c s ad pl bl (.slice pa n px) (.slice qa m qx)),.i 0]) (by simp [results,results154,go_sem,c1]) rfl ?_;rw [HO.out,HE.out.1,HE.out.2.1,HE.out.2.2];refine ⟨_,rfl,KEY.out _ ?_⟩
  iterate 8 (refine Wrote.setCell ?_ (fun _=>by omega) _)
  exact Wrote.refl _ _
 .have IP:=Ff hok
  have a0:=IP.a0;have a1:=IP.a1;have h16:=IP.n16
  obtain ⟨p,rfl⟩:∃ p,o1=some p:=by
   cases o1 with
   | none=>obtain ⟨-,e⟩:=S1; omega
   | some p=>exact ⟨p,rfl⟩
  obtain ⟨y,e,R⟩:=S1;cases e;have hp:=HP.out.1 p rfl;have HO:=Ac hok;clear hok IP;go_wp2_with fail;refine (Jeo _ z p n px _ t c s ad pl bl (.slice qa m qx) f reg x2 R h16 a0 a1).mono ?_;rintro e W4 ⟨rfl,y2,WR⟩;have y1:=Al x1 WR (fun o h=>by omega);have R4:=R.keep WR (fun _ h=>by omega);have S4:=S2.keep WR (fun q e _ _ _ h=>by have:=HP.out.2 q e; omega);have C4:=C3.trans (WR.below C3.size (fun b o hb h=>by omega));have d1:=Af y1;have d2:=Af y2;have g1:=Au y1
  have HE:Hid (∀ W5,Wrote (fun b _=>b=w.heap.size+1) W4 W5->Cx W5 w.heap.size (fun b=>w.heap.size<=b) (.agg (pR t c s (Ps true reg ad) pl (Rz true reg bl) (.sl p 0 n px) (.slice qa m qx))) t c s (Ps true reg ad) pl (Rz true reg bl) n f m g/\Below w.heap.size w W5):=fun W5 WW=>by
   have T1:A8 W5 W0.heap.size (some p) (.sl p 0 n px) n f:=⟨_,rfl,R4.keep WW (fun _ h=>by omega)⟩
   have T2:=S4.keep WW (fun q e _ _ _ h=>by have:=HP.out.2 q e; omega);exact ⟨Jh T1 T2 h12 (by omega),C4.trans (WW.below C4.size (fun b o hb h=>by omega))⟩
  clear c1 c2 f1 R R4 S2 S4 C3 C4 x0 x1 x2 y1 y2 WR;clear h16;go_wp2;refine bodyPost_ret (v:=.tuple #[.agg (pR t c s (Ps true reg ad) pl (Rz true reg bl) (.sl p 0 n px) (.slice qa m qx)),.i (R5 true reg bl ad f)]) (by simp [results,results154,go_sem,d1]) rfl ?_;rw [HO.out];refine ⟨_,rfl,HE.out _ ?_⟩
  iterate 8 (refine Wrote.setCell ?_ (fun _=>by omega) _)
  exact Wrote.refl _ _
set_option maxHeartbeats 1000000
theorem Jcp (w:World) (x y:Int):Calls prog 233 #[.i x,.i y] w fun e w'=>e=.returned (.i 0)/\w'=w:=by
 go_enter func233,ntmps233
 go_wp2;go_ret;exact ⟨rfl,rfl⟩
theorem Jem (w:World) (b:Nat) (t c s ad pl:Int) (bl:Bool) (ua:Option Addr) (ux:Nat) (v':Value) (f:Nat->Int) (a:Int) (hb:w.heap[b]?=some (.cells (pR t c s ad pl bl (.slice ua 16 ux) v') 33 (0,0))) (hr:Cg .i64 w ua 16 f) (s0:0<=s) (s1:s<=255) (a0:0<=a) (a1:a<48) :
  Calls prog 234 #[.i (a/8),.i (a%8),(pt b 0)] w fun e w'=>e=.returned (.i (I5 f s pl a))/\Below w.heap.size w w':=by
 have hc:=Af hb;have m16:(a%8+s+a/8).tmod 16=(a%8+s+a/8)%16:=Int.tmod_eq_emod_of_nonneg (by omega)
 obtain ⟨k,hk⟩:∃ k:Nat,(a%8+s+a/8)%16=k:=⟨((a%8+s+a/8)%16).toNat,by omega⟩
 have hk16:k<16:=by omega
 have HE:Hid (I5 f s pl a=bits .xor .i64 (f k) pl):=by show _=_; unfold I5; rw [hk]; rfl
 rw [hk] at m16;obtain ⟨b',off,rfl,hcell⟩:=hr k hk16
 have hk':(k:Int)<16:=by omega
 have w1:IntKind.i64.wrap (a%8+s)=a%8+s:=by rw [IntKind.wrap_i64]; omega
 have w2:IntKind.i64.wrap (a%8+s+a/8)=a%8+s+a/8:=by rw [IntKind.wrap_i64]; omega
 clear hr hb hk
 go_enter func234,ntmps234
 go_upto_region 1 with (fail)
 go_quiet (fail)
 go_wp2;go_ret;exact ⟨A5 HE.out.symm,below_drewN (Below.refl _ _) _⟩
theorem Jf9 (w:World) (F G:Nat->Nat->Prop) (t c s ad pl:Int) (bl:Bool) (ua:Option Addr) (ux:Nat) (va:Option Addr) (vx:Nat) (n:Nat) (f:Nat->Int) (m:Nat) (g:Nat->Int) (H:Ints .i64 w F (.slice ua n ux) n f) (K:Ints .i64 w G (.slice va m vx) m g) :
  Calls prog 211 #[.agg (pR t c s ad pl bl (.slice ua n ux) (.slice va m vx))] w fun e w'=>(A1 t c s ad pl n f m g=false->e=.returned (.agg #[.func (.func 233) #[] #[]]))/\(A1 t c s ad pl n f m g=true->e=.returned (.agg #[.func (.func 234) #[] #[(pt w.heap.size 0)]]))/\w'.heap[w.heap.size]?=some (.cells (pR t c s ad pl bl (.slice ua n ux) (.slice va m vx)) 33 (0,0))/\Below w.heap.size w w':=by
 have hmf:∀ (fn:Fn) (first cap:Array Value) (w:World),(Instr.makeFunc fn first cap).run prog w=.ok (.func fn first cap) w:=fun _ _ _ _=>rfl
 have L0:Below w.heap.size w ((w.alloc (.cells (pR t c s ad pl bl (.slice ua n ux) (.slice va m vx)) 33)).alloc (.cells #[.nilFunc] 201)):=((Below.refl _ _).alloc (Nat.le_refl _) _).alloc (by simp) _;have k0:((w.alloc (.cells (pR t c s ad pl bl (.slice ua n ux) (.slice va m vx)) 33)).alloc (.cells #[.nilFunc] 201)).heap[w.heap.size]?=some (.cells (pR t c s ad pl bl (.slice ua n ux) (.slice va m vx)) 33 (0,0)):=Az (Ak w _ _) _
 have k1:((w.alloc (.cells (pR t c s ad pl bl (.slice ua n ux) (.slice va m vx)) 33)).alloc (.cells #[.nilFunc] 201)).heap[w.heap.size+1]?=some (.cells #[.nilFunc] 201 (0,0)):=by simpa using Ak (w.alloc (.cells (pR t c s ad pl bl (.slice ua n ux) (.slice va m vx)) 33)) #[.nilFunc] 201
 go_enter func211,ntmps211
 go_wp2_with fail;generalize ((w.alloc (.cells (pR t c s ad pl bl (.slice ua n ux) (.slice va m vx)) 33)).alloc (.cells #[.nilFunc] 201))=W0 at *;refine (Js _ F G t c s ad pl bl _ _ n f m g (H.keep (Aa L0 Aj) (fun _ _ _ x=>x)) (K.keep (Aa L0 Aj) (fun _ _ _ x=>x))).mono ?_;rintro e W1 ⟨rfl,L1⟩;have C1:=Ah L0 L1;replace k0:=Ab k0 L1 (Ad k0);replace k1:=Ab k1 L1 (Ad k1);have c1:=Af k1;have f1:=Au k1;clear L0 L1 H K;cases hok:A1 t c s ad pl n f m g
 .go_wp2
  refine bodyPost_ret (v:=.agg #[.func (.func 233) #[] #[]]) (by simp [results,results211,go_sem,c1]) rfl ?_;exact ⟨fun _=>rfl,fun h=>absurd (hok.symm.trans h) (by decide),Ce k0 (by omega),C1.setCell (by simp) _⟩
 .go_wp2
  refine bodyPost_ret (v:=.agg #[.func (.func 234) #[] #[(pt w.heap.size 0)]]) (by simp [results,results211,go_sem,c1]) rfl ?_;exact ⟨fun h=>absurd (h.symm.trans hok) (by decide),fun _=>rfl,Ce k0 (by omega),C1.setCell (by simp) _⟩
theorem Jen (w:World) (F G:Nat->Nat->Prop) (t c s ad pl:Int) (bl:Bool) (u u':Value) (n:Nat) (f:Nat->Int) (m:Nat) (g:Nat->Int) (a:Int) (H:Ints .i64 w F u n f) (K:Ints .i64 w G u' m g) :
  Calls prog 162 #[.agg (pR t c s ad pl bl u u'),.i a] w fun e w'=>e=.returned (.i (Yy (A1 t c s ad pl n f m g) f s pl a))/\Below w.heap.size w w':=by
 obtain ⟨ua,ux,rfl,un,hr,hF⟩:=H;obtain ⟨va,vx,rfl,vn,hr',hF'⟩:=K
 have H:Ints .i64 w F (.slice ua n ux) n f:=⟨_,_,rfl,un,hr,hF⟩
 have K:Ints .i64 w G (.slice va m vx) m g:=⟨_,_,rfl,vn,hr',hF'⟩
 clear hF hr' hF';have L0:Below w.heap.size w (w.alloc (.cells (pR t c s ad pl bl (.slice ua n ux) (.slice va m vx)) 33)):=(Below.refl _ _).alloc (Nat.le_refl _) _;have k0:=Ak w (pR t c s ad pl bl (.slice ua n ux) (.slice va m vx)) 33
 by_cases hA:0<=a/\a<=47
 .obtain ⟨a0,a47⟩:=hA
  have a1:a<48:=by omega
  have n1:¬ a<0:=by omega
  have n2:¬ 48<=a:=by omega
  have m8:a.tmod 8=a%8:=Int.tmod_eq_emod_of_nonneg a0;have d8:a.tdiv 8=a/8:=Int.tdiv_eq_ediv_of_nonneg a0
  go_enter func162,ntmps162
  go_wp2_with fail;generalize w.alloc (.cells (pR t c s ad pl bl (.slice ua n ux) (.slice va m vx)) 33)=W0 at *;refine (Jf9 _ F G t c s ad pl bl ua ux va vx n f m g (H.keep (Aa L0 Aj) (fun _ _ _ x=>x)) (K.keep (Aa L0 Aj) (fun _ _ _ x=>x))).mono ?_;rintro e W1 ⟨hno,hyes,kb,L1⟩;have C1:=Ah L0 L1;cases hok:A1 t c s ad pl n f m g
  .obtain rfl:=hno hok
   have HE:Hid (Yy false f s pl a=0):=if_neg (by simp)
   have hfd:∀ w,(Instr.field 201 (.agg #[.func (.func 233) #[] #[]]) 0).run prog w=.ok (.func (.func 233) #[] #[]) w:=fun _=>by kernel_rfl
   clear hno hyes;go_wp2_with fail;refine (Jcp _ _ _).mono ?_;rintro e W2 ⟨rfl,rfl⟩;go_wp2;go_ret;exact ⟨A5 (by rw [hok]; exact HE.out.symm),C1⟩
  .obtain rfl:=hyes hok
   have HE:Hid (Yy true f s pl a=I5 f s pl a):=if_pos ⟨rfl,a0,a47⟩
   have hfd:∀ w,(Instr.field 201 (.agg #[.func (.func 234) #[] #[(pt W0.heap.size 0)]]) 0).run prog w=.ok (.func (.func 234) #[] #[(pt W0.heap.size 0)]) w:=fun _=>by kernel_rfl
   clear hno hyes;go_wp2_with fail;have IP:=Ff hok;have s0:=IP.s0;have s1:=IP.s1;obtain rfl:=IP.n16;refine (Jem _ W0.heap.size t c s ad pl bl ua ux (.slice va m vx) f a kb (hr.keep (Aa C1 Aj) (fun _ _ _ x=>x)) s0 s1 a0 a1).mono ?_;rintro e W2 ⟨rfl,L2⟩;have C2:=Ah C1 L2;clear IP s0 s1 hr;go_wp2;go_ret;exact ⟨A5 (by rw [hok]; exact HE.out.symm),C2⟩
 .have HE:Hid (Yy (A1 t c s ad pl n f m g) f s pl a=0):=if_neg (fun h=>hA h.2)
  by_cases h0:a<0
  .go_enter func162,ntmps162
   go_wp2;go_ret;exact ⟨A5 HE.out.symm,L0⟩
  .have h1:48<=a:=by omega
   go_enter func162,ntmps162
   go_wp2;go_ret;exact ⟨A5 HE.out.symm,L0⟩
set_option maxHeartbeats 8000000
set_option maxRecDepth 40000
structure B7 (W:World) (lo N:Nat) (D:Nat->Nat->Prop) (u0 u1 u2 u3 u4 u5 u6 u7:Value) (ob:Nat->Option Nat) (iv ov:Nat->Value) (o6 o7:Option Nat) (d:Aq):Prop where
 h0:Cu W (D 0) u0 d.m d.ln d.f
 h1:Bs W (D 1) u1 d.np d.p
 h2:Bw W (D 2) (.agg #[u2,.i d.bank]) d.nr d.g d.bank
 h3:Cx W lo (D 3) (.agg (pR d.t d.c d.s d.ad d.pl d.bl u3 u4)) d.t d.c d.s d.ad d.pl d.bl d.nt d.tb d.nd d.dt
 h5:SA W lo u5 d.mf d.mf ob iv ov d.lf d.fr
 h5D:∀ b,(u5.ownBlock=some b\/∃ i,i<d.mf/\ob i=some b)->D 4 b
 h6:A8 W lo o6 u6 d.ns d.sm
 h6D:∀ b,o6=some b->D 5 b
 h7:A8 W lo o7 u7 d.nq d.rd
 h7D:∀ b,o7=some b->D 6 b
 dis:Dis D
 bd:∀ i b,D i b->lo<=b/\b<N
 nN:N<=W.heap.size
 hps:Dw d.lf d.mf<=1099511627776
section
variable {R:Nat->Nat->Prop} {W W':World} {lo N:Nat} {D:Nat->Nat->Prop} {u0 u1 u2 u3 u4 u5 u6 u7:Value} {ob:Nat->Option Nat} {iv ov:Nat->Value} {o6 o7:Option Nat} {d:Aq}
theorem A8.listOn {W:World} {lo:Nat} {o:Option Nat} {v:Value} {n:Nat} {f:Nat->Int} {D:Nat->Prop} (h:A8 W lo o v n f) (hd:∀ b,o=some b->D b):Bs W D v n f:=by
 obtain ⟨a,x,e,hS⟩:=h.sl;exact ⟨a,x,e,hS.small,hS.row,hS.free,fun b k hF=>hd b (hS.on b k hF)⟩
theorem B7.on (H:B7 W lo N D u0 u1 u2 u3 u4 u5 u6 u7 ob iv ov o6 o7 d):Aw W D (.agg (kR d u0 u1 u2 u3 u4 u5 u6 u7)) d :=
 ⟨u0,u1,u2,u3,u4,u5,u6,u7,rfl,H.h0,H.h1,H.h2,H.h3.on,u5,u6,u7,rfl,H.h5.onD H.h5D H.hps,H.h6.listOn H.h6D,H.h7.listOn H.h7D⟩
theorem B7.keepD (H:B7 W lo N D u0 u1 u2 u3 u4 u5 u6 u7 ob iv ov o6 o7 d) (hw:Wrote R W W') (hd:∀ i b o,D i b->¬ R b o):B7 W' lo N D u0 u1 u2 u3 u4 u5 u6 u7 ob iv ov o6 o7 d :=
 ⟨H.h0.keep hw (fun b o h _=>hd _ b o h),H.h1.keep hw (fun b o h _=>hd _ b o h),H.h2.keep hw (fun b o h _=>hd _ b o h),H.h3.keep hw (fun b o h _=>hd _ b o h),H.h5.keep hw (fun g o hg=>hd _ g o (H.h5D g (Or.inl hg))) (fun i b o hi hb=>hd _ b o (H.h5D b (Or.inr ⟨i,hi,hb⟩))),H.h5D,H.h6.keep hw (fun b hb _ _ o=>hd _ b o (H.h6D b hb)),H.h6D,H.h7.keep hw (fun b hb _ _ o=>hd _ b o (H.h7D b hb)),H.h7D,H.dis,H.bd,Nat.le_trans H.nN hw.size,H.hps⟩
theorem B7.keep (H:B7 W lo N D u0 u1 u2 u3 u4 u5 u6 u7 ob iv ov o6 o7 d) (hw:Wrote R W W') (hn:∀ b o,lo<=b->b<N->¬ R b o):B7 W' lo N D u0 u1 u2 u3 u4 u5 u6 u7 ob iv ov o6 o7 d:=H.keepD hw (fun i b o h=>hn b o (H.bd i b h).1 (H.bd i b h).2)
theorem B7.below (H:B7 W lo N D u0 u1 u2 u3 u4 u5 u6 u7 ob iv ov o6 o7 d) (L:Below W.heap.size W W'):B7 W' lo N D u0 u1 u2 u3 u4 u5 u6 u7 ob iv ov o6 o7 d:=H.keep (Aa L Aj) (fun _ _ _ _ x=>x)
theorem B7.ppu (H:B7 W lo N D u0 u1 u2 u3 u4 u5 u6 u7 ob iv ov o6 o7 d) {p q:Nat} {w3 w4:Value} {c s ad pl:Int} {t:Int} {bl:Bool} {nt nd:Nat} {tb dt:Nat->Int} (hP:Cx W lo (fun b=>p<=b/\b<q) (.agg (pR t c s ad pl bl w3 w4)) t c s ad pl bl nt tb nd dt) (hp:N<=p) (hl:lo<=N) (hpq:p<=q) (hq:q<=W.heap.size) :
  B7 W lo q (fun i b=>(i=3/\p<=b/\b<q)\/(i≠3/\D i b)) u0 u1 u2 w3 w4 u5 u6 u7 ob iv ov o6 o7 { d with t:=t,c:=c,s:=s,ad:=ad,pl:=pl,bl:=bl,nt:=nt,tb:=tb,nd:=nd,dt:=dt }:=by
 have nN:=H.nN;refine ⟨H.h0.mono (fun b _ h=>Or.inr ⟨by decide,h⟩),H.h1.mono (fun b _ h=>Or.inr ⟨by decide,h⟩),H.h2.mono (fun b _ h=>Or.inr ⟨by decide,h⟩),hP.mono (fun b _ h=>Or.inl ⟨rfl,h⟩),H.h5,fun b h=>Or.inr ⟨by decide,H.h5D b h⟩,H.h6,fun b h=>Or.inr ⟨by decide,H.h6D b h⟩,H.h7,fun b h=>Or.inr ⟨by decide,H.h7D b h⟩,?_,?_,hq,H.hps⟩
 .intro i j b h1 h2
  rcases h1 with ⟨rfl,_,_⟩ | ⟨n1,h1⟩ <;> rcases h2 with ⟨rfl,_,_⟩ | ⟨n2,h2⟩
  .rfl
  .have:=H.bd _ _ h2; omega
  .have:=H.bd _ _ h1; omega
  .exact H.dis _ _ _ h1 h2
 .intro i b h
  rcases h with ⟨rfl,_,_⟩ | ⟨_,h⟩
  .omega
  .have:=H.bd _ _ h; omega
theorem B7.mem (H:B7 W lo N D u0 u1 u2 u3 u4 u5 u6 u7 ob iv ov o6 o7 d) {p q:Nat} {w2:Value} {bank:Int} {nr:Nat} {g:Nat->Int} (hP:Bw W (fun b=>p<=b/\b<q) (.agg #[w2,.i bank]) nr g bank) (hp:N<=p) (hl:lo<=N) (hpq:p<=q) (hq:q<=W.heap.size) :
  B7 W lo q (fun i b=>(i=2/\p<=b/\b<q)\/(i≠2/\D i b)) u0 u1 w2 u3 u4 u5 u6 u7 ob iv ov o6 o7 { d with bank:=bank,nr:=nr,g:=g }:=by
 have nN:=H.nN;refine ⟨H.h0.mono (fun b _ h=>Or.inr ⟨by decide,h⟩),H.h1.mono (fun b _ h=>Or.inr ⟨by decide,h⟩),hP.mono (fun b _ h=>Or.inl ⟨rfl,h⟩),H.h3.mono (fun b _ h=>Or.inr ⟨by decide,h⟩),H.h5,fun b h=>Or.inr ⟨by decide,H.h5D b h⟩,H.h6,fun b h=>Or.inr ⟨by decide,H.h6D b h⟩,H.h7,fun b h=>Or.inr ⟨by decide,H.h7D b h⟩,?_,?_,hq,H.hps⟩
 .intro i j b h1 h2
  rcases h1 with ⟨rfl,_,_⟩ | ⟨n1,h1⟩ <;> rcases h2 with ⟨rfl,_,_⟩ | ⟨n2,h2⟩
  .rfl
  .have:=H.bd _ _ h2; omega
  .have:=H.bd _ _ h1; omega
  .exact H.dis _ _ _ h1 h2
 .intro i b h
  rcases h with ⟨rfl,_,_⟩ | ⟨_,h⟩
  .omega
  .have:=H.bd _ _ h; omega
theorem B7.push (H:B7 W lo N D u0 u1 u2 u3 u4 u5 u6 u7 ob iv ov o6 o7 d) (hl:lo<=N) {g':Nat} {u':Value} {x:Int} (hw:Wrote (fun b _=>o7=some b) W W') (R7:A8 W' lo (some g') u' (d.nq+1) (snoc d.rd d.nq x)) (hat:o7=some g'\/W.heap.size<=g') :
  B7 W' lo W'.heap.size (fun i b=>(i=6/\b=g')\/(i≠6/\D i b)) u0 u1 u2 u3 u4 u5 u6 u' ob iv ov o6 (some g') { d with nq:=d.nq+1,rd:=snoc d.rd d.nq x }:=by
 have nN:=H.nN;have hz:=hw.size
 have far:∀ i b (o:Nat),i≠6->D i b->¬ (o7=some b):=fun i b o hi hb e=>hi (H.dis i 6 b hb (H.h7D b e))
 have key:∀ i,i≠6->D i g'->False:=fun i hi h=>by
  rcases hat with e | h'
  .exact far i g' 0 hi h e
  .have:=H.bd _ _ h; omega
 refine ⟨(H.h0.keep hw (fun b o h _=>far 0 b o (by decide) h)).mono (fun b _ h=>Or.inr ⟨by decide,h⟩),(H.h1.keep hw (fun b o h _=>far 1 b o (by decide) h)).mono (fun b _ h=>Or.inr ⟨by decide,h⟩),(H.h2.keep hw (fun b o h _=>far 2 b o (by decide) h)).mono (fun b _ h=>Or.inr ⟨by decide,h⟩),(H.h3.keep hw (fun b o h _=>far 3 b o (by decide) h)).mono (fun b _ h=>Or.inr ⟨by decide,h⟩),
  H.h5.keep hw (fun g o hg=>far 4 g o (by decide) (H.h5D g (Or.inl hg))) (fun i b o hi hb=>far 4 b o (by decide) (H.h5D b (Or.inr ⟨i,hi,hb⟩))),fun b h=>Or.inr ⟨by decide,H.h5D b h⟩,H.h6.keep hw (fun b hb _ _ o=>far 5 b o (by decide) (H.h6D b hb)),fun b h=>Or.inr ⟨by decide,H.h6D b h⟩,R7,fun b h=>Or.inl ⟨rfl,(Option.some.inj h).symm⟩,?_,?_,Nat.le_refl _,H.hps⟩
 .intro i j b h1 h2
  rcases h1 with ⟨rfl,rfl⟩ | ⟨n1,h1⟩ <;> rcases h2 with ⟨rfl,e2⟩ | ⟨n2,h2⟩
  .rfl
  .exact (key _ n2 h2).elim
  .subst e2; exact (key _ n1 h1).elim
  .exact H.dis _ _ _ h1 h2
 .intro i b h
  rcases h with ⟨rfl,rfl⟩ | ⟨_,h⟩
  .exact R7.lt
  .have:=H.bd _ _ h; omega
end
theorem Jex (w:World) (F5 F6 F7:Nat->Nat->Prop) (u5 u6 u7:Value) (mf:Nat) (lf:Nat->Nat) (fr:Nat->Nat->Int) (ns:Nat) (sm:Nat->Int) (nq:Nat) (rd:Nat->Int) (H5:Bg .i64 w F5 u5 mf lf fr) (H6:Ints .i64 w F6 u6 ns sm) (H7:Ints .i64 w F7 u7 nq rd) :
  Calls prog 49 #[.agg #[u5,u6,u7]] w fun e w'=>∃ v5 v6 v7,e=.returned (.agg #[v5,v6,v7])/\(∃ ob iv ov o6 o7,SA w' w.heap.size v5 mf mf ob iv ov lf fr/\A8 w' w.heap.size o6 v6 ns sm/\A8 w' w.heap.size o7 v7 nq rd/\∃ lo hi:Nat->Nat,(∀ b,(v5.ownBlock=some b\/∃ i,i<mf/\ob i=some b)->lo 0<=b/\b<hi 0)/\(∀ b,o6=some b->lo 1<=b/\b<hi 1)/\(∀ b,o7=some b->lo 2<=b/\b<hi 2)/\(∀ i,i<3->w.heap.size<=lo i/\hi i<=w'.heap.size)/\(∀ i j,i<3->j<3->i≠j->hi i<=lo j\/hi j<=lo i))/\Below w.heap.size w w':=by
 obtain ⟨a5,c5,rfl,-⟩:=id H5;obtain ⟨a6,c6,rfl,-⟩:=id H6;obtain ⟨a7,c7,rfl,-⟩:=id H7;have L0:Below w.heap.size w ((w.alloc (.cells #[.slice a5 mf c5,.slice a6 ns c6,.slice a7 nq c7] 39)).alloc (.cells oZ 39)):=((Below.refl _ _).alloc (Nat.le_refl _) _).alloc (by simp) _;have B0:((w.alloc (.cells #[.slice a5 mf c5,.slice a6 ns c6,.slice a7 nq c7] 39)).alloc (.cells oZ 39)).heap[w.heap.size]?=some (.cells #[.slice a5 mf c5,.slice a6 ns c6,.slice a7 nq c7] 39 (0,0)):=Az (Ak w _ _) _
 have B1:((w.alloc (.cells #[.slice a5 mf c5,.slice a6 ns c6,.slice a7 nq c7] 39)).alloc (.cells oZ 39)).heap[w.heap.size+1]?=some (.cells oZ 39 (0,0)):=by simpa using Ak (w.alloc (.cells #[.slice a5 mf c5,.slice a6 ns c6,.slice a7 nq c7] 39)) oZ 39
 go_enter func49,ntmps49
 go_upto_region 1 with (fail);generalize (w.alloc (.cells #[.slice a5 mf c5,.slice a6 ns c6,.slice a7 nq c7] 39)).alloc (.cells oZ 39)=W0 at *
 obtain ⟨S,hS⟩:∃ S,Hid (S=W0.heap.size):=⟨_,rfl⟩
 have L0s:=Ac L0.size;rename_i KK hKK
 refine Ji [some 3,some 4,some 5,some 6,some 7,some 8,some 9,some 10,some 11,some 12,none] (by kernel_rfl) (by kernel_rfl) (by kernel_rfl) (by kernel_rfl) (by simp [slotsOf])
  (fun j b _=>j=10/\b=w.heap.size+1)
  (fun i V lo hi W=>match i with
   | 0=>V 0=(pt w.heap.size 0)
   | 1=>V 1=.slice a5 mf c5
   | 2=>∃ ob iv ov,SA W lo (V 2) mf mf ob iv ov lf fr/\∀ b,((V 2).ownBlock=some b\/∃ i,i<mf/\ob i=some b)->b<hi
   | 3=>V 3=(pt w.heap.size 1)
   | 4=>V 4=.slice a6 ns c6
   | 5=>∃ o,A8 W lo o (V 5) ns sm/\∀ b,o=some b->b<hi
   | 6=>V 6=(pt w.heap.size 2)
   | 7=>V 7=.slice a7 nq c7
   | 8=>∃ o,A8 W lo o (V 8) nq rd/\∀ b,o=some b->b<hi
   | 9=>V 9=.agg #[V 2,V 5,V 8]
   | _=>W.heap[w.heap.size+1]?=some (.cells #[V 2,V 5,V 8] 39 (0,0))) ?_ ?_ ?_
 .intro i j o V x lo hi W W' hij ho hnw hlo hhi hW h
  have hS':=hS.out;have hb1:=Ad B1
  have far:∀ (g k:Nat),S<=g->¬ (j=10/\g=w.heap.size+1):=fun g k hg hR=>by omega
  have nw:∀ k,A0 o k=true->k≠j:=fun k hk e=>by rw [e,hnw] at hk; cases hk
  match i,ho,hij,nw,h with
  | 0,_,hij,_,h=>exact (Ar V x hij).trans h
  | 1,_,hij,_,h=>exact (Ar V x hij).trans h
  | 3,_,hij,_,h=>exact (Ar V x hij).trans h
  | 4,_,hij,_,h=>exact (Ar V x hij).trans h
  | 6,_,hij,_,h=>exact (Ar V x hij).trans h
  | 7,_,hij,_,h=>exact (Ar V x hij).trans h
  | 2,_,hij,_,⟨ob,iv,ov,h1,h2⟩ =>
   rw [<- Ar V x hij] at h1 h2;exact ⟨ob,iv,ov,h1.keep hW (fun g o hg=>far g o (by have:=Df h1.own hg; omega)) (fun i b o hi hb=>far _ o (by have h3:=h1.rows i hi; rw [hb] at h3; have:=h3.lt.1; omega)),h2⟩
  | 5,_,hij,_,⟨o6,h1,h2⟩ =>
   rw [<- Ar V x hij] at h1;exact ⟨o6,h1.keep hW (fun b hb h3 _ k=>far b k (by omega)),h2⟩
  | 8,_,hij,_,⟨o7,h1,h2⟩ =>
   rw [<- Ar V x hij] at h1;exact ⟨o7,h1.keep hW (fun b hb h3 _ k=>far b k (by omega)),h2⟩
  | 9,ho,hij,nw,h =>
   cases ho
   show Dg V j x 9=.agg #[Dg V j x 2,Dg V j x 5,Dg V j x 8]
   rw [Ar V x hij,Ar V x (nw 2 (by kernel_rfl)),Ar V x (nw 5 (by kernel_rfl)),Ar V x (nw 8 (by kernel_rfl))];exact h
  | 10,ho,hij,nw,h =>
   cases ho
   show W'.heap[w.heap.size+1]?=some (.cells #[Dg V j x 2,Dg V j x 5,Dg V j x 8] 39 (0,0))
   rw [Ar V x (nw 2 (by kernel_rfl)),Ar V x (nw 5 (by kernel_rfl)),Ar V x (nw 8 (by kernel_rfl))];exact Al h hW (fun o ⟨e,_⟩=>hij e.symm)
  | n+11,ho,_,_,_=>simp at ho
 .intro i o a' W K ho F L hw hK
  have hS':=hS.out;have t1:=F.get (t:=1) (v:=(pt w.heap.size 0)) (by decide) rfl;have t2:=F.get (t:=2) (v:=(pt (w.heap.size+1) 0)) (by decide) rfl;have LW:Below w.heap.size w W:=L0.trans (L.below L0.size (fun b o hb ⟨j,_,_,_,_,h⟩=>by omega))
  have WS:S<=W.heap.size:=by have:=L.size; omega
  match i with
  | 0 =>
   cases ho;go_simp;exact Hk hK (Ai _ _ _)
  | 1 =>
   cases ho;obtain ⟨_,_,_,_,q0⟩:=Hr hw 0;replace q0:a'.tmps[3]?.getD undef=(pt w.heap.size 0):=q0;have rb:=Af (Al B0 L (fun k ⟨j,oj,hj,hoj,hwj,hR⟩=>by omega));go_simp;exact Hk hK (Ai _ _ _)
  | 2 =>
   cases ho;obtain ⟨_,_,_,_,q1⟩:=Hr hw 1;replace q1:a'.tmps[4]?.getD undef=.slice a5 mf c5:=q1;go_simp;refine (Q3 W _ _ mf lf fr (H5.keep (Aa LW Aj) (fun _ _ _ x=>x))).mono ?_;rintro e W' ⟨v5,ob,iv,ov,rfl,hG,hB⟩;refine hK _ _ (Aa hB _) ?_
   show ∃ ob iv ov,SA W' W.heap.size (Dg _ 2 v5 2) mf mf ob iv ov lf fr/\_
   rw [Ai]
   exact ⟨ob,iv,ov,hG,fun b h=>by
    rcases h with h | ⟨i,hi,hb⟩
    .exact (Df hG.own h).2
    .have h3:=hG.rows i hi
     rw [hb] at h3
     exact h3.lt.2⟩
  | 3 =>
   cases ho;go_simp;exact Hk hK (Ai _ _ _)
  | 4 =>
   cases ho;obtain ⟨_,_,_,_,q3⟩:=Hr hw 3;replace q3:a'.tmps[6]?.getD undef=(pt w.heap.size 1):=q3;have rb:=Af (Al B0 L (fun k ⟨j,oj,hj,hoj,hwj,hR⟩=>by omega));go_simp;exact Hk hK (Ai _ _ _)
  | 5 =>
   cases ho;obtain ⟨_,_,_,_,q4⟩:=Hr hw 4;replace q4:a'.tmps[7]?.getD undef=.slice a6 ns c6:=q4;go_simp;refine (Hy W _ _ ns sm (H6.keep (Aa LW Aj) (fun _ _ _ x=>x))).mono ?_;rintro e W' ⟨v6,o6,rfl,hR,hB⟩;refine hK _ _ (Aa hB _) ?_
   show ∃ o,A8 W' W.heap.size o (Dg _ 5 v6 5) ns sm/\_
   rw [Ai];exact ⟨o6,hR,fun b hb=>by subst hb; exact hR.lt.2⟩
  | 6 =>
   cases ho;go_simp;exact Hk hK (Ai _ _ _)
  | 7 =>
   cases ho;obtain ⟨_,_,_,_,q6⟩:=Hr hw 6;replace q6:a'.tmps[9]?.getD undef=(pt w.heap.size 2):=q6;have rb:=Af (Al B0 L (fun k ⟨j,oj,hj,hoj,hwj,hR⟩=>by omega));go_simp;exact Hk hK (Ai _ _ _)
  | 8 =>
   cases ho;obtain ⟨_,_,_,_,q7⟩:=Hr hw 7;replace q7:a'.tmps[10]?.getD undef=.slice a7 nq c7:=q7;go_simp;refine (Hy W _ _ nq rd (H7.keep (Aa LW Aj) (fun _ _ _ x=>x))).mono ?_;rintro e W' ⟨v6,o6,rfl,hR,hB⟩;refine hK _ _ (Aa hB _) ?_
   show ∃ o,A8 W' W.heap.size o (Dg _ 8 v6 8) nq rd/\_
   rw [Ai];exact ⟨o6,hR,fun b hb=>by subst hb; exact hR.lt.2⟩
  | 9 =>
   cases ho;obtain ⟨_,_,_,_,ob,iv,ov,q2,_⟩:=Hr hw 2;obtain ⟨x5,y5,e2⟩:=q2.form;obtain ⟨_,_,_,_,o6,q5,_⟩:=Hr hw 5;obtain ⟨x6,y6,e5⟩:=q5.form;obtain ⟨_,_,_,_,o7,q8,_⟩:=Hr hw 8;obtain ⟨x7,y7,e8⟩:=q8.form;have t5:a'.tmps[5]?.getD undef=.slice x5 mf y5:=e2;have t8:a'.tmps[8]?.getD undef=.slice x6 ns y6:=e5;have t11:a'.tmps[11]?.getD undef=.slice x7 nq y7:=e8;go_simp;refine Hk hK ?_
   show Dg (Bi [some 3,some 4,some 5,some 6,some 7,some 8,some 9,some 10,some 11,some 12,none] a') 9 _ 9=.agg #[Dg (Bi [some 3,some 4,some 5,some 6,some 7,some 8,some 9,some 10,some 11,some 12,none] a') 9 _ 2,Dg (Bi [some 3,some 4,some 5,some 6,some 7,some 8,some 9,some 10,some 11,some 12,none] a') 9 _ 5,Dg (Bi [some 3,some 4,some 5,some 6,some 7,some 8,some 9,some 10,some 11,some 12,none] a') 9 _ 8]
   rw [Ai,Ar _ _ (by decide),Ar _ _ (by decide),Ar _ _ (by decide),e2,e5,e8]
   rfl
  | 10 =>
   cases ho;obtain ⟨_,_,_,_,ob,iv,ov,q2,_⟩:=Hr hw 2;obtain ⟨x5,y5,e2⟩:=q2.form;obtain ⟨_,_,_,_,o6,q5,_⟩:=Hr hw 5;obtain ⟨x6,y6,e5⟩:=q5.form;obtain ⟨_,_,_,_,o7,q8,_⟩:=Hr hw 8;obtain ⟨x7,y7,e8⟩:=q8.form;have t5:a'.tmps[5]?.getD undef=.slice x5 mf y5:=e2;have t8:a'.tmps[8]?.getD undef=.slice x6 ns y6:=e5;have t11:a'.tmps[11]?.getD undef=.slice x7 nq y7:=e8;obtain ⟨_,_,_,_,q9⟩:=Hr hw 9
   replace q9:a'.tmps[12]?.getD undef=.agg #[.slice x5 mf y5,.slice x6 ns y6,.slice x7 nq y7]:=by
    have:=q9;rw [e2,e5,e8] at this;exact this
   have rb:=Al B1 L (fun k ⟨j,oj,hj,hoj,hwj,hR⟩=>hj hR.1);have c0':=Af rb;have f0':=Au rb;have HB:=Am (o:=2) (Am (o:=1) (Am (o:=0) rb (.slice x5 mf y5)) (.slice x6 ns y6)) (.slice x7 nq y7);simp only [Sa,Sb,Sc] at HB;have HBB:=Ac HB;clear HB rb B0 B1;go_simp;refine hK undef _ (Wrote.setCell (Wrote.setCell (Wrote.setCell (Wrote.refl _ W) (fun _=>⟨rfl,rfl⟩) _) (fun _=>⟨rfl,rfl⟩) _) (fun _=>⟨rfl,rfl⟩) _) ?_;have n2:=Ar (Bi [some 3,some 4,some 5,some 6,some 7,some 8,some 9,some 10,some 11,some 12,none] a') (i:=10) (k:=2) undef (by decide);have n5:=Ar (Bi [some 3,some 4,some 5,some 6,some 7,some 8,some 9,some 10,some 11,some 12,none] a') (i:=10) (k:=5) undef (by decide)
   have n8:=Ar (Bi [some 3,some 4,some 5,some 6,some 7,some 8,some 9,some 10,some 11,some 12,none] a') (i:=10) (k:=8) undef (by decide);rw [e2] at n2;rw [e5] at n5;rw [e8] at n8
   show (_:World).heap[w.heap.size+1]?=some (.cells #[Dg (Bi [some 3,some 4,some 5,some 6,some 7,some 8,some 9,some 10,some 11,some 12,none] a') 10 undef 2,Dg (Bi [some 3,some 4,some 5,some 6,some 7,some 8,some 9,some 10,some 11,some 12,none] a') 10 undef 5,Dg (Bi [some 3,some 4,some 5,some 6,some 7,some 8,some 9,some 10,some 11,some 12,none] a') 10 undef 8] 39 (0,0))
   rw [n2,n5,n8];exact HBB.out
  | n+11=>simp at ho
 .intro a' W F L lo hi hφ hdj
  have hS':=hS.out;have hb1:=Ad B1;obtain ⟨b2a,b2b,b2c,ob,iv,ov,G5,G5h⟩:=Hd hφ 2;obtain ⟨b5a,b5b,b5c,o6,G6,G6h⟩:=Hd hφ 5;obtain ⟨b8a,b8b,b8c,o7,G7,G7h⟩:=Hd hφ 8;obtain ⟨-,-,-,BX⟩:=Hd hφ 10;have d1:=hdj 2 5 (by decide) (by decide) (by decide);have d2:=hdj 2 8 (by decide) (by decide) (by decide);have d3:=hdj 5 8 (by decide) (by decide) (by decide);obtain ⟨x5,y5,e2⟩:=G5.form;obtain ⟨x6,y6,e5⟩:=G6.form;obtain ⟨x7,y7,e8⟩:=G7.form;rw [e2] at G5 G5h;rw [e5] at G6;rw [e8] at G7
  replace BX:W.heap[w.heap.size+1]?=some (.cells #[.slice x5 mf y5,.slice x6 ns y6,.slice x7 nq y7] 39 (0,0)):=by
   have:=BX;simp only [e2,e5,e8] at this;exact this
  have LW:Below w.heap.size w W:=L0.trans (L.below L0.size (fun b o hb ⟨j,h⟩=>by omega));have HR:=Ac (And.intro G5 (And.intro G6 G7));have HH:=Ac (And.intro G5h (And.intro G6h G7h));have HD:=Ac (And.intro d1 (And.intro d2 d3));rw [F.same,show slotsOf [some 3,some 4,some 5,some 6,some 7,some 8,some 9,some 10,some 11,some 12,none]=[3,4,5,6,7,8,9,10,11,12] from rfl];simp only [List.foldl_cons,List.foldl_nil];clear hφ hdj e2 e5 e8 F L B0 B1 H5 H6 H7 L0 G5 G6 G7 G5h G6h G7h d1 d2 d3;generalize a'.tmps[3]?.getD undef=s3;generalize a'.tmps[4]?.getD undef=s4;generalize a'.tmps[5]?.getD undef=s5;generalize a'.tmps[6]?.getD undef=s6;generalize a'.tmps[7]?.getD undef=s7;generalize a'.tmps[8]?.getD undef=s8;generalize a'.tmps[9]?.getD undef=s9;generalize a'.tmps[10]?.getD undef=s10;generalize a'.tmps[11]?.getD undef=s11
  generalize a'.tmps[12]?.getD undef=s12;refine hKK _ _ ?_;clear hKK;go_simp;have cx:=Af BX;go_wp2;refine bodyPost_ret (v:=.agg #[.slice x5 mf y5,.slice x6 ns y6,.slice x7 nq y7]) (by simp [results,results49,go_sem,cx]) rfl ?_;obtain ⟨G5,G6,G7⟩:=HR.out;obtain ⟨G5h,G6h,G7h⟩:=HH.out;obtain ⟨d1,d2,d3⟩:=HD.out;have hz:=L0s.out;refine ⟨_,_,_,rfl,⟨ob,iv,ov,o6,o7,G5.mono (by omega),G6.mono (by omega),G7.mono (by omega),fun i=>if i=0 then lo 2 else if i=1 then lo 5 else lo 8,fun i=>if i=0 then hi 2 else if i=1 then hi 5 else hi 8,fun b hb=>⟨?_,G5h b hb⟩,fun b hb=>⟨by subst hb; exact G6.lt.1,G6h b hb⟩,fun b hb=>⟨by subst hb; exact G7.lt.1,G7h b hb⟩,?_,?_⟩,LW⟩
  .rcases hb with hb | ⟨i,hi',hb⟩
   .exact (Df G5.own hb).1
   .have h3:=G5.rows i hi'
    rw [hb] at h3;exact h3.lt.1
  .intro i hi'
   match i,hi' with
   | 0,_=>exact ⟨Nat.le_trans hz b2a,b2c⟩
   | 1,_=>exact ⟨Nat.le_trans hz b5a,b5c⟩
   | 2,_=>exact ⟨Nat.le_trans hz b8a,b8c⟩
  .intro i j hi' hj' hij
   match i,j,hi',hj',hij with
   | 0,0,_,_,h=>exact absurd rfl h
   | 1,1,_,_,h=>exact absurd rfl h
   | 2,2,_,_,h=>exact absurd rfl h
   | 0,1,_,_,_=>exact d1
   | 0,2,_,_,_=>exact d2
   | 1,2,_,_,_=>exact d3
   | 1,0,_,_,_=>exact d1.symm
   | 2,0,_,_,_=>exact d2.symm
   | 2,1,_,_,_=>exact d3.symm
structure Ot (W:World) (lo:Nat) (v:Value) (d:Aq):Prop where
 ex:∃ D u0 u1 u2 u3 u4 u5 u6 u7 ob iv ov o6 o7,v=.agg (kR d u0 u1 u2 u3 u4 u5 u6 u7)/\B7 W lo W.heap.size D u0 u1 u2 u3 u4 u5 u6 u7 ob iv ov o6 o7 d
theorem Jcx (w:World) (D:Nat->Nat->Prop) (v:Value) (d:Aq) (H:Aw w D v d):Calls prog 15 #[v] w fun e w'=>∃ v',e=.returned v'/\Ot w' w.heap.size v' d/\Below w.heap.size w w':=by
 obtain ⟨u0,u1,u2,u3,u4,u5,u6,u7,rfl,h0,h1,h2,h3,h4⟩:=H;obtain ⟨v5,v6,v7,hv,h5,h6,h7⟩:=h4;simp only [Value.agg.injEq,Array.mk.injEq,List.cons.injEq,and_true] at hv;obtain ⟨rfl,rfl,rfl⟩:=hv;obtain ⟨y2,hy2,H2⟩:=h2.ints;simp only [Value.agg.injEq,Array.mk.injEq,List.cons.injEq,and_true] at hy2;subst hy2;obtain ⟨y3,y4,hy3,H3,H4⟩:=h3.ints;simp only [Value.agg.injEq,Array.mk.injEq,List.cons.injEq,and_true,true_and] at hy3;obtain ⟨rfl,rfl⟩:=hy3;have H0:=h0.ints;have H5:=h5.ints;obtain ⟨a6,c6,e6,s6⟩:=id h6;obtain ⟨a7,c7,e7,s7⟩:=id h7;obtain ⟨a1,c1,e1,s1⟩:=id h1;subst e6;subst e7;subst e1;have H1:=s1.ints c1;have H6:=s6.ints c6;have H7:=s7.ints c7;obtain ⟨a0,c0,rfl,-⟩:=id H0;obtain ⟨a5,c5,rfl,-⟩:=id H5;obtain ⟨a2,c2,rfl,-⟩:=id H2;obtain ⟨a3,c3,rfl,-⟩:=id H3;obtain ⟨a4,c4,rfl,-⟩:=id H4
 have hps:=h5.small;have hps0:=h0.small;clear h0 h1 h2 h3 h5 h6 h7 s1 s6 s7;have L0:Below w.heap.size w ((w.alloc (.cells (kR d (.slice a0 d.m c0) (.slice a1 d.np c1) (.slice a2 d.nr c2) (.slice a3 d.nt c3) (.slice a4 d.nd c4) (.slice a5 d.mf c5) (.slice a6 d.ns c6) (.slice a7 d.nq c7)) 41)).alloc (.cells zR 41)):=((Below.refl _ _).alloc (Nat.le_refl _) _).alloc (by simp) _;have B0:((w.alloc (.cells (kR d (.slice a0 d.m c0) (.slice a1 d.np c1) (.slice a2 d.nr c2) (.slice a3 d.nt c3) (.slice a4 d.nd c4) (.slice a5 d.mf c5) (.slice a6 d.ns c6) (.slice a7 d.nq c7)) 41)).alloc (.cells zR 41)).heap[w.heap.size]?=some (.cells (kR d (.slice a0 d.m c0) (.slice a1 d.np c1) (.slice a2 d.nr c2) (.slice a3 d.nt c3) (.slice a4 d.nd c4) (.slice a5 d.mf c5) (.slice a6 d.ns c6) (.slice a7 d.nq c7)) 41 (0,0)):=Az (Ak w _ _) _
 have B1:((w.alloc (.cells (kR d (.slice a0 d.m c0) (.slice a1 d.np c1) (.slice a2 d.nr c2) (.slice a3 d.nt c3) (.slice a4 d.nd c4) (.slice a5 d.mf c5) (.slice a6 d.ns c6) (.slice a7 d.nq c7)) 41)).alloc (.cells zR 41)).heap[w.heap.size+1]?=some (.cells zR 41 (0,0)):=by simpa using Ak (w.alloc (.cells (kR d (.slice a0 d.m c0) (.slice a1 d.np c1) (.slice a2 d.nr c2) (.slice a3 d.nt c3) (.slice a4 d.nd c4) (.slice a5 d.mf c5) (.slice a6 d.ns c6) (.slice a7 d.nq c7)) 41)) zR 41
 go_enter func15,ntmps15
 go_upto_region 1 with (fail);generalize (w.alloc (.cells (kR d (.slice a0 d.m c0) (.slice a1 d.np c1) (.slice a2 d.nr c2) (.slice a3 d.nt c3) (.slice a4 d.nd c4) (.slice a5 d.mf c5) (.slice a6 d.ns c6) (.slice a7 d.nq c7)) 41)).alloc (.cells zR 41)=W0 at *
 obtain ⟨p0,hp0⟩:∃ p,Hid (p=W0.heap.size):=⟨_,rfl⟩
 have l0:w.heap.size+1<p0:=by rw [hp0.out]; exact Ad B1
 have c0':=Af B0;go_wp2_with fail;clear c0';refine (Jal _ _ _ d.m d.ln d.f (H0.keep (Aa L0 Aj) (fun _ _ _ x=>x))).mono ?_;rintro e W1 ⟨v0,ob0,iv0,ov0,rfl,G0',L⟩
 obtain ⟨p1,hp1⟩:∃ p,Hid (p=W1.heap.size):=⟨_,rfl⟩
 have l1:p0<=p1:=by rw [hp0.out,hp1.out]; exact L.size
 have G0:Cu W1 (fun b=>p0<=b/\b<p1) v0 d.m d.ln d.f:=G0'.onD (fun b hb=>by
  rw [hp0.out,hp1.out]
  rcases hb with hb | ⟨i,hi,hb⟩
  .exact Df G0'.own hb
  .have h3:=G0'.rows i hi
   rw [hb] at h3
   exact h3.lt) hps0
 clear G0';replace L0:=Ah L0 L;replace B0:=Ab B0 L (Ad B0);replace B1:=Ab B1 L (Ad B1);clear L hp0;obtain ⟨x0,y0,rfl⟩:=G0.form;have c0':=Af B0;have f0':=Au B0;go_upto_region 2 with (fail);clear c0' f0';have TT:=Wrote.setCell (b:=w.heap.size) (o:=0) (R:=fun b _=>b=w.heap.size) (Wrote.refl _ W1) (fun _=>rfl) (.slice x0 d.m y0);replace L0:=L0.trans (TT.below L0.size (fun b o hb (h:b=_)=>by omega));replace B1:=Al B1 TT (fun o (h:_=_)=>by omega);replace B0:=Am (o:=0) B0 (.slice x0 d.m y0);simp only [Sa,Sb,Sc] at B0;replace G0:=G0.keep TT (fun b o hb _ (h:b=_)=>by obtain ⟨h1,h2⟩:=hb; omega)
 replace hp1:Hid (p1=(W1.setCell ⟨w.heap.size,0,none⟩ (.slice x0 d.m y0)).heap.size):=by show _=_; rw [hp1.out]; simp
 clear TT;generalize W1.setCell ⟨w.heap.size,0,none⟩ (.slice x0 d.m y0)=W2 at *;have c0':=Af B0;go_wp2_with fail;clear c0';refine (Hy _ _ _ d.np d.p (H1.keep (Aa L0 Aj) (fun _ _ _ x=>x))).mono ?_;rintro e W3 ⟨v1,o1,rfl,G1',L⟩
 obtain ⟨p2,hp2⟩:∃ p,Hid (p=W3.heap.size):=⟨_,rfl⟩
 have l2:p1<=p2:=by rw [hp1.out,hp2.out]; exact L.size
 have G1:Bs W3 (fun b=>p1<=b/\b<p2) v1 d.np d.p:=G1'.listOn (fun b hb=>by subst hb; rw [hp1.out,hp2.out]; exact G1'.lt);clear G1';replace L0:=Ah L0 L;replace B0:=Ab B0 L (Ad B0);replace B1:=Ab B1 L (Ad B1);replace G0:=G0.below L;clear L hp1;obtain ⟨x1,y1,e1,-⟩:=id G1;subst e1;have c0':=Af B0;have f0':=Au B0;go_upto_region 3 with (fail);clear c0' f0';have TT:=Wrote.setCell (b:=w.heap.size) (o:=1) (R:=fun b _=>b=w.heap.size) (Wrote.refl _ W3) (fun _=>rfl) (.slice x1 d.np y1);replace L0:=L0.trans (TT.below L0.size (fun b o hb (h:b=_)=>by omega));replace B1:=Al B1 TT (fun o (h:_=_)=>by omega);replace B0:=Am (o:=1) B0 (.slice x1 d.np y1);simp only [Sa,Sb,Sc] at B0;replace G0:=G0.keep TT (fun b o hb _ (h:b=_)=>by obtain ⟨h1,h2⟩:=hb; omega)
 replace G1:=G1.keep TT (fun b o hb _ (h:b=_)=>by obtain ⟨h1,h2⟩:=hb; omega)
 replace hp2:Hid (p2=(W3.setCell ⟨w.heap.size,1,none⟩ (.slice x1 d.np y1)).heap.size):=by show _=_; rw [hp2.out]; simp
 clear TT;generalize W3.setCell ⟨w.heap.size,1,none⟩ (.slice x1 d.np y1)=W4 at *;have c0':=Af B0;go_wp2_with fail;clear c0';refine (Kv _ _ _ d.nr d.g d.bank (H2.keep (Aa L0 Aj) (fun _ _ _ x=>x))).mono ?_;rintro e W5 ⟨v2,rfl,G2,L⟩
 obtain ⟨p3,hp3⟩:∃ p,Hid (p=W5.heap.size):=⟨_,rfl⟩
 have l3:p2<=p3:=by rw [hp2.out,hp3.out]; exact L.size
 replace G2:=(Bw.own (bank:=d.bank) G2).mono (E:=fun b=>p2<=b/\b<p3) (fun b hb h=>⟨by rw [hp2.out]; exact h,by rw [hp3.out]; exact hb⟩);replace L0:=Ah L0 L;replace B0:=Ab B0 L (Ad B0);replace B1:=Ab B1 L (Ad B1);replace G0:=G0.below L;replace G1:=G1.below L;clear L hp2;obtain ⟨x2,y2,hx2⟩:=G2.two;simp only [Value.agg.injEq,Array.mk.injEq,List.cons.injEq,and_true] at hx2;subst hx2;have c0':=Af B0;have f0':=Au B0;go_upto_region 4 with (fail);clear c0' f0';have TT:=Wrote.setCell (b:=w.heap.size) (o:=3) (R:=fun b _=>b=w.heap.size) (Wrote.setCell (b:=w.heap.size) (o:=2) (R:=fun b _=>b=w.heap.size) (Wrote.refl _ W5) (fun _=>rfl) (.slice x2 d.nr y2)) (fun _=>rfl) (.i d.bank);replace L0:=L0.trans (TT.below L0.size (fun b o hb (h:b=_)=>by omega))
 replace B1:=Al B1 TT (fun o (h:_=_)=>by omega);replace B0:=Am (o:=2) B0 (.slice x2 d.nr y2);replace B0:=Am (o:=3) B0 (.i d.bank);simp only [Sa,Sb,Sc] at B0;replace G0:=G0.keep TT (fun b o hb _ (h:b=_)=>by obtain ⟨h1,h2⟩:=hb; omega);replace G1:=G1.keep TT (fun b o hb _ (h:b=_)=>by obtain ⟨h1,h2⟩:=hb; omega);replace G2:=G2.keep TT (fun b o hb _ (h:b=_)=>by obtain ⟨h1,h2⟩:=hb; omega)
 replace hp3:Hid (p3=((W5.setCell ⟨w.heap.size,2,none⟩ (.slice x2 d.nr y2)).setCell ⟨w.heap.size,3,none⟩ (.i d.bank)).heap.size):=by show _=_; rw [hp3.out]; simp
 clear TT;generalize (W5.setCell ⟨w.heap.size,2,none⟩ (.slice x2 d.nr y2)).setCell ⟨w.heap.size,3,none⟩ (.i d.bank)=W6 at *;have c0':=Af B0;go_wp2_with fail;clear c0';refine (Sm _ _ _ d.t d.c d.s d.ad d.pl d.bl _ _ d.nt d.tb d.nd d.dt (H3.keep (Aa L0 Aj) (fun _ _ _ x=>x)) (H4.keep (Aa L0 Aj) (fun _ _ _ x=>x))).mono ?_;rintro e W7 ⟨v3,v4,o3,o4,rfl,R3,R4,n34,L⟩;obtain ⟨x3,y3,e3⟩:=R3.form;obtain ⟨x4,y4,e4⟩:=R4.form;subst e3;subst e4
 obtain ⟨p4,hp4⟩:∃ p,Hid (p=W7.heap.size):=⟨_,rfl⟩
 have l4:p3<=p4:=by rw [hp3.out,hp4.out]; exact L.size
 have G3:Cx W7 w.heap.size (fun b=>p3<=b/\b<p4) (.agg (pR d.t d.c d.s d.ad d.pl d.bl (.slice x3 d.nt y3) (.slice x4 d.nd y4))) d.t d.c d.s d.ad d.pl d.bl d.nt d.tb d.nd d.dt:=((Jh R3 R4 n34 (Nat.le_refl _)).mono (fun b hb h=>⟨by rw [hp3.out]; exact h,by rw [hp4.out]; exact hb⟩)).lower L0.size;clear R3 R4 n34;replace L0:=Ah L0 L;replace B0:=Ab B0 L (Ad B0);replace B1:=Ab B1 L (Ad B1);replace G0:=G0.below L;replace G1:=G1.below L;replace G2:=G2.below L;clear L hp3;have c0':=Af B0;have f0':=Au B0;go_upto_region 5 with (fail);clear c0' f0'
 have TT:=Wrote.setCell (b:=w.heap.size) (o:=19) (R:=fun b _=>b=w.heap.size) (Wrote.setCell (b:=w.heap.size) (o:=18) (R:=fun b _=>b=w.heap.size) (Wrote.setCell (b:=w.heap.size) (o:=17) (R:=fun b _=>b=w.heap.size) (Wrote.setCell (b:=w.heap.size) (o:=16) (R:=fun b _=>b=w.heap.size) (Wrote.setCell (b:=w.heap.size) (o:=15) (R:=fun b _=>b=w.heap.size) (Wrote.setCell (b:=w.heap.size) (o:=14) (R:=fun b _=>b=w.heap.size) (Wrote.setCell (b:=w.heap.size) (o:=13) (R:=fun b _=>b=w.heap.size) (Wrote.setCell (b:=w.heap.size) (o:=12) (R:=fun b _=>b=w.heap.size) (Wrote.refl _ W7) (fun _=>rfl) (.i d.t)) (fun _=>rfl) (.i d.c)) (fun _=>rfl) (.i d.s)) (fun _=>rfl) (.i d.ad)) (fun _=>rfl) (.i d.pl)) (fun _=>rfl) (.bool d.bl)) (fun _=>rfl) (.slice x3 d.nt y3)) (fun _=>rfl) (.slice x4 d.nd y4)
 replace L0:=L0.trans (TT.below L0.size (fun b o hb (h:b=_)=>by omega));replace B1:=Al B1 TT (fun o (h:_=_)=>by omega);replace B0:=Am (o:=12) B0 (.i d.t);replace B0:=Am (o:=13) B0 (.i d.c);replace B0:=Am (o:=14) B0 (.i d.s);replace B0:=Am (o:=15) B0 (.i d.ad);replace B0:=Am (o:=16) B0 (.i d.pl);replace B0:=Am (o:=17) B0 (.bool d.bl);replace B0:=Am (o:=18) B0 (.slice x3 d.nt y3);replace B0:=Am (o:=19) B0 (.slice x4 d.nd y4);simp only [Sa,Sb,Sc] at B0;replace G0:=G0.keep TT (fun b o hb _ (h:b=_)=>by obtain ⟨h1,h2⟩:=hb; omega);replace G1:=G1.keep TT (fun b o hb _ (h:b=_)=>by obtain ⟨h1,h2⟩:=hb; omega);replace G2:=G2.keep TT (fun b o hb _ (h:b=_)=>by obtain ⟨h1,h2⟩:=hb; omega);replace G3:=G3.keep TT (fun b o hb _ (h:b=_)=>by obtain ⟨h1,h2⟩:=hb; omega)
 replace hp4:Hid (p4=((((((((W7.setCell ⟨w.heap.size,12,none⟩ (.i d.t)).setCell ⟨w.heap.size,13,none⟩ (.i d.c)).setCell ⟨w.heap.size,14,none⟩ (.i d.s)).setCell ⟨w.heap.size,15,none⟩ (.i d.ad)).setCell ⟨w.heap.size,16,none⟩ (.i d.pl)).setCell ⟨w.heap.size,17,none⟩ (.bool d.bl)).setCell ⟨w.heap.size,18,none⟩ (.slice x3 d.nt y3)).setCell ⟨w.heap.size,19,none⟩ (.slice x4 d.nd y4)).heap.size):=by show _=_; rw [hp4.out]; simp
 clear TT;generalize (((((((W7.setCell ⟨w.heap.size,12,none⟩ (.i d.t)).setCell ⟨w.heap.size,13,none⟩ (.i d.c)).setCell ⟨w.heap.size,14,none⟩ (.i d.s)).setCell ⟨w.heap.size,15,none⟩ (.i d.ad)).setCell ⟨w.heap.size,16,none⟩ (.i d.pl)).setCell ⟨w.heap.size,17,none⟩ (.bool d.bl)).setCell ⟨w.heap.size,18,none⟩ (.slice x3 d.nt y3)).setCell ⟨w.heap.size,19,none⟩ (.slice x4 d.nd y4)=W8 at *;have c0':=Af B0;go_wp2_with fail;clear c0';refine (Jex _ _ _ _ _ _ _ d.mf d.lf d.fr d.ns d.sm d.nq d.rd (H5.keep (Aa L0 Aj) (fun _ _ _ x=>x)) (H6.keep (Aa L0 Aj) (fun _ _ _ x=>x)) (H7.keep (Aa L0 Aj) (fun _ _ _ x=>x))).mono ?_;rintro e W9 ⟨v5,v6,v7,rfl,⟨ob,iv,ov,o6,o7,G5,G6,G7,lo,hi,hb5,hb6,hb7,hbd,hdj⟩,L⟩;obtain ⟨x5,y5,e5⟩:=G5.form;obtain ⟨x6,y6,e6⟩:=G6.form;obtain ⟨x7,y7,e7⟩:=G7.form;subst e5;subst e6
 subst e7;have hB0:=hbd 0 (by decide);have hB1:=hbd 1 (by decide);have hB2:=hbd 2 (by decide);have hd01:=hdj 0 1 (by decide) (by decide) (by decide);have hd02:=hdj 0 2 (by decide) (by decide) (by decide);have hd12:=hdj 1 2 (by decide) (by decide) (by decide);clear hbd hdj;rw [<- hp4.out] at hB0 hB1 hB2 G5 G6 G7;have HD5:=Ac hb5;have HD6:=Ac hb6;have HD7:=Ac hb7;clear hb5 hb6 hb7
 obtain ⟨p5,hp5⟩:∃ p,Hid (p=W9.heap.size):=⟨_,rfl⟩
 have l5:p4<=p5:=by rw [hp4.out,hp5.out]; exact L.size
 rw [<- hp5.out] at hB0 hB1 hB2;replace L0:=Ah L0 L;replace B0:=Ab B0 L (Ad B0);replace B1:=Ab B1 L (Ad B1);replace G0:=G0.below L;replace G1:=G1.below L;replace G2:=G2.below L;replace G3:=G3.below L;clear L hp4;have c0':=Af B0;have f0':=Au B0;go_upto_region 6 with (fail);clear c0' f0';have TT:=Wrote.setCell (b:=w.heap.size) (o:=33) (R:=fun b _=>b=w.heap.size) (Wrote.setCell (b:=w.heap.size) (o:=32) (R:=fun b _=>b=w.heap.size) (Wrote.setCell (b:=w.heap.size) (o:=31) (R:=fun b _=>b=w.heap.size) (Wrote.refl _ W9) (fun _=>rfl) (.slice x5 d.mf y5)) (fun _=>rfl) (.slice x6 d.ns y6)) (fun _=>rfl) (.slice x7 d.nq y7);replace L0:=L0.trans (TT.below L0.size (fun b o hb (h:b=_)=>by omega));replace B1:=Al B1 TT (fun o (h:_=_)=>by omega);replace B0:=Am (o:=31) B0 (.slice x5 d.mf y5)
 replace B0:=Am (o:=32) B0 (.slice x6 d.ns y6);replace B0:=Am (o:=33) B0 (.slice x7 d.nq y7);simp only [Sa,Sb,Sc] at B0;replace G0:=G0.keep TT (fun b o hb _ (h:b=_)=>by obtain ⟨h1,h2⟩:=hb; omega);replace G1:=G1.keep TT (fun b o hb _ (h:b=_)=>by obtain ⟨h1,h2⟩:=hb; omega);replace G2:=G2.keep TT (fun b o hb _ (h:b=_)=>by obtain ⟨h1,h2⟩:=hb; omega);replace G3:=G3.keep TT (fun b o hb _ (h:b=_)=>by obtain ⟨h1,h2⟩:=hb; omega);replace G5:=G5.keep TT (fun g o hg (h:g=_)=>by have:=Df G5.own hg; omega) (fun i b o hi hb (h:b=_)=>by have h3:=G5.rows i hi; rw [hb] at h3; have:=h3.lt.1; omega);replace G6:=G6.keep TT (fun b hb h3 _ k (h:b=_)=>by omega);replace G7:=G7.keep TT (fun b hb h3 _ k (h:b=_)=>by omega)
 replace hp5:Hid (p5=(((W9.setCell ⟨w.heap.size,31,none⟩ (.slice x5 d.mf y5)).setCell ⟨w.heap.size,32,none⟩ (.slice x6 d.ns y6)).setCell ⟨w.heap.size,33,none⟩ (.slice x7 d.nq y7)).heap.size):=by show _=_; rw [hp5.out]; simp
 clear TT;generalize ((W9.setCell ⟨w.heap.size,31,none⟩ (.slice x5 d.mf y5)).setCell ⟨w.heap.size,32,none⟩ (.slice x6 d.ns y6)).setCell ⟨w.heap.size,33,none⟩ (.slice x7 d.nq y7)=W10 at *;have HR:=Ac (And.intro G0 (And.intro G1 (And.intro G2 (And.intro G3 (And.intro G5 (And.intro G6 G7))))));have HX:=Ac (And.intro hB0 (And.intro hB1 (And.intro hB2 (And.intro hd01 (And.intro hd02 hd12)))));have HL:=Ac (And.intro l0 (And.intro l1 (And.intro l2 (And.intro l3 (And.intro l4 l5)))));clear G0 G1 G2 G3 G5 G6 G7 hB0 hB1 hB2 hd01 hd02 hd12 l0 l1 l2 l3 l4 l5 H0 H1 H2 H3 H4 H5 H6 H7;rename_i K2 hK2;refine wp_region_lit ?_;refine wpList_load_row rfl _ _ rfl w.heap.size rfl _ _ _ _ B0 underlying41 rfl An ?_;refine wpList_store_row rfl _ _ _ rfl (w.heap.size+1) _ rfl rfl _ _ B1 An rfl (by first | kernel_rfl | simp [Value.oneCell']) ?_;refine hK2 _ _ ?_
 have B3:=setRow_heap _ _ _ (kR d (.slice x0 d.m y0) (.slice x1 d.np y1) (.slice x2 d.nr y2) (.slice x3 d.nt y3) (.slice x4 d.nd y4) (.slice x5 d.mf y5) (.slice x6 d.ns y6) (.slice x7 d.nq y7)) _ _ B1;have WW:=As B1 (kR d (.slice x0 d.m y0) (.slice x1 d.np y1) (.slice x2 d.nr y2) (.slice x3 d.nt y3) (.slice x4 d.nd y4) (.slice x5 d.mf y5) (.slice x6 d.ns y6) (.slice x7 d.nq y7));clear B0 B1;go_wp2;refine bodyPost_ret (v:=.agg (kR d (.slice x0 d.m y0) (.slice x1 d.np y1) (.slice x2 d.nr y2) (.slice x3 d.nt y3) (.slice x4 d.nd y4) (.slice x5 d.mf y5) (.slice x6 d.ns y6) (.slice x7 d.nq y7))) (results_cell_row (by rfl) _ _ (w.heap.size+1) _ _ _ _ rfl B3 underlying41 rfl An) rfl ?_;have hW9:=WW.size;have hp5':=hp5.out
 generalize W10.setRow (w.heap.size+1) (kR d (.slice x0 d.m y0) (.slice x1 d.np y1) (.slice x2 d.nr y2) (.slice x3 d.nt y3) (.slice x4 d.nd y4) (.slice x5 d.mf y5) (.slice x6 d.ns y6) (.slice x7 d.nq y7))=W11 at *;obtain ⟨G0,G1,G2,G3,G5,G6,G7⟩:=HR.out;obtain ⟨⟨x00,x01⟩,⟨x10,x11⟩,⟨x20,x21⟩,hd01,hd02,hd12⟩:=HX.out;obtain ⟨l0,l1,l2,l3,l4,l5⟩:=HL.out
 refine ⟨_,rfl,⟨fun i b=>(i=0/\p0<=b/\b<p1)\/(i=1/\p1<=b/\b<p2)\/(i=2/\p2<=b/\b<p3)\/(i=3/\p3<=b/\b<p4)\/(i=4/\lo 0<=b/\b<hi 0)\/(i=5/\lo 1<=b/\b<hi 1)\/(i=6/\lo 2<=b/\b<hi 2),
  _,_,_,_,_,_,_,_,ob,iv,ov,o6,o7,rfl,
  (G0.keep WW (fun b o hb _ (h:b=_)=>by obtain ⟨h1,h2⟩:=hb; omega)).mono (fun b _ h=>Or.inl ⟨rfl,h⟩),
  (G1.keep WW (fun b o hb _ (h:b=_)=>by obtain ⟨h1,h2⟩:=hb; omega)).mono (fun b _ h=>Or.inr (Or.inl ⟨rfl,h⟩)),
  (G2.keep WW (fun b o hb _ (h:b=_)=>by obtain ⟨h1,h2⟩:=hb; omega)).mono (fun b _ h=>Or.inr (Or.inr (Or.inl ⟨rfl,h⟩))),
  (G3.keep WW (fun b o hb _ (h:b=_)=>by obtain ⟨h1,h2⟩:=hb; omega)).mono (fun b _ h=>Or.inr (Or.inr (Or.inr (Or.inl ⟨rfl,h⟩)))),
  (G5.keep WW (fun g o hg (h:g=_)=>by have:=Df G5.own hg; omega) (fun i b o hi hb (h:b=_)=>by have h3:=G5.rows i hi; rw [hb] at h3; have:=h3.lt.1; omega)).mono (by omega),
  fun b hb=>Or.inr (Or.inr (Or.inr (Or.inr (Or.inl ⟨rfl,HD5.out b hb⟩)))),
  (G6.keep WW (fun b hb h3 _ k (h:b=_)=>by omega)).mono (by omega),fun b hb=>Or.inr (Or.inr (Or.inr (Or.inr (Or.inr (Or.inl ⟨rfl,HD6.out b hb⟩))))),
  (G7.keep WW (fun b hb h3 _ k (h:b=_)=>by omega)).mono (by omega),fun b hb=>Or.inr (Or.inr (Or.inr (Or.inr (Or.inr (Or.inr ⟨rfl,HD7.out b hb⟩))))),?_,?_,Nat.le_refl _,hps⟩,L0.trans (WW.below L0.size (fun b o hb (h:b=_)=>by omega))⟩
 .clear HR HX HL HD5 HD6 HD7 G0 G1 G2 G3 G5 G6 G7
  intro i j b h1 h2
  rcases h1 with ⟨rfl,_,_⟩ | ⟨rfl,_,_⟩ | ⟨rfl,_,_⟩ | ⟨rfl,_,_⟩ | ⟨rfl,_,_⟩ | ⟨rfl,_,_⟩ | ⟨rfl,_,_⟩ <;> rcases h2 with ⟨rfl,_,_⟩ | ⟨rfl,_,_⟩ | ⟨rfl,_,_⟩ | ⟨rfl,_,_⟩ | ⟨rfl,_,_⟩ | ⟨rfl,_,_⟩ | ⟨rfl,_,_⟩ <;> first | rfl | omega
 .clear HR HX HL HD5 HD6 HD7 G0 G1 G2 G3 G5 G6 G7
  intro i b h
  rcases h with ⟨rfl,_,_⟩ | ⟨rfl,_,_⟩ | ⟨rfl,_,_⟩ | ⟨rfl,_,_⟩ | ⟨rfl,_,_⟩ | ⟨rfl,_,_⟩ | ⟨rfl,_,_⟩ <;> omega
end Go.Proofs.YtijljlnooibbmaaGreatDoor
