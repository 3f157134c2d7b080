import Derived.Test.YtijljlnooibbmaaGreatDoorC8
import Derived.Test.YtijljlnooibbmaaGreatDoorU0
namespace Go.Proofs.YtijljlnooibbmaaGreatDoor
set_option maxHeartbeats 4000000
set_option maxRecDepth 20000
open Go.Proofs.Tryz
set_option linter.unusedVariables false
open Go.ChangeShapes Go.WideShapes Go.ChangeAt Go.RowKit
def Fq (g:Nat->Int) (k:Nat) (x:Int):Nat->Int:=fun i=>if i=k then x else g i
def Fs (ok:Bool) (g:Nat->Int) (a v:Int):Nat->Int:=if ok=true/\rgN a=1 then Fq g (rgP a).toNat (v%256) else g
def Fb (ok:Bool) (m:Nat) (bank a v:Int):Int:=if ok=true/\(rgN a=5\/rgN a=6) then v%256%(m:Int) else bank
theorem Ao.keepL {w w':World} {lo:Nat} {v:Value} {n:Nat} {f:Nat->Int} (h:Ao w lo v n f) (hb:Below w.heap.size w w'):Ao w' lo v n f:=by
 obtain ⟨a,cap,hv,hn,hR,hF,hL⟩:=h;exact ⟨a,cap,hv,hn,hR.keep (Aa hb Aj) (fun _ _ _ x=>x),hF.keep (Aa hb Aj),hL⟩
theorem Ao.away {w w':World} {lo:Nat} {v:Value} {n:Nat} {f:Nat->Int} {R:Nat->Nat->Prop} (h:Ao w lo v n f) (hw:Wrote R w w') (hR:∀ b o,lo<=b->b<w.heap.size->¬ R b o):Ao w' lo v n f:=by
 obtain ⟨a,cap,hv,hn,hr,hF,hL⟩:=h;exact ⟨a,cap,hv,hn,hr.keep hw (fun b o hf=>hR b o (hL b o hf) (hF b o hf).1),hF.keep hw,hL⟩
theorem Ao.put {w:World} {lo:Nat} {b off cap n:Nat} {f:Nat->Int} (h:Ao w lo (.slice (some ⟨b,off,none⟩) n cap) n f) (k:Nat) (hk:k<n) (x:Int):Ao (w.setCell ⟨b,off+k,none⟩ (.i x)) lo (.slice (some ⟨b,off,none⟩) n cap) n (Fq f k x):=by
 obtain ⟨a,cap',hv,hn,hr,hF,hL⟩:=h;simp only [Value.slice.injEq] at hv;obtain ⟨rfl,-,rfl⟩:=hv;have W1:Wrote (fun b' o'=>b'=b/\o'=off+k) w (w.sc b (off+k) (.i x)):=Wrote.setCell (Wrote.refl _ w) (fun _=>⟨rfl,rfl⟩) _;exact ⟨_,_,rfl,hn,Wm hr hk,hF.keep W1,hL⟩
theorem Ao.cellAt {w:World} {lo:Nat} {b off cap n:Nat} {f:Nat->Int} (h:Ao w lo (.slice (some ⟨b,off,none⟩) n cap) n f) (k:Nat) (hk:k<n):w.cell? ⟨b,off+k,none⟩=some (.i (f k))/\w.frozen? ⟨b,off+k,none⟩=false/\lo<=b/\b<w.heap.size:=by
 obtain ⟨a,cap',hv,hn,hr,hF,hL⟩:=h;simp only [Value.slice.injEq] at hv;obtain ⟨rfl,-,rfl⟩:=hv;obtain ⟨b',off',e,hc⟩:=hr k hk;simp only [Option.some.injEq,Addr.mk.injEq] at e;obtain ⟨rfl,rfl,-⟩:=e;exact ⟨hc,(hF b (off+k) (Cc hk)).2,hL b (off+k) (Cc hk),(hF b (off+k) (Cc hk)).1⟩
theorem Gi {w:World} {b d o:Nat} {ob:Obj} {x:Value} (h:w.heap[b]?=some ob) (hd:b≠d):(w.setCell ⟨d,o,none⟩ x).heap[b]?=some ob :=
 ((Wrote.setCell (R:=fun b' _=>b'=d) (Wrote.refl _ w) (fun _=>rfl) x).block b (Ad h) (fun _ e=>hd e)).trans h
structure E3 (w W:World) (p:Nat) (ia:Option Addr) (m icap:Nat) (oa:Option Addr) (n oc:Nat) (bank:Int) (g:Nat->Int):Prop where
 img:W.heap[w.heap.size]?=some (.cells #[.slice ia m icap] 26 (0,0))
 res:W.heap[w.heap.size+1+1]?=some (.cells mZ 29 (0,0))
 out:W.heap[p]?=some (.cells #[.slice oa n oc,.i bank] 29 (0,0))
 far:w.heap.size+1+1<p
 own:Ao W (w.heap.size+3) (.slice oa n oc) n g
 apart:∀ b o,Cz oa n b o->b<p
 low:Below w.heap.size w W
theorem E3.end {w W:World} {p:Nat} {ia:Option Addr} {m icap:Nat} {oa:Option Addr} {n oc:Nat} {bank:Int} {g:Nat->Int} (h:E3 w W p ia m icap oa n oc bank g) (x y:Value):Ao ((W.setCell ⟨w.heap.size+1+1,0,none⟩ x).setCell ⟨w.heap.size+1+1,1,none⟩ y) w.heap.size (.slice oa n oc) n g/\Below w.heap.size w ((W.setCell ⟨w.heap.size+1+1,0,none⟩ x).setCell ⟨w.heap.size+1+1,1,none⟩ y) :=
 ⟨((h.own.setLow (by omega) _).setLow (by omega) _).mono (by omega),(h.low.setCell (by simp; omega) _).setCell (by simp; omega) _⟩
theorem E3.drew {w W:World} {p:Nat} {ia:Option Addr} {m icap:Nat} {oa:Option Addr} {n oc:Nat} {bank:Int} {g:Nat->Int} (h:E3 w W p ia m icap oa n oc bank g):E3 w W.drew p ia m icap oa n oc bank g :=
 ⟨h.img,h.res,h.out,h.far,h.own.away (Wrote.drew (Wrote.refl Aj W)) (fun _ _ _ _ x=>x),h.apart,h.low.drew⟩
theorem E3.ram {w W:World} {p:Nat} {ia:Option Addr} {m icap b off:Nat} {n oc:Nat} {bank:Int} {g:Nat->Int} (h:E3 w W p ia m icap (some ⟨b,off,none⟩) n oc bank g) (k:Nat) (hk:k<n) (x:Int):E3 w (W.setCell ⟨b,off+k,none⟩ (.i x)) p ia m icap (some ⟨b,off,none⟩) n oc bank (Fq g k x):=by
 have hb:=h.apart b (off+k) (Cc hk);obtain ⟨-,-,hl,-⟩:=h.own.cellAt k hk;exact ⟨Gi h.img (by omega),Gi h.res (by omega),Gi h.out (by omega),h.far,h.own.put k hk x,h.apart,h.low.setCell (by show w.heap.size<=b; omega) _⟩
theorem E3.bank {w W:World} {p:Nat} {ia:Option Addr} {m icap:Nat} {oa:Option Addr} {n oc:Nat} {bank:Int} {g:Nat->Int} (h:E3 w W p ia m icap oa n oc bank g) (x:Int):E3 w (W.setCell ⟨p,1,none⟩ (.i x)) p ia m icap oa n oc x g:=by
 have hf:=h.far;refine ⟨Gi h.img (by omega),Gi h.res (by omega),?_,h.far,?_,h.apart,h.low.setCell (by show w.heap.size<=p; omega) _⟩
 .exact Am h.out _
 .obtain ⟨a,cap,hv,hn,hr,hF,hL⟩:=h.own
  simp only [Value.slice.injEq] at hv;obtain ⟨rfl,-,rfl⟩:=hv;have W1:Wrote (fun b' _=>b'=p) W (W.sc p 1 (.i x)):=Wrote.setCell (R:=fun b' _=>b'=p) (Wrote.refl _ W) (fun _=>rfl) _;exact ⟨_,_,rfl,hn,hr.keep W1 (fun b o hfo e=>by have:=h.apart b o hfo; omega),hF.keep W1,hL⟩
theorem Jce (w:World) (F G:Nat->Nat->Prop) (v u:Value) (m:Nat) (ln:Nat->Nat) (f:Nat->Nat->Int) (n:Nat) (g:Nat->Int) (bank x y:Int) (H:Bg .i64 w F v m ln f) (K:Ints .i64 w G u n g) :
  Calls prog 137 #[.agg #[v],.agg #[u,.i bank],.i x,.i y] w fun e w'=>∃ q,e=.returned (.agg #[q,.i (Fb (B9 m ln f n g bank) m bank (x%65536) y)])/\Ao w' w.heap.size q n (Fs (B9 m ln f n g bank) g (x%65536) y)/\Below w.heap.size w w':=by
 obtain ⟨ia,icap,rfl,im,iF,iR⟩:=H;obtain ⟨ua,ucap,rfl,un,uR,uF⟩:=K
 have H:Bg .i64 w F (.slice ia m icap) m ln f:=⟨ia,icap,rfl,im,iF,iR⟩
 have K:Ints .i64 w G (.slice ua n ucap) n g:=⟨ua,ucap,rfl,un,uR,uF⟩
 clear iF iR uR uF;have C0:Below w.heap.size w (((w.alloc (.cells #[.slice ia m icap] 26)).alloc (.cells #[.slice ua n ucap,.i bank] 29)).alloc (.cells mZ 29)):=(((Below.refl _ _).alloc (Nat.le_refl _) _).alloc (by simp) _).alloc (by simp; omega) _;have k0:=Az (Az (Ak w #[.slice ia m icap] 26) (.cells #[.slice ua n ucap,.i bank] 29)) (.cells mZ 29)
 have k1:(((w.alloc (.cells #[.slice ia m icap] 26)).alloc (.cells #[.slice ua n ucap,.i bank] 29)).alloc (.cells mZ 29)).heap[w.heap.size+1]?=some (.cells #[.slice ua n ucap,.i bank] 29 (0,0)):=by simpa using Az (Ak (w.alloc (.cells #[.slice ia m icap] 26)) #[.slice ua n ucap,.i bank] 29) (.cells mZ 29)
 have k2:(((w.alloc (.cells #[.slice ia m icap] 26)).alloc (.cells #[.slice ua n ucap,.i bank] 29)).alloc (.cells mZ 29)).heap[w.heap.size+1+1]?=some (.cells mZ 29 (0,0)):=by simpa using Ak ((w.alloc (.cells #[.slice ia m icap] 26)).alloc (.cells #[.slice ua n ucap,.i bank] 29)) mZ 29
 go_enter func137,ntmps137
 go_wp2_with fail;generalize (((w.alloc (.cells #[.slice ia m icap] 26)).alloc (.cells #[.slice ua n ucap,.i bank] 29)).alloc (.cells mZ 29))=W0 at *;refine (Nv _ G _ n g bank (K.keep (Aa C0 Aj) (fun _ _ _ x=>x))).mono ?_;rintro e W1 ⟨q,rfl,O1,L⟩;have z2:=Ad k2;replace O1:=O1.mono (show w.heap.size+3<=W0.heap.size by omega);obtain ⟨oa,oc,rfl,-,-,oF,-⟩:=id O1;have C1:=Ah C0 L;replace k0:=Ab k0 L (Ad k0);replace k1:=Ab k1 L (Ad k1);replace k2:=Ab k2 L (Ad k2);clear L C0;have hxl:=Ad k2;have x1:=Ak W1 #[.slice oa n oc,.i bank] 29;replace C1:=C1.alloc C1.size (.cells #[.slice oa n oc,.i bank] 29);replace k0:=Az k0 (.cells #[.slice oa n oc,.i bank] 29);replace k1:=Az k1 (.cells #[.slice oa n oc,.i bank] 29);replace k2:=Az k2 (.cells #[.slice oa n oc,.i bank] 29)
 replace O1:=O1.keepL ((Below.refl _ W1).alloc (Nat.le_refl _) (.cells #[.slice oa n oc,.i bank] 29))
 have oL:∀ b o,Cz oa n b o->b<W1.heap.size:=fun b o h=>(oF b o h).1
 clear oF z2;have c0:=Af k0;have c1:=Af k1;go_wp2_with fail;clear c0 c1;generalize hp:W1.heap.size=p at *;generalize (W1.alloc (.cells #[.slice oa n oc,.i bank] 29))=W2 at *;refine (Mf _ F G _ _ m ln f n g bank (H.keep (Aa C1 Aj) (fun _ _ _ x=>x)) (K.keep (Aa C1 Aj) (fun _ _ _ x=>x))).mono ?_;rintro e W3 ⟨rfl,L⟩
 have Z:E3 w W3 p ia m icap oa n oc bank g:=⟨Ab k0 L (Ad k0),Ab k2 L (Ad k2),Ab x1 L (Ad x1),hxl,O1.keepL L,oL,Ah C1 L⟩
 clear L C1 k0 k1 k2 x1 O1 oL hxl hp;cases hO:B9 m ln f n g bank
 .have HB:Hid (Fb (B9 m ln f n g bank) m bank (x%65536) y=bank):=by show _=_; rw [hO]; exact if_neg (by simp)
  have HG:Hid (Fs (B9 m ln f n g bank) g (x%65536) y=g):=by show _=_; rw [hO]; exact if_neg (by simp)
  clear hO;have d1:=Af Z.res;have d2:=Af Z.out;have d3:=Au Z.res;have hf:=Z.far
  have hpn:p≠w.heap.size+1+1:=by omega
  go_wp2;refine bodyPost_ret (v:=.agg #[.slice oa n oc,.i bank]) (by simp [results,results137,go_sem,d1]) rfl ?_;exact ⟨_,by rw [HB.out],by rw [HG.out]; exact Z.end _ _⟩
 .obtain ⟨hI,hn,-,-⟩:=Hs hO
  have hm1:=(Hm hI).2.1;have hm8:=(Hm hI).2.2;subst hn
  have a0:0<=x%65536:=by omega
  have a1:x%65536<65536:=by omega
  have hcs:=Jb _ a0 a1;have hreg:=Ij W3 x
  have HB:Hid (∀ t,(rgN (x%65536)=5\/rgN (x%65536)=6->t=y%256%(m:Int))->(¬ (rgN (x%65536)=5\/rgN (x%65536)=6)->t=bank)->Fb (B9 m ln f 512 g bank) m bank (x%65536) y=t):=by
   intro t h1 h2;rw [hO];unfold Fb
   by_cases h:rgN (x%65536)=5\/rgN (x%65536)=6
   .rw [if_pos ⟨rfl,h⟩,h1 h]
   .rw [if_neg (fun e=>h e.2),h2 h]
  have HG:Hid (∀ t,(rgN (x%65536)=1->t=Fq g (rgP (x%65536)).toNat (y%256))->(¬ rgN (x%65536)=1->t=g)->Fs (B9 m ln f 512 g bank) g (x%65536) y=t):=by
   intro t h1 h2;rw [hO];unfold Fs
   by_cases h:rgN (x%65536)=1
   .rw [if_pos ⟨rfl,h⟩,h1 h]
   .rw [if_neg (fun e=>h e.2),h2 h]
  clear hO hI;generalize hrn:rgN (x%65536)=rn at *;generalize hrp:rgP (x%65536)=rp at *;have HREG:=Ac hreg;clear hreg a0 a1 hrn hrp
  rcases hcs with ⟨rfl,p0,p1⟩ | ⟨rfl,p0,p1⟩ | ⟨rfl,p0,p1⟩ | hrest
  .obtain ⟨k,rfl⟩:∃ k:Nat,rp=k:=⟨rp.toNat,by omega⟩
   have hk:(k:Int)<512:=by omega
   obtain ⟨a',c',e',-,hr,-,-⟩:=id Z.own;simp only [Value.slice.injEq] at e';obtain ⟨rfl,-,rfl⟩:=e';obtain ⟨b,off,rfl,-⟩:=hr k (by omega);clear hr;go_wp2_with fail;refine (Ae HREG).mono ?_;rintro e W4 ⟨rfl,hw4⟩;rw [hw4];have d2:=Af Z.out;obtain ⟨q1,q2,-,-⟩:=Z.own.cellAt k (by omega);clear d2;have d2':=Af Z.drew.out
   have hwk:IntKind.i64.wrap (k:Int)=(k:Int):=by rw [IntKind.wrap_i64]; omega
   go_upto_region 7 with (fail);have d2:=Af Z.out
   go_region_with (go_at_call 128; refine (Bo _ _).mono ?_; rintro e w2 ⟨rfl,rfl⟩)
   all_goals
    have Z5:=(Z.ram k (by omega) (y%256)).drew;clear d2 d2' q1 q2;generalize (W3.sc b (off+k) (.i (y%256))).drew=W5 at *;have d1:=Af Z5.res;have d2:=Af Z5.out;have d3:=Au Z5.res;have hf:=Z5.far
    have hpn:p≠w.heap.size+1+1:=by omega
    go_wp2;refine bodyPost_ret (v:=.agg #[.sl b off 512 oc,.i bank]) (by simp [results,results137,go_sem,d1]) rfl ?_;exact ⟨_,by rw [HB.out bank (fun h=>absurd h (by decide)) (fun _=>rfl)],by rw [HG.out (Fq g k (y%256)) (fun _=>by rw [Int.toNat_natCast]) (fun h=>by simp at h)]; exact Z5.end _ _⟩
  .clear p0 p1
   have hmi:(m:Int)≠0:=by omega
   have hmb:((m:Int)==0)=false:=by simp; omega
   have htm:(y%256).tmod (m:Int)=y%256%(m:Int):=Int.tmod_eq_emod_of_nonneg (by omega);have y0:0<=y%256%(m:Int):=Int.emod_nonneg _ hmi;have y1:y%256%(m:Int)<9:=Int.lt_of_lt_of_le (Int.emod_lt_of_pos _ (by omega)) (by omega);have hdm:=Int.emod_nonneg y (show (256:Int)≠0 by decide);have hdl:=Int.emod_lt_of_pos y (show (0:Int)<256 by decide);go_wp2_with fail;refine (Ae HREG).mono ?_;rintro e W4 ⟨rfl,hw4⟩;rw [hw4];go_upto_region 10 with (fail);have d0:=Af Z.img;have d2:=Af Z.out;have d4:=Au Z.out
   go_region_with (go_at_call 128; refine (Bo _ _).mono ?_; rintro e w2 ⟨rfl,rfl⟩)
   all_goals
    have Z5:=(Z.bank (y%256%(m:Int))).drew;clear d0 d2 d4;generalize (W3.sc p 1 (.i (y%256%(m:Int)))).drew=W5 at *;have d1:=Af Z5.res;have d2:=Af Z5.out;have d3:=Au Z5.res;have hf:=Z5.far
    have hpn:p≠w.heap.size+1+1:=by omega
    go_wp2;refine bodyPost_ret (v:=.agg #[.slice oa 512 oc,.i (y%256%(m:Int))]) (by simp [results,results137,go_sem,d1]) rfl ?_;exact ⟨_,by rw [HB.out (y%256%(m:Int)) (fun _=>rfl) (fun h=>absurd (by decide) h)],by rw [HG.out g (fun h=>absurd h (by decide)) (fun _=>rfl)]; exact Z5.end _ _⟩
  .clear p0 p1
   have hmi:(m:Int)≠0:=by omega
   have hmb:((m:Int)==0)=false:=by simp; omega
   have htm:(y%256).tmod (m:Int)=y%256%(m:Int):=Int.tmod_eq_emod_of_nonneg (by omega);have y0:0<=y%256%(m:Int):=Int.emod_nonneg _ hmi;have y1:y%256%(m:Int)<9:=Int.lt_of_lt_of_le (Int.emod_lt_of_pos _ (by omega)) (by omega);have hdm:=Int.emod_nonneg y (show (256:Int)≠0 by decide);have hdl:=Int.emod_lt_of_pos y (show (0:Int)<256 by decide);go_wp2_with fail;refine (Ae HREG).mono ?_;rintro e W4 ⟨rfl,hw4⟩;rw [hw4];go_upto_region 10 with (fail);have d0:=Af Z.img;have d2:=Af Z.out;have d4:=Au Z.out
   go_region_with (go_at_call 128; refine (Bo _ _).mono ?_; rintro e w2 ⟨rfl,rfl⟩)
   all_goals
    have Z5:=(Z.bank (y%256%(m:Int))).drew;clear d0 d2 d4;generalize (W3.sc p 1 (.i (y%256%(m:Int)))).drew=W5 at *;have d1:=Af Z5.res;have d2:=Af Z5.out;have d3:=Au Z5.res;have hf:=Z5.far
    have hpn:p≠w.heap.size+1+1:=by omega
    go_wp2;refine bodyPost_ret (v:=.agg #[.slice oa 512 oc,.i (y%256%(m:Int))]) (by simp [results,results137,go_sem,d1]) rfl ?_;exact ⟨_,by rw [HB.out (y%256%(m:Int)) (fun _=>rfl) (fun h=>absurd (by decide) h)],by rw [HG.out g (fun h=>absurd h (by decide)) (fun _=>rfl)]; exact Z5.end _ _⟩
  .have e1:(rn==1)=false:=by simp; omega
   have e5:(rn==5)=false:=by simp; omega
   have e6:(rn==6)=false:=by simp; omega
   have HR1:=Ac (show ¬ rn=1 by omega);have HR2:=Ac (show ¬ (rn=5\/rn=6) by omega);clear hrest;go_wp2_with fail;refine (Ae HREG).mono ?_;rintro e W4 ⟨rfl,hw4⟩;rw [hw4];have d1:=Af Z.res;have d2:=Af Z.out;have d3:=Au Z.res;have hf:=Z.far
   have hpn:p≠w.heap.size+1+1:=by omega
   go_wp2;refine bodyPost_ret (v:=.agg #[.slice oa 512 oc,.i bank]) (by simp [results,results137,go_sem,d1]) rfl ?_;exact ⟨_,by rw [HB.out bank (fun h=>absurd h HR2.out) (fun _=>rfl)],by rw [HG.out g (fun h=>absurd h HR1.out) (fun _=>rfl)]; exact Z.end _ _⟩
end Go.Proofs.YtijljlnooibbmaaGreatDoor
