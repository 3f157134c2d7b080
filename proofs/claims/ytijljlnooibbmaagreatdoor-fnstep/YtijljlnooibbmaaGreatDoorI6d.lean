import Derived.Test.YtijljlnooibbmaaGreatDoorI6b
namespace Go.Proofs.YtijljlnooibbmaaGreatDoor
set_option maxHeartbeats 4000000
set_option maxRecDepth 20000
open Go.Proofs.Tryz
set_option linter.unusedVariables false
open Go.ChangeShapes Go.WideShapes Go.ChangeAt Go.RowKit
theorem Jcg (w:World) (F G:Nat->Nat->Prop) (v u:Value) (m:Nat) (ln:Nat->Nat) (f:Nat->Nat->Int) (n:Nat) (g:Nat->Int) (bank x y:Int) (H:Bg .i64 w F v m ln f) (K:Ints .i64 w G u n g) :
  Calls prog 160 #[.agg #[v],.agg #[u,.i bank],.i x,.i y] w fun e w'=>∃ q,e=.returned (.agg #[q,.i (Fb (B9 m ln f n g bank) m bank (x%65536) y)])/\Ao w' w.heap.size q n (Fs (B9 m ln f n g bank) g (x%65536) y)/\Below w.heap.size w w':=by
 obtain ⟨ia,icap,rfl,im,iF,iR⟩:=H;obtain ⟨ua,ucap,rfl,un,uR,uF⟩:=K
 have H:Bg .i64 w F (.slice ia m icap) m ln f:=⟨ia,icap,rfl,im,iF,iR⟩
 have K:Ints .i64 w G (.slice ua n ucap) n g:=⟨ua,ucap,rfl,un,uR,uF⟩
 clear iF iR uR uF;have C0:Below w.heap.size w (((w.alloc (.cells #[.slice ia m icap] 26)).alloc (.cells #[.slice ua n ucap,.i bank] 29)).alloc (.cells mZ 29)):=(((Below.refl _ _).alloc (Nat.le_refl _) _).alloc (by simp) _).alloc (by simp; omega) _;have k0:=Az (Az (Ak w #[.slice ia m icap] 26) (.cells #[.slice ua n ucap,.i bank] 29)) (.cells mZ 29)
 have k1:(((w.alloc (.cells #[.slice ia m icap] 26)).alloc (.cells #[.slice ua n ucap,.i bank] 29)).alloc (.cells mZ 29)).heap[w.heap.size+1]?=some (.cells #[.slice ua n ucap,.i bank] 29 (0,0)):=by simpa using Az (Ak (w.alloc (.cells #[.slice ia m icap] 26)) #[.slice ua n ucap,.i bank] 29) (.cells mZ 29)
 have k2:(((w.alloc (.cells #[.slice ia m icap] 26)).alloc (.cells #[.slice ua n ucap,.i bank] 29)).alloc (.cells mZ 29)).heap[w.heap.size+1+1]?=some (.cells mZ 29 (0,0)):=by simpa using Ak ((w.alloc (.cells #[.slice ia m icap] 26)).alloc (.cells #[.slice ua n ucap,.i bank] 29)) mZ 29
 go_enter func160,ntmps160
 go_wp2_with fail;generalize (((w.alloc (.cells #[.slice ia m icap] 26)).alloc (.cells #[.slice ua n ucap,.i bank] 29)).alloc (.cells mZ 29))=W0 at *;refine (Kv _ G _ n g bank (K.keep (Aa C0 Aj) (fun _ _ _ x=>x))).mono ?_;rintro e W1 ⟨q,rfl,O1,L⟩;have z2:=Ad k2;replace O1:=O1.mono (show w.heap.size+3<=W0.heap.size by omega);obtain ⟨oa,oc,rfl,-,-,oF,-⟩:=id O1;have C1:=Ah C0 L;replace k0:=Ab k0 L (Ad k0);replace k1:=Ab k1 L (Ad k1);replace k2:=Ab k2 L (Ad k2);clear L C0;have hxl:=Ad k2;have x1:=Ak W1 #[.slice oa n oc,.i bank] 29;replace C1:=C1.alloc C1.size (.cells #[.slice oa n oc,.i bank] 29);replace k0:=Az k0 (.cells #[.slice oa n oc,.i bank] 29);replace k1:=Az k1 (.cells #[.slice oa n oc,.i bank] 29);replace k2:=Az k2 (.cells #[.slice oa n oc,.i bank] 29)
 replace O1:=O1.keepL ((Below.refl _ W1).alloc (Nat.le_refl _) (.cells #[.slice oa n oc,.i bank] 29))
 have oL:∀ b o,Cz oa n b o->b<W1.heap.size:=fun b o h=>(oF b o h).1
 clear oF z2;have c0:=Af k0;have c1:=Af k1;go_wp2_with fail;clear c0 c1;generalize hp:W1.heap.size=p at *;generalize (W1.alloc (.cells #[.slice oa n oc,.i bank] 29))=W2 at *;refine (Mh _ F G _ _ m ln f n g bank (H.keep (Aa C1 Aj) (fun _ _ _ x=>x)) (K.keep (Aa C1 Aj) (fun _ _ _ x=>x))).mono ?_;rintro e W3 ⟨rfl,L⟩
 have Z:E3 w W3 p ia m icap oa n oc bank g:=⟨Ab k0 L (Ad k0),Ab k2 L (Ad k2),Ab x1 L (Ad x1),hxl,O1.keepL L,oL,Ah C1 L⟩
 clear L C1 k0 k1 k2 x1 O1 oL hxl hp;cases hO:B9 m ln f n g bank
 .have HB:Hid (Fb (B9 m ln f n g bank) m bank (x%65536) y=bank):=by show _=_; rw [hO]; exact if_neg (by simp)
  have HG:Hid (Fs (B9 m ln f n g bank) g (x%65536) y=g):=by show _=_; rw [hO]; exact if_neg (by simp)
  clear hO;have d1:=Af Z.res;have d2:=Af Z.out;have d3:=Au Z.res;have hf:=Z.far
  have hpn:p≠w.heap.size+1+1:=by omega
  go_wp2;refine bodyPost_ret (v:=.agg #[.slice oa n oc,.i bank]) (by simp [results,results160,go_sem,d1]) rfl ?_;exact ⟨_,by rw [HB.out],by rw [HG.out]; exact Z.end _ _⟩
 .obtain ⟨hI,hn,-,-⟩:=Hs hO
  have hm1:=(Hm hI).2.1;have hm8:=(Hm hI).2.2;subst hn
  have a0:0<=x%65536:=by omega
  have a1:x%65536<65536:=by omega
  have hcs:=Jb _ a0 a1
  have HB:Hid (∀ t,(rgN (x%65536)=5\/rgN (x%65536)=6->t=y%256%(m:Int))->(¬ (rgN (x%65536)=5\/rgN (x%65536)=6)->t=bank)->Fb (B9 m ln f 512 g bank) m bank (x%65536) y=t):=by
   intro t h1 h2;rw [hO];unfold Fb
   by_cases h:rgN (x%65536)=5\/rgN (x%65536)=6
   .rw [if_pos ⟨rfl,h⟩,h1 h]
   .rw [if_neg (fun e=>h e.2),h2 h]
  have HG:Hid (∀ t,(rgN (x%65536)=1->t=Fq g (rgP (x%65536)).toNat (y%256))->(¬ rgN (x%65536)=1->t=g)->Fs (B9 m ln f 512 g bank) g (x%65536) y=t):=by
   intro t h1 h2;rw [hO];unfold Fs
   by_cases h:rgN (x%65536)=1
   .rw [if_pos ⟨rfl,h⟩,h1 h]
   .rw [if_neg (fun e=>h e.2),h2 h]
  clear hO hI;generalize hrn:rgN (x%65536)=rn at *;generalize hrp:rgP (x%65536)=rp at *;have HREG:=Ac (show Calls prog 75 #[.int .u16 (x%65536)] W3.drew fun e w'=>e=.returned (Je rn rp)/\w'=W3.drew from hrn ▸ hrp ▸ Nx W3.drew _ a0 a1);clear a0 a1 hrn hrp
  rcases hcs with ⟨rfl,p0,p1⟩ | ⟨rfl,p0,p1⟩ | ⟨rfl,p0,p1⟩ | hrest
  .obtain ⟨k,rfl⟩:∃ k:Nat,rp=k:=⟨rp.toNat,by omega⟩
   obtain ⟨a',c',e',-,hr,-,-⟩:=id Z.own;simp only [Value.slice.injEq] at e';obtain ⟨rfl,-,rfl⟩:=e';obtain ⟨b,off,rfl,-⟩:=hr k (by omega);clear hr;obtain ⟨q1,q2,-,-⟩:=Z.own.cellAt k (by omega);have HW:=Ac (Z3 W3.drew p b off oc k bank (y%256) m (by omega) Z.drew.out q1 q2);go_upto_region 3 with (fail);have d0:=Af Z.img;clear q1 q2
   go_region_with (first | (go_at_call 75; refine (Ae HREG).mono ?_; rintro e w' ⟨rfl,rfl⟩) | (go_at_call 62; refine (Ct _ _).mono ?_; rintro e w' ⟨rfl,rfl⟩) | (go_at_call 184; refine (Ae HW).mono ?_; rintro e w' ⟨rfl,rfl⟩))
   all_goals
    have Z5:=((Z.ram k (by omega) (y%256)).drew).drew;clear d0;generalize ((W3.sc b (off+k) (.i (y%256))).drew).drew=W5 at *;have d1:=Af Z5.res;have d2:=Af Z5.out;have d3:=Au Z5.res;have hf:=Z5.far
    have hpn:p≠w.heap.size+1+1:=by omega
    go_wp2;refine bodyPost_ret (v:=.agg #[.sl b off 512 oc,.i bank]) (by simp [results,results160,go_sem,d1]) rfl ?_;exact ⟨_,by rw [HB.out bank (fun h=>absurd h (by decide)) (fun _=>rfl)],by rw [HG.out (Fq g k (y%256)) (fun _=>by rw [Int.toNat_natCast]) (fun h=>by simp at h)]; exact Z5.end _ _⟩
  .have y0:0<=y%256:=by omega
   have y1:y%256<256:=by omega
   have HW:=Ac (Z4 W3.drew p oa 512 oc bank rp (y%256) m y0 y1 hm1 hm8 Z.drew.out);clear p0 p1;go_upto_region 3 with (fail);have d0:=Af Z.img
   go_region_with (first | (go_at_call 75; refine (Ae HREG).mono ?_; rintro e w' ⟨rfl,rfl⟩) | (go_at_call 62; refine (Ct _ _).mono ?_; rintro e w' ⟨rfl,rfl⟩) | (go_at_call 184; refine (Ae HW).mono ?_; rintro e w' ⟨rfl,rfl⟩))
   all_goals
    have Z5:=(Z.bank (y%256%(m:Int))).drew;clear d0;generalize (W3.sc p 1 (.i (y%256%(m:Int)))).drew=W5 at *;have d1:=Af Z5.res;have d2:=Af Z5.out;have d3:=Au Z5.res;have hf:=Z5.far
    have hpn:p≠w.heap.size+1+1:=by omega
    go_wp2;refine bodyPost_ret (v:=.agg #[.slice oa 512 oc,.i (y%256%(m:Int))]) (by simp [results,results160,go_sem,d1]) rfl ?_;exact ⟨_,by rw [HB.out (y%256%(m:Int)) (fun _=>rfl) (fun h=>absurd (by decide) h)],by rw [HG.out g (fun h=>absurd h (by decide)) (fun _=>rfl)]; exact Z5.end _ _⟩
  .have y0:0<=y%256:=by omega
   have y1:y%256<256:=by omega
   have HW:=Ac (Z6 W3.drew p oa 512 oc bank rp (y%256) m y0 y1 hm1 hm8 Z.drew.out);clear p0 p1;go_upto_region 3 with (fail);have d0:=Af Z.img
   go_region_with (first | (go_at_call 75; refine (Ae HREG).mono ?_; rintro e w' ⟨rfl,rfl⟩) | (go_at_call 62; refine (Ct _ _).mono ?_; rintro e w' ⟨rfl,rfl⟩) | (go_at_call 184; refine (Ae HW).mono ?_; rintro e w' ⟨rfl,rfl⟩))
   all_goals
    have Z5:=(Z.bank (y%256%(m:Int))).drew;clear d0;generalize (W3.sc p 1 (.i (y%256%(m:Int)))).drew=W5 at *;have d1:=Af Z5.res;have d2:=Af Z5.out;have d3:=Au Z5.res;have hf:=Z5.far
    have hpn:p≠w.heap.size+1+1:=by omega
    go_wp2;refine bodyPost_ret (v:=.agg #[.slice oa 512 oc,.i (y%256%(m:Int))]) (by simp [results,results160,go_sem,d1]) rfl ?_;exact ⟨_,by rw [HB.out (y%256%(m:Int)) (fun _=>rfl) (fun h=>absurd (by decide) h)],by rw [HG.out g (fun h=>absurd h (by decide)) (fun _=>rfl)]; exact Z5.end _ _⟩
  .have HW:=Ac (Z7 W3.drew p rn rp (y%256) m hrest)
   have HR1:=Ac (show ¬ rn=1 by omega);have HR2:=Ac (show ¬ (rn=5\/rn=6) by omega);clear hrest;go_upto_region 3 with (fail);have d0:=Af Z.img
   go_region_with (first | (go_at_call 75; refine (Ae HREG).mono ?_; rintro e w' ⟨rfl,rfl⟩) | (go_at_call 62; refine (Ct _ _).mono ?_; rintro e w' ⟨rfl,rfl⟩) | (go_at_call 184; refine (Ae HW).mono ?_; rintro e w' ⟨rfl,rfl⟩))
   all_goals
    have Z5:=Z.drew;clear d0;generalize W3.drew=W5 at *;have d1:=Af Z5.res;have d2:=Af Z5.out;have d3:=Au Z5.res;have hf:=Z5.far
    have hpn:p≠w.heap.size+1+1:=by omega
    go_wp2;refine bodyPost_ret (v:=.agg #[.slice oa 512 oc,.i bank]) (by simp [results,results160,go_sem,d1]) rfl ?_;exact ⟨_,by rw [HB.out bank (fun h=>absurd h HR2.out) (fun _=>rfl)],by rw [HG.out g (fun h=>absurd h HR1.out) (fun _=>rfl)]; exact Z5.end _ _⟩
end Go.Proofs.YtijljlnooibbmaaGreatDoor
