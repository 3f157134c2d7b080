import Derived.Test.YtijljlnooibbmaaGreatDoorSW
namespace Go.Proofs.YtijljlnooibbmaaGreatDoor
set_option maxHeartbeats 4000000
set_option maxRecDepth 20000
open Go.Proofs.Tryz
open Go.ChangeShapes Go.WideShapes Go.ChangeAt Go.RowKit
def Rk (s:ByteArray) (L:List Int) (tq:Int) (ok:Bool):Prop:=∃ wd n k,Ql s (.tuple #[.string wd,.i n,.bool k])/\He wd n k L tq ok
def upd (o:Nat->Int) (k:Nat) (x:Int):Nat->Int:=fun j=>if j=k then x else o j
def put (o:Nat->Int) (a:Nat):List Int->Nat->Int
 | []=>o
 | x :: r=>put (upd o (a%256) x) (a+1) r
theorem Km (o:Nat->Int) (a:Nat) (L:List Int) (x:Int):put o a (L++[x])=upd (put o a L) ((a+L.length)%256) x:=by
 induction L generalizing o a with
 | nil=>rfl
 | cons y r ih =>
  simp only [List.cons_append,put,List.length_cons];rw [ih,show a+1+r.length=a+(r.length+1) by omega]
def Qm (t:ByteArray) (i fr:Nat):Prop:=(∃ h:i<t.size,(t[i]'h).toNat≠10)\/(i=t.size/\fr=t.size)
inductive Asm (t:ByteArray):Nat->(Nat->Int)->Nat->Nat->Nat->Prop
 | start:Asm t 0 (fun _=>0) 0 0 0
 | skip {i:Nat} {o:Nat->Int} {a fr m:Nat}:Asm t i o a fr m->Qm t i fr->Asm t (i+1) o a fr m
 | empty {i:Nat} {o:Nat->Int} {a fr m:Nat}:Asm t i o a fr m->¬ Qm t i fr->(t.extract fr i).toList=[]->Asm t (i+1) o a (i+1) (m+1)
 | line {i:Nat} {o:Nat->Int} {a fr m:Nat} {L:List Int} {tq:Int}:Asm t i o a fr m->¬ Qm t i fr->¬ (t.extract fr i).toList=[]->Rk (t.extract fr i) L tq true->Asm t (i+1) (put o (if 0<=tq then tq.toNat else a) L) ((if 0<=tq then tq.toNat else a)+L.length) (i+1) (m+1)
def Jb0 (t:ByteArray) (n:Nat) (f:Nat->Int) (c:Int):Prop :=
 (3000<t.size/\n=0/\c=-1) \/
 (t.size<=3000/\n=0/\∃ i o a fr m L tq,i<=t.size/\Asm t i o a fr m/\¬ Qm t i fr/\¬ (t.extract fr i).toList=[]/\Rk (t.extract fr i) L tq false/\c=(m+1:Nat)) \/
 (t.size<=3000/\n=256/\c=0/\∃ o a fr m,Asm t (t.size+1) o a fr m/\∀ j,j<256->f j=o j)
theorem Kn {s:ByteArray} {L:List Int} {tq:Int} {ok:Bool} (h:Rk s L tq ok):L.length<=3/\-1<=tq/\tq<=255:=by
 obtain ⟨wd,n,k,-,h⟩:=h
 rcases h with ⟨_,rfl,rfl,_⟩ | ⟨_,_,rfl,_,h⟩ | ⟨_,_,_,rfl,h⟩ | ⟨_,_,_,rfl,r,_,h⟩
 .simp
 .refine ⟨by simp,?_⟩
  cases hin:Cr n 0 255
  .rw [hin] at h; simp at h; omega
  .rw [hin] at h
   have:=(Dj n 0 255).1 hin
   simp at h
   omega
 .refine ⟨?_,by omega,by omega⟩
  rw [h]
  split <;> simp
 .rcases h with ⟨_,rfl,_⟩ | ⟨_,⟨_,rfl,_⟩ | ⟨_,rfl,_⟩ | ⟨_,rfl,_⟩⟩ <;> simp
theorem Jp (x:Int) (q:Nat) (h:x%256=q) (w:World):Calls prog 128 #[.i x] w fun e w'=>e=.returned (.i q)/\w'=w:=by
 rw [<- h];exact Bo x w
def ix (L:List Int) (j:Nat):Int:=L.getD j 0
theorem Rl (L:List Int) (k:Nat) (h:k<L.length):ix L k=L[k]'h:=by unfold ix; rw [List.getD_eq_getElem?_getD,List.getElem?_eq_getElem h]; rfl
theorem Ua {w:World} {lo g n:Nat} {t:TypeId} {f:Nat->Int} (h:w.rowIs g t n (fun j=>.i (f j))) (hg:lo<=g) (hn:n<=1048576):Ao w lo (.slice (some ⟨g,0,none⟩) n n) n f :=
 ⟨_,n,rfl,hn,fun i hi=>⟨g,0,rfl,by rw [Nat.zero_add]; exact h.cell hi⟩,fun b o hF=>by
  obtain ⟨off,e,_⟩:=hF;simp only [Option.some.injEq,Addr.mk.injEq,and_true] at e;obtain ⟨rfl,rfl⟩:=e
  exact ⟨h.lt,h.frozen o⟩,fun b o hF=>by
  obtain ⟨off,e,_⟩:=hF;simp only [Option.some.injEq,Addr.mk.injEq,and_true] at e
  omega⟩
theorem Rm (w:World) (t:ByteArray) (ht:t.size<=1048576):Calls prog 109 #[.string t] w fun e w'=>(∃ v n c f,e=.returned (.tuple #[v,.i c])/\Ao w' w.heap.size v n f/\Jb0 t n f c)/\Below w.heap.size w w':=by
 by_cases hbig:(3000:Int)<(t.size:Int)
 .go_enter func109,ntmps109
  go_wp2;go_ret2;exact ⟨⟨_,0,_,fun _=>0,rfl,⟨_,_,rfl,by omega,fun i hi=>absurd hi (Nat.not_lt_zero _),fun b o hF=>absurd hF (A4 _ _ _),fun b o hF=>absurd hF (A4 _ _ _)⟩,Or.inl ⟨by omega,rfl,rfl⟩⟩,(Below.refl _ _).alloc (Nat.le_refl _) _⟩
 .have hsz:t.size<=3000:=by omega
  have hmk:=run_make_row' (P:=prog) 27 3 (.i 0) 8 underlying27 Gp rfl .i64 .i64 256 (by omega) (by omega);rw [show ((256:Nat):Int)=256 from rfl] at hmk
  go_enter func109,ntmps109
  have R0:=World.rowIs_made w (.i 0) 256 3;have L0:Below w.heap.size w (w.alloc (.cells (madeCells #[.i 0] 256) 3)):=(Below.refl _ _).alloc (Nat.le_refl _) _;go_wp2;generalize w.alloc (.cells (madeCells #[.i 0] 256) 3)=wa at *
  go_loopw [5,6,7,8] (fun ax fx mx ix wr=>∃ (i a fr m:Nat) (o:Nat->Int),i<=t.size+1/\ix=.i i/\ax=.i a/\fx=.i fr/\mx=.i m/\Asm t i o a fr m/\fr<=i/\m<=i/\a<=255+3*i/\wr.rowIs w.heap.size 3 256 (fun j=>.i (o j))/\Below w.heap.size w wr) (fun _ _ _ ix _=>t.size+1-(intOf ix).toNat)
  case atStart=>exact ⟨0,0,0,0,fun _=>0,Nat.zero_le _,rfl,rfl,rfl,rfl,Asm.start,Nat.le_refl _,Nat.le_refl _,by omega,R0,L0⟩
  case round =>
   obtain ⟨i,a,fr,m,o,hi,rfl,rfl,rfl,rfl,hA,hfr,hm,ha,hR,hbel⟩:=hrel;have HA:=Ac hA;have HR:=Ac hR;clear hA hR
   by_cases hle:i<=t.size
   .have hle':(i:Int)<=(t.size:Int):=by omega
    by_cases hlt:i<t.size
    .have hlt':(i:Int)<(t.size:Int):=by omega
     have hne:((i:Int)==(t.size:Int))=false:=by simp; omega
     by_cases h10:(t[i]'hlt).toNat=10
     .have h10':((((t[i]'hlt).toNat:Nat):Int) != 10)=false:=by simp [h10]
      have hsk:¬ Qm t i fr:=fun h=>by
       rcases h with ⟨_,h⟩ | ⟨h,_⟩
       .exact h h10
       .omega
      clear h10
      have hfi:(fr:Int)<=(i:Int):=by omega
      have hit:(i:Int)<=(t.size:Int):=by omega
      have hxs:(t.extract fr i).size<=1048576:=by simp; omega
      by_cases he:(t.extract fr i).toList=[]
      .have he':(t.extract fr i).toList.isEmpty=true:=by simp [he]
       have HA2:Hid (Asm t (i+1) o a (i+1) (m+1)):=Asm.empty (Ae HA) hsk he;clear he hsk;go_wp2;go_roundw
       case rel=>exact ⟨i+1,a,i+1,m+1,o,by omega,by go_num,by go_num,by go_num,by go_num,Ae HA2,by omega,by omega,by omega,Ae HR,hbel⟩
       case measure=>simp [intOf]; omega
      .have he':(t.extract fr i).toList.isEmpty=false:=by simpa using he
       have HE:=Ac he;have HS:=Ac hsk;clear he hsk;go_wp2_with fail;refine (Yu _ _ hxs).mono ?_;rintro e w1 ⟨⟨v,L,tq,ok,rfl,⟨la,lc,rfl,ll,lR,lF,lL⟩,hB⟩,L1⟩;obtain ⟨b1,b2,b3⟩:=Kn hB;have HB:=Ac hB;clear hB;have hgw:w.heap.size<wr.heap.size:=(Ae HR).lt;cases ok
       .have HQ:Hid (Jb0 t 0 (fun _=>0) ((m+1:Nat):Int)):=Or.inr (Or.inl ⟨hsz,rfl,i,o,a,fr,m,L,tq,by omega,Ae HA,Ae HS,Ae HE,Ae HB,rfl⟩)
        go_wp2;go_ret2;exact ⟨⟨_,0,_,fun _=>0,rfl,⟨_,_,rfl,by omega,fun i hi=>absurd hi (Nat.not_lt_zero _),fun b o hF=>absurd hF (A4 _ _ _),fun b o hF=>absurd hF (A4 _ _ _)⟩,HQ.out⟩,(hbel.trans (L1.mono hbel.size)).alloc (Nat.le_trans hbel.size L1.size) _⟩
       .by_cases h0:0<=tq
        .obtain ⟨A,rfl⟩:∃ A:Nat,tq=A:=⟨tq.toNat,by omega⟩
         have hAb:A<=255+3*i:=by omega
         have WL:Wrote Aj wr w1:=Aa L1 Aj;have R1:=(Ae HR).of_block (L1.block _ hgw);have C1:=hbel.trans (L1.mono hbel.size);go_wp2_with fail
         go_loopw [5,13] (fun ax kx ws=>∃ k:Nat,k<=L.length/\kx=.i k/\ax=.i (A+k:Nat)/\ws.rowIs w.heap.size 3 256 (fun j=>.i (put o A (L.take k) j))/\Cg .i64 ws la L.length (ix L)/\Below w.heap.size w ws) (fun _ kx _=>L.length-(intOf kx).toNat)
         case atStart=>exact ⟨0,Nat.zero_le _,rfl,by simp,R1,lR,C1⟩
         case round =>
          obtain ⟨k,hk,rfl,rfl,hR2,hL2,hb2⟩:=hrel
          by_cases hkl:k<L.length
          .have hkl':(k:Int)<(L.length:Int):=by omega
           obtain ⟨lb,lo,rfl,hlc⟩:=hL2 k hkl;have hm256:(A+k)%256<256:=Nat.mod_lt _ (by decide)
           have hm':(((A+k)%256:Nat):Int)<256:=by omega
           have hdst:=hR2.cell hm256;have hfz:=hR2.frozen ((A+k)%256)
           have hlb:w.heap.size<lb:=by have:=lL lb (lo+k) (Cc hkl); omega
           have R2:=(hR2.drew.set ((A+k)%256) (.i (ix L k))).congr (g:=fun j=>.i (put o A (L.take (k+1)) j)) (fun j _=>by
            rw [List.take_succ_eq_append_getElem hkl,Km,List.length_take,Nat.min_eq_left (Nat.le_of_lt hkl)];unfold upd;have eg:=Rl L k hkl;rw [eg]
            split <;> rfl)
           have HR2:=Ac R2;have W2:Wrote (fun b _=>b=w.heap.size) wr (wr.drew.sc w.heap.size ((A+k)%256) (.i (ix L k))):=Wrote.setCell (R:=fun b _=>b=w.heap.size) (b:=w.heap.size) (o:=(A+k)%256) (Wrote.refl _ wr).drew (fun _=>rfl) _;have HL2:=Ac (hL2.keep W2 (fun b o' hF e=>by have:=lL b o' hF; omega));have B2:Below w.heap.size w (wr.drew.sc w.heap.size ((A+k)%256) (.i (ix L k))):=hb2.drew.setCell (Nat.le_refl _) _
           have hqq:((A+k:Nat):Int)%256=(((A+k)%256:Nat):Int):=by omega
           generalize hq:(A+k)%256=Q at *;generalize hx:ix L k=X at *;clear R2 W2 hR2 hL2;go_wp2_with fail
           go_region_with (first | (go_at_call 128; refine (Jp _ Q (by omega) _).mono ?_; rintro e w' ⟨rfl,rfl⟩))
           all_goals
            go_wp2;go_roundw
            case rel=>exact ⟨k+1,by omega,by go_num,by go_num,Ae HR2,Ae HL2,B2⟩
            case measure=>simp [intOf]; omega
          .have hkl':¬ (k:Int)<(L.length:Int):=by omega
           have ek:k=L.length:=by omega
           subst ek;have R3:=hR2;rw [List.take_length] at R3;have HR3:=Ac R3
           have HA3:Hid (Asm t (i+1) (put o A L) (A+L.length) (i+1) (m+1)):=by
            have:=Asm.line (Ae HA) (Ae HS) (Ae HE) (Ae HB);rw [if_pos (by omega),Int.toNat_natCast] at this;exact this
           clear R3 hR2 hL2;go_wp2;go_roundw
           case rel=>exact ⟨i+1,A+L.length,i+1,m+1,put o A L,by omega,by go_num,by go_num,by go_num,by go_num,Ae HA3,by omega,by omega,by omega,Ae HR3,hb2⟩
           case measure=>simp [intOf]; omega
        .have h0':decide (0<=tq)=false:=decide_eq_false h0
         have hAb:a<=255+3*i:=by omega
         have WL:Wrote Aj wr w1:=Aa L1 Aj;have R1:=(Ae HR).of_block (L1.block _ hgw);have C1:=hbel.trans (L1.mono hbel.size);go_wp2_with fail
         go_loopw [5,13] (fun ax kx ws=>∃ k:Nat,k<=L.length/\kx=.i k/\ax=.i (a+k:Nat)/\ws.rowIs w.heap.size 3 256 (fun j=>.i (put o a (L.take k) j))/\Cg .i64 ws la L.length (ix L)/\Below w.heap.size w ws) (fun _ kx _=>L.length-(intOf kx).toNat)
         case atStart=>exact ⟨0,Nat.zero_le _,rfl,by simp,R1,lR,C1⟩
         case round =>
          obtain ⟨k,hk,rfl,rfl,hR2,hL2,hb2⟩:=hrel
          by_cases hkl:k<L.length
          .have hkl':(k:Int)<(L.length:Int):=by omega
           obtain ⟨lb,lo,rfl,hlc⟩:=hL2 k hkl;have hm256:(a+k)%256<256:=Nat.mod_lt _ (by decide)
           have hm':(((a+k)%256:Nat):Int)<256:=by omega
           have hdst:=hR2.cell hm256;have hfz:=hR2.frozen ((a+k)%256)
           have hlb:w.heap.size<lb:=by have:=lL lb (lo+k) (Cc hkl); omega
           have R2:=(hR2.drew.set ((a+k)%256) (.i (ix L k))).congr (g:=fun j=>.i (put o a (L.take (k+1)) j)) (fun j _=>by
            rw [List.take_succ_eq_append_getElem hkl,Km,List.length_take,Nat.min_eq_left (Nat.le_of_lt hkl)];unfold upd;have eg:=Rl L k hkl;rw [eg]
            split <;> rfl)
           have HR2:=Ac R2;have W2:Wrote (fun b _=>b=w.heap.size) wr (wr.drew.sc w.heap.size ((a+k)%256) (.i (ix L k))):=Wrote.setCell (R:=fun b _=>b=w.heap.size) (b:=w.heap.size) (o:=(a+k)%256) (Wrote.refl _ wr).drew (fun _=>rfl) _;have HL2:=Ac (hL2.keep W2 (fun b o' hF e=>by have:=lL b o' hF; omega));have B2:Below w.heap.size w (wr.drew.sc w.heap.size ((a+k)%256) (.i (ix L k))):=hb2.drew.setCell (Nat.le_refl _) _
           have hqq:((a+k:Nat):Int)%256=(((a+k)%256:Nat):Int):=by omega
           generalize hq:(a+k)%256=Q at *;generalize hx:ix L k=X at *;clear R2 W2 hR2 hL2;go_wp2_with fail
           go_region_with (first | (go_at_call 128; refine (Jp _ Q (by omega) _).mono ?_; rintro e w' ⟨rfl,rfl⟩))
           all_goals
            go_wp2;go_roundw
            case rel=>exact ⟨k+1,by omega,by go_num,by go_num,Ae HR2,Ae HL2,B2⟩
            case measure=>simp [intOf]; omega
          .have hkl':¬ (k:Int)<(L.length:Int):=by omega
           have ek:k=L.length:=by omega
           subst ek;have R3:=hR2;rw [List.take_length] at R3;have HR3:=Ac R3
           have HA3:Hid (Asm t (i+1) (put o a L) (a+L.length) (i+1) (m+1)):=by
            have:=Asm.line (Ae HA) (Ae HS) (Ae HE) (Ae HB);rw [if_neg (by omega)] at this;exact this
           clear R3 hR2 hL2;go_wp2;go_roundw
           case rel=>exact ⟨i+1,a+L.length,i+1,m+1,put o a L,by omega,by go_num,by go_num,by go_num,by go_num,Ae HA3,by omega,by omega,by omega,Ae HR3,hb2⟩
           case measure=>simp [intOf]; omega
     .have h10':((((t[i]'hlt).toNat:Nat):Int) != 10)=true:=by simp; omega
      have HA2:Hid (Asm t (i+1) o a fr m):=Asm.skip (Ae HA) (Or.inl ⟨hlt,h10⟩);clear h10;go_wp2;go_roundw
      case rel=>exact ⟨i+1,a,fr,m,o,by omega,by go_num,rfl,rfl,rfl,Ae HA2,by omega,by omega,by omega,Ae HR,hbel⟩
      case measure=>simp [intOf]; omega
    .have hlt':decide ((i:Int)<(t.size:Int))=false:=decide_eq_false (by omega)
     have hie:i=t.size:=by omega
     have hne:((i:Int)==(t.size:Int))=true:=by simp; omega
     by_cases hfs:fr=t.size
     .have hfs':((fr:Int)==(t.size:Int))=true:=by simp; omega
      have HA2:Hid (Asm t (i+1) o a fr m):=Asm.skip (Ae HA) (Or.inr ⟨hie,hfs⟩);clear hie hfs;go_wp2;go_roundw
      case rel=>exact ⟨i+1,a,fr,m,o,by omega,by go_num,rfl,rfl,rfl,Ae HA2,by omega,by omega,by omega,Ae HR,hbel⟩
      case measure=>simp [intOf]; omega
     .have hfs':((fr:Int)==(t.size:Int))=false:=by simp; omega
      have hsk:¬ Qm t i fr:=fun h=>by
       rcases h with ⟨h,_⟩ | ⟨_,h⟩
       .omega
       .exact hfs h
      clear hfs hie
      have hfi:(fr:Int)<=(i:Int):=by omega
      have hit:(i:Int)<=(t.size:Int):=by omega
      have hxs:(t.extract fr i).size<=1048576:=by simp; omega
      by_cases he:(t.extract fr i).toList=[]
      .have he':(t.extract fr i).toList.isEmpty=true:=by simp [he]
       have HA2:Hid (Asm t (i+1) o a (i+1) (m+1)):=Asm.empty (Ae HA) hsk he;clear he hsk;go_wp2;go_roundw
       case rel=>exact ⟨i+1,a,i+1,m+1,o,by omega,by go_num,by go_num,by go_num,by go_num,Ae HA2,by omega,by omega,by omega,Ae HR,hbel⟩
       case measure=>simp [intOf]; omega
      .have he':(t.extract fr i).toList.isEmpty=false:=by simpa using he
       have HE:=Ac he;have HS:=Ac hsk;clear he hsk;go_wp2_with fail;refine (Yu _ _ hxs).mono ?_;rintro e w1 ⟨⟨v,L,tq,ok,rfl,⟨la,lc,rfl,ll,lR,lF,lL⟩,hB⟩,L1⟩;obtain ⟨b1,b2,b3⟩:=Kn hB;have HB:=Ac hB;clear hB;have hgw:w.heap.size<wr.heap.size:=(Ae HR).lt;cases ok
       .have HQ:Hid (Jb0 t 0 (fun _=>0) ((m+1:Nat):Int)):=Or.inr (Or.inl ⟨hsz,rfl,i,o,a,fr,m,L,tq,by omega,Ae HA,Ae HS,Ae HE,Ae HB,rfl⟩)
        go_wp2;go_ret2;exact ⟨⟨_,0,_,fun _=>0,rfl,⟨_,_,rfl,by omega,fun i hi=>absurd hi (Nat.not_lt_zero _),fun b o hF=>absurd hF (A4 _ _ _),fun b o hF=>absurd hF (A4 _ _ _)⟩,HQ.out⟩,(hbel.trans (L1.mono hbel.size)).alloc (Nat.le_trans hbel.size L1.size) _⟩
       .by_cases h0:0<=tq
        .obtain ⟨A,rfl⟩:∃ A:Nat,tq=A:=⟨tq.toNat,by omega⟩
         have hAb:A<=255+3*i:=by omega
         have WL:Wrote Aj wr w1:=Aa L1 Aj;have R1:=(Ae HR).of_block (L1.block _ hgw);have C1:=hbel.trans (L1.mono hbel.size);go_wp2_with fail
         go_loopw [5,13] (fun ax kx ws=>∃ k:Nat,k<=L.length/\kx=.i k/\ax=.i (A+k:Nat)/\ws.rowIs w.heap.size 3 256 (fun j=>.i (put o A (L.take k) j))/\Cg .i64 ws la L.length (ix L)/\Below w.heap.size w ws) (fun _ kx _=>L.length-(intOf kx).toNat)
         case atStart=>exact ⟨0,Nat.zero_le _,rfl,by simp,R1,lR,C1⟩
         case round =>
          obtain ⟨k,hk,rfl,rfl,hR2,hL2,hb2⟩:=hrel
          by_cases hkl:k<L.length
          .have hkl':(k:Int)<(L.length:Int):=by omega
           obtain ⟨lb,lo,rfl,hlc⟩:=hL2 k hkl;have hm256:(A+k)%256<256:=Nat.mod_lt _ (by decide)
           have hm':(((A+k)%256:Nat):Int)<256:=by omega
           have hdst:=hR2.cell hm256;have hfz:=hR2.frozen ((A+k)%256)
           have hlb:w.heap.size<lb:=by have:=lL lb (lo+k) (Cc hkl); omega
           have R2:=(hR2.drew.set ((A+k)%256) (.i (ix L k))).congr (g:=fun j=>.i (put o A (L.take (k+1)) j)) (fun j _=>by
            rw [List.take_succ_eq_append_getElem hkl,Km,List.length_take,Nat.min_eq_left (Nat.le_of_lt hkl)];unfold upd;have eg:=Rl L k hkl;rw [eg]
            split <;> rfl)
           have HR2:=Ac R2;have W2:Wrote (fun b _=>b=w.heap.size) wr (wr.drew.sc w.heap.size ((A+k)%256) (.i (ix L k))):=Wrote.setCell (R:=fun b _=>b=w.heap.size) (b:=w.heap.size) (o:=(A+k)%256) (Wrote.refl _ wr).drew (fun _=>rfl) _;have HL2:=Ac (hL2.keep W2 (fun b o' hF e=>by have:=lL b o' hF; omega));have B2:Below w.heap.size w (wr.drew.sc w.heap.size ((A+k)%256) (.i (ix L k))):=hb2.drew.setCell (Nat.le_refl _) _
           have hqq:((A+k:Nat):Int)%256=(((A+k)%256:Nat):Int):=by omega
           generalize hq:(A+k)%256=Q at *;generalize hx:ix L k=X at *;clear R2 W2 hR2 hL2;go_wp2_with fail
           go_region_with (first | (go_at_call 128; refine (Jp _ Q (by omega) _).mono ?_; rintro e w' ⟨rfl,rfl⟩))
           all_goals
            go_wp2;go_roundw
            case rel=>exact ⟨k+1,by omega,by go_num,by go_num,Ae HR2,Ae HL2,B2⟩
            case measure=>simp [intOf]; omega
          .have hkl':¬ (k:Int)<(L.length:Int):=by omega
           have ek:k=L.length:=by omega
           subst ek;have R3:=hR2;rw [List.take_length] at R3;have HR3:=Ac R3
           have HA3:Hid (Asm t (i+1) (put o A L) (A+L.length) (i+1) (m+1)):=by
            have:=Asm.line (Ae HA) (Ae HS) (Ae HE) (Ae HB);rw [if_pos (by omega),Int.toNat_natCast] at this;exact this
           clear R3 hR2 hL2;go_wp2;go_roundw
           case rel=>exact ⟨i+1,A+L.length,i+1,m+1,put o A L,by omega,by go_num,by go_num,by go_num,by go_num,Ae HA3,by omega,by omega,by omega,Ae HR3,hb2⟩
           case measure=>simp [intOf]; omega
        .have h0':decide (0<=tq)=false:=decide_eq_false h0
         have hAb:a<=255+3*i:=by omega
         have WL:Wrote Aj wr w1:=Aa L1 Aj;have R1:=(Ae HR).of_block (L1.block _ hgw);have C1:=hbel.trans (L1.mono hbel.size);go_wp2_with fail
         go_loopw [5,13] (fun ax kx ws=>∃ k:Nat,k<=L.length/\kx=.i k/\ax=.i (a+k:Nat)/\ws.rowIs w.heap.size 3 256 (fun j=>.i (put o a (L.take k) j))/\Cg .i64 ws la L.length (ix L)/\Below w.heap.size w ws) (fun _ kx _=>L.length-(intOf kx).toNat)
         case atStart=>exact ⟨0,Nat.zero_le _,rfl,by simp,R1,lR,C1⟩
         case round =>
          obtain ⟨k,hk,rfl,rfl,hR2,hL2,hb2⟩:=hrel
          by_cases hkl:k<L.length
          .have hkl':(k:Int)<(L.length:Int):=by omega
           obtain ⟨lb,lo,rfl,hlc⟩:=hL2 k hkl;have hm256:(a+k)%256<256:=Nat.mod_lt _ (by decide)
           have hm':(((a+k)%256:Nat):Int)<256:=by omega
           have hdst:=hR2.cell hm256;have hfz:=hR2.frozen ((a+k)%256)
           have hlb:w.heap.size<lb:=by have:=lL lb (lo+k) (Cc hkl); omega
           have R2:=(hR2.drew.set ((a+k)%256) (.i (ix L k))).congr (g:=fun j=>.i (put o a (L.take (k+1)) j)) (fun j _=>by
            rw [List.take_succ_eq_append_getElem hkl,Km,List.length_take,Nat.min_eq_left (Nat.le_of_lt hkl)];unfold upd;have eg:=Rl L k hkl;rw [eg]
            split <;> rfl)
           have HR2:=Ac R2;have W2:Wrote (fun b _=>b=w.heap.size) wr (wr.drew.sc w.heap.size ((a+k)%256) (.i (ix L k))):=Wrote.setCell (R:=fun b _=>b=w.heap.size) (b:=w.heap.size) (o:=(a+k)%256) (Wrote.refl _ wr).drew (fun _=>rfl) _;have HL2:=Ac (hL2.keep W2 (fun b o' hF e=>by have:=lL b o' hF; omega));have B2:Below w.heap.size w (wr.drew.sc w.heap.size ((a+k)%256) (.i (ix L k))):=hb2.drew.setCell (Nat.le_refl _) _
           have hqq:((a+k:Nat):Int)%256=(((a+k)%256:Nat):Int):=by omega
           generalize hq:(a+k)%256=Q at *;generalize hx:ix L k=X at *;clear R2 W2 hR2 hL2;go_wp2_with fail
           go_region_with (first | (go_at_call 128; refine (Jp _ Q (by omega) _).mono ?_; rintro e w' ⟨rfl,rfl⟩))
           all_goals
            go_wp2;go_roundw
            case rel=>exact ⟨k+1,by omega,by go_num,by go_num,Ae HR2,Ae HL2,B2⟩
            case measure=>simp [intOf]; omega
          .have hkl':¬ (k:Int)<(L.length:Int):=by omega
           have ek:k=L.length:=by omega
           subst ek;have R3:=hR2;rw [List.take_length] at R3;have HR3:=Ac R3
           have HA3:Hid (Asm t (i+1) (put o a L) (a+L.length) (i+1) (m+1)):=by
            have:=Asm.line (Ae HA) (Ae HS) (Ae HE) (Ae HB);rw [if_neg (by omega)] at this;exact this
           clear R3 hR2 hL2;go_wp2;go_roundw
           case rel=>exact ⟨i+1,a+L.length,i+1,m+1,put o a L,by omega,by go_num,by go_num,by go_num,by go_num,Ae HA3,by omega,by omega,by omega,Ae HR3,hb2⟩
           case measure=>simp [intOf]; omega
   .have hle':¬ (i:Int)<=(t.size:Int):=by omega
    have hie:i=t.size+1:=by omega
    have HQ:Hid (Jb0 t 256 o 0):=Or.inr (Or.inr ⟨hsz,rfl,rfl,o,a,fr,m,hie ▸ Ae HA,fun _ _=>rfl⟩);clear hie;go_wp2;go_ret2
    first
     | exact ⟨⟨_,256,_,o,rfl,Ua (Ae HR) (Nat.le_refl _) (by omega),HQ.out⟩,hbel⟩
     | exact ⟨⟨_,256,_,rfl,o,Ua (Ae HR) (Nat.le_refl _) (by omega),HQ.out⟩,hbel⟩
end Go.Proofs.YtijljlnooibbmaaGreatDoor
