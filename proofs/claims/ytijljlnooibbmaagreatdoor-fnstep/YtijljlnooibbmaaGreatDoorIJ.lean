import Derived.Test.YtijljlnooibbmaaGreatDoorG2
import Derived.Test.YtijljlnooibbmaaGreatDoorW4
namespace Go.Proofs.YtijljlnooibbmaaGreatDoor
set_option maxHeartbeats 4000000
set_option maxRecDepth 20000
open Go.Proofs.Tryz
set_option linter.unusedVariables false
open Go.ChangeShapes Go.WideShapes Go.ChangeAt Go.RowKit
theorem Wx (m:Nat) (ln:Nat->Nat) (f:Nat->Nat->Int) (n:Nat) (g:Nat->Int) (bank x:Int):0<=peekV m ln f n g bank x/\peekV m ln f n g bank x<=255:=by
  unfold peekV;split
  . rename_i h
    obtain ⟨hi,hn,hb,hg⟩:=Hs h;have hI:=of_decide_eq_true hi
    have bk:∀ i j,i<m->j<256->0<=f i j/\f i j<=255:=fun i j h1 h2=>(Hl (hI.1 i h1)).2 j h2
    unfold peekOf
    rcases Jb (x%65536) (by omega) (by omega) with ⟨e,p0,p1⟩ | ⟨e,p0,p1⟩ | ⟨e,p0,p1⟩ | e
    . rw [if_pos e]; exact hg _ (by omega)
    . rw [if_neg (by omega),if_pos e]; exact bk _ _ (by omega) (by omega)
    . rw [if_neg (by omega),if_neg (by omega),if_pos e]; exact bk _ _ (by omega) (by omega)
    . rw [if_neg (by omega),if_neg (by omega),if_neg (by omega)]; omega
  . omega
structure FB (w W:World) (ia:Option Addr) (m icap:Nat) (ua:Option Addr) (n ucap:Nat) (bank:Int):Prop where
  img:W.heap[w.heap.size]?=some (.cells #[.slice ia m icap] 26 (0,0))
  mem:W.heap[w.heap.size+1]?=some (.cells #[.slice ua n ucap,.i bank] 29 (0,0))
  res:W.heap[w.heap.size+1+1]?=some (.cells #[.i 0,.i 0] 49 (0,0))
  low:Below w.heap.size w W
section
variable {w W W':World} {ia:Option Addr} {m icap:Nat} {ua:Option Addr} {n ucap:Nat} {bank:Int}
theorem FB.below (D:FB w W ia m icap ua n ucap bank) (L:Below W.heap.size W W'):FB w W' ia m icap ua n ucap bank :=
  ⟨Ab D.img L (Ad D.img),Ab D.mem L (Ad D.mem),Ab D.res L (Ad D.res),Ah D.low L⟩
theorem FB.cells (D:FB w W ia m icap ua n ucap bank):W.cell? ⟨w.heap.size,0,none⟩=some (.slice ia m icap)/\W.cell? ⟨w.heap.size+1,0,none⟩=some (.slice ua n ucap)/\W.cell? ⟨w.heap.size+1,1,none⟩=some (.i bank) :=
  ⟨Af D.img 0,Af D.mem 0,Af D.mem 1⟩
end
theorem Qu (w:World) (F G:Nat->Nat->Prop) (v u:Value) (m:Nat) (ln:Nat->Nat) (f:Nat->Nat->Int) (n:Nat) (g:Nat->Int) (bank x:Int) (H:Bg .i64 w F v m ln f) (K:Ints .i64 w G u n g) (T:Da w) :
    Calls prog 12 #[.agg #[v],.agg #[u,.i bank],.i x] w fun e w'=>e=.returned (.agg #[.i (peekV m ln f n g bank x),.i (Jf (peekV m ln f n g bank) x)])/\Below w.heap.size w w':=by
  obtain ⟨ia,icap,rfl,im,iF,iR⟩:=H;obtain ⟨ua,ucap,rfl,un,uR,uF⟩:=K
  have H:Bg .i64 w F (.slice ia m icap) m ln f:=⟨ia,icap,rfl,im,iF,iR⟩
  have K:Ints .i64 w G (.slice ua n ucap) n g:=⟨ua,ucap,rfl,un,uR,uF⟩
  clear iF iR uR uF;have HP1:=Ac (J4 m ln f n g bank (x+1));have HP2:=Ac (J4 m ln f n g bank (x+2));have HB:=Ac (Wx m ln f n g bank (x+1))
  have D0:FB w (((w.alloc (.cells #[.slice ia m icap] 26)).alloc (.cells #[.slice ua n ucap,.i bank] 29)).alloc (.cells #[.i 0,.i 0] 49)) ia m icap ua n ucap bank :=
    ⟨Az (Az (Ak w #[.slice ia m icap] 26) (.cells #[.slice ua n ucap,.i bank] 29)) (.cells #[.i 0,.i 0] 49),
     by simpa using Az (Ak (w.alloc (.cells #[.slice ia m icap] 26)) #[.slice ua n ucap,.i bank] 29) (.cells #[.i 0,.i 0] 49),
     by simpa using Ak ((w.alloc (.cells #[.slice ia m icap] 26)).alloc (.cells #[.slice ua n ucap,.i bank] 29)) #[.i 0,.i 0] 49,
     (((Below.refl _ _).alloc (Nat.le_refl _) _).alloc (by simp) _).alloc (by simp; omega) _⟩
  have HFA:Hid (∀ t,(opLn (peekV m ln f n g bank x)=2->t=peekV m ln f n g bank (x+1))->(opLn (peekV m ln f n g bank x)=3->t=peekV m ln f n g bank (x+1)%256+256*(peekV m ln f n g bank (x+2)%256))->(¬ opLn (peekV m ln f n g bank x)=2->¬ opLn (peekV m ln f n g bank x)=3->t=0)->Jf (peekV m ln f n g bank) x=t):=by
    intro t h1 h2 h3;unfold Jf
    by_cases e2:opLn (peekV m ln f n g bank x)=2
    . rw [if_pos e2,h1 e2]
    . by_cases e3:opLn (peekV m ln f n g bank x)=3
      . rw [if_neg e2,if_pos e3,h2 e3]
      . rw [if_neg e2,if_neg e3,h3 e2 e3]
  go_enter func12,ntmps12
  go_wp2_with fail;generalize (((w.alloc (.cells #[.slice ia m icap] 26)).alloc (.cells #[.slice ua n ucap,.i bank] 29)).alloc (.cells #[.i 0,.i 0] 49))=W0 at *;refine (Hv _ F G _ _ m ln f n g bank x (H.keep (Aa D0.low Aj) (fun _ _ _ x=>x)) (K.keep (Aa D0.low Aj) (fun _ _ _ x=>x))).mono ?_;rintro e W1 ⟨rfl,L⟩;have D1:=D0.below L;clear D0 L;go_wp2_with fail;refine (show Calls prog 40 #[.i (peekV m ln f n g bank x)] W1 (fun e w'=>e=.returned (.i (opLn (peekV m ln f n g bank x)))/\Below W1.heap.size W1 w') from Qn W1 _ (T.mono D1.low)).mono ?_;rintro e W2 ⟨rfl,L⟩;have D2:=D1.below L;clear D1 L;generalize opLn (peekV m ln f n g bank x)=len at *
  by_cases e2:len=2
  . have HE:=Ac (HFA.out _ (fun _=>rfl) (fun h=>absurd h (by omega)) (fun h=>absurd e2 h))
    clear HFA;subst e2;obtain ⟨c1,c2,c3⟩:=D2.cells;go_wp2_with fail;refine (Hv _ F G _ _ m ln f n g bank _ (H.keep (Aa D2.low Aj) (fun _ _ _ x=>x)) (K.keep (Aa D2.low Aj) (fun _ _ _ x=>x))).mono ?_;rintro e W3 ⟨rfl,L⟩;rw [HP1.out];clear c1 c2 c3;have D3:=D2.below L;clear D2 L;have d1:=Af D3.res;have d3:=Au D3.res;go_wp2_with (go_at_call 41; refine (I7 _ _ _).mono ?_; rintro e w' ⟨rfl,rfl⟩);refine bodyPost_ret (v:=.agg #[.i (peekV m ln f n g bank x),.i (peekV m ln f n g bank (x+1)%256)]) (by simp [results,results12,go_sem,d1]) rfl ?_;exact ⟨by rw [HE.out,Int.emod_eq_of_lt HB.out.1 (by have:=HB.out.2; omega)],(D3.low.setCell (by simp; omega) _).setCell (by simp; omega) _⟩
  . have e2':(len==2)=false:=by simpa using e2
    by_cases e3:len=3
    . have HE:=Ac (HFA.out _ (fun h=>absurd h (by omega)) (fun _=>rfl) (fun _ h=>absurd e3 h))
      clear HFA;subst e3;obtain ⟨c1,c2,c3⟩:=D2.cells;go_wp2_with fail;refine (Hv _ F G _ _ m ln f n g bank _ (H.keep (Aa D2.low Aj) (fun _ _ _ x=>x)) (K.keep (Aa D2.low Aj) (fun _ _ _ x=>x))).mono ?_;rintro e W3 ⟨rfl,L⟩;rw [HP2.out];clear c1 c2 c3;have D3:=D2.below L;clear D2 L;obtain ⟨c1,c2,c3⟩:=D3.cells;go_wp2_with fail;refine (Hv _ F G _ _ m ln f n g bank _ (H.keep (Aa D3.low Aj) (fun _ _ _ x=>x)) (K.keep (Aa D3.low Aj) (fun _ _ _ x=>x))).mono ?_;rintro e W4 ⟨rfl,L⟩;rw [HP1.out];clear c1 c2 c3;have D4:=D3.below L;clear D3 L;have d1:=Af D4.res;have d3:=Au D4.res;go_wp2_with (go_at_call 41; refine (I7 _ _ _).mono ?_; rintro e w' ⟨rfl,rfl⟩)
      refine bodyPost_ret (v:=.agg #[.i (peekV m ln f n g bank x),.i (peekV m ln f n g bank (x+1)%256+256*(peekV m ln f n g bank (x+2)%256))]) (by simp [results,results12,go_sem,d1]) rfl ?_;exact ⟨by rw [HE.out],(D4.low.setCell (by simp; omega) _).setCell (by simp; omega) _⟩
    . have e3':(len==3)=false:=by simpa using e3
      have HE:=Ac (HFA.out 0 (fun h=>absurd h e2) (fun h=>absurd h e3) (fun _ _=>rfl));clear e2 e3 HFA;have d1:=Af D2.res;have d3:=Au D2.res;go_wp2_with (go_at_call 41; refine (I7 _ _ _).mono ?_; rintro e w' ⟨rfl,rfl⟩);refine bodyPost_ret (v:=.agg #[.i (peekV m ln f n g bank x),.i 0]) (by simp [results,results12,go_sem,d1]) rfl ?_;exact ⟨by rw [HE.out],(D2.low.setCell (by simp; omega) _).setCell (by simp; omega) _⟩
def N3 (op arg X:Int):Int:=(if op=14\/op=15 then arg+X else arg)%65536
theorem Jch:∀ k:Fin 30,k.1≠14->k.1≠15->((opNm.getD k.1 ByteArray.empty).toList==[108,97,120])=false/\((opNm.getD k.1 ByteArray.empty).toList==[115,97,120])=false:=by
  intro ⟨i,hi⟩ h14 h15
  show _/\_
  match i,hi,h14,h15 with
  | 0,_,_,_=>exact ⟨by kernel_rfl,by kernel_rfl⟩
  | 1,_,_,_=>exact ⟨by kernel_rfl,by kernel_rfl⟩
  | 2,_,_,_=>exact ⟨by kernel_rfl,by kernel_rfl⟩
  | 3,_,_,_=>exact ⟨by kernel_rfl,by kernel_rfl⟩
  | 4,_,_,_=>exact ⟨by kernel_rfl,by kernel_rfl⟩
  | 5,_,_,_=>exact ⟨by kernel_rfl,by kernel_rfl⟩
  | 6,_,_,_=>exact ⟨by kernel_rfl,by kernel_rfl⟩
  | 7,_,_,_=>exact ⟨by kernel_rfl,by kernel_rfl⟩
  | 8,_,_,_=>exact ⟨by kernel_rfl,by kernel_rfl⟩
  | 9,_,_,_=>exact ⟨by kernel_rfl,by kernel_rfl⟩
  | 10,_,_,_=>exact ⟨by kernel_rfl,by kernel_rfl⟩
  | 11,_,_,_=>exact ⟨by kernel_rfl,by kernel_rfl⟩
  | 12,_,_,_=>exact ⟨by kernel_rfl,by kernel_rfl⟩
  | 13,_,_,_=>exact ⟨by kernel_rfl,by kernel_rfl⟩
  | 14,_,h,_=>exact absurd rfl h
  | 15,_,_,h=>exact absurd rfl h
  | 16,_,_,_=>exact ⟨by kernel_rfl,by kernel_rfl⟩
  | 17,_,_,_=>exact ⟨by kernel_rfl,by kernel_rfl⟩
  | 18,_,_,_=>exact ⟨by kernel_rfl,by kernel_rfl⟩
  | 19,_,_,_=>exact ⟨by kernel_rfl,by kernel_rfl⟩
  | 20,_,_,_=>exact ⟨by kernel_rfl,by kernel_rfl⟩
  | 21,_,_,_=>exact ⟨by kernel_rfl,by kernel_rfl⟩
  | 22,_,_,_=>exact ⟨by kernel_rfl,by kernel_rfl⟩
  | 23,_,_,_=>exact ⟨by kernel_rfl,by kernel_rfl⟩
  | 24,_,_,_=>exact ⟨by kernel_rfl,by kernel_rfl⟩
  | 25,_,_,_=>exact ⟨by kernel_rfl,by kernel_rfl⟩
  | 26,_,_,_=>exact ⟨by kernel_rfl,by kernel_rfl⟩
  | 27,_,_,_=>exact ⟨by kernel_rfl,by kernel_rfl⟩
  | 28,_,_,_=>exact ⟨by kernel_rfl,by kernel_rfl⟩
  | 29,_,_,_=>exact ⟨by kernel_rfl,by kernel_rfl⟩
  | n+30,hi,_,_=>exact absurd hi (by omega)
theorem Wy (op:Int) (h:op≠14) (g:op≠15):((nmOf op).toList==[108,97,120])=false/\((nmOf op).toList==[115,97,120])=false:=by
  unfold nmOf;split
  . rename_i k
    exact Jch ⟨op.toNat,by omega⟩ (by show op.toNat≠14; omega) (by show op.toNat≠15; omega)
  . exact ⟨by kernel_rfl,by kernel_rfl⟩
theorem Qv (w:World) (op arg A X S Pc:Int) (Z N C I:Bool) (T:Da w):Calls prog 152 #[.agg #[.i op,.i arg],.agg (cR A X S Pc Z N C I)] w
    fun e w'=>e=.returned (.i (N3 op arg X))/\Below w.heap.size w w':=by
  have L0:Below w.heap.size w ((w.alloc (.cells #[.i op,.i arg] 49)).alloc (.cells (cR A X S Pc Z N C I) 31)):=((Below.refl _ _).alloc (Nat.le_refl _) _).alloc (by simp) _;have k0:=Az (Ak w #[.i op,.i arg] 49) (.cells (cR A X S Pc Z N C I) 31)
  have k1:((w.alloc (.cells #[.i op,.i arg] 49)).alloc (.cells (cR A X S Pc Z N C I) 31)).heap[w.heap.size+1]?=some (.cells (cR A X S Pc Z N C I) 31 (0,0)):=by simpa using Ak (w.alloc (.cells #[.i op,.i arg] 49)) (cR A X S Pc Z N C I) 31
  have HW:Hid (wrap64 (arg+X)%65536=(arg+X)%65536):=by show _=_; unfold wrap64; omega
  go_enter func152,ntmps152
  go_wp2_with fail;generalize ((w.alloc (.cells #[.i op,.i arg] 49)).alloc (.cells (cR A X S Pc Z N C I) 31))=W0 at *;refine (Ws _ _ (T.mono L0)).mono ?_;rintro e W1 ⟨rfl,L⟩;have c0:=Af (Ab k0 L (Ad k0));have c1:=Af (Ab k1 L (Ad k1));have L1:=Ah L0 L;clear k0 k1 L0 L T
  by_cases h14:op=14
  . subst h14
    rw [show nmOf 14=⟨#[108,97,120]⟩ from rfl];go_wp2_with (go_at_call 63; refine (Hj _ _).mono ?_; rintro e w' ⟨rfl,rfl⟩; rw [HW.out]);go_ret;exact ⟨rfl,L1⟩
  . by_cases h15:op=15
    . subst h15
      rw [show nmOf 15=⟨#[115,97,120]⟩ from rfl];go_wp2_with (go_at_call 63; refine (Hj _ _).mono ?_; rintro e w' ⟨rfl,rfl⟩; rw [HW.out]);go_ret;exact ⟨rfl,L1⟩
    . have HE:Hid (N3 op arg X=arg%65536):=by show _=_; unfold N3; rw [if_neg (by omega)]
      obtain ⟨n1,n2⟩:=Wy op h14 h15;clear h14 h15;generalize nmOf op=nm at *;go_wp2_with (go_at_call 63; refine (Hj _ _).mono ?_; rintro e w' ⟨rfl,rfl⟩);go_ret;exact ⟨A5 HE.out.symm,L1⟩
theorem Xa (w:World) (op arg A X S Pc:Int) (Z N C I:Bool) (T:Da w):Calls prog 115 #[.agg #[.i op,.i arg],.agg (cR A X S Pc Z N C I)] w
    fun e w'=>e=.returned (.tuple #[.i (Ch op),.i (Gv op arg X),.i (N1 op A)])/\Below w.heap.size w w':=by
  have L0:Below w.heap.size w ((w.alloc (.cells #[.i op,.i arg] 49)).alloc (.cells (cR A X S Pc Z N C I) 31)):=((Below.refl _ _).alloc (Nat.le_refl _) _).alloc (by simp) _;have k0:=Az (Ak w #[.i op,.i arg] 49) (.cells (cR A X S Pc Z N C I) 31)
  have k1:((w.alloc (.cells #[.i op,.i arg] 49)).alloc (.cells (cR A X S Pc Z N C I) 31)).heap[w.heap.size+1]?=some (.cells (cR A X S Pc Z N C I) 31 (0,0)):=by simpa using Ak (w.alloc (.cells #[.i op,.i arg] 49)) (cR A X S Pc Z N C I) 31
  have HA:Hid ((Ch op=0->Gv op arg X=0)/\(Ch op≠0->Gv op arg X=N3 op arg X)/\(Ch op=2->N1 op A=A%256)/\(Ch op≠2->N1 op A=0)):=by
    show _/\_/\_/\_
    unfold Gv N1 N3;exact ⟨fun h=>if_pos h,fun h=>if_neg h,fun h=>if_pos h,fun h=>if_neg h⟩
  have HC:Hid (Ch op=0\/Ch op=1\/Ch op=2):=by
    show _\/_\/_
    unfold Ch;split
    . exact Or.inr (Or.inl rfl)
    . split
      . exact Or.inr (Or.inr rfl)
      . exact Or.inl rfl
  go_enter func115,ntmps115
  go_wp2_with fail;generalize ((w.alloc (.cells #[.i op,.i arg] 49)).alloc (.cells (cR A X S Pc Z N C I) 31))=W0 at *;refine (Rq _ _ (T.mono L0)).mono ?_;rintro e W1 ⟨rfl,L⟩;rw [Jd0];have c0:=Af (Ab k0 L (Ad k0));have c1:=Af (Ab k1 L (Ad k1));have L1:=Ah L0 L;have T1:=Ac (T.mono L1);clear k0 k1 L0 L T;generalize hac:Ch op=ac at *;replace hac:=Ac hac
  rcases HC.out with rfl | rfl | rfl
  . have e1:=Ac (HA.out.1 rfl)
    have e2:=Ac (HA.out.2.2.2 (by decide));clear HA HC;go_wp2
    go_ret3
    exact ⟨by rw [hac.out,e1.out,e2.out]; rfl,L1⟩
  . have e1:=Ac (HA.out.2.1 (by decide))
    have e2:=Ac (HA.out.2.2.2 (by decide));clear HA HC;go_wp2_with (go_at_call 152; refine (Qv _ op arg A X S Pc Z N C I (Ae T1)).mono ?_; rintro e w' ⟨rfl,L2⟩)
    go_ret3
    exact ⟨by rw [hac.out,e1.out,e2.out]; rfl,Ah L1 L2⟩
  . have e1:=Ac (HA.out.2.1 (by decide))
    have e2:=Ac (HA.out.2.2.1 rfl);clear HA HC;go_wp2_with (first | (go_at_call 62; refine (Ct _ _).mono ?_; rintro e w' ⟨rfl,rfl⟩) | (go_at_call 152; refine (Qv _ op arg A X S Pc Z N C I (Ae T1)).mono ?_; rintro e w' ⟨rfl,L2⟩))
    go_ret3
    exact ⟨by rw [hac.out,e1.out,e2.out]; rfl,Ah L1 L2⟩
set_option maxHeartbeats 4000000
set_option maxRecDepth 8000
set_option linter.unusedSimpArgs false
def Jc5:List Nat:=[185,186,187,185,188,189,190,191,192,193,194,195,196,197,187,185,198,199,200,201,202,203,204,205,206,149,207,208,209,210]
def Gz (op:Int):Nat:=if 0<=op/\op<=29 then Jc5.getD op.toNat 185 else 185
theorem Jat:(prog.info? 199).map (·.size)=some 30:=by kernel_rfl
def deedVs:Array Value:=(Jc5.map fun f=>Value.func (.func f) #[] #[]).toArray
theorem Jau:(#[.func (.func 185) #[] #[],.func (.func 186) #[] #[],.func (.func 187) #[] #[],.func (.func 185) #[] #[],.func (.func 188) #[] #[],.func (.func 189) #[] #[],.func (.func 190) #[] #[],.func (.func 191) #[] #[],.func (.func 192) #[] #[],.func (.func 193) #[] #[],.func (.func 194) #[] #[],.func (.func 195) #[] #[],.func (.func 196) #[] #[],.func (.func 197) #[] #[],.func (.func 187) #[] #[],.func (.func 185) #[] #[],.func (.func 198) #[] #[],.func (.func 199) #[] #[],.func (.func 200) #[] #[],.func (.func 201) #[] #[],.func (.func 202) #[] #[],.func (.func 203) #[] #[],.func (.func 204) #[] #[],.func (.func 205) #[] #[],.func (.func 206) #[] #[],.func (.func 149) #[] #[],.func (.func 207) #[] #[],.func (.func 208) #[] #[],.func (.func 209) #[] #[],.func (.func 210) #[] #[]]:Array Value)=deedVs:=rfl
theorem Jav (n:Nat) (hn:n<30):deedVs[n]?=some (.func (.func (Gz n)) #[] #[]):=by
 have hl:n<Jc5.length:=hn;unfold deedVs Gz;rw [if_pos (by omega),Int.toNat_natCast,Sg,List.getElem?_map,List.getD_eq_getElem?_getD,List.getElem?_eq_getElem hl]
 rfl
theorem Jgd (w:World) (op:Int):Calls prog 161 #[.i op] w fun e w'=>e=.returned (.func (.func (Gz op)) #[] #[])/\Below w.heap.size w w':=by
 obtain ⟨fv,hfv⟩:∃ x,Hid (x=Value.func (.func (Gz op)) #[] #[]):=⟨_,rfl⟩
 rw [<- hfv.out]
 go_enter func161,ntmps161
 go_upto_region 1 with (fail);rename_i K1 hK1;refine wp_region_lit ?_;refine wpList_plain rfl (fun K9 hK9=>?_);go_simp;refine hK9 _ _ ?_;clear hK9;refine wpList_plain rfl (fun K9 hK9=>?_);go_simp;refine hK9 _ _ ?_;clear hK9;rw [Jau];have LA:=(Below.refl w.heap.size w).alloc (Nat.le_refl _) (.cells #[.nilFunc,.nilFunc,.nilFunc,.nilFunc,.nilFunc,.nilFunc,.nilFunc,.nilFunc,.nilFunc,.nilFunc,.nilFunc,.nilFunc,.nilFunc,.nilFunc,.nilFunc,.nilFunc,.nilFunc,.nilFunc,.nilFunc,.nilFunc,.nilFunc,.nilFunc,.nilFunc,.nilFunc,.nilFunc,.nilFunc,.nilFunc,.nilFunc,.nilFunc,.nilFunc] 199)
 have kA:=Ak w #[.nilFunc,.nilFunc,.nilFunc,.nilFunc,.nilFunc,.nilFunc,.nilFunc,.nilFunc,.nilFunc,.nilFunc,.nilFunc,.nilFunc,.nilFunc,.nilFunc,.nilFunc,.nilFunc,.nilFunc,.nilFunc,.nilFunc,.nilFunc,.nilFunc,.nilFunc,.nilFunc,.nilFunc,.nilFunc,.nilFunc,.nilFunc,.nilFunc,.nilFunc,.nilFunc] 199;refine wpList_store_row rfl _ _ _ rfl (w.heap.size) deedVs rfl rfl _ _ kA Jat rfl (by first | kernel_rfl | simp [Value.oneCell']) ?_;have TT:=Bq kA deedVs;have C0:=LA.trans (TT.below LA.size (fun b o hb (h:b=_)=>by omega));have kF:=setRow_heap _ _ _ deedVs _ _ kA;clear LA TT kA
 generalize (w.al #[.nilFunc,.nilFunc,.nilFunc,.nilFunc,.nilFunc,.nilFunc,.nilFunc,.nilFunc,.nilFunc,.nilFunc,.nilFunc,.nilFunc,.nilFunc,.nilFunc,.nilFunc,.nilFunc,.nilFunc,.nilFunc,.nilFunc,.nilFunc,.nilFunc,.nilFunc,.nilFunc,.nilFunc,.nilFunc,.nilFunc,.nilFunc,.nilFunc,.nilFunc,.nilFunc] 199).setRow w.heap.size deedVs=W1 at *;refine hK1 _ _ ?_;clear hK1;have cc:=Af kF
 by_cases h:0<=op/\op<=29
 .obtain ⟨n,rfl⟩:∃ n:Nat,op=n:=⟨op.toNat,by omega⟩
  have hn:n<30:=by omega
  have hcell:W1.cell? ⟨w.heap.size,n,none⟩=some (.func (.func (Gz n)) #[] #[]):=(cc n).trans (Jav n hn);rw [<- hfv.out] at hcell;clear cc;go_wp2;go_ret;exact ⟨rfl,C0⟩
 .have hF:Gz op=185:=by unfold Gz; rw [if_neg h]
  have hv:fv=.func (.func 185) #[] #[]:=by rw [hfv.out,hF]
  subst hv;clear cc hfv
  have h':op<0\/30<=op:=by omega
  rcases h' with h' | h'
  .go_wp2
   go_ret;exact ⟨rfl,C0⟩
  .have h2:0<=op:=by omega
   go_wp2;go_ret;exact ⟨rfl,C0⟩
theorem Jaw (op:Int) (args:Array Value) (w:World):(callFunc (Gz op) args).run prog w=.ok (.enter (Gz op) args) w:=by
 by_cases h:0<=op/\op<=29
 .obtain ⟨n,rfl⟩:∃ n:Nat,op=n:=⟨op.toNat,by omega⟩
  have hn:n<30:=by omega
  match n,hn with
  | 0,_=>show (callFunc 185 args).run prog w=.ok (.enter 185 args) w; kernel_rfl
  | 1,_=>show (callFunc 186 args).run prog w=.ok (.enter 186 args) w; kernel_rfl
  | 2,_=>show (callFunc 187 args).run prog w=.ok (.enter 187 args) w; kernel_rfl
  | 3,_=>show (callFunc 185 args).run prog w=.ok (.enter 185 args) w; kernel_rfl
  | 4,_=>show (callFunc 188 args).run prog w=.ok (.enter 188 args) w; kernel_rfl
  | 5,_=>show (callFunc 189 args).run prog w=.ok (.enter 189 args) w; kernel_rfl
  | 6,_=>show (callFunc 190 args).run prog w=.ok (.enter 190 args) w; kernel_rfl
  | 7,_=>show (callFunc 191 args).run prog w=.ok (.enter 191 args) w; kernel_rfl
  | 8,_=>show (callFunc 192 args).run prog w=.ok (.enter 192 args) w; kernel_rfl
  | 9,_=>show (callFunc 193 args).run prog w=.ok (.enter 193 args) w; kernel_rfl
  | 10,_=>show (callFunc 194 args).run prog w=.ok (.enter 194 args) w; kernel_rfl
  | 11,_=>show (callFunc 195 args).run prog w=.ok (.enter 195 args) w; kernel_rfl
  | 12,_=>show (callFunc 196 args).run prog w=.ok (.enter 196 args) w; kernel_rfl
  | 13,_=>show (callFunc 197 args).run prog w=.ok (.enter 197 args) w; kernel_rfl
  | 14,_=>show (callFunc 187 args).run prog w=.ok (.enter 187 args) w; kernel_rfl
  | 15,_=>show (callFunc 185 args).run prog w=.ok (.enter 185 args) w; kernel_rfl
  | 16,_=>show (callFunc 198 args).run prog w=.ok (.enter 198 args) w; kernel_rfl
  | 17,_=>show (callFunc 199 args).run prog w=.ok (.enter 199 args) w; kernel_rfl
  | 18,_=>show (callFunc 200 args).run prog w=.ok (.enter 200 args) w; kernel_rfl
  | 19,_=>show (callFunc 201 args).run prog w=.ok (.enter 201 args) w; kernel_rfl
  | 20,_=>show (callFunc 202 args).run prog w=.ok (.enter 202 args) w; kernel_rfl
  | 21,_=>show (callFunc 203 args).run prog w=.ok (.enter 203 args) w; kernel_rfl
  | 22,_=>show (callFunc 204 args).run prog w=.ok (.enter 204 args) w; kernel_rfl
  | 23,_=>show (callFunc 205 args).run prog w=.ok (.enter 205 args) w; kernel_rfl
  | 24,_=>show (callFunc 206 args).run prog w=.ok (.enter 206 args) w; kernel_rfl
  | 25,_=>show (callFunc 149 args).run prog w=.ok (.enter 149 args) w; kernel_rfl
  | 26,_=>show (callFunc 207 args).run prog w=.ok (.enter 207 args) w; kernel_rfl
  | 27,_=>show (callFunc 208 args).run prog w=.ok (.enter 208 args) w; kernel_rfl
  | 28,_=>show (callFunc 209 args).run prog w=.ok (.enter 209 args) w; kernel_rfl
  | 29,_=>show (callFunc 210 args).run prog w=.ok (.enter 210 args) w; kernel_rfl
  | n+30,hn=>omega
 .have hF:Gz op=185:=by unfold Gz; rw [if_neg h]
  rw [hF]
  show (callFunc 185 args).run prog w=.ok (.enter 185 args) w
  kernel_rfl
set_option maxRecDepth 20000
theorem Jfj (w:World) (B c:Nat) (a:Option Addr) (len cap:Nat) (H:Ep w B c a len cap) (m n:Nat) (hn:0<n) (hn':n<=1048576) (hm:m≠c) (zs:Nat->ByteArray) (hz:∀ j,j<n->w.cell? ⟨m,j,none⟩=some (.string (zs j))) :
  Calls prog 145 #[(pt c 0),.slice (some ⟨m,0,none⟩) n n] w fun e w'=>∃ j:Nat,e=.returned (.string (zs j))/\j<n/\Ep w' B c a len cap/\Bd c w w':=by
 go_enter func145,ntmps145
 go_wp2_with fail;refine (Dk _ B c a len cap H n).mono ?_;rintro e w1 ⟨x,rfl,x0,x1,H1,O1⟩;obtain ⟨j,rfl⟩:=Int.eq_ofNat_of_zero_le x0
 have hj:j<n:=by omega
 have hj':(j:Int)<(n:Int):=by omega
 have hc:=(O1.cell (p:=⟨m,j,none⟩) hm).trans (hz j hj);go_wp2;go_ret;exact ⟨j,rfl,hj,H1,O1⟩
theorem Ep.lt {w:World} {B c:Nat} {a:Option Addr} {len cap:Nat} (H:Ep w B c a len cap):c<w.heap.size:=block_lt_of_cell H.sl
theorem Step.setCell {c b o:Nat} {u w:World} (h:Step c u w) (hb:u.heap.size<=b) (x:Value):Step c u (w.setCell ⟨b,o,none⟩ x) :=
 ⟨h.os,h.tape,h.output,by simpa [World.setCell] using h.size,fun k hk hc=>(Below.heap_setCell _ _ _ _ (show k≠b by omega)).trans (h.block k hk hc)⟩
theorem Rr {f:Nat->Int} {q:Nat} {y:Int} (h:∀ j,0<=f j/\f j<=255) (hy:0<=y/\y<=255):∀ j,0<=(if j=q then y else f j)/\(if j=q then y else f j)<=255:=fun j=>by
 split
 .exact hy
 .exact h j
theorem Jd1 (j:Nat):0<=ix [32,64,0,1,22,192,128,2,4,5] j/\ix [32,64,0,1,22,192,128,2,4,5] j<=255:=by
 by_cases h:j<10
 .have:∀ i:Fin 10,0<=([32,64,0,1,22,192,128,2,4,5]:List Int).getD i.val 0/\([32,64,0,1,22,192,128,2,4,5]:List Int).getD i.val 0<=255:=by decide
  exact this ⟨j,h⟩
 .unfold ix
  rw [List.getD_eq_getElem?_getD,List.getElem?_eq_none (by show 10<=j; omega)]
  decide
theorem Zp (W:World) (L:List Int) (t:TypeId):∀ j,j<L.length->(W.alloc (.cells (L.map (Value.int .i64)).toArray t)).cell? ⟨W.heap.size,j,none⟩=some (.i (L.getD j 0)):=fun j hj=>by
 have:=Re W (L.map (Value.int .i64)).toArray t (0,0) W.heap.size rfl j (.i (L.getD j 0)) (by simp [hj]);rw [Ig,Nat.zero_add] at this;exact this
theorem Wt (w:World) (B c:Nat) (a:Option Addr) (len cap:Nat) (H:Ep w B c a len cap) :
  Calls prog 107 #[(pt c 0)] w fun e w'=>e=.returned (.slice (some ⟨w.heap.size,0,none⟩) 256 256)/\(∃ f:Nat->Int,w'.rowIs w.heap.size 3 256 (fun j=>.i (f j))/\∀ j,0<=f j/\f j<=255)/\Ep w' B c a len cap/\Step c w w':=by
 have hmk:=run_make_row' (P:=prog) 27 3 (.i 0) 8 underlying27 Gp rfl .i64 .i64 256 (by omega) (by omega);rw [show ((256:Nat):Int)=256 from rfl] at hmk;have R0:=World.rowIs_made w (.i 0) 256 3;have hcl:=H.lt;have H0:=H.alloc (.cells (madeCells #[.i 0] 256) 3) hcl;have S0:Step c w (w.alloc (.cells (madeCells #[.i 0] 256) 3)):=(Step.refl c w).alloc _
 go_enter func107,ntmps107
 go_wp2;generalize w.alloc (.cells (madeCells #[.i 0] 256) 3)=wa at *
 go_loopw [4] (fun i wr=>∃ (q:Nat) (f:Nat->Int),q<=256/\i=.i q/\wr.rowIs w.heap.size 3 256 (fun j=>.i (f j))/\(∀ j,0<=f j/\f j<=255)/\Ep wr B c a len cap/\Step c w wr) (fun i _=>256-(intOf i).toNat)
 case atStart=>exact ⟨0,fun _=>0,Nat.zero_le _,rfl,R0,fun _=>⟨Int.le_refl 0,show (0:Int)<=255 by decide⟩,H0,S0⟩
 case round =>
  obtain ⟨q,f,hq,rfl,hR,hF,hC,hS⟩:=hrel;have HF:=Ac hF;clear hF;have HR:=Ac hR;have HC:=Ac hC;clear hR hC
  by_cases hlt:q<256
  .have hlt':(q:Int)<256:=by omega
   go_wp2_with fail;refine (Dk _ B c a len cap (Ae HC) 4).mono ?_;rintro e w1 ⟨x,rfl,x0,x1,H1,O1⟩;have R1:=(Ae HR).of_block (O1.block _ (by omega));have S1:=hS.trans O1.step;have HR1:=Ac R1;clear R1 O1 HC HR
   have e4:x=0\/x=1\/x=2\/x=3:=by omega
   rcases e4 with rfl | rfl | rfl | rfl
   .go_wp2_with fail
    refine (Dk _ B c a len cap H1 30).mono ?_;rintro e w2 ⟨y,rfl,y0,y1,H2,O2⟩
    have hne:w.heap.size≠c:=by omega
    have R2:=(Ae HR1).of_block (O2.block _ hne);have hdst:=R2.cell hlt;have hfz:=R2.frozen q;have R3:=(R2.set q (.i y)).congr (g:=fun j=>.i (if j=q then y else f j)) (fun j _=>by split <;> rfl);have HR3:=Ac R3;have H3:=H2.only ((Bd.refl w.heap.size w2).setCell (o:=q) (s:=none) (.i y)) hne (by have:=H2.up; omega);have S3:=(S1.trans O2.step).setCell (b:=w.heap.size) (o:=q) (Nat.le_refl _) (.i y);have HH3:=Ac H3;have HS3:=Ac S3;clear R2 R3 H3 S3;go_wp2;go_roundw
    case rel=>exact ⟨q+1,_,by omega,by go_num,Ae HR3,Rr (Ae HF) (by omega),Ae HH3,Ae HS3⟩
    case measure=>simp [intOf]; omega
   .have hcl1:=H1.lt
    have hw1:w.heap.size<w1.heap.size:=(Ae HR1).lt;have HZ:=Ac (Zp w1 [32,64,0,1,22,192,128,2,4,5] 3);have RA:=(Ae HR1).alloc (.cells ([32,64,0,1,22,192,128,2,4,5].map (Value.int .i64)).toArray 3);have HA:=H1.alloc (.cells ([32,64,0,1,22,192,128,2,4,5].map (Value.int .i64)).toArray 3) hcl1;have SA:=S1.alloc (.cells ([32,64,0,1,22,192,128,2,4,5].map (Value.int .i64)).toArray 3);have HRA:=Ac RA;have HSA:=Ac SA;clear RA SA;go_wp2_with fail;refine (Ho _ B c a len cap HA w1.heap.size 10 (by omega) (by omega) (by omega) (ix [32,64,0,1,22,192,128,2,4,5]) (Ae HZ)).mono ?_;rintro e w2 ⟨j0,rfl,hj0,H2,O2⟩;have hy:=Jd1 j0;generalize ix [32,64,0,1,22,192,128,2,4,5] j0=y at *
    have hne:w.heap.size≠c:=by omega
    have R2:=(Ae HRA).of_block (O2.block _ hne);have hdst:=R2.cell hlt;have hfz:=R2.frozen q;have R3:=(R2.set q (.i y)).congr (g:=fun j=>.i (if j=q then y else f j)) (fun j _=>by split <;> rfl);have HR3:=Ac R3;have H3:=H2.only ((Bd.refl w.heap.size w2).setCell (o:=q) (s:=none) (.i y)) hne (by have:=H2.up; omega);have S3:=((Ae HSA).trans O2.step).setCell (b:=w.heap.size) (o:=q) (Nat.le_refl _) (.i y);have HH3:=Ac H3;have HS3:=Ac S3;clear R2 R3 H3 S3;go_wp2;go_roundw
    case rel=>exact ⟨q+1,_,by omega,by go_num,Ae HR3,Rr (Ae HF) (by omega),Ae HH3,Ae HS3⟩
    case measure=>simp [intOf]; omega
   .go_wp2_with fail
    refine (Dk _ B c a len cap H1 256).mono ?_;rintro e w2 ⟨y,rfl,y0,y1,H2,O2⟩
    have hne:w.heap.size≠c:=by omega
    have R2:=(Ae HR1).of_block (O2.block _ hne);have hdst:=R2.cell hlt;have hfz:=R2.frozen q;have R3:=(R2.set q (.i y)).congr (g:=fun j=>.i (if j=q then y else f j)) (fun j _=>by split <;> rfl);have HR3:=Ac R3;have H3:=H2.only ((Bd.refl w.heap.size w2).setCell (o:=q) (s:=none) (.i y)) hne (by have:=H2.up; omega);have S3:=(S1.trans O2.step).setCell (b:=w.heap.size) (o:=q) (Nat.le_refl _) (.i y);have HH3:=Ac H3;have HS3:=Ac S3;clear R2 R3 H3 S3;go_wp2;go_roundw
    case rel=>exact ⟨q+1,_,by omega,by go_num,Ae HR3,Rr (Ae HF) (by omega),Ae HH3,Ae HS3⟩
    case measure=>simp [intOf]; omega
   .go_wp2
    go_roundw
    case rel=>exact ⟨q+1,f,by omega,by go_num,Ae HR1,Ae HF,H1,S1⟩
    case measure=>simp [intOf]; omega
  .have hlt':¬ (q:Int)<256:=by omega
   go_wp2;go_ret;exact ⟨rfl,⟨f,Ae HR,Ae HF⟩,Ae HC,hS⟩
def I8:List ByteArray:=[⟨#[108,100,105,32,53,10,115,116,97,32,56,49,57,51,10,108,100,105,32,49,50,56,10,115,116,97,32,56,49,57,50,10,108,100,97,32,56,49,57,52,10,115,116,97,32,49,54,10,106,109,112,32,52,57,49,54,50,10]⟩,⟨#[108,100,105,32,51,10,115,116,97,32,49,54,51,56,52,10,108,100,105,32,50,10,115,116,97,32,49,54,51,56,53,10,108,100,105,32,49,10,115,116,97,32,49,54,51,56,54,10,99,108,105,10,108,100,97,32,49,54,51,56,54,10,106,109,112,32,52,57,49,54,56,10]⟩,⟨#[108,100,105,32,50,10,115,116,97,32,56,49,57,53,10,105,110,120,10,116,120,97,10,115,116,97,32,56,49,57,54,10,115,116,97,32,56,49,57,55,10,108,100,97,32,56,49,57,54,10,115,116,97,32,48,10,106,109,112,32,52,57,49,53,55,10]⟩,⟨#[108,100,105,32,49,10,115,116,97,32,49,54,52,48,54,10,108,100,105,32,48,10,115,116,97,32,49,54,52,48,54,10,108,100,97,32,49,54,52,48,54,10,112,104,97,10,108,100,97,32,49,54,52,48,54,10,112,108,97,10,106,109,112,32,52,57,49,54,50,10]⟩,⟨#[105,110,120,10,116,120,97,10,115,116,97,32,51,50,55,54,56,10,108,100,97,32,51,50,55,55,48,10,115,116,97,32,56,49,57,51,10,106,109,112,32,52,57,49,53,50,10]⟩,⟨#[108,100,105,32,49,50,56,10,115,116,97,32,56,49,57,50,10,108,100,105,32,55,10,115,116,97,32,49,54,51,56,53,10,108,100,105,32,49,10,115,116,97,32,49,54,51,56,54,10,99,108,105,10,106,115,114,32,52,57,51,48,48,10,106,109,112,32,52,57,49,54,56,10]⟩,⟨#[108,100,105,32,57,10,115,101,99,10,115,98,105,32,49,10,98,110,101,32,52,57,49,53,52,10,115,116,97,32,56,49,57,51,10,106,109,112,32,52,57,49,53,50,10]⟩]
def mainAt (j:Nat):ByteArray:=I8.getD j ByteArray.empty
theorem Zq (j:Nat) (h:j<7):(mainAt j).size<=200:=by
 have:∀ i:Fin 7,(I8.getD i.val ByteArray.empty).data.size<=200:=by decide
 exact this ⟨j,h⟩
theorem Jb2 (W:World) (L:List ByteArray) (t:TypeId):∀ j,j<L.length->(W.alloc (.cells (L.map Value.string).toArray t)).cell? ⟨W.heap.size,j,none⟩=some (.string (L.getD j ByteArray.empty)):=fun j hj=>by
 have:=Re W (L.map Value.string).toArray t (0,0) W.heap.size rfl j (.string (L.getD j ByteArray.empty)) (by simp [hj]);rw [Ig,Nat.zero_add] at this;exact this
theorem Jfk (w:World) (B c:Nat) (a:Option Addr) (len cap:Nat) (H:Ep w B c a len cap) :
  Calls prog 110 #[(pt c 0)] w fun e w'=>(∃ s:ByteArray,e=.returned (.string s)/\s.size<=1048576)/\Ep w' B c a len cap/\Step c w w':=by
 have hcl:=H.lt;have HZ:=Ac (Jb2 w I8 9);have HA:=H.alloc (.cells (I8.map Value.string).toArray 9) hcl;have SA:=(Step.refl c w).alloc (.cells (I8.map Value.string).toArray 9)
 go_enter func110,ntmps110
 go_wp2_with fail;refine (Jfj _ B c a len cap HA w.heap.size 7 (by omega) (by omega) (by omega) mainAt (Ae HZ)).mono ?_;rintro e w1 ⟨j0,rfl,hj0,H1,O1⟩;have hsz:=Zq j0 hj0;generalize mainAt j0=s at *;go_wp2;go_ret
 have hk:∀ x:ByteArray,x.size<=1000->s.size+x.size<=1048576:=fun x h=>by omega
 exact ⟨⟨_,rfl,by rw [ByteArray.size_append]; exact hk _ (by decide)⟩,H1,SA.trans O1.step⟩
theorem Ub {s:ByteArray} {L:List Int} {tq:Int} (h:Rk s L tq true):∀ x∈L,0<=x/\x<=255:=by
 obtain ⟨wd,n,k,-,h⟩:=h
 rcases h with ⟨_,rfl,_,_⟩ | ⟨_,_,rfl,_,_⟩ | ⟨_,_,hi,_,h⟩ | ⟨_,_,_,_,r,hr,h⟩
 .simp
 .simp
 .have hb:=(Dj n 0 255).1 hi.symm
  rw [<- hi] at h
  simp at h
  subst h;intro x hx
  simp at hx
  subst hx;exact hb
 .have hr30:0<=r->r<=29:=fun h0=>by
   rcases hr with ⟨i,hi,rfl,_⟩ | ⟨rfl,_⟩
   .omega
   .omega
  rcases h with ⟨_,rfl,_⟩ | ⟨h0,⟨_,rfl,_⟩ | ⟨_,rfl,_⟩ | ⟨_,rfl,_⟩⟩
  .simp
  .intro x hx; simp at hx; subst hx; have:=hr30 h0; omega
  .intro x hx; simp at hx; have:=hr30 h0; rcases hx with rfl | rfl <;> omega
  .intro x hx; simp at hx; have:=hr30 h0; rcases hx with rfl | rfl | rfl <;> omega
theorem Jfl (L:List Int):∀ (o:Nat->Int) (a:Nat),(∀ j,0<=o j/\o j<=255)->(∀ x∈L,0<=x/\x<=255)->∀ j,0<=put o a L j/\put o a L j<=255:=by
 induction L with
 | nil=>intro o a ho _ j; exact ho j
 | cons x r ih =>
  intro o a ho hL j;exact ih _ _ (Rr ho (hL x (by simp))) (fun y hy=>hL y (by simp [hy])) j
theorem Jfm {t:ByteArray} {i:Nat} {o:Nat->Int} {a fr m:Nat} (h:Asm t i o a fr m):∀ j,0<=o j/\o j<=255:=by
 induction h with
 | start=>exact fun _=>⟨Int.le_refl 0,show (0:Int)<=255 by decide⟩
 | skip _ _ ih=>exact ih
 | empty _ _ _ ih=>exact ih
 | line _ _ _ hb ih=>exact Jfl _ _ _ ih (Ub hb)
theorem Jb3 {t:ByteArray} {n:Nat} {f:Nat->Int} {c:Int} (h:Jb0 t n f c):(n=0\/n=256)/\(n=256->∀ j,j<256->0<=f j/\f j<=255):=by
 rcases h with ⟨_,rfl,_⟩ | ⟨_,rfl,_⟩ | ⟨_,rfl,_,o,a,fr,m,hA,hf⟩
 .exact ⟨Or.inl rfl,fun h=>by cases h⟩
 .exact ⟨Or.inl rfl,fun h=>by cases h⟩
 .exact ⟨Or.inr rfl,fun _ j hj=>by rw [hf j hj]; exact Jfm hA j⟩
def Kr (w:World) (v:Value) (m:Nat):Prop:=∀ a cap,v=.slice a m cap->Mb w (Cz a m)
theorem Kr.keep {w w':World} {R:Nat->Nat->Prop} {v:Value} {m:Nat} (h:Kr w v m) (hw:Wrote R w w'):Kr w' v m:=fun a cap e=>(h a cap e).keep hw
def AtC (b o:Nat):Nat->Nat->Prop:=fun b' o'=>b'=b/\o'=o
theorem Uc (w:World) (b o:Nat) (x:Value):Wrote (AtC b o) w (w.setCell ⟨b,o,none⟩ x):=(Wrote.refl _ _).setCell (fun _=>⟨rfl,rfl⟩) x
theorem Ud {ln:Nat->Nat} {K:Nat}:∀ {m:Nat},(∀ i,i<m->ln i<=K)->Dw ln m<=m*K
 | 0,_=>by simp [Dw]
 | m+1,h=>by
  have h1:=Ud (m:=m) (fun i hi=>h i (by omega));have h2:=h m (by omega);rw [Nat.succ_mul]
  show Dw ln m+ln m<=_
  omega
theorem Dl.setInner {w:World} {lo:Nat} {v:Value} {m:Nat} {ra:Nat->Option Addr} {ln rc:Nat->Nat} {f:Nat->Nat->Int} (h:Dl w lo v m ra ln rc f) (i j b off:Nat) (hi:i<m) (hj:j<ln i) (ha:ra i=some ⟨b,off,none⟩) (x:Int) :
  Dl (w.setCell ⟨b,off+j,none⟩ (.i x)) lo v m ra ln rc (fun p q=>if p=i/\q=j then x else f p q):=by
 have hW:=Uc w b (off+j) (.i x)
 have hF:Cz (ra i) (ln i) b (off+j):=by rw [ha]; exact Cc hj
 refine ⟨h.sep.keep hW (fun b' o' hR=>⟨i,hi,by obtain ⟨rfl,rfl⟩:=hR; exact hF⟩),fun p hp=>?_,h.inner,h.outer,h.len⟩
 by_cases e:p=i
 .subst e
  intro q hq;obtain ⟨b',off',e',hc⟩:=h.rows p hp q hq;rw [ha] at e';simp only [Option.some.injEq,Addr.mk.injEq,and_true] at e';obtain ⟨rfl,rfl⟩:=e';refine ⟨b,off,ha,?_⟩
  by_cases e2:q=j
  .subst e2
   rw [World.cell?_setCell_same _ _ _ hc]
   simp
  .rw [World.cell?_setCell_other _ _ _ _ (by intro h; simp only [Addr.mk.injEq] at h; omega),hc]
   simp [e2]
 .exact ((h.rows p hp).keep hW (fun b' o' hF' hR=>by obtain ⟨rfl,rfl⟩:=hR; exact h.sep.disj p i hp hi e _ _ hF' hF)).congr (fun q _=>by simp [e])
theorem Dl.setOuter {w:World} {lo:Nat} {v:Value} {m:Nat} {ra:Nat->Option Addr} {ln rc:Nat->Nat} {f:Nat->Nat->Int} (h:Dl w lo v m ra ln rc f) (i b off cap:Nat) (hi:i<m) (hv:v=.slice (some ⟨b,off,none⟩) m cap) (a':Option Addr) (n' c':Nat) (g:Nat->Int)
  (hr:Cg .i64 w a' n' g) (hfr:Mb w (Cz a' n')) (hlo:∀ b o,Cz a' n' b o->lo<=b) (hn:n'<=1048576) (hout:∀ b' o',Cz a' n' b' o'->¬ Cz (some ⟨b,off,none⟩) m b' o')
  (hdis:∀ p,p<m->p≠i->∀ b' o',Cz a' n' b' o'->¬ Cz (ra p) (ln p) b' o') :
  Dl (w.setCell ⟨b,off+i,none⟩ (.slice a' n' c')) lo v m (fun p=>if p=i then a' else ra p) (fun p=>if p=i then n' else ln p) (fun p=>if p=i then c' else rc p) (fun p=>if p=i then g else f p):=by
 have hW:=Uc w b (off+i) (.slice a' n' c');obtain ⟨⟨⟨a,cap',hv',hm,ho⟩,hf,hdj,hs⟩,hrw,hin,hou,hl⟩:=h;have hva:=hv;rw [hv] at hv';simp only [Value.slice.injEq] at hv';obtain ⟨rfl,_,rfl⟩:=hv'
 have hlen:∀ p,p<m->(if p=i then n' else ln p)<=1048576:=fun p hp=>by split; exact hn; exact hl p hp
 have hoc:∀ p,p<m->w.cell? ⟨b,off+p,none⟩=some (.slice (ra p) (ln p) (rc p))/\∀ j,j<m->¬ Cz (ra j) (ln j) b (off+p):=fun p hp=>by
  obtain ⟨b2,off2,e2,hc2,hn2⟩:=ho p hp;simp only [Option.some.injEq,Addr.mk.injEq,and_true] at e2;obtain ⟨rfl,rfl⟩:=e2;exact ⟨hc2,hn2⟩
 refine ⟨⟨⟨some ⟨b,off,none⟩,cap,hva,hm,fun p hp=>⟨b,off,rfl,?_,fun j hj=>?_⟩⟩,fun p hp=>?_,fun p q hp hq hpq b' o' h1=>?_,?_⟩,fun p hp=>?_,fun p hp b' o' hF=>?_,hou,hlen⟩
 .by_cases e:p=i
  .subst e
   rw [World.cell?_setCell_same _ _ _ (hoc p hp).1]
   simp
  .rw [World.cell?_setCell_other _ _ _ _ (by intro h; simp only [Addr.mk.injEq] at h; omega),(hoc p hp).1]
   simp [e]
 .by_cases e:j=i
  .subst e
   simp only
   exact fun hF=>hout _ _ hF (Cc hp)
  .simp only [if_neg e]
   exact (hoc p hp).2 j hj
 .by_cases e:p=i
  .subst e
   simp only;exact hfr.keep hW
  .simp only [if_neg e]
   exact (hf p hp).keep hW
 .by_cases e:p=i
  .subst e
   have e2:¬ q=p:=fun x=>hpq x.symm
   simp only at h1;simp only [if_neg e2];exact hdis q hq e2 _ _ h1
  .simp only [if_neg e] at h1
   by_cases e2:q=i
   .subst e2
    simp only
    exact fun hF=>hdis p hp e _ _ hF h1
   .simp only [if_neg e2]
    exact hdj p q hp hq hpq _ _ h1
 .exact Nat.le_trans (Ud hlen) (Nat.le_trans (Nat.mul_le_mul_right _ hm) (by decide))
 .by_cases e:p=i
  .subst e
   simp only;exact hr.keep hW (fun b' o' hF hR=>by obtain ⟨rfl,rfl⟩:=hR; exact hout _ _ hF (Cc hi))
  .simp only [if_neg e]
   exact (hrw p hp).keep hW (fun b' o' hF hR=>by obtain ⟨rfl,rfl⟩:=hR; exact (hoc i hi).2 p hp hF)
 .by_cases e:p=i
  .subst e
   simp only at hF;exact hlo _ _ hF
  .simp only [if_neg e] at hF
   exact hin p hp _ _ hF
theorem Zr {P:Program} {ops:Array Oper} {o:Oper} {a:Act} {w:World} {K:Act->World->Prop} {Q:Exit->Act->World->Prop} {E:Prop} (hg:o.guard=none) (f:FuncId) (vs:Array Value)
  (hE:(execOp a.eval o).run P w=.ok (.enter f vs) w)
  (h:Calls P f vs w fun e w'=>∃ v,e=.returned v/\K (a.put o.dst v) w'):if Region.wanted o (yielded ops a.tmps)=true then Oper.wp P o a w K Q else E:=by
 have hw:Region.wanted o (yielded ops a.tmps)=true:=by simp [Region.wanted,hg]
 rw [if_pos hw];unfold Oper.wp;rw [hE,Oper.upon_enter];exact h.mono (by rintro e w' ⟨v,rfl,hk⟩; exact hk)
theorem Step.low {c:Nat} {u v w:World} (h:Step c u v) (k:Below u.heap.size v w):Step c u w :=
 ⟨k.os.trans h.os,k.tape.trans h.tape,k.output.trans h.output,Nat.le_trans h.size k.size,fun i hi hc=>(k.block i hi).trans (h.block i hi hc)⟩
theorem Gr.congrF {w:World} {lo q:Nat} {gb:Nat->Nat} {F G:Nat->Nat->Int} (h:Gr w lo q gb F) (e:∀ i,i<q->F i=G i):Gr w lo q gb G :=
 ⟨fun i hi=>e i hi ▸ h.rows i hi,h.free,h.low,h.inj⟩
structure Ue (w:World) (B c:Nat) (a:Option Addr) (len cap:Nat) (wr:World) (q:Nat) (gb cp:Nat->Nat) (F:Nat->Nat->Int) (ov:Value):Prop where
 bk:Gr wr (w.heap.size+2) q gb F
 own:wr.ownsRow (w.heap.size+2) 27 1 ov q (Pu q gb cp)
 dj:∀ g,ov.ownBlock=some g->∀ i,i<q->gb i≠g
 cx:wr.cell? ⟨w.heap.size+1,0,none⟩=some ov
 fx:wr.frozen? ⟨w.heap.size+1,0,none⟩=false
 rx:wr.cell? ⟨w.heap.size,0,none⟩=some (.slice none 0 0)
 rf:wr.frozen? ⟨w.heap.size,0,none⟩=false
 lt:c<w.heap.size
 cur:Ep wr B c a len cap
 st:Step c w wr
 sz:w.heap.size+2<=wr.heap.size
 vals:∀ i j,0<=F i j/\F i j<=255
section
variable {w:World} {B c:Nat} {a:Option Addr} {len cap:Nat} {wr w2 w3:World} {q:Nat} {gb cp:Nat->Nat} {F:Nat->Nat->Int} {ov:Value}
theorem Ue.drawn (G:Ue w B c a len cap wr q gb cp F ov) (S2:Step c wr.drew w2):w2.cell? ⟨w.heap.size+1,0,none⟩=some ov/\w2.frozen? ⟨w.heap.size+1,0,none⟩=false/\w2.ownsRow (w.heap.size+2) 27 1 ov q (Pu q gb cp)/\w.heap.size+2<=w2.heap.size:=by
 have hz:=G.sz;have hl:=G.lt;have hX:=S2.block (w.heap.size+1) (show _<wr.heap.size by omega) (by omega);refine ⟨(World.cell?_of_block (a:=⟨w.heap.size+1,0,none⟩) hX).trans G.cx,(World.frozen?_of_block (a:=⟨w.heap.size+1,0,none⟩) hX).trans G.fx,Kl (w:=wr) G.own (fun k hk=>?_),Nat.le_trans hz S2.size⟩;have hk':=G.own.lt k hk;exact S2.block k hk'.2 (by omega)
theorem Ue.snoc (G:Ue w B c a len cap wr q gb cp F ov) (S2:Step c wr.drew w2) (H2:Ep w2 B c a len cap) {f:Nat->Int} (hR2:w2.rowIs wr.heap.size 3 256 (fun j=>.i (f j))) (hf:∀ j,0<=f j/\f j<=255) {o:Obj} {g3 c3:Nat}
  (hown3:w3.ownsRow (w.heap.size+2) 27 1 (.slice (some ⟨g3,0,none⟩) (q+1) c3) (q+1) (Pu q gb cp++[.slice (some ⟨wr.heap.size,0,none⟩) 256 256])) (hgrow:(w2.alloc o).grownBy w3 ov.ownBlock) (hat:ov.ownBlock=some g3\/g3=(w2.alloc o).heap.size) :
  Ue w B c a len cap (w3.setCell ⟨w.heap.size+1,0,none⟩ (.slice (some ⟨g3,0,none⟩) (q+1) c3)) (q+1) (fun i=>if i=q then wr.heap.size else gb i) (fun i=>if i=q then 256 else cp i) (fun i=>if i=q then f else F i) (.slice (some ⟨g3,0,none⟩) (q+1) c3):=by
 obtain ⟨hX2,fX2,hO2,hz2⟩:=G.drawn S2;have hz:=G.sz;have hl:=G.lt;have hs2:wr.heap.size<=w2.heap.size:=S2.size;have hOB:=G.own.lt
 have hne:∀ k,k<w.heap.size+2->some k≠ov.ownBlock:=fun k hk e=>by have:=(hOB _ e.symm).1; omega
 have hsz3:w2.heap.size+1<=w3.heap.size:=by have:=hgrow.size; simpa using this
 have hblk:∀ k,k<w2.heap.size->some k≠ov.ownBlock->w3.heap[k]?=w2.heap[k]?:=fun k hk hn=>(hgrow.block k (by simp; omega) hn).trans (((Below.refl _ _).alloc (Nat.le_refl _) o:Below w2.heap.size w2 (w2.alloc o)).block k hk)
 have hbel:Below (w.heap.size+1) w2 (w3.sc (w.heap.size+1) 0 (.sl g3 0 (q+1) c3)) :=
  (((((Below.refl _ _).alloc (Nat.le_refl _) o:Below w2.heap.size w2 (w2.alloc o)).mono (by omega:w.heap.size+1<=_)).grown hgrow (by simp; omega) (fun k hk=>by have:=(hOB k hk).1; omega))).setCell (Nat.le_refl _) _
 have hset:∀ k,k≠w.heap.size+1->(w3.sc (w.heap.size+1) 0 (.sl g3 0 (q+1) c3)).heap[k]?=w3.heap[k]?:=fun k hk=>Below.heap_setCell _ _ _ _ hk
 have hX3:w3.cell? ⟨w.heap.size+1,0,none⟩=some ov:=(World.cell?_of_block (a:=⟨w.heap.size+1,0,none⟩) (hblk (w.heap.size+1) (by omega) (hne _ (by omega)))).trans hX2;have hF3:w3.frozen? ⟨w.heap.size+1,0,none⟩=false:=(World.frozen?_of_block (a:=⟨w.heap.size+1,0,none⟩) (hblk (w.heap.size+1) (by omega) (hne _ (by omega)))).trans fX2
 have hgn:some wr.heap.size≠ov.ownBlock:=fun e=>by have:=(hOB _ e.symm).2; omega
 have BK2:Gr w2 (w.heap.size+2) q gb F:=G.bk.keep hs2 (fun i hi=>S2.block (gb i) (G.bk.low i hi).2 (by have:=(G.bk.low i hi).1; omega));have BK:Gr w3 (w.heap.size+2) q gb F:=BK2.keep (by omega) (fun i hi=>hblk (gb i) (BK2.low i hi).2 (fun e=>G.dj _ e.symm i hi rfl));have BK':Gr w3 (w.heap.size+2) q gb (fun i=>if i=q then f else F i):=BK.congrF (fun i hi=>by simp [Nat.ne_of_lt hi]);have hgl:wr.heap.size<w2.heap.size:=hR2.lt;have BN:=BK'.snoc (g:=wr.heap.size) (fun j hj=>⟨wr.heap.size,0,rfl,(World.cell?_of_block (a:=⟨wr.heap.size,0+j,none⟩) (hblk _ hgl hgn)).trans (by rw [Nat.zero_add,hR2.cell hj]; simp)⟩) (fun o=>(World.frozen?_of_block (a:=⟨wr.heap.size,o,none⟩) (hblk _ hgl hgn)).trans (hR2.frozen o)) hz (by omega) (fun i hi=>by have:=(G.bk.low i hi).2; omega);rw [<- Zl q wr.heap.size 256 gb cp] at hown3
 refine ⟨BN.keep (by simp) (fun i hi=>hset _ (by have:=(BN.low i hi).1; omega)),Kl hown3 (fun k hk=>hset k (by have:=(hown3.lt k hk).1; omega)),fun g' hg' i hi=>?_,World.cell?_setCell_same _ _ _ hX3,by rw [World.frozen?_setCell]; exact hF3,?_,?_,hl,H2.below (hbel.mono (by omega:c+1<=_)) (Nat.lt_succ_self c),((G.st.trans (⟨S2.os,S2.tape,S2.output,S2.size,S2.block⟩:Step c wr w2)).low (hbel.mono (by omega))),by simp; omega,fun i j=>?_⟩
 .have eg:g3=g':=by simpa [Value.ownBlock] using hg'
  subst eg
  rcases hat with h | h
  .by_cases ei:i=q
   .rw [if_pos ei]; have:=(hOB _ h).2; omega
   .rw [if_neg ei]; exact G.dj _ h i (by omega)
  .have h':g3=w2.heap.size+1:=by simpa using h
   by_cases ei:i=q
   .rw [if_pos ei]; omega
   .rw [if_neg ei]; have:=(G.bk.low i (by omega)).2; omega
 .exact ((hbel.cell (p:=⟨w.heap.size,0,none⟩) (by show w.heap.size<_; omega)).trans (World.cell?_of_block (a:=⟨w.heap.size,0,none⟩) (S2.block w.heap.size (show _<wr.heap.size by omega) (by omega)))).trans G.rx
 .exact ((hbel.frozen (p:=⟨w.heap.size,0,none⟩) (by show w.heap.size<_; omega)).trans (World.frozen?_of_block (a:=⟨w.heap.size,0,none⟩) (S2.block w.heap.size (show _<wr.heap.size by omega) (by omega)))).trans G.rf
 .by_cases ei:i=q
  .simpa [ei] using hf j
  .simpa [ei] using G.vals i j
end
theorem Dl.blocks {w w':World} {lo:Nat} {v:Value} {m:Nat} {ra:Nat->Option Addr} {ln rc:Nat->Nat} {f:Nat->Nat->Int} (h:Dl w lo v m ra ln rc f) (hs:w.heap.size<=w'.heap.size) (hb:∀ k,lo<=k->k<w.heap.size->w'.heap[k]?=w.heap[k]?):Dl w' lo v m ra ln rc f:=by
 obtain ⟨⟨⟨a,cap,hv,hm,ho⟩,hf,hdj,hsm⟩,hr,hi,hou,hl⟩:=h;refine ⟨⟨⟨a,cap,hv,hm,fun i hi'=>?_⟩,fun i hi' b o hF=>?_,hdj,hsm⟩,fun i hi' j hj=>?_,hi,hou,hl⟩
 .obtain ⟨b,off,ha,hc,hn⟩:=ho i hi'
  exact ⟨b,off,ha,(World.cell?_of_block (a:=⟨b,off+i,none⟩) (hb b (hou a cap hv b (off+i) (by rw [ha]; exact Cc hi')) (block_lt_of_cell hc))).trans hc,hn⟩
 .obtain ⟨h1,h2⟩:=hf i hi' b o hF
  exact ⟨Nat.lt_of_lt_of_le h1 hs,(World.frozen?_of_block (a:=⟨b,o,none⟩) (hb b (hi i hi' b o hF) h1)).trans h2⟩
 .obtain ⟨b,off,ha,hc⟩:=hr i hi' j hj
  exact ⟨b,off,ha,(World.cell?_of_block (a:=⟨b,off+j,none⟩) (hb b (hi i hi' b (off+j) (by rw [ha]; exact Cc hj)) (block_lt_of_cell hc))).trans hc⟩
structure Qo (w:World) (B c:Nat) (a:Option Addr) (len cap:Nat) (W:World) (m go co:Nat) (ra:Nat->Option Addr) (rc:Nat->Nat) (F:Nat->Nat->Int):Prop where
 ss:Dl W (w.heap.size+2) (.slice (some ⟨go,0,none⟩) m co) m ra (fun _=>256) rc F
 fr:∀ i,i<m->W.frozen? ⟨go,i,none⟩=false
 gl:w.heap.size+2<=go/\go<W.heap.size
 cx:W.cell? ⟨w.heap.size+1,0,none⟩=some (.slice (some ⟨go,0,none⟩) m co)
 rx:W.cell? ⟨w.heap.size,0,none⟩=some (.slice none 0 0)
 rf:W.frozen? ⟨w.heap.size,0,none⟩=false
 lt:c<w.heap.size
 cur:Ep W B c a len cap
 st:Step c w W
 sz:w.heap.size+2<=W.heap.size
 vals:∀ i j,i<m->j<256->0<=F i j/\F i j<=255
theorem Ue.img {w:World} {B c:Nat} {a:Option Addr} {len cap:Nat} {W:World} {m:Nat} {gb cp:Nat->Nat} {F:Nat->Nat->Int} {ov:Value} (G:Ue w B c a len cap W m gb cp F ov) (h1:1<=m) (h3:m<=3) :
  ∃ go co,ov=.slice (some ⟨go,0,none⟩) m co/\Qo w B c a len cap W m go co (fun i=>some ⟨gb i,0,none⟩) cp F:=by
 obtain ⟨go,co,rfl,hg,hlt⟩:=G.own.form (by omega);refine ⟨go,co,rfl,⟨Zm G.bk G.own hg (fun i hi=>G.dj go rfl i hi) (by omega),fun i _=>G.own.frozenAt i,⟨hg,hlt⟩,G.cx,G.rx,G.rf,G.lt,G.cur,G.st,G.sz,fun i j _ _=>G.vals i j⟩⟩
section
variable {w:World} {B c:Nat} {a:Option Addr} {len cap:Nat} {W W':World} {m go co:Nat} {ra:Nat->Option Addr} {rc:Nat->Nat} {F:Nat->Nat->Int}
theorem Qo.step (I:Qo w B c a len cap W m go co ra rc F) (S:Step c W W') (H:Ep W' B c a len cap):Qo w B c a len cap W' m go co ra rc F:=by
 have hl:=I.lt;have hz:=I.sz;have hX:=S.block (w.heap.size+1) (by omega) (by omega);have hR:=S.block w.heap.size (by omega) (by omega);have hG:=S.block go I.gl.2 (by have:=I.gl.1; omega)
 exact ⟨I.ss.blocks S.size (fun k hk hk'=>S.block k hk' (by omega)),fun i hi=>(World.frozen?_of_block (a:=⟨go,i,none⟩) hG).trans (I.fr i hi),⟨I.gl.1,Nat.lt_of_lt_of_le I.gl.2 S.size⟩,(World.cell?_of_block (a:=⟨w.heap.size+1,0,none⟩) hX).trans I.cx,(World.cell?_of_block (a:=⟨w.heap.size,0,none⟩) hR).trans I.rx,
  (World.frozen?_of_block (a:=⟨w.heap.size,0,none⟩) hR).trans I.rf,hl,H,I.st.trans S,Nat.le_trans hz S.size,I.vals⟩
theorem Qo.at_ (I:Qo w B c a len cap W m go co ra rc F) (i:Nat) (hi:i<m):∃ b off,ra i=some ⟨b,off,none⟩/\w.heap.size+2<=b/\b<W.heap.size/\W.cell? ⟨go,i,none⟩=some (.slice (some ⟨b,off,none⟩) 256 (rc i))/\(∀ j,j<256->(∃ x,W.cell? ⟨b,off+j,none⟩=some (.i x))/\W.frozen? ⟨b,off+j,none⟩=false):=by
 obtain ⟨b,off,ha,hc⟩:=I.ss.rows i hi 0 (by decide)
 have hF:∀ j,j<256->Cz (ra i) 256 b (off+j):=fun j hj=>by rw [ha]; exact Cc hj
 obtain ⟨a2,cap2,e2,_,ho⟩:=I.ss.sep.outer;obtain ⟨b3,off3,e3,hc3,hn3⟩:=ho i hi;simp only [Value.slice.injEq] at e2;obtain ⟨e2,_,_⟩:=e2;rw [<- e2] at e3;simp only [Option.some.injEq,Addr.mk.injEq,and_true] at e3;obtain ⟨rfl,rfl⟩:=e3;refine ⟨b,off,ha,I.ss.inner i hi _ _ (hF 0 (by decide)),block_lt_of_cell hc,by rw [<- ha]; simpa using hc3,fun j hj=>⟨?_,(I.ss.sep.free i hi _ _ (hF j hj)).2⟩⟩
 .obtain ⟨b',off',ha',hc'⟩:=I.ss.rows i hi j hj
  rw [ha] at ha';simp only [Option.some.injEq,Addr.mk.injEq,and_true] at ha';obtain ⟨rfl,rfl⟩:=ha';exact ⟨_,hc'⟩
theorem Qo.cellOf (I:Qo w B c a len cap W m go co ra rc F) {i b off:Nat} (hi:i<m) (ha:ra i=some ⟨b,off,none⟩) (j:Nat) (hj:j<256):(∃ x,W.cell? ⟨b,off+j,none⟩=some (.i x))/\W.frozen? ⟨b,off+j,none⟩=false:=by
 obtain ⟨b',off',ha',_,_,_,h⟩:=I.at_ i hi;rw [ha] at ha';simp only [Option.some.injEq,Addr.mk.injEq,and_true] at ha';obtain ⟨rfl,rfl⟩:=ha';exact h j hj
theorem Qo.outFree (I:Qo w B c a len cap W m go co ra rc F) (p:Addr) (x:Value):Kr (W.setCell p x) (.slice (some ⟨go,0,none⟩) m co) m:=fun a' cap' e b o hF=>by
 simp only [Value.slice.injEq] at e;obtain ⟨rfl,_,_⟩:=e;obtain ⟨off,e,h1,h2⟩:=hF;simp only [Option.some.injEq,Addr.mk.injEq,and_true] at e;obtain ⟨rfl,rfl⟩:=e;exact ⟨by simpa using I.gl.2,by rw [World.frozen?_setCell]; exact I.fr o (by omega)⟩
theorem Qo.at (I:Qo w B c a len cap W m go co ra rc F) {b o:Nat} {x:Value} (hb:w.heap.size+2<=b) {ra':Nat->Option Addr} {rc':Nat->Nat} {F':Nat->Nat->Int} (hs:Dl (W.setCell ⟨b,o,none⟩ x) (w.heap.size+2) (.slice (some ⟨go,0,none⟩) m co) m ra' (fun _=>256) rc' F')
  (hv:∀ i j,i<m->j<256->0<=F' i j/\F' i j<=255):Qo w B c a len cap (W.setCell ⟨b,o,none⟩ x) m go co ra' rc' F':=by
 have hl:=I.lt;have hbel:Below (w.heap.size+2) W (W.sc b o x):=(Below.refl _ _).setCell hb x;exact ⟨hs,fun i hi=>by rw [World.frozen?_setCell]; exact I.fr i hi,by simpa using I.gl,(hbel.cell (by show w.heap.size+1<_; omega)).trans I.cx,(hbel.cell (by show w.heap.size<_; omega)).trans I.rx,(hbel.frozen (by show w.heap.size<_; omega)).trans I.rf,hl,I.cur.below hbel (by omega),I.st.low (hbel.mono (by omega)),by simpa using I.sz,hv⟩
theorem Qo.setInner (I:Qo w B c a len cap W m go co ra rc F) (i j b off:Nat) (hi:i<m) (hj:j<256) (ha:ra i=some ⟨b,off,none⟩) (x:Int) (hx:0<=x/\x<=255) :
  Qo w B c a len cap (W.setCell ⟨b,off+j,none⟩ (.i x)) m go co ra rc (fun p q=>if p=i/\q=j then x else F p q) :=
 I.at (I.ss.inner i hi b (off+j) (by rw [ha]; exact Cc hj)) (I.ss.setInner i j b off hi hj ha x) (fun p q hp hq=>by
  show 0<=(if p=i/\q=j then x else F p q)/\(if p=i/\q=j then x else F p q)<=255
  split
  .exact hx
  .exact I.vals p q hp hq)
theorem Qo.setOuter (I:Qo w B c a len cap W m go co ra rc F) (i:Nat) (hi:i<m) (lo:Nat) (hlo:∀ p,p<m->∀ b o,Cz (ra p) 256 b o->b<lo) (hgo:go<lo) (a':Option Addr) (c':Nat) (g:Nat->Int) (hr:Cg .i64 W a' 256 g) (hfr:Mb W (Cz a' 256)) (hnew:∀ b o,Cz a' 256 b o->lo<=b)
  (hlo2:w.heap.size+2<=lo) (hg:∀ j,j<256->0<=g j/\g j<=255) :
  Qo w B c a len cap (W.setCell ⟨go,i,none⟩ (.slice a' 256 c')) m go co (fun p=>if p=i then a' else ra p) (fun p=>if p=i then c' else rc p) (fun p=>if p=i then g else F p):=by
 have hs:=I.ss.setOuter i go 0 co hi rfl a' 256 c' g hr hfr (fun b o hF=>by have:=hnew b o hF; omega) (by decide) (fun b' o' h1 h2=>by
  have:=hnew _ _ h1;obtain ⟨off,e,_⟩:=h2;simp only [Option.some.injEq,Addr.mk.injEq,and_true] at e
  omega) (fun p hp _ b' o' h1 h2=>by have:=hnew _ _ h1; have:=hlo p hp _ _ h2; omega)
 rw [Nat.zero_add] at hs
 have e:(fun p=>if p=i then 256 else (fun _:Nat=>256) p)=fun _:Nat=>256:=by funext p; split <;> rfl
 rw [e] at hs;refine I.at I.gl.1 hs (fun p q hp hq=>?_)
 by_cases ei:p=i
 .simpa [ei] using hg q hq
 .simpa [ei] using I.vals p q hp hq
end
set_option maxHeartbeats 1000000
open Go.Proofs.Tryz
set_option linter.unusedVariables false
set_option linter.unusedSimpArgs false
theorem Fj (n:Int):IntKind.i64.wrap n%256=n%256:=by rw [IntKind.wrap_i64]; omega
theorem Gd (x:Int):(BitVec.ofInt 64 x).toNat%2 ^ 8=(BitVec.ofInt 64 (x%256)).toNat%2 ^ 8:=by
 rw [BitVec.toNat_ofInt,BitVec.toNat_ofInt]
 omega
theorem Jc6 (x y:Int):bits .and .i64 x y%256=bits .and .i64 (x%256) (y%256)%256:=by
 show IntKind.i64.wrap ((BitVec.ofInt 64 x &&& BitVec.ofInt 64 y).toNat:Nat)%256=IntKind.i64.wrap ((BitVec.ofInt 64 (x%256) &&& BitVec.ofInt 64 (y%256)).toNat:Nat)%256
 rw [Fj,Fj,BitVec.toNat_and,BitVec.toNat_and]
 have h:((BitVec.ofInt 64 x).toNat &&& (BitVec.ofInt 64 y).toNat)%2 ^ 8=((BitVec.ofInt 64 (x%256)).toNat &&& (BitVec.ofInt 64 (y%256)).toNat)%2 ^ 8:=by
  rw [Nat.and_mod_two_pow,Nat.and_mod_two_pow,Gd x,Gd y]
 omega
theorem Je0 (x y:Int):bits .or .i64 x y%256=bits .or .i64 (x%256) (y%256)%256:=by
 show IntKind.i64.wrap ((BitVec.ofInt 64 x ||| BitVec.ofInt 64 y).toNat:Nat)%256=IntKind.i64.wrap ((BitVec.ofInt 64 (x%256) ||| BitVec.ofInt 64 (y%256)).toNat:Nat)%256
 rw [Fj,Fj,BitVec.toNat_or,BitVec.toNat_or]
 have h:((BitVec.ofInt 64 x).toNat ||| (BitVec.ofInt 64 y).toNat)%2 ^ 8=((BitVec.ofInt 64 (x%256)).toNat ||| (BitVec.ofInt 64 (y%256)).toNat)%2 ^ 8:=by
  rw [Nat.or_mod_two_pow,Nat.or_mod_two_pow,Gd x,Gd y]
 omega
theorem Jc7 (x y:Int):bits .xor .i64 x y%256=bits .xor .i64 (x%256) (y%256)%256:=by
 show IntKind.i64.wrap ((BitVec.ofInt 64 x ^^^ BitVec.ofInt 64 y).toNat:Nat)%256=IntKind.i64.wrap ((BitVec.ofInt 64 (x%256) ^^^ BitVec.ofInt 64 (y%256)).toNat:Nat)%256
 rw [Fj,Fj,BitVec.toNat_xor,BitVec.toNat_xor]
 have h:((BitVec.ofInt 64 x).toNat ^^^ (BitVec.ofInt 64 y).toNat)%2 ^ 8=((BitVec.ofInt 64 (x%256)).toNat ^^^ (BitVec.ofInt 64 (y%256)).toNat)%2 ^ 8:=by
  rw [Nat.xor_mod_two_pow,Nat.xor_mod_two_pow,Gd x,Gd y]
 omega
def B8 (u:Value) (bank:Int) (c:A7) (arg rd:Int):Array Value:=(rR u bank c.A c.X c.S c.Pc c.Z c.N c.C c.I arg rd)
theorem Bf {w:World} {G:Nat->Nat->Prop} {u:Value} {g:Nat->Int} {z:Nat} {cs:Array Value} {T:TypeId} {fr:Nat × Nat} (K:Ints .i64 w G u 512 g) (k:w.heap[z]?=some (.cells cs T fr)) (hs:cs.size<=511):Ints .i64 w (fun b _=>b≠z) u 512 g:=by
 obtain ⟨a,cap,h1,h2,h3,h4⟩:=K;refine ⟨a,cap,h1,h2,h3,fun b o ⟨off,e1,e2,e3⟩ e=>?_⟩;obtain ⟨b',off',e4,e5⟩:=h3 511 (by omega);rw [e1] at e4
 obtain ⟨rfl,rfl⟩:b=b'/\off=off':=by simpa using e4
 subst e
 have e6:w.cell? ⟨b,off+511,none⟩=cs[off+511]?:=by unfold World.cell?; rw [k]; rfl
 rw [e6,Array.getElem?_eq_none (by omega)] at e5;cases e5
theorem Bm {w w':World} {lo:Nat} {u:Value} {g:Nat->Int} {z:Nat} {cs:Array Value} {T:TypeId} {fr:Nat × Nat} (O:Ao w lo u 512 g) (k:w.heap[z]?=some (.cells cs T fr)) (hs:cs.size<=511) (hW:Wrote (fun b _=>b=z) w w'):Ao w' lo u 512 g:=by
 obtain ⟨a,cap,hv,hn,hr,hF,hL⟩:=O.ex;obtain ⟨a',cap',hv',-,-,hO⟩:=Bf (Fi O) k hs;rw [hv] at hv'
 obtain ⟨rfl,rfl⟩:a=a'/\cap=cap':=by simpa using hv'
 exact ⟨⟨a,cap,hv,hn,hr.keep hW (fun b o hf e=>hO b o hf e),hF.keep hW,hL⟩⟩
theorem Ic {g:Nat->Int} (hb:isRow 512 g 512=true) (S:Int):Em g S=Dp g S:=by
 have h1:=(Nz hb).2 (256+(Eo S).toNat) (by unfold Eo; omega);unfold Em Dp;rw [show (256+(S+1)%256).toNat=256+(Eo S).toNat by unfold Eo; omega]
 omega
theorem Q6 (w:World) (z:Nat) (u:Value) (bank:Int) (c:A7) (arg rd:Int) (G:Nat->Nat->Prop) (g:Nat->Int) (k:w.heap[z]?=some (.cells (B8 u bank c arg rd) 171 (0,0))) (K:Ints .i64 w G u 512 g) (hb:isRow 512 g 512=true) :
  Calls prog 185 #[(pt z 0)] w fun e w'=>e=.returned (.tuple #[])/\∃ u',w'.heap[z]?=some (.cells (B8 u' bank (Cm g c 0 arg rd) arg rd) 171 (0,0))/\(∀ lo,lo<=w.heap.size->Ao w lo u 512 g->Ao w' lo u' 512 (Cn g c 0))/\Wrote (fun b _=>b=z) w w':=by
 obtain ⟨A,X,S,Pc,Z,N,C,I⟩:=c;have KZ:=Bf K k (by show (12:Nat)<=511; omega);refine (O8 w z u bank A X S Pc Z N C I arg rd k).mono ?_;rintro e w' ⟨rfl,kk,hW⟩;refine ⟨rfl,u,?_,fun lo hl O=>Bm O k (by show (12:Nat)<=511; omega) hW,hW⟩;exact kk
theorem Jax (w:World) (z:Nat) (u:Value) (bank:Int) (c:A7) (arg rd:Int) (G:Nat->Nat->Prop) (g:Nat->Int) (k:w.heap[z]?=some (.cells (B8 u bank c arg rd) 171 (0,0))) (K:Ints .i64 w G u 512 g) (hb:isRow 512 g 512=true) :
  Calls prog 186 #[(pt z 0)] w fun e w'=>e=.returned (.tuple #[])/\∃ u',w'.heap[z]?=some (.cells (B8 u' bank (Cm g c 1 arg rd) arg rd) 171 (0,0))/\(∀ lo,lo<=w.heap.size->Ao w lo u 512 g->Ao w' lo u' 512 (Cn g c 1))/\Wrote (fun b _=>b=z) w w':=by
 obtain ⟨A,X,S,Pc,Z,N,C,I⟩:=c;have KZ:=Bf K k (by show (12:Nat)<=511; omega);refine (Vq w z u bank A X S Pc Z N C I arg rd k).mono ?_;rintro e w' ⟨rfl,kk,hW⟩;refine ⟨rfl,u,?_,fun lo hl O=>Bm O k (by show (12:Nat)<=511; omega) hW,hW⟩;exact kk
theorem Jay (w:World) (z:Nat) (u:Value) (bank:Int) (c:A7) (arg rd:Int) (G:Nat->Nat->Prop) (g:Nat->Int) (k:w.heap[z]?=some (.cells (B8 u bank c arg rd) 171 (0,0))) (K:Ints .i64 w G u 512 g) (hb:isRow 512 g 512=true) :
  Calls prog 187 #[(pt z 0)] w fun e w'=>e=.returned (.tuple #[])/\∃ u',w'.heap[z]?=some (.cells (B8 u' bank (Cm g c 2 arg rd) arg rd) 171 (0,0))/\(∀ lo,lo<=w.heap.size->Ao w lo u 512 g->Ao w' lo u' 512 (Cn g c 2))/\Wrote (fun b _=>b=z) w w':=by
 obtain ⟨A,X,S,Pc,Z,N,C,I⟩:=c;have KZ:=Bf K k (by show (12:Nat)<=511; omega);refine (Ll w z u bank A X S Pc Z N C I arg rd k).mono ?_;rintro e w' ⟨rfl,kk,hW⟩;refine ⟨rfl,u,?_,fun lo hl O=>Bm O k (by show (12:Nat)<=511; omega) hW,hW⟩;exact kk
theorem Jaz (w:World) (z:Nat) (u:Value) (bank:Int) (c:A7) (arg rd:Int) (G:Nat->Nat->Prop) (g:Nat->Int) (k:w.heap[z]?=some (.cells (B8 u bank c arg rd) 171 (0,0))) (K:Ints .i64 w G u 512 g) (hb:isRow 512 g 512=true) :
  Calls prog 185 #[(pt z 0)] w fun e w'=>e=.returned (.tuple #[])/\∃ u',w'.heap[z]?=some (.cells (B8 u' bank (Cm g c 3 arg rd) arg rd) 171 (0,0))/\(∀ lo,lo<=w.heap.size->Ao w lo u 512 g->Ao w' lo u' 512 (Cn g c 3))/\Wrote (fun b _=>b=z) w w':=by
 obtain ⟨A,X,S,Pc,Z,N,C,I⟩:=c;have KZ:=Bf K k (by show (12:Nat)<=511; omega);refine (O8 w z u bank A X S Pc Z N C I arg rd k).mono ?_;rintro e w' ⟨rfl,kk,hW⟩;refine ⟨rfl,u,?_,fun lo hl O=>Bm O k (by show (12:Nat)<=511; omega) hW,hW⟩;exact kk
theorem Ja0 (w:World) (z:Nat) (u:Value) (bank:Int) (c:A7) (arg rd:Int) (G:Nat->Nat->Prop) (g:Nat->Int) (k:w.heap[z]?=some (.cells (B8 u bank c arg rd) 171 (0,0))) (K:Ints .i64 w G u 512 g) (hb:isRow 512 g 512=true) :
  Calls prog 188 #[(pt z 0)] w fun e w'=>e=.returned (.tuple #[])/\∃ u',w'.heap[z]?=some (.cells (B8 u' bank (Cm g c 4 arg rd) arg rd) 171 (0,0))/\(∀ lo,lo<=w.heap.size->Ao w lo u 512 g->Ao w' lo u' 512 (Cn g c 4))/\Wrote (fun b _=>b=z) w w':=by
 obtain ⟨A,X,S,Pc,Z,N,C,I⟩:=c;have KZ:=Bf K k (by show (12:Nat)<=511; omega);refine (Xn w z u bank A X S Pc Z N C I arg rd k).mono ?_;rintro e w' ⟨rfl,kk,hW⟩;refine ⟨rfl,u,?_,fun lo hl O=>Bm O k (by show (12:Nat)<=511; omega) hW,hW⟩;exact kk
theorem Ja1 (w:World) (z:Nat) (u:Value) (bank:Int) (c:A7) (arg rd:Int) (G:Nat->Nat->Prop) (g:Nat->Int) (k:w.heap[z]?=some (.cells (B8 u bank c arg rd) 171 (0,0))) (K:Ints .i64 w G u 512 g) (hb:isRow 512 g 512=true) :
  Calls prog 189 #[(pt z 0)] w fun e w'=>e=.returned (.tuple #[])/\∃ u',w'.heap[z]?=some (.cells (B8 u' bank (Cm g c 5 arg rd) arg rd) 171 (0,0))/\(∀ lo,lo<=w.heap.size->Ao w lo u 512 g->Ao w' lo u' 512 (Cn g c 5))/\Wrote (fun b _=>b=z) w w':=by
 obtain ⟨A,X,S,Pc,Z,N,C,I⟩:=c;have KZ:=Bf K k (by show (12:Nat)<=511; omega);refine (Vs w z u bank A X S Pc Z N C I arg rd k).mono ?_;rintro e w' ⟨rfl,kk,hW⟩;refine ⟨rfl,u,?_,fun lo hl O=>Bm O k (by show (12:Nat)<=511; omega) hW,hW⟩;exact kk
theorem Ja2 (w:World) (z:Nat) (u:Value) (bank:Int) (c:A7) (arg rd:Int) (G:Nat->Nat->Prop) (g:Nat->Int) (k:w.heap[z]?=some (.cells (B8 u bank c arg rd) 171 (0,0))) (K:Ints .i64 w G u 512 g) (hb:isRow 512 g 512=true) :
  Calls prog 190 #[(pt z 0)] w fun e w'=>e=.returned (.tuple #[])/\∃ u',w'.heap[z]?=some (.cells (B8 u' bank (Cm g c 6 arg rd) arg rd) 171 (0,0))/\(∀ lo,lo<=w.heap.size->Ao w lo u 512 g->Ao w' lo u' 512 (Cn g c 6))/\Wrote (fun b _=>b=z) w w':=by
 obtain ⟨A,X,S,Pc,Z,N,C,I⟩:=c;have KZ:=Bf K k (by show (12:Nat)<=511; omega);refine (Ox w z u bank A X S Pc Z N C I arg rd k).mono ?_;rintro e w' ⟨rfl,kk,hW⟩;refine ⟨rfl,u,?_,fun lo hl O=>Bm O k (by show (12:Nat)<=511; omega) hW,hW⟩;rw [Jc6 A arg] at kk;exact kk
theorem Ja3 (w:World) (z:Nat) (u:Value) (bank:Int) (c:A7) (arg rd:Int) (G:Nat->Nat->Prop) (g:Nat->Int) (k:w.heap[z]?=some (.cells (B8 u bank c arg rd) 171 (0,0))) (K:Ints .i64 w G u 512 g) (hb:isRow 512 g 512=true) :
  Calls prog 191 #[(pt z 0)] w fun e w'=>e=.returned (.tuple #[])/\∃ u',w'.heap[z]?=some (.cells (B8 u' bank (Cm g c 7 arg rd) arg rd) 171 (0,0))/\(∀ lo,lo<=w.heap.size->Ao w lo u 512 g->Ao w' lo u' 512 (Cn g c 7))/\Wrote (fun b _=>b=z) w w':=by
 obtain ⟨A,X,S,Pc,Z,N,C,I⟩:=c;have KZ:=Bf K k (by show (12:Nat)<=511; omega);refine (Qe w z u bank A X S Pc Z N C I arg rd k).mono ?_;rintro e w' ⟨rfl,kk,hW⟩;refine ⟨rfl,u,?_,fun lo hl O=>Bm O k (by show (12:Nat)<=511; omega) hW,hW⟩;rw [Je0 A arg] at kk;exact kk
theorem Ja4 (w:World) (z:Nat) (u:Value) (bank:Int) (c:A7) (arg rd:Int) (G:Nat->Nat->Prop) (g:Nat->Int) (k:w.heap[z]?=some (.cells (B8 u bank c arg rd) 171 (0,0))) (K:Ints .i64 w G u 512 g) (hb:isRow 512 g 512=true) :
  Calls prog 192 #[(pt z 0)] w fun e w'=>e=.returned (.tuple #[])/\∃ u',w'.heap[z]?=some (.cells (B8 u' bank (Cm g c 8 arg rd) arg rd) 171 (0,0))/\(∀ lo,lo<=w.heap.size->Ao w lo u 512 g->Ao w' lo u' 512 (Cn g c 8))/\Wrote (fun b _=>b=z) w w':=by
 obtain ⟨A,X,S,Pc,Z,N,C,I⟩:=c;have KZ:=Bf K k (by show (12:Nat)<=511; omega);refine (Lm w z u bank A X S Pc Z N C I arg rd k).mono ?_;rintro e w' ⟨rfl,kk,hW⟩;refine ⟨rfl,u,?_,fun lo hl O=>Bm O k (by show (12:Nat)<=511; omega) hW,hW⟩;rw [Jc7 A arg] at kk;exact kk
theorem Ja5 (w:World) (z:Nat) (u:Value) (bank:Int) (c:A7) (arg rd:Int) (G:Nat->Nat->Prop) (g:Nat->Int) (k:w.heap[z]?=some (.cells (B8 u bank c arg rd) 171 (0,0))) (K:Ints .i64 w G u 512 g) (hb:isRow 512 g 512=true) :
  Calls prog 193 #[(pt z 0)] w fun e w'=>e=.returned (.tuple #[])/\∃ u',w'.heap[z]?=some (.cells (B8 u' bank (Cm g c 9 arg rd) arg rd) 171 (0,0))/\(∀ lo,lo<=w.heap.size->Ao w lo u 512 g->Ao w' lo u' 512 (Cn g c 9))/\Wrote (fun b _=>b=z) w w':=by
 obtain ⟨A,X,S,Pc,Z,N,C,I⟩:=c;have KZ:=Bf K k (by show (12:Nat)<=511; omega);refine (Pd w z u bank A X S Pc Z N C I arg rd k).mono ?_;rintro e w' ⟨rfl,kk,hW⟩;refine ⟨rfl,u,?_,fun lo hl O=>Bm O k (by show (12:Nat)<=511; omega) hW,hW⟩
 have e1:(A%256-arg%256-1+Av true)%256%256=(A%256-arg%256)%256:=by show (A%256-arg%256-1+1)%256%256=_; omega
 have e2:decide (0<=A%256-arg%256-1+Av true)=decide (arg%256<=A%256):=by show decide (0<=A%256-arg%256-1+1)=_; exact decide_eq_decide.2 (by omega)
 rw [e1,e2] at kk;exact kk
theorem Xo (w:World) (z:Nat) (u:Value) (bank:Int) (c:A7) (arg rd:Int) (G:Nat->Nat->Prop) (g:Nat->Int) (k:w.heap[z]?=some (.cells (B8 u bank c arg rd) 171 (0,0))) (K:Ints .i64 w G u 512 g) (hb:isRow 512 g 512=true) :
  Calls prog 194 #[(pt z 0)] w fun e w'=>e=.returned (.tuple #[])/\∃ u',w'.heap[z]?=some (.cells (B8 u' bank (Cm g c 10 arg rd) arg rd) 171 (0,0))/\(∀ lo,lo<=w.heap.size->Ao w lo u 512 g->Ao w' lo u' 512 (Cn g c 10))/\Wrote (fun b _=>b=z) w w':=by
 obtain ⟨A,X,S,Pc,Z,N,C,I⟩:=c;have KZ:=Bf K k (by show (12:Nat)<=511; omega);refine (Ta w z u bank A X S Pc Z N C I arg rd k).mono ?_;rintro e w' ⟨rfl,kk,hW⟩;refine ⟨rfl,u,?_,fun lo hl O=>Bm O k (by show (12:Nat)<=511; omega) hW,hW⟩;exact kk
theorem Xp (w:World) (z:Nat) (u:Value) (bank:Int) (c:A7) (arg rd:Int) (G:Nat->Nat->Prop) (g:Nat->Int) (k:w.heap[z]?=some (.cells (B8 u bank c arg rd) 171 (0,0))) (K:Ints .i64 w G u 512 g) (hb:isRow 512 g 512=true) :
  Calls prog 195 #[(pt z 0)] w fun e w'=>e=.returned (.tuple #[])/\∃ u',w'.heap[z]?=some (.cells (B8 u' bank (Cm g c 11 arg rd) arg rd) 171 (0,0))/\(∀ lo,lo<=w.heap.size->Ao w lo u 512 g->Ao w' lo u' 512 (Cn g c 11))/\Wrote (fun b _=>b=z) w w':=by
 obtain ⟨A,X,S,Pc,Z,N,C,I⟩:=c;have KZ:=Bf K k (by show (12:Nat)<=511; omega);refine (Tb w z u bank A X S Pc Z N C I arg rd k).mono ?_;rintro e w' ⟨rfl,kk,hW⟩;refine ⟨rfl,u,?_,fun lo hl O=>Bm O k (by show (12:Nat)<=511; omega) hW,hW⟩;exact kk
theorem Xq (w:World) (z:Nat) (u:Value) (bank:Int) (c:A7) (arg rd:Int) (G:Nat->Nat->Prop) (g:Nat->Int) (k:w.heap[z]?=some (.cells (B8 u bank c arg rd) 171 (0,0))) (K:Ints .i64 w G u 512 g) (hb:isRow 512 g 512=true) :
  Calls prog 196 #[(pt z 0)] w fun e w'=>e=.returned (.tuple #[])/\∃ u',w'.heap[z]?=some (.cells (B8 u' bank (Cm g c 12 arg rd) arg rd) 171 (0,0))/\(∀ lo,lo<=w.heap.size->Ao w lo u 512 g->Ao w' lo u' 512 (Cn g c 12))/\Wrote (fun b _=>b=z) w w':=by
 obtain ⟨A,X,S,Pc,Z,N,C,I⟩:=c;have KZ:=Bf K k (by show (12:Nat)<=511; omega);refine (Tc w z u bank A X S Pc Z N C I arg rd k).mono ?_;rintro e w' ⟨rfl,kk,hW⟩;refine ⟨rfl,u,?_,fun lo hl O=>Bm O k (by show (12:Nat)<=511; omega) hW,hW⟩
 have e1:IntKind.i64.wrap (X+1)%256=(X%256+1)%256:=by rw [Fj]; omega
 rw [e1] at kk;exact kk
theorem Xr (w:World) (z:Nat) (u:Value) (bank:Int) (c:A7) (arg rd:Int) (G:Nat->Nat->Prop) (g:Nat->Int) (k:w.heap[z]?=some (.cells (B8 u bank c arg rd) 171 (0,0))) (K:Ints .i64 w G u 512 g) (hb:isRow 512 g 512=true) :
  Calls prog 197 #[(pt z 0)] w fun e w'=>e=.returned (.tuple #[])/\∃ u',w'.heap[z]?=some (.cells (B8 u' bank (Cm g c 13 arg rd) arg rd) 171 (0,0))/\(∀ lo,lo<=w.heap.size->Ao w lo u 512 g->Ao w' lo u' 512 (Cn g c 13))/\Wrote (fun b _=>b=z) w w':=by
 obtain ⟨A,X,S,Pc,Z,N,C,I⟩:=c;have KZ:=Bf K k (by show (12:Nat)<=511; omega);refine (Td w z u bank A X S Pc Z N C I arg rd k).mono ?_;rintro e w' ⟨rfl,kk,hW⟩;refine ⟨rfl,u,?_,fun lo hl O=>Bm O k (by show (12:Nat)<=511; omega) hW,hW⟩
 have e1:IntKind.i64.wrap (X-1)%256=(X%256-1)%256:=by rw [Fj]; omega
 rw [e1] at kk;exact kk
theorem Xs (w:World) (z:Nat) (u:Value) (bank:Int) (c:A7) (arg rd:Int) (G:Nat->Nat->Prop) (g:Nat->Int) (k:w.heap[z]?=some (.cells (B8 u bank c arg rd) 171 (0,0))) (K:Ints .i64 w G u 512 g) (hb:isRow 512 g 512=true) :
  Calls prog 187 #[(pt z 0)] w fun e w'=>e=.returned (.tuple #[])/\∃ u',w'.heap[z]?=some (.cells (B8 u' bank (Cm g c 14 arg rd) arg rd) 171 (0,0))/\(∀ lo,lo<=w.heap.size->Ao w lo u 512 g->Ao w' lo u' 512 (Cn g c 14))/\Wrote (fun b _=>b=z) w w':=by
 obtain ⟨A,X,S,Pc,Z,N,C,I⟩:=c;have KZ:=Bf K k (by show (12:Nat)<=511; omega);refine (Ll w z u bank A X S Pc Z N C I arg rd k).mono ?_;rintro e w' ⟨rfl,kk,hW⟩;refine ⟨rfl,u,?_,fun lo hl O=>Bm O k (by show (12:Nat)<=511; omega) hW,hW⟩;exact kk
theorem Xt (w:World) (z:Nat) (u:Value) (bank:Int) (c:A7) (arg rd:Int) (G:Nat->Nat->Prop) (g:Nat->Int) (k:w.heap[z]?=some (.cells (B8 u bank c arg rd) 171 (0,0))) (K:Ints .i64 w G u 512 g) (hb:isRow 512 g 512=true) :
  Calls prog 185 #[(pt z 0)] w fun e w'=>e=.returned (.tuple #[])/\∃ u',w'.heap[z]?=some (.cells (B8 u' bank (Cm g c 15 arg rd) arg rd) 171 (0,0))/\(∀ lo,lo<=w.heap.size->Ao w lo u 512 g->Ao w' lo u' 512 (Cn g c 15))/\Wrote (fun b _=>b=z) w w':=by
 obtain ⟨A,X,S,Pc,Z,N,C,I⟩:=c;have KZ:=Bf K k (by show (12:Nat)<=511; omega);refine (O8 w z u bank A X S Pc Z N C I arg rd k).mono ?_;rintro e w' ⟨rfl,kk,hW⟩;refine ⟨rfl,u,?_,fun lo hl O=>Bm O k (by show (12:Nat)<=511; omega) hW,hW⟩;exact kk
theorem Xu (w:World) (z:Nat) (u:Value) (bank:Int) (c:A7) (arg rd:Int) (G:Nat->Nat->Prop) (g:Nat->Int) (k:w.heap[z]?=some (.cells (B8 u bank c arg rd) 171 (0,0))) (K:Ints .i64 w G u 512 g) (hb:isRow 512 g 512=true) :
  Calls prog 198 #[(pt z 0)] w fun e w'=>e=.returned (.tuple #[])/\∃ u',w'.heap[z]?=some (.cells (B8 u' bank (Cm g c 16 arg rd) arg rd) 171 (0,0))/\(∀ lo,lo<=w.heap.size->Ao w lo u 512 g->Ao w' lo u' 512 (Cn g c 16))/\Wrote (fun b _=>b=z) w w':=by
 obtain ⟨A,X,S,Pc,Z,N,C,I⟩:=c;have KZ:=Bf K k (by show (12:Nat)<=511; omega);refine (Nf w z u bank A X S Pc Z N C I arg rd k).mono ?_;rintro e w' ⟨rfl,kk,hW⟩;refine ⟨rfl,u,?_,fun lo hl O=>Bm O k (by show (12:Nat)<=511; omega) hW,hW⟩
 cases Z <;> exact kk
theorem Xv (w:World) (z:Nat) (u:Value) (bank:Int) (c:A7) (arg rd:Int) (G:Nat->Nat->Prop) (g:Nat->Int) (k:w.heap[z]?=some (.cells (B8 u bank c arg rd) 171 (0,0))) (K:Ints .i64 w G u 512 g) (hb:isRow 512 g 512=true) :
  Calls prog 199 #[(pt z 0)] w fun e w'=>e=.returned (.tuple #[])/\∃ u',w'.heap[z]?=some (.cells (B8 u' bank (Cm g c 17 arg rd) arg rd) 171 (0,0))/\(∀ lo,lo<=w.heap.size->Ao w lo u 512 g->Ao w' lo u' 512 (Cn g c 17))/\Wrote (fun b _=>b=z) w w':=by
 obtain ⟨A,X,S,Pc,Z,N,C,I⟩:=c;have KZ:=Bf K k (by show (12:Nat)<=511; omega);refine (Tf w z u bank A X S Pc Z N C I arg rd k).mono ?_;rintro e w' ⟨rfl,kk,hW⟩;refine ⟨rfl,u,?_,fun lo hl O=>Bm O k (by show (12:Nat)<=511; omega) hW,hW⟩
 cases Z <;> exact kk
theorem Xw (w:World) (z:Nat) (u:Value) (bank:Int) (c:A7) (arg rd:Int) (G:Nat->Nat->Prop) (g:Nat->Int) (k:w.heap[z]?=some (.cells (B8 u bank c arg rd) 171 (0,0))) (K:Ints .i64 w G u 512 g) (hb:isRow 512 g 512=true) :
  Calls prog 200 #[(pt z 0)] w fun e w'=>e=.returned (.tuple #[])/\∃ u',w'.heap[z]?=some (.cells (B8 u' bank (Cm g c 18 arg rd) arg rd) 171 (0,0))/\(∀ lo,lo<=w.heap.size->Ao w lo u 512 g->Ao w' lo u' 512 (Cn g c 18))/\Wrote (fun b _=>b=z) w w':=by
 obtain ⟨A,X,S,Pc,Z,N,C,I⟩:=c;have KZ:=Bf K k (by show (12:Nat)<=511; omega);refine (Qg w z u bank A X S Pc Z N C I arg rd k).mono ?_;rintro e w' ⟨rfl,kk,hW⟩;refine ⟨rfl,u,?_,fun lo hl O=>Bm O k (by show (12:Nat)<=511; omega) hW,hW⟩
 cases C <;> exact kk
theorem Xx (w:World) (z:Nat) (u:Value) (bank:Int) (c:A7) (arg rd:Int) (G:Nat->Nat->Prop) (g:Nat->Int) (k:w.heap[z]?=some (.cells (B8 u bank c arg rd) 171 (0,0))) (K:Ints .i64 w G u 512 g) (hb:isRow 512 g 512=true) :
  Calls prog 201 #[(pt z 0)] w fun e w'=>e=.returned (.tuple #[])/\∃ u',w'.heap[z]?=some (.cells (B8 u' bank (Cm g c 19 arg rd) arg rd) 171 (0,0))/\(∀ lo,lo<=w.heap.size->Ao w lo u 512 g->Ao w' lo u' 512 (Cn g c 19))/\Wrote (fun b _=>b=z) w w':=by
 obtain ⟨A,X,S,Pc,Z,N,C,I⟩:=c;have KZ:=Bf K k (by show (12:Nat)<=511; omega);refine (Oz w z u bank A X S Pc Z N C I arg rd k).mono ?_;rintro e w' ⟨rfl,kk,hW⟩;refine ⟨rfl,u,?_,fun lo hl O=>Bm O k (by show (12:Nat)<=511; omega) hW,hW⟩;exact kk
theorem Xy (w:World) (z:Nat) (u:Value) (bank:Int) (c:A7) (arg rd:Int) (G:Nat->Nat->Prop) (g:Nat->Int) (k:w.heap[z]?=some (.cells (B8 u bank c arg rd) 171 (0,0))) (K:Ints .i64 w G u 512 g) (hb:isRow 512 g 512=true) :
  Calls prog 202 #[(pt z 0)] w fun e w'=>e=.returned (.tuple #[])/\∃ u',w'.heap[z]?=some (.cells (B8 u' bank (Cm g c 20 arg rd) arg rd) 171 (0,0))/\(∀ lo,lo<=w.heap.size->Ao w lo u 512 g->Ao w' lo u' 512 (Cn g c 20))/\Wrote (fun b _=>b=z) w w':=by
 obtain ⟨A,X,S,Pc,Z,N,C,I⟩:=c;have KZ:=Bf K k (by show (12:Nat)<=511; omega);refine (Jc4 w z u bank A X S Pc Z N C I arg rd G g k K hb).mono ?_;rintro e w' ⟨rfl,u',kk,O,hW⟩;exact ⟨rfl,u',kk,fun lo hl _=>Dz O hl,hW⟩
theorem Xz (w:World) (z:Nat) (u:Value) (bank:Int) (c:A7) (arg rd:Int) (G:Nat->Nat->Prop) (g:Nat->Int) (k:w.heap[z]?=some (.cells (B8 u bank c arg rd) 171 (0,0))) (K:Ints .i64 w G u 512 g) (hb:isRow 512 g 512=true) :
  Calls prog 203 #[(pt z 0)] w fun e w'=>e=.returned (.tuple #[])/\∃ u',w'.heap[z]?=some (.cells (B8 u' bank (Cm g c 21 arg rd) arg rd) 171 (0,0))/\(∀ lo,lo<=w.heap.size->Ao w lo u 512 g->Ao w' lo u' 512 (Cn g c 21))/\Wrote (fun b _=>b=z) w w':=by
 obtain ⟨A,X,S,Pc,Z,N,C,I⟩:=c;have KZ:=Bf K k (by show (12:Nat)<=511; omega);refine (Lp w z u bank A X S Pc Z N C I arg rd _ g k KZ hb (fun b o h=>h)).mono ?_;rintro e w' ⟨rfl,kk,hW⟩;refine ⟨rfl,u,?_,fun lo hl O=>Bm O k (by show (12:Nat)<=511; omega) hW,hW⟩;rw [Ic hb,Ic hb] at kk;exact kk
theorem X0 (w:World) (z:Nat) (u:Value) (bank:Int) (c:A7) (arg rd:Int) (G:Nat->Nat->Prop) (g:Nat->Int) (k:w.heap[z]?=some (.cells (B8 u bank c arg rd) 171 (0,0))) (K:Ints .i64 w G u 512 g) (hb:isRow 512 g 512=true) :
  Calls prog 204 #[(pt z 0)] w fun e w'=>e=.returned (.tuple #[])/\∃ u',w'.heap[z]?=some (.cells (B8 u' bank (Cm g c 22 arg rd) arg rd) 171 (0,0))/\(∀ lo,lo<=w.heap.size->Ao w lo u 512 g->Ao w' lo u' 512 (Cn g c 22))/\Wrote (fun b _=>b=z) w w':=by
 obtain ⟨A,X,S,Pc,Z,N,C,I⟩:=c;have KZ:=Bf K k (by show (12:Nat)<=511; omega);refine (Jaq w z u bank A X S Pc Z N C I arg rd G g k K hb).mono ?_;rintro e w' ⟨rfl,u',kk,O,hW⟩;exact ⟨rfl,u',kk,fun lo hl _=>Dz O hl,hW⟩
theorem X4 (w:World) (z:Nat) (u:Value) (bank:Int) (c:A7) (arg rd:Int) (G:Nat->Nat->Prop) (g:Nat->Int) (k:w.heap[z]?=some (.cells (B8 u bank c arg rd) 171 (0,0))) (K:Ints .i64 w G u 512 g) (hb:isRow 512 g 512=true) :
  Calls prog 205 #[(pt z 0)] w fun e w'=>e=.returned (.tuple #[])/\∃ u',w'.heap[z]?=some (.cells (B8 u' bank (Cm g c 23 arg rd) arg rd) 171 (0,0))/\(∀ lo,lo<=w.heap.size->Ao w lo u 512 g->Ao w' lo u' 512 (Cn g c 23))/\Wrote (fun b _=>b=z) w w':=by
 obtain ⟨A,X,S,Pc,Z,N,C,I⟩:=c;have KZ:=Bf K k (by show (12:Nat)<=511; omega);refine (Jar w z u bank A X S Pc Z N C I arg rd _ g k KZ hb).mono ?_;rintro e w' ⟨rfl,kk,hW⟩;refine ⟨rfl,u,?_,fun lo hl O=>Bm O k (by show (12:Nat)<=511; omega) hW,hW⟩;rw [Ic hb] at kk;exact kk
theorem X6 (w:World) (z:Nat) (u:Value) (bank:Int) (c:A7) (arg rd:Int) (G:Nat->Nat->Prop) (g:Nat->Int) (k:w.heap[z]?=some (.cells (B8 u bank c arg rd) 171 (0,0))) (K:Ints .i64 w G u 512 g) (hb:isRow 512 g 512=true) :
  Calls prog 206 #[(pt z 0)] w fun e w'=>e=.returned (.tuple #[])/\∃ u',w'.heap[z]?=some (.cells (B8 u' bank (Cm g c 24 arg rd) arg rd) 171 (0,0))/\(∀ lo,lo<=w.heap.size->Ao w lo u 512 g->Ao w' lo u' 512 (Cn g c 24))/\Wrote (fun b _=>b=z) w w':=by
 obtain ⟨A,X,S,Pc,Z,N,C,I⟩:=c;have KZ:=Bf K k (by show (12:Nat)<=511; omega);refine (Jas w z u bank A X S Pc Z N C I arg rd _ g k KZ hb (fun b o h=>h)).mono ?_;rintro e w' ⟨rfl,kk,hW⟩;refine ⟨rfl,u,?_,fun lo hl O=>Bm O k (by show (12:Nat)<=511; omega) hW,hW⟩;rw [Ic hb,Ic hb,Ic hb] at kk;exact kk
theorem X7 (w:World) (z:Nat) (u:Value) (bank:Int) (c:A7) (arg rd:Int) (G:Nat->Nat->Prop) (g:Nat->Int) (k:w.heap[z]?=some (.cells (B8 u bank c arg rd) 171 (0,0))) (K:Ints .i64 w G u 512 g) (hb:isRow 512 g 512=true) :
  Calls prog 149 #[(pt z 0)] w fun e w'=>e=.returned (.tuple #[])/\∃ u',w'.heap[z]?=some (.cells (B8 u' bank (Cm g c 25 arg rd) arg rd) 171 (0,0))/\(∀ lo,lo<=w.heap.size->Ao w lo u 512 g->Ao w' lo u' 512 (Cn g c 25))/\Wrote (fun b _=>b=z) w w':=by
 obtain ⟨A,X,S,Pc,Z,N,C,I⟩:=c;have KZ:=Bf K k (by show (12:Nat)<=511; omega);refine (M9 w z u bank A X S Pc Z N C I arg rd k).mono ?_;rintro e w' ⟨rfl,kk,hW⟩;refine ⟨rfl,u,?_,fun lo hl O=>Bm O k (by show (12:Nat)<=511; omega) hW,hW⟩;exact kk
theorem X8 (w:World) (z:Nat) (u:Value) (bank:Int) (c:A7) (arg rd:Int) (G:Nat->Nat->Prop) (g:Nat->Int) (k:w.heap[z]?=some (.cells (B8 u bank c arg rd) 171 (0,0))) (K:Ints .i64 w G u 512 g) (hb:isRow 512 g 512=true) :
  Calls prog 207 #[(pt z 0)] w fun e w'=>e=.returned (.tuple #[])/\∃ u',w'.heap[z]?=some (.cells (B8 u' bank (Cm g c 26 arg rd) arg rd) 171 (0,0))/\(∀ lo,lo<=w.heap.size->Ao w lo u 512 g->Ao w' lo u' 512 (Cn g c 26))/\Wrote (fun b _=>b=z) w w':=by
 obtain ⟨A,X,S,Pc,Z,N,C,I⟩:=c;have KZ:=Bf K k (by show (12:Nat)<=511; omega);refine (Qf w z u bank A X S Pc Z N C I arg rd k).mono ?_;rintro e w' ⟨rfl,kk,hW⟩;refine ⟨rfl,u,?_,fun lo hl O=>Bm O k (by show (12:Nat)<=511; omega) hW,hW⟩;exact kk
theorem X9 (w:World) (z:Nat) (u:Value) (bank:Int) (c:A7) (arg rd:Int) (G:Nat->Nat->Prop) (g:Nat->Int) (k:w.heap[z]?=some (.cells (B8 u bank c arg rd) 171 (0,0))) (K:Ints .i64 w G u 512 g) (hb:isRow 512 g 512=true) :
  Calls prog 208 #[(pt z 0)] w fun e w'=>e=.returned (.tuple #[])/\∃ u',w'.heap[z]?=some (.cells (B8 u' bank (Cm g c 27 arg rd) arg rd) 171 (0,0))/\(∀ lo,lo<=w.heap.size->Ao w lo u 512 g->Ao w' lo u' 512 (Cn g c 27))/\Wrote (fun b _=>b=z) w w':=by
 obtain ⟨A,X,S,Pc,Z,N,C,I⟩:=c;have KZ:=Bf K k (by show (12:Nat)<=511; omega);refine (Te w z u bank A X S Pc Z N C I arg rd k).mono ?_;rintro e w' ⟨rfl,kk,hW⟩;refine ⟨rfl,u,?_,fun lo hl O=>Bm O k (by show (12:Nat)<=511; omega) hW,hW⟩;exact kk
theorem Ya (w:World) (z:Nat) (u:Value) (bank:Int) (c:A7) (arg rd:Int) (G:Nat->Nat->Prop) (g:Nat->Int) (k:w.heap[z]?=some (.cells (B8 u bank c arg rd) 171 (0,0))) (K:Ints .i64 w G u 512 g) (hb:isRow 512 g 512=true) :
  Calls prog 209 #[(pt z 0)] w fun e w'=>e=.returned (.tuple #[])/\∃ u',w'.heap[z]?=some (.cells (B8 u' bank (Cm g c 28 arg rd) arg rd) 171 (0,0))/\(∀ lo,lo<=w.heap.size->Ao w lo u 512 g->Ao w' lo u' 512 (Cn g c 28))/\Wrote (fun b _=>b=z) w w':=by
 obtain ⟨A,X,S,Pc,Z,N,C,I⟩:=c;have KZ:=Bf K k (by show (12:Nat)<=511; omega);refine (Oy w z u bank A X S Pc Z N C I arg rd k).mono ?_;rintro e w' ⟨rfl,kk,hW⟩;refine ⟨rfl,u,?_,fun lo hl O=>Bm O k (by show (12:Nat)<=511; omega) hW,hW⟩;exact kk
theorem Yb (w:World) (z:Nat) (u:Value) (bank:Int) (c:A7) (arg rd:Int) (G:Nat->Nat->Prop) (g:Nat->Int) (k:w.heap[z]?=some (.cells (B8 u bank c arg rd) 171 (0,0))) (K:Ints .i64 w G u 512 g) (hb:isRow 512 g 512=true) :
  Calls prog 210 #[(pt z 0)] w fun e w'=>e=.returned (.tuple #[])/\∃ u',w'.heap[z]?=some (.cells (B8 u' bank (Cm g c 29 arg rd) arg rd) 171 (0,0))/\(∀ lo,lo<=w.heap.size->Ao w lo u 512 g->Ao w' lo u' 512 (Cn g c 29))/\Wrote (fun b _=>b=z) w w':=by
 obtain ⟨A,X,S,Pc,Z,N,C,I⟩:=c;have KZ:=Bf K k (by show (12:Nat)<=511; omega);refine (Vr w z u bank A X S Pc Z N C I arg rd k).mono ?_;rintro e w' ⟨rfl,kk,hW⟩;refine ⟨rfl,u,?_,fun lo hl O=>Bm O k (by show (12:Nat)<=511; omega) hW,hW⟩;exact kk
theorem Jc8 (op:Int) (w:World) (z:Nat) (u:Value) (bank:Int) (c:A7) (arg rd:Int) (G:Nat->Nat->Prop) (g:Nat->Int) (k:w.heap[z]?=some (.cells (B8 u bank c arg rd) 171 (0,0))) (K:Ints .i64 w G u 512 g) (hb:isRow 512 g 512=true) :
  Calls prog (Gz op) #[(pt z 0)] w fun e w'=>e=.returned (.tuple #[])/\∃ u',w'.heap[z]?=some (.cells (B8 u' bank (Cm g c op arg rd) arg rd) 171 (0,0))/\(∀ lo,lo<=w.heap.size->Ao w lo u 512 g->Ao w' lo u' 512 (Cn g c op))/\Wrote (fun b _=>b=z) w w':=by
 by_cases h:0<=op/\op<=29
 .obtain ⟨n,rfl⟩:∃ n:Nat,op=n:=⟨op.toNat,by omega⟩
  have hn:n<30:=by omega
  match n,hn with
  | 0,_=>exact Q6 w z u bank c arg rd G g k K hb
  | 1,_=>exact Jax w z u bank c arg rd G g k K hb
  | 2,_=>exact Jay w z u bank c arg rd G g k K hb
  | 3,_=>exact Jaz w z u bank c arg rd G g k K hb
  | 4,_=>exact Ja0 w z u bank c arg rd G g k K hb
  | 5,_=>exact Ja1 w z u bank c arg rd G g k K hb
  | 6,_=>exact Ja2 w z u bank c arg rd G g k K hb
  | 7,_=>exact Ja3 w z u bank c arg rd G g k K hb
  | 8,_=>exact Ja4 w z u bank c arg rd G g k K hb
  | 9,_=>exact Ja5 w z u bank c arg rd G g k K hb
  | 10,_=>exact Xo w z u bank c arg rd G g k K hb
  | 11,_=>exact Xp w z u bank c arg rd G g k K hb
  | 12,_=>exact Xq w z u bank c arg rd G g k K hb
  | 13,_=>exact Xr w z u bank c arg rd G g k K hb
  | 14,_=>exact Xs w z u bank c arg rd G g k K hb
  | 15,_=>exact Xt w z u bank c arg rd G g k K hb
  | 16,_=>exact Xu w z u bank c arg rd G g k K hb
  | 17,_=>exact Xv w z u bank c arg rd G g k K hb
  | 18,_=>exact Xw w z u bank c arg rd G g k K hb
  | 19,_=>exact Xx w z u bank c arg rd G g k K hb
  | 20,_=>exact Xy w z u bank c arg rd G g k K hb
  | 21,_=>exact Xz w z u bank c arg rd G g k K hb
  | 22,_=>exact X0 w z u bank c arg rd G g k K hb
  | 23,_=>exact X4 w z u bank c arg rd G g k K hb
  | 24,_=>exact X6 w z u bank c arg rd G g k K hb
  | 25,_=>exact X7 w z u bank c arg rd G g k K hb
  | 26,_=>exact X8 w z u bank c arg rd G g k K hb
  | 27,_=>exact X9 w z u bank c arg rd G g k K hb
  | 28,_=>exact Ya w z u bank c arg rd G g k K hb
  | 29,_=>exact Yb w z u bank c arg rd G g k K hb
  | n+30,hn=>omega
 .have hF:Gz op=185:=by unfold Gz; rw [if_neg h]
  have hC:Cm g c op arg rd=c:=by
   unfold Cm;rw [if_neg (by unfold Ib; intro hh; have:=of_decide_eq_true hh; omega)];simp only [show ¬ op=16 by omega,show ¬ op=17 by omega,show ¬ op=18 by omega,show ¬ op=19 by omega,show ¬ op=20 by omega,show ¬ op=21 by omega,show ¬ op=22 by omega,show ¬ op=23 by omega,show ¬ op=24 by omega,show ¬ op=25 by omega,show ¬ op=26 by omega,show ¬ op=27 by omega,show ¬ op=28 by omega,if_false]
  have hG:Cn g c op=g:=by unfold Cn; rw [if_neg (by omega),if_neg (by omega)]
  rw [hF,hC,hG];exact Q6 w z u bank c arg rd G g k K hb
end Go.Proofs.YtijljlnooibbmaaGreatDoor
