import Derived.Test.YtgcmimcalmjaaaaGreatDoorWD
namespace Go.Proofs.YtgcmimcalmjaaaaGreatDoor
set_option maxHeartbeats 4000000
set_option maxRecDepth 20000
set_option linter.unusedVariables false
open Go.ChangeShapes Go.WideShapes Go.ChangeAt Go.RowKit
theorem S9 (m:Nat) (ln:Nat→Nat) (f:Nat→Nat→Int) (n:Nat) (g:Nat→Int) (bank x:Int):0≤peekV m ln f n g bank x∧peekV m ln f n g bank x≤255:=by
  unfold peekV;split
  · rename_i h
    obtain ⟨hi,hn,hb,hg⟩:=Fg h;have hI:=of_decide_eq_true hi
    have bk:∀ i j,i<m→j<256→0≤f i j∧f i j≤255:=fun i j h1 h2=>(Gi (hI.1 i h1)).2 j h2
    unfold Em
    rcases Hv (x%65536) (by omega) (by omega) with ⟨e,p0,p1⟩ | ⟨e,p0,p1⟩ | ⟨e,p0,p1⟩ | e
    · rw [if_pos e]; exact hg _ (by omega)
    · rw [if_neg (by omega),if_pos e]; exact bk _ _ (by omega) (by omega)
    · rw [if_neg (by omega),if_neg (by omega),if_pos e]; exact bk _ _ (by omega) (by omega)
    · rw [if_neg (by omega),if_neg (by omega),if_neg (by omega)]; omega
  · omega
structure FB (w W:World) (ia:Option Addr) (m icap:Nat) (ua:Option Addr) (n ucap:Nat) (bank:Int):Prop where
  img:W.heap[w.heap.size]?=some (.cells #[.slice ia m icap] 41 (0,0))
  mem:W.heap[w.heap.size+1]?=some (.cells #[.slice ua n ucap,.i bank] 42 (0,0))
  res:W.heap[w.heap.size+1+1]?=some (.cells #[.i 0,.i 0] 109 (0,0))
  low:Below w.heap.size w W
section
variable {w W W':World} {ia:Option Addr} {m icap:Nat} {ua:Option Addr} {n ucap:Nat} {bank:Int}
theorem FB.below (D:FB w W ia m icap ua n ucap bank) (L:Below W.heap.size W W'):FB w W' ia m icap ua n ucap bank :=
  ⟨Aa D.img L (Ac D.img),Aa D.mem L (Ac D.mem),Aa D.res L (Ac D.res),Ae D.low L⟩
theorem FB.cells (D:FB w W ia m icap ua n ucap bank):W.cell? ⟨w.heap.size,0,none⟩=some (.slice ia m icap)∧W.cell? ⟨w.heap.size+1,0,none⟩=some (.slice ua n ucap)∧W.cell? ⟨w.heap.size+1,1,none⟩=some (.i bank) :=
  ⟨Ag D.img 0,Ag D.mem 0,Ag D.mem 1⟩
end
theorem Wj (w:World) (F G:Nat→Nat→Prop) (v u:Value) (m:Nat) (ln:Nat→Nat) (f:Nat→Nat→Int) (n:Nat) (g:Nat→Int) (bank x:Int) (H:Ba .i64 w F v m ln f) (K:Ints .i64 w G u n g) (T:Dc w) :
    Calls Tryz.prog 137 #[.agg #[v],.agg #[u,.i bank],.i x] w fun e w'=>e=.returned (.agg #[.i (peekV m ln f n g bank x),.i (Ib (peekV m ln f n g bank) x)])∧Below w.heap.size w w':=by
  obtain ⟨ia,icap,rfl,im,iF,iR⟩:=H;obtain ⟨ua,ucap,rfl,un,uR,uF⟩:=K
  have H:Ba .i64 w F (.slice ia m icap) m ln f:=⟨ia,icap,rfl,im,iF,iR⟩
  have K:Ints .i64 w G (.slice ua n ucap) n g:=⟨ua,ucap,rfl,un,uR,uF⟩
  clear iF iR uR uF;have HP1:=Ad (I5 m ln f n g bank (x+1));have HP2:=Ad (I5 m ln f n g bank (x+2));have HB:=Ad (S9 m ln f n g bank (x+1))
  have D0:FB w (((w.alloc (.cells #[.slice ia m icap] 41)).alloc (.cells #[.slice ua n ucap,.i bank] 42)).alloc (.cells #[.i 0,.i 0] 109)) ia m icap ua n ucap bank :=
    ⟨Ax (Ax (Al w #[.slice ia m icap] 41) (.cells #[.slice ua n ucap,.i bank] 42)) (.cells #[.i 0,.i 0] 109),
     by simpa using Ax (Al (w.alloc (.cells #[.slice ia m icap] 41)) #[.slice ua n ucap,.i bank] 42) (.cells #[.i 0,.i 0] 109),
     by simpa using Al ((w.alloc (.cells #[.slice ia m icap] 41)).alloc (.cells #[.slice ua n ucap,.i bank] 42)) #[.i 0,.i 0] 109,
     (((Below.refl _ _).alloc (Nat.le_refl _) _).alloc (by simp) _).alloc (by simp; omega) _⟩
  have HFA:Hid (∀ t,(opLn (peekV m ln f n g bank x)=2→t=peekV m ln f n g bank (x+1))→(opLn (peekV m ln f n g bank x)=3→t=peekV m ln f n g bank (x+1)%256+256*(peekV m ln f n g bank (x+2)%256))→(¬ opLn (peekV m ln f n g bank x)=2→¬ opLn (peekV m ln f n g bank x)=3→t=0)→Ib (peekV m ln f n g bank) x=t):=by
    intro t h1 h2 h3;unfold Ib
    by_cases e2:opLn (peekV m ln f n g bank x)=2
    · rw [if_pos e2,h1 e2]
    · by_cases e3:opLn (peekV m ln f n g bank x)=3
      · rw [if_neg e2,if_pos e3,h2 e3]
      · rw [if_neg e2,if_neg e3,h3 e2 e3]
  go_enter Tryz.func137,Tryz.ntmps137
  go_wp2_with fail;generalize (((w.alloc (.cells #[.slice ia m icap] 41)).alloc (.cells #[.slice ua n ucap,.i bank] 42)).alloc (.cells #[.i 0,.i 0] 109))=W0 at *;refine (Gm _ F G _ _ m ln f n g bank x (H.keep (Ab D0.low Aj) (fun _ _ _ x=>x)) (K.keep (Ab D0.low Aj) (fun _ _ _ x=>x))).mono ?_;rintro e W1 ⟨rfl,L⟩;have D1:=D0.below L;clear D0 L;go_wp2_with fail;refine (show Calls Tryz.prog 157 #[.i (peekV m ln f n g bank x)] W1 (fun e w'=>e=.returned (.i (opLn (peekV m ln f n g bank x)))∧Below W1.heap.size W1 w') from Oc W1 _ (T.mono D1.low)).mono ?_;rintro e W2 ⟨rfl,L⟩;have D2:=D1.below L;clear D1 L;generalize opLn (peekV m ln f n g bank x)=len at *
  by_cases e2:len=2
  · have HE:=Ad (HFA.out _ (fun _=>rfl) (fun h=>absurd h (by omega)) (fun h=>absurd e2 h))
    clear HFA;subst e2;obtain ⟨c1,c2,c3⟩:=D2.cells;go_wp2_with fail;refine (Gm _ F G _ _ m ln f n g bank _ (H.keep (Ab D2.low Aj) (fun _ _ _ x=>x)) (K.keep (Ab D2.low Aj) (fun _ _ _ x=>x))).mono ?_;rintro e W3 ⟨rfl,L⟩;rw [HP1.out];clear c1 c2 c3;have D3:=D2.below L;clear D2 L;have d1:=Ag D3.res;have d3:=As D3.res;go_wp2_with (go_at_call 158; refine (Hp _ _ _).mono ?_; rintro e w' ⟨rfl,rfl⟩);refine bodyPost_ret (v:=.agg #[.i (peekV m ln f n g bank x),.i (peekV m ln f n g bank (x+1)%256)]) (by simp [results,Tryz.results137,go_sem,d1]) rfl ?_;exact ⟨by rw [HE.out,Int.emod_eq_of_lt HB.out.1 (by have:=HB.out.2; omega)],(D3.low.setCell (by simp; omega) _).setCell (by simp; omega) _⟩
  · have e2':(len==2)=false:=by simpa using e2
    by_cases e3:len=3
    · have HE:=Ad (HFA.out _ (fun h=>absurd h (by omega)) (fun _=>rfl) (fun _ h=>absurd e3 h))
      clear HFA;subst e3;obtain ⟨c1,c2,c3⟩:=D2.cells;go_wp2_with fail;refine (Gm _ F G _ _ m ln f n g bank _ (H.keep (Ab D2.low Aj) (fun _ _ _ x=>x)) (K.keep (Ab D2.low Aj) (fun _ _ _ x=>x))).mono ?_;rintro e W3 ⟨rfl,L⟩;rw [HP2.out];clear c1 c2 c3;have D3:=D2.below L;clear D2 L;obtain ⟨c1,c2,c3⟩:=D3.cells;go_wp2_with fail;refine (Gm _ F G _ _ m ln f n g bank _ (H.keep (Ab D3.low Aj) (fun _ _ _ x=>x)) (K.keep (Ab D3.low Aj) (fun _ _ _ x=>x))).mono ?_;rintro e W4 ⟨rfl,L⟩;rw [HP1.out];clear c1 c2 c3;have D4:=D3.below L;clear D3 L;have d1:=Ag D4.res;have d3:=As D4.res;go_wp2_with (go_at_call 158; refine (Hp _ _ _).mono ?_; rintro e w' ⟨rfl,rfl⟩)
      refine bodyPost_ret (v:=.agg #[.i (peekV m ln f n g bank x),.i (peekV m ln f n g bank (x+1)%256+256*(peekV m ln f n g bank (x+2)%256))]) (by simp [results,Tryz.results137,go_sem,d1]) rfl ?_;exact ⟨by rw [HE.out],(D4.low.setCell (by simp; omega) _).setCell (by simp; omega) _⟩
    · have e3':(len==3)=false:=by simpa using e3
      have HE:=Ad (HFA.out 0 (fun h=>absurd h e2) (fun h=>absurd h e3) (fun _ _=>rfl));clear e2 e3 HFA;have d1:=Ag D2.res;have d3:=As D2.res;go_wp2_with (go_at_call 158; refine (Hp _ _ _).mono ?_; rintro e w' ⟨rfl,rfl⟩);refine bodyPost_ret (v:=.agg #[.i (peekV m ln f n g bank x),.i 0]) (by simp [results,Tryz.results137,go_sem,d1]) rfl ?_;exact ⟨by rw [HE.out],(D2.low.setCell (by simp; omega) _).setCell (by simp; omega) _⟩
def Lv (op arg X:Int):Int:=(if op=14∨op=15 then arg+X else arg)%65536
theorem Yw:∀ k:Fin 30,k.1≠14→k.1≠15→((Vr.getD k.1 ByteArray.empty).toList==[108,97,120])=false∧((Vr.getD k.1 ByteArray.empty).toList==[115,97,120])=false:=by
  intro ⟨i,hi⟩ h14 h15
  show _∧_
  match i,hi,h14,h15 with
  | 0,_,_,_=>exact ⟨by kernel_rfl,by kernel_rfl⟩
  | 1,_,_,_=>exact ⟨by kernel_rfl,by kernel_rfl⟩
  | 2,_,_,_=>exact ⟨by kernel_rfl,by kernel_rfl⟩
  | 3,_,_,_=>exact ⟨by kernel_rfl,by kernel_rfl⟩
  | 4,_,_,_=>exact ⟨by kernel_rfl,by kernel_rfl⟩
  | 5,_,_,_=>exact ⟨by kernel_rfl,by kernel_rfl⟩
  | 6,_,_,_=>exact ⟨by kernel_rfl,by kernel_rfl⟩
  | 7,_,_,_=>exact ⟨by kernel_rfl,by kernel_rfl⟩
  | 8,_,_,_=>exact ⟨by kernel_rfl,by kernel_rfl⟩
  | 9,_,_,_=>exact ⟨by kernel_rfl,by kernel_rfl⟩
  | 10,_,_,_=>exact ⟨by kernel_rfl,by kernel_rfl⟩
  | 11,_,_,_=>exact ⟨by kernel_rfl,by kernel_rfl⟩
  | 12,_,_,_=>exact ⟨by kernel_rfl,by kernel_rfl⟩
  | 13,_,_,_=>exact ⟨by kernel_rfl,by kernel_rfl⟩
  | 14,_,h,_=>exact absurd rfl h
  | 15,_,_,h=>exact absurd rfl h
  | 16,_,_,_=>exact ⟨by kernel_rfl,by kernel_rfl⟩
  | 17,_,_,_=>exact ⟨by kernel_rfl,by kernel_rfl⟩
  | 18,_,_,_=>exact ⟨by kernel_rfl,by kernel_rfl⟩
  | 19,_,_,_=>exact ⟨by kernel_rfl,by kernel_rfl⟩
  | 20,_,_,_=>exact ⟨by kernel_rfl,by kernel_rfl⟩
  | 21,_,_,_=>exact ⟨by kernel_rfl,by kernel_rfl⟩
  | 22,_,_,_=>exact ⟨by kernel_rfl,by kernel_rfl⟩
  | 23,_,_,_=>exact ⟨by kernel_rfl,by kernel_rfl⟩
  | 24,_,_,_=>exact ⟨by kernel_rfl,by kernel_rfl⟩
  | 25,_,_,_=>exact ⟨by kernel_rfl,by kernel_rfl⟩
  | 26,_,_,_=>exact ⟨by kernel_rfl,by kernel_rfl⟩
  | 27,_,_,_=>exact ⟨by kernel_rfl,by kernel_rfl⟩
  | 28,_,_,_=>exact ⟨by kernel_rfl,by kernel_rfl⟩
  | 29,_,_,_=>exact ⟨by kernel_rfl,by kernel_rfl⟩
  | n+30,hi,_,_=>exact absurd hi (by omega)
theorem Ta (op:Int) (h:op≠14) (g:op≠15):((nmOf op).toList==[108,97,120])=false∧((nmOf op).toList==[115,97,120])=false:=by
  unfold nmOf;split
  · rename_i k
    exact Yw ⟨op.toNat,by omega⟩ (by show op.toNat≠14; omega) (by show op.toNat≠15; omega)
  · exact ⟨by kernel_rfl,by kernel_rfl⟩
theorem Oj (w:World) (op arg A X S Pc:Int) (Z N C I:Bool) (T:Dc w):Calls Tryz.prog 160 #[.agg #[.i op,.i arg],.agg (cR A X S Pc Z N C I)] w
    fun e w'=>e=.returned (.i (Lv op arg X))∧Below w.heap.size w w':=by
  have L0:Below w.heap.size w ((w.alloc (.cells #[.i op,.i arg] 109)).alloc (.cells (cR A X S Pc Z N C I) 43)):=((Below.refl _ _).alloc (Nat.le_refl _) _).alloc (by simp) _;have k0:=Ax (Al w #[.i op,.i arg] 109) (.cells (cR A X S Pc Z N C I) 43)
  have k1:((w.alloc (.cells #[.i op,.i arg] 109)).alloc (.cells (cR A X S Pc Z N C I) 43)).heap[w.heap.size+1]?=some (.cells (cR A X S Pc Z N C I) 43 (0,0)):=by simpa using Al (w.alloc (.cells #[.i op,.i arg] 109)) (cR A X S Pc Z N C I) 43
  have HW:Hid (wrap64 (arg+X)%65536=(arg+X)%65536):=by show _=_; unfold wrap64; omega
  go_enter Tryz.func160,Tryz.ntmps160
  go_wp2_with fail;generalize ((w.alloc (.cells #[.i op,.i arg] 109)).alloc (.cells (cR A X S Pc Z N C I) 43))=W0 at *;refine (Sx _ _ (T.mono L0)).mono ?_;rintro e W1 ⟨rfl,L⟩;have c0:=Ag (Aa k0 L (Ac k0));have c1:=Ag (Aa k1 L (Ac k1));have L1:=Ae L0 L;clear k0 k1 L0 L T
  by_cases h14:op=14
  · subst h14
    rw [show nmOf 14=⟨#[108,97,120]⟩ from rfl];go_wp2_with (go_at_call 99; refine (Gh _ _).mono ?_; rintro e w' ⟨rfl,rfl⟩; rw [HW.out]);go_ret;exact ⟨rfl,L1⟩
  · by_cases h15:op=15
    · subst h15
      rw [show nmOf 15=⟨#[115,97,120]⟩ from rfl];go_wp2_with (go_at_call 99; refine (Gh _ _).mono ?_; rintro e w' ⟨rfl,rfl⟩; rw [HW.out]);go_ret;exact ⟨rfl,L1⟩
    · have HE:Hid (Lv op arg X=arg%65536):=by show _=_; unfold Lv; rw [if_neg (by omega)]
      obtain ⟨n1,n2⟩:=Ta op h14 h15;clear h14 h15;generalize nmOf op=nm at *;go_wp2_with (go_at_call 99; refine (Gh _ _).mono ?_; rintro e w' ⟨rfl,rfl⟩);go_ret;exact ⟨Az HE.out.symm,L1⟩
theorem Tb (w:World) (op arg A X S Pc:Int) (Z N C I:Bool) (T:Dc w):Calls Tryz.prog 138 #[.agg #[.i op,.i arg],.agg (cR A X S Pc Z N C I)] w
    fun e w'=>e=.returned (.tuple #[.i (B9 op),.i (F9 op arg X),.i (Lt op A)])∧Below w.heap.size w w':=by
  have L0:Below w.heap.size w ((w.alloc (.cells #[.i op,.i arg] 109)).alloc (.cells (cR A X S Pc Z N C I) 43)):=((Below.refl _ _).alloc (Nat.le_refl _) _).alloc (by simp) _;have k0:=Ax (Al w #[.i op,.i arg] 109) (.cells (cR A X S Pc Z N C I) 43)
  have k1:((w.alloc (.cells #[.i op,.i arg] 109)).alloc (.cells (cR A X S Pc Z N C I) 43)).heap[w.heap.size+1]?=some (.cells (cR A X S Pc Z N C I) 43 (0,0)):=by simpa using Al (w.alloc (.cells #[.i op,.i arg] 109)) (cR A X S Pc Z N C I) 43
  have HA:Hid ((B9 op=0→F9 op arg X=0)∧(B9 op≠0→F9 op arg X=Lv op arg X)∧(B9 op=2→Lt op A=A%256)∧(B9 op≠2→Lt op A=0)):=by
    show _∧_∧_∧_
    unfold F9 Lt Lv;exact ⟨fun h=>if_pos h,fun h=>if_neg h,fun h=>if_pos h,fun h=>if_neg h⟩
  have HC:Hid (B9 op=0∨B9 op=1∨B9 op=2):=by
    show _∨_∨_
    unfold B9;split
    · exact Or.inr (Or.inl rfl)
    · split
      · exact Or.inr (Or.inr rfl)
      · exact Or.inl rfl
  go_enter Tryz.func138,Tryz.ntmps138
  go_wp2_with fail;generalize ((w.alloc (.cells #[.i op,.i arg] 109)).alloc (.cells (cR A X S Pc Z N C I) 43))=W0 at *;refine (Pp _ _ (T.mono L0)).mono ?_;rintro e W1 ⟨rfl,L⟩;rw [Jah];have c0:=Ag (Aa k0 L (Ac k0));have c1:=Ag (Aa k1 L (Ac k1));have L1:=Ae L0 L;have T1:=Ad (T.mono L1);clear k0 k1 L0 L T;generalize hac:B9 op=ac at *;replace hac:=Ad hac
  rcases HC.out with rfl | rfl | rfl
  · have e1:=Ad (HA.out.1 rfl)
    have e2:=Ad (HA.out.2.2.2 (by decide));clear HA HC;go_wp2
    go_ret3
    exact ⟨by rw [hac.out,e1.out,e2.out]; rfl,L1⟩
  · have e1:=Ad (HA.out.2.1 (by decide))
    have e2:=Ad (HA.out.2.2.2 (by decide));clear HA HC;go_wp2_with (go_at_call 160; refine (Oj _ op arg A X S Pc Z N C I (An T1)).mono ?_; rintro e w' ⟨rfl,L2⟩)
    go_ret3
    exact ⟨by rw [hac.out,e1.out,e2.out]; rfl,Ae L1 L2⟩
  · have e1:=Ad (HA.out.2.1 (by decide))
    have e2:=Ad (HA.out.2.2.1 rfl);clear HA HC;go_wp2_with (first | (go_at_call 98; refine (Ck _ _).mono ?_; rintro e w' ⟨rfl,rfl⟩) | (go_at_call 160; refine (Oj _ op arg A X S Pc Z N C I (An T1)).mono ?_; rintro e w' ⟨rfl,L2⟩))
    go_ret3
    exact ⟨by rw [hac.out,e1.out,e2.out]; rfl,Ae L1 L2⟩
set_option maxHeartbeats 4000000
set_option maxRecDepth 8000
set_option linter.unusedSimpArgs false
theorem Rx:(Tryz.prog.info? 161).map (·.size)=some 12:=by kernel_rfl
theorem Nb {P:Program} {fn:Func} {p q:Tmp} {ty ty':TypeId} (h:fn.results=#[.cell p ty,.cell q ty']) (tmps:Array Value) (w:World) (g g':Nat) (t t':TypeId) (cs cs':Array Value) (fr fr':Nat × Nat) (dd dd':TypeDesc)
  (hp:tmps.getD p undef=(pt g 0)) (hq:tmps.getD q undef=(pt g' 0)) (hg:w.heap[g]?=some (.cells cs t fr)) (hg':w.heap[g']?=some (.cells cs' t' fr')) (hu:P.underlying ty=some dd) (hu':P.underlying ty'=some dd') (hd:(match dd with | .struct _ | .array _ _=>true | _=>false)=true) (hd':(match dd' with | .struct _ | .array _ _=>true | _=>false)=true) (hi:(P.info? ty).map (·.size)=some cs.size) (hi':(P.info? ty').map (·.size)=some cs'.size) :
  (results fn tmps).run P w=.ok (.tuple #[.agg cs,.agg cs']) w:=by
 have hp':tmps[p]?.getD undef=(pt g 0):=by simpa using hp
 have hq':tmps[q]?.getD undef=(pt g' 0):=by simpa using hq
 simp [results,h,hp',hq',asAddr,run_loadVar_row w g t ty cs fr dd hg hu hd hi,run_loadVar_row w g' t' ty' cs' fr' dd' hg' hu' hd' hi']
theorem addrAt (w:World) (F G:Nat→Nat→Prop) (v u:Value) (m:Nat) (ln:Nat→Nat) (f:Nat→Nat→Int) (n:Nat) (g:Nat→Int) (bank x:Int) (H:Ba .i64 w F v m ln f) (K:Ints .i64 w G u n g) :
  Calls Tryz.prog 155 #[.agg #[v],.agg #[u,.i bank],.i x] w fun e w'=>e=.returned (.i (peekV m ln f n g bank x%256+256*(peekV m ln f n g bank (x+1)%256)))∧Below w.heap.size w w':=by
 obtain ⟨ia,icap,rfl,im,iF,iR⟩:=H;obtain ⟨ua,ucap,rfl,un,uR,uF⟩:=K
 have H:Ba .i64 w F (.slice ia m icap) m ln f:=⟨ia,icap,rfl,im,iF,iR⟩
 have K:Ints .i64 w G (.slice ua n ucap) n g:=⟨ua,ucap,rfl,un,uR,uF⟩
 clear iF iR uR uF;have C0:Below w.heap.size w ((w.alloc (.cells #[.slice ia m icap] 41)).alloc (.cells #[.slice ua n ucap,.i bank] 42)):=((Below.refl _ _).alloc (Nat.le_refl _) _).alloc (by simp) _;have k0:=Ax (Al w #[.slice ia m icap] 41) (.cells #[.slice ua n ucap,.i bank] 42)
 have k1:((w.alloc (.cells #[.slice ia m icap] 41)).alloc (.cells #[.slice ua n ucap,.i bank] 42)).heap[w.heap.size+1]?=some (.cells #[.slice ua n ucap,.i bank] 42 (0,0)):=by simpa using Al (w.alloc (.cells #[.slice ia m icap] 41)) #[.slice ua n ucap,.i bank] 42
 have HP1:=Ad (F8 m ln f n g bank (x+1))
 go_enter Tryz.func155,Tryz.ntmps155
 go_upto_region 1 with (fail);generalize ((w.alloc (.cells #[.slice ia m icap] 41)).alloc (.cells #[.slice ua n ucap,.i bank] 42))=W0 at *
 have c1:∀ d os,(Go.Sort.grow (redrawn W0 d) os).cell? ⟨w.heap.size,0,none⟩=some (.slice ia m icap):=fun d os=>cell_regrown (Ag k0 0) d os
 have c2:∀ d os,(Go.Sort.grow (redrawn W0 d) os).cell? ⟨w.heap.size+1,0,none⟩=some (.slice ua n ucap):=fun d os=>cell_regrown (Ag k1 0) d os
 have c3:∀ d os,(Go.Sort.grow (redrawn W0 d) os).cell? ⟨w.heap.size+1,1,none⟩=some (.i bank):=fun d os=>cell_regrown (Ag k1 1) d os
 have HT:Hid (∀ d os y,Calls Tryz.prog 156 #[.agg #[.slice ia m icap],.agg #[.slice ua n ucap,.i bank],.i y] (Go.Sort.grow (redrawn W0 d) os) fun e w'=>e=.returned (.i (peekV m ln f n g bank y))∧Below (Go.Sort.grow (redrawn W0 d) os).heap.size (Go.Sort.grow (redrawn W0 d) os) w'):=fun d os y =>
  have L:=Ae C0 (below_regrown W0 d os)
  Gm _ F G _ _ m ln f n g bank y (H.keep (Ab L Aj) (fun _ _ _ x=>x)) (K.keep (Ab L Aj) (fun _ _ _ x=>x))
 clear H K k0 k1;refine wp_region_quiet_below (by kernel_rfl) (by kernel_rfl) ?_
 repeat (quiet_step (first
  | (go_at_call 158; exact Calls.regrown_of ((Hp _ _ _).mono (fun _ _ h=>⟨h.1,h.2 ▸ Below.refl _ _⟩)))
  | (go_at_call 156; exact Calls.regrown_of (HT.out _ _ _))))
 refine wpQuiet_nil ?_;intro _ hw';obtain ⟨⟨dq,osq⟩,hw''⟩:=hw';subst hw'';have LQ:=Ae C0 (below_regrown W0 dq osq);generalize Go.Sort.grow (redrawn W0 dq) osq=W1 at *;go_wp2_with fail;go_ret;exact ⟨by rw [HP1.out]; rfl,LQ⟩
theorem Ry {w w':World} {lo:Nat} {u:Value} {g:Nat→Int} {z y:Nat} {cs ds:Array Value} {T T':TypeId} {fr fr':Nat × Nat} (O:Am w lo u 512 g) (k:w.heap[z]?=some (.cells cs T fr)) (hs:cs.size≤511) (k':w.heap[y]?=some (.cells ds T' fr')) (hs':ds.size≤511) (hW:Wrote (fun b _=>b=z∨b=y) w w'):Am w' lo u 512 g:=by
 obtain ⟨a,cap,hv,hn,hr,hF,hL⟩:=O.ex;obtain ⟨a',cap',hv',-,-,hO⟩:=A7 (Ex O) k hs;obtain ⟨a2,cap2,hv2,-,-,hO2⟩:=A7 (Ex O) k' hs';rw [hv] at hv' hv2
 obtain ⟨rfl,rfl⟩:a=a'∧cap=cap':=by simpa using hv'
 obtain ⟨rfl,rfl⟩:a=a2∧cap=cap2:=by simpa using hv2
 exact ⟨⟨a,cap,hv,hn,hr.keep hW (fun b o hf e=>e.elim (hO b o hf) (hO2 b o hf)),hF.keep hW,hL⟩⟩
theorem Zt (w:World) (hT:Dc w) (G:Nat→Nat→Prop) (u:Value) (g:Nat→Int) (bank:Int) (K:Ints .i64 w G u 512 g) (hb:isRow 512 g 512=true) (c:A4) (hPc:0≤c.Pc∧c.Pc≤65535) (op arg v:Int):Calls Tryz.prog 141 #[.agg #[u,.i bank],c.v,.agg #[.i op,.i arg],.i v] w
  fun e w'=>∃ q,e=.returned (.tuple #[.agg #[q,.i bank],(Dy g c op arg v).v])∧Am w' w.heap.size q 512 (Ew g c op)∧Below w.heap.size w w':=by
 obtain ⟨A,X,S,Pc,Z,N,C,I⟩:=c;obtain ⟨ua,ucap,rfl,un,hrow,hF⟩:=id K;clear hrow hF
 obtain ⟨l,hl⟩:∃ x,Hid (x=opLn op):=⟨_,rfl⟩
 have hl1:1≤l∧l≤3:=by rw [hl.out]; exact Vf op
 obtain ⟨pc,hpc⟩:∃ x,Hid (x=(Pc+l)%65536):=⟨_,rfl⟩
 have hPc':0≤Pc∧Pc≤65535:=hPc
 have hwr:IntKind.i64.wrap (Pc+l)=Pc+l:=by rw [IntKind.wrap_i64]; omega
 have HLn:=Ad (fun W (h:Dc W)=>Oc W op h);rw [show lenOf op=l from hl.out.symm] at HLn;have HAd:=Ad (fun W=>Gh (Pc+l) W);rw [← hpc.out] at HAd
 have HC:nextC ⟨A,X,S,Pc,Z,N,C,I⟩ op=⟨A,X,S,pc,Z,N,C,I⟩:=by show (⟨_,_,_,_,_,_,_,_⟩:A4)=_; rw [show (Pc+opLn op)%65536=pc by rw [hpc.out,hl.out]]
 have HE:=Ad (Ts g ⟨A,X,S,Pc,Z,N,C,I⟩ op arg v);have HGG:=Ad (Tt g ⟨A,X,S,Pc,Z,N,C,I⟩ op);rw [HC] at HE HGG;have HD:=Ad (fun W z q (k:W.heap[z]?=some (.cells (rR q bank A X S pc Z N C I arg v) 161 (0,0))) (KK:Ints .i64 W (fun _ _=>True) q 512 g)=>Zs op W z q bank ⟨A,X,S,pc,Z,N,C,I⟩ arg v _ g k KK hb)
 obtain ⟨gg,hgg⟩:∃ x,Hid (x=Ch g ⟨A,X,S,pc,Z,N,C,I⟩ op):=⟨_,rfl⟩
 rw [← hgg.out] at HD HGG;rw [HGG.out,HE.out]
 obtain ⟨cd,hcd⟩:∃ x,Hid (x=Cg g ⟨A,X,S,pc,Z,N,C,I⟩ op arg v):=⟨_,rfl⟩
 rw [← hcd.out] at HD;rw [← hcd.out];have HT:=Ad hT;clear HC hl hpc hgg HGG HE hcd hT hb
 show Calls Tryz.prog 141 #[.agg #[.slice ua 512 ucap,.i bank],.agg (cR A X S Pc Z N C I),.agg #[.i op,.i arg],.i v] w _
 have C0:Below w.heap.size w (((((w.alloc (.cells #[.slice ua 512 ucap,.i bank] 42)).alloc (.cells (cR A X S Pc Z N C I) 43)).alloc (.cells #[.i op,.i arg] 109)).alloc (.cells mZ 42)).alloc (.cells cZ 43)):=((((((Below.refl _ _).alloc (by first | exact Nat.le_refl _ | (simp; done) | (simp; omega)) _).alloc (by first | exact Nat.le_refl _ | (simp; done) | (simp; omega)) _).alloc (by first | exact Nat.le_refl _ | (simp; done) | (simp; omega)) _).alloc (by first | exact Nat.le_refl _ | (simp; done) | (simp; omega)) _).alloc (by first | exact Nat.le_refl _ | (simp; done) | (simp; omega)) _)
 have k_x:(((((w.alloc (.cells #[.slice ua 512 ucap,.i bank] 42)).alloc (.cells (cR A X S Pc Z N C I) 43)).alloc (.cells #[.i op,.i arg] 109)).alloc (.cells mZ 42)).alloc (.cells cZ 43)).heap[w.heap.size]?=some (.cells #[.slice ua 512 ucap,.i bank] 42 (0,0)):=by simpa using Ax (Ax (Ax (Ax (Al w #[.slice ua 512 ucap,.i bank] 42) (.cells (cR A X S Pc Z N C I) 43)) (.cells #[.i op,.i arg] 109)) (.cells mZ 42)) (.cells cZ 43)
 have k_c:(((((w.alloc (.cells #[.slice ua 512 ucap,.i bank] 42)).alloc (.cells (cR A X S Pc Z N C I) 43)).alloc (.cells #[.i op,.i arg] 109)).alloc (.cells mZ 42)).alloc (.cells cZ 43)).heap[w.heap.size+1]?=some (.cells (cR A X S Pc Z N C I) 43 (0,0)):=by simpa using Ax (Ax (Ax (Al (w.alloc (.cells #[.slice ua 512 ucap,.i bank] 42)) (cR A X S Pc Z N C I) 43) (.cells #[.i op,.i arg] 109)) (.cells mZ 42)) (.cells cZ 43)
 have k_i:(((((w.alloc (.cells #[.slice ua 512 ucap,.i bank] 42)).alloc (.cells (cR A X S Pc Z N C I) 43)).alloc (.cells #[.i op,.i arg] 109)).alloc (.cells mZ 42)).alloc (.cells cZ 43)).heap[w.heap.size+1+1]?=some (.cells #[.i op,.i arg] 109 (0,0)):=by simpa using Ax (Ax (Al ((w.alloc (.cells #[.slice ua 512 ucap,.i bank] 42)).alloc (.cells (cR A X S Pc Z N C I) 43)) #[.i op,.i arg] 109) (.cells mZ 42)) (.cells cZ 43)
 have k_r1:(((((w.alloc (.cells #[.slice ua 512 ucap,.i bank] 42)).alloc (.cells (cR A X S Pc Z N C I) 43)).alloc (.cells #[.i op,.i arg] 109)).alloc (.cells mZ 42)).alloc (.cells cZ 43)).heap[w.heap.size+1+1+1]?=some (.cells mZ 42 (0,0)):=by simpa using Ax (Al (((w.alloc (.cells #[.slice ua 512 ucap,.i bank] 42)).alloc (.cells (cR A X S Pc Z N C I) 43)).alloc (.cells #[.i op,.i arg] 109)) mZ 42) (.cells cZ 43)
 have k_r2:(((((w.alloc (.cells #[.slice ua 512 ucap,.i bank] 42)).alloc (.cells (cR A X S Pc Z N C I) 43)).alloc (.cells #[.i op,.i arg] 109)).alloc (.cells mZ 42)).alloc (.cells cZ 43)).heap[w.heap.size+1+1+1+1]?=some (.cells cZ 43 (0,0)):=by simpa using Al ((((w.alloc (.cells #[.slice ua 512 ucap,.i bank] 42)).alloc (.cells (cR A X S Pc Z N C I) 43)).alloc (.cells #[.i op,.i arg] 109)).alloc (.cells mZ 42)) cZ 43
 go_enter Tryz.func141,Tryz.ntmps141
 go_upto_region 1 with (fail);rename_i K1 hK1;have KK:=K.keep (Ab C0 Aj) (fun _ _ _ x=>x);generalize ((((w.alloc (.cells #[.slice ua 512 ucap,.i bank] 42)).alloc (.cells (cR A X S Pc Z N C I) 43)).alloc (.cells #[.i op,.i arg] 109)).alloc (.cells mZ 42)).alloc (.cells cZ 43)=W0 at *;have l_x:=Ac k_x;have l_c:=Ac k_c;have l_i:=Ac k_i;have l_r1:=Ac k_r1;have l_r2:=Ac k_r2
 refine Bz [some 11,some 12,some 13,some 14,some 15,some 16,some 17,some 10,none] (by kernel_rfl) (by kernel_rfl) (by kernel_rfl) (by kernel_rfl) (by first | (simp [slotsOf]; done) | (simp [slotsOf,Act.put]; done)) [(1,8),(6,8),(7,8)]
  (fun j b _=>(j=8∧W0.heap.size≤b))
  (fun i V W=>match i with
   | 0=>V 0=.agg #[.slice ua 512 ucap,.i bank]
   | 1=>∃ q,V 1=.agg #[q,.i bank]∧Am W w.heap.size q 512 g
   | 2=>V 2=.agg (cR A X S Pc Z N C I)
   | 3=>V 3=(pt (w.heap.size+1+1) 1)
   | 4=>V 4=.i arg
   | 5=>V 5=.i v
   | 6=>∃ q,V 6=.agg (rR q bank A X S Pc Z N C I arg v)∧Am W w.heap.size q 512 g
   | 7=>∃ p,V 7=(pt p 0)∧W.heap[p]?=some (.cells (rR (.slice none 0 0) 0 0 0 0 0 false false false false 0 0) 161 (0,0))∧W0.heap.size≤p
   | _=>∃ p q,V 7=(pt p 0)∧W.heap[p]?=some (.cells (rR q bank A X S Pc Z N C I arg v) 161 (0,0))∧Am W w.heap.size q 512 g∧W0.heap.size≤p) ?_ ?_ ?_
 ·intro i j o V x W W' hij ho hnd hW h
  rcases i with _|_|_|_|_|_|_|_|_|i
  all_goals try exact (Ar V x hij).trans h
  ·obtain ⟨q,h1,O⟩:=h
   exact ⟨q,(Ar V x hij).trans h1,O.away hW (fun b' o h1 h2 e=>by simp at hnd; omega)⟩
  ·obtain ⟨q,h1,O⟩:=h
   exact ⟨q,(Ar V x hij).trans h1,O.away hW (fun b' o h1 h2 e=>by simp at hnd; omega)⟩
  ·obtain ⟨q,h1,h2,h3⟩:=h
   exact ⟨q,(Ar V x hij).trans h1,Ak h2 hW (fun o e=>by simp at hnd; omega),h3⟩
  ·obtain ⟨p,q,h1,h2,O,h3⟩:=h
   exact ⟨p,q,(by rw [Ar V x (fun e=>by subst e; simp only [List.getElem?_toArray,List.getElem?_cons_zero,List.getElem?_cons_succ,Option.some.injEq] at ho; subst ho; cases hnd.1.symm.trans (show A0 _ 7=true by kernel_rfl))]; exact h1),Ak h2 hW (fun o e=>by omega),O.away hW (fun b' o h1 h2 e=>by omega),h3⟩
  all_goals simp at ho
 ·intro i o a' W K8 ho F L hw hK
  match i with
  | 0 =>
   cases ho;have t4:=F.get (t:=4) (v:=(pt w.heap.size 0)) (by decide) rfl;have rB:=Ak k_x L (fun o ⟨j,oj,hj,hoj,hwj,e⟩=>by rcases e with ⟨rfl,e⟩ <;> first | omega | (cases hwj.symm.trans (show Bb _ 6 _ 0=true by kernel_rfl)));have rb:=Ag rB;go_simp;exact Hk hK (Ai _ _ _)
  | 1 =>
   cases ho;have q0:tv a' 11=_:=Hq hw 0;have KW:=KK.keep L (fun b o hb ⟨j,oj,hj,hoj,hwj,e⟩=>by rcases e with ⟨rfl,e⟩ <;> first | omega | (cases hwj.symm.trans (show Bb _ 6 _ 1=true by kernel_rfl)));go_simp;refine (Js W G (.slice ua 512 ucap) 512 g bank KW).mono ?_;rintro e W' ⟨q,rfl,O,LX⟩;exact hK _ _ (Ab LX _) ⟨q,Ai _ _ _,Dl O (Nat.le_trans C0.size L.size)⟩
  | 2 =>
   cases ho;have t5:=F.get (t:=5) (v:=(pt (w.heap.size+1) 0)) (by decide) rfl;have rB:=Ak k_c L (fun o ⟨j,oj,hj,hoj,hwj,e⟩=>by rcases e with ⟨rfl,e⟩ <;> first | omega | (cases hwj.symm.trans (show Bb _ 6 _ 2=true by kernel_rfl)));have rb:=Ag rB;go_simp;exact Hk hK (Ai _ _ _)
  | 3 =>
   cases ho;have t6:=F.get (t:=6) (v:=(pt (w.heap.size+1+1) 0)) (by decide) rfl;go_simp;exact Hk hK (Ai _ _ _)
  | 4 =>
   cases ho;have q3:tv a' 14=_:=Hq hw 3;have rB:=Ak k_i L (fun o ⟨j,oj,hj,hoj,hwj,e⟩=>by rcases e with ⟨rfl,e⟩ <;> first | omega | (cases hwj.symm.trans (show Bb _ 6 _ 4=true by kernel_rfl)));have rb:=Ag rB;go_simp;exact Hk hK (Ai _ _ _)
  | 5 =>
   cases ho;have t3:=F.get (t:=3) (v:=.i v) (by decide) rfl;go_simp;exact Hk hK (Ai _ _ _)
  | 6 =>
   cases ho;have q1:=Hq hw 1;have q2:tv a' 13=_:=Hq hw 2;have q4:tv a' 15=_:=Hq hw 4;have q5:tv a' 16=_:=Hq hw 5;obtain ⟨q,h1,O⟩:=q1;replace h1:a'.tmps[12]?.getD undef=.agg #[q,.i bank]:=h1;go_simp;exact Hk hK ⟨q,Ai _ _ _,O⟩
  | 7 =>
   cases ho;go_simp;exact hK _ _ ((Wrote.refl _ W).alloc _) ⟨_,Ai _ _ _,Al W _ _,L.size⟩
  | 8 =>
   cases ho;have q7:=Hq hw 7;have q6:=Hq hw 6;obtain ⟨p,h1,rB,h3⟩:=q7;obtain ⟨q,h4,O⟩:=q6;replace h1:a'.tmps[10]?.getD undef=(pt p 0):=h1;replace h4:a'.tmps[17]?.getD undef=.agg (rR q bank A X S Pc Z N C I arg v):=h4
   obtain ⟨xa,xc,hu⟩:∃ a c,q=.slice a 512 c:=by obtain ⟨a,c,hq,_⟩:=O.ex; exact ⟨a,c,hq⟩
   refine wp_store_row _ _ _ rfl p (rR q bank A X S Pc Z N C I arg v) (by simpa [Act.eval] using h1) (by simpa [Act.eval] using h4) _ _ rB Rx rfl (by subst hu; first | kernel_rfl | simp [Value.oneCell']) ?_;exact hK undef _ ((Bm rB _).mono (fun b o _ (h:b=p)=>⟨rfl,by omega⟩)) ⟨p,q,(by rw [Ar _ _ (by decide)]; exact h1),setRow_heap _ _ _ _ _ _ rB,Bd O rB (by show (12:Nat)≤511; omega) (Bm rB _),h3⟩
  | _+9=>simp at ho
 ·intro a' W F L hφ
  have p11:a'.tmps[11]?.getD undef=_:=Hf hφ 0;have p13:a'.tmps[13]?.getD undef=_:=Hf hφ 2;have p14:a'.tmps[14]?.getD undef=_:=Hf hφ 3;have p15:a'.tmps[15]?.getD undef=_:=Hf hφ 4;have p16:a'.tmps[16]?.getD undef=_:=Hf hφ 5;have e8:=Hf hφ 8;rw [F.same,show slotsOf [some 11,some 12,some 13,some 14,some 15,some 16,some 17,some 10,none]=[11,12,13,14,15,16,17,10] from rfl];simp only [List.foldl_cons,List.foldl_nil];obtain ⟨p,q,e1,kp,OQ,hp⟩:=e8;replace e1:a'.tmps[10]?.getD undef=(pt p 0):=e1;replace k_x:=Ak k_x L (fun o ⟨j,e⟩=>by omega);replace k_c:=Ak k_c L (fun o ⟨j,e⟩=>by omega);replace k_i:=Ak k_i L (fun o ⟨j,e⟩=>by omega);replace k_r1:=Ak k_r1 L (fun o ⟨j,e⟩=>by omega);replace k_r2:=Ak k_r2 L (fun o ⟨j,e⟩=>by omega)
  replace C0:=C0.trans (L.below C0.size (fun b' o hb ⟨j,e⟩=>by omega));generalize a'.tmps[12]?.getD undef=gl1;generalize a'.tmps[17]?.getD undef=gl2;rw [p11,p13,p14,p15,p16,e1];clear hφ F L e1 p11 p13 p14 p15 p16;refine hK1 _ _ ?_;clear hK1;go_simp;go_upto_region 2 with (fail);rename_i K2 hK2
  have g1:∀ d os,(Go.Sort.grow (redrawn W d) os).cell? ⟨w.heap.size+1,3,none⟩=some (.i Pc):=fun d os=>Ag (Aa k_c (below_regrown W d os) (Ac k_c)) 3
  have g2:∀ d os,(Go.Sort.grow (redrawn W d) os).cell? ⟨w.heap.size+1+1,0,none⟩=some (.i op):=fun d os=>Ag (Aa k_i (below_regrown W d os) (Ac k_i)) 0
  refine A6 (n:=9) (by kernel_rfl) (by kernel_rfl) rfl ?_;simp only [List.take_succ_cons,List.take_zero,Act.put,List.setIfInBounds_toArray,List.set_cons_succ,List.set_cons_zero]
  iterate 9 (go_big_quiet_step (first | (go_at_call 157; exact Calls.regrown_of (HLn.out _ (HT.out.mono (Ae C0 (below_regrown _ _ _))))) | (go_at_call 99; exact Calls.regrown_of ((HAd.out _).mono fun e w' ⟨h1,h2⟩=>⟨h1,h2 ▸ Below.refl _ _⟩))))
  refine wpQuiet_nil ?_;intro w' hw';obtain ⟨⟨dq,os⟩,rfl⟩:=hw';clear g1 g2;have LB:=below_regrown W dq os;replace C0:=Ae C0 LB;replace OQ:=OQ.keepL LB;replace kp:=Aa kp LB (Ac kp);replace k_x:=Aa k_x LB (Ac k_x);replace k_c:=Aa k_c LB (Ac k_c);replace k_i:=Aa k_i LB (Ac k_i);replace k_r1:=Aa k_r1 LB (Ac k_r1);replace k_r2:=Aa k_r2 LB (Ac k_r2);have hpW:W0.heap.size≤p:=hp;clear LB;generalize Go.Sort.grow (redrawn W dq) os=W3 at *;have LP:=Wrote.setCell (b:=p) (o:=5) (R:=fun b _=>b=p) (Wrote.refl _ W3) (fun _=>rfl) (.i pc);have kP:=Af (o:=5) kp (.i pc);simp only [List.setIfInBounds_toArray,List.set_cons_succ,List.set_cons_zero] at kP;have cp:=Ag kp;have fp:=As kp;go_simp;clear cp fp;replace OQ:=Bd OQ kp (by show (12:Nat)≤511; omega) LP
  replace C0:=C0.trans (LP.below C0.size (fun b' o hb (e:b'=p)=>by omega));replace k_x:=Ak k_x LP (fun o (e:_=p)=>by omega);replace k_c:=Ak k_c LP (fun o (e:_=p)=>by omega);replace k_i:=Ak k_i LP (fun o (e:_=p)=>by omega);replace k_r1:=Ak k_r1 LP (fun o (e:_=p)=>by omega);replace k_r2:=Ak k_r2 LP (fun o (e:_=p)=>by omega);generalize W3.setCell ⟨p,5,none⟩ (.i pc)=W4 at *;clear LP kp;refine hK2 _ _ ?_;clear hK2;go_simp;have c_i:=Ag k_i;go_wp2_with fail;refine (Jco _ op).mono ?_;rintro e W5 ⟨rfl,L5⟩;replace C0:=Ae C0 L5;replace k_x:=Aa k_x L5 (Ac k_x);replace k_c:=Aa k_c L5 (Ac k_c);replace k_i:=Aa k_i L5 (Ac k_i);replace k_r1:=Aa k_r1 L5 (Ac k_r1);replace k_r2:=Aa k_r2 L5 (Ac k_r2)
  replace OQ:=OQ.away (Ab L5 Aj) (fun _ _ _ _ x=>x);have kQ:=Aa kP L5 (Ac kP);clear L5 c_i kP;have HDC:=Xr op #[(pt p 0)] W5;go_wp2_with fail;refine (HD.out W5 p q kQ (Ex OQ)).mono ?_;rintro e W6 ⟨rfl,q2,kp,hO,L6⟩;replace OQ:=hO w.heap.size C0.size OQ;replace C0:=C0.trans (L6.below C0.size (fun b o hb (e:b=p)=>by omega));replace k_x:=Ak k_x L6 (fun o (e:_=p)=>by omega);replace k_c:=Ak k_c L6 (fun o (e:_=p)=>by omega);replace k_i:=Ak k_i L6 (fun o (e:_=p)=>by omega);replace k_r1:=Ak k_r1 L6 (fun o (e:_=p)=>by omega);replace k_r2:=Ak k_r2 L6 (fun o (e:_=p)=>by omega);clear kQ hO L6 HD HDC
  obtain ⟨qa2,qc2,hu⟩:∃ a c,q2=.slice a 512 c:=by obtain ⟨a,c,hq,_⟩:=OQ.ex; exact ⟨a,c,hq⟩
  subst hu;replace kp:W6.heap[p]?=some (.cells (rR (.slice qa2 512 qc2) bank cd.A cd.X cd.S cd.Pc cd.Z cd.N cd.C cd.I arg v) 161 (0,0)):=kp;go_upto_region 4 with (fail);rename_i K4 hK4
  refine Bz [some 31,some 32,some 33,some 34,none,none] (by kernel_rfl) (by kernel_rfl) (by kernel_rfl) (by kernel_rfl) (by first | (simp [slotsOf]; done) | (simp [slotsOf,Act.put]; done)) []
   (fun j b _=>(j=4∧b=w.heap.size+1+1+1)∨(j=5∧b=w.heap.size+1+1+1+1))
   (fun i V W=>match i with
    | 0=>V 0=(pt p 0)
    | 1=>V 1=.agg #[.slice qa2 512 qc2,.i bank]
    | 2=>V 2=(pt p 2)
    | 3=>V 3=.agg (cR cd.A cd.X cd.S cd.Pc cd.Z cd.N cd.C cd.I)
    | 4=>W.heap[w.heap.size+1+1+1]?=some (.cells #[.slice qa2 512 qc2,.i bank] 42 (0,0))
    | _=>W.heap[w.heap.size+1+1+1+1]?=some (.cells (cR cd.A cd.X cd.S cd.Pc cd.Z cd.N cd.C cd.I) 43 (0,0))) ?_ ?_ ?_
  ·intro i j o V x W W' hij ho hnd hW h
   rcases i with _|_|_|_|_|_|i
   all_goals try exact (Ar V x hij).trans h
   ·exact Ak h hW (fun o e=>by omega)
   ·exact Ak h hW (fun o e=>by omega)
   all_goals simp at ho
  ·intro i o a' W K8 ho F L hw hK
   match i with
   | 0 =>
    cases ho;have t10:=F.get (t:=10) (v:=(pt p 0)) (by decide) rfl;go_simp;exact Hk hK (Ai _ _ _)
   | 1 =>
    cases ho;have q0:tv a' 31=_:=Hq hw 0;have rB:=Ak kp L (fun o ⟨j,oj,hj,hoj,hwj,e⟩=>by rcases e with ⟨rfl,e⟩ | ⟨rfl,e⟩ <;> first | omega | (cases hwj.symm.trans (show Bb _ 6 _ 1=true by kernel_rfl)));have rb:=Ag rB;go_simp;exact Hk hK (Ai _ _ _)
   | 2 =>
    cases ho;have t10:=F.get (t:=10) (v:=(pt p 0)) (by decide) rfl;go_simp;exact Hk hK (Ai _ _ _)
   | 3 =>
    cases ho;have q2:tv a' 33=_:=Hq hw 2;have rB:=Ak kp L (fun o ⟨j,oj,hj,hoj,hwj,e⟩=>by rcases e with ⟨rfl,e⟩ | ⟨rfl,e⟩ <;> first | omega | (cases hwj.symm.trans (show Bb _ 6 _ 3=true by kernel_rfl)));have rb:=Ag rB;go_simp;exact Hk hK (Ai _ _ _)
   | 4 =>
    cases ho;have t8:=F.get (t:=8) (v:=(pt (w.heap.size+1+1+1) 0)) (by decide) rfl;have q1:tv a' 32=_:=Hq hw 1;have rB:=Ak k_r1 L (fun o ⟨j,oj,hj,hoj,hwj,e⟩=>by omega);refine wp_store_row _ _ _ rfl (w.heap.size+1+1+1) #[.slice qa2 512 qc2,.i bank] (by simpa [Act.eval] using t8) (by simpa [Act.eval] using q1) _ _ rB Fs rfl (by first | kernel_rfl | simp [Value.oneCell']) ?_;exact hK undef _ ((Bm rB _).mono (fun b o _ h=>Or.inl ⟨rfl,h⟩)) (setRow_heap _ _ _ _ _ _ rB)
   | 5 =>
    cases ho;have t9:=F.get (t:=9) (v:=(pt (w.heap.size+1+1+1+1) 0)) (by decide) rfl;have q3:tv a' 34=_:=Hq hw 3;have rB:=Ak k_r2 L (fun o ⟨j,oj,hj,hoj,hwj,e⟩=>by omega);refine wp_store_row _ _ _ rfl (w.heap.size+1+1+1+1) (cR cd.A cd.X cd.S cd.Pc cd.Z cd.N cd.C cd.I) (by simpa [Act.eval] using t9) (by simpa [Act.eval] using q3) _ _ rB Dz rfl (by first | kernel_rfl | simp [Value.oneCell']) ?_;exact hK undef _ ((Bm rB _).mono (fun b o _ h=>Or.inr ⟨rfl,h⟩)) (setRow_heap _ _ _ _ _ _ rB)
   | _+6=>simp at ho
  ·intro a' W F L hφ
   have p31:a'.tmps[31]?.getD undef=_:=Hf hφ 0;have p32:a'.tmps[32]?.getD undef=_:=Hf hφ 1;have p33:a'.tmps[33]?.getD undef=_:=Hf hφ 2;have p34:a'.tmps[34]?.getD undef=_:=Hf hφ 3;have e4:=Hf hφ 4;have e5:=Hf hφ 5;rw [F.same,show slotsOf [some 31,some 32,some 33,some 34,none,none]=[31,32,33,34] from rfl];simp only [List.foldl_cons,List.foldl_nil];have LP:=L.mono (S:=fun b _=>b=w.heap.size+1+1+1∨b=w.heap.size+1+1+1+1) (fun b o _ ⟨j,e⟩=>by omega);have CF:=C0.trans (L.below C0.size (fun b' o hb ⟨j,e⟩=>by omega));have OF:=Ry OQ k_r1 (by show (2:Nat)≤511; omega) k_r2 (by show (8:Nat)≤511; omega) LP;rw [p31,p32,p33,p34];clear hφ F L LP p31 p32 p33 p34;refine hK4 _ _ ?_;clear hK4;go_simp;go_wp2
   refine bodyPost_ret (v:=.tuple #[.agg #[.slice qa2 512 qc2,.i bank],.agg (cR cd.A cd.X cd.S cd.Pc cd.Z cd.N cd.C cd.I)]) (Nb Tryz.results141 _ _ (w.heap.size+1+1+1) (w.heap.size+1+1+1+1) _ _ _ _ _ _ _ _ rfl rfl e4 e5 Tryz.underlying42 Tryz.underlying43 rfl rfl Fs Dz) rfl ?_;exact ⟨_,rfl,OF,CF⟩
theorem X1 (w:World) (F G:Nat→Nat→Prop) (iv u:Value) (m:Nat) (ln:Nat→Nat) (f:Nat→Nat→Int) (g:Nat→Int) (bank:Int) (H:Ba .i64 w F iv m ln f) (K:Ints .i64 w G u 512 g) (hb:isRow 512 g 512=true) (A X S Pc:Int) (Z N C I:Bool) (vec:Int) :
  Calls Tryz.prog 136 #[.agg #[iv],.agg #[u,.i bank],.agg (cR A X S Pc Z N C I),.i vec] w
  fun e w'=>∃ q,e=.returned (.tuple #[.agg #[q,.i bank],.agg (cR A X (dec8 (dec8 (dec8 S))) (Hc m ln f (enterG g S Pc Z N C I) bank vec) Z N C true)])∧Am w' w.heap.size q 512 (enterG g S Pc Z N C I)∧Below w.heap.size w w':=by
 obtain ⟨ua,ucap,rfl,un,hrow,hF⟩:=id K;clear hrow hF
 obtain ⟨d2,hd2⟩:∃ x,Hid (x=dec8 (dec8 S)):=⟨_,rfl⟩
 obtain ⟨d3,hd3⟩:∃ x,Hid (x=dec8 d2):=⟨_,rfl⟩
 obtain ⟨fl,hfl⟩:∃ x,Hid (x=flagsOf Z N C I):=⟨_,rfl⟩
 obtain ⟨g2,hg2⟩:∃ x,Hid (x=B7 (B7 g S (Pc/256)) (dec8 S) Pc):=⟨_,rfl⟩
 obtain ⟨g3,hg3⟩:∃ x,Hid (x=B7 g2 d2 fl):=⟨_,rfl⟩
 have hge:enterG g S Pc Z N C I=g3:=by rw [hg3.out,hg2.out,hd2.out,hfl.out]; rfl
 obtain ⟨pE,hpE⟩:∃ x,Hid (x=Hc m ln f g3 bank vec):=⟨_,rfl⟩
 have hb2:isRow 512 g2 512=true:=by rw [hg2.out]; exact Jd (Jd hb)
 have HQ:=Ad (fun W z q (k:W.heap[z]?=some (.cells (rR q bank A X S Pc Z N C I 0 0) 161 (0,0))) (KK:Ints .i64 W (fun _ _=>True) q 512 g)=>M9 W z q bank A X S Pc Z N C I 0 0 _ g k KK hb);rw [← hd2.out,← hg2.out] at HQ;have HFl:=Ad (fun W=>Vx W A X d2 Pc Z N C I);rw [← hfl.out] at HFl;have HPu:=Ad (fun W z q (k:W.heap[z]?=some (.cells (rR q bank A X d2 Pc Z N C I 0 0) 161 (0,0))) (KK:Ints .i64 W (fun _ _=>True) q 512 g2)=>J3 W z q bank A X d2 Pc Z N C I 0 0 _ g2 fl k KK hb2);rw [← hd3.out,← hg3.out] at HPu;have HI:=Ad (fun W (C0:Below w.heap.size w W) q (KK:Ints .i64 W (fun _ _=>True) q 512 g3)=>addrAt W F _ iv q m ln f 512 g3 bank vec (H.keep (Ab C0 Aj) (fun _ _ _ x=>x)) KK);rw [show peekV m ln f 512 g3 bank vec%256+256*(peekV m ln f 512 g3 bank (vec+1)%256)=pE from hpE.out.symm] at HI
 rw [hge,← hd2.out,← hd3.out,← hpE.out];clear hd2 hd3 hfl hg2 hg3 hge hpE hb hb2
 have C0:Below w.heap.size w (((((w.alloc (.cells #[iv] 41)).alloc (.cells #[.slice ua 512 ucap,.i bank] 42)).alloc (.cells (cR A X S Pc Z N C I) 43)).alloc (.cells mZ 42)).alloc (.cells cZ 43)):=((((((Below.refl _ _).alloc (by first | exact Nat.le_refl _ | (simp; done) | (simp; omega)) _).alloc (by first | exact Nat.le_refl _ | (simp; done) | (simp; omega)) _).alloc (by first | exact Nat.le_refl _ | (simp; done) | (simp; omega)) _).alloc (by first | exact Nat.le_refl _ | (simp; done) | (simp; omega)) _).alloc (by first | exact Nat.le_refl _ | (simp; done) | (simp; omega)) _)
 have k_m:(((((w.alloc (.cells #[iv] 41)).alloc (.cells #[.slice ua 512 ucap,.i bank] 42)).alloc (.cells (cR A X S Pc Z N C I) 43)).alloc (.cells mZ 42)).alloc (.cells cZ 43)).heap[w.heap.size]?=some (.cells #[iv] 41 (0,0)):=by simpa using Ax (Ax (Ax (Ax (Al w #[iv] 41) (.cells #[.slice ua 512 ucap,.i bank] 42)) (.cells (cR A X S Pc Z N C I) 43)) (.cells mZ 42)) (.cells cZ 43)
 have k_x:(((((w.alloc (.cells #[iv] 41)).alloc (.cells #[.slice ua 512 ucap,.i bank] 42)).alloc (.cells (cR A X S Pc Z N C I) 43)).alloc (.cells mZ 42)).alloc (.cells cZ 43)).heap[w.heap.size+1]?=some (.cells #[.slice ua 512 ucap,.i bank] 42 (0,0)):=by simpa using Ax (Ax (Ax (Al (w.alloc (.cells #[iv] 41)) #[.slice ua 512 ucap,.i bank] 42) (.cells (cR A X S Pc Z N C I) 43)) (.cells mZ 42)) (.cells cZ 43)
 have k_c:(((((w.alloc (.cells #[iv] 41)).alloc (.cells #[.slice ua 512 ucap,.i bank] 42)).alloc (.cells (cR A X S Pc Z N C I) 43)).alloc (.cells mZ 42)).alloc (.cells cZ 43)).heap[w.heap.size+1+1]?=some (.cells (cR A X S Pc Z N C I) 43 (0,0)):=by simpa using Ax (Ax (Al ((w.alloc (.cells #[iv] 41)).alloc (.cells #[.slice ua 512 ucap,.i bank] 42)) (cR A X S Pc Z N C I) 43) (.cells mZ 42)) (.cells cZ 43)
 have k_r1:(((((w.alloc (.cells #[iv] 41)).alloc (.cells #[.slice ua 512 ucap,.i bank] 42)).alloc (.cells (cR A X S Pc Z N C I) 43)).alloc (.cells mZ 42)).alloc (.cells cZ 43)).heap[w.heap.size+1+1+1]?=some (.cells mZ 42 (0,0)):=by simpa using Ax (Al (((w.alloc (.cells #[iv] 41)).alloc (.cells #[.slice ua 512 ucap,.i bank] 42)).alloc (.cells (cR A X S Pc Z N C I) 43)) mZ 42) (.cells cZ 43)
 have k_r2:(((((w.alloc (.cells #[iv] 41)).alloc (.cells #[.slice ua 512 ucap,.i bank] 42)).alloc (.cells (cR A X S Pc Z N C I) 43)).alloc (.cells mZ 42)).alloc (.cells cZ 43)).heap[w.heap.size+1+1+1+1]?=some (.cells cZ 43 (0,0)):=by simpa using Al ((((w.alloc (.cells #[iv] 41)).alloc (.cells #[.slice ua 512 ucap,.i bank] 42)).alloc (.cells (cR A X S Pc Z N C I) 43)).alloc (.cells mZ 42)) cZ 43
 go_enter Tryz.func136,Tryz.ntmps136
 go_upto_region 1 with (fail);rename_i K1 hK1;have KK:=K.keep (Ab C0 Aj) (fun _ _ _ x=>x);generalize ((((w.alloc (.cells #[iv] 41)).alloc (.cells #[.slice ua 512 ucap,.i bank] 42)).alloc (.cells (cR A X S Pc Z N C I) 43)).alloc (.cells mZ 42)).alloc (.cells cZ 43)=W0 at *;have l_m:=Ac k_m;have l_x:=Ac k_x;have l_c:=Ac k_c;have l_r1:=Ac k_r1;have l_r2:=Ac k_r2
 refine Bz [some 11,some 12,some 13,some 14,some 10,none] (by kernel_rfl) (by kernel_rfl) (by kernel_rfl) (by kernel_rfl) (by first | (simp [slotsOf]; done) | (simp [slotsOf,Act.put]; done)) [(1,5),(3,5),(4,5)]
  (fun j b _=>(j=5∧W0.heap.size≤b))
  (fun i V W=>match i with
   | 0=>V 0=.agg #[.slice ua 512 ucap,.i bank]
   | 1=>∃ q,V 1=.agg #[q,.i bank]∧Am W w.heap.size q 512 g
   | 2=>V 2=.agg (cR A X S Pc Z N C I)
   | 3=>∃ q,V 3=.agg (rR q bank A X S Pc Z N C I 0 0)∧Am W w.heap.size q 512 g
   | 4=>∃ p,V 4=(pt p 0)∧W.heap[p]?=some (.cells (rR (.slice none 0 0) 0 0 0 0 0 false false false false 0 0) 161 (0,0))∧W0.heap.size≤p
   | _=>∃ p q,V 4=(pt p 0)∧W.heap[p]?=some (.cells (rR q bank A X S Pc Z N C I 0 0) 161 (0,0))∧Am W w.heap.size q 512 g∧W0.heap.size≤p) ?_ ?_ ?_
 ·intro i j o V x W W' hij ho hnd hW h
  rcases i with _|_|_|_|_|_|i
  all_goals try exact (Ar V x hij).trans h
  ·obtain ⟨q,h1,O⟩:=h
   exact ⟨q,(Ar V x hij).trans h1,O.away hW (fun b' o h1 h2 e=>by simp at hnd; omega)⟩
  ·obtain ⟨q,h1,O⟩:=h
   exact ⟨q,(Ar V x hij).trans h1,O.away hW (fun b' o h1 h2 e=>by simp at hnd; omega)⟩
  ·obtain ⟨q,h1,h2,h3⟩:=h
   exact ⟨q,(Ar V x hij).trans h1,Ak h2 hW (fun o e=>by simp at hnd; omega),h3⟩
  ·obtain ⟨p,q,h1,h2,O,h3⟩:=h
   exact ⟨p,q,(by rw [Ar V x (fun e=>by subst e; simp only [List.getElem?_toArray,List.getElem?_cons_zero,List.getElem?_cons_succ,Option.some.injEq] at ho; subst ho; cases hnd.1.symm.trans (show A0 _ 4=true by kernel_rfl))]; exact h1),Ak h2 hW (fun o e=>by omega),O.away hW (fun b' o h1 h2 e=>by omega),h3⟩
  all_goals simp at ho
 ·intro i o a' W K8 ho F L hw hK
  match i with
  | 0 =>
   cases ho;have t5:=F.get (t:=5) (v:=(pt (w.heap.size+1) 0)) (by decide) rfl;have rB:=Ak k_x L (fun o ⟨j,oj,hj,hoj,hwj,e⟩=>by rcases e with ⟨rfl,e⟩ <;> first | omega | (cases hwj.symm.trans (show Bb _ 6 _ 0=true by kernel_rfl)));have rb:=Ag rB;go_simp;exact Hk hK (Ai _ _ _)
  | 1 =>
   cases ho;have q0:tv a' 11=_:=Hq hw 0;have KW:=KK.keep L (fun b o hb ⟨j,oj,hj,hoj,hwj,e⟩=>by rcases e with ⟨rfl,e⟩ <;> first | omega | (cases hwj.symm.trans (show Bb _ 6 _ 1=true by kernel_rfl)));go_simp;refine (Js W G (.slice ua 512 ucap) 512 g bank KW).mono ?_;rintro e W' ⟨q,rfl,O,LX⟩;exact hK _ _ (Ab LX _) ⟨q,Ai _ _ _,Dl O (Nat.le_trans C0.size L.size)⟩
  | 2 =>
   cases ho;have t6:=F.get (t:=6) (v:=(pt (w.heap.size+1+1) 0)) (by decide) rfl;have rB:=Ak k_c L (fun o ⟨j,oj,hj,hoj,hwj,e⟩=>by rcases e with ⟨rfl,e⟩ <;> first | omega | (cases hwj.symm.trans (show Bb _ 6 _ 2=true by kernel_rfl)));have rb:=Ag rB;go_simp;exact Hk hK (Ai _ _ _)
  | 3 =>
   cases ho;have q1:=Hq hw 1;have q2:tv a' 13=_:=Hq hw 2;obtain ⟨q,h1,O⟩:=q1;replace h1:a'.tmps[12]?.getD undef=.agg #[q,.i bank]:=h1;go_simp;exact Hk hK ⟨q,Ai _ _ _,O⟩
  | 4 =>
   cases ho;go_simp;exact hK _ _ ((Wrote.refl _ W).alloc _) ⟨_,Ai _ _ _,Al W _ _,L.size⟩
  | 5 =>
   cases ho;have q4:=Hq hw 4;have q3:=Hq hw 3;obtain ⟨p,h1,rB,h3⟩:=q4;obtain ⟨q,h4,O⟩:=q3;replace h1:a'.tmps[10]?.getD undef=(pt p 0):=h1;replace h4:a'.tmps[14]?.getD undef=.agg (rR q bank A X S Pc Z N C I 0 0):=h4
   obtain ⟨xa,xc,hu⟩:∃ a c,q=.slice a 512 c:=by obtain ⟨a,c,hq,_⟩:=O.ex; exact ⟨a,c,hq⟩
   refine wp_store_row _ _ _ rfl p (rR q bank A X S Pc Z N C I 0 0) (by simpa [Act.eval] using h1) (by simpa [Act.eval] using h4) _ _ rB Rx rfl (by subst hu; first | kernel_rfl | simp [Value.oneCell']) ?_;exact hK undef _ ((Bm rB _).mono (fun b o _ (h:b=p)=>⟨rfl,by omega⟩)) ⟨p,q,(by rw [Ar _ _ (by decide)]; exact h1),setRow_heap _ _ _ _ _ _ rB,Bd O rB (by show (12:Nat)≤511; omega) (Bm rB _),h3⟩
  | _+6=>simp at ho
 ·intro a' W F L hφ
  have p11:a'.tmps[11]?.getD undef=_:=Hf hφ 0;have p13:a'.tmps[13]?.getD undef=_:=Hf hφ 2;have e5:=Hf hφ 5;rw [F.same,show slotsOf [some 11,some 12,some 13,some 14,some 10,none]=[11,12,13,14,10] from rfl];simp only [List.foldl_cons,List.foldl_nil];obtain ⟨p,q,e1,kp,OQ,hp⟩:=e5;replace e1:a'.tmps[10]?.getD undef=(pt p 0):=e1;replace k_m:=Ak k_m L (fun o ⟨j,e⟩=>by omega);replace k_x:=Ak k_x L (fun o ⟨j,e⟩=>by omega);replace k_c:=Ak k_c L (fun o ⟨j,e⟩=>by omega);replace k_r1:=Ak k_r1 L (fun o ⟨j,e⟩=>by omega);replace k_r2:=Ak k_r2 L (fun o ⟨j,e⟩=>by omega);replace C0:=C0.trans (L.below C0.size (fun b' o hb ⟨j,e⟩=>by omega));generalize a'.tmps[12]?.getD undef=gl1;generalize a'.tmps[14]?.getD undef=gl2;rw [p11,p13,e1];clear hφ F L e1 p11 p13;refine hK1 _ _ ?_;clear hK1;go_simp
  go_wp2_with fail;refine (HQ.out _ p q kp (Ex OQ)).mono ?_;rintro e W5 ⟨rfl,q1,kp1,O1,L5⟩;replace OQ:=Dl O1 (Nat.le_trans C0.size (Nat.le_refl _));replace C0:=C0.trans (L5.below C0.size (fun b o hb (e:b=p)=>by omega));replace k_m:=Ak k_m L5 (fun o (e:_=p)=>by omega);replace k_x:=Ak k_x L5 (fun o (e:_=p)=>by omega);replace k_c:=Ak k_c L5 (fun o (e:_=p)=>by omega);replace k_r1:=Ak k_r1 L5 (fun o (e:_=p)=>by omega);replace k_r2:=Ak k_r2 L5 (fun o (e:_=p)=>by omega);clear kp O1 L5 HQ;have cp:=Ag kp1;go_wp2_with fail;refine (HFl.out _).mono ?_;rintro e W6 ⟨rfl,L6⟩;replace C0:=Ae C0 L6;replace k_m:=Aa k_m L6 (Ac k_m);replace k_x:=Aa k_x L6 (Ac k_x);replace k_c:=Aa k_c L6 (Ac k_c);replace k_r1:=Aa k_r1 L6 (Ac k_r1)
  replace k_r2:=Aa k_r2 L6 (Ac k_r2);replace OQ:=OQ.away (Ab L6 Aj) (fun _ _ _ _ x=>x);have kp2:=Aa kp1 L6 (Ac kp1);clear cp kp1 L6 HFl;go_wp2_with fail;refine (HPu.out W6 p q1 kp2 (Ex OQ)).mono ?_;rintro e W7 ⟨rfl,q2,kp3,O2,L7⟩;replace OQ:=Dl O2 C0.size;replace C0:=C0.trans (L7.below C0.size (fun b o hb (e:b=p)=>by omega));replace k_m:=Ak k_m L7 (fun o (e:_=p)=>by omega);replace k_x:=Ak k_x L7 (fun o (e:_=p)=>by omega);replace k_c:=Ak k_c L7 (fun o (e:_=p)=>by omega);replace k_r1:=Ak k_r1 L7 (fun o (e:_=p)=>by omega);replace k_r2:=Ak k_r2 L7 (fun o (e:_=p)=>by omega);clear kp2 O2 L7 HPu;go_wp2_with fail;refine (Kt W7 p q2 bank A X d3 Pc Z N C I 0 0 kp3).mono ?_;rintro e W8 ⟨rfl,kp4,L8⟩
  replace OQ:=Bd OQ kp3 (by show (12:Nat)≤511; omega) L8;replace C0:=C0.trans (L8.below C0.size (fun b o hb (e:b=p)=>by omega));replace k_m:=Ak k_m L8 (fun o (e:_=p)=>by omega);replace k_x:=Ak k_x L8 (fun o (e:_=p)=>by omega);replace k_c:=Ak k_c L8 (fun o (e:_=p)=>by omega);replace k_r1:=Ak k_r1 L8 (fun o (e:_=p)=>by omega);replace k_r2:=Ak k_r2 L8 (fun o (e:_=p)=>by omega);clear kp3 L8
  obtain ⟨qa2,qc2,hu⟩:∃ a c,q2=.slice a 512 c:=by obtain ⟨a,c,hq,_⟩:=OQ.ex; exact ⟨a,c,hq⟩
  subst hu;have cp:=Ag kp4;have fp:=As kp4;have cm:=Ag k_m;have HH:=Ad (HI.out W8 C0 (.slice qa2 512 qc2) (Ex OQ));go_wp2_with fail;refine HH.out.mono ?_;rintro e W9 ⟨rfl,L9⟩;replace C0:=Ae C0 L9;replace k_m:=Aa k_m L9 (Ac k_m);replace k_x:=Aa k_x L9 (Ac k_x);replace k_c:=Aa k_c L9 (Ac k_c);replace k_r1:=Aa k_r1 L9 (Ac k_r1);replace k_r2:=Aa k_r2 L9 (Ac k_r2);replace OQ:=OQ.away (Ab L9 Aj) (fun _ _ _ _ x=>x);have kp5:=Aa kp4 L9 (Ac kp4);clear cp fp cm kp4 L9 HH HI;have cp:=Ag kp5;have fp:=As kp5;have HB:=Af (o:=5) kp5 (.i pE);simp only [List.setIfInBounds_toArray,List.set_cons_succ,List.set_cons_zero] at HB
  have TT:Wrote (fun b _=>b=p) W9 (W9.setCell ⟨p,5,none⟩ (.i pE)):=Wrote.setCell (b:=p) (o:=5) (R:=fun b _=>b=p) (Wrote.refl _ W9) (fun _=>rfl) _;replace OQ:=Bd OQ kp5 (by show (12:Nat)≤511; omega) TT;replace C0:=C0.trans (TT.below C0.size (fun b o hb (e:b=p)=>by omega));replace k_m:=Ak k_m TT (fun o (e:_=p)=>by omega);replace k_x:=Ak k_x TT (fun o (e:_=p)=>by omega);replace k_c:=Ak k_c TT (fun o (e:_=p)=>by omega);replace k_r1:=Ak k_r1 TT (fun o (e:_=p)=>by omega);replace k_r2:=Ak k_r2 TT (fun o (e:_=p)=>by omega);have kp:=HB;clear HB TT;go_upto_region 6 with (fail);rename_i K4 hK4;clear cp fp kp5;generalize W9.setCell ⟨p,5,none⟩ (.i pE)=W10 at *
  refine Bz [some 28,some 29,some 30,some 31,none,none] (by kernel_rfl) (by kernel_rfl) (by kernel_rfl) (by kernel_rfl) (by first | (simp [slotsOf]; done) | (simp [slotsOf,Act.put]; done)) []
   (fun j b _=>(j=4∧b=w.heap.size+1+1+1)∨(j=5∧b=w.heap.size+1+1+1+1))
   (fun i V W=>match i with
    | 0=>V 0=(pt p 0)
    | 1=>V 1=.agg #[.slice qa2 512 qc2,.i bank]
    | 2=>V 2=(pt p 2)
    | 3=>V 3=.agg (cR A X d3 pE Z N C true)
    | 4=>W.heap[w.heap.size+1+1+1]?=some (.cells #[.slice qa2 512 qc2,.i bank] 42 (0,0))
    | _=>W.heap[w.heap.size+1+1+1+1]?=some (.cells (cR A X d3 pE Z N C true) 43 (0,0))) ?_ ?_ ?_
  ·intro i j o V x W W' hij ho hnd hW h
   rcases i with _|_|_|_|_|_|i
   all_goals try exact (Ar V x hij).trans h
   ·exact Ak h hW (fun o e=>by omega)
   ·exact Ak h hW (fun o e=>by omega)
   all_goals simp at ho
  ·intro i o a' W K8 ho F L hw hK
   match i with
   | 0 =>
    cases ho;have t10:=F.get (t:=10) (v:=(pt p 0)) (by decide) rfl;go_simp;exact Hk hK (Ai _ _ _)
   | 1 =>
    cases ho;have q0:tv a' 28=_:=Hq hw 0;have rB:=Ak kp L (fun o ⟨j,oj,hj,hoj,hwj,e⟩=>by rcases e with ⟨rfl,e⟩ | ⟨rfl,e⟩ <;> first | omega | (cases hwj.symm.trans (show Bb _ 6 _ 1=true by kernel_rfl)));have rb:=Ag rB;go_simp;exact Hk hK (Ai _ _ _)
   | 2 =>
    cases ho;have t10:=F.get (t:=10) (v:=(pt p 0)) (by decide) rfl;go_simp;exact Hk hK (Ai _ _ _)
   | 3 =>
    cases ho;have q2:tv a' 30=_:=Hq hw 2;have rB:=Ak kp L (fun o ⟨j,oj,hj,hoj,hwj,e⟩=>by rcases e with ⟨rfl,e⟩ | ⟨rfl,e⟩ <;> first | omega | (cases hwj.symm.trans (show Bb _ 6 _ 3=true by kernel_rfl)));have rb:=Ag rB;go_simp;exact Hk hK (Ai _ _ _)
   | 4 =>
    cases ho;have t8:=F.get (t:=8) (v:=(pt (w.heap.size+1+1+1) 0)) (by decide) rfl;have q1:tv a' 29=_:=Hq hw 1;have rB:=Ak k_r1 L (fun o ⟨j,oj,hj,hoj,hwj,e⟩=>by omega);refine wp_store_row _ _ _ rfl (w.heap.size+1+1+1) #[.slice qa2 512 qc2,.i bank] (by simpa [Act.eval] using t8) (by simpa [Act.eval] using q1) _ _ rB Fs rfl (by first | kernel_rfl | simp [Value.oneCell']) ?_;exact hK undef _ ((Bm rB _).mono (fun b o _ h=>Or.inl ⟨rfl,h⟩)) (setRow_heap _ _ _ _ _ _ rB)
   | 5 =>
    cases ho;have t9:=F.get (t:=9) (v:=(pt (w.heap.size+1+1+1+1) 0)) (by decide) rfl;have q3:tv a' 31=_:=Hq hw 3;have rB:=Ak k_r2 L (fun o ⟨j,oj,hj,hoj,hwj,e⟩=>by omega);refine wp_store_row _ _ _ rfl (w.heap.size+1+1+1+1) (cR A X d3 pE Z N C true) (by simpa [Act.eval] using t9) (by simpa [Act.eval] using q3) _ _ rB Dz rfl (by first | kernel_rfl | simp [Value.oneCell']) ?_;exact hK undef _ ((Bm rB _).mono (fun b o _ h=>Or.inr ⟨rfl,h⟩)) (setRow_heap _ _ _ _ _ _ rB)
   | _+6=>simp at ho
  ·intro a' W F L hφ
   have p28:a'.tmps[28]?.getD undef=_:=Hf hφ 0;have p29:a'.tmps[29]?.getD undef=_:=Hf hφ 1;have p30:a'.tmps[30]?.getD undef=_:=Hf hφ 2;have p31:a'.tmps[31]?.getD undef=_:=Hf hφ 3;have e4:=Hf hφ 4;have e5:=Hf hφ 5;rw [F.same,show slotsOf [some 28,some 29,some 30,some 31,none,none]=[28,29,30,31] from rfl];simp only [List.foldl_cons,List.foldl_nil];have LP:=L.mono (S:=fun b _=>b=w.heap.size+1+1+1∨b=w.heap.size+1+1+1+1) (fun b o _ ⟨j,e⟩=>by omega);have CF:=C0.trans (L.below C0.size (fun b' o hb ⟨j,e⟩=>by omega));have OF:=Ry OQ k_r1 (by show (2:Nat)≤511; omega) k_r2 (by show (8:Nat)≤511; omega) LP;rw [p28,p29,p30,p31];clear hφ F L LP p28 p29 p30 p31;refine hK4 _ _ ?_;clear hK4;go_simp;go_wp2
   refine bodyPost_ret (v:=.tuple #[.agg #[.slice qa2 512 qc2,.i bank],.agg (cR A X d3 pE Z N C true)]) (Nb Tryz.results136 _ _ (w.heap.size+1+1+1) (w.heap.size+1+1+1+1) _ _ _ _ _ _ _ _ rfl rfl e4 e5 Tryz.underlying42 Tryz.underlying43 rfl rfl Fs Dz) rfl ?_;exact ⟨_,rfl,OF,CF⟩
end Go.Proofs.YtgcmimcalmjaaaaGreatDoor
