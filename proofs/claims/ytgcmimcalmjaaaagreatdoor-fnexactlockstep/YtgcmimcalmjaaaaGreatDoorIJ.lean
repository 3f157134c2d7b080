import Derived.Test.YtgcmimcalmjaaaaGreatDoorI6b
import Derived.Lib.QuietBelow
namespace Go.Proofs.YtgcmimcalmjaaaaGreatDoor
set_option maxHeartbeats 4000000
set_option maxRecDepth 20000
set_option linter.unusedVariables false
open Go.ChangeShapes Go.WideShapes Go.ChangeAt Go.RowKit
theorem S9 (m:Nat) (ln:Nat→Nat) (f:Nat→Nat→Int) (n:Nat) (g:Nat→Int) (bank x:Int):0≤peekV m ln f n g bank x∧peekV m ln f n g bank x≤255:=by
  unfold peekV;split
  · rename_i h
    obtain ⟨hi,hn,hb,hg⟩:=Fg h;have hI:=of_decide_eq_true hi
    have bk:∀ i j,i<m→j<256→0≤f i j∧f i j≤255:=fun i j h1 h2=>(Gi (hI.1 i h1)).2 j h2
    unfold Em
    rcases Hv (x%65536) (by omega) (by omega) with ⟨e,p0,p1⟩ | ⟨e,p0,p1⟩ | ⟨e,p0,p1⟩ | e
    · rw [if_pos e]; exact hg _ (by omega)
    · rw [if_neg (by omega),if_pos e]; exact bk _ _ (by omega) (by omega)
    · rw [if_neg (by omega),if_neg (by omega),if_pos e]; exact bk _ _ (by omega) (by omega)
    · rw [if_neg (by omega),if_neg (by omega),if_neg (by omega)]; omega
  · omega
structure FB (w W:World) (ia:Option Addr) (m icap:Nat) (ua:Option Addr) (n ucap:Nat) (bank:Int):Prop where
  img:W.heap[w.heap.size]?=some (.cells #[.slice ia m icap] 41 (0,0))
  mem:W.heap[w.heap.size+1]?=some (.cells #[.slice ua n ucap,.i bank] 42 (0,0))
  res:W.heap[w.heap.size+1+1]?=some (.cells #[.i 0,.i 0] 109 (0,0))
  low:Below w.heap.size w W
section
variable {w W W':World} {ia:Option Addr} {m icap:Nat} {ua:Option Addr} {n ucap:Nat} {bank:Int}
theorem FB.below (D:FB w W ia m icap ua n ucap bank) (L:Below W.heap.size W W'):FB w W' ia m icap ua n ucap bank :=
  ⟨Aa D.img L (Ac D.img),Aa D.mem L (Ac D.mem),Aa D.res L (Ac D.res),Ae D.low L⟩
theorem FB.cells (D:FB w W ia m icap ua n ucap bank):W.cell? ⟨w.heap.size,0,none⟩=some (.slice ia m icap)∧W.cell? ⟨w.heap.size+1,0,none⟩=some (.slice ua n ucap)∧W.cell? ⟨w.heap.size+1,1,none⟩=some (.i bank) :=
  ⟨Ag D.img 0,Ag D.mem 0,Ag D.mem 1⟩
end
theorem Wj (w:World) (F G:Nat→Nat→Prop) (v u:Value) (m:Nat) (ln:Nat→Nat) (f:Nat→Nat→Int) (n:Nat) (g:Nat→Int) (bank x:Int) (H:Ba .i64 w F v m ln f) (K:Ints .i64 w G u n g) (T:Dc w) :
    Calls Tryz.prog 137 #[.agg #[v],.agg #[u,.i bank],.i x] w fun e w'=>e=.returned (.agg #[.i (peekV m ln f n g bank x),.i (Ib (peekV m ln f n g bank) x)])∧Below w.heap.size w w':=by
  obtain ⟨ia,icap,rfl,im,iF,iR⟩:=H;obtain ⟨ua,ucap,rfl,un,uR,uF⟩:=K
  have H:Ba .i64 w F (.slice ia m icap) m ln f:=⟨ia,icap,rfl,im,iF,iR⟩
  have K:Ints .i64 w G (.slice ua n ucap) n g:=⟨ua,ucap,rfl,un,uR,uF⟩
  clear iF iR uR uF;have HP1:=Ad (I5 m ln f n g bank (x+1));have HP2:=Ad (I5 m ln f n g bank (x+2));have HB:=Ad (S9 m ln f n g bank (x+1))
  have D0:FB w (((w.alloc (.cells #[.slice ia m icap] 41)).alloc (.cells #[.slice ua n ucap,.i bank] 42)).alloc (.cells #[.i 0,.i 0] 109)) ia m icap ua n ucap bank :=
    ⟨Ax (Ax (Al w #[.slice ia m icap] 41) (.cells #[.slice ua n ucap,.i bank] 42)) (.cells #[.i 0,.i 0] 109),
     by simpa using Ax (Al (w.alloc (.cells #[.slice ia m icap] 41)) #[.slice ua n ucap,.i bank] 42) (.cells #[.i 0,.i 0] 109),
     by simpa using Al ((w.alloc (.cells #[.slice ia m icap] 41)).alloc (.cells #[.slice ua n ucap,.i bank] 42)) #[.i 0,.i 0] 109,
     (((Below.refl _ _).alloc (Nat.le_refl _) _).alloc (by simp) _).alloc (by simp; omega) _⟩
  have HFA:Hid (∀ t,(opLn (peekV m ln f n g bank x)=2→t=peekV m ln f n g bank (x+1))→(opLn (peekV m ln f n g bank x)=3→t=peekV m ln f n g bank (x+1)%256+256*(peekV m ln f n g bank (x+2)%256))→(¬ opLn (peekV m ln f n g bank x)=2→¬ opLn (peekV m ln f n g bank x)=3→t=0)→Ib (peekV m ln f n g bank) x=t):=by
    intro t h1 h2 h3;unfold Ib
    by_cases e2:opLn (peekV m ln f n g bank x)=2
    · rw [if_pos e2,h1 e2]
    · by_cases e3:opLn (peekV m ln f n g bank x)=3
      · rw [if_neg e2,if_pos e3,h2 e3]
      · rw [if_neg e2,if_neg e3,h3 e2 e3]
  go_enter Tryz.func137,Tryz.ntmps137
  go_wp2_with fail;generalize (((w.alloc (.cells #[.slice ia m icap] 41)).alloc (.cells #[.slice ua n ucap,.i bank] 42)).alloc (.cells #[.i 0,.i 0] 109))=W0 at *;refine (Gm _ F G _ _ m ln f n g bank x (H.keep (Ab D0.low Aj) (fun _ _ _ x=>x)) (K.keep (Ab D0.low Aj) (fun _ _ _ x=>x))).mono ?_;rintro e W1 ⟨rfl,L⟩;have D1:=D0.below L;clear D0 L;go_wp2_with fail;refine (show Calls Tryz.prog 157 #[.i (peekV m ln f n g bank x)] W1 (fun e w'=>e=.returned (.i (opLn (peekV m ln f n g bank x)))∧Below W1.heap.size W1 w') from Oc W1 _ (T.mono D1.low)).mono ?_;rintro e W2 ⟨rfl,L⟩;have D2:=D1.below L;clear D1 L;generalize opLn (peekV m ln f n g bank x)=len at *
  by_cases e2:len=2
  · have HE:=Ad (HFA.out _ (fun _=>rfl) (fun h=>absurd h (by omega)) (fun h=>absurd e2 h))
    clear HFA;subst e2;obtain ⟨c1,c2,c3⟩:=D2.cells;go_wp2_with fail;refine (Gm _ F G _ _ m ln f n g bank _ (H.keep (Ab D2.low Aj) (fun _ _ _ x=>x)) (K.keep (Ab D2.low Aj) (fun _ _ _ x=>x))).mono ?_;rintro e W3 ⟨rfl,L⟩;rw [HP1.out];clear c1 c2 c3;have D3:=D2.below L;clear D2 L;have d1:=Ag D3.res;have d3:=As D3.res;go_wp2_with (go_at_call 158; refine (Hp _ _ _).mono ?_; rintro e w' ⟨rfl,rfl⟩);refine bodyPost_ret (v:=.agg #[.i (peekV m ln f n g bank x),.i (peekV m ln f n g bank (x+1)%256)]) (by simp [results,Tryz.results137,go_sem,d1]) rfl ?_;exact ⟨by rw [HE.out,Int.emod_eq_of_lt HB.out.1 (by have:=HB.out.2; omega)],(D3.low.setCell (by simp; omega) _).setCell (by simp; omega) _⟩
  · have e2':(len==2)=false:=by simpa using e2
    by_cases e3:len=3
    · have HE:=Ad (HFA.out _ (fun h=>absurd h (by omega)) (fun _=>rfl) (fun _ h=>absurd e3 h))
      clear HFA;subst e3;obtain ⟨c1,c2,c3⟩:=D2.cells;go_wp2_with fail;refine (Gm _ F G _ _ m ln f n g bank _ (H.keep (Ab D2.low Aj) (fun _ _ _ x=>x)) (K.keep (Ab D2.low Aj) (fun _ _ _ x=>x))).mono ?_;rintro e W3 ⟨rfl,L⟩;rw [HP2.out];clear c1 c2 c3;have D3:=D2.below L;clear D2 L;obtain ⟨c1,c2,c3⟩:=D3.cells;go_wp2_with fail;refine (Gm _ F G _ _ m ln f n g bank _ (H.keep (Ab D3.low Aj) (fun _ _ _ x=>x)) (K.keep (Ab D3.low Aj) (fun _ _ _ x=>x))).mono ?_;rintro e W4 ⟨rfl,L⟩;rw [HP1.out];clear c1 c2 c3;have D4:=D3.below L;clear D3 L;have d1:=Ag D4.res;have d3:=As D4.res;go_wp2_with (go_at_call 158; refine (Hp _ _ _).mono ?_; rintro e w' ⟨rfl,rfl⟩)
      refine bodyPost_ret (v:=.agg #[.i (peekV m ln f n g bank x),.i (peekV m ln f n g bank (x+1)%256+256*(peekV m ln f n g bank (x+2)%256))]) (by simp [results,Tryz.results137,go_sem,d1]) rfl ?_;exact ⟨by rw [HE.out],(D4.low.setCell (by simp; omega) _).setCell (by simp; omega) _⟩
    · have e3':(len==3)=false:=by simpa using e3
      have HE:=Ad (HFA.out 0 (fun h=>absurd h e2) (fun h=>absurd h e3) (fun _ _=>rfl));clear e2 e3 HFA;have d1:=Ag D2.res;have d3:=As D2.res;go_wp2_with (go_at_call 158; refine (Hp _ _ _).mono ?_; rintro e w' ⟨rfl,rfl⟩);refine bodyPost_ret (v:=.agg #[.i (peekV m ln f n g bank x),.i 0]) (by simp [results,Tryz.results137,go_sem,d1]) rfl ?_;exact ⟨by rw [HE.out],(D2.low.setCell (by simp; omega) _).setCell (by simp; omega) _⟩
def Lv (op arg X:Int):Int:=(if op=14∨op=15 then arg+X else arg)%65536
theorem Yw:∀ k:Fin 30,k.1≠14→k.1≠15→((Vr.getD k.1 ByteArray.empty).toList==[108,97,120])=false∧((Vr.getD k.1 ByteArray.empty).toList==[115,97,120])=false:=by
  intro ⟨i,hi⟩ h14 h15
  show _∧_
  match i,hi,h14,h15 with
  | 0,_,_,_=>exact ⟨by kernel_rfl,by kernel_rfl⟩
  | 1,_,_,_=>exact ⟨by kernel_rfl,by kernel_rfl⟩
  | 2,_,_,_=>exact ⟨by kernel_rfl,by kernel_rfl⟩
  | 3,_,_,_=>exact ⟨by kernel_rfl,by kernel_rfl⟩
  | 4,_,_,_=>exact ⟨by kernel_rfl,by kernel_rfl⟩
  | 5,_,_,_=>exact ⟨by kernel_rfl,by kernel_rfl⟩
  | 6,_,_,_=>exact ⟨by kernel_rfl,by kernel_rfl⟩
  | 7,_,_,_=>exact ⟨by kernel_rfl,by kernel_rfl⟩
  | 8,_,_,_=>exact ⟨by kernel_rfl,by kernel_rfl⟩
  | 9,_,_,_=>exact ⟨by kernel_rfl,by kernel_rfl⟩
  | 10,_,_,_=>exact ⟨by kernel_rfl,by kernel_rfl⟩
  | 11,_,_,_=>exact ⟨by kernel_rfl,by kernel_rfl⟩
  | 12,_,_,_=>exact ⟨by kernel_rfl,by kernel_rfl⟩
  | 13,_,_,_=>exact ⟨by kernel_rfl,by kernel_rfl⟩
  | 14,_,h,_=>exact absurd rfl h
  | 15,_,_,h=>exact absurd rfl h
  | 16,_,_,_=>exact ⟨by kernel_rfl,by kernel_rfl⟩
  | 17,_,_,_=>exact ⟨by kernel_rfl,by kernel_rfl⟩
  | 18,_,_,_=>exact ⟨by kernel_rfl,by kernel_rfl⟩
  | 19,_,_,_=>exact ⟨by kernel_rfl,by kernel_rfl⟩
  | 20,_,_,_=>exact ⟨by kernel_rfl,by kernel_rfl⟩
  | 21,_,_,_=>exact ⟨by kernel_rfl,by kernel_rfl⟩
  | 22,_,_,_=>exact ⟨by kernel_rfl,by kernel_rfl⟩
  | 23,_,_,_=>exact ⟨by kernel_rfl,by kernel_rfl⟩
  | 24,_,_,_=>exact ⟨by kernel_rfl,by kernel_rfl⟩
  | 25,_,_,_=>exact ⟨by kernel_rfl,by kernel_rfl⟩
  | 26,_,_,_=>exact ⟨by kernel_rfl,by kernel_rfl⟩
  | 27,_,_,_=>exact ⟨by kernel_rfl,by kernel_rfl⟩
  | 28,_,_,_=>exact ⟨by kernel_rfl,by kernel_rfl⟩
  | 29,_,_,_=>exact ⟨by kernel_rfl,by kernel_rfl⟩
  | n+30,hi,_,_=>exact absurd hi (by omega)
theorem Ta (op:Int) (h:op≠14) (g:op≠15):((nmOf op).toList==[108,97,120])=false∧((nmOf op).toList==[115,97,120])=false:=by
  unfold nmOf;split
  · rename_i k
    exact Yw ⟨op.toNat,by omega⟩ (by show op.toNat≠14; omega) (by show op.toNat≠15; omega)
  · exact ⟨by kernel_rfl,by kernel_rfl⟩
theorem Oj (w:World) (op arg A X S Pc:Int) (Z N C I:Bool) (T:Dc w):Calls Tryz.prog 160 #[.agg #[.i op,.i arg],.agg (cR A X S Pc Z N C I)] w
    fun e w'=>e=.returned (.i (Lv op arg X))∧Below w.heap.size w w':=by
  have L0:Below w.heap.size w ((w.alloc (.cells #[.i op,.i arg] 109)).alloc (.cells (cR A X S Pc Z N C I) 43)):=((Below.refl _ _).alloc (Nat.le_refl _) _).alloc (by simp) _;have k0:=Ax (Al w #[.i op,.i arg] 109) (.cells (cR A X S Pc Z N C I) 43)
  have k1:((w.alloc (.cells #[.i op,.i arg] 109)).alloc (.cells (cR A X S Pc Z N C I) 43)).heap[w.heap.size+1]?=some (.cells (cR A X S Pc Z N C I) 43 (0,0)):=by simpa using Al (w.alloc (.cells #[.i op,.i arg] 109)) (cR A X S Pc Z N C I) 43
  have HW:Hid (wrap64 (arg+X)%65536=(arg+X)%65536):=by show _=_; unfold wrap64; omega
  go_enter Tryz.func160,Tryz.ntmps160
  go_wp2_with fail;generalize ((w.alloc (.cells #[.i op,.i arg] 109)).alloc (.cells (cR A X S Pc Z N C I) 43))=W0 at *;refine (Sx _ _ (T.mono L0)).mono ?_;rintro e W1 ⟨rfl,L⟩;have c0:=Ag (Aa k0 L (Ac k0));have c1:=Ag (Aa k1 L (Ac k1));have L1:=Ae L0 L;clear k0 k1 L0 L T
  by_cases h14:op=14
  · subst h14
    rw [show nmOf 14=⟨#[108,97,120]⟩ from rfl];go_wp2_with (go_at_call 99; refine (Gh _ _).mono ?_; rintro e w' ⟨rfl,rfl⟩; rw [HW.out]);go_ret;exact ⟨rfl,L1⟩
  · by_cases h15:op=15
    · subst h15
      rw [show nmOf 15=⟨#[115,97,120]⟩ from rfl];go_wp2_with (go_at_call 99; refine (Gh _ _).mono ?_; rintro e w' ⟨rfl,rfl⟩; rw [HW.out]);go_ret;exact ⟨rfl,L1⟩
    · have HE:Hid (Lv op arg X=arg%65536):=by show _=_; unfold Lv; rw [if_neg (by omega)]
      obtain ⟨n1,n2⟩:=Ta op h14 h15;clear h14 h15;generalize nmOf op=nm at *;go_wp2_with (go_at_call 99; refine (Gh _ _).mono ?_; rintro e w' ⟨rfl,rfl⟩);go_ret;exact ⟨Az HE.out.symm,L1⟩
theorem Tb (w:World) (op arg A X S Pc:Int) (Z N C I:Bool) (T:Dc w):Calls Tryz.prog 138 #[.agg #[.i op,.i arg],.agg (cR A X S Pc Z N C I)] w
    fun e w'=>e=.returned (.tuple #[.i (B9 op),.i (F9 op arg X),.i (Lt op A)])∧Below w.heap.size w w':=by
  have L0:Below w.heap.size w ((w.alloc (.cells #[.i op,.i arg] 109)).alloc (.cells (cR A X S Pc Z N C I) 43)):=((Below.refl _ _).alloc (Nat.le_refl _) _).alloc (by simp) _;have k0:=Ax (Al w #[.i op,.i arg] 109) (.cells (cR A X S Pc Z N C I) 43)
  have k1:((w.alloc (.cells #[.i op,.i arg] 109)).alloc (.cells (cR A X S Pc Z N C I) 43)).heap[w.heap.size+1]?=some (.cells (cR A X S Pc Z N C I) 43 (0,0)):=by simpa using Al (w.alloc (.cells #[.i op,.i arg] 109)) (cR A X S Pc Z N C I) 43
  have HA:Hid ((B9 op=0→F9 op arg X=0)∧(B9 op≠0→F9 op arg X=Lv op arg X)∧(B9 op=2→Lt op A=A%256)∧(B9 op≠2→Lt op A=0)):=by
    show _∧_∧_∧_
    unfold F9 Lt Lv;exact ⟨fun h=>if_pos h,fun h=>if_neg h,fun h=>if_pos h,fun h=>if_neg h⟩
  have HC:Hid (B9 op=0∨B9 op=1∨B9 op=2):=by
    show _∨_∨_
    unfold B9;split
    · exact Or.inr (Or.inl rfl)
    · split
      · exact Or.inr (Or.inr rfl)
      · exact Or.inl rfl
  go_enter Tryz.func138,Tryz.ntmps138
  go_wp2_with fail;generalize ((w.alloc (.cells #[.i op,.i arg] 109)).alloc (.cells (cR A X S Pc Z N C I) 43))=W0 at *;refine (Pp _ _ (T.mono L0)).mono ?_;rintro e W1 ⟨rfl,L⟩;rw [Jah];have c0:=Ag (Aa k0 L (Ac k0));have c1:=Ag (Aa k1 L (Ac k1));have L1:=Ae L0 L;have T1:=Ad (T.mono L1);clear k0 k1 L0 L T;generalize hac:B9 op=ac at *;replace hac:=Ad hac
  rcases HC.out with rfl | rfl | rfl
  · have e1:=Ad (HA.out.1 rfl)
    have e2:=Ad (HA.out.2.2.2 (by decide));clear HA HC;go_wp2
    go_ret3
    exact ⟨by rw [hac.out,e1.out,e2.out]; rfl,L1⟩
  · have e1:=Ad (HA.out.2.1 (by decide))
    have e2:=Ad (HA.out.2.2.2 (by decide));clear HA HC;go_wp2_with (go_at_call 160; refine (Oj _ op arg A X S Pc Z N C I (An T1)).mono ?_; rintro e w' ⟨rfl,L2⟩)
    go_ret3
    exact ⟨by rw [hac.out,e1.out,e2.out]; rfl,Ae L1 L2⟩
  · have e1:=Ad (HA.out.2.1 (by decide))
    have e2:=Ad (HA.out.2.2.1 rfl);clear HA HC;go_wp2_with (first | (go_at_call 98; refine (Ck _ _).mono ?_; rintro e w' ⟨rfl,rfl⟩) | (go_at_call 160; refine (Oj _ op arg A X S Pc Z N C I (An T1)).mono ?_; rintro e w' ⟨rfl,L2⟩))
    go_ret3
    exact ⟨by rw [hac.out,e1.out,e2.out]; rfl,Ae L1 L2⟩
def Pu (ops:Array Oper):Bool:=ops.all fun o=>o.guard.isNone
def A0 (o:Oper) (j:Nat):Bool:=o.after.any fun e=>Region.binds .any e && e.on==j
section
variable {P:Program} {ops:Array Oper} {Q:Exit→Act→World→Prop}
theorem D9 {o:Oper} {l:Array Bool} (ha:(o.after.all fun e=>!Region.binds .any e || l.getD e.on false)=true) {j:Nat} (hj:A0 o j=true):l[j]?=some true:=by
 unfold A0 at hj;rw [Array.any_eq_true'] at hj;obtain ⟨e,he,hb⟩:=hj;have h1:=(Array.all_eq_true_iff_forall_mem.1 ha) e he;simp only [Bool.and_eq_true,beq_iff_eq] at hb;rw [hb.1,hb.2] at h1;simp only [Bool.not_true,Bool.false_or] at h1;rw [Array.getD_eq_getD_getElem?] at h1
 rcases hb':l[j]? with _ | b
 ·rw [hb'] at h1; simp at h1
 ·rw [hb'] at h1; simp at h1; rw [h1]
def Bl (ds:List (Option Nat)) (a:Act) (i:Nat):Value:=match ds[i]? with
 | some (some d)=>a.tmps[d]?.getD undef
 | _=>undef
def Lw (ops:Array Oper) (ds:List (Option Nat)):Bool:=decide (ds.length=ops.size) && ((List.range ds.length).all fun i=>((ops[i]?).map fun o=>some o.dst==ds[i]?).getD false) && (List.range ds.length).all fun i=>(List.range ds.length).all fun j=>decide (i=j) || ds[i]? != ds[j]? || ds[i]?==some none
def slotsOf (ds:List (Option Nat)):List Nat:=ds.filterMap id
theorem Ly {id:Nat} {a:Act} {w:World} (ds:List (Option Nat)) (hm:P.follows .mixedOrders=true) (hb:Lm ops=true) (hg:Pu ops=true) (hd:Lw ops ds=true) (hsz:∀ d,d∈slotsOf ds→d<a.tmps.size)
  (R:Nat→Nat→Nat→Prop) (E:Nat→World→World→Prop) (hER:∀ j W W',E j W W'→Wrote (R j) W W') (φ:Nat→Value→World→Prop)
  (hstab:∀ i j o v W W',i≠j→ops[i]?=some o→A0 o j=false→E j W W'→φ i v W→φ i v W')
  (hstep:∀ i o a' W K,ops[i]?=some o→Fr (slotsOf ds) a a'→Wrote (fun b o'=>∃ j oj,j≠i∧ops[j]?=some oj∧A0 oj i=false∧R j b o') w W→(∀ j,A0 o j=true→φ j (Bl ds a' j) W)→(∀ v W',E i W W'→φ i (if o.dst=none then undef else v) W'→K (a'.put o.dst v) W')→o.wp P a' W K Q)
  (hend:∀ a' W,Fr (slotsOf ds) a a'→Wrote (fun b o=>∃ j,R j b o) w W→(∀ i,i<ops.size→φ i (Bl ds a' i) W)→Q .normal a' W):(Code.region id ops true).wp P Q a w:=by
 unfold Lw at hd;simp only [Bool.and_eq_true,decide_eq_true_eq] at hd;obtain ⟨⟨hlen,hd1⟩,hd2⟩:=hd
 have hgo:∀ (i:Nat) (o:Oper),ops[i]?=some o→o.guard=none:=fun i o ho=>by
  have h1:=(Array.all_eq_true_iff_forall_mem.1 hg) o (Array.mem_of_getElem? ho)
  simpa using h1
 have hlt:∀ (i:Nat) (o:Oper),ops[i]?=some o→i<ops.size:=fun i o ho=>by
  rcases Nat.lt_or_ge i ops.size with h | h
  ·exact h
  ·rw [Array.getElem?_eq_none h] at ho; cases ho
 have hdst:∀ (i:Nat) (o:Oper),ops[i]?=some o→ds[i]?=some o.dst:=fun i o ho=>by
  have h1:=List.all_eq_true.1 hd1 i (List.mem_range.2 (by rw [hlen]; exact hlt i o ho));rw [ho] at h1;simp only [Option.map_some,Option.getD_some,beq_iff_eq] at h1;exact h1.symm
 have hne:∀ i j d,i≠j→ds[i]?=some (some d)→ds[j]?≠some (some d):=fun i j d h hi hj=>by
  have li:i<ds.length:=by rcases Nat.lt_or_ge i ds.length with x | x; exact x; (rw [List.getElem?_eq_none x] at hi; cases hi)
  have lj:j<ds.length:=by rcases Nat.lt_or_ge j ds.length with x | x; exact x; (rw [List.getElem?_eq_none x] at hj; cases hj)
  have h1:=List.all_eq_true.1 (List.all_eq_true.1 hd2 i (List.mem_range.2 li)) j (List.mem_range.2 lj);rw [hi,hj] at h1
  simp at h1
  exact h h1
 refine Gf hm hb (fun _ l a' W=>Fr (slotsOf ds) a a'∧Wrote (fun b o=>∃ j,l[j]?=some true∧R j b o) w W∧(∀ (k:Nat) (o:Oper),l[k]?=some true→ops[k]?=some o→∀ j:Nat,A0 o j=true→l[j]?=some true)∧∀ i:Nat,l[i]?=some true→φ i (Bl ds a' i) W) ?_ ?_ ?_
 ·have hno:∀ i:Nat,(Array.replicate ops.size false)[i]?≠some true:=fun i h=>by
   rcases Nat.lt_or_ge i ops.size with x | x
   ·simp [x] at h
   ·rw [Array.getElem?_eq_none (by simpa using x)] at h; cases h
  exact ⟨⟨rfl,rfl,fun _ _=>rfl⟩,⟨rfl,rfl,rfl,Nat.le_refl _,fun _ _ _=>rfl,fun _ _ _ _=>rfl,fun _ _ _=>rfl⟩,fun k _ h=>absurd h (hno k),fun i h=>absurd h (hno i)⟩
 ·rintro l a' W i o K hl ⟨F,L,hcl,hφ⟩ ho hf ha hK
  have hi:=hlt i o ho;have hdi:=hdst i o ho
  have hdone:∀ j,l[j]?=some true→∀ b o,R j b o→∃ j oj,j≠i∧ops[j]?=some oj∧A0 oj i=false∧R j b o:=fun j h1 b o h2=>by
   have hjl:j<ops.size:=by
    rcases Nat.lt_or_ge j ops.size with x | x
    ·exact x
    ·rw [Array.getElem?_eq_none (by omega)] at h1; cases h1
   have hjo:ops[j]?=some ops[j]:=Array.getElem?_eq_getElem hjl;refine ⟨j,ops[j],(fun e=>by rw [e,hf] at h1; cases h1),hjo,?_,h2⟩;cases hw:A0 ops[j] i
   ·rfl
   ·have:=hcl j _ h1 hjo i hw
    rw [hf] at this; cases this
  refine Ky ho (hgo i o ho) (hstep i o a' W K ho F (L.mono (fun b o _ ⟨j,h1,h2⟩=>hdone j h1 b o h2)) (fun j hj=>hφ j (D9 ha hj)) (fun v W' hW hv=>hK _ _ ?_))
  have hset:(l.setIfInBounds i true)[i]?=some true:=by simp [hl,hi]
  refine ⟨?_,(L.mono (fun b o _ ⟨j,h1,h2⟩=>⟨j,by rw [Array.getElem?_setIfInBounds_ne (fun e=>by rw [← e,hf] at h1; cases h1)]; exact h1,h2⟩)).trans ((hER _ _ _ hW).mono (fun b o _ h=>⟨i,hset,h⟩)),fun k o' hk hko j hj=>?_,fun k hk=>?_⟩
  ·cases e:o.dst with
   | none=>exact F
   | some d =>
    rw [e] at hdi;exact F.put (List.mem_filterMap.2 ⟨some d,List.mem_of_getElem? hdi,rfl⟩) v
  ·have h1:l[j]?=some true:=by
    by_cases e:k=i
    ·subst e
     rw [ho] at hko;obtain rfl:=Option.some.inj hko;exact D9 ha hj
    ·rw [Array.getElem?_setIfInBounds_ne (by omega)] at hk
     exact hcl k o' hk hko j hj
   by_cases e:j=i
   ·rw [e]; exact hset
   ·rw [Array.getElem?_setIfInBounds_ne (by omega)]; exact h1
  ·by_cases e:k=i
   ·subst e
    cases e:o.dst with
    | none =>
     rw [e] at hdi hv;unfold Bl;rw [hdi]
     simpa using hv
    | some d =>
     rw [e] at hdi hv;have hmem:d∈slotsOf ds:=List.mem_filterMap.2 ⟨some d,List.mem_of_getElem? hdi,rfl⟩
     have:Bl ds (a'.put (some d) v) k=v:=by
      unfold Bl;rw [hdi];exact Fz (by rw [F.size]; exact hsz d hmem)
     rw [this]
     simpa using hv
   ·rw [Array.getElem?_setIfInBounds_ne (by omega)] at hk
    have hkl:k<ops.size:=by
     rcases Nat.lt_or_ge k ops.size with x | x
     ·exact x
     ·rw [Array.getElem?_eq_none (by omega)] at hk; cases hk
    have hko:ops[k]?=some ops[k]:=Array.getElem?_eq_getElem hkl
    have hnw:A0 ops[k] i=false:=by
     cases hw:A0 ops[k] i
     ·rfl
     ·have:=hcl k _ hk hko i hw
      rw [hf] at this; cases this
    have h1:=hstab k i _ _ W W' e hko hnw hW (hφ k hk)
    have:Bl ds (a'.put o.dst v) k=Bl ds a' k:=by
     cases e2:o.dst with
     | none=>rfl
     | some d =>
      rw [e2] at hdi;unfold Bl
      cases e3:ds[k]? with
      | none=>rfl
      | some x =>
       cases x with
       | none=>rfl
       | some d' =>
        have:d≠d':=fun x=>hne k i d' e e3 (by rw [hdi,x])
        exact Es this
    rw [this];exact h1
 ·rintro l a' W hall ⟨F,L,-,hφ⟩
  exact hend a' W F (L.mono (fun b o _ ⟨j,_,h2⟩=>⟨j,h2⟩)) (fun i hi=>hφ i (hall i hi))
theorem A8 {id:Nat} {a:Act} {w:World} (ds:List (Option Nat)) (hm:P.follows .mixedOrders=true) (hb:Lm ops=true) (hg:Pu ops=true) (hd:Lw ops ds=true) (hsz:∀ d,d∈slotsOf ds→d<a.tmps.size)
  (R:Nat→Nat→Nat→Prop) (φ:Nat→Value→World→Prop)
  (hstab:∀ i j o v W W',i≠j→ops[i]?=some o→A0 o j=false→Wrote (R j) W W'→φ i v W→φ i v W')
  (hstep:∀ i o a' W K,ops[i]?=some o→Fr (slotsOf ds) a a'→Wrote (fun b o'=>∃ j oj,j≠i∧ops[j]?=some oj∧A0 oj i=false∧R j b o') w W→(∀ j,A0 o j=true→φ j (Bl ds a' j) W)→(∀ v W',Wrote (R i) W W'→φ i (if o.dst=none then undef else v) W'→K (a'.put o.dst v) W')→o.wp P a' W K Q)
  (hend:∀ a' W,Fr (slotsOf ds) a a'→Wrote (fun b o=>∃ j,R j b o) w W→(∀ i,i<ops.size→φ i (Bl ds a' i) W)→Q .normal a' W):(Code.region id ops true).wp P Q a w :=
 Ly ds hm hb hg hd hsz R (fun j=>Wrote (R j)) (fun _ _ _ h=>h) φ hstab hstep hend
end
set_option maxHeartbeats 1000000
structure Cm (W:World) (D:Nat→Prop) (a:Option Addr) (n:Nat) (f:Nat→Int):Prop where
 small:n≤1048576
 row:Be .i64 W a n f
 free:Pd W (Da a n)
 on:∀ b o,Da a n b o→D b
theorem Cm.keep {R:Nat→Nat→Prop} {W W':World} {D:Nat→Prop} {a:Option Addr} {n:Nat} {f:Nat→Int} (h:Cm W D a n f) (hw:Wrote R W W') (hd:∀ b o,Da a n b o→D b→b<W.heap.size→¬ R b o):Cm W' D a n f :=
 ⟨h.small,h.row.keep hw (fun b o hf=>hd b o hf (h.on b o hf) (h.free b o hf).1),h.free.keep hw,h.on⟩
theorem Cm.wr {R:Nat→Nat→Prop} {W W':World} {D:Nat→Prop} {p i n:Nat} {f:Nat→Int} (h:Cm W D (some ⟨p,i,none⟩) n f) (hw:Wrote R W W') (hd:∀ o,¬ R p o):Cm W' D (some ⟨p,i,none⟩) n f :=
 h.keep hw (fun b o ⟨off,e,_,_⟩ _ _=>by
  simp only [Option.some.injEq,Addr.mk.injEq] at e;obtain ⟨rfl,-,-⟩:=e
  exact hd o)
theorem Cm.mono {W:World} {D E:Nat→Prop} {a:Option Addr} {n:Nat} {f:Nat→Int} (h:Cm W D a n f) (hd:∀ b,b<W.heap.size→D b→E b):Cm W E a n f :=
 ⟨h.small,h.row,h.free,fun b o hf=>hd b (h.free b o hf).1 (h.on b o hf)⟩
theorem Cm.ints {W:World} {D:Nat→Prop} {a:Option Addr} {n:Nat} {f:Nat→Int} (h:Cm W D a n f) (c:Nat):Ints .i64 W (On D) (.slice a n c) n f:=⟨a,c,rfl,h.small,h.row,h.on⟩
theorem Cm.congr {W:World} {D:Nat→Prop} {a:Option Addr} {n:Nat} {f g:Nat→Int} (h:Cm W D a n f) (e:∀ i,i<n→f i=g i):Cm W D a n g:=⟨h.small,h.row.congr e,h.free,h.on⟩
theorem Cm.own {W:World} {lo:Nat} {a:Option Addr} {n c:Nat} {f:Nat→Int} (h:Am W lo (.slice a n c) n f):Cm W (fun b=>lo≤b) a n f:=by
 obtain ⟨a',c',e,hn,hr,hF,hD⟩:=h;simp only [Value.slice.injEq,true_and] at e;obtain ⟨rfl,rfl⟩:=e;exact ⟨hn,hr,hF,hD⟩
theorem Cm.fresh {W:World} {p n lo:Nat} {f:Nat→Int} (hr:W.rowIs p 3 n (fun i=>.i (f i))) (hn:n≤1048576) (hp:lo≤p):Cm W (fun b=>lo≤b) (some ⟨p,0,none⟩) n f :=
 ⟨hn,Od hr,fun b o ⟨off,e,_,_⟩=>by
  simp only [Option.some.injEq,Addr.mk.injEq] at e;obtain ⟨rfl,-,-⟩:=e
  exact ⟨hr.lt,hr.frozen _⟩,fun b o ⟨off,e,_,_⟩=>by
  simp only [Option.some.injEq,Addr.mk.injEq] at e;obtain ⟨rfl,-,-⟩:=e
  exact hp⟩
def Apart (a:Option Addr) (n:Nat) (a':Option Addr) (n':Nat):Prop:=∀ b o,Da a n b o→¬ Da a' n' b o
theorem Apart.symm {a a':Option Addr} {n n':Nat} (h:Apart a n a' n'):Apart a' n' a n:=fun b o x y=>h b o y x
theorem E5 {p q n m:Nat} {i j:Nat} (h:p≠q):Apart (some ⟨p,i,none⟩) n (some ⟨q,j,none⟩) m:=by
 rintro b o ⟨off,e,_,_⟩ ⟨off',e',_,_⟩;simp only [Option.some.injEq,Addr.mk.injEq] at e e';exact h (e.1.trans e'.1.symm)
theorem Q2 {W W':World} {D E:Nat→Prop} {a a':Option Addr} {n n':Nat} {f g:Nat→Int} (h:Cm W D a n f) (k:Cm W' E a' n' g) (hd:∀ b,D b→¬ E b):Apart a n a' n':=fun b o x y=>hd b (h.on b o x) (k.on b o y)
structure Cf (W:World) (D:Nat→Prop) (v:Value) (t c s ad pl:Int) (bl:Bool) (n:Nat) (f:Nat→Int) (m:Nat) (g:Nat→Int):Prop where
 ex:∃ a x b y,v=.agg (pR t c s ad pl bl (.slice a n x) (.slice b m y))∧Cm W D a n f∧Cm W D b m g∧Apart a n b m
section
variable {R:Nat→Nat→Prop} {W W':World} {D E:Nat→Prop} {v:Value} {t c s ad pl:Int} {bl:Bool} {n m:Nat} {f g:Nat→Int}
theorem Cf.keep (h:Cf W D v t c s ad pl bl n f m g) (hw:Wrote R W W') (hd:∀ b o,D b→b<W.heap.size→¬ R b o):Cf W' D v t c s ad pl bl n f m g:=by
 obtain ⟨a,x,b,y,e,h1,h2,h3⟩:=h;exact ⟨a,x,b,y,e,h1.keep hw (fun b o _=>hd b o),h2.keep hw (fun b o _=>hd b o),h3⟩
theorem Cf.below (h:Cf W D v t c s ad pl bl n f m g) (L:Below W.heap.size W W'):Cf W' D v t c s ad pl bl n f m g:=h.keep (Ab L Aj) (fun _ _ _ _ x=>x)
theorem Cf.mono (h:Cf W D v t c s ad pl bl n f m g) (hd:∀ b,b<W.heap.size→D b→E b):Cf W E v t c s ad pl bl n f m g:=by
 obtain ⟨a,x,b,y,e,h1,h2,h3⟩:=h;exact ⟨a,x,b,y,e,h1.mono hd,h2.mono hd,h3⟩
theorem Cf.two (h:Cf W D v t c s ad pl bl n f m g):∃ a x b y,v=.agg (pR t c s ad pl bl (.slice a n x) (.slice b m y)):=by
 obtain ⟨a,x,b,y,e,-⟩:=h;exact ⟨a,x,b,y,e⟩
theorem Cf.ints (h:Cf W D v t c s ad pl bl n f m g):∃ u u',v=.agg (pR t c s ad pl bl u u')∧Ints .i64 W (On D) u n f∧Ints .i64 W (On D) u' m g:=by
 obtain ⟨a,x,b,y,e,h1,h2,h3⟩:=h;exact ⟨_,_,e,h1.ints x,h2.ints y⟩
end
theorem below_drewN {n:Nat} {w W:World} (L:Below n w W) (d:Nat):Below n w (W.drewN d):=L.trans ⟨rfl,rfl,rfl,Nat.le_refl _,fun _ _=>rfl⟩
theorem Bc {w:World} {b d o:Nat} {ob:Obj} {x:Value} (h:w.heap[b]?=some ob) (hd:b≠d):(w.setCell ⟨d,o,none⟩ x).heap[b]?=some ob :=
 ((Wrote.setCell (R:=fun b' _=>b'=d) (Wrote.refl _ w) (fun _=>rfl) x).block b (Ac h) (fun _ e=>hd e)).trans h
theorem Wk {left:Int} {n m:Nat} (h:(n:Int)≤left):Db (left-n) m=Db left (n+m):=by
 unfold Db
 by_cases e:left-n<m
 ·rw [if_pos e,if_pos (by omega)]
 ·rw [if_neg e,if_neg (by omega)]; omega
theorem Wl {left:Int} {n m:Nat} (h:left<n):Db left (n+m)=-1:=B4 (by omega)
theorem Jc8 (w:World) (t c s ad pl:Int) (bl:Bool) (a:Option Addr) (n x:Nat) (b:Option Addr) (m y:Nat) (left:Int) (h1:n≤9223372036854775807) (h1':m≤9223372036854775807) (h0:0≤left) (h2:left≤1048576) :
  Calls Tryz.prog 14 #[.agg (pR t c s ad pl bl (.slice a n x) (.slice b m y)),.i left] w fun e w'=>e=.returned (.i (Db left (n+m)))∧Below w.heap.size w w':=by
 have L0:∀ o,Below w.heap.size w (w.alloc o):=fun o=>(Below.refl _ _).alloc (Nat.le_refl _) _
 by_cases h:left<n
 ·have HS:=Ad (B4 h)
  have HT:=Ad (Wl (m:=m) h)
  go_enter Tryz.func14,Tryz.ntmps14
  go_wp2_with fail;refine (El _ _ _ _ _ (by omega) h0 h2).mono ?_;rintro e w1 ⟨rfl,rfl⟩;rw [HS.out];go_wp2;go_ret;exact ⟨Az HT.out.symm,L0 _⟩
 ·have HS:=Ad (Cl (show (n:Int)≤left by omega))
  have HT:=Ad (Wk (m:=m) (show (n:Int)≤left by omega))
  have hn:¬ (left-(n:Int)<0):=by omega
  have hr:Db left (n+m)<0→Db left (n+m)=-1:=fun hh=>by
   unfold Db at *;split
   ·rfl
   ·rename_i q; rw [if_neg q] at hh; omega
  have HR:=Ad hr;clear hr
  go_enter Tryz.func14,Tryz.ntmps14
  go_wp2_with fail;refine (El _ _ _ _ _ (by omega) h0 h2).mono ?_;rintro e w1 ⟨rfl,rfl⟩;rw [HS.out];go_wp2_with fail;refine (El _ _ _ _ _ (by omega) (by omega) (by omega)).mono ?_;rintro e w1 ⟨rfl,rfl⟩;rw [HT.out]
  by_cases hq:Db left (n+m)<0
  ·have HQ:=Ad (HR.out hq)
   go_wp2;go_ret;exact ⟨Az HQ.out.symm,L0 _⟩
  ·go_wp2
   go_ret;exact ⟨rfl,L0 _⟩
theorem Jc9 (w:World) (F G:Nat→Nat→Prop) (t c s ad pl:Int) (bl:Bool) (u u':Value) (n:Nat) (f:Nat→Int) (m:Nat) (g:Nat→Int) (H:Ints .i64 w F u n f) (K:Ints .i64 w G u' m g) :
  Calls Tryz.prog 23 #[.agg (pR t c s ad pl bl u u')] w fun e w'=>∃ v,e=.returned v∧Cf w' (fun b=>w.heap.size≤b) v t c s ad pl bl n f m g∧Below w.heap.size w w':=by
 obtain ⟨ua,ux,rfl,un,-,-⟩:=id H;obtain ⟨va,vx,rfl,vn,-,-⟩:=id K;have L0:Below w.heap.size w (((w.alloc (.cells (pR t c s ad pl bl (.slice ua n ux) (.slice va m vx)) 31)).alloc (.cells (pR 0 0 0 0 0 false (.slice none 0 0) (.slice none 0 0)) 44)).alloc (.cells (pR t c s ad pl bl (.slice none 0 0) (.slice none 0 0)) 44)):=(((Below.refl _ _).alloc (Nat.le_refl _) _).alloc (by simp) _).alloc (by simp; omega) _;have k0:(((w.alloc (.cells (pR t c s ad pl bl (.slice ua n ux) (.slice va m vx)) 31)).alloc (.cells (pR 0 0 0 0 0 false (.slice none 0 0) (.slice none 0 0)) 44)).alloc (.cells (pR t c s ad pl bl (.slice none 0 0) (.slice none 0 0)) 44)).heap[w.heap.size]?=some (.cells (pR t c s ad pl bl (.slice ua n ux) (.slice va m vx)) 31 (0,0)):=Ax (Ax (Al w _ _) _) _
 have k1:(((w.alloc (.cells (pR t c s ad pl bl (.slice ua n ux) (.slice va m vx)) 31)).alloc (.cells (pR 0 0 0 0 0 false (.slice none 0 0) (.slice none 0 0)) 44)).alloc (.cells (pR t c s ad pl bl (.slice none 0 0) (.slice none 0 0)) 44)).heap[w.heap.size+1]?=some (.cells (pR 0 0 0 0 0 false (.slice none 0 0) (.slice none 0 0)) 44 (0,0)):=by simpa using Ax (Al (w.alloc (.cells (pR t c s ad pl bl (.slice ua n ux) (.slice va m vx)) 31)) (pR 0 0 0 0 0 false (.slice none 0 0) (.slice none 0 0)) 44) (.cells (pR t c s ad pl bl (.slice none 0 0) (.slice none 0 0)) 44)
 have k2:(((w.alloc (.cells (pR t c s ad pl bl (.slice ua n ux) (.slice va m vx)) 31)).alloc (.cells (pR 0 0 0 0 0 false (.slice none 0 0) (.slice none 0 0)) 44)).alloc (.cells (pR t c s ad pl bl (.slice none 0 0) (.slice none 0 0)) 44)).heap[w.heap.size+1+1]?=some (.cells (pR t c s ad pl bl (.slice none 0 0) (.slice none 0 0)) 44 (0,0)):=by simpa using Al ((w.alloc (.cells (pR t c s ad pl bl (.slice ua n ux) (.slice va m vx)) 31)).alloc (.cells (pR 0 0 0 0 0 false (.slice none 0 0) (.slice none 0 0)) 44)) (pR t c s ad pl bl (.slice none 0 0) (.slice none 0 0)) 44
 go_enter Tryz.func23,Tryz.ntmps23
 go_wp2_with fail;generalize (((w.alloc (.cells (pR t c s ad pl bl (.slice ua n ux) (.slice va m vx)) 31)).alloc (.cells (pR 0 0 0 0 0 false (.slice none 0 0) (.slice none 0 0)) 44)).alloc (.cells (pR t c s ad pl bl (.slice none 0 0) (.slice none 0 0)) 44))=W0 at *;refine (Ld _ F _ n f (H.keep (Ab L0 Aj) (fun _ _ _ x=>x))).mono ?_;rintro e W1 ⟨rfl,hr,hs,L⟩;have z0:=Ac k2
 obtain ⟨p,hp⟩:∃ p,Hid (p=W0.heap.size):=⟨_,rfl⟩
 rw [← hp.out] at hr hs ⊢;have L1:=Ae L0 L;replace k0:=Aa k0 L (Ac k0);replace k1:=Aa k1 L (Ac k1);replace k2:=Aa k2 L (Ac k2)
 have pz:w.heap.size+1+1<p:=by rw [hp.out]; exact z0
 clear L L0 z0 hp;have j0:=Bc (o:=6) (x:=.slice (some ⟨p,0,none⟩) n n) k0 (show w.heap.size≠w.heap.size+1+1 by omega);have j1:=Bc (o:=6) (x:=.slice (some ⟨p,0,none⟩) n n) k1 (show w.heap.size+1≠w.heap.size+1+1 by omega);have j2:=Af (o:=6) k2 (.slice (some ⟨p,0,none⟩) n n);have M1:=L1.setCell (p:=⟨w.heap.size+1+1,6,none⟩) (by show w.heap.size≤w.heap.size+1+1; omega) (.slice (some ⟨p,0,none⟩) n n);have r1:=(Cm.fresh hr un (show w.heap.size≤p by omega)).wr (Wrote.setCell (b:=w.heap.size+1+1) (o:=6) (R:=fun b _=>b=w.heap.size+1+1) (Wrote.refl _ W1) (fun _=>rfl) (.slice (some ⟨p,0,none⟩) n n)) (fun o=>show ¬ p=w.heap.size+1+1 by omega)
 have s1:(W1.setCell ⟨w.heap.size+1+1,6,none⟩ (.slice (some ⟨p,0,none⟩) n n)).heap.size=p+1:=by simpa using hs
 have c0:=Ag k0;have c2:=Ag k2;have f2:=As k2;go_wp2_with fail;clear c0 c2 f2 k0 k1 k2 L1 hr hs;generalize W1.setCell ⟨w.heap.size+1+1,6,none⟩ (.slice (some ⟨p,0,none⟩) n n)=W2 at *;refine (Ld _ G _ m g (K.keep (Ab M1 Aj) (fun _ _ _ x=>x))).mono ?_;rintro e W3 ⟨rfl,hr,hs,L⟩;rw [s1] at hr hs ⊢;have L3:=Ae M1 L;replace j0:=Aa j0 L (Ac j0);replace j1:=Aa j1 L (Ac j1);replace j2:=Aa j2 L (Ac j2);replace r1:=r1.wr (Ab L Aj) (fun _ x=>x);have r2:=Cm.fresh hr vn (show w.heap.size≤p+1 by omega);clear L M1 s1;simp only [List.setIfInBounds_toArray,List.set_cons_succ,List.set_cons_zero] at j2;have c0:=Ag j0;have c1:=Ag j1;have c2:=Ag j2;have f1:=As j1;have f2:=As j2;have HR:=Ad (And.intro r1 r2);clear r1 r2 hr hs j0 j1 j2;go_wp2
 refine bodyPost_ret (v:=.agg (pR t c s ad pl bl (.slice (some ⟨p,0,none⟩) n n) (.slice (some ⟨p+1,0,none⟩) m m))) (by simp [results,Tryz.results23,go_sem,c1]) rfl ?_
 have key:∀ W4,Wrote (fun b _=>b=w.heap.size+1∨b=w.heap.size+1+1) W3 W4→Cf W4 (fun b=>w.heap.size≤b) (.agg (pR t c s ad pl bl (.slice (some ⟨p,0,none⟩) n n) (.slice (some ⟨p+1,0,none⟩) m m))) t c s ad pl bl n f m g∧Below w.heap.size w W4:=fun W4 WW =>
  ⟨⟨_,_,_,_,rfl,HR.out.1.wr WW (fun _ h=>by omega),HR.out.2.wr WW (fun _ h=>by omega),E5 (by omega)⟩,L3.trans (WW.below L3.size (fun b o hb h=>by omega))⟩
 refine ⟨_,rfl,key _ ?_⟩
 iterate 9 (refine Wrote.setCell ?_ (fun _=>by omega) _)
 exact Wrote.refl _ _
theorem Tc (w:World) (F G F' G':Nat→Nat→Prop) (t c s ad pl:Int) (bl:Bool) (u u' z z':Value) (n:Nat) (f:Nat→Int) (m:Nat) (g:Nat→Int) (H:Ints .i64 w F u n f) (K:Ints .i64 w G u' m g) (H':Ints .i64 w F' z n f) (K':Ints .i64 w G' z' m g) :
  Calls Tryz.prog 34 #[.agg (pR t c s ad pl bl u u'),.agg (pR t c s ad pl bl z z')] w fun e w'=>e=.returned (.bool true)∧Below w.heap.size w w':=by
 have L0:Below w.heap.size w ((w.alloc (.cells (pR t c s ad pl bl u u') 44)).alloc (.cells (pR t c s ad pl bl z z') 44)):=((Below.refl _ _).alloc (Nat.le_refl _) _).alloc (by simp) _;have HL:=Ad L0
 go_enter Tryz.func34,Tryz.ntmps34
 go_wp2_with fail;refine (J8 _ F F' _ _ n n f f (H.keep (Ab L0 Aj) (fun _ _ _ x=>x)) (H'.keep (Ab L0 Aj) (fun _ _ _ x=>x))).mono ?_;rintro e w1 ⟨rfl,d,rfl⟩;rw [Eq];have L1:=below_drewN L0 d;go_wp2_with fail;refine (J8 _ G G' _ _ m m g g (K.keep (Ab L1 Aj) (fun _ _ _ x=>x)) (K'.keep (Ab L1 Aj) (fun _ _ _ x=>x))).mono ?_;rintro e w1 ⟨rfl,d',rfl⟩;rw [Eq];go_wp2;go_ret;exact ⟨rfl,below_drewN L0 _⟩
theorem Jav (w:World) (D E:Nat→Prop) (v u:Value) (t c s ad pl:Int) (bl:Bool) (n:Nat) (f:Nat→Int) (m:Nat) (g:Nat→Int) (H:Cf w D v t c s ad pl bl n f m g) (K:Cf w E u t c s ad pl bl n f m g) :
  Calls Tryz.prog 34 #[v,u] w fun e w'=>e=.returned (.bool true)∧Below w.heap.size w w':=by
 obtain ⟨a,a',rfl,h1,h2⟩:=H.ints;obtain ⟨b,b',rfl,k1,k2⟩:=K.ints;exact Tc w _ _ _ _ t c s ad pl bl a a' b b' n f m g h1 h2 k1 k2
theorem Wm (w:World) (D:Nat→Prop) (v:Value) (t c s ad pl:Int) (bl:Bool) (n:Nat) (f:Nat→Int) (m:Nat) (g:Nat→Int) (k:Int) (H:Cf w D v t c s ad pl bl n f m g) (k0:0≤k) (k1:k≤1099511627776) :
  Calls Tryz.prog 41 #[v,.i k] w fun e w'=>e=.returned (.i (k+n+m))∧Cf w' D v t c s ad pl bl n (fun i=>k+i) m (fun i=>k+n+i)∧Wrote (On D) w w':=by
 obtain ⟨a,x,b,y,rfl,h1,h2,h3⟩:=H;have hn:=h1.small;have hm:=h2.small;have L0:Below w.heap.size w (w.alloc (.cells (pR t c s ad pl bl (.slice a n x) (.slice b m y)) 44)):=(Below.refl _ _).alloc (Nat.le_refl _) _;have B0:=Al w (pR t c s ad pl bl (.slice a n x) (.slice b m y)) 44;have WL:=Ab L0 (On D);have e1:=h1.keep (Ab L0 Aj) (fun _ _ _ _ _ x=>x);have e2:=h2.keep (Ab L0 Aj) (fun _ _ _ _ _ x=>x)
 have q1:∀ b' o,Da a n b' o→b'<w.heap.size:=fun b' o h=>(h1.free b' o h).1
 have q2:∀ b' o,Da b m b' o→b'<w.heap.size:=fun b' o h=>(h2.free b' o h).1
 have HD:=Ad (And.intro h1.on h2.on);clear h1 h2 L0
 go_enter Tryz.func41,Tryz.ntmps41
 go_wp2_with fail;generalize w.alloc (.cells (pR t c s ad pl bl (.slice a n x) (.slice b m y)) 44)=W0 at *;refine (Hs _ a n x f k e1.row e1.free k0 (by omega)).mono ?_;rintro e W1 ⟨rfl,R1,T1,s1⟩;have B1:=Ah B0 T1 (fun o h=>by have:=q1 _ _ h; omega);have f2:=e2.keep T1 (fun b' o hf _ _ h=>h3 b' o h hf);have F1:=e1.free.keep T1;have HS:=Ad (WL.trans (T1.mono (fun b o _ h=>HD.out.1 b o h)));clear e1 e2 T1 s1 WL B0;have c1:=Ag B1;go_wp2_with fail;clear c1;refine (Hs _ b m y g (k+n) f2.row f2.free (by omega) (by omega)).mono ?_;rintro e W2 ⟨rfl,R2,T2,s2⟩;have g1:=R1.keep T2 (fun b' o hf h=>h3 b' o hf h);have HE:=Ad (And.intro g1 (And.intro R2 (And.intro (F1.keep T2) (And.intro (f2.free.keep T2) (HS.out.trans (T2.mono (fun b o _ h=>HD.out.2 b o h)))))));clear R1 R2 T2 s2 g1 F1 f2 B1;go_wp2;go_ret
 exact ⟨rfl,⟨_,_,_,_,rfl,⟨hn,HE.out.1,HE.out.2.2.1,HD.out.1⟩,⟨hm,HE.out.2.1,HE.out.2.2.2.1,HD.out.2⟩,h3⟩,HE.out.2.2.2.2⟩
theorem Wn (w:World) (D:Nat→Prop) (v:Value) (t c s ad pl:Int) (bl:Bool) (n:Nat) (m:Nat) (k:Int) (H:Cf w D v t c s ad pl bl n (fun i=>k+i) m (fun i=>k+n+i)) (k0:0≤k) (k1:k≤1099511627776) :
  Calls Tryz.prog 46 #[v,.i k] w fun e w'=>e=.returned (.i (k+n+m))∧Below w.heap.size w w':=by
 obtain ⟨a,x,b,y,rfl,h1,h2,h3⟩:=H;have hn:=h1.small;have hm:=h2.small;have L0:Below w.heap.size w (w.alloc (.cells (pR t c s ad pl bl (.slice a n x) (.slice b m y)) 44)):=(Below.refl _ _).alloc (Nat.le_refl _) _;have e1:=(h1.keep (Ab L0 Aj) (fun _ _ _ _ _ x=>x)).row;have e2:=(h2.keep (Ab L0 Aj) (fun _ _ _ _ _ x=>x)).row
 have hk:¬ (k+(n:Int)<0):=by omega
 have hk2:¬ (k+(n:Int)+(m:Int)<0):=by omega
 clear h1 h2 h3
 go_enter Tryz.func46,Tryz.ntmps46
 go_wp2_with fail;refine (Ht _ a n x k e1 k0 (by omega)).mono ?_;rintro e w1 ⟨rfl,rfl⟩;go_wp2_with fail;refine (Ht _ b m y (k+n) e2 (by omega) (by omega)).mono ?_;rintro e w1 ⟨rfl,rfl⟩;go_wp2;go_ret;exact ⟨rfl,L0⟩
end Go.Proofs.YtgcmimcalmjaaaaGreatDoor
