import Derived.Test.YtgcmimcalmjaaaaGreatDoorRows
import Derived.Test.YtgcmimcalmjaaaaGreatDoorMath
import Derived.Orders
namespace Go.Proofs.YtgcmimcalmjaaaaGreatDoor
open Go.ChangeShapes Go.WideShapes Go.ChangeAt Go.RowKit
theorem Bs (x:Int) (w:World):Calls Tryz.prog 116 #[.i x] w fun e w'=>e=.returned (.i (x%256))∧w'=w:=by
 go_enter Tryz.func116,Tryz.ntmps116
 go_wp2;go_ret;exact ⟨Az (Sq x),rfl⟩
theorem Ck (x:Int) (w:World):Calls Tryz.prog 98 #[.i x] w fun e w'=>e=.returned (.i (x%256))∧w'=w:=by
 go_enter Tryz.func98,Tryz.ntmps98
 go_wp2;go_ret;exact ⟨rfl,rfl⟩
theorem Cq (x:Int) (w:World):Calls Tryz.prog 115 #[.i x] w fun e w'=>e=.returned (.i (x%65536))∧w'=w:=by
 go_enter Tryz.func115,Tryz.ntmps115
 go_wp2;go_ret;exact ⟨Az (Pb x),rfl⟩
theorem Gh (x:Int) (w:World):Calls Tryz.prog 99 #[.i x] w fun e w'=>e=.returned (.i (x%65536))∧w'=w:=by
 go_enter Tryz.func99,Tryz.ntmps99
 go_wp2;go_ret;exact ⟨Az (by rw [IntKind.wrap_u16]; exact IntWalk.wrap64_in _ (by omega)),rfl⟩
theorem Qr (b:Bool) (w:World):Calls Tryz.prog 145 #[.bool b] w fun e w'=>e=.returned (.i (Av b))∧w'=w:=by
 cases b <;> (go_enter Tryz.func145,Tryz.ntmps145; go_wp2; go_ret; exact ⟨rfl,rfl⟩)
theorem Yc (a b:Int) (c:Bool) (w:World):Calls Tryz.prog 176 #[.i a,.i b,.bool c] w fun e w'=>e=.returned (.tuple #[.i ((a%256+b%256+Av c)%256),.bool (decide (255<a%256+b%256+Av c))])∧w'=w:=by
 have hc:0≤Av c∧Av c≤1:=by cases c <;> simp [Av]
 go_enter Tryz.func176,Tryz.ntmps176
 go_wp2_with (first | (go_at_call 116; refine (Bs _ _).mono ?_; rintro e w' ⟨rfl,rfl⟩) | (go_at_call 145; refine (Qr _ _).mono ?_; rintro e w' ⟨rfl,rfl⟩));go_ret2;exact ⟨Dp rfl rfl,rfl⟩
theorem Yd (a b:Int) (c:Bool) (w:World):Calls Tryz.prog 148 #[.i a,.i b,.bool c] w fun e w'=>e=.returned (.tuple #[.i ((a%256-b%256-1+Av c)%256),.bool (decide (0≤a%256-b%256-1+Av c))])∧w'=w:=by
 have hc:0≤Av c∧Av c≤1:=by cases c <;> simp [Av]
 go_enter Tryz.func148,Tryz.ntmps148
 go_wp2_with (first | (go_at_call 116; refine (Bs _ _).mono ?_; rintro e w' ⟨rfl,rfl⟩) | (go_at_call 145; refine (Qr _ _).mono ?_; rintro e w' ⟨rfl,rfl⟩));go_ret2;exact ⟨Dp rfl rfl,rfl⟩
theorem Ux (a b:Int) (c:Bool) (w:World) (a0:0≤a) (a1:a<256) (b0:0≤b) (b1:b<256):Calls Tryz.prog 241 #[.int .u8 a,.int .u8 b,.bool c] w fun e w'=>e=.returned (.tuple #[.int .u8 ((a+b+Av c)%256),.int .u8 (Av (decide (255<a+b+Av c)))])∧w'=w:=by
 cases c
 ·by_cases h:255<a+b
  ·go_enter Tryz.func241,Tryz.ntmps241
   go_wp2;go_ret2;exact ⟨Dp (congrArg (Value.int .u8) (by simp only [Av]; simp; try omega)) (by simp [Av,h]),rfl⟩
  ·go_enter Tryz.func241,Tryz.ntmps241
   go_wp2;go_ret2;exact ⟨Dp (congrArg (Value.int .u8) (by simp only [Av]; simp; try omega)) (by simp [Av,h]),rfl⟩
 ·by_cases h:255<a+b+1
  ·go_enter Tryz.func241,Tryz.ntmps241
   go_wp2;go_ret2;exact ⟨Dp (congrArg (Value.int .u8) (by simp only [Av]; simp; try omega)) (by simp [Av,h]),rfl⟩
  ·go_enter Tryz.func241,Tryz.ntmps241
   go_wp2;go_ret2;exact ⟨Dp (congrArg (Value.int .u8) (by simp only [Av]; simp; try omega)) (by simp [Av,h]),rfl⟩
theorem Jk (f n:Int) (w:World):Calls Tryz.prog 242 #[.int .u8 f,.int .u8 n] w fun e w'=>e=.returned (.bool (bits .and .u8 f n != 0))∧w'=w:=by
 go_enter Tryz.func242,Tryz.ntmps242
 go_wp2;go_ret;exact ⟨rfl,rfl⟩
theorem Uy (b:Bool):(bits .and .u8 (Av b) 1 != 0)=b:=by cases b <;> decide
theorem Qs (a b:Int) (c:Bool) (w:World):Calls Tryz.prog 230 #[.i a,.i b,.bool c] w fun e w'=>e=.returned (.tuple #[.i ((a%256+b%256+Av c)%256),.bool (decide (255<a%256+b%256+Av c))])∧w'=w:=by
 have hc:0≤Av c∧Av c≤1:=by cases c <;> simp [Av]
 go_enter Tryz.func230,Tryz.ntmps230
 go_wp2_with (first | (go_at_call 241; refine (Ux _ _ _ _ (by omega) (by omega) (by omega) (by omega)).mono ?_; rintro e w' ⟨rfl,rfl⟩) | (go_at_call 242; refine (Jk _ _ _).mono ?_; rintro e w' ⟨rfl,rfl⟩));go_ret2;exact ⟨Dp rfl (congrArg Value.bool (Uy _)),rfl⟩
theorem Ye (a b:Int) (c:Bool) (w:World) (a0:0≤a) (a1:a<256) (b0:0≤b) (b1:b<256):Calls Tryz.prog 243 #[.int .u8 a,.int .u8 b,.bool c] w fun e w'=>e=.returned (.tuple #[.int .u8 ((a-b-1+Av c)%256),.int .u8 (Av (decide (0≤a-b-1+Av c)))])∧w'=w:=by
 have hc:0≤Av c∧Av c≤1:=by cases c <;> simp [Av]
 have hs:IntKind.u8.signed=false:=rfl;have hn:=Jbw b b0 b1
 go_enter Tryz.func243,Tryz.ntmps243
 go_wp2_with (go_at_call 241; refine (Ux _ _ _ _ (by omega) (by omega) (by omega) (by omega)).mono ?_; rintro e w' ⟨rfl,rfl⟩);go_ret2;exact ⟨Dp (congrArg (Value.int .u8) (by rw [show a+(255-b)+Av c=(a-b-1+Av c)+256 from by omega,Int.add_emod_right])) (congrArg (fun x=>Value.int .u8 (Av x)) (decide_eq_decide.2 (by omega))),rfl⟩
theorem Qt (a b:Int) (c:Bool) (w:World):Calls Tryz.prog 231 #[.i a,.i b,.bool c] w fun e w'=>e=.returned (.tuple #[.i ((a%256-b%256-1+Av c)%256),.bool (decide (0≤a%256-b%256-1+Av c))])∧w'=w:=by
 have hc:0≤Av c∧Av c≤1:=by cases c <;> simp [Av]
 go_enter Tryz.func231,Tryz.ntmps231
 go_wp2_with (first | (go_at_call 243; refine (Ye _ _ _ _ (by omega) (by omega) (by omega) (by omega)).mono ?_; rintro e w' ⟨rfl,rfl⟩) | (go_at_call 242; refine (Jk _ _ _).mono ?_; rintro e w' ⟨rfl,rfl⟩));go_ret2;exact ⟨Dp rfl (congrArg Value.bool (Uy _)),rfl⟩
theorem Qu (a:Int) (w:World) (a0:0≤a) (a1:a<256):Calls Tryz.prog 244 #[.int .u8 a] w fun e w'=>e=.returned (.int .u8 (2*Av (a==0)+128*Av (decide (127<a))))∧w'=w:=by
 by_cases h:a=0
 ·subst h
  go_enter Tryz.func244,Tryz.ntmps244
  go_wp2;go_ret;exact ⟨rfl,rfl⟩
 ·have h0:(a==0)=false:=by simpa using h
  by_cases g:127<a
  ·go_enter Tryz.func244,Tryz.ntmps244
   go_wp2;go_ret;exact ⟨Az (by rw [h0,decide_eq_true g]; decide),rfl⟩
  ·go_enter Tryz.func244,Tryz.ntmps244
   go_wp2;go_ret;exact ⟨Az (by rw [decide_eq_false (by omega)]; decide),rfl⟩
theorem Jcw (b c:Bool):(bits .and .u8 (2*Av b+128*Av c) 2 != 0)=b:=by cases b <;> cases c <;> decide
theorem Jcx (b c:Bool):(bits .and .u8 (2*Av b+128*Av c) 128 != 0)=c:=by cases b <;> cases c <;> decide
theorem Vj (x:Int) (w:World):Calls Tryz.prog 232 #[.i x] w fun e w'=>e=.returned (.tuple #[.bool (x%256==0),.bool (decide (127<x%256))])∧w'=w:=by
 go_enter Tryz.func232,Tryz.ntmps232
 go_wp2_with (first | (go_at_call 244; refine (Qu _ _ (by omega) (by omega)).mono ?_; rintro e w' ⟨rfl,rfl⟩) | (go_at_call 242; refine (Jk _ _ _).mono ?_; rintro e w' ⟨rfl,rfl⟩));go_ret2;exact ⟨Dp (congrArg Value.bool (Jcw _ _)) (congrArg Value.bool (Jcx _ _)),rfl⟩
theorem J7 (x:Int) (w:World):Calls Tryz.prog 149 #[.i x] w fun e w'=>e=.returned (.tuple #[.bool (x%256==0),.bool (decide (127<x%256))])∧w'=w:=by
 go_enter Tryz.func149,Tryz.ntmps149
 go_wp2_with (first | (go_at_call 116; refine (Bs _ _).mono ?_; rintro e w' ⟨rfl,rfl⟩));go_ret2;exact ⟨Dp rfl rfl,rfl⟩
theorem Lb (a b:Int) (w:World):Calls Tryz.prog 111 #[.i a,.i b] w fun e w'=>e=.returned (.i (a%256+256*(b%256)))∧w'=w:=by
 go_enter Tryz.func111,Tryz.ntmps111
 go_wp2_with (first | (go_at_call 116; refine (Bs _ _).mono ?_; rintro e w' ⟨rfl,rfl⟩));go_ret;exact ⟨Az rfl,rfl⟩
theorem Hp (a b:Int) (w:World):Calls Tryz.prog 158 #[.i a,.i b] w fun e w'=>e=.returned (.i (a%256+256*(b%256)))∧w'=w:=by
 go_enter Tryz.func158,Tryz.ntmps158
 go_wp2;go_ret;exact ⟨Az (by rw [Yb _ _ (by omega) (by omega) (by omega) (by omega)]; exact IntWalk.wrap64_in _ (by omega)),rfl⟩
set_option linter.unusedVariables false
section
variable {P:Program} {ops:Array Oper} {Q:Exit→Act→World→Prop}
theorem Ky {i:Nat} {o:Oper} {K:Act→World→Prop} {a:Act} {w:World} (ho:ops[i]?=some o) (hg:o.guard=none) (h:o.wp P a w K Q):wpOp P ops Q i K a w:=by
 have hw:Region.wanted o (yielded ops a.tmps)=true:=by simp [Region.wanted,hg]
 unfold wpOp;rw [ho];simp only [hw,if_true];exact Or.inl h
def Lm (ops:Array Oper):Bool:=(List.range ops.size).all fun i=>((ops[i]?).map (·.after.all fun e=>!Region.binds .any e || decide (e.on<i))).getD true
theorem Vy (hb:Lm ops=true) {l:Array Bool} (hs:l.size=ops.size) (h:Region.ready .any ops l=[]):∀ i,i<ops.size→l[i]?=some true:=by
 intro i
 induction i using Nat.strongRecOn with
 | ind i ih =>
  intro hi
  rcases hb':l[i]? with _ | b
  ·rw [Array.getElem?_eq_none_iff] at hb'; omega
  ·cases b with
   | true=>rfl
   | false =>
    exfalso
    have hm:i∈Region.ready .any ops l:=by
     unfold Region.ready;rw [List.mem_filter];refine ⟨List.mem_range.2 hi,?_⟩;have ho:ops[i]?=some ops[i]:=Array.getElem?_eq_getElem hi
     have hd:l.getD i true=false:=by rw [Array.getD_eq_getD_getElem?,hb']; rfl
     rw [hd,ho];simp only [Bool.not_false,Bool.true_and,Option.map_some,Option.getD_some];rw [Array.all_eq_true_iff_forall_mem];intro e he;have h1:=List.all_eq_true.1 hb i (List.mem_range.2 hi);rw [ho] at h1;simp only [Option.map_some,Option.getD_some] at h1;have h2:=(Array.all_eq_true_iff_forall_mem.1 h1) e he
     cases hbe:Region.binds .any e with
     | false=>rfl
     | true =>
      rw [hbe] at h2;simp only [Bool.not_true,Bool.false_or,decide_eq_true_eq] at h2;have:=ih e.on h2 (by omega);rw [Array.getD_eq_getD_getElem?,this]
      rfl
    rw [h] at hm;exact absurd hm (by simp)
theorem Vz (hb:Lm ops=true) (J:Array Bool→Act→World→Prop)
  (hs:∀ l a w i o K,l.size=ops.size→J l a w→ops[i]?=some o→l[i]?=some false→(o.after.all fun e=>!Region.binds .any e || l.getD e.on false)=true→(∀ a' w',J (l.setIfInBounds i true) a' w'→K a' w')→wpOp P ops Q i K a w)
  (he:∀ l a w,(∀ i,i<ops.size→l[i]?=some true)→J l a w→Q .normal a w) :
  ∀ (fuel:Nat) (l:Array Bool) (a:Act) (w:World),l.size=ops.size→(l.toList.filter (!·)).length≤fuel→J l a w→wpAny P .any ops Q fuel l a w:=by
 intro fuel
 induction fuel with
 | zero =>
  intro l a w hl hc hj
  have hall:∀ i,i<ops.size→l[i]?=some true:=by
   intro i hi
   rcases hb':l[i]? with _ | b
   ·rw [Array.getElem?_eq_none_iff] at hb'; omega
   ·cases b with
    | true=>rfl
    | false =>
     have hm:false∈l.toList.filter (!·):=List.mem_filter.2 ⟨by rw [Array.mem_toList_iff]; exact Array.mem_of_getElem? hb',rfl⟩;have:=List.length_pos_of_mem hm
     omega
  refine ⟨?_,he l a w hall hj⟩;unfold Region.ready;rw [List.filter_eq_nil_iff];intro i hi;have:=hall i (List.mem_range.1 hi);rw [Array.getD_eq_getD_getElem?,this]
  simp
 | succ fuel ih =>
  intro l a w hl hc hj;refine ⟨fun hr=>he l a w (Vy hb hl hr) hj,fun i hi=>?_⟩;unfold Region.ready at hi;rw [List.mem_filter] at hi;obtain ⟨hi1,hi2⟩:=hi;have hlt:=List.mem_range.1 hi1;have ho:ops[i]?=some ops[i]:=Array.getElem?_eq_getElem hlt;rw [ho] at hi2;simp only [Option.map_some,Option.getD_some,Bool.and_eq_true,Bool.not_eq_true'] at hi2;obtain ⟨hf,ha⟩:=hi2
  have hfl:l[i]?=some false:=by
   rcases hb':l[i]? with _ | b
   ·rw [Array.getElem?_eq_none_iff] at hb'; omega
   ·rw [Array.getD_eq_getD_getElem?,hb'] at hf; simp at hf; rw [hf]
  refine hs l a w i ops[i] _ hl hj ho hfl ha (fun a' w' hj'=>ih _ a' w' (by simp [hl]) ?_ hj')
  have key:∀ (xs:List Bool) (k:Nat),xs[k]?=some false→((xs.set k true).filter (!·)).length+1=(xs.filter (!·)).length:=by
   intro xs
   induction xs with
   | nil=>intro k hk; simp at hk
   | cons x xs ihx =>
    intro k hk
    cases k with
    | zero=>simp at hk; subst hk; simp
    | succ k =>
     have:=ihx k (by simpa using hk)
     cases x <;> simp <;> simp at this <;> omega
  have hk:=key l.toList i (by rw [Array.getElem?_toList]; exact hfl);rw [Array.toList_setIfInBounds]
  omega
theorem Gf {id:Nat} {a:Act} {w:World} (hm:P.follows .mixedOrders=true) (hb:Lm ops=true) (J:Act→Array Bool→Act→World→Prop)
  (h0:J a (Array.replicate ops.size false) a { w with drawn:=w.drawn+1 })
  (hs:∀ l a' w' i o K,l.size=ops.size→J a l a' w'→ops[i]?=some o→l[i]?=some false→(o.after.all fun e=>!Region.binds .any e || l.getD e.on false)=true→(∀ a'' w'',J a (l.setIfInBounds i true) a'' w''→K a'' w'')→wpOp P ops Q i K a' w')
  (he:∀ l a' w',(∀ i,i<ops.size→l[i]?=some true)→J a l a' w'→Q .normal a' w'):(Code.region id ops true).wp P Q a w :=
 wp_region_any hm (Vz hb (J a) hs he ops.size _ a _ (by simp) (by simp) h0)
end
theorem Es {a:Act} {d t:Nat} {v:Value} (h:d≠t):(a.put (some d) v).tmps[t]?.getD undef=a.tmps[t]?.getD undef:=by
 simp [Act.put,h]
theorem Fz {a:Act} {d:Nat} {v:Value} (h:d<a.tmps.size):(a.put (some d) v).tmps[d]?.getD undef=v:=by
 simp [Act.put,h]
theorem size_put {a:Act} {d:Option Nat} {v:Value}:(a.put d v).tmps.size=a.tmps.size:=by cases d <;> simp [Act.put]
theorem Ln {a:Act} {d:Option Nat} {v:Value}:(a.put d v).defers=a.defers:=by cases d <;> rfl
structure Fr (ts:List Nat) (a0 a:Act):Prop where
 defers:a.defers=a0.defers
 size:a.tmps.size=a0.tmps.size
 keep:∀ t,t ∉ ts→a.tmps[t]?.getD undef=a0.tmps[t]?.getD undef
theorem Fr.put {ts:List Nat} {a0 a:Act} (h:Fr ts a0 a) {d:Nat} (hd:d∈ts) (v:Value):Fr ts a0 (a.put (some d) v) :=
 ⟨Ln.trans h.defers,size_put.trans h.size,fun t ht=>(Es (fun e=>ht (by subst e; exact hd))).trans (h.keep t ht)⟩
theorem Fr.get {ts:List Nat} {a0 a:Act} (h:Fr ts a0 a) {t:Nat} {v:Value} (ht:t ∉ ts) (hv:a0.tmps[t]?.getD undef=v):a.tmps[t]?.getD undef=v:=(h.keep t ht).trans hv
theorem Fr.same {ts:List Nat} {a0 a:Act} (h:Fr ts a0 a):a=ts.foldl (fun b t=>b.put (some t) (a.tmps[t]?.getD undef)) a0:=by
 have key:∀ (xs:List Nat) (b:Act),(xs.foldl (fun b t=>b.put (some t) (a.tmps[t]?.getD undef)) b).defers=b.defers∧(xs.foldl (fun b t=>b.put (some t) (a.tmps[t]?.getD undef)) b).tmps.size=b.tmps.size ∧
   (b.tmps.size=a.tmps.size→∀ t,(t∈xs∨b.tmps[t]?.getD undef=a.tmps[t]?.getD undef)→(xs.foldl (fun b t=>b.put (some t) (a.tmps[t]?.getD undef)) b).tmps[t]?.getD undef=a.tmps[t]?.getD undef):=by
  intro xs
  induction xs with
  | nil=>intro b; exact ⟨rfl,rfl,fun _ t ht=>ht.elim (fun h=>absurd h (by simp)) id⟩
  | cons x xs ih =>
   intro b;obtain ⟨i1,i2,i3⟩:=ih (b.put (some x) (a.tmps[x]?.getD undef));refine ⟨i1.trans Ln,i2.trans size_put,fun hs t ht=>i3 (size_put.trans hs) t ?_⟩
   by_cases e:x=t
   ·subst e
    by_cases hx:x<b.tmps.size
    ·exact Or.inr (Fz hx)
    ·right
     simp [Act.put,hx]
     rw [Array.getElem?_eq_none (by omega)]
     rfl
   ·rcases ht with ht | ht
    ·rcases List.mem_cons.1 ht with h' | h'
     ·exact absurd h'.symm e
     ·exact Or.inl h'
    ·exact Or.inr ((Es e).trans ht)
 obtain ⟨k1,k2,k3⟩:=key ts a0
 rcases a with ⟨tm,df⟩
 generalize hF:ts.foldl (fun b t=>b.put (some t) ((Act.mk tm df).tmps[t]?.getD undef)) a0=F at *
 rcases F with ⟨tm',df'⟩
 have e1:df=df':=h.defers.trans k1.symm
 have e2:tm=tm':=by
  apply Array.ext
  ·exact h.size.trans k2.symm
  ·intro i h1 h2
   have:=k3 h.size.symm i (by
    by_cases hm:i∈ts
    ·exact Or.inl hm
    ·exact Or.inr (h.keep i hm).symm)
   simp [h1,h2] at this
   exact this.symm
 rw [e1,e2]
end Go.Proofs.YtgcmimcalmjaaaaGreatDoor
