import Derived.Test.YtgcmimcalmjaaaaGreatDoorT3
import Derived.Orders
import Derived.Deep.DeepCutAuto
namespace Go.Proofs.YtgcmimcalmjaaaaGreatDoor
set_option linter.unusedVariables false
section
variable {P:Program} {ops:Array Oper} {Q:Exit→Act→World→Prop}
theorem Ky {i:Nat} {o:Oper} {K:Act→World→Prop} {a:Act} {w:World} (ho:ops[i]?=some o) (hg:o.guard=none) (h:o.wp P a w K Q):wpOp P ops Q i K a w:=by
 have hw:Region.wanted o (yielded ops a.tmps)=true:=by simp [Region.wanted,hg]
 unfold wpOp;rw [ho];simp only [hw,if_true];exact Or.inl h
def Lm (ops:Array Oper):Bool:=(List.range ops.size).all fun i=>((ops[i]?).map (·.after.all fun e=>!Region.binds .any e || decide (e.on<i))).getD true
theorem Vy (hb:Lm ops=true) {l:Array Bool} (hs:l.size=ops.size) (h:Region.ready .any ops l=[]):∀ i,i<ops.size→l[i]?=some true:=by
 intro i
 induction i using Nat.strongRecOn with
 | ind i ih =>
  intro hi
  rcases hb':l[i]? with _ | b
  ·rw [Array.getElem?_eq_none_iff] at hb'; omega
  ·cases b with
   | true=>rfl
   | false =>
    exfalso
    have hm:i∈Region.ready .any ops l:=by
     unfold Region.ready;rw [List.mem_filter];refine ⟨List.mem_range.2 hi,?_⟩;have ho:ops[i]?=some ops[i]:=Array.getElem?_eq_getElem hi
     have hd:l.getD i true=false:=by rw [Array.getD_eq_getD_getElem?,hb']; rfl
     rw [hd,ho];simp only [Bool.not_false,Bool.true_and,Option.map_some,Option.getD_some];rw [Array.all_eq_true_iff_forall_mem];intro e he;have h1:=List.all_eq_true.1 hb i (List.mem_range.2 hi);rw [ho] at h1;simp only [Option.map_some,Option.getD_some] at h1;have h2:=(Array.all_eq_true_iff_forall_mem.1 h1) e he
     cases hbe:Region.binds .any e with
     | false=>rfl
     | true =>
      rw [hbe] at h2;simp only [Bool.not_true,Bool.false_or,decide_eq_true_eq] at h2;have:=ih e.on h2 (by omega);rw [Array.getD_eq_getD_getElem?,this]
      rfl
    rw [h] at hm;exact absurd hm (by simp)
theorem Vz (hb:Lm ops=true) (J:Array Bool→Act→World→Prop)
  (hs:∀ l a w i o K,l.size=ops.size→J l a w→ops[i]?=some o→l[i]?=some false→(o.after.all fun e=>!Region.binds .any e || l.getD e.on false)=true→(∀ a' w',J (l.setIfInBounds i true) a' w'→K a' w')→wpOp P ops Q i K a w)
  (he:∀ l a w,(∀ i,i<ops.size→l[i]?=some true)→J l a w→Q .normal a w) :
  ∀ (fuel:Nat) (l:Array Bool) (a:Act) (w:World),l.size=ops.size→(l.toList.filter (!·)).length≤fuel→J l a w→wpAny P .any ops Q fuel l a w:=by
 intro fuel
 induction fuel with
 | zero =>
  intro l a w hl hc hj
  have hall:∀ i,i<ops.size→l[i]?=some true:=by
   intro i hi
   rcases hb':l[i]? with _ | b
   ·rw [Array.getElem?_eq_none_iff] at hb'; omega
   ·cases b with
    | true=>rfl
    | false =>
     have hm:false∈l.toList.filter (!·):=List.mem_filter.2 ⟨by rw [Array.mem_toList_iff]; exact Array.mem_of_getElem? hb',rfl⟩;have:=List.length_pos_of_mem hm
     omega
  refine ⟨?_,he l a w hall hj⟩;unfold Region.ready;rw [List.filter_eq_nil_iff];intro i hi;have:=hall i (List.mem_range.1 hi);rw [Array.getD_eq_getD_getElem?,this]
  simp
 | succ fuel ih =>
  intro l a w hl hc hj;refine ⟨fun hr=>he l a w (Vy hb hl hr) hj,fun i hi=>?_⟩;unfold Region.ready at hi;rw [List.mem_filter] at hi;obtain ⟨hi1,hi2⟩:=hi;have hlt:=List.mem_range.1 hi1;have ho:ops[i]?=some ops[i]:=Array.getElem?_eq_getElem hlt;rw [ho] at hi2;simp only [Option.map_some,Option.getD_some,Bool.and_eq_true,Bool.not_eq_true'] at hi2;obtain ⟨hf,ha⟩:=hi2
  have hfl:l[i]?=some false:=by
   rcases hb':l[i]? with _ | b
   ·rw [Array.getElem?_eq_none_iff] at hb'; omega
   ·rw [Array.getD_eq_getD_getElem?,hb'] at hf; simp at hf; rw [hf]
  refine hs l a w i ops[i] _ hl hj ho hfl ha (fun a' w' hj'=>ih _ a' w' (by simp [hl]) ?_ hj')
  have key:∀ (xs:List Bool) (k:Nat),xs[k]?=some false→((xs.set k true).filter (!·)).length+1=(xs.filter (!·)).length:=by
   intro xs
   induction xs with
   | nil=>intro k hk; simp at hk
   | cons x xs ihx =>
    intro k hk
    cases k with
    | zero=>simp at hk; subst hk; simp
    | succ k =>
     have:=ihx k (by simpa using hk)
     cases x <;> simp <;> simp at this <;> omega
  have hk:=key l.toList i (by rw [Array.getElem?_toList]; exact hfl);rw [Array.toList_setIfInBounds]
  omega
theorem Gf {id:Nat} {a:Act} {w:World} (hm:P.follows .mixedOrders=true) (hb:Lm ops=true) (J:Act→Array Bool→Act→World→Prop)
  (h0:J a (Array.replicate ops.size false) a { w with drawn:=w.drawn+1 })
  (hs:∀ l a' w' i o K,l.size=ops.size→J a l a' w'→ops[i]?=some o→l[i]?=some false→(o.after.all fun e=>!Region.binds .any e || l.getD e.on false)=true→(∀ a'' w'',J a (l.setIfInBounds i true) a'' w''→K a'' w'')→wpOp P ops Q i K a' w')
  (he:∀ l a' w',(∀ i,i<ops.size→l[i]?=some true)→J a l a' w'→Q .normal a' w'):(Code.region id ops true).wp P Q a w :=
 wp_region_any hm (Vz hb (J a) hs he ops.size _ a _ (by simp) (by simp) h0)
end
theorem Es {a:Act} {d t:Nat} {v:Value} (h:d≠t):(a.put (some d) v).tmps[t]?.getD undef=a.tmps[t]?.getD undef:=by
 simp [Act.put,h]
theorem Fz {a:Act} {d:Nat} {v:Value} (h:d<a.tmps.size):(a.put (some d) v).tmps[d]?.getD undef=v:=by
 simp [Act.put,h]
theorem size_put {a:Act} {d:Option Nat} {v:Value}:(a.put d v).tmps.size=a.tmps.size:=by cases d <;> simp [Act.put]
theorem Ln {a:Act} {d:Option Nat} {v:Value}:(a.put d v).defers=a.defers:=by cases d <;> rfl
structure Fr (ts:List Nat) (a0 a:Act):Prop where
 defers:a.defers=a0.defers
 size:a.tmps.size=a0.tmps.size
 keep:∀ t,t ∉ ts→a.tmps[t]?.getD undef=a0.tmps[t]?.getD undef
theorem Fr.put {ts:List Nat} {a0 a:Act} (h:Fr ts a0 a) {d:Nat} (hd:d∈ts) (v:Value):Fr ts a0 (a.put (some d) v) :=
 ⟨Ln.trans h.defers,size_put.trans h.size,fun t ht=>(Es (fun e=>ht (by subst e; exact hd))).trans (h.keep t ht)⟩
theorem Fr.get {ts:List Nat} {a0 a:Act} (h:Fr ts a0 a) {t:Nat} {v:Value} (ht:t ∉ ts) (hv:a0.tmps[t]?.getD undef=v):a.tmps[t]?.getD undef=v:=(h.keep t ht).trans hv
theorem Fr.same {ts:List Nat} {a0 a:Act} (h:Fr ts a0 a):a=ts.foldl (fun b t=>b.put (some t) (a.tmps[t]?.getD undef)) a0:=by
 have key:∀ (xs:List Nat) (b:Act),(xs.foldl (fun b t=>b.put (some t) (a.tmps[t]?.getD undef)) b).defers=b.defers∧(xs.foldl (fun b t=>b.put (some t) (a.tmps[t]?.getD undef)) b).tmps.size=b.tmps.size ∧
   (b.tmps.size=a.tmps.size→∀ t,(t∈xs∨b.tmps[t]?.getD undef=a.tmps[t]?.getD undef)→(xs.foldl (fun b t=>b.put (some t) (a.tmps[t]?.getD undef)) b).tmps[t]?.getD undef=a.tmps[t]?.getD undef):=by
  intro xs
  induction xs with
  | nil=>intro b; exact ⟨rfl,rfl,fun _ t ht=>ht.elim (fun h=>absurd h (by simp)) id⟩
  | cons x xs ih =>
   intro b;obtain ⟨i1,i2,i3⟩:=ih (b.put (some x) (a.tmps[x]?.getD undef));refine ⟨i1.trans Ln,i2.trans size_put,fun hs t ht=>i3 (size_put.trans hs) t ?_⟩
   by_cases e:x=t
   ·subst e
    by_cases hx:x<b.tmps.size
    ·exact Or.inr (Fz hx)
    ·right
     simp [Act.put,hx]
     rw [Array.getElem?_eq_none (by omega)]
     rfl
   ·rcases ht with ht | ht
    ·rcases List.mem_cons.1 ht with h' | h'
     ·exact absurd h'.symm e
     ·exact Or.inl h'
    ·exact Or.inr ((Es e).trans ht)
 obtain ⟨k1,k2,k3⟩:=key ts a0
 rcases a with ⟨tm,df⟩
 generalize hF:ts.foldl (fun b t=>b.put (some t) ((Act.mk tm df).tmps[t]?.getD undef)) a0=F at *
 rcases F with ⟨tm',df'⟩
 have e1:df=df':=h.defers.trans k1.symm
 have e2:tm=tm':=by
  apply Array.ext
  ·exact h.size.trans k2.symm
  ·intro i h1 h2
   have:=k3 h.size.symm i (by
    by_cases hm:i∈ts
    ·exact Or.inl hm
    ·exact Or.inr (h.keep i hm).symm)
   simp [h1,h2] at this
   exact this.symm
 rw [e1,e2]
open Go.ChangeShapes Go.WideShapes Go.ChangeAt Go.RowKit
theorem Jcz (w:World) (a:Option Addr) (n cap:Nat) (bank left:Int) (h1:n≤9223372036854775807) (h0:0≤left) (h2:left≤1048576) :
  Calls Tryz.prog 13 #[.agg #[.slice a n cap,.i bank],.i left] w fun e w'=>e=.returned (.i (Db left n))∧Below w.heap.size w w':=by
 have L0:∀ o,Below w.heap.size w (w.alloc o):=fun o=>(Below.refl _ _).alloc (Nat.le_refl _) _
 by_cases h:left<n
 ·have HS:=Ad (B4 h)
  go_enter Tryz.func13,Tryz.ntmps13
  go_wp2_with fail;refine (El _ _ _ _ _ h1 h0 h2).mono ?_;rintro e w1 ⟨rfl,rfl⟩;rw [HS.out];go_wp2;go_ret;exact ⟨Az HS.out.symm,L0 _⟩
 ·have HS:=Ad (Cl (show (n:Int)≤left by omega))
  have hn:¬ (left-(n:Int)<0):=by omega
  go_enter Tryz.func13,Tryz.ntmps13
  go_wp2_with fail;refine (El _ _ _ _ _ h1 h0 h2).mono ?_;rintro e w1 ⟨rfl,rfl⟩;rw [HS.out];go_wp2;go_ret;exact ⟨Az HS.out.symm,L0 _⟩
theorem Jc0 (w:World) (F:Nat→Nat→Prop) (v:Value) (n:Nat) (f:Nat→Int) (bank:Int) (H:Ints .i64 w F v n f) :
  Calls Tryz.prog 21 #[.agg #[v,.i bank]] w fun e w'=>∃ p,w.heap.size≤p∧e=.returned (.agg #[.slice (some ⟨p,0,none⟩) n n,.i bank])∧w'.rowIs p 3 n (fun i=>.i (f i))∧Below w.heap.size w w':=by
 go_enter Tryz.func21,Tryz.ntmps21
 have L0:Below w.heap.size w (((w.alloc (.cells #[v,.i bank] 27)).alloc (.cells mZ 42)).alloc (.cells mZ 42)):=(((Below.refl _ _).alloc (Nat.le_refl _) _).alloc (by simp) _).alloc (by simp; omega) _;go_wp2_with fail;refine (Ld _ F v n f (H.keep (Ab L0 Aj) (fun _ _ _ x=>x))).mono ?_;rintro e w1 ⟨rfl,hrow,hsz,hbel⟩;have c0:w1.cell? ⟨w.heap.size,1,none⟩=some (.i bank):=(hbel.cell (by simp; omega)).trans (by go_simp);have c1:w1.cell? ⟨w.heap.size+1,0,none⟩=some (.slice none 0 0):=(hbel.cell (by simp)).trans (by go_simp);have c2:w1.cell? ⟨w.heap.size+1+1,0,none⟩=some (.slice none 0 0):=(hbel.cell (by simp)).trans (by go_simp);have c3:w1.cell? ⟨w.heap.size+1,1,none⟩=some (.i 0):=(hbel.cell (by simp)).trans (by go_simp);have c4:w1.cell? ⟨w.heap.size+1+1,1,none⟩=some (.i 0):=(hbel.cell (by simp)).trans (by go_simp)
 have f1:∀ j,w1.frozen? ⟨w.heap.size+1,j,none⟩=false:=fun j=>(hbel.frozen (by simp)).trans (by go_simp)
 have f2:∀ j,w1.frozen? ⟨w.heap.size+1+1,j,none⟩=false:=fun j=>(hbel.frozen (by simp)).trans (by go_simp)
 have hbs:(((w.alloc (.cells #[v,.i bank] 27)).alloc (.cells mZ 42)).alloc (.cells mZ 42)).heap.size=w.heap.size+3:=by simp
 rw [hbs] at hrow hsz hbel;rw [hbs];have HR:=Ad hrow;clear hrow hsz;go_wp2;refine bodyPost_ret (v:=.agg #[.slice (some ⟨w.heap.size+3,0,none⟩) n n,.i bank]) (by simp [results,Tryz.results21,go_sem,c1,c3]) rfl ⟨w.heap.size+3,by omega,rfl,?_,?_⟩
 ·exact ((((An HR).setOther (by simp) _).setOther (by simp) _).setOther (by simp) _).setOther (by simp) _
 ·exact ((((L0.trans (hbel.mono (by omega))).setCell (by simp; omega) _).setCell (by simp; omega) _).setCell (by simp) _).setCell (by simp) _
theorem Sz (w:World) (F G:Nat→Nat→Prop) (v u:Value) (n:Nat) (f:Nat→Int) (bank:Int) (H:Ints .i64 w F v n f) (H':Ints .i64 w G u n f) :
  Calls Tryz.prog 32 #[.agg #[v,.i bank],.agg #[u,.i bank]] w fun e w'=>e=.returned (.bool true)∧Below w.heap.size w w':=by
 have L0:Below w.heap.size w ((w.alloc (.cells #[v,.i bank] 42)).alloc (.cells #[u,.i bank] 42)):=((Below.refl _ _).alloc (Nat.le_refl _) _).alloc (by simp) _
 go_enter Tryz.func32,Tryz.ntmps32
 go_wp2_with fail;refine (J8 _ F G _ _ n n f f (H.keep (Ab L0 Aj) (fun _ _ _ x=>x)) (H'.keep (Ab L0 Aj) (fun _ _ _ x=>x))).mono ?_;rintro e w1 ⟨rfl,d,rfl⟩;rw [Eq];go_wp2;go_ret;exact ⟨rfl,L0.trans ⟨rfl,rfl,rfl,Nat.le_refl _,fun _ _=>rfl⟩⟩
theorem Jak (w:World) (a:Option Addr) (n cap:Nat) (f:Nat→Int) (bank k:Int) (H:Be .i64 w a n f) (hfr:Pd w (Da a n)) (k0:0≤k) (k1:k+n≤4611686018427387904) :
  Calls Tryz.prog 40 #[.agg #[.slice a n cap,.i bank],.i k] w fun e w'=>e=.returned (.i (k+n))∧Be .i64 w' a n (fun i=>k+i)∧Wrote (Da a n) w w':=by
 have L0:Below w.heap.size w (w.alloc (.cells #[.slice a n cap,.i bank] 42)):=(Below.refl _ _).alloc (Nat.le_refl _) _
 go_enter Tryz.func40,Tryz.ntmps40
 go_wp2_with fail;refine (Hs _ a n cap f k (H.keep (Ab L0 Aj) (fun _ _ _ x=>x)) (hfr.keep (Ab L0 Aj)) k0 k1).mono ?_;rintro e w1 ⟨rfl,R1,W1,s1⟩;have HW:=Ad ((Ab L0 (Da a n)).trans W1);have HR:=Ad R1;clear R1 W1 s1;go_wp2;go_ret;exact ⟨rfl,An HR,An HW⟩
theorem Jal (w:World) (a:Option Addr) (n cap:Nat) (bank k:Int) (H:Be .i64 w a n (fun i=>k+i)) (k0:0≤k) (k1:k+n≤4611686018427387904) :
  Calls Tryz.prog 45 #[.agg #[.slice a n cap,.i bank],.i k] w fun e w'=>e=.returned (.i (k+n))∧Below w.heap.size w w':=by
 have L0:Below w.heap.size w (w.alloc (.cells #[.slice a n cap,.i bank] 42)):=(Below.refl _ _).alloc (Nat.le_refl _) _
 have hk:¬ (k+(n:Int)<0):=by omega
 go_enter Tryz.func45,Tryz.ntmps45
 go_wp2_with fail;refine (Ht _ a n cap k (H.keep (Ab L0 Aj) (fun _ _ _ x=>x)) k0 k1).mono ?_;rintro e w1 ⟨rfl,rfl⟩;go_wp2;go_ret;exact ⟨rfl,L0⟩
def rgN (a:Int):Int:=if a<8192 then 1 else if a<16384 then 2 else if a<16388 then 3 else if a=16406 then 4 else if a<32768 then 7 else if a<49152 then 5 else 6
def rgP (a:Int):Int:=if a<8192 then a%512 else if a<16384 then a%8 else if a<16388 then a%4 else if a=16406 then 0 else if a<32768 then 0 else a%256
theorem Hb (w:World) (x:Int):Calls Tryz.prog 117 #[.i x] w fun e w'=>e=.returned (.tuple #[.i (rgN (x%65536)),.i (rgP (x%65536))])∧w'=w:=by
 have h0:0≤x%65536:=by omega
 have h1:x%65536<65536:=by omega
 have key:∀ a:Int,0≤a→a<65536→Hid (rgN a=rgN a):=fun a _ _=>rfl
 generalize hx:x%65536=a at *;have HX:=Ad hx;clear hx key
 rcases (by omega:a<8192∨(8192≤a∧a<16384)∨(16384≤a∧a<16388)∨a=16406∨(16388≤a∧a<32768∧a≠16406)∨(32768≤a∧a<49152)∨49152≤a) with h | h | h | h | h | h | h
 ·have HN:Hid (rgN a=1∧rgP a=a%512):=⟨if_pos h,if_pos h⟩
  go_enter Tryz.func117,Tryz.ntmps117
  go_wp2_with fail;refine (Cq _ _).mono ?_;rintro e w1 ⟨rfl,rfl⟩;rw [HX.out];go_wp2;go_ret2;exact ⟨by rw [HN.out.1,HN.out.2]; rfl,rfl⟩
 ·have HN:Hid (rgN a=2∧rgP a=a%8):=by
   show _∧_
   unfold rgN rgP;rw [if_neg (by omega),if_pos (by omega),if_neg (by omega),if_pos (by omega)];exact ⟨rfl,rfl⟩
  have h2:¬ a<8192:=by omega
  have h3:a<16384:=h.2
  go_enter Tryz.func117,Tryz.ntmps117
  go_wp2_with fail;refine (Cq _ _).mono ?_;rintro e w1 ⟨rfl,rfl⟩;rw [HX.out];go_wp2;go_ret2;exact ⟨by rw [HN.out.1,HN.out.2]; rfl,rfl⟩
 ·have HN:Hid (rgN a=3∧rgP a=a%4):=by
   show _∧_
   unfold rgN rgP;rw [if_neg (by omega),if_neg (by omega),if_pos (by omega),if_neg (by omega),if_neg (by omega),if_pos (by omega)];exact ⟨rfl,rfl⟩
  have h2:¬ a<8192:=by omega
  have h3:¬ a<16384:=by omega
  have h4:a<16388:=h.2
  go_enter Tryz.func117,Tryz.ntmps117
  go_wp2_with fail;refine (Cq _ _).mono ?_;rintro e w1 ⟨rfl,rfl⟩;rw [HX.out];go_wp2;go_ret2;exact ⟨by rw [HN.out.1,HN.out.2]; rfl,rfl⟩
 ·have HN:Hid (rgN a=4∧rgP a=0):=by
   show _∧_
   subst h;exact ⟨rfl,rfl⟩
  have h2:¬ a<8192:=by omega
  have h3:¬ a<16384:=by omega
  have h4:¬ a<16388:=by omega
  have h5:(a==16406)=true:=by simpa using h
  clear h
  go_enter Tryz.func117,Tryz.ntmps117
  go_wp2_with fail;refine (Cq _ _).mono ?_;rintro e w1 ⟨rfl,rfl⟩;rw [HX.out];go_wp2;go_ret2;exact ⟨by rw [HN.out.1,HN.out.2]; rfl,rfl⟩
 ·have HN:Hid (rgN a=7∧rgP a=0):=by
   show _∧_
   unfold rgN rgP;rw [if_neg (by omega),if_neg (by omega),if_neg (by omega),if_neg (by omega),if_pos (by omega),if_neg (by omega),if_neg (by omega),if_neg (by omega),if_neg (by omega),if_pos (by omega)];exact ⟨rfl,rfl⟩
  have h2:¬ a<8192:=by omega
  have h3:¬ a<16384:=by omega
  have h4:¬ a<16388:=by omega
  have h5:(a==16406)=false:=by simp; omega
  have h6:a<32768:=h.2.1;clear h
  go_enter Tryz.func117,Tryz.ntmps117
  go_wp2_with fail;refine (Cq _ _).mono ?_;rintro e w1 ⟨rfl,rfl⟩;rw [HX.out];go_wp2;go_ret2;exact ⟨by rw [HN.out.1,HN.out.2]; rfl,rfl⟩
 ·have HN:Hid (rgN a=5∧rgP a=a%256):=by
   show _∧_
   unfold rgN rgP;rw [if_neg (by omega),if_neg (by omega),if_neg (by omega),if_neg (by omega),if_neg (by omega),if_pos (by omega),if_neg (by omega),if_neg (by omega),if_neg (by omega),if_neg (by omega),if_neg (by omega)];exact ⟨rfl,rfl⟩
  have h2:¬ a<8192:=by omega
  have h3:¬ a<16384:=by omega
  have h4:¬ a<16388:=by omega
  have h5:(a==16406)=false:=by simp; omega
  have h6:¬ a<32768:=by omega
  have h7:a<49152:=h.2;clear h
  go_enter Tryz.func117,Tryz.ntmps117
  go_wp2_with fail;refine (Cq _ _).mono ?_;rintro e w1 ⟨rfl,rfl⟩;rw [HX.out];go_wp2;go_ret2;exact ⟨by rw [HN.out.1,HN.out.2]; rfl,rfl⟩
 ·have HN:Hid (rgN a=6∧rgP a=a%256):=by
   show _∧_
   unfold rgN rgP;rw [if_neg (by omega),if_neg (by omega),if_neg (by omega),if_neg (by omega),if_neg (by omega),if_neg (by omega),if_neg (by omega),if_neg (by omega),if_neg (by omega),if_neg (by omega),if_neg (by omega)];exact ⟨rfl,rfl⟩
  have h2:¬ a<8192:=by omega
  have h3:¬ a<16384:=by omega
  have h4:¬ a<16388:=by omega
  have h5:(a==16406)=false:=by simp; omega
  have h6:¬ a<32768:=by omega
  have h7:¬ a<49152:=by omega
  clear h
  go_enter Tryz.func117,Tryz.ntmps117
  go_wp2_with fail;refine (Cq _ _).mono ?_;rintro e w1 ⟨rfl,rfl⟩;rw [HX.out];go_wp2;go_ret2;exact ⟨by rw [HN.out.1,HN.out.2]; rfl,rfl⟩
end Go.Proofs.YtgcmimcalmjaaaaGreatDoor
