import Derived.Test.YtfjieibndedngaaGreatJ2
namespace Go.Proofs.YtfjieibndedngaaGreat
set_option linter.unusedVariables false
open Go.ChangeShapes Go.WideShapes Go.ChangeAt Go.RowKit
theorem V9 (x y:Int) (x0:0≤x) (x1:x≤63) (y0:0≤y) (y1:y≤63):0≤bits .xor .i64 x y∧bits .xor .i64 x y≤63:=by
 have key:∀ a b:Fin 64,0≤bits .xor .i64 ((a.val:Nat):Int) ((b.val:Nat):Int)∧bits .xor .i64 ((a.val:Nat):Int) ((b.val:Nat):Int)≤63:=by decide +kernel
 obtain ⟨a,rfl⟩:∃ a:Nat,x=a:=⟨x.toNat,by omega⟩
 obtain ⟨b,rfl⟩:∃ b:Nat,y=b:=⟨y.toNat,by omega⟩
 exact key ⟨a,by omega⟩ ⟨b,by omega⟩
section
variable {t c s ad pl:Int} {n:Nat} {f:Nat→Int} {m:Nat} {g:Nat→Int}
theorem Tf (h:Gw t c s ad pl n f m g):A6 t c s ad pl n f m g=true :=
 Lf (Cf ⟨h.t0,h.t1⟩) (Cf ⟨h.c0,h.c1⟩) (Cf ⟨h.s0,h.s1⟩) (Cf ⟨h.a0,h.a1⟩) (Cf ⟨h.p0,h.p1⟩) h.n16 h.dots h.tab h.dot
theorem Us (h:Gw t c s ad pl n f m g) (a:Int):0≤Kp f s pl a∧Kp f s pl a≤63:=by
 have h1:=h.tab ((a%8+s+a/8)%16).toNat (by have:=h.n16; omega);exact V9 _ _ h1.1 h1.2 h.p0 h.p1
theorem Oa (h:Gw t c s ad pl n f m g) (reg v:Int):Gw t (Ph true reg v c) (Pi true reg v s) (Pj true reg v ad) (Pk true reg v pl) n (Qx true reg v ad f) m g:=by
 have hc:0≤Ph true reg v c∧Ph true reg v c≤255:=by unfold Ph; split; omega; exact ⟨h.c0,h.c1⟩
 have hs:0≤Pi true reg v s∧Pi true reg v s≤255:=by unfold Pi; split; omega; exact ⟨h.s0,h.s1⟩
 have ha:0≤Pj true reg v ad∧Pj true reg v ad≤15:=by unfold Pj; split; omega; split; omega; exact ⟨h.a0,h.a1⟩
 have hp:0≤Pk true reg v pl∧Pk true reg v pl≤63:=by unfold Pk; split; omega; exact ⟨h.p0,h.p1⟩
 refine ⟨h.t0,h.t1,hc.1,hc.2,hs.1,hs.2,ha.1,ha.2,hp.1,hp.2,h.n16,h.dots,fun j hj=>?_,h.dot⟩;unfold Qx;split
 ·show 0≤(if j=ad.toNat then v%256%64 else f j)∧(if j=ad.toNat then v%256%64 else f j)≤63
  split
  ·omega
  ·exact h.tab j hj
 ·exact h.tab j hj
theorem P4 (h:Gw t c s ad pl n f m g):Gw (Iz t) c s ad pl n f (tkM t m) (N9 t f s pl m g):=by
 have hd:=h.dots;have t0:=h.t0;have t1:=h.t1;unfold Eh at hd
 by_cases e:t=20000
 ·unfold Iz tkM N9
  rw [if_pos e,if_pos e,if_pos e];exact h
 ·have e1:Iz t=t+1:=if_neg e
  have e2:tkM t m=if t%64<48 then m+1 else if t%64=48 then 0 else m:=if_neg e
  have e3:N9 t f s pl m g=if t%64<48 then snoc g m (Kp f s pl (t%64)) else g:=if_neg e
  have hdots:((tkM t m:Nat):Int)=Eh (Iz t):=by
   rw [e1,e2];unfold Eh;split
   ·rename_i a
    rw [if_neg (by omega)] at hd;rw [if_neg (by omega)]
    omega
   ·split
    ·rw [if_pos (by omega)]; rfl
    ·rw [if_pos (by omega)] at hd
     by_cases b:t%64=63
     ·rw [if_neg (by omega)]; omega
     ·rw [if_pos (by omega)]; omega
  refine ⟨by omega,by omega,h.c0,h.c1,h.s0,h.s1,h.a0,h.a1,h.p0,h.p1,h.n16,hdots,h.tab,fun j hj=>?_⟩;rw [e2] at hj;rw [e3];split
  ·rename_i a
   rw [if_pos a] at hj;unfold snoc;split
   ·exact Us h _
   ·exact h.dot j (by omega)
  ·rename_i a
   rw [if_neg a] at hj;split at hj
   ·exact absurd hj (Nat.not_lt_zero _)
   ·exact h.dot j hj
end
set_option maxHeartbeats 1000000
set_option maxRecDepth 20000
def K8 (s:ByteArray) (v:Value):Prop :=
 (∃ (i:Nat) (h:i<s.size),(s[i]'h).toNat=32∧(∀ j (_:j<i) (hl:j<s.size),(s[j]'hl).toNat≠32)∧v=.tuple #[.string (s.extract 0 i),.i (numOf (s.extract (i+1) s.size)),.bool (decide (0≤numOf (s.extract (i+1) s.size)))]) ∨
 ((∀ j (hl:j<s.size),(s[j]'hl).toNat≠32)∧v=.tuple #[.string s,.i (-1),.bool true])
theorem Vh (w:World) (s:ByteArray) (hs:s.size≤1048576):Calls Tryz.prog 82 #[.string s] w fun e w'=>(∃ v,e=.returned v∧K8 s v)∧Below w.heap.size w w':=by
 go_enter Tryz.func82,Tryz.ntmps82
 go_wp2
 go_loop [5] (fun i=>∃ q:Nat,q≤s.size∧i=.i q∧∀ j (_:j<q) (hl:j<s.size),(s[j]'hl).toNat≠32) (fun i=>s.size-(intOf i).toNat)
 case atStart=>exact ⟨0,Nat.zero_le _,rfl,fun j hj=>absurd hj (Nat.not_lt_zero _)⟩
 case round =>
  obtain ⟨q,hq,rfl,hno⟩:=hrel;have HN:=Ad hno;clear hno
  by_cases hlt:q<s.size
  ·have hlt':(q:Int)<(s.size:Int):=by omega
   by_cases h32:(s[q]'hlt).toNat=32
   ·have h32':((((s[q]'hlt).toNat:Nat):Int)==32)=true:=by simp [h32]
    have hex:(s.extract (q+1) s.size).size≤1048576:=by simp; omega
    have H32:=Ad h32;clear h32;go_wp2_with fail;refine (Vz _ _ hex).mono ?_;rintro e w1 ⟨rfl,L1⟩;have HV:Hid (K8 s (.tuple #[.string (s.extract 0 q),.i (numOf (s.extract (q+1) s.size)),.bool (decide (0≤numOf (s.extract (q+1) s.size)))])):=Or.inl ⟨q,hlt,Ab H32,Ab HN,rfl⟩;generalize numOf (s.extract (q+1) s.size)=z at *;go_wp2;refine bodyPost_ret (results_tmp3 rfl _ _ _) rfl ?_;exact ⟨⟨_,rfl,HV.out⟩,L1⟩
   ·have h32':((((s[q]'hlt).toNat:Nat):Int)==32)=false:=by simp; omega
    have hno2:∀ j (_:j<q+1) (hl:j<s.size),(s[j]'hl).toNat≠32:=fun j hj hl=>by
     by_cases e:j=q
     ·subst e; exact h32
     ·exact Ab HN j (by omega) hl
    have HN2:=Ad hno2;clear h32 hno2;go_wp2
    go_round
    case rel=>exact ⟨q+1,by omega,by go_num,Ab HN2⟩
    case measure=>simp [intOf]; omega
  ·have hlt':¬ (q:Int)<(s.size:Int):=by omega
   have HV:Hid (K8 s (.tuple #[.string s,.i (-1),.bool true])):=Or.inr ⟨fun j hl=>Ab HN j (by omega) hl,rfl⟩;go_wp2;refine bodyPost_ret (results_tmp3 rfl _ _ _) rfl ?_;exact ⟨⟨_,rfl,HV.out⟩,Below.refl _ _⟩
def V0:List UInt8:=[97,116]
def Nq:List UInt8:=[98,121,116,101]
theorem It (s:ByteArray):-1≤numOf s∧numOf s≤99999:=by
 unfold numOf;split
 ·omega
 ·rename_i h
  split
  ·omega
  ·rename_i h2
   split
   ·have hl:s.data.toList.length=s.size:=rfl
    have h3:=U9 s.data.toList s.data.toList.length (fun j _ hl=>by
     have:s.data.toList.all E3=true:=by simpa using h2
     exact List.all_eq_true.1 this _ (List.getElem_mem hl))
    rw [Ss] at h3;have h4:G5 s.data.toList<100000:=Nat.lt_of_lt_of_le h3 (Nat.pow_le_pow_right (by omega) (show s.data.toList.length≤5 by omega))
    omega
   ·omega
theorem Pt {s:ByteArray} {v:Value} (h:K8 s v):∃ wd n k,v=.tuple #[.string wd,.i n,.bool k]∧-1≤n∧n≤99999:=by
 rcases h with ⟨i,hi,_,_,rfl⟩ | ⟨_,rfl⟩
 ·exact ⟨_,_,_,rfl,(It _).1,(It _).2⟩
 ·exact ⟨_,_,_,rfl,by omega,by omega⟩
def Fc (wd:ByteArray) (n:Int) (k:Bool) (L:List Int) (tq:Int) (ok:Bool):Prop :=
 (k=false∧L=[]∧tq=-1∧ok=false) ∨
 (k=true∧wd.toList=V0∧L=[]∧ok=Cw n 0 255∧tq=if Cw n 0 255 then n else -1) ∨
 (k=true∧wd.toList=Nq∧ok=Cw n 0 255∧tq=-1∧L=if Cw n 0 255 then [n] else []) ∨
 (k=true∧¬ wd.toList=V0∧¬ wd.toList=Nq∧tq=-1∧∃ r,Ve wd r∧((r=-1∧L=[]∧ok=false)∨(0≤r∧((Dd.getD r.toNat 1=1∧L=[r]∧ok=decide (n<0))∨(Dd.getD r.toNat 1=2∧L=[r,n%256]∧ok=Cw n 0 255)∨(Dd.getD r.toNat 1=3∧L=[r,n%256,n/256%256]∧ok=Cw n 0 65535)))))
theorem Su {w:World} {lo g:Nat} (L:List Int) (hb:w.heap[g]?=some (.cells (L.map (Value.int .i64)).toArray 3 (0,0))) (hg:lo≤g) (hn:L.length≤1048576):Au w lo (.slice (some ⟨g,0,none⟩) L.length L.length) L.length (fun i=>L.getD i 0):=by
 have e:(L.map (Value.int .i64)).toArray=(rowVals L.length (fun i=>L.getD i 0)).toArray:=by
  congr 1
  apply List.ext_getElem?
  intro j
  by_cases hj:j<L.length
  ·rw [B4 _ _ _ hj]
   simp [hj]
  ·rw [List.getElem?_eq_none (by simp; omega),List.getElem?_eq_none (by rw [Bi]; omega)]
 rw [e] at hb;exact Q7 hb hg hn
theorem Ek (W:World) (lo:Nat) (L:List Int) (h:lo≤W.heap.size) (hn:L.length≤1048576):Au (W.alloc (.cells (L.map (Value.int .i64)).toArray 3)) lo (.slice (some ⟨W.heap.size,0,none⟩) L.length L.length) L.length (fun i=>L.getD i 0) :=
 Su L (by show (W.heap.push _)[W.heap.size]?=_; simp) h hn
theorem Mc (i:Nat) (h:i<30):Dd.getD i 1=1∨Dd.getD i 1=2∨Dd.getD i 1=3:=by
 have:∀ j:Fin 30,Dd.getD j.val 1=1∨Dd.getD j.val 1=2∨Dd.getD j.val 1=3:=by decide
 exact this ⟨i,h⟩
theorem Qt (w:World) (s:ByteArray) (hs:s.size≤1048576):Calls Tryz.prog 69 #[.string s] w fun e w'=>(∃ v L tq ok,e=.returned (.tuple #[v,.i tq,.bool ok])∧Au w' w.heap.size v L.length (fun i=>L.getD i 0)∧∃ wd n k,K8 s (.tuple #[.string wd,.i n,.bool k])∧Fc wd n k L tq ok)∧Below w.heap.size w w':=by
 go_enter Tryz.func69,Tryz.ntmps69
 go_wp2_with fail;refine (Vh _ _ hs).mono ?_;rintro e w1 ⟨⟨v,rfl,hv⟩,L1⟩;obtain ⟨wd,n,k,rfl,hn0,hn1⟩:=Pt hv;have HV:=Ad hv;clear hv;cases k
 ·go_wp2
  go_ret3
  exact ⟨⟨_,[],_,_,rfl,Ek _ _ [] (L1.size) (by simp),wd,n,_,Ab HV,Or.inl ⟨rfl,rfl,rfl,rfl⟩⟩,(L1).alloc (L1.size) _⟩
 ·by_cases hat:wd.toList=V0
  ·have hat':(wd.toList==[97,116])=true:=by simpa [V0] using hat
   cases hin:Cw n 0 255
   ·have HW:Hid (Fc wd n true [] (-1) false):=Or.inr (Or.inl ⟨rfl,hat,rfl,hin.symm,by rw [hin]; rfl⟩)
    clear hat;go_wp2_with fail;refine (Dy _ _ _ _).mono ?_;rintro e wx ⟨rfl,rfl⟩;rw [hin];go_wp2
    go_ret3
    exact ⟨⟨_,[],_,_,rfl,Ek _ _ [] (L1.size) (by simp),wd,n,_,Ab HV,HW.out⟩,(L1).alloc (L1.size) _⟩
   ·have HW:Hid (Fc wd n true [] n true):=Or.inr (Or.inl ⟨rfl,hat,rfl,hin.symm,by rw [hin]; rfl⟩)
    clear hat;go_wp2_with fail;refine (Dy _ _ _ _).mono ?_;rintro e wx ⟨rfl,rfl⟩;rw [hin];go_wp2
    go_ret3
    exact ⟨⟨_,[],_,_,rfl,Ek _ _ [] (L1.size) (by simp),wd,n,_,Ab HV,HW.out⟩,(L1).alloc (L1.size) _⟩
  ·have hat':(wd.toList==[97,116])=false:=by simpa [V0] using hat
   by_cases hby:wd.toList=Nq
   ·have hby':(wd.toList==[98,121,116,101])=true:=by simpa [Nq] using hby
    cases hin:Cw n 0 255
    ·have HW:Hid (Fc wd n true [] (-1) false):=Or.inr (Or.inr (Or.inl ⟨rfl,hby,hin.symm,rfl,by rw [hin]; rfl⟩))
     clear hat hby;go_wp2_with fail;refine (Dy _ _ _ _).mono ?_;rintro e wx ⟨rfl,rfl⟩;rw [hin];go_wp2
     go_ret3
     exact ⟨⟨_,[],_,_,rfl,Ek _ _ [] (L1.size) (by simp),wd,n,_,Ab HV,HW.out⟩,(L1).alloc (L1.size) _⟩
    ·have HW:Hid (Fc wd n true [n] (-1) true):=Or.inr (Or.inr (Or.inl ⟨rfl,hby,hin.symm,rfl,by rw [hin]; rfl⟩))
     clear hat hby;go_wp2_with fail;refine (Dy _ _ _ _).mono ?_;rintro e wx ⟨rfl,rfl⟩;rw [hin];go_wp2
     go_ret3
     exact ⟨⟨_,[n],_,_,rfl,Ek _ _ [n] (L1.size) (by simp),wd,n,_,Ab HV,HW.out⟩,(L1).alloc (L1.size) _⟩
   ·have hby':(wd.toList==[98,121,116,101])=false:=by simpa [Nq] using hby
    have HA:=Ad hat;have HB:=Ad hby;clear hat hby;go_wp2_with fail;refine (Sq _ _).mono ?_;rintro e w2 ⟨⟨r,rfl,hr⟩,L2'⟩;have L2:=L1.trans (L2'.mono L1.size);clear L2';have HR:=Ad hr
    rcases hr with ⟨i,hi,rfl,-⟩ | ⟨rfl,-⟩
    ·have hi0:¬ ((i:Int)<0):=by omega
     have hl0:(if 0≤(i:Int)∧(i:Int)≤29 then Dd.getD (i:Int).toNat 1 else 1)=Dd.getD i 1:=by rw [if_pos (by omega),Int.toNat_natCast]
     have HL:=Ad hl0;clear hl0;go_wp2_with fail;refine (Ig _ _).mono ?_;rintro e w3 ⟨rfl,L3'⟩;have L3:=L2.trans (L3'.mono L2.size);clear L3';rw [Ab HL]
     rcases Mc i hi with h1 | h2 | h3
     ·have HW:Hid (Fc wd n true [(i:Int)] (-1) (decide (n<0))):=Or.inr (Or.inr (Or.inr ⟨rfl,Ab HA,Ab HB,rfl,_,Ab HR,Or.inr ⟨by omega,Or.inl ⟨by simpa using h1,rfl,rfl⟩⟩⟩))
      rw [h1];clear h1;go_wp2
      go_ret3
      exact ⟨⟨_,[(i:Int)],_,_,rfl,Ek _ _ [(i:Int)] (L3.size) (by simp),wd,n,_,Ab HV,HW.out⟩,(L3).alloc (L3.size) _⟩
     ·have HW:Hid (Fc wd n true [(i:Int),n%256] (-1) (Cw n 0 255)):=Or.inr (Or.inr (Or.inr ⟨rfl,Ab HA,Ab HB,rfl,_,Ab HR,Or.inr ⟨by omega,Or.inr (Or.inl ⟨by simpa using h2,rfl,rfl⟩)⟩⟩))
      rw [h2];clear h2;go_wp2_with (first | (go_at_call 70; refine (Ba _ _).mono ?_; rintro e wx ⟨rfl,rfl⟩) | (go_at_call 51; refine (Dy _ _ _ _).mono ?_; rintro e wx ⟨rfl,rfl⟩))
      go_ret3
      exact ⟨⟨_,[(i:Int),n%256],_,_,rfl,Ek _ _ [(i:Int),n%256] (L3.size) (by simp),wd,n,_,Ab HV,HW.out⟩,(L3).alloc (L3.size) _⟩
     ·have HW:Hid (Fc wd n true [(i:Int),n%256,n/256%256] (-1) (Cw n 0 65535)):=Or.inr (Or.inr (Or.inr ⟨rfl,Ab HA,Ab HB,rfl,_,Ab HR,Or.inr ⟨by omega,Or.inr (Or.inr ⟨by simpa using h3,rfl,rfl⟩)⟩⟩))
      rw [h3];clear h3;go_wp2_with (first | (go_at_call 70; refine (Ba _ _).mono ?_; rintro e wx ⟨rfl,rfl⟩) | (go_at_call 51; refine (Dy _ _ _ _).mono ?_; rintro e wx ⟨rfl,rfl⟩))
      go_ret3
      exact ⟨⟨_,[(i:Int),n%256,n/256%256],_,_,rfl,Ek _ _ [(i:Int),n%256,n/256%256] (L3.size) (by simp),wd,n,_,Ab HV,HW.out⟩,(L3).alloc (L3.size) _⟩
    ·have HW:Hid (Fc wd n true [] (-1) false):=Or.inr (Or.inr (Or.inr ⟨rfl,Ab HA,Ab HB,rfl,_,Ab HR,Or.inl ⟨rfl,rfl,rfl⟩⟩))
     go_wp2
     go_ret3
     exact ⟨⟨_,[],_,_,rfl,Ek _ _ [] (L2.size) (by simp),wd,n,_,Ab HV,HW.out⟩,(L2).alloc (L2.size) _⟩
end Go.Proofs.YtfjieibndedngaaGreat
