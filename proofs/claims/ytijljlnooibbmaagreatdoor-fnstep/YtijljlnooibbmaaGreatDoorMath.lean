import Derived.Test.YtijljlnooibbmaaGreatDoorZA0
import Derived.Laws.BitsLemmas
import Derived.Laws.BitsAllLaws
import Derived.ProofKit
import Derived.Below
import Derived.OpenShut
import Derived.Laws.Rows
import Derived.Laws.OwnMore
import Derived.Deep.QuietTactic
import Derived.BigQuiet
import Derived.WalkSpells
import Derived.Outline
import Derived.OwnWalk
import Derived.Deep.OwnRows
namespace Go.Proofs.YtijljlnooibbmaaGreatDoor
theorem Tq (n:Int) (m k:Nat) (hk:k<63) (hm:(BitVec.ofInt 64 (m:Int)).toNat=2 ^ k-1):bits .and .i64 n (m:Int)=n%((2 ^ k:Nat):Int):=by
 have key:(BitVec.ofInt 64 n &&& BitVec.ofInt 64 (m:Int)).toNat=(n%((2 ^ 64:Nat):Int)).toNat%2 ^ k:=by
  rw [BitVec.toNat_and,BitVec.toNat_ofInt,hm,Nat.and_two_pow_sub_one_eq_mod]
 show IntKind.i64.wrap ((BitVec.ofInt 64 n &&& BitVec.ofInt 64 (m:Int)).toNat:Nat)=_
 rw [key,IntKind.wrap_i64];have hp:(0:Nat)<2 ^ k:=Nat.two_pow_pos k;have hle:2 ^ k<=4611686018427387904:=Nat.le_trans (Nat.pow_le_pow_right (by omega:2>0) (by omega:k<=62)) (by decide);have hd:(2:Nat) ^ k ∣ 2 ^ 64:=Nat.pow_dvd_pow 2 (by omega);have h0:0<=n%((2 ^ 64:Nat):Int):=Int.emod_nonneg _ (by decide)
 have e1:(((n%((2 ^ 64:Nat):Int)).toNat%2 ^ k:Nat):Int)=n%((2 ^ k:Nat):Int):=by
  rw [Int.natCast_emod,Int.toNat_of_nonneg h0];exact Int.emod_emod_of_dvd n (Int.natCast_dvd_natCast.2 hd)
 rw [e1];clear e1 hd h0 key hm;generalize 2 ^ k=K at *;have b0:0<=n%(K:Int):=Int.emod_nonneg _ (by omega);have b1:n%(K:Int)<(K:Int):=Int.emod_lt_of_pos _ (by omega)
 omega
theorem Nk (n:Int):bits .and .i64 n 255=n%256:=Tq n 255 8 (by omega) (by decide)
theorem Ra (n:Int):bits .and .i64 n 65535=n%65536:=Tq n 65535 16 (by omega) (by decide)
theorem A5 {k:IntKind} {a b:Int} (h:a=b):Ending.returned (.int k a)=.returned (.int k b):=by rw [h]
theorem Ap {a b:Bool} (h:a=b):Ending.returned (.bool a)=.returned (.bool b):=by rw [h]
theorem D8 {a b c d:Value} (h:a=b) (g:c=d):Ending.returned (.tuple #[a,c])=.returned (.tuple #[b,d]):=by rw [h,g]
theorem Jfe (b:Int) (b0:0<=b) (b1:b<256):bits .xor .u8 IntKind.u8.max b=255-b:=by
 obtain ⟨n,rfl⟩:=Int.eq_ofNat_of_zero_le b0
 have h:∀ k:Fin 256,bits .xor .u8 IntKind.u8.max ((k.val:Nat):Int)=255-((k.val:Nat):Int):=by decide +kernel
 exact h ⟨n,by omega⟩
theorem Jbl (a b:Int) (a0:0<=a) (a1:a<256) (b0:0<=b) (b1:b<256):bits .or .u16 a (b*256)=a+256*b:=by
 rw [u16_or a (b*256) a0 (by omega) (by omega) (by omega),Nat.or_comm,nat_join 8 _ _ (by omega) (by omega)]
 omega
def Av (b:Bool):Int:=if b then 1 else 0
open Go.ChangeShapes Go.WideShapes Go.ChangeAt Go.RowKit
theorem Ac {p:Prop} (h:p):Hid p:=h
theorem Ae {p:Prop} (h:Hid p):p:=h
structure Wrote (R:Nat->Nat->Prop) (w w':World):Prop where
 os:w'.os=w.os
 tape:w'.tape=w.tape
 output:w'.output=w.output
 size:w.heap.size<=w'.heap.size
 block:∀ k,k<w.heap.size->(∀ o,¬ R k o)->w'.heap[k]?=w.heap[k]?
 cell:∀ b o,b<w.heap.size->¬ R b o->w'.cell? ⟨b,o,none⟩=w.cell? ⟨b,o,none⟩
 frozen:∀ b o,b<w.heap.size->w'.frozen? ⟨b,o,none⟩=w.frozen? ⟨b,o,none⟩
abbrev Aj:Nat->Nat->Prop:=fun _ _=>False
theorem Wrote.refl (R:Nat->Nat->Prop) (w:World):Wrote R w w:=⟨rfl,rfl,rfl,Nat.le_refl _,fun _ _ _=>rfl,fun _ _ _ _=>rfl,fun _ _ _=>rfl⟩
theorem Hk {R:Nat->Nat->Prop} {W:World} {Φ:Value->World->Prop} {K:Act->World->Prop} {a:Act} {d:Option Nat} (hK:∀ v W',Wrote R W W'->Φ v W'->K (a.put d v) W') {v:Value} (h:Φ v W):K (a.put d v) W:=hK v W (Wrote.refl _ _) h
theorem Wrote.trans {R:Nat->Nat->Prop} {u v w:World} (h:Wrote R u v) (k:Wrote R v w):Wrote R u w :=
 ⟨k.os.trans h.os,k.tape.trans h.tape,k.output.trans h.output,Nat.le_trans h.size k.size,
  fun i hi hr=>(k.block i (Nat.lt_of_lt_of_le hi h.size) hr).trans (h.block i hi hr),
  fun b o hb hr=>(k.cell b o (Nat.lt_of_lt_of_le hb h.size) hr).trans (h.cell b o hb hr),
  fun b o hb=>(k.frozen b o (Nat.lt_of_lt_of_le hb h.size)).trans (h.frozen b o hb)⟩
theorem Wrote.mono {R S:Nat->Nat->Prop} {w w':World} (h:Wrote R w w') (hs:∀ b o,b<w.heap.size->R b o->S b o):Wrote S w w' :=
 ⟨h.os,h.tape,h.output,h.size,fun k hk hr=>h.block k hk (fun o ho=>hr o (hs k o hk ho)),fun b o hb hr=>h.cell b o hb (fun ho=>hr (hs b o hb ho)),h.frozen⟩
theorem Aa {w w':World} (h:Below w.heap.size w w') (R:Nat->Nat->Prop):Wrote R w w' :=
 ⟨h.os,h.tape,h.output,h.size,fun k hk _=>h.block k hk,fun _ _ hb _=>h.cell hb,fun _ _ hb=>h.frozen hb⟩
theorem Wrote.below {R:Nat->Nat->Prop} {w w':World} {B:Nat} (h:Wrote R w w') (hB:B<=w.heap.size) (hr:∀ b o,b<B->¬ R b o):Below B w w' :=
 ⟨h.os,h.tape,h.output,h.size,fun k hk=>h.block k (by omega) (fun o=>hr k o hk)⟩
theorem Wrote.drewN {R:Nat->Nat->Prop} {u w:World} (h:Wrote R u w) (n:Nat):Wrote R u (w.drewN n):=⟨h.os,h.tape,h.output,h.size,h.block,h.cell,h.frozen⟩
theorem Wrote.drew {R:Nat->Nat->Prop} {u w:World} (h:Wrote R u w):Wrote R u w.drew:=⟨h.os,h.tape,h.output,h.size,h.block,h.cell,h.frozen⟩
theorem Wrote.alloc {R:Nat->Nat->Prop} {u w:World} (h:Wrote R u w) (o:Obj):Wrote R u (w.alloc o) :=
 h.trans (Aa ((Below.refl _ _).alloc (Nat.le_refl _) o) R)
theorem Wrote.setCell {R:Nat->Nat->Prop} {u w:World} (h:Wrote R u w) {b o:Nat} (hr:b<u.heap.size->R b o) (x:Value):Wrote R u (w.setCell ⟨b,o,none⟩ x):=by
 refine ⟨h.os,h.tape,h.output,by simpa [World.setCell] using h.size,fun k hk hn=>?_,fun b' o' hb hn=>?_,fun b' o' hb=>?_⟩
 .rw [Below.heap_setCell _ _ _ _ (by rintro rfl; exact hn o (hr hk))]
  exact h.block k hk hn
 .have e:(⟨b,o,none⟩:Addr)≠⟨b',o',none⟩:=by
   intro e;simp only [Addr.mk.injEq,and_true] at e;obtain ⟨rfl,rfl⟩:=e;exact hn (hr hb)
  exact (World.cell?_setCell_other _ _ _ _ e).trans (h.cell b' o' hb hn)
 .rw [World.frozen?_setCell]
  exact h.frozen b' o' hb
theorem Wz {u w:World} {b:Nat} (o:Nat) (h:Wrote (fun b' _=>b'=b) u w) (x:Value):Wrote (fun b' _=>b'=b) u (w.setCell ⟨b,o,none⟩ x):=h.setCell (fun _=>rfl) x
def Cz (a:Option Addr) (n:Nat):Nat->Nat->Prop:=fun b o=>∃ off,a=some ⟨b,off,none⟩/\off<=o/\o<off+n
def Cg (k:IntKind) (w:World) (a:Option Addr) (n:Nat) (f:Nat->Int):Prop :=
 ∀ i,i<n->∃ b off,a=some ⟨b,off,none⟩/\w.cell? ⟨b,off+i,none⟩=some (.int k (f i))
def Mb (w:World) (F:Nat->Nat->Prop):Prop:=∀ b o,F b o->b<w.heap.size/\w.frozen? ⟨b,o,none⟩=false
theorem Cc {b off n i:Nat} (hi:i<n):Cz (some ⟨b,off,none⟩) n b (off+i):=⟨off,rfl,by omega,by omega⟩
theorem Cg.keep {k:IntKind} {w w':World} {R:Nat->Nat->Prop} {a:Option Addr} {n:Nat} {f:Nat->Int} (h:Cg k w a n f) (hw:Wrote R w w') (hd:∀ b o,Cz a n b o->¬ R b o):Cg k w' a n f:=fun i hi=>by
 obtain ⟨b,off,rfl,hcell⟩:=h i hi;exact ⟨b,off,rfl,by rw [hw.cell b (off+i) (block_lt_of_cell hcell) (hd _ _ (Cc hi))]; exact hcell⟩
theorem Cg.congr {k:IntKind} {w:World} {a:Option Addr} {n:Nat} {f g:Nat->Int} (h:Cg k w a n f) (e:∀ i,i<n->f i=g i):Cg k w a n g:=fun i hi=>by
 obtain ⟨b,off,ha,hcell⟩:=h i hi;exact ⟨b,off,ha,by rw [hcell,e i hi]⟩
theorem Cg.lt {k:IntKind} {w:World} {a:Option Addr} {n:Nat} {f:Nat->Int} (h:Cg k w a n f) {b o:Nat} (hf:Cz a n b o):b<w.heap.size:=by
 obtain ⟨off,rfl,h1,h2⟩:=hf;obtain ⟨b',off',e,hcell⟩:=h (o-off) (by omega);simp only [Option.some.injEq,Addr.mk.injEq,and_true] at e;obtain ⟨rfl,rfl⟩:=e;exact block_lt_of_cell hcell
theorem Mb.keep {w w':World} {R F:Nat->Nat->Prop} (h:Mb w F) (hw:Wrote R w w'):Mb w' F:=fun b o hb =>
 ⟨Nat.lt_of_lt_of_le (h b o hb).1 hw.size,(hw.frozen b o (h b o hb).1).trans (h b o hb).2⟩
def Ints (k:IntKind) (w:World) (F:Nat->Nat->Prop) (v:Value) (n:Nat) (f:Nat->Int):Prop :=
 ∃ a cap,v=.slice a n cap/\n<=1048576/\Cg k w a n f/\∀ b o,Cz a n b o->F b o
theorem Ints.keep {k:IntKind} {w w':World} {R F:Nat->Nat->Prop} {v:Value} {n:Nat} {f:Nat->Int} (h:Ints k w F v n f) (hw:Wrote R w w') (hd:∀ b o,F b o->¬ R b o):Ints k w' F v n f:=by
 obtain ⟨a,cap,hv,hn,hc,hF⟩:=h;exact ⟨a,cap,hv,hn,hc.keep hw (fun b o h=>hd b o (hF b o h)),hF⟩
theorem Ints.mono {k:IntKind} {w:World} {F G:Nat->Nat->Prop} {v:Value} {n:Nat} {f:Nat->Int} (h:Ints k w F v n f) (hd:∀ b o,b<w.heap.size->F b o->G b o):Ints k w G v n f:=by
 obtain ⟨a,cap,hv,hn,hc,hF⟩:=h;exact ⟨a,cap,hv,hn,hc,fun b o h=>hd b o (hc.lt h) (hF b o h)⟩
theorem Ints.congr {k:IntKind} {w:World} {F:Nat->Nat->Prop} {v:Value} {n:Nat} {f g:Nat->Int} (h:Ints k w F v n f) (e:∀ i,i<n->f i=g i):Ints k w F v n g:=by
 obtain ⟨a,cap,hv,hn,hc,hF⟩:=h;exact ⟨a,cap,hv,hn,hc.congr e,hF⟩
def Bg (k:IntKind) (w:World) (F:Nat->Nat->Prop) (v:Value) (m:Nat) (ln:Nat->Nat) (f:Nat->Nat->Int):Prop :=
 ∃ a cap,v=.slice a m cap/\m<=1048576/\(∀ b o,Cz a m b o->F b o)/\∀ i,i<m->∃ b off u,a=some ⟨b,off,none⟩/\w.cell? ⟨b,off+i,none⟩=some u/\Ints k w F u (ln i) (f i)
theorem Bg.keep {k:IntKind} {w w':World} {R F:Nat->Nat->Prop} {v:Value} {m:Nat} {ln:Nat->Nat} {f:Nat->Nat->Int} (h:Bg k w F v m ln f) (hw:Wrote R w w') (hd:∀ b o,F b o->¬ R b o):Bg k w' F v m ln f:=by
 obtain ⟨a,cap,hv,hn,hF,hc⟩:=h;refine ⟨a,cap,hv,hn,hF,fun i hi=>?_⟩;obtain ⟨b,off,u,rfl,hcell,hu⟩:=hc i hi;exact ⟨b,off,u,rfl,by rw [hw.cell b (off+i) (block_lt_of_cell hcell) (hd _ _ (hF _ _ (Cc hi)))]; exact hcell,hu.keep hw hd⟩
theorem Bg.mono {k:IntKind} {w:World} {F G:Nat->Nat->Prop} {v:Value} {m:Nat} {ln:Nat->Nat} {f:Nat->Nat->Int} (h:Bg k w F v m ln f) (hd:∀ b o,b<w.heap.size->F b o->G b o):Bg k w G v m ln f:=by
 obtain ⟨a,cap,hv,hn,hF,hc⟩:=h;refine ⟨a,cap,hv,hn,fun b o h=>?_,fun i hi=>?_⟩
 .obtain ⟨off,rfl,h1,h2⟩:=id h
  obtain ⟨b',off',u,e,hcell,_⟩:=hc (o-off) (by omega);simp only [Option.some.injEq,Addr.mk.injEq,and_true] at e;obtain ⟨rfl,rfl⟩:=e;exact hd b o (block_lt_of_cell hcell) (hF b o h)
 .obtain ⟨b,off,u,ha,hcell,hu⟩:=hc i hi
  exact ⟨b,off,u,ha,hcell,hu.mono hd⟩
def Dw (ln:Nat->Nat):Nat->Nat
 | 0=>0
 | i+1=>Dw ln i+ln i
theorem Zg (ln:Nat->Nat) {i j:Nat} (h:i<=j):Dw ln i<=Dw ln j:=by
 induction j with
 | zero=>simp at h; subst h; exact Nat.le_refl _
 | succ j ih =>
  by_cases e:i=j+1
  .subst e; exact Nat.le_refl _
  .exact Nat.le_trans (ih (by omega)) (Nat.le_add_right _ _)
open Go.Proofs.Tryz
theorem Bo (x:Int) (w:World):Calls prog 128 #[.i x] w fun e w'=>e=.returned (.i (x%256))/\w'=w:=by
 go_enter func128,ntmps128
 go_wp2;go_ret;exact ⟨A5 (Nk x),rfl⟩
theorem Ct (x:Int) (w:World):Calls prog 62 #[.i x] w fun e w'=>e=.returned (.i (x%256))/\w'=w:=by
 go_enter func62,ntmps62
 go_wp2;go_ret;exact ⟨rfl,rfl⟩
theorem Cv (x:Int) (w:World):Calls prog 127 #[.i x] w fun e w'=>e=.returned (.i (x%65536))/\w'=w:=by
 go_enter func127,ntmps127
 go_wp2;go_ret;exact ⟨A5 (Ra x),rfl⟩
theorem Hj (x:Int) (w:World):Calls prog 63 #[.i x] w fun e w'=>e=.returned (.i (x%65536))/\w'=w:=by
 go_enter func63,ntmps63
 go_wp2;go_ret;exact ⟨A5 (by rw [IntKind.wrap_u16]; exact IntWalk.wrap64_in _ (by omega)),rfl⟩
theorem Tr (b:Bool) (w:World):Calls prog 166 #[.bool b] w fun e w'=>e=.returned (.i (Av b))/\w'=w:=by
 cases b <;> (go_enter func166,ntmps166; go_wp2; go_ret; exact ⟨rfl,rfl⟩)
theorem Jbm (a b:Int) (c:Bool) (w:World):Calls prog 213 #[.i a,.i b,.bool c] w fun e w'=>e=.returned (.tuple #[.i ((a%256+b%256+Av c)%256),.bool (decide (255<a%256+b%256+Av c))])/\w'=w:=by
 have hc:0<=Av c/\Av c<=1:=by cases c <;> simp [Av]
 go_enter func213,ntmps213
 go_wp2_with (first | (go_at_call 128; refine (Bo _ _).mono ?_; rintro e w' ⟨rfl,rfl⟩) | (go_at_call 166; refine (Tr _ _).mono ?_; rintro e w' ⟨rfl,rfl⟩));go_ret2;exact ⟨D8 rfl rfl,rfl⟩
theorem Jbn (a b:Int) (c:Bool) (w:World):Calls prog 169 #[.i a,.i b,.bool c] w fun e w'=>e=.returned (.tuple #[.i ((a%256-b%256-1+Av c)%256),.bool (decide (0<=a%256-b%256-1+Av c))])/\w'=w:=by
 have hc:0<=Av c/\Av c<=1:=by cases c <;> simp [Av]
 go_enter func169,ntmps169
 go_wp2_with (first | (go_at_call 128; refine (Bo _ _).mono ?_; rintro e w' ⟨rfl,rfl⟩) | (go_at_call 166; refine (Tr _ _).mono ?_; rintro e w' ⟨rfl,rfl⟩));go_ret2;exact ⟨D8 rfl rfl,rfl⟩
theorem Yp (a b:Int) (c:Bool) (w:World) (a0:0<=a) (a1:a<256) (b0:0<=b) (b1:b<256):Calls prog 239 #[.int .u8 a,.int .u8 b,.bool c] w fun e w'=>e=.returned (.tuple #[.int .u8 ((a+b+Av c)%256),.int .u8 (Av (decide (255<a+b+Av c)))])/\w'=w:=by
 cases c
 .by_cases h:255<a+b
  .go_enter func239,ntmps239
   go_wp2;go_ret2;exact ⟨D8 (congrArg (Value.int .u8) (by simp only [Av]; simp; try omega)) (by simp [Av,h]),rfl⟩
  .go_enter func239,ntmps239
   go_wp2;go_ret2;exact ⟨D8 (congrArg (Value.int .u8) (by simp only [Av]; simp; try omega)) (by simp [Av,h]),rfl⟩
 .by_cases h:255<a+b+1
  .go_enter func239,ntmps239
   go_wp2;go_ret2;exact ⟨D8 (congrArg (Value.int .u8) (by simp only [Av]; simp; try omega)) (by simp [Av,h]),rfl⟩
  .go_enter func239,ntmps239
   go_wp2;go_ret2;exact ⟨D8 (congrArg (Value.int .u8) (by simp only [Av]; simp; try omega)) (by simp [Av,h]),rfl⟩
theorem Ki (f n:Int) (w:World):Calls prog 240 #[.int .u8 f,.int .u8 n] w fun e w'=>e=.returned (.bool (bits .and .u8 f n != 0))/\w'=w:=by
 go_enter func240,ntmps240
 go_wp2;go_ret;exact ⟨rfl,rfl⟩
theorem Yq (b:Bool):(bits .and .u8 (Av b) 1 != 0)=b:=by cases b <;> decide
theorem Ts (a b:Int) (c:Bool) (w:World):Calls prog 226 #[.i a,.i b,.bool c] w fun e w'=>e=.returned (.tuple #[.i ((a%256+b%256+Av c)%256),.bool (decide (255<a%256+b%256+Av c))])/\w'=w:=by
 have hc:0<=Av c/\Av c<=1:=by cases c <;> simp [Av]
 go_enter func226,ntmps226
 go_wp2_with (first | (go_at_call 239; refine (Yp _ _ _ _ (by omega) (by omega) (by omega) (by omega)).mono ?_; rintro e w' ⟨rfl,rfl⟩) | (go_at_call 240; refine (Ki _ _ _).mono ?_; rintro e w' ⟨rfl,rfl⟩));go_ret2;exact ⟨D8 rfl (congrArg Value.bool (Yq _)),rfl⟩
theorem Jbo (a b:Int) (c:Bool) (w:World) (a0:0<=a) (a1:a<256) (b0:0<=b) (b1:b<256):Calls prog 241 #[.int .u8 a,.int .u8 b,.bool c] w fun e w'=>e=.returned (.tuple #[.int .u8 ((a-b-1+Av c)%256),.int .u8 (Av (decide (0<=a-b-1+Av c)))])/\w'=w:=by
 have hc:0<=Av c/\Av c<=1:=by cases c <;> simp [Av]
 have hs:IntKind.u8.signed=false:=rfl;have hn:=Jfe b b0 b1
 go_enter func241,ntmps241
 go_wp2_with (go_at_call 239; refine (Yp _ _ _ _ (by omega) (by omega) (by omega) (by omega)).mono ?_; rintro e w' ⟨rfl,rfl⟩);go_ret2;exact ⟨D8 (congrArg (Value.int .u8) (by rw [show a+(255-b)+Av c=(a-b-1+Av c)+256 from by omega,Int.add_emod_right])) (congrArg (fun x=>Value.int .u8 (Av x)) (decide_eq_decide.2 (by omega))),rfl⟩
theorem Tt (a b:Int) (c:Bool) (w:World):Calls prog 227 #[.i a,.i b,.bool c] w fun e w'=>e=.returned (.tuple #[.i ((a%256-b%256-1+Av c)%256),.bool (decide (0<=a%256-b%256-1+Av c))])/\w'=w:=by
 have hc:0<=Av c/\Av c<=1:=by cases c <;> simp [Av]
 go_enter func227,ntmps227
 go_wp2_with (first | (go_at_call 241; refine (Jbo _ _ _ _ (by omega) (by omega) (by omega) (by omega)).mono ?_; rintro e w' ⟨rfl,rfl⟩) | (go_at_call 240; refine (Ki _ _ _).mono ?_; rintro e w' ⟨rfl,rfl⟩));go_ret2;exact ⟨D8 rfl (congrArg Value.bool (Yq _)),rfl⟩
theorem Tu (a:Int) (w:World) (a0:0<=a) (a1:a<256):Calls prog 242 #[.int .u8 a] w fun e w'=>e=.returned (.int .u8 (2*Av (a==0)+128*Av (decide (127<a))))/\w'=w:=by
 by_cases h:a=0
 .subst h
  go_enter func242,ntmps242
  go_wp2;go_ret;exact ⟨rfl,rfl⟩
 .have h0:(a==0)=false:=by simpa using h
  by_cases g:127<a
  .go_enter func242,ntmps242
   go_wp2;go_ret;exact ⟨A5 (by rw [h0,decide_eq_true g]; decide),rfl⟩
  .go_enter func242,ntmps242
   go_wp2;go_ret;exact ⟨A5 (by rw [decide_eq_false (by omega)]; decide),rfl⟩
theorem Jgm (b c:Bool):(bits .and .u8 (2*Av b+128*Av c) 2 != 0)=b:=by cases b <;> cases c <;> decide
theorem Jgn (b c:Bool):(bits .and .u8 (2*Av b+128*Av c) 128 != 0)=c:=by cases b <;> cases c <;> decide
theorem Zf (x:Int) (w:World):Calls prog 228 #[.i x] w fun e w'=>e=.returned (.tuple #[.bool (x%256==0),.bool (decide (127<x%256))])/\w'=w:=by
 go_enter func228,ntmps228
 go_wp2_with (first | (go_at_call 242; refine (Tu _ _ (by omega) (by omega)).mono ?_; rintro e w' ⟨rfl,rfl⟩) | (go_at_call 240; refine (Ki _ _ _).mono ?_; rintro e w' ⟨rfl,rfl⟩));go_ret2;exact ⟨D8 (congrArg Value.bool (Jgm _ _)) (congrArg Value.bool (Jgn _ _)),rfl⟩
theorem Ma (x:Int) (w:World):Calls prog 170 #[.i x] w fun e w'=>e=.returned (.tuple #[.bool (x%256==0),.bool (decide (127<x%256))])/\w'=w:=by
 go_enter func170,ntmps170
 go_wp2_with (first | (go_at_call 128; refine (Bo _ _).mono ?_; rintro e w' ⟨rfl,rfl⟩));go_ret2;exact ⟨D8 rfl rfl,rfl⟩
theorem Kj (a b:Int) (w:World):Calls prog 123 #[.i a,.i b] w fun e w'=>e=.returned (.i (a%256+256*(b%256)))/\w'=w:=by
 go_enter func123,ntmps123
 go_wp2_with (first | (go_at_call 128; refine (Bo _ _).mono ?_; rintro e w' ⟨rfl,rfl⟩));go_ret;exact ⟨A5 rfl,rfl⟩
theorem I7 (a b:Int) (w:World):Calls prog 41 #[.i a,.i b] w fun e w'=>e=.returned (.i (a%256+256*(b%256)))/\w'=w:=by
 go_enter func41,ntmps41
 go_wp2;go_ret;exact ⟨A5 (by rw [Jbl _ _ (by omega) (by omega) (by omega) (by omega)]; exact IntWalk.wrap64_in _ (by omega)),rfl⟩
def Cf (n m:Nat) (f g:Nat->Int):Bool:=decide (n=m/\∀ i,i<n->f i=g i)
theorem Zh {n m:Nat} {f g:Nat->Int} (h:¬ n=m):Cf n m f g=false:=decide_eq_false (fun x=>h x.1)
theorem Wk {n:Nat} {f g:Nat->Int} (h:∀ i,i<n->f i=g i):Cf n n f g=true:=decide_eq_true ⟨rfl,h⟩
theorem Jdu {k:Nat} {f g:Nat->Int} (h:∀ j,j<k->f j=g j) (hk:f k=g k):∀ j,j<k+1->f j=g j:=fun j hj=>by
 by_cases e:j=k
 .rw [e]; exact hk
 .exact h j (by omega)
theorem Gp:(prog.info? 3).map (fun i=>(i.zero,i.size,i.bytes))=some (some (.i 0),1,8):=by kernel_rfl
theorem Kk:(prog.info? 27).map (fun i=>(i.zero,i.size,i.bytes))=some (some (.slice none 0 0),1,24):=by kernel_rfl
structure Iv (w:World) (b0 m:Nat) (ln:Nat->Nat) (f:Nat->Nat->Int):Prop where
 outer:w.rowIs b0 27 m (fun i=>.slice (some ⟨b0+1+i,0,none⟩) (ln i) (ln i))
 inner:∀ i,i<m->w.rowIs (b0+1+i) 3 (ln i) (fun j=>.i (f i j))
def If (m n:Nat) (ln lg:Nat->Nat) (f g:Nat->Nat->Int):Bool:=decide (m=n/\∀ i,i<m->Cf (ln i) (lg i) (f i) (g i)=true)
theorem Wl {m n:Nat} {ln lg:Nat->Nat} {f g:Nat->Nat->Int} (h:¬ m=n):If m n ln lg f g=false:=decide_eq_false (fun x=>h x.1)
theorem Jbp {k:Nat} {ln lg:Nat->Nat} {f g:Nat->Nat->Int} (h:∀ i,i<k->Cf (ln i) (lg i) (f i) (g i)=true) (hk:Cf (ln k) (lg k) (f k) (g k)=true):∀ j,j<k+1->Cf (ln j) (lg j) (f j) (g j)=true:=fun j hj=>by
 by_cases e:j=k
 .rw [e]; exact hk
 .exact h j (by omega)
theorem Wm {kd:IntKind} {w:World} {b off n:Nat} {f:Nat->Int} {j:Nat} {x:Int} (H:Cg kd w (some ⟨b,off,none⟩) n f) (hj:j<n) :
  Cg kd (w.setCell ⟨b,off+j,none⟩ (.int kd x)) (some ⟨b,off,none⟩) n (fun i=>if i=j then x else f i):=fun i hi=>by
 obtain ⟨b',off',e,hc⟩:=H i hi;simp only [Option.some.injEq,Addr.mk.injEq,and_true] at e;obtain ⟨rfl,rfl⟩:=e;refine ⟨b,off,rfl,?_⟩
 by_cases e:i=j
 .subst e
  rw [World.cell?_setCell_same _ _ _ hc]
  simp
 .rw [World.cell?_setCell_other _ _ _ _ (by intro h; simp only [Addr.mk.injEq] at h; omega),hc]
  show _=some (Value.int kd (if i=j then x else f i))
  rw [if_neg e]
structure Sep (w:World) (v:Value) (m:Nat) (ra:Nat->Option Addr) (ln rc:Nat->Nat):Prop where
 outer:∃ a cap,v=.slice a m cap/\m<=1048576/\∀ i,i<m->∃ b off,a=some ⟨b,off,none⟩/\w.cell? ⟨b,off+i,none⟩=some (.slice (ra i) (ln i) (rc i))/\∀ j,j<m->¬ Cz (ra j) (ln j) b (off+i)
 free:∀ i,i<m->Mb w (Cz (ra i) (ln i))
 disj:∀ i j,i<m->j<m->i≠j->∀ b o,Cz (ra i) (ln i) b o->¬ Cz (ra j) (ln j) b o
 small:Dw ln m<=1099511627776
theorem Sep.keep {w w':World} {v:Value} {m:Nat} {ra:Nat->Option Addr} {ln rc:Nat->Nat} {R:Nat->Nat->Prop} (h:Sep w v m ra ln rc) (hw:Wrote R w w') (hd:∀ b o,R b o->∃ i,i<m/\Cz (ra i) (ln i) b o):Sep w' v m ra ln rc:=by
 obtain ⟨⟨a,cap,hv,hm,ho⟩,hf,hdj,hs⟩:=h;refine ⟨⟨a,cap,hv,hm,fun i hi=>?_⟩,fun i hi=>(hf i hi).keep hw,hdj,hs⟩;obtain ⟨b,off,ha,hc,hn⟩:=ho i hi;refine ⟨b,off,ha,?_,hn⟩;rw [hw.cell b (off+i) (block_lt_of_cell hc) (fun h=>by obtain ⟨j,hj,hF⟩:=hd _ _ h; exact hn j hj hF)];exact hc
structure Tv (w:World) (v:Value) (m:Nat) (ra:Nat->Option Addr) (ln rc:Nat->Nat) (f:Nat->Nat->Int):Prop where
 outer:∃ a cap,v=.slice a m cap/\m<=9223372036854775807/\∀ i,i<m->∃ b off,a=some ⟨b,off,none⟩/\w.cell? ⟨b,off+i,none⟩=some (.slice (ra i) (ln i) (rc i))
 rows:∀ i,i<m->ln i<=9223372036854775807/\Cg .i64 w (ra i) (ln i) (f i)/\∀ j,j<ln i->(Lit.i (f i j)).wf=true
theorem Rb (ln:Nat->Nat) {i m:Nat} (h:i<m):ln i<=Dw ln m:=by
 have:=Zg ln (show i+1<=m from h);have e:Dw ln (i+1)=Dw ln i+ln i:=rfl
 omega
theorem Tv.ints {w:World} {v:Value} {m:Nat} {ra:Nat->Option Addr} {ln rc:Nat->Nat} {f:Nat->Nat->Int} (h:Tv w v m ra ln rc f) (hs:m+Dw ln m<=1048576):Bg .i64 w (fun b _=>b<w.heap.size) v m ln f:=by
 obtain ⟨⟨a,cap,hv,hm,ho⟩,hr⟩:=h;refine ⟨a,cap,hv,by omega,fun b o hF=>?_,fun i hi=>?_⟩
 .obtain ⟨off,rfl,h1,h2⟩:=hF
  obtain ⟨b',off',e,hcell⟩:=ho (o-off) (by omega);simp only [Option.some.injEq,Addr.mk.injEq,and_true] at e;obtain ⟨rfl,rfl⟩:=e;exact block_lt_of_cell hcell
 .obtain ⟨b,off,ha,hc⟩:=ho i hi
  exact ⟨b,off,_,ha,hc,ra i,rc i,rfl,by have:=Rb ln hi; omega,(hr i hi).2.1,fun b o h=>(hr i hi).2.1.lt h⟩
theorem Tv.below {w w':World} {v:Value} {m:Nat} {ra:Nat->Option Addr} {ln rc:Nat->Nat} {f:Nat->Nat->Int} (h:Tv w v m ra ln rc f) (hb:Below w.heap.size w w'):Tv w' v m ra ln rc f:=by
 obtain ⟨⟨a,cap,hv,hm,ho⟩,hr⟩:=h;refine ⟨⟨a,cap,hv,hm,fun i hi=>?_⟩,fun i hi=>⟨(hr i hi).1,(hr i hi).2.1.keep (Aa hb Aj) (fun _ _ _ x=>x),(hr i hi).2.2⟩⟩;obtain ⟨b,off,ha,hc⟩:=ho i hi;exact ⟨b,off,ha,(hb.cell (p:=⟨b,off+i,none⟩) (block_lt_of_cell hc)).trans hc⟩
theorem Iv.keep {w w':World} {R:Nat->Nat->Prop} {b0 m:Nat} {ln:Nat->Nat} {f:Nat->Nat->Int} (h:Iv w b0 m ln f) (hw:Wrote R w w') (hd:∀ b o,b0<=b->b<b0+1+m->¬ R b o):Iv w' b0 m ln f :=
 ⟨h.outer.of_block (hw.block _ h.outer.lt (fun o=>hd _ o (by omega) (by omega))),fun i hi=>(h.inner i hi).of_block (hw.block _ (h.inner i hi).lt (fun o=>hd _ o (by omega) (by omega)))⟩
theorem Iv.rowOf {w:World} {b0 m:Nat} {ln:Nat->Nat} {f:Nat->Nat->Int} (h:Iv w b0 m ln f) (i:Nat) (hi:i<m):Cg .i64 w (some ⟨b0+1+i,0,none⟩) (ln i) (f i):=fun j hj =>
 ⟨b0+1+i,0,rfl,by rw [Nat.zero_add]; exact (h.inner i hi).cell hj⟩
theorem Iv.ints {w:World} {b0 m:Nat} {ln:Nat->Nat} {f:Nat->Nat->Int} (h:Iv w b0 m ln f) (hm:m+Dw ln m<=1048576):Bg .i64 w (fun b _=>b0<=b/\b<b0+1+m) (.slice (some ⟨b0,0,none⟩) m m) m ln f:=by
 refine ⟨_,_,rfl,by omega,fun b o hF=>?_,fun i hi=>⟨b0,0,_,rfl,by rw [Nat.zero_add]; exact h.outer.cell hi,_,_,rfl,by have:=Rb ln hi; omega,h.rowOf i hi,fun b o hF=>?_⟩⟩
 .obtain ⟨off,e,_⟩:=hF
  simp only [Option.some.injEq,Addr.mk.injEq,and_true] at e
  omega
 .obtain ⟨off,e,_⟩:=hF
  simp only [Option.some.injEq,Addr.mk.injEq,and_true] at e
  omega
theorem Iv.sep {w:World} {b0 m:Nat} {ln:Nat->Nat} {f:Nat->Nat->Int} (h:Iv w b0 m ln f) (hm:m+Dw ln m<=1048576):Sep w (.slice (some ⟨b0,0,none⟩) m m) m (fun i=>some ⟨b0+1+i,0,none⟩) ln ln:=by
 refine ⟨⟨_,_,rfl,by omega,fun i hi=>⟨b0,0,rfl,by rw [Nat.zero_add]; exact h.outer.cell hi,fun j hj hF=>?_⟩⟩,fun i hi b o hF=>?_,fun i j hi hj hij b o hF hG=>?_,by omega⟩
 .obtain ⟨off,e,_⟩:=hF
  simp only [Option.some.injEq,Addr.mk.injEq,and_true] at e
  omega
 .obtain ⟨off,e,_⟩:=hF
  simp only [Option.some.injEq,Addr.mk.injEq,and_true] at e;obtain ⟨rfl,rfl⟩:=e;exact ⟨(h.inner i hi).lt,(h.inner i hi).frozen o⟩
 .obtain ⟨off,e,_⟩:=hF
  obtain ⟨off',e',_⟩:=hG;simp only [Option.some.injEq,Addr.mk.injEq,and_true] at e e'
  omega
def Cr (x lo hi:Int):Bool:=decide (lo<=x) && decide (x<=hi)
theorem Dj (x lo hi:Int):Cr x lo hi=true ↔ lo<=x/\x<=hi:=by simp [Cr]
theorem Bh {x lo hi:Int} (h:lo<=x/\x<=hi):Cr x lo hi=true:=(Dj x lo hi).2 h
theorem C9 {x lo hi:Int} (h:¬ (lo<=x/\x<=hi)):Cr x lo hi=false:=by
 cases e:Cr x lo hi
 .rfl
 .exact absurd ((Dj x lo hi).1 e) h
def D9 (n:Nat) (g:Nat->Int):Bool:=decide (n=256/\∀ j,j<n->Cr (g j) 0 255=true)
theorem Nl {n:Nat} {g:Nat->Int} (h:¬ n=256):D9 n g=false:=decide_eq_false (fun x=>h x.1)
theorem Tw {n j:Nat} {g:Nat->Int} (hj:j<256) (h:¬ (0<=g j/\g j<=255)):D9 n g=false:=decide_eq_false (fun x=>h ((Dj _ _ _).1 (x.2 j (by omega))))
theorem Wn {n:Nat} {g:Nat->Int} (h:n=256) (h2:∀ j,j<256->0<=g j/\g j<=255):D9 n g=true:=decide_eq_true ⟨h,fun j hj=>Bh (h2 j (by omega))⟩
theorem Hl {n:Nat} {g:Nat->Int} (h:D9 n g=true):n=256/\∀ j,j<256->0<=g j/\g j<=255 :=
 have x:=of_decide_eq_true h
 ⟨x.1,fun j hj=>(Dj _ _ _).1 (x.2 j (by omega))⟩
def Fp (m:Nat) (ln:Nat->Nat) (f:Nat->Nat->Int):Bool:=decide ((∀ i,i<m->D9 (ln i) (f i)=true)/\1<=m/\m<=8)
theorem Nm {m:Nat} {ln:Nat->Nat} {f:Nat->Nat->Int} {i:Nat} (hi:i<m) (h:D9 (ln i) (f i)=false):Fp m ln f=false:=decide_eq_false (fun x=>by have:=x.1 i hi; rw [h] at this; cases this)
theorem Zi {m:Nat} {ln:Nat->Nat} {f:Nat->Nat->Int} (h:∀ i,i<m->D9 (ln i) (f i)=true):Fp m ln f=Cr m 1 8:=by
 by_cases c:1<=m/\m<=8
 .rw [Bh (by omega)]
  exact decide_eq_true ⟨h,c⟩
 .rw [C9 (by omega)]
  exact decide_eq_false (fun x=>c x.2)
theorem Tx {k:Nat} {ln:Nat->Nat} {f:Nat->Nat->Int} (h:∀ i,i<k->D9 (ln i) (f i)=true) (hk:D9 (ln k) (f k)=true):∀ i,i<k+1->D9 (ln i) (f i)=true:=fun j hj=>by
 by_cases e:j=k
 .rw [e]; exact hk
 .exact h j (by omega)
theorem E8 (x lo hi:Int) (w:World):Calls prog 33 #[.i x,.i lo,.i hi] w fun e w'=>e=.returned (.bool (Cr x lo hi))/\w'=w:=by
 by_cases h1:lo<=x
 .by_cases h2:x<=hi
  .have e:=Ac (Bh ⟨h1,h2⟩)
   go_enter func33,ntmps33
   go_wp2;go_ret;exact ⟨Ap (Ae e).symm,rfl⟩
  .have e:=Ac (C9 (x:=x) (lo:=lo) (hi:=hi) (by omega))
   go_enter func33,ntmps33
   go_wp2;go_ret;exact ⟨Ap (Ae e).symm,rfl⟩
 .have h1':decide (lo<=x)=false:=decide_eq_false h1
  have e:=Ac (C9 (x:=x) (lo:=lo) (hi:=hi) (by omega))
  go_enter func33,ntmps33
  go_wp2;go_ret;exact ⟨Ap (Ae e).symm,rfl⟩
theorem Ty (w:World) (F:Nat->Nat->Prop) (v:Value) (m:Nat) (ln:Nat->Nat) (f:Nat->Nat->Int) (H:Bg .i64 w F v m ln f) :
  Calls prog 69 #[.agg #[v]] w fun e w'=>e=.returned (.bool (Fp m ln f))/\Below w.heap.size w w':=by
 have L0:Below w.heap.size w (w.al #[v] 26):=(Below.refl _ _).alloc (Nat.le_refl _) _;have H0:=H.keep (Aa L0 Aj) (fun _ _ _ x=>x);obtain ⟨a,cap,rfl,hm,-,hc⟩:=H0
 go_enter func69,ntmps69
 go_wp2
 go_loop [3] (fun i=>∃ q:Nat,q<=m/\i=.i q/\∀ i,i<q->D9 (ln i) (f i)=true) (fun i=>m-(intOf i).toNat)
 case atStart=>exact ⟨0,Nat.zero_le _,rfl,fun i hi=>absurd hi (Nat.not_lt_zero _)⟩
 case round =>
  obtain ⟨q,hq,rfl,hok⟩:=hrel;have HO:=Ac hok;clear hok
  by_cases hlt:q<m
  .obtain ⟨b,off,u,rfl,hcell,a',cap',rfl,hn',hrow,-⟩:=hc q hlt
   have hlt':(q:Int)<(m:Int):=by omega
   by_cases hl:ln q=256
   .have hl':((ln q:Int) != 256)=false:=by simp; omega
    have HL:=Ac hl
    have hl2:256<=ln q:=by omega
    clear hl;go_wp2
    go_loop [4] (fun j=>∃ r:Nat,r<=256/\j=.i r/\∀ i,i<r->0<=f q i/\f q i<=255) (fun i=>256-(intOf i).toNat)
    case atStart=>exact ⟨0,Nat.zero_le _,rfl,fun i hi=>absurd hi (Nat.not_lt_zero _)⟩
    case round =>
     obtain ⟨r,hr,rfl,hby⟩:=hrel;have HB:=Ac hby;clear hby
     by_cases hrt:r<256
     .obtain ⟨b',off',rfl,hcell'⟩:=hrow r (by omega)
      have hrt':(r:Int)<256:=by omega
      have hrl:(r:Int)<(ln q:Int):=by omega
      by_cases hin:0<=f q r/\f q r<=255
      .have hin':=Bh hin
       have HI:=Ac hin;clear hin;go_wp2_with fail;refine (E8 _ _ _ _).mono ?_;rintro e w1 ⟨rfl,rfl⟩;go_wp2
       go_round
       case rel =>
        refine ⟨r+1,by omega,by go_num,fun i hi=>?_⟩
        by_cases e:i=r
        .rw [e]; exact Ae HI
        .exact Ae HB i (by omega)
       case measure=>simp [intOf]; omega
      .have hin':=C9 hin
       have HI:=Ac (Nm hlt (Tw (n:=ln q) hrt hin));clear hin;go_wp2_with fail;refine (E8 _ _ _ _).mono ?_;rintro e w1 ⟨rfl,rfl⟩;go_wp2;go_ret;exact ⟨Ap (Ae HI).symm,L0⟩
     .have hrt':¬ (r:Int)<256:=by omega
      go_wp2
      go_round
      case rel=>exact ⟨q+1,by omega,by go_num,Tx (Ae HO) (Wn (Ae HL) (fun j hj=>Ae HB j (by omega)))⟩
      case measure=>simp [intOf]; omega
   .have hl':((ln q:Int) != 256)=true:=by simp; omega
    have HI:=Ac (Nm hlt (Nl (g:=f q) hl));clear hl;go_wp2;go_ret;exact ⟨Ap (Ae HI).symm,L0⟩
  .have hlt':¬ (q:Int)<(m:Int):=by omega
   have e:q=m:=by omega
   subst e;go_wp2_with fail;refine (E8 _ _ _ _).mono ?_;rintro e w1 ⟨rfl,rfl⟩;go_wp2;go_ret;exact ⟨Ap (Zi (Ae HO)).symm,L0⟩
end Go.Proofs.YtijljlnooibbmaaGreatDoor
