import Derived.Test.YtijljlnooibbmaaGreatDoorSW
import Derived.Test.YtijljlnooibbmaaGreatDoorWA
namespace Go.Proofs.YtijljlnooibbmaaGreatDoor
set_option maxHeartbeats 8000000
set_option maxRecDepth 40000
open Go.Proofs.Tryz
set_option linter.unusedVariables false
set_option linter.unusedSimpArgs false
open Go.ChangeShapes Go.WideShapes Go.ChangeAt Go.RowKit
theorem Pj {q:Nat} {gb cp ln ln':Nat->Nat} (h:∀ i,i<q->ln i=ln' i):Nc q gb ln cp=Nc q gb ln' cp:=by
 unfold Nc
 apply List.map_congr_left
 intro i hi;rw [h i (List.mem_range.1 hi)]
theorem SG.congr {W:World} {lo q:Nat} {ov:Value} {gb cp ln ln':Nat->Nat} {f f':Nat->Nat->Int} (H:SG W lo ov q gb cp ln f) (h:∀ i,i<q->ln i=ln' i/\f i=f' i):SG W lo ov q gb cp ln' f':=by
 refine ⟨?_,fun i hi=>?_,H.inj,H.dj,H.small⟩
 .rw [<- Pj (fun i hi=>(h i hi).1)]; exact H.own
 .rw [<- (h i hi).1,<- (h i hi).2]; exact H.rows i hi
def Ju (d:Aq):Aq:={ d with t:=J5 d.t,bl:=N9 d.t d.bl,nd:=tkM d.t d.nd,dt:=Nh d.t d.tb d.s d.pl d.nd d.dt }
def Hi (d:Aq) (k:Nat) (h:Nat->Int):Aq:={ d with mf:=d.mf+1,lf:=Ek d.lf d.mf k,fr:=Ix d.fr d.mf h }
def Ly (d:Aq) (x:Int):Aq:={ d with ns:=d.ns+1,sm:=snoc d.sm d.ns x }
section
variable {R:Nat->Nat->Prop} {W W':World} {lo N:Nat} {D:Nat->Nat->Prop} {u0 u1 u2 u3 u4 ov:Value} {gb cp:Nat->Nat} {g6 c6 g7 c7:Nat} {d:Aq}
theorem A9.ticked (H:A9 W lo N D u0 u1 u2 u3 u4 ov gb cp g6 c6 g7 c7 d) {P Q:Nat->Prop} {q:Nat} {w3 w4:Value} (hP:Co W P (.agg (pR (J5 d.t) d.c d.s d.ad d.pl (N9 d.t d.bl) w3 w4)) (J5 d.t) d.c d.s d.ad d.pl (N9 d.t d.bl) d.nt d.tb (tkM d.t d.nd) (Nh d.t d.tb d.s d.pl d.nd d.dt)) (hp:∀ b,P b\/Q b->N<=b/\b<q) (hpq:∀ b,P b->¬ Q b) (hl:lo<=N) (hNq:N<=q) (hq:q<=W.heap.size) :
  A9 W lo q (fun i b=>(i=3/\P b)\/(i=7/\Q b)\/(i≠3/\i≠7/\D i b)) u0 u1 u2 w3 w4 ov gb cp g6 c6 g7 c7 (Ju d):=by
 have nN:=H.nN;refine ⟨H.h0.mono (fun b _ h=>Or.inr (Or.inr ⟨by decide,by decide,h⟩)),H.h1.mono (fun b _ h=>Or.inr (Or.inr ⟨by decide,by decide,h⟩)),H.h2.mono (fun b _ h=>Or.inr (Or.inr ⟨by decide,by decide,h⟩)),hP.mono (fun b _ h=>Or.inl ⟨rfl,h⟩),H.h4,fun b h=>Or.inr (Or.inr ⟨by decide,by decide,H.h4D b h⟩),H.h6,?_,H.h7,?_,?_,?_,by have:=H.n6; omega,by have:=H.n7; omega,hq,H.hps⟩
 .rcases H.h6D with h | h
  .exact Or.inl (Or.inr (Or.inr ⟨by decide,by decide,h⟩))
  .exact Or.inr h
 .rcases H.h7D with h | h
  .exact Or.inl (Or.inr (Or.inr ⟨by decide,by decide,h⟩))
  .exact Or.inr h
 .intro i j b h1 h2
  rcases h1 with ⟨rfl,h1⟩ | ⟨rfl,h1⟩ | ⟨n1,m1,h1⟩ <;> rcases h2 with ⟨rfl,h2⟩ | ⟨rfl,h2⟩ | ⟨n2,m2,h2⟩
  .rfl
  .exact (hpq b h1 h2).elim
  .have:=H.bd _ _ h2; have:=hp b (Or.inl h1); omega
  .exact (hpq b h2 h1).elim
  .rfl
  .have:=H.bd _ _ h2; have:=hp b (Or.inr h1); omega
  .have:=H.bd _ _ h1; have:=hp b (Or.inl h2); omega
  .have:=H.bd _ _ h1; have:=hp b (Or.inr h2); omega
  .exact H.dis _ _ _ h1 h2
 .intro i b h
  rcases h with ⟨rfl,h⟩ | ⟨rfl,h⟩ | ⟨_,_,h⟩
  .have:=hp b (Or.inl h); omega
  .have:=hp b (Or.inr h); omega
  .have:=H.bd _ _ h; omega
theorem A9.frame (H:A9 W lo N D u0 u1 u2 u3 u4 ov gb cp g6 c6 g7 c7 d) (hl:lo<=N) {g' c' gN cN k:Nat} {h:Nat->Int} (hw:Wrote (fun b _=>ov.ownBlock=some b) W W') (own':W'.ownsRow lo 27 1 (.slice (some ⟨g',0,none⟩) (d.mf+1) c') (d.mf+1) (Nc d.mf gb d.lf cp++[.slice (some ⟨gN,0,none⟩) k cN]))
  (hat:ov.ownBlock=some g'\/W.heap.size<=g') (RN:Row W lo gN k cN h) (d7:D 7 gN) (hq:d.mf<1048576) (hp:Dw (Ek d.lf d.mf k) (d.mf+1)<=1099511627776) :
  A9 W' lo W'.heap.size (fun i b=>(i=4/\(b=g'\/D 4 b\/D 7 b))\/(i≠4/\i≠7/\D i b)) u0 u1 u2 u3 u4 (.slice (some ⟨g',0,none⟩) (d.mf+1) c') (fun i=>if i=d.mf then gN else gb i) (fun i=>if i=d.mf then cN else cp i) g6 c6 g7 c7 (Hi d k h):=by
 have hsz:=hw.size;have nN:=H.nN
 have far:∀ i b (o:Nat),i≠4->D i b->¬ (ov.ownBlock=some b):=fun i b o hi hb e=>hi (H.dis i 4 b hb (H.h4D b (Or.inl e)))
 have key:∀ i,i≠4->D i g'->False:=fun i hi h=>by
  rcases hat with e | h'
  .exact far i g' 0 hi h e
  .have:=H.bd _ _ h; omega
 have eN:∀ i,i<d.mf->d.lf i=Ek d.lf d.mf k i/\d.fr i=Ix d.fr d.mf h i:=fun i hi=>by
  unfold Ek Ix;rw [if_neg (by omega),if_neg (by omega)];exact ⟨rfl,rfl⟩
 have e1:Ek d.lf d.mf k d.mf=k:=if_pos rfl;have e2:Ix d.fr d.mf h d.mf=h:=if_pos rfl
 have own2:W'.ownsRow lo 27 1 (.slice (some ⟨g',0,none⟩) (d.mf+1) c') (d.mf+1) (Nc d.mf gb (Ek d.lf d.mf k) cp++[.slice (some ⟨gN,0,none⟩) (Ek d.lf d.mf k d.mf) cN]):=by
  rw [e1,<- Pj (fun i hi=>(eN i hi).1)];exact own'
 have RN2:Row W lo gN (Ek d.lf d.mf k d.mf) cN (Ix d.fr d.mf h d.mf):=by
  rw [e1,e2];exact RN
 have S:=(H.h4.congr eN).push hw own2 hat RN2 (fun e=>far 7 gN 0 (by decide) d7 e) (fun i hi e=>by
  have:=H.dis 4 7 gN (H.h4D gN (Or.inr ⟨i,hi,e⟩)) d7
  omega) hq
 have typ:∀ {g n c:Nat} {f:Nat->Int},Row W lo g n c f->¬ (ov.ownBlock=some g):=fun hR e=>by
  obtain ⟨-,-,-,cur,hc⟩:=hR.parts
  rcases H.h4.own.2 with ⟨e',_⟩ | ⟨g0,c0,cur0,hv,hb,hg,_⟩
  .rw [e'] at e; cases e
  .rw [hv] at e
   obtain rfl:g0=_:=by simpa [Value.ownBlock] using e
   rw [hc] at hg
   injection hg with hg
   injection hg with _ ht _
   cases ht
 refine ⟨(H.h0.keep hw (fun b o h _=>far 0 b o (by decide) h)).mono (fun b _ h=>Or.inr ⟨by decide,by decide,h⟩),(H.h1.keep hw (fun b o h _=>far 1 b o (by decide) h)).mono (fun b _ h=>Or.inr ⟨by decide,by decide,h⟩),(H.h2.keep hw (fun b o h _=>far 2 b o (by decide) h)).mono (fun b _ h=>Or.inr ⟨by decide,by decide,h⟩),(H.h3.keep hw (fun b o h _=>far 3 b o (by decide) h)).mono (fun b _ h=>Or.inr ⟨by decide,by decide,h⟩),
  S,fun b hb=>Or.inl ⟨rfl,?_⟩,H.h6.keep hw (fun o e=>typ H.h6 e),?_,H.h7.keep hw (fun o e=>typ H.h7 e),?_,?_,?_,by have:=H.n6; omega,by have:=H.n7; omega,Nat.le_refl _,hp⟩
 .rcases hb with hb | ⟨i,hi,hb⟩
  .exact Or.inl (by simpa [Value.ownBlock] using hb.symm)
  .replace hi:i<d.mf+1:=hi
   by_cases e:i=d.mf
   .rw [if_pos e] at hb
    subst hb;exact Or.inr (Or.inr d7)
   .rw [if_neg e] at hb
    exact Or.inr (Or.inl (H.h4D b (Or.inr ⟨i,by omega,hb⟩)))
 .rcases H.h6D with h | h
  .exact Or.inl (Or.inr ⟨by decide,by decide,h⟩)
  .exact Or.inr h
 .rcases H.h7D with h | h
  .exact Or.inl (Or.inr ⟨by decide,by decide,h⟩)
  .exact Or.inr h
 .intro i j b h1 h2
  have k4:∀ i,i≠4->i≠7->D i b->(b=g'\/D 4 b\/D 7 b)->False:=fun i n m hb h=>by
   rcases h with rfl | h | h
   .exact key i n hb
   .exact n (H.dis i 4 b hb h)
   .exact m (H.dis i 7 b hb h)
  rcases h1 with ⟨rfl,h1⟩ | ⟨n1,m1,h1⟩ <;> rcases h2 with ⟨rfl,h2⟩ | ⟨n2,m2,h2⟩
  .rfl
  .exact (k4 j n2 m2 h2 h1).elim
  .exact (k4 i n1 m1 h1 h2).elim
  .exact H.dis _ _ _ h1 h2
 .intro i b h
  rcases h with ⟨rfl,rfl | h | h⟩ | ⟨_,_,h⟩
  .rcases own'.2 with ⟨e,_⟩ | ⟨g,c,cur,hv,hb,hg,_⟩
   .cases e
   .simp only [Value.slice.injEq,Option.some.injEq,Addr.mk.injEq,and_true,true_and] at hv
    obtain ⟨rfl,rfl⟩:=hv;exact ⟨hb,Ad hg⟩
  .have:=H.bd _ _ h; omega
  .have:=H.bd _ _ h; omega
  .have:=H.bd _ _ h; omega
theorem A9.samp (H:A9 W lo N D u0 u1 u2 u3 u4 ov gb cp g6 c6 g7 c7 d) (hl:lo<=N) {g' c':Nat} {x:Int} (hw:Wrote (fun b _=>b=g6/\d.ns+1<=c6) W W') (R6:Row W' lo g' (d.ns+1) c' (snoc d.sm d.ns x)) (hat:(g'=g6/\d.ns+1<=c6)\/W.heap.size<=g') :
  A9 W' lo W'.heap.size (fun i b=>(i=5/\b=g')\/(i≠5/\D i b)) u0 u1 u2 u3 u4 ov gb cp g' c' g7 c7 (Ly d x):=by
 have nN:=H.nN;have hz:=hw.size
 have far:∀ i b (o:Nat),i≠5->D i b->¬ (b=g6/\d.ns+1<=c6):=fun i b o hi hb ⟨e,hc⟩=>by
  rcases H.h6D with h | h
  .exact hi (H.dis i 5 b hb (e ▸ h))
  .omega
 have f7:∀ (o:Nat),¬ (g7=g6/\d.ns+1<=c6/\0<c7):=fun o ⟨e,hc,h0⟩=>by
  rcases H.h7D with h | h
  .exact far 6 g7 o (by decide) h ⟨e,hc⟩
  .omega
 have K7:Row W' lo g7 d.nq c7 d.rd:=by
  by_cases e:g7=g6/\d.ns+1<=c6
  .exfalso
   have hc7:c7=0:=by
    by_cases h:0<c7
    .exact absurd ⟨e.1,e.2,h⟩ (f7 0)
    .omega
   have p6:=H.h6.room;have p7:=H.h7.room;rw [e.1,p6] at p7;have:=Option.some.inj p7
   omega
  .exact H.h7.keep hw (fun o h=>e h)
 refine ⟨(H.h0.keep hw (fun b o h _=>far 0 b o (by decide) h)).mono (fun b _ h=>Or.inr ⟨by decide,h⟩),(H.h1.keep hw (fun b o h _=>far 1 b o (by decide) h)).mono (fun b _ h=>Or.inr ⟨by decide,h⟩),(H.h2.keep hw (fun b o h _=>far 2 b o (by decide) h)).mono (fun b _ h=>Or.inr ⟨by decide,h⟩),(H.h3.keep hw (fun b o h _=>far 3 b o (by decide) h)).mono (fun b _ h=>Or.inr ⟨by decide,h⟩),
  H.h4.keep hw (fun g o hg=>far 4 g o (by decide) (H.h4D g (Or.inl hg))) (fun i o hi=>far 4 _ o (by decide) (H.h4D _ (Or.inr ⟨i,hi,rfl⟩))),fun b h=>Or.inr ⟨by decide,H.h4D b h⟩,R6,Or.inl (Or.inl ⟨rfl,rfl⟩),K7,?_,?_,?_,R6.parts.2.1,by have:=H.n7; omega,Nat.le_refl _,H.hps⟩
 .rcases H.h7D with h | h
  .exact Or.inl (Or.inr ⟨by decide,h⟩)
  .exact Or.inr h
 .intro i j b h1 h2
  have key:∀ i,i≠5->D i g'->False:=fun i hi h=>by
   rcases hat with ⟨e,hc⟩ | h'
   .exact far i g' 0 hi h ⟨e,hc⟩
   .have:=H.bd _ _ h; omega
  rcases h1 with ⟨rfl,rfl⟩ | ⟨n1,h1⟩ <;> rcases h2 with ⟨rfl,e⟩ | ⟨n2,h2⟩
  .rfl
  .exact absurd h2 (fun h=>key j n2 h)
  .subst e; exact absurd h1 (fun h=>key i n1 h)
  .exact H.dis _ _ _ h1 h2
 .intro i b h
  rcases h with ⟨rfl,rfl⟩ | ⟨_,h⟩
  .exact ⟨R6.parts.1,R6.parts.2.1⟩
  .have:=H.bd _ _ h; omega
end
structure Kg (W:World) (lo:Nat) (a5:Option Addr) (k x5:Nat) (h:Nat->Int) (D:Nat->Nat->Prop):Prop where
 ex:0<k->∃ q y,(.slice a5 k x5:Value)=.slice (some ⟨q,0,none⟩) k y/\Row W lo q k y h/\D 7 q
theorem Kg.keep {R:Nat->Nat->Prop} {W W':World} {lo:Nat} {a5:Option Addr} {k x5:Nat} {h:Nat->Int} {D:Nat->Nat->Prop} (H:Kg W lo a5 k x5 h D) (hw:Wrote R W W') (hd:∀ q o,D 7 q->¬ R q o):Kg W' lo a5 k x5 h D:=⟨fun h0=>by
 obtain ⟨q,y,e,r,hq⟩:=H.ex h0
 exact ⟨q,y,e,r.keep hw (fun o x=>hd q o hq x),hq⟩⟩
theorem Kg.below {W W':World} {lo:Nat} {a5:Option Addr} {k x5:Nat} {h:Nat->Int} {D:Nat->Nat->Prop} (H:Kg W lo a5 k x5 h D) (L:Below W.heap.size W W'):Kg W' lo a5 k x5 h D:=H.keep (Aa L Aj) (fun _ _ _ x=>x)
theorem V8:(prog.info? 33).map (·.size)=some 8:=by kernel_rfl
theorem V9:(prog.info? 35).map (·.size)=some 7:=by kernel_rfl
theorem Jdk (w:World) (lo:Nat) (D:Nat->Nat->Prop) (v:Value) (d:Aq) (H:Fl w lo D v d) (hlo:lo<=w.heap.size) (hok:Ie d) (ht:d.t≠20000):Calls prog 54 #[v] w fun e w'=>∃ v',e=.returned v'/\Iy w w' lo D v' (Ds d)/\Below lo w w'/\Eg w w':=by
 obtain ⟨u0,u1,u2,u3,u4,ov,gb,cp,g6,c6,g7,c7,rfl,HP0⟩:=H
 have ho0:u0.oneCell'=true:=by obtain ⟨a,c,e⟩:=HP0.h0.form; rw [e]; rfl
 have ho1:u1.oneCell'=true:=by obtain ⟨a,c,e⟩:=HP0.h1.two; rw [e]; rfl
 have ho2:u2.oneCell'=true:=by
  obtain ⟨a,c,e⟩:=HP0.h2.two;simp only [Value.agg.injEq,Array.mk.injEq,List.cons.injEq,and_true] at e;rw [e]; rfl
 have hoV:ov.oneCell'=true:=by obtain ⟨a,c,e⟩:=HP0.h4.form; rw [e]; rfl
 obtain ⟨cs,hcs⟩:∃ x,Hid (x=(kR d u0 u1 u2 u3 u4 ov (.slice (some ⟨g6,0,none⟩) d.ns c6) (.slice (some ⟨g7,0,none⟩) d.nq c7))):=⟨_,rfl⟩
 rw [<- hcs.out]
 have hs:Hid (cs.size=34):=by show _=_; rw [hcs.out]; rfl
 have f12:cs[12]?=some (.i d.t):=by rw [hcs.out]; rfl
 have f13:cs[13]?=some (.i d.c):=by rw [hcs.out]; rfl
 have f14:cs[14]?=some (.i d.s):=by rw [hcs.out]; rfl
 have f15:cs[15]?=some (.i d.ad):=by rw [hcs.out]; rfl
 have f16:cs[16]?=some (.i d.pl):=by rw [hcs.out]; rfl
 have f17:cs[17]?=some (.bool d.bl):=by rw [hcs.out]; rfl
 have f18:cs[18]?=some (u3):=by rw [hcs.out]; rfl
 have f19:cs[19]?=some (u4):=by rw [hcs.out]; rfl
 have f20:cs[20]?=some (.i d.T):=by rw [hcs.out]; rfl
 have f21:cs[21]?=some (.i d.P):=by rw [hcs.out]; rfl
 have f22:cs[22]?=some (.i d.K):=by rw [hcs.out]; rfl
 have f23:cs[23]?=some (.i d.B):=by rw [hcs.out]; rfl
 have f24:cs[24]?=some (.i d.L):=by rw [hcs.out]; rfl
 have f25:cs[25]?=some (.bool d.Q):=by rw [hcs.out]; rfl
 have f26:cs[26]?=some (.bool d.R):=by rw [hcs.out]; rfl
 have f27:cs[27]?=some (.bool d.hd):=by rw [hcs.out]; rfl
 have f28:cs[28]?=some (.i d.sh):=by rw [hcs.out]; rfl
 have f29:cs[29]?=some (.bool d.nmi):=by rw [hcs.out]; rfl
 have f30:cs[30]?=some (.i d.st):=by rw [hcs.out]; rfl
 have f31:cs[31]?=some (ov):=by rw [hcs.out]; rfl
 have f32:cs[32]?=some (.slice (some ⟨g6,0,none⟩) d.ns c6):=by rw [hcs.out]; rfl
 have f33:cs[33]?=some (.slice (some ⟨g7,0,none⟩) d.nq c7):=by rw [hcs.out]; rfl
 obtain ⟨F3,F4,I3,I4⟩:∃ F G,Ints .i64 w F u3 d.nt d.tb/\Ints .i64 w G u4 d.nd d.dt:=by
  obtain ⟨q3,q4,e,h3,h4⟩:=HP0.h3.ints;simp only [Value.agg.injEq,Array.mk.injEq,List.cons.injEq,and_true,true_and] at e;obtain ⟨rfl,rfl⟩:=e;exact ⟨_,_,h3,h4⟩
 have L0:Below w.heap.size w ((w.alloc (.cells cs 41)).alloc (.cells zR 41)):=((Below.refl _ _).alloc (Nat.le_refl _) _).alloc (by simp) _;have k:((w.alloc (.cells cs 41)).alloc (.cells zR 41)).heap[w.heap.size]?=some (.cells cs 41 (0,0)):=Az (Ak w cs 41) _
 have kr:((w.alloc (.cells cs 41)).alloc (.cells zR 41)).heap[w.heap.size+1]?=some (.cells zR 41 (0,0)):=by simpa using Ak (w.alloc (.cells cs 41)) zR 41
 have HT8:=Ac (fun W (h3:Ints .i64 W F3 u3 d.nt d.tb) (h4:Ints .i64 W F4 u4 d.nd d.dt)=>Jej W F3 F4 d.t d.c d.s d.ad d.pl d.bl u3 u4 d.nt d.tb d.nd d.dt h3 h4 (Oc hok.ppu));have HT10:=Ac (fun W=>Uv W d.T d.P d.K d.B d.L d.Q d.R hok.apu);rw [Uu hok.apu (by rw [<- hok.same]; exact ht)] at HT10
 obtain ⟨tt,htt⟩:∃ x,Hid (x=J5 d.t):=⟨_,rfl⟩
 obtain ⟨tb',htb⟩:∃ x,Hid (x=N9 d.t d.bl):=⟨_,rfl⟩
 obtain ⟨an,han⟩:∃ x,Hid (x=Sk d.t d.c):=⟨_,rfl⟩
 obtain ⟨xK,hxK⟩:∃ x,Hid (x=Qb d.P d.K):=⟨_,rfl⟩
 obtain ⟨xB,hxB⟩:∃ x,Hid (x=Ni d.K d.B d.L):=⟨_,rfl⟩
 obtain ⟨xL,hxL⟩:∃ x,Hid (x=Qc d.T d.L):=⟨_,rfl⟩
 obtain ⟨xR,hxR⟩:∃ x,Hid (x=Ut d.T d.L d.Q d.R):=⟨_,rfl⟩
 obtain ⟨xV,hxV⟩:∃ x,Hid (x=tvA d.T d.K d.B d.L):=⟨_,rfl⟩
 obtain ⟨told,htold⟩:∃ x,Hid (x=Eb d.T):=⟨_,rfl⟩
 obtain ⟨T1,hT1⟩:∃ x,Hid (x=d.T+1):=⟨_,rfl⟩
 rw [<- han.out] at HT8;rw [<- hT1.out,<- hxK.out,<- hxB.out,<- hxL.out,<- hxR.out,<- hxV.out,<- htold.out] at HT10
 go_enter func54,ntmps54
 go_upto_region 1 with (fail);have HP1:=HP0.below L0;have I30:=I3.keep (Aa L0 Aj) (fun _ _ _ x=>x);have I40:=I4.keep (Aa L0 Aj) (fun _ _ _ x=>x);have bd0:=HP0.bd;have n60:=HP0.n6;have n70:=HP0.n7;clear HP0 I3 I4;generalize ((w.alloc (.cells cs 41)).alloc (.cells zR 41))=W0 at *;have c:=Af k;go_wp2_with fail;refine (HT8.out W0 I30 I40).mono ?_;rintro e W1 ⟨vv,zz,rfl,TK⟩;clear I30 I40 HT8 c;have HTK:=Ac TK;obtain ⟨DP,DQ,on,lon,dj,lw,L1⟩:=TK.r.tk.ex;obtain ⟨a3,x3,a4,x4,rfl⟩:=on.two;obtain ⟨a5,x5,e5,S5⟩:=lon.ex;subst e5
 have hQ:∀ b,(0<Ml d.t d.nd/\a5=some ⟨b,0,none⟩)->DQ b/\b<W1.heap.size:=fun b ⟨h0,e⟩=>by
  have hF:Cz a5 (Ml d.t d.nd) b 0:=⟨0,e,by omega,by omega⟩
  exact ⟨S5.on b 0 hF,(S5.free b 0 hF).1⟩
 have HP2:=(HP1.below L1).ticked (P:=fun b=>DP b/\b<W1.heap.size) (Q:=fun b=>0<Ml d.t d.nd/\a5=some ⟨b,0,none⟩) (q:=W1.heap.size) (on.mono (fun b hb h=>⟨h,hb⟩)) (fun b h=>by
  have l1:=L0.size;have l2:=L1.size
  rcases h with h | h
  .have:=lw b (Or.inl h.1); omega
  .have h2:=hQ b h
   have:=lw b (Or.inr h2.1); omega) (fun b h h'=>dj b h.1 (hQ b h').1) hlo (by have l1:=L0.size; have l2:=L1.size; omega) (Nat.le_refl _)
 obtain ⟨DD,HD,hD7,hDB⟩:∃ DD,A9 W1 lo W1.heap.size DD u0 u1 u2 (.slice a3 d.nt x3) (.slice a4 (tkM d.t d.nd) x4) ov gb cp g6 c6 g7 c7 (Ju d)/\(∀ b,(0<Ml d.t d.nd/\a5=some ⟨b,0,none⟩)->DD 7 b)/\∀ i b,DD i b->b≠w.heap.size/\b≠w.heap.size+1/\((∃ j,D j b)\/w.heap.size<=b):=⟨_,HP2,fun b h=>Or.inr (Or.inl ⟨rfl,h⟩),fun i b h=>by
  have l1:=Ad kr
  rcases h with ⟨-,h⟩ | ⟨-,h⟩ | ⟨-,-,h⟩
  .have:=lw b (Or.inl h.1); exact ⟨by omega,by omega,Or.inr (by omega)⟩
  .have:=lw b (Or.inr (hQ b h).1); exact ⟨by omega,by omega,Or.inr (by omega)⟩
  .have:=bd0 i b h; exact ⟨by omega,by omega,Or.inl ⟨_,h⟩⟩⟩
 rw [<- htt.out,<- htb.out]
 have RT1:Kg W1 lo a5 (Ml d.t d.nd) x5 d.dt DD:=⟨fun h0=>by
  obtain ⟨q,y,e,r⟩:=HTK.out.told h0;have e':=e;simp only [Value.slice.injEq,true_and] at e'
  exact ⟨q,y,e,r.mono (by have:=L0.size; omega),hD7 q ⟨h0,e'.1⟩⟩⟩
 have k1:=Ab k L1 (Ad k);have kr1:=Ab kr L1 (Ad kr);have C1:=Ah L0 L1;have l0:=Ad kr1
 have g6w:g6≠w.heap.size/\g6≠w.heap.size+1:=by omega
 have g7w:g7≠w.heap.size/\g7≠w.heap.size+1:=by omega
 clear TK k kr HP1 HP2 L0 hQ lw dj lon on S5 bd0;have LA:Below W1.heap.size W1 (W1.alloc (.cells (pR tt d.c d.s d.ad d.pl tb' (.slice a3 d.nt x3) (.slice a4 (tkM d.t d.nd) x4)) 33)):=(Below.refl _ _).alloc (Nat.le_refl _) _;have k1a:=Ab k1 LA (Ad k1);have c:=Af k1a;have c1:=Af k1;have kpa:=Ak W1 (pR tt d.c d.s d.ad d.pl tb' (.slice a3 d.nt x3) (.slice a4 (tkM d.t d.nd) x4)) 33;go_wp2_with fail
 obtain ⟨pp,hpp⟩:∃ x,Hid (x=W1.heap.size):=⟨_,rfl⟩
 have lpp:w.heap.size+1<pp:=by rw [hpp.out]; exact l0
 rw [<- hpp.out] at kpa ⊢;have C2:=Ah C1 LA;have kr2:=Ab kr1 LA (Ad kr1);have HD2:=HD.below LA;have RT2:=RT1.below LA;clear c c1 k1 kr1 C1 LA hpp HD L1 RT1;generalize W1.alloc (.cells (pR tt d.c d.s d.ad d.pl tb' (.slice a3 d.nt x3) (.slice a4 (tkM d.t d.nd) x4)) 33)=WA at *;refine (HT10.out WA).mono ?_;rintro e W2 ⟨rfl,L2⟩;have C3:=Ah C2 L2;have kr3:=Ab kr2 L2 (Ad kr2);have k3:=Ab k1a L2 (Ad k1a);have kp3:=Ab kpa L2 (Ad kpa);have HD3:=HD2.below L2;have RT3:=RT2.below L2;clear kr2 k1a kpa HD2 C2 L2 HT10 RT2;have LA:Below W2.heap.size W2 (W2.alloc (.cells (aR T1 d.P xK xB xL d.Q xR) 35)):=(Below.refl _ _).alloc (Nat.le_refl _) _;have kq:=Ak W2 (aR T1 d.P xK xB xL d.Q xR) 35;go_upto_region 4 with (fail)
 obtain ⟨pq,hpq⟩:∃ x,Hid (x=W2.heap.size):=⟨_,rfl⟩
 have lpq:w.heap.size+1<pq:=by rw [hpq.out]; exact Ad kr3
 rw [<- hpq.out] at kq ⊢;have C4:=Ah C3 LA;have kr4:=Ab kr3 LA (Ad kr3);have k4:=Ab k3 LA (Ad k3);have kp4:=Ab kp3 LA (Ad kp3);have HD4:=HD3.below LA;have RT4:=RT3.below LA;clear kr3 k3 kp3 HD3 C3 LA hpq RT3;generalize W2.alloc (.cells (aR T1 d.P xK xB xL d.Q xR) 35)=W4 at *;rename_i K4 hK4;refine wp_region_lit ?_;refine wpList_load_row rfl _ _ rfl pp rfl _ _ _ _ kp4 underlying33 rfl V8 ?_
 iterate 1 (refine wpList_plain rfl (fun K9 hK9=>?_); go_simp; refine hK9 _ _ ?_; clear hK9)
 refine Be rfl _ _ _ rfl w.heap.size 12 (pR tt d.c d.s d.ad d.pl tb' (.slice a3 d.nt x3) (.slice a4 (tkM d.t d.nd) x4)) rfl rfl _ _ k4 V8 (by rw [hs.out]; show (12+8:Nat)<=34; omega) (by first | kernel_rfl | simp [Value.oneCell']) ?_;have T5:=Bq k4 (putAt cs 12 (pR tt d.c d.s d.ad d.pl tb' (.slice a3 d.nt x3) (.slice a4 (tkM d.t d.nd) x4)));have k5:=setRow_heap _ _ _ (putAt cs 12 (pR tt d.c d.s d.ad d.pl tb' (.slice a3 d.nt x3) (.slice a4 (tkM d.t d.nd) x4))) _ _ k4;have kq5:=Ag kq T5 (fun o (h:_=_)=>by omega);have kr5:=Ag kr4 T5 (fun o (h:_=_)=>by omega);have C5:=C4.trans (T5.below C4.size (fun b o hb (h:b=_)=>by omega));have HD5:=HD4.keepD T5 (fun i b o h (e:b=_)=>(hDB i b h).1 e) (fun o (e:_=_)=>g6w.1 e) (fun o (e:_=_)=>g7w.1 e)
 have RT5:=RT4.keep T5 (fun q o h (e:q=_)=>(hDB 7 q h).1 e);clear k4 kp4 kq kr4 C4 HD4 T5 RT4;generalize W4.setRow w.heap.size (putAt cs 12 (pR tt d.c d.s d.ad d.pl tb' (.slice a3 d.nt x3) (.slice a4 (tkM d.t d.nd) x4)))=W5 at *;refine hK4 _ _ ?_;clear hK4
 have e5:putAt cs 12 (pR tt d.c d.s d.ad d.pl tb' (.slice a3 d.nt x3) (.slice a4 (tkM d.t d.nd) x4))=(kR { d with t:=tt,bl:=tb' } u0 u1 u2 (.slice a3 d.nt x3) (.slice a4 (tkM d.t d.nd) x4) ov (.slice (some ⟨g6,0,none⟩) d.ns c6) (.slice (some ⟨g7,0,none⟩) d.nq c7)):=by rw [hcs.out]; rfl
 rw [e5] at k5;clear e5 f12 f13 f14 f15 f16 f17 f18 f19 f20 f21 f22 f23 f24 f25 f26 f27 f28 f29 f30 f31 f32 f33;go_upto_region 5 with (fail);rename_i K5' hK5;refine wp_region_lit ?_;refine wpList_load_row rfl _ _ rfl pq rfl _ _ _ _ kq5 underlying35 rfl V9 ?_
 iterate 1 (refine wpList_plain rfl (fun K9 hK9=>?_); go_simp; refine hK9 _ _ ?_; clear hK9)
 refine Be rfl _ _ _ rfl w.heap.size 20 (aR T1 d.P xK xB xL d.Q xR) rfl rfl _ _ k5 V9 (by show (20+7:Nat)<=34; omega) (by first | kernel_rfl | simp [Value.oneCell']) ?_;have T6:=Bq k5 (putAt (kR { d with t:=tt,bl:=tb' } u0 u1 u2 (.slice a3 d.nt x3) (.slice a4 (tkM d.t d.nd) x4) ov (.slice (some ⟨g6,0,none⟩) d.ns c6) (.slice (some ⟨g7,0,none⟩) d.nq c7)) 20 (aR T1 d.P xK xB xL d.Q xR));have k6:=setRow_heap _ _ _ (putAt (kR { d with t:=tt,bl:=tb' } u0 u1 u2 (.slice a3 d.nt x3) (.slice a4 (tkM d.t d.nd) x4) ov (.slice (some ⟨g6,0,none⟩) d.ns c6) (.slice (some ⟨g7,0,none⟩) d.nq c7)) 20 (aR T1 d.P xK xB xL d.Q xR)) _ _ k5;have kr6:=Ag kr5 T6 (fun o (h:_=_)=>by omega);have C6:=C5.trans (T6.below C5.size (fun b o hb (h:b=_)=>by omega))
 have HD6:=HD5.keepD T6 (fun i b o h (e:b=_)=>(hDB i b h).1 e) (fun o (e:_=_)=>g6w.1 e) (fun o (e:_=_)=>g7w.1 e);have RT6:=RT5.keep T6 (fun q o h (e:q=_)=>(hDB 7 q h).1 e);clear k5 kq5 kr5 C5 HD5 T6 RT5;generalize W5.setRow w.heap.size (putAt (kR { d with t:=tt,bl:=tb' } u0 u1 u2 (.slice a3 d.nt x3) (.slice a4 (tkM d.t d.nd) x4) ov (.slice (some ⟨g6,0,none⟩) d.ns c6) (.slice (some ⟨g7,0,none⟩) d.nq c7)) 20 (aR T1 d.P xK xB xL d.Q xR))=W6 at *;refine hK5 _ _ ?_;clear hK5
 have e6:putAt (kR { d with t:=tt,bl:=tb' } u0 u1 u2 (.slice a3 d.nt x3) (.slice a4 (tkM d.t d.nd) x4) ov (.slice (some ⟨g6,0,none⟩) d.ns c6) (.slice (some ⟨g7,0,none⟩) d.nq c7)) 20 (aR T1 d.P xK xB xL d.Q xR)=(kR { d with t:=tt,bl:=tb',T:=T1,K:=xK,B:=xB,L:=xL,R:=xR } u0 u1 u2 (.slice a3 d.nt x3) (.slice a4 (tkM d.t d.nd) x4) ov (.slice (some ⟨g6,0,none⟩) d.ns c6) (.slice (some ⟨g7,0,none⟩) d.nq c7)):=rfl;rw [e6] at k6;clear e6;have m64:d.t.tmod 64=d.t%64:=Int.tmod_eq_emod_of_nonneg hok.ppu.t0
 have T13:Eb d.T=decide (d.t%16=15):=by unfold Eb; rw [hok.same]
 obtain ⟨nm,hnm⟩:∃ x,Hid (x=d.nmi):=⟨_,rfl⟩
 rw [<- hnm.out] at k6
 obtain ⟨dF,hdF⟩:∃ x,Hid (x=if d.t%64=48 then Hi (Ju d) 48 d.dt else Ju d):=⟨_,rfl⟩
 obtain ⟨k5,hk5⟩:∃ x,Hid (x=Ml d.t d.nd):=⟨_,rfl⟩
 rw [<- hk5.out] at RT6 ⊢
 go_upto_if 33 with (fail)
 go_cut [6] (fun s WX=>s=.bool an/\∃ (ox:Value) (gx cx:Nat->Nat) (NX:Nat) (DE:Nat->Nat->Prop),WX.heap[w.heap.size]?=some (.cells (kR { d with t:=tt,bl:=tb',T:=T1,K:=xK,B:=xB,L:=xL,R:=xR,nmi:=nm } u0 u1 u2 (.slice a3 d.nt x3) (.slice a4 (tkM d.t d.nd) x4) ox (.slice (some ⟨g6,0,none⟩) dF.ns c6) (.slice (some ⟨g7,0,none⟩) d.nq c7)) 41 (0,0))/\WX.heap[w.heap.size+1]?=some (.cells zR 41 (0,0))/\A9 WX lo NX DE u0 u1 u2 (.slice a3 d.nt x3) (.slice a4 (tkM d.t d.nd) x4) ox gx cx g6 c6 g7 c7 dF/\(∀ i b,DE i b->b≠w.heap.size/\b≠w.heap.size+1/\((∃ j,D j b)\/w.heap.size<=b))/\Below lo w WX/\Eg w WX/\ox.oneCell'=true)
 case first =>
  rename_i J Kq hJ hKq
  by_cases h48:d.t%64=48
  .have eF:Hid (dF=Hi (Ju d) 48 d.dt):=by show _=_; rw [hdF.out,if_pos h48]
   rw [h48] at m64
   have hm:Ml d.t d.nd=48:=by unfold Ml; rw [if_neg ht,if_pos h48]; exact hok.nd48 h48
   obtain rfl:k5=48:=hk5.out.trans hm;obtain ⟨q,y,e5,RN,d7⟩:=RT6.ex (by omega);simp only [Value.slice.injEq,true_and] at e5;obtain ⟨rfl,rfl⟩:=e5;clear RT6 hD7 HTK;have LA:Below W6.heap.size W6 (W6.alloc (.cells #[.slice (some ⟨q,0,none⟩) 48 x5] 27)):=(Below.refl _ _).alloc (Nat.le_refl _) _;have hE:=Af (Ak W6 #[.slice (some ⟨q,0,none⟩) 48 x5] 27) 0;have c0':=Af (Ab k6 LA (Ad k6));have c0s:=Af k6;have HQA:=Ac (HD6.below LA);have kA:=Ac (Ab k6 LA (Ad k6));have krA:=Ac (Ab kr6 LA (Ad kr6));have CA:=Ac (Ah C6 LA);have RNA:=Ac (RN.below LA);clear HD6 LA k6 kr6 C6 RN;go_wp2_with (at_builtin; refine Fx _ rfl _ _ rfl lo ov d.mf _ rfl HQA.out.h4.own hok.mfs (Nat.le_trans hlo CA.out.size) W6.heap.size (.slice (some ⟨q,0,none⟩) 48 x5) rfl rfl hE ?_);intro g9 c9 W9 own9 hW hat9;clear c0' c0s hE
   replace hat9:ov.ownBlock=some g9\/(W6.alloc (.cells #[.slice (some ⟨q,0,none⟩) 48 x5] 27)).heap.size<=g9:=by simpa using hat9
   have hp5:Dw (Ek (Ju d).lf (Ju d).mf 48) ((Ju d).mf+1)<=1099511627776:=Lf (by have:=hok.mfs; show d.mf+1<=1048576; omega) (fun i hi=>by
    show (if i=d.mf then 48 else d.lf i)<=1048576
    split
    .omega
    .rw [hok.lf i (by replace hi:i<d.mf+1:=hi; omega)]; omega)
   have H9:=HQA.out.frame (h:=d.dt) (by have:=CA.out.size; have:=HQA.out.n6; have:=HQA.out.h6.parts.1; omega) hW own9 hat9 RNA.out d7 hok.mfs hp5;have ka:=Al kA.out hW (fun o e=>(hDB 4 _ (HQA.out.h4D _ (Or.inl e))).1 rfl);have kra:=Al krA.out hW (fun o e=>(hDB 4 _ (HQA.out.h4D _ (Or.inl e))).2.1 rfl);have Ka:Eg w W9:=(Eg.below CA.out).wrote hW (fun b o hb e=>by obtain ⟨cur,hc⟩:=HQA.out.h4.cur e; exact ⟨cur,Or.inr hc⟩);have Ca:Below lo w W9:=(CA.out.mono hlo).trans (hW.below (Nat.le_trans hlo CA.out.size) (fun b o hb e=>by have:=Df HQA.out.h4.own e; omega));have hz1:=Ad krA.out
   have hg9:g9≠w.heap.size/\g9≠w.heap.size+1:=by
    rcases hat9 with e | h
    .exact ⟨(hDB 4 _ (HQA.out.h4D _ (Or.inl e))).1,(hDB 4 _ (HQA.out.h4D _ (Or.inl e))).2.1⟩
    .omega
   have hg9n:(∃ j,D j g9)\/w.heap.size<=g9:=by
    rcases hat9 with e | h
    .exact (hDB 4 _ (HQA.out.h4D _ (Or.inl e))).2.2
    .exact Or.inr (by omega)
   obtain ⟨DE,HE,hDE⟩:∃ DE,Hid (A9 W9 lo W9.heap.size DE u0 u1 u2 (.slice a3 d.nt x3) (.slice a4 (tkM d.t d.nd) x4) (.slice (some ⟨g9,0,none⟩) (d.mf+1) c9) (fun i=>if i=d.mf then q else gb i) (fun i=>if i=d.mf then x5 else cp i) g6 c6 g7 c7 (Hi (Ju d) 48 d.dt))/\∀ i b,DE i b->b≠w.heap.size/\b≠w.heap.size+1/\((∃ j,D j b)\/w.heap.size<=b):=⟨_,Ac H9,fun i b h=>by
    rcases h with ⟨-,h | h | h⟩ | ⟨-,-,h⟩
    .rw [h]; exact ⟨hg9.1,hg9.2,hg9n⟩
    .exact hDB 4 b h
    .exact hDB 7 b h
    .exact hDB i b h⟩
   clear hW own9 hat9 HQA kA krA CA RNA hp5 H9 hg9 hDB d7;have d9:=Af ka;have f9:=Au ka;have kb:=Am (o:=31) ka (.slice (some ⟨g9,0,none⟩) (d.mf+1) c9);simp only [Sa,Sb,Sc] at kb;have TB:=Wz 31 (Wrote.refl (fun b _=>b=w.heap.size) W9) (.slice (some ⟨g9,0,none⟩) (d.mf+1) c9);have krb:=Al kra TB (fun o (h:_=_)=>by omega);have HB:=Ac (HE.out.keepD TB (fun i b o h (e:b=_)=>(hDE i b h).1 e) (fun o (e:_=_)=>g6w.1 e) (fun o (e:_=_)=>g7w.1 e));have Kb:=Ka.wrote TB (fun b o hb (h:b=_)=>by exfalso; omega);have Cb:=Ca.trans (TB.below (by have:=Ca.size; omega) (fun b o hb (h:b=_)=>by omega));clear HE kra Ca Ka;go_wp2_with fail
   go_meet
   exact ⟨rfl,_,_,_,_,DE,by rw [eF.out]; exact kb,krb,by rw [eF.out]; exact HB.out,hDE,Cb,Kb,rfl⟩
  .have b2:(d.t%64==48)=false:=by simpa using h48
   have eF:Hid (dF=Ju d):=by show _=_; rw [hdF.out,if_neg h48]
   go_wp2_with fail
   go_meet
   exact ⟨rfl,ov,gb,cp,_,_,by rw [eF.out]; exact k6,kr6,by rw [eF.out]; exact HD6,hDB,C6.mono hlo,Eg.below C6,hoV⟩
 case rest =>
 obtain ⟨rfl,ox,gx,cx,NX,DE,ka,kra,HE,hDE,Ca,Ka,hox⟩:=hcut
 obtain ⟨WF,hWF⟩:∃ y,y=wc:=⟨_,rfl⟩
 subst hWF
 have hns:dF.ns<1048576:=by rw [hdF.out]; split <;> exact hok.nss
 clear HD6 k6 kr6 C6 hDB RT6 hD7 HTK
 obtain ⟨dS,hdS⟩:∃ x,Hid (x=if told=true then Ly dF xV else dF):=⟨_,rfl⟩
 go_upto_if 42 with (fail)
 go_cut [6] (fun s WX=>s=.bool an/\∃ (g8 c8:Nat) (NX:Nat) (DS:Nat->Nat->Prop),WX.heap[w.heap.size]?=some (.cells (kR { d with t:=tt,bl:=tb',T:=T1,K:=xK,B:=xB,L:=xL,R:=xR,nmi:=nm } u0 u1 u2 (.slice a3 d.nt x3) (.slice a4 (tkM d.t d.nd) x4) ox (.slice (some ⟨g8,0,none⟩) dS.ns c8) (.slice (some ⟨g7,0,none⟩) d.nq c7)) 41 (0,0))/\WX.heap[w.heap.size+1]?=some (.cells zR 41 (0,0))/\A9 WX lo NX DS u0 u1 u2 (.slice a3 d.nt x3) (.slice a4 (tkM d.t d.nd) x4) ox gx cx g8 c8 g7 c7 dS/\(∀ i b,DS i b->b≠w.heap.size/\b≠w.heap.size+1/\((∃ j,D j b)\/w.heap.size<=b))/\(g8≠w.heap.size/\g8≠w.heap.size+1)/\Below lo w WX/\Eg w WX)
 case first =>
  rename_i J Kq hJ hKq
  rcases Bool.eq_false_or_eq_true told with hto | hto
  .subst hto
   have eS:Hid (dS=Ly dF xV):=by show _=_; rw [hdS.out,if_pos rfl]
   have LA:Below WF.heap.size WF (WF.alloc (.cells #[.i xV] 3)):=(Below.refl _ _).alloc (Nat.le_refl _) _;have hE:=Af (Ak WF #[.i xV] 3) 0;have c0':=Af (Ab ka LA (Ad ka));have c0s:=Af ka;have HQA:=Ac (HE.below LA);have kA:=Ac (Ab ka LA (Ad ka));have krA:=Ac (Ab kra LA (Ad kra));have CA:=Ac (Ca.trans (LA.mono (by have:=Ca.size; omega)));have KA:=Ac (Ka.trans (Eg.below LA));clear HE LA ka kra Ca Ka;go_wp2_with (at_builtin; refine Eu _ rfl _ _ rfl lo g6 dF.ns c6 dF.sm rfl HQA.out.h6 hns WF.heap.size xV rfl hE ?_);intro g8 c8 W8 R8 hW hat8;clear c0' c0s hE
   replace hat8:(g8=g6/\dF.ns+1<=c6)\/(WF.alloc (.cells #[.i xV] 3)).heap.size<=g8:=by simpa using hat8
   have H8:=HQA.out.samp (x:=xV) (by have:=HQA.out.n6; have:=HQA.out.h6.parts.1; omega) hW R8 hat8;have ka:=Al kA.out hW (fun o ⟨e,_⟩=>g6w.1 e.symm);have kra:=Al krA.out hW (fun o ⟨e,_⟩=>g6w.2 e.symm);have Ka:Eg w W8:=KA.out.wrote hW (fun b o hb ⟨e,_⟩=>by subst e; obtain ⟨cur,hc⟩:=HQA.out.h6.cur; exact ⟨cur,Or.inl hc⟩);have Ca:Below lo w W8:=CA.out.trans (hW.below (by have:=CA.out.size; omega) (fun b o hb ⟨e,_⟩=>by have:=HQA.out.h6.parts.1; omega));have hz1:=Ad krA.out
   have g8w:g8≠w.heap.size/\g8≠w.heap.size+1:=by
    rcases hat8 with ⟨e,_⟩ | h
    .rw [e]; exact g6w
    .omega
   have g8n:(∃ j,D j g8)\/w.heap.size<=g8:=by
    rcases hat8 with ⟨e,hc⟩ | h
    .rw [e]
     rcases HQA.out.h6D with h | h
     .exact (hDE 5 _ h).2.2
     .have h2:c6=0:=h.2
      exfalso
      omega
    .exact Or.inr (by omega)
   have hDE':∀ i b,((i=5/\b=g8)\/(i≠5/\DE i b))->b≠w.heap.size/\b≠w.heap.size+1/\((∃ j,D j b)\/w.heap.size<=b):=fun i b h=>by
    rcases h with ⟨-,h⟩ | ⟨-,h⟩
    .rw [h]; exact ⟨g8w.1,g8w.2,g8n⟩
    .exact hDE i b h
   clear hW R8 hat8 HQA kA krA CA KA;have d9:=Af ka;have f9:=Au ka;have kb:=Am (o:=32) ka (.slice (some ⟨g8,0,none⟩) (dF.ns+1) c8);simp only [Sa,Sb,Sc] at kb;have TB:=Wz 32 (Wrote.refl (fun b _=>b=w.heap.size) W8) (.slice (some ⟨g8,0,none⟩) (dF.ns+1) c8);have krb:=Al kra TB (fun o (h:_=_)=>by omega);have HB:=Ac (H8.keepD TB (fun i b o h (e:b=_)=>(hDE' i b h).1 e) (fun o (e:_=_)=>g8w.1 e) (fun o (e:_=_)=>g7w.1 e));have Kb:=Ka.wrote TB (fun b o hb (h:b=_)=>by exfalso; omega);have Cb:=Ca.trans (TB.below (by have:=Ca.size; omega) (fun b o hb (h:b=_)=>by omega));clear H8 kra Ca Ka;go_wp2_with fail
   go_meet
   exact ⟨rfl,g8,c8,_,_,by rw [eS.out]; exact kb,krb,by rw [eS.out]; exact HB.out,hDE',g8w,Cb,Kb⟩
  .subst hto
   have eS:Hid (dS=dF):=by show _=_; rw [hdS.out,if_neg (by decide)]
   go_wp2_with fail
   go_meet
   exact ⟨rfl,g6,c6,_,DE,by rw [eS.out]; exact ka,kra,by rw [eS.out]; exact HE,hDE,g6w,Ca,Ka⟩
 case rest =>
 obtain ⟨rfl,g8,c8,NS,DS,kS,krS,HS,hDS,g8w,CS,KS⟩:=hcut
 obtain ⟨WS,hWS⟩:∃ y,y=wc:=⟨_,rfl⟩
 subst hWS;clear HE ka kra hDE Ca Ka g6w hns
 obtain ⟨nx,hnx⟩:∃ x,Hid (x=(nm || an)):=⟨_,rfl⟩
 go_upto_region 10 with (fail)
 go_cut [6] (fun s WX=>s=.bool an/\WX=WS.setCell ⟨w.heap.size,29,none⟩ (.bool nx))
 case first =>
  rename_i J Kq hJ hKq;have d9:=Af kS;have f9:=Au kS;have hx:=hnx.out;clear hnx hnm han kS HS;subst hx;cases nm
  .go_wp2_with fail
   go_meet
   exact ⟨rfl,rfl⟩
  .go_wp2_with fail
   go_meet
   exact ⟨rfl,rfl⟩
 case rest =>
 obtain ⟨rfl,rfl⟩:=hcut
 have HEQ:Hid (Ds d={ dS with T:=d.T+1,K:=Qb d.P d.K,B:=Ni d.K d.B d.L,L:=Qc d.T d.L,R:=Ut d.T d.L d.Q d.R,nmi:=nx }):=by
  show _=_
  rw [hdS.out,hdF.out,hnx.out,hnm.out,han.out,htold.out,hxV.out]
  by_cases h48:d.t%64=48
  .rw [<- hok.nd48 h48]
   cases h:Eb d.T <;> simp only [Ds,Ly,Hi,Ju,h48,h,if_true,if_false,Bool.false_eq_true]
  .cases h:Eb d.T <;> simp only [Ds,Ly,Hi,Ju,h48,h,if_true,if_false,Bool.false_eq_true]
 have kb:=Am (o:=29) kS (.bool nx);simp only [Sa,Sb,Sc] at kb;have TB:=Wz 29 (Wrote.refl (fun b _=>b=w.heap.size) WS) (.bool nx);have krb:=Al krS TB (fun o (h:_=_)=>by omega);have HB:=Ac (HS.keepD TB (fun i b o h (e:b=_)=>(hDS i b h).1 e) (fun o (e:_=_)=>g8w.1 e) (fun o (e:_=_)=>g7w.1 e));have Kb:=KS.wrote TB (fun b o hb (h:b=_)=>by exfalso; omega);have Cb:=CS.trans (TB.below (by have:=CS.size; omega) (fun b o hb (h:b=_)=>by omega));clear HS krS CS KS kS TB;generalize WS.setCell ⟨w.heap.size,29,none⟩ (.bool nx)=Wb at *;go_upto_region 11 with (fail);rename_i K2 hK2;refine wp_region_lit ?_;refine wpList_load_row rfl _ _ rfl w.heap.size rfl _ _ _ _ kb underlying41 rfl An ?_
 refine wpList_store_row rfl _ _ _ rfl (w.heap.size+1) _ rfl rfl _ _ krb An rfl (by simp only [Value.oneCell'] at ho0 ho1 ho2 hox; simp [Value.oneCell',ho0,ho1,ho2,hox]) ?_;have B3:=setRow_heap _ _ _ (kR { d with t:=tt,bl:=tb',T:=T1,K:=xK,B:=xB,L:=xL,R:=xR,nmi:=nx } u0 u1 u2 (.slice a3 d.nt x3) (.slice a4 (tkM d.t d.nd) x4) ox (.slice (some ⟨g8,0,none⟩) dS.ns c8) (.slice (some ⟨g7,0,none⟩) d.nq c7)) _ _ krb;have TR:=As krb (kR { d with t:=tt,bl:=tb',T:=T1,K:=xK,B:=xB,L:=xL,R:=xR,nmi:=nx } u0 u1 u2 (.slice a3 d.nt x3) (.slice a4 (tkM d.t d.nd) x4) ox (.slice (some ⟨g8,0,none⟩) dS.ns c8) (.slice (some ⟨g7,0,none⟩) d.nq c7));have HF:=Ac (HB.out.keepD TR (fun i b o h (e:b=_)=>(hDS i b h).2.1 e) (fun o (e:_=_)=>g8w.2 e) (fun o (e:_=_)=>g7w.2 e))
 have KF:=Ac (Kb.wrote TR (fun b o hb (h:b=_)=>by exfalso; omega));have CF:=Ac (Cb.trans (TR.below (by have:=Cb.size; omega) (fun b o hb (h:b=_)=>by omega)));clear HB TR kb krb Cb Kb;generalize Wb.setRow (w.heap.size+1) (kR { d with t:=tt,bl:=tb',T:=T1,K:=xK,B:=xB,L:=xL,R:=xR,nmi:=nx } u0 u1 u2 (.slice a3 d.nt x3) (.slice a4 (tkM d.t d.nd) x4) ox (.slice (some ⟨g8,0,none⟩) dS.ns c8) (.slice (some ⟨g7,0,none⟩) d.nq c7))=Wz at *;refine hK2 _ _ ?_;clear hK2;go_wp2;refine bodyPost_ret (v:=.agg (kR { d with t:=tt,bl:=tb',T:=T1,K:=xK,B:=xB,L:=xL,R:=xR,nmi:=nx } u0 u1 u2 (.slice a3 d.nt x3) (.slice a4 (tkM d.t d.nd) x4) ox (.slice (some ⟨g8,0,none⟩) dS.ns c8) (.slice (some ⟨g7,0,none⟩) d.nq c7))) (results_cell_row (by rfl) _ _ (w.heap.size+1) _ _ _ _ rfl B3 underlying41 rfl An) rfl ?_;rw [HEQ.out]
 have HL:A9 Wz lo _ _ _ _ _ _ _ _ _ _ _ _ _ _ { dS with T:=d.T+1,K:=Qb d.P d.K,B:=Ni d.K d.B d.L,L:=Qc d.T d.L,R:=Ut d.T d.L d.Q d.R,nmi:=nx }:=⟨HF.out.h0,HF.out.h1,HF.out.h2,HF.out.h3,HF.out.h4,HF.out.h4D,HF.out.h6,HF.out.h6D,HF.out.h7,HF.out.h7D,HF.out.dis,HF.out.bd,HF.out.n6,HF.out.n7,HF.out.nN,HF.out.hps⟩
 have HO:=A9.nx (E:=D) (w:=w) HL (fun i b h=>(hDS i b h).2.2);refine ⟨_,rfl,?_,CF.out,KF.out⟩;rw [htt.out,htb.out,hT1.out,hxK.out,hxB.out,hxL.out,hxR.out]
 rcases (show dS=Ju d\/dS=Hi (Ju d) 48 d.dt\/dS=Ly (Ju d) xV\/dS=Ly (Hi (Ju d) 48 d.dt) xV by
  rw [hdS.out,hdF.out]
  split <;> split <;> simp) with e | e | e | e
 all_goals
  clear hdS hdF HEQ;subst e;exact HO
end Go.Proofs.YtijljlnooibbmaaGreatDoor
