import Derived.Test.YtijljlnooibbmaaGreatDoorGT
import Derived.Test.YtijljlnooibbmaaGreatDoorKS
namespace Go.Proofs.YtijljlnooibbmaaGreatDoor
set_option maxHeartbeats 8000000
set_option maxRecDepth 40000
open Go.Proofs.Tryz
set_option linter.unusedVariables false
set_option linter.unusedSimpArgs false
open Go.ChangeShapes Go.WideShapes Go.ChangeAt Go.RowKit
def newD (m:Nat) (ln:Nat->Nat) (f:Nat->Nat->Int) (np:Nat) (p:Nat->Int):Aq :=
 { m:=m,ln:=ln,f:=f,np:=np,p:=p,nr:=512,g:=fun _=>0,bank:=0,A:=0,X:=0,S:=255,Pc:=Uk m ln f,Z:=false,N:=false,C:=false,I:=true,t:=0,c:=0,s:=0,ad:=0,pl:=0,bl:=false,nt:=16,tb:=fun _=>0,nd:=0,dt:=fun _=>0,T:=0,P:=0,K:=0,B:=0,L:=0,Q:=false,R:=false,hd:=false,sh:=0,nmi:=false,st:=0,mf:=0,lf:=fun _=>0,fr:=fun _ _=>0,ns:=0,sm:=fun _=>0,nq:=0,rd:=fun _=>0 }
def Y6:Aq :=
 { m:=0,ln:=fun _=>0,f:=fun _ _=>0,np:=0,p:=fun _=>0,nr:=0,g:=fun _=>0,bank:=0,A:=0,X:=0,S:=0,Pc:=0,Z:=false,N:=false,C:=false,I:=false,t:=0,c:=0,s:=0,ad:=0,pl:=0,bl:=false,nt:=0,tb:=fun _=>0,nd:=0,dt:=fun _=>0,T:=0,P:=0,K:=0,B:=0,L:=0,Q:=false,R:=false,hd:=false,sh:=0,nmi:=false,st:=0,mf:=0,lf:=fun _=>0,fr:=fun _ _=>0,ns:=0,sm:=fun _=>0,nq:=0,rd:=fun _=>0 }
theorem Cu.none0 {W:World} {D:Nat->Prop} (f:Nat->Nat->Int):Cu W D (.slice none 0 0) 0 (fun _=>0) f :=
 ⟨fun _=>none,fun _=>0,⟨⟨none,0,rfl,by omega,fun i hi=>absurd hi (Nat.not_lt_zero _)⟩,fun i hi=>absurd hi (Nat.not_lt_zero _),fun i j hi=>absurd hi (Nat.not_lt_zero _),by simp [Dw]⟩,fun i hi=>absurd hi (Nat.not_lt_zero _),fun i hi=>absurd hi (Nat.not_lt_zero _),fun a cap e b o hF=>absurd hF (A4 _ _ _),fun i hi=>absurd hi (Nat.not_lt_zero _)⟩
theorem Vl {W:World} {D:Nat->Nat->Prop}:Aw W D (.agg #[.slice none 0 0,.slice none 0 0,.slice none 0 0,.i 0,.i 0,.i 0,.i 0,.i 0,.bool false,.bool false,.bool false,.bool false,.i 0,.i 0,.i 0,.i 0,.i 0,.bool false,.slice none 0 0,.slice none 0 0,.i 0,.i 0,.i 0,.i 0,.i 0,.bool false,.bool false,.bool false,.i 0,.bool false,.i 0,.slice none 0 0,.slice none 0 0,.slice none 0 0]) Y6 :=
 ⟨_,_,_,_,_,_,_,_,rfl,Cu.none0 _,⟨_,_,rfl,Bu.zero _ _⟩,⟨_,_,rfl,by show (0:Nat)<=_; omega,fun i hi=>absurd hi (Nat.not_lt_zero _),fun b o hF=>absurd hF (A4 _ _ _),fun b o hF=>absurd hF (A4 _ _ _)⟩,⟨_,_,_,_,rfl,Bu.zero _ _,Bu.zero _ _,fun b o h=>absurd h (A4 _ _ _)⟩,⟨_,_,_,rfl,Cu.none0 _,⟨_,_,rfl,Bu.zero _ _⟩,⟨_,_,rfl,Bu.zero _ _⟩⟩⟩
theorem Jet {W:World} {D:Nat->Nat->Prop} {m:Nat} {ln:Nat->Nat} {f:Nat->Nat->Int} {np:Nat} {p:Nat->Int} {b0:Option Addr} {e0 g1 y1:Nat} {b2:Option Addr} {e2 q8:Nat} {pc:Int} (hpc:pc=Uk m ln f)
  (h0:Cu W (D 0) (.slice b0 m e0) m ln f) (h1:Bs W (D 1) (.slice (some ⟨g1,0,none⟩) np y1) np p) (h2:Bw W (D 2) (.agg #[.slice b2 512 e2,.i 0]) 512 (fun _=>0) 0) (h3:Co W (D 3) (.agg (pR 0 0 0 0 0 false (.slice (some ⟨q8,0,none⟩) 16 16) (.slice none 0 0))) 0 0 0 0 0 false 16 (fun _=>0) 0 (fun _=>0)):Aw W D (.agg #[.slice b0 m e0,.slice (some ⟨g1,0,none⟩) np y1,.slice b2 512 e2,.i 0,.i 0,.i 0,.i 255,.i pc,.bool false,.bool false,.bool false,.bool true,.i 0,.i 0,.i 0,.i 0,.i 0,.bool false,.slice (some ⟨q8,0,none⟩) 16 16,.slice none 0 0,.i 0,.i 0,.i 0,.i 0,.i 0,.bool false,.bool false,.bool false,.i 0,.bool false,.i 0,.slice none 0 0,.slice none 0 0,.slice none 0 0]) (newD m ln f np p):=by
 subst hpc;exact ⟨_,_,_,_,_,_,_,_,rfl,h0,h1,h2,h3,⟨_,_,_,rfl,Cu.none0 _,⟨_,_,rfl,Bu.zero _ _⟩,⟨_,_,rfl,Bu.zero _ _⟩⟩⟩
theorem Bs.zeroOf {W:World} {D:Nat->Prop} {a:Option Addr} {n c:Nat} {f:Nat->Int} (h:n=0):Bs W D (.slice a n c) n f:=by
 subst h;exact ⟨_,_,rfl,Bu.zero _ _⟩
structure Jgc (w w':World) (v:Value) (d:Aq):Prop where
 ex:∃ D,Aw w' D v d/\Dis D/\∀ i b,D i b->w.heap.size<=b/\b<w'.heap.size
def D4 (l1 h1 l4 h4 g l5 h5 l8 h8:Nat):Nat->Nat->Prop:=fun i b=>(i=0/\l1<=b/\b<h1)\/(i=1/\((l4<=b/\b<h4)/\(l4<=g/\g<h4)))\/(i=2/\l5<=b/\b<h5)\/(i=3/\l8<=b/\b<h8)
theorem D4.dis {l1 h1 l4 h4 g l5 h5 l8 h8:Nat} (d14:h1<=l4\/h4<=l1) (d15:h1<=l5\/h5<=l1) (d18:h1<=l8\/h8<=l1) (d45:h4<=l5\/h5<=l4) (d48:h4<=l8\/h8<=l4) (d58:h5<=l8\/h8<=l5):Dis (D4 l1 h1 l4 h4 g l5 h5 l8 h8):=by
 intro i j b k1 k2
 rcases k1 with ⟨rfl,_,_⟩ | ⟨rfl,_,_⟩ | ⟨rfl,_,_⟩ | ⟨rfl,_,_⟩ <;> rcases k2 with ⟨rfl,_,_⟩ | ⟨rfl,_,_⟩ | ⟨rfl,_,_⟩ | ⟨rfl,_,_⟩ <;> first | rfl | omega
theorem D4.bd {l1 h1 l4 h4 g l5 h5 l8 h8 S N:Nat} (e1:S<=l1/\h1<=N) (e4:S<=l4/\h4<=N) (e5:S<=l5/\h5<=N) (e8:S<=l8/\h8<=N):∀ i b,D4 l1 h1 l4 h4 g l5 h5 l8 h8 i b->S<=b/\b<N:=by
 intro i b h
 rcases h with ⟨rfl,_,_⟩ | ⟨rfl,_,_⟩ | ⟨rfl,_,_⟩ | ⟨rfl,_,_⟩ <;> omega
theorem Jeu {l h lx hx b x:Nat} (d:hx<=l\/h<=lx) (h1:l<=b) (h2:b<h) (h3:lx<=x) (h4:x<hx):¬ b=x:=by omega
theorem Vm (w:World) (F G:Nat->Nat->Prop) (u v:Value) (m:Nat) (ln:Nat->Nat) (f:Nat->Nat->Int) (np:Nat) (p:Nat->Int) (H:Bg .i64 w F u m ln f) (K:Ints .i64 w G v np p) :
  Calls prog 77 #[.agg #[u],v] w fun e w'=>∃ v',e=.returned (.tuple #[v',.bool (okLock (newD m ln f np p))])/\Jgc w w' v' (if okLock (newD m ln f np p) then newD m ln f np p else Y6)/\Below w.heap.size w w':=by
 obtain ⟨ia,ic,rfl,-⟩:=id H;obtain ⟨pa,pcap,rfl,pn,-,-⟩:=id K
 obtain ⟨pc,hpc⟩:∃ x,Hid (x=Uk m ln f):=⟨_,rfl⟩
 have HC:=Ac (fun W F v h=>Ww W F v m ln f h);rw [<- hpc.out] at HC
 obtain ⟨d,hd⟩:∃ d,Hid (d=newD m ln f np p):=⟨_,rfl⟩
 rw [<- hd.out];have L0:Below w.heap.size w ((w.alloc (.cells #[.slice ia m ic] 26)).alloc (.cells #[.slice none 0 0,.slice none 0 0,.slice none 0 0,.i 0,.i 0,.i 0,.i 0,.i 0,.bool false,.bool false,.bool false,.bool false,.i 0,.i 0,.i 0,.i 0,.i 0,.bool false,.slice none 0 0,.slice none 0 0,.i 0,.i 0,.i 0,.i 0,.i 0,.bool false,.bool false,.bool false,.i 0,.bool false,.i 0,.slice none 0 0,.slice none 0 0,.slice none 0 0] 41)):=((Below.refl _ _).alloc (Nat.le_refl _) _).alloc (by simp) _
 have k0:((w.alloc (.cells #[.slice ia m ic] 26)).alloc (.cells #[.slice none 0 0,.slice none 0 0,.slice none 0 0,.i 0,.i 0,.i 0,.i 0,.i 0,.bool false,.bool false,.bool false,.bool false,.i 0,.i 0,.i 0,.i 0,.i 0,.bool false,.slice none 0 0,.slice none 0 0,.i 0,.i 0,.i 0,.i 0,.i 0,.bool false,.bool false,.bool false,.i 0,.bool false,.i 0,.slice none 0 0,.slice none 0 0,.slice none 0 0] 41)).heap[w.heap.size]?=some (.cells #[.slice ia m ic] 26 (0,0)):=Az (Ak w _ _) _
 have k1:((w.alloc (.cells #[.slice ia m ic] 26)).alloc (.cells #[.slice none 0 0,.slice none 0 0,.slice none 0 0,.i 0,.i 0,.i 0,.i 0,.i 0,.bool false,.bool false,.bool false,.bool false,.i 0,.i 0,.i 0,.i 0,.i 0,.bool false,.slice none 0 0,.slice none 0 0,.i 0,.i 0,.i 0,.i 0,.i 0,.bool false,.bool false,.bool false,.i 0,.bool false,.i 0,.slice none 0 0,.slice none 0 0,.slice none 0 0] 41)).heap[w.heap.size+1]?=some (.cells #[.slice none 0 0,.slice none 0 0,.slice none 0 0,.i 0,.i 0,.i 0,.i 0,.i 0,.bool false,.bool false,.bool false,.bool false,.i 0,.i 0,.i 0,.i 0,.i 0,.bool false,.slice none 0 0,.slice none 0 0,.i 0,.i 0,.i 0,.i 0,.i 0,.bool false,.bool false,.bool false,.i 0,.bool false,.i 0,.slice none 0 0,.slice none 0 0,.slice none 0 0] 41 (0,0)):=by simpa using Ak (w.alloc (.cells #[.slice ia m ic] 26)) #[.slice none 0 0,.slice none 0 0,.slice none 0 0,.i 0,.i 0,.i 0,.i 0,.i 0,.bool false,.bool false,.bool false,.bool false,.i 0,.i 0,.i 0,.i 0,.i 0,.bool false,.slice none 0 0,.slice none 0 0,.i 0,.i 0,.i 0,.i 0,.i 0,.bool false,.bool false,.bool false,.i 0,.bool false,.i 0,.slice none 0 0,.slice none 0 0,.slice none 0 0] 41
 go_enter func77,ntmps77
 go_upto_region 1 with (fail);generalize (w.alloc (.cells #[.slice ia m ic] 26)).alloc (.cells #[.slice none 0 0,.slice none 0 0,.slice none 0 0,.i 0,.i 0,.i 0,.i 0,.i 0,.bool false,.bool false,.bool false,.bool false,.i 0,.i 0,.i 0,.i 0,.i 0,.bool false,.slice none 0 0,.slice none 0 0,.i 0,.i 0,.i 0,.i 0,.i 0,.bool false,.bool false,.bool false,.i 0,.bool false,.i 0,.slice none 0 0,.slice none 0 0,.slice none 0 0] 41)=W0 at *;replace H:=H.keep (Aa L0 Aj) (fun _ _ _ x=>x);replace K:=K.keep (Aa L0 Aj) (fun _ _ _ x=>x);have hb1:=Ad k1
 obtain ⟨S,hS⟩:∃ S,Hid (S=W0.heap.size):=⟨_,rfl⟩
 rename_i KK hKK
 refine Oj 11 [some 7,some 8,some 9,some 10,some 11,some 12,some 13,some 14,some 15,some 16,some 6,none] (by kernel_rfl) (by kernel_rfl) (by kernel_rfl) (by kernel_rfl) (by kernel_rfl) (by simp [slotsOf])
  (fun _=>Aj)
  (fun i V lo hi W=>match i with
   | 0=>V 0=.agg #[.slice ia m ic]
   | 1=>∃ b0 e0,V 1=.agg #[.slice b0 m e0]/\Cu W (fun b=>lo<=b/\b<hi) (.slice b0 m e0) m ln f
   | 2=>∃ gE,V 2=.sl gE 0 0 0/\W.heap[gE]?=some (.cells #[] 3 (0,0))/\S<=gE
   | 3=>V 3=.slice pa np pcap
   | 4=>∃ g1 y1,V 4=.sl g1 0 np y1/\Row W S g1 np y1 p/\((lo<=g1/\g1<hi)\/(np=0/\y1=0))
   | 5=>∃ b2 e2,V 5=.agg #[.slice b2 512 e2,.i 0]/\Bw W (fun b=>lo<=b/\b<hi) (.agg #[.slice b2 512 e2,.i 0]) 512 (fun _=>0) 0
   | 6=>V 6=.agg #[.slice ia m ic]
   | 7=>V 7=.agg (cR 0 0 255 pc false false false true)
   | 8=>∃ q8,V 8=.agg (pR 0 0 0 0 0 false (.sl q8 0 16 16) (.slice none 0 0))/\Co W (fun b=>lo<=b/\b<hi) (.agg (pR 0 0 0 0 0 false (.sl q8 0 16 16) (.slice none 0 0))) 0 0 0 0 0 false 16 (fun _=>0) 0 (fun _=>0)
   | 9=>∃ b0 e0 g1 y1 b2 e2 q8,V 1=.agg #[.slice b0 m e0]/\V 4=.sl g1 0 np y1/\V 5=.agg #[.slice b2 512 e2,.i 0]/\V 8=.agg (pR 0 0 0 0 0 false (.sl q8 0 16 16) (.slice none 0 0))/\V 9=.agg #[.slice b0 m e0,.sl g1 0 np y1,.slice b2 512 e2,.i 0,.i 0,.i 0,.i 255,.i pc,.bool false,.bool false,.bool false,.bool true,.i 0,.i 0,.i 0,.i 0,.i 0,.bool false,.sl q8 0 16 16,.slice none 0 0,.i 0,.i 0,.i 0,.i 0,.i 0,.bool false,.bool false,.bool false,.i 0,.bool false,.i 0,.slice none 0 0,.slice none 0 0,.slice none 0 0]
   | 10=>∃ b,V 10=(pt b 0)/\W.heap[b]?=some (.cells #[.slice none 0 0,.slice none 0 0,.slice none 0 0,.i 0,.i 0,.i 0,.i 0,.i 0,.bool false,.bool false,.bool false,.bool false,.i 0,.i 0,.i 0,.i 0,.i 0,.bool false,.slice none 0 0,.slice none 0 0,.i 0,.i 0,.i 0,.i 0,.i 0,.bool false,.bool false,.bool false,.i 0,.bool false,.i 0,.slice none 0 0,.slice none 0 0,.slice none 0 0] 41 (0,0))/\lo<=b/\b<hi
   | _=>True) ?_ ?_ ?_
 .intro i j o V x lo hi W W' hij _ _ ho hnw hlo hhi hW h
  have nw:∀ k,A0 o k=true->k≠j:=fun k hk e=>by rw [e,hnw] at hk; cases hk
  match i,ho,hij,nw,h with
  | 0,_,hij,_,h=>exact (Ar V x hij).trans h
  | 3,_,hij,_,h=>exact (Ar V x hij).trans h
  | 6,_,hij,_,h=>exact (Ar V x hij).trans h
  | 7,_,hij,_,h=>exact (Ar V x hij).trans h
  | 1,_,hij,_,⟨b0,e0,h1,h2⟩=>exact ⟨b0,e0,(Ar V x hij).trans h1,h2.keep hW (fun _ _ _ _ x=>x)⟩
  | 2,_,hij,_,⟨gE,h1,h2,h3⟩=>exact ⟨gE,(Ar V x hij).trans h1,Al h2 hW (fun _ x=>x),h3⟩
  | 4,_,hij,_,⟨g,c,h1,h2,h3⟩=>exact ⟨g,c,(Ar V x hij).trans h1,h2.keep hW (fun _ x=>x),h3⟩
  | 5,_,hij,_,⟨b2,e2,h1,h2⟩=>exact ⟨b2,e2,(Ar V x hij).trans h1,h2.keep hW (fun _ _ _ _ x=>x)⟩
  | 8,_,hij,_,⟨q8,h1,h2⟩=>exact ⟨q8,(Ar V x hij).trans h1,h2.keep hW (fun _ _ _ _ x=>x)⟩
  | 9,ho,hij,nw,⟨b0,e0,g1,y1,b2,e2,q8,h1,h4,h5,h8,h9⟩ =>
   cases ho;exact ⟨b0,e0,g1,y1,b2,e2,q8,(Ar V x (nw 1 (by kernel_rfl))).trans h1,(Ar V x (nw 4 (by kernel_rfl))).trans h4,(Ar V x (nw 5 (by kernel_rfl))).trans h5,(Ar V x (nw 8 (by kernel_rfl))).trans h8,(Ar V x hij).trans h9⟩
  | 10,_,hij,_,⟨b,h1,h2,h3⟩=>exact ⟨b,(Ar V x hij).trans h1,Al h2 hW (fun _ x=>x),h3⟩
  | n+11,_,_,_,_=>exact trivial
 .intro i o a' W K' hin ho F' L hw hK
  have hS':=hS.out;have t1:=F'.get (t:=1) (v:=.slice pa np pcap) (by decide) rfl;have t2:=F'.get (t:=2) (v:=(pt w.heap.size 0)) (by decide) rfl;have LN:Wrote Aj W0 W:=L.mono (fun b o _ ⟨j,_,_,_,_,h⟩=>h)
  have WS:S<=W.heap.size:=by have:=LN.size; omega
  match i with
  | 0 =>
    cases ho;have rb:=Af (Al k0 LN (fun _ x=>x));go_simp;exact Hk hK (Ai _ _ _)
  | 6 =>
    cases ho;have rb:=Af (Al k0 LN (fun _ x=>x));go_simp;exact Hk hK (Ai _ _ _)
  | 1 =>
    cases ho
    have q0:tv a' 7=.agg #[.slice ia m ic]:=by obtain ⟨_,_,_,_,q⟩:=Hr hw 0; exact q
    go_simp;refine (Ve W _ _ m ln f (H.keep LN (fun _ _ _ x=>x))).mono ?_;rintro e W' ⟨v0,rfl,G0,LB⟩;obtain ⟨b0,e0,rfl⟩:=G0.form;exact hK _ _ (Aa LB _) ⟨b0,e0,Ai _ _ _,G0⟩
  | 2 =>
    cases ho;go_simp;exact hK _ _ ((Wrote.refl _ W).alloc _) ⟨_,Ai _ _ _,Ak W #[] 3,WS⟩
  | 3 =>
    cases ho;go_simp;exact Hk hK (Ai _ _ _)
  | 4 =>
    cases ho;obtain ⟨_,_,_,_,gE,q2,q2b,q2c⟩:=Hr hw 2;replace q2:a'.tmps[9]?.getD undef=.sl gE 0 0 0:=q2
    have q3:tv a' 10=.slice pa np pcap:=by obtain ⟨_,_,_,_,q⟩:=Hr hw 3; exact q
    refine Jq W (.tmp 9) (.tmp 10) rfl gE (by simpa [Act.eval] using q2) q2b S q2c _ _ np p (by simpa [Act.eval] using q3) (K.keep LN (fun _ _ _ x=>x)) ?_;intro g c W' hR hB hat;refine hK _ _ (Aa hB _) ⟨g,c,Ai _ _ _,hR,?_⟩
    rcases hat with h | h
    .exact Or.inr (hR.none0 (by rw [h]; exact Ab q2b hB (Ad q2b)))
    .exact Or.inl ⟨h,hR.parts.2.1⟩
  | 5 =>
    cases ho;go_simp;refine (Nw W).mono ?_;rintro e W' ⟨q,rfl,G2,LB⟩;have M2:=(Bw.own (bank:=0) G2).mono (E:=fun b=>W.heap.size<=b/\b<W'.heap.size) (fun b hb h=>⟨h,hb⟩);obtain ⟨b2,e2,hx2⟩:=M2.two;simp only [Value.agg.injEq,Array.mk.injEq,List.cons.injEq,and_true] at hx2;subst hx2;exact hK _ _ (Aa LB _) ⟨b2,e2,Ai _ _ _,M2⟩
  | 7 =>
    cases ho
    have q6:tv a' 13=.agg #[.slice ia m ic]:=by obtain ⟨_,_,_,_,q⟩:=Hr hw 6; exact q
    go_simp;refine (HC.out W _ _ (H.keep LN (fun _ _ _ x=>x))).mono ?_;rintro e W' ⟨rfl,LB⟩;exact hK _ _ (Aa LB _) (Ai _ _ _)
  | 8 =>
    cases ho;go_simp;refine (Xb W).mono ?_;rintro e W' ⟨q8,rfl,R8,LB⟩;exact hK _ _ (Aa LB _) ⟨q8,Ai _ _ _,⟨_,_,_,_,rfl,R8.onD ⟨R8.parts.1,R8.parts.2.1⟩,Bu.zero _ _,fun b o _ h=>absurd h (A4 _ _ _)⟩⟩
  | 9 =>
    cases ho;obtain ⟨_,_,_,_,b0,e0,v1,_⟩:=Hr hw 1;obtain ⟨_,_,_,_,g1,y1,v4,_⟩:=Hr hw 4;obtain ⟨_,_,_,_,b2,e2,v5,_⟩:=Hr hw 5;obtain ⟨_,_,_,_,v7⟩:=Hr hw 7;obtain ⟨_,_,_,_,q8,v8,_⟩:=Hr hw 8;have s1:a'.tmps[8]?.getD undef=.agg #[.slice b0 m e0]:=v1;have s4:a'.tmps[11]?.getD undef=.sl g1 0 np y1:=v4;have s5:a'.tmps[12]?.getD undef=.agg #[.slice b2 512 e2,.i 0]:=v5;have s7:a'.tmps[14]?.getD undef=.agg (cR 0 0 255 pc false false false true):=v7;have s8:a'.tmps[15]?.getD undef=.agg (pR 0 0 0 0 0 false (.sl q8 0 16 16) (.slice none 0 0)):=v8;go_simp;exact Hk hK ⟨b0,e0,g1,y1,b2,e2,q8,(Ar _ _ (by decide)).trans v1,(Ar _ _ (by decide)).trans v4,(Ar _ _ (by decide)).trans v5,(Ar _ _ (by decide)).trans v8,Ai _ _ _⟩
  | 10 =>
    cases ho;go_simp;exact hK _ _ ((Wrote.refl _ W).alloc _) ⟨W.heap.size,Ai _ _ _,Ak W _ _,Nat.le_refl _,by simp⟩
  | n+11=>omega
 .intro o a' W K' ho F' L lo hi hφ hdj hK
  have hS':=hS.out;cases ho;have LN:Wrote Aj W0 W:=L.mono (fun b o _ ⟨j,h⟩=>h);obtain ⟨a1,c1,z1,b0,e0,v1,G0⟩:=Hd hφ 1;obtain ⟨a4,c4,z4,g1,y1,v4,R1,hR1⟩:=Hd hφ 4;obtain ⟨a5,c5,z5,b2,e2,v5,G2⟩:=Hd hφ 5;obtain ⟨a8,c8,z8,q8,v8,G3⟩:=Hd hφ 8;obtain ⟨-,-,-,b0',e0',g1',y1',b2',e2',q8',w1,w4,w5,w8,v9⟩:=Hd hφ 9;obtain ⟨a10,c10,z10,bx,v10,rX,x1,x2⟩:=Hd hφ 10
  have dj:=fun i j h1 h2 h3=>hdj i j h1 h2 h3
  rw [v1] at w1;rw [v4] at w4;rw [v5] at w5;rw [v8] at w8;simp only [Value.agg.injEq,Array.mk.injEq,List.cons.injEq,Value.slice.injEq,Option.some.injEq,Addr.mk.injEq,and_true,true_and] at w1 w4 w5 w8;obtain ⟨rfl,rfl⟩:=w1;obtain ⟨rfl,rfl⟩:=w4;obtain ⟨rfl,rfl⟩:=w5;subst w8;have s9:a'.tmps[16]?.getD undef=.agg #[.slice b0 m e0,.sl g1 0 np y1,.slice b2 512 e2,.i 0,.i 0,.i 0,.i 255,.i pc,.bool false,.bool false,.bool false,.bool true,.i 0,.i 0,.i 0,.i 0,.i 0,.bool false,.sl q8 0 16 16,.slice none 0 0,.i 0,.i 0,.i 0,.i 0,.i 0,.bool false,.bool false,.bool false,.i 0,.bool false,.i 0,.slice none 0 0,.slice none 0 0,.slice none 0 0]:=v9;have s10:a'.tmps[6]?.getD undef=(pt bx 0):=v10
  refine wp_store_row _ _ _ rfl bx #[.slice b0 m e0,.sl g1 0 np y1,.slice b2 512 e2,.i 0,.i 0,.i 0,.i 255,.i pc,.bool false,.bool false,.bool false,.bool true,.i 0,.i 0,.i 0,.i 0,.i 0,.bool false,.sl q8 0 16 16,.slice none 0 0,.i 0,.i 0,.i 0,.i 0,.i 0,.bool false,.bool false,.bool false,.i 0,.bool false,.i 0,.slice none 0 0,.slice none 0 0,.slice none 0 0] (by simpa [Act.eval] using s10) (by simpa [Act.eval] using s9) _ _ rX An rfl (by first | kernel_rfl | simp [Value.oneCell']) ?_;refine hK _ _ ?_;have hW1:=LN.size
  have WW:=As rX #[.slice b0 m e0,.sl g1 0 np y1,.slice b2 512 e2,.i 0,.i 0,.i 0,.i 255,.i pc,.bool false,.bool false,.bool false,.bool true,.i 0,.i 0,.i 0,.i 0,.i 0,.bool false,.sl q8 0 16 16,.slice none 0 0,.i 0,.i 0,.i 0,.i 0,.i 0,.bool false,.bool false,.bool false,.i 0,.bool false,.i 0,.slice none 0 0,.slice none 0 0,.slice none 0 0];have B6:=setRow_heap _ _ _ #[.slice b0 m e0,.sl g1 0 np y1,.slice b2 512 e2,.i 0,.i 0,.i 0,.i 255,.i pc,.bool false,.bool false,.bool false,.bool true,.i 0,.i 0,.i 0,.i 0,.i 0,.bool false,.sl q8 0 16 16,.slice none 0 0,.i 0,.i 0,.i 0,.i 0,.i 0,.bool false,.bool false,.bool false,.i 0,.bool false,.i 0,.slice none 0 0,.slice none 0 0,.slice none 0 0] _ _ rX;have k0':=Al (Al k0 LN (fun _ x=>x)) WW (fun o (e:_=_)=>by omega)
  have k1':=Al (Al k1 LN (fun _ x=>x)) WW (fun o (e:_=_)=>by omega);have C1:Below w.heap.size w (W.setRow bx #[.slice b0 m e0,.sl g1 0 np y1,.slice b2 512 e2,.i 0,.i 0,.i 0,.i 255,.i pc,.bool false,.bool false,.bool false,.bool true,.i 0,.i 0,.i 0,.i 0,.i 0,.bool false,.sl q8 0 16 16,.slice none 0 0,.i 0,.i 0,.i 0,.i 0,.i 0,.bool false,.bool false,.bool false,.i 0,.bool false,.i 0,.slice none 0 0,.slice none 0 0,.slice none 0 0]):=(L0.trans (LN.below L0.size (fun b o hb h=>h))).trans (WW.below (by omega) (fun b o hb (e:b=_)=>by omega))
  have DD:Hid (∃ D,Aw (W.setRow bx #[.slice b0 m e0,.sl g1 0 np y1,.slice b2 512 e2,.i 0,.i 0,.i 0,.i 255,.i pc,.bool false,.bool false,.bool false,.bool true,.i 0,.i 0,.i 0,.i 0,.i 0,.bool false,.sl q8 0 16 16,.slice none 0 0,.i 0,.i 0,.i 0,.i 0,.i 0,.bool false,.bool false,.bool false,.i 0,.bool false,.i 0,.slice none 0 0,.slice none 0 0,.slice none 0 0]) D (.agg #[.slice b0 m e0,.sl g1 0 np y1,.slice b2 512 e2,.i 0,.i 0,.i 0,.i 255,.i pc,.bool false,.bool false,.bool false,.bool true,.i 0,.i 0,.i 0,.i 0,.i 0,.bool false,.sl q8 0 16 16,.slice none 0 0,.i 0,.i 0,.i 0,.i 0,.i 0,.bool false,.bool false,.bool false,.i 0,.bool false,.i 0,.slice none 0 0,.slice none 0 0,.slice none 0 0]) d/\Dis D/\∀ i b,D i b->S<=b/\b<W.heap.size):=by
   show ∃ D,_
   rw [hd.out];refine ⟨D4 (lo 1) (hi 1) (lo 4) (hi 4) g1 (lo 5) (hi 5) (lo 8) (hi 8),Jet hpc.out ?_ ?_ ?_ ?_,D4.dis (dj 1 4 (by decide) (by decide) (by decide)) (dj 1 5 (by decide) (by decide) (by decide)) (dj 1 8 (by decide) (by decide) (by decide)) (dj 4 5 (by decide) (by decide) (by decide)) (dj 4 8 (by decide) (by decide) (by decide)) (dj 5 8 (by decide) (by decide) (by decide)),D4.bd ⟨by rw [hS']; exact a1,z1⟩ ⟨by rw [hS']; exact a4,z4⟩ ⟨by rw [hS']; exact a5,z5⟩ ⟨by rw [hS']; exact a8,z8⟩⟩
   .exact (G0.keep WW (fun b o hb _=>Jeu (dj 10 1 (by decide) (by decide) (by decide)) hb.1 hb.2 x1 x2)).mono (fun b _ h=>Or.inl ⟨rfl,h⟩)
   .rcases hR1 with h | ⟨h,-⟩
    .exact ⟨_,_,rfl,(R1.keep WW (fun o=>Jeu (dj 10 4 (by decide) (by decide) (by decide)) h.1 h.2 x1 x2)).onD (Or.inr (Or.inl ⟨rfl,h,h⟩))⟩
    .exact Bs.zeroOf h
   .exact (G2.keep WW (fun b o hb _=>Jeu (dj 10 5 (by decide) (by decide) (by decide)) hb.1 hb.2 x1 x2)).mono (fun b _ h=>Or.inr (Or.inr (Or.inl ⟨rfl,h⟩)))
   .exact (G3.keep WW (fun b o hb _=>Jeu (dj 10 8 (by decide) (by decide) (by decide)) hb.1 hb.2 x1 x2)).mono (fun b _ h=>Or.inr (Or.inr (Or.inr ⟨rfl,h⟩)))
  have hWs:(W.setRow bx #[.slice b0 m e0,.sl g1 0 np y1,.slice b2 512 e2,.i 0,.i 0,.i 0,.i 255,.i pc,.bool false,.bool false,.bool false,.bool true,.i 0,.i 0,.i 0,.i 0,.i 0,.bool false,.sl q8 0 16 16,.slice none 0 0,.i 0,.i 0,.i 0,.i 0,.i 0,.bool false,.bool false,.bool false,.i 0,.bool false,.i 0,.slice none 0 0,.slice none 0 0,.slice none 0 0]).heap.size=W.heap.size:=by have:=WW.size; simp
  rw [F'.same,show slotsOf [some 7,some 8,some 9,some 10,some 11,some 12,some 13,some 14,some 15,some 16,some 6,none]=[7,8,9,10,11,12,13,14,15,16,6] from rfl];simp only [List.foldl_cons,List.foldl_nil];rw [s10];generalize a'.tmps[7]?.getD undef=s7;generalize a'.tmps[8]?.getD undef=s8;generalize a'.tmps[9]?.getD undef=s9';generalize a'.tmps[10]?.getD undef=s10';generalize a'.tmps[11]?.getD undef=s11;generalize a'.tmps[12]?.getD undef=s12;generalize a'.tmps[13]?.getD undef=s13;generalize a'.tmps[14]?.getD undef=s14;generalize a'.tmps[15]?.getD undef=s15;generalize a'.tmps[16]?.getD undef=s16
  have hx0:w.heap.size+1<bx:=by omega
  clear hφ hdj dj v1 v4 v5 v8 v9 v10 F' L LN k0 k1 H K L0 HC rX s9 s10 G0 G2 G3 R1 hR1 WW hW1
  obtain ⟨cN,hcN⟩:∃ c:Array Value,Hid (c=#[.slice b0 m e0,.sl g1 0 np y1,.slice b2 512 e2,.i 0,.i 0,.i 0,.i 255,.i pc,.bool false,.bool false,.bool false,.bool true,.i 0,.i 0,.i 0,.i 0,.i 0,.bool false,.sl q8 0 16 16,.slice none 0 0,.i 0,.i 0,.i 0,.i 0,.i 0,.bool false,.bool false,.bool false,.i 0,.bool false,.i 0,.slice none 0 0,.slice none 0 0,.slice none 0 0]):=⟨_,rfl⟩
  have sN:cN.size=34:=by rw [hcN.out]; rfl
  have oneN:cN.all (·.oneCell')=true:=by rw [hcN.out]; first | kernel_rfl | simp [Value.oneCell']
  rw [<- hcN.out] at B6 k0' k1' C1 DD hWs ⊢;generalize W.setRow bx cN=W1 at *;obtain ⟨D,HL,dis,bd⟩:=DD.out;clear DD hcN;refine hKK _ _ ?_;clear hKK;go_simp;go_upto_region 2 with (fail);refine wp_region_lit ?_;refine wpList_load_row rfl _ _ rfl (bx) rfl _ _ _ _ B6 underlying41 rfl (infoAt An sN) ?_;go_wp2_with fail;refine (Is _ D _ d HL).mono ?_;rintro e W3 ⟨rfl,LB⟩;replace C1:=Ah C1 LB;replace k1':=Ab k1' LB (Ad k1');replace B6:=Ab B6 LB (Ad B6);replace HL:=HL.below LB;have l23:=LB.size;clear LB k0';cases hok:okLock d
  .go_upto_region 3 with (fail)
   rename_i K2 hK2;refine wp_region_lit ?_;refine wpList_plain rfl (fun K3 hK3=>?_);go_simp;refine hK3 _ _ ?_;clear hK3;refine wpList_store_row rfl _ _ _ rfl (w.heap.size+1) #[.slice none 0 0,.slice none 0 0,.slice none 0 0,.i 0,.i 0,.i 0,.i 0,.i 0,.bool false,.bool false,.bool false,.bool false,.i 0,.i 0,.i 0,.i 0,.i 0,.bool false,.slice none 0 0,.slice none 0 0,.i 0,.i 0,.i 0,.i 0,.i 0,.bool false,.bool false,.bool false,.i 0,.bool false,.i 0,.slice none 0 0,.slice none 0 0,.slice none 0 0] rfl rfl _ _ k1' An rfl (by first | kernel_rfl | simp [Value.oneCell']) ?_
   have B3:=setRow_heap _ _ _ #[.slice none 0 0,.slice none 0 0,.slice none 0 0,.i 0,.i 0,.i 0,.i 0,.i 0,.bool false,.bool false,.bool false,.bool false,.i 0,.i 0,.i 0,.i 0,.i 0,.bool false,.slice none 0 0,.slice none 0 0,.i 0,.i 0,.i 0,.i 0,.i 0,.bool false,.bool false,.bool false,.i 0,.bool false,.i 0,.slice none 0 0,.slice none 0 0,.slice none 0 0] _ _ k1';have WW:=As k1' #[.slice none 0 0,.slice none 0 0,.slice none 0 0,.i 0,.i 0,.i 0,.i 0,.i 0,.bool false,.bool false,.bool false,.bool false,.i 0,.i 0,.i 0,.i 0,.i 0,.bool false,.slice none 0 0,.slice none 0 0,.i 0,.i 0,.i 0,.i 0,.i 0,.bool false,.bool false,.bool false,.i 0,.bool false,.i 0,.slice none 0 0,.slice none 0 0,.slice none 0 0];have LL:=Ac (C1.trans (WW.below C1.size (fun b o hb (e:b=_)=>by omega)));clear WW HL C1 B6 k1'
   generalize W3.setRow (w.heap.size+1) #[.slice none 0 0,.slice none 0 0,.slice none 0 0,.i 0,.i 0,.i 0,.i 0,.i 0,.bool false,.bool false,.bool false,.bool false,.i 0,.i 0,.i 0,.i 0,.i 0,.bool false,.slice none 0 0,.slice none 0 0,.i 0,.i 0,.i 0,.i 0,.i 0,.bool false,.bool false,.bool false,.i 0,.bool false,.i 0,.slice none 0 0,.slice none 0 0,.slice none 0 0]=W4 at *;refine wpList_plain rfl (fun K3 hK3=>?_);go_simp;refine hK3 _ _ ?_;clear hK3;refine hK2 _ _ ?_;go_wp2
   refine bodyPost_ret (v:=.tuple #[.agg #[.slice none 0 0,.slice none 0 0,.slice none 0 0,.i 0,.i 0,.i 0,.i 0,.i 0,.bool false,.bool false,.bool false,.bool false,.i 0,.i 0,.i 0,.i 0,.i 0,.bool false,.slice none 0 0,.slice none 0 0,.i 0,.i 0,.i 0,.i 0,.i 0,.bool false,.bool false,.bool false,.i 0,.bool false,.i 0,.slice none 0 0,.slice none 0 0,.slice none 0 0],.bool false]) (A2 results77 _ _ (w.heap.size+1) _ _ _ _ rfl B3 underlying41 rfl An) rfl ?_;refine ⟨_,rfl,⟨fun _ _=>False,?_,fun i j b h=>h.elim,fun i b h=>h.elim⟩,LL.out⟩
   first | exact Vl | (rw [if_neg (by decide)]; exact Vl)
  .go_upto_region 4 with (fail)
   rename_i K2 hK2;refine wp_region_lit ?_;refine wpList_load_row rfl _ _ rfl (bx) rfl _ _ _ _ B6 underlying41 rfl (infoAt An sN) ?_;refine wpList_store_row rfl _ _ _ rfl (w.heap.size+1) cN rfl rfl _ _ k1' (infoAt An sN) (by rw [sN]; rfl) oneN ?_;have B3:=setRow_heap _ _ _ cN _ _ k1';have WW:=As k1' cN;have OO:=Ac (HL.keep WW (fun i b o h _ (e:b=_)=>by have:=bd _ _ h; omega));have LL:=Ac (C1.trans (WW.below C1.size (fun b o hb (e:b=_)=>by omega)));have hz:=WW.size;clear WW HL C1 B6;generalize W3.setRow (w.heap.size+1) cN=W4 at *;refine wpList_plain rfl (fun K3 hK3=>?_);go_simp;refine hK3 _ _ ?_;clear hK3;refine hK2 _ _ ?_;go_wp2;refine bodyPost_ret (v:=.tuple #[.agg cN,.bool true]) (A2 results77 _ _ (w.heap.size+1) _ _ _ _ rfl B3 underlying41 rfl (infoAt An sN)) rfl ?_
   refine ⟨_,rfl,⟨D,?_,dis,fun i b h=>?_⟩,LL.out⟩
   .first | exact OO.out | (rw [if_pos rfl]; exact OO.out)
   .have:=bd _ _ h
    omega
end Go.Proofs.YtijljlnooibbmaaGreatDoor
