import Derived.Test.YtijljlnooibbmaaGreatDoorIJ
import Derived.Test.YtijljlnooibbmaaGreatDoorSC
namespace Go.Proofs.YtijljlnooibbmaaGreatDoor
set_option maxHeartbeats 4000000
set_option maxRecDepth 8000
open Go.Proofs.Tryz
set_option linter.unusedVariables false
set_option linter.unusedSimpArgs false
open Go.ChangeShapes Go.WideShapes Go.ChangeAt Go.RowKit
theorem Vt:(prog.info? 171).map (·.size)=some 12:=by kernel_rfl
theorem Pe {P:Program} {fn:Func} {p q:Tmp} {ty ty':TypeId} (h:fn.results=#[.cell p ty,.cell q ty']) (tmps:Array Value) (w:World) (g g':Nat) (t t':TypeId) (cs cs':Array Value) (fr fr':Nat × Nat) (dd dd':TypeDesc)
  (hp:tmps.getD p undef=(pt g 0)) (hq:tmps.getD q undef=(pt g' 0)) (hg:w.heap[g]?=some (.cells cs t fr)) (hg':w.heap[g']?=some (.cells cs' t' fr')) (hu:P.underlying ty=some dd) (hu':P.underlying ty'=some dd') (hd:(match dd with | .struct _ | .array _ _=>true | _=>false)=true) (hd':(match dd' with | .struct _ | .array _ _=>true | _=>false)=true) (hi:(P.info? ty).map (·.size)=some cs.size) (hi':(P.info? ty').map (·.size)=some cs'.size) :
  (results fn tmps).run P w=.ok (.tuple #[.agg cs,.agg cs']) w:=by
 have hp':tmps[p]?.getD undef=(pt g 0):=by simpa using hp
 have hq':tmps[q]?.getD undef=(pt g' 0):=by simpa using hq
 simp [results,h,hp',hq',asAddr,run_loadVar_row w g t ty cs fr dd hg hu hd hi,run_loadVar_row w g' t' ty' cs' fr' dd' hg' hu' hd' hi']
theorem addrAt (w:World) (F G:Nat->Nat->Prop) (v u:Value) (m:Nat) (ln:Nat->Nat) (f:Nat->Nat->Int) (n:Nat) (g:Nat->Int) (bank x:Int) (H:Bg .i64 w F v m ln f) (K:Ints .i64 w G u n g) :
  Calls prog 150 #[.agg #[v],.agg #[u,.i bank],.i x] w fun e w'=>e=.returned (.i (peekV m ln f n g bank x%256+256*(peekV m ln f n g bank (x+1)%256)))/\Below w.heap.size w w':=by
 obtain ⟨ia,icap,rfl,im,iF,iR⟩:=H;obtain ⟨ua,ucap,rfl,un,uR,uF⟩:=K
 have H:Bg .i64 w F (.slice ia m icap) m ln f:=⟨ia,icap,rfl,im,iF,iR⟩
 have K:Ints .i64 w G (.slice ua n ucap) n g:=⟨ua,ucap,rfl,un,uR,uF⟩
 clear iF iR uR uF;have C0:Below w.heap.size w ((w.alloc (.cells #[.slice ia m icap] 26)).alloc (.cells #[.slice ua n ucap,.i bank] 29)):=((Below.refl _ _).alloc (Nat.le_refl _) _).alloc (by simp) _;have k0:=Az (Ak w #[.slice ia m icap] 26) (.cells #[.slice ua n ucap,.i bank] 29)
 have k1:((w.alloc (.cells #[.slice ia m icap] 26)).alloc (.cells #[.slice ua n ucap,.i bank] 29)).heap[w.heap.size+1]?=some (.cells #[.slice ua n ucap,.i bank] 29 (0,0)):=by simpa using Ak (w.alloc (.cells #[.slice ia m icap] 26)) #[.slice ua n ucap,.i bank] 29
 have HP1:=Ac (Gu m ln f n g bank (x+1))
 go_enter func150,ntmps150
 go_upto_region 1 with (fail);generalize ((w.alloc (.cells #[.slice ia m icap] 26)).alloc (.cells #[.slice ua n ucap,.i bank] 29))=W0 at *
 have c1:∀ d os,(Go.Sort.grow (redrawn W0 d) os).cell? ⟨w.heap.size,0,none⟩=some (.slice ia m icap):=fun d os=>cell_regrown (Af k0 0) d os
 have c2:∀ d os,(Go.Sort.grow (redrawn W0 d) os).cell? ⟨w.heap.size+1,0,none⟩=some (.slice ua n ucap):=fun d os=>cell_regrown (Af k1 0) d os
 have c3:∀ d os,(Go.Sort.grow (redrawn W0 d) os).cell? ⟨w.heap.size+1,1,none⟩=some (.i bank):=fun d os=>cell_regrown (Af k1 1) d os
 have HT:Hid (∀ d os y,Calls prog 39 #[.agg #[.slice ia m icap],.agg #[.slice ua n ucap,.i bank],.i y] (Go.Sort.grow (redrawn W0 d) os) fun e w'=>e=.returned (.i (peekV m ln f n g bank y))/\Below (Go.Sort.grow (redrawn W0 d) os).heap.size (Go.Sort.grow (redrawn W0 d) os) w'):=fun d os y =>
  have L:=Ah C0 (below_regrown W0 d os)
  Hv _ F G _ _ m ln f n g bank y (H.keep (Aa L Aj) (fun _ _ _ x=>x)) (K.keep (Aa L Aj) (fun _ _ _ x=>x))
 clear H K k0 k1;refine wp_region_quiet_below (by kernel_rfl) (by kernel_rfl) ?_
 repeat (quiet_step (first
  | (go_at_call 41; exact Calls.regrown_of ((I7 _ _ _).mono (fun _ _ h=>⟨h.1,h.2 ▸ Below.refl _ _⟩)))
  | (go_at_call 39; exact Calls.regrown_of (HT.out _ _ _))))
 refine wpQuiet_nil ?_;intro _ hw';obtain ⟨⟨dq,osq⟩,hw''⟩:=hw';subst hw'';have LQ:=Ah C0 (below_regrown W0 dq osq);generalize Go.Sort.grow (redrawn W0 dq) osq=W1 at *;go_wp2_with fail;go_ret;exact ⟨by rw [HP1.out]; rfl,LQ⟩
theorem Vu {w w':World} {lo:Nat} {u:Value} {g:Nat->Int} {z y:Nat} {cs ds:Array Value} {T T':TypeId} {fr fr':Nat × Nat} (O:Ao w lo u 512 g) (k:w.heap[z]?=some (.cells cs T fr)) (hs:cs.size<=511) (k':w.heap[y]?=some (.cells ds T' fr')) (hs':ds.size<=511) (hW:Wrote (fun b _=>b=z\/b=y) w w'):Ao w' lo u 512 g:=by
 obtain ⟨a,cap,hv,hn,hr,hF,hL⟩:=O.ex;obtain ⟨a',cap',hv',-,-,hO⟩:=Bf (Fi O) k hs;obtain ⟨a2,cap2,hv2,-,-,hO2⟩:=Bf (Fi O) k' hs';rw [hv] at hv' hv2
 obtain ⟨rfl,rfl⟩:a=a'/\cap=cap':=by simpa using hv'
 obtain ⟨rfl,rfl⟩:a=a2/\cap=cap2:=by simpa using hv2
 exact ⟨⟨a,cap,hv,hn,hr.keep hW (fun b o hf e=>e.elim (hO b o hf) (hO2 b o hf)),hF.keep hW,hL⟩⟩
theorem Jc9 (w:World) (hT:Da w) (G:Nat->Nat->Prop) (u:Value) (g:Nat->Int) (bank:Int) (K:Ints .i64 w G u 512 g) (hb:isRow 512 g 512=true) (c:A7) (hPc:0<=c.Pc/\c.Pc<=65535) (op arg v:Int):Calls prog 118 #[.agg #[u,.i bank],c.v,.agg #[.i op,.i arg],.i v] w
  fun e w'=>∃ q,e=.returned (.tuple #[.agg #[q,.i bank],(Ee g c op arg v).v])/\Ao w' w.heap.size q 512 (Ev g c op)/\Below w.heap.size w w':=by
 obtain ⟨A,X,S,Pc,Z,N,C,I⟩:=c;obtain ⟨ua,ucap,rfl,un,hrow,hF⟩:=id K;clear hrow hF
 obtain ⟨l,hl⟩:∃ x,Hid (x=opLn op):=⟨_,rfl⟩
 have hl1:1<=l/\l<=3:=by rw [hl.out]; exact Y7 op
 obtain ⟨pc,hpc⟩:∃ x,Hid (x=(Pc+l)%65536):=⟨_,rfl⟩
 have hPc':0<=Pc/\Pc<=65535:=hPc
 have hwr:IntKind.i64.wrap (Pc+l)=Pc+l:=by rw [IntKind.wrap_i64]; omega
 have HLn:=Ac (fun W (h:Da W)=>Qn W op h);rw [show lenOf op=l from hl.out.symm] at HLn;have HAd:=Ac (fun W=>Hj (Pc+l) W);rw [<- hpc.out] at HAd
 have HC:nextC ⟨A,X,S,Pc,Z,N,C,I⟩ op=⟨A,X,S,pc,Z,N,C,I⟩:=by show (⟨_,_,_,_,_,_,_,_⟩:A7)=_; rw [show (Pc+opLn op)%65536=pc by rw [hpc.out,hl.out]]
 have HE:=Ac (Xk g ⟨A,X,S,Pc,Z,N,C,I⟩ op arg v);have HGG:=Ac (Xl g ⟨A,X,S,Pc,Z,N,C,I⟩ op);rw [HC] at HE HGG;have HD:=Ac (fun W z q (k:W.heap[z]?=some (.cells (rR q bank A X S pc Z N C I arg v) 171 (0,0))) (KK:Ints .i64 W (fun _ _=>True) q 512 g)=>Jc8 op W z q bank ⟨A,X,S,pc,Z,N,C,I⟩ arg v _ g k KK hb)
 obtain ⟨gg,hgg⟩:∃ x,Hid (x=Cn g ⟨A,X,S,pc,Z,N,C,I⟩ op):=⟨_,rfl⟩
 rw [<- hgg.out] at HD HGG;rw [HGG.out,HE.out]
 obtain ⟨cd,hcd⟩:∃ x,Hid (x=Cm g ⟨A,X,S,pc,Z,N,C,I⟩ op arg v):=⟨_,rfl⟩
 rw [<- hcd.out] at HD;rw [<- hcd.out];have HT:=Ac hT;clear HC hl hpc hgg HGG HE hcd hT hb
 show Calls prog 118 #[.agg #[.slice ua 512 ucap,.i bank],.agg (cR A X S Pc Z N C I),.agg #[.i op,.i arg],.i v] w _
 have C0:Below w.heap.size w (((((w.alloc (.cells #[.slice ua 512 ucap,.i bank] 29)).alloc (.cells (cR A X S Pc Z N C I) 31)).alloc (.cells #[.i op,.i arg] 49)).alloc (.cells mZ 29)).alloc (.cells cZ 31)):=((((((Below.refl _ _).alloc (by first | exact Nat.le_refl _ | (simp; done) | (simp; omega)) _).alloc (by first | exact Nat.le_refl _ | (simp; done) | (simp; omega)) _).alloc (by first | exact Nat.le_refl _ | (simp; done) | (simp; omega)) _).alloc (by first | exact Nat.le_refl _ | (simp; done) | (simp; omega)) _).alloc (by first | exact Nat.le_refl _ | (simp; done) | (simp; omega)) _)
 have k_x:(((((w.alloc (.cells #[.slice ua 512 ucap,.i bank] 29)).alloc (.cells (cR A X S Pc Z N C I) 31)).alloc (.cells #[.i op,.i arg] 49)).alloc (.cells mZ 29)).alloc (.cells cZ 31)).heap[w.heap.size]?=some (.cells #[.slice ua 512 ucap,.i bank] 29 (0,0)):=by simpa using Az (Az (Az (Az (Ak w #[.slice ua 512 ucap,.i bank] 29) (.cells (cR A X S Pc Z N C I) 31)) (.cells #[.i op,.i arg] 49)) (.cells mZ 29)) (.cells cZ 31)
 have k_c:(((((w.alloc (.cells #[.slice ua 512 ucap,.i bank] 29)).alloc (.cells (cR A X S Pc Z N C I) 31)).alloc (.cells #[.i op,.i arg] 49)).alloc (.cells mZ 29)).alloc (.cells cZ 31)).heap[w.heap.size+1]?=some (.cells (cR A X S Pc Z N C I) 31 (0,0)):=by simpa using Az (Az (Az (Ak (w.alloc (.cells #[.slice ua 512 ucap,.i bank] 29)) (cR A X S Pc Z N C I) 31) (.cells #[.i op,.i arg] 49)) (.cells mZ 29)) (.cells cZ 31)
 have k_i:(((((w.alloc (.cells #[.slice ua 512 ucap,.i bank] 29)).alloc (.cells (cR A X S Pc Z N C I) 31)).alloc (.cells #[.i op,.i arg] 49)).alloc (.cells mZ 29)).alloc (.cells cZ 31)).heap[w.heap.size+1+1]?=some (.cells #[.i op,.i arg] 49 (0,0)):=by simpa using Az (Az (Ak ((w.alloc (.cells #[.slice ua 512 ucap,.i bank] 29)).alloc (.cells (cR A X S Pc Z N C I) 31)) #[.i op,.i arg] 49) (.cells mZ 29)) (.cells cZ 31)
 have k_r1:(((((w.alloc (.cells #[.slice ua 512 ucap,.i bank] 29)).alloc (.cells (cR A X S Pc Z N C I) 31)).alloc (.cells #[.i op,.i arg] 49)).alloc (.cells mZ 29)).alloc (.cells cZ 31)).heap[w.heap.size+1+1+1]?=some (.cells mZ 29 (0,0)):=by simpa using Az (Ak (((w.alloc (.cells #[.slice ua 512 ucap,.i bank] 29)).alloc (.cells (cR A X S Pc Z N C I) 31)).alloc (.cells #[.i op,.i arg] 49)) mZ 29) (.cells cZ 31)
 have k_r2:(((((w.alloc (.cells #[.slice ua 512 ucap,.i bank] 29)).alloc (.cells (cR A X S Pc Z N C I) 31)).alloc (.cells #[.i op,.i arg] 49)).alloc (.cells mZ 29)).alloc (.cells cZ 31)).heap[w.heap.size+1+1+1+1]?=some (.cells cZ 31 (0,0)):=by simpa using Ak ((((w.alloc (.cells #[.slice ua 512 ucap,.i bank] 29)).alloc (.cells (cR A X S Pc Z N C I) 31)).alloc (.cells #[.i op,.i arg] 49)).alloc (.cells mZ 29)) cZ 31
 go_enter func118,ntmps118
 go_upto_region 1 with (fail);rename_i K1 hK1;have KK:=K.keep (Aa C0 Aj) (fun _ _ _ x=>x);generalize ((((w.alloc (.cells #[.slice ua 512 ucap,.i bank] 29)).alloc (.cells (cR A X S Pc Z N C I) 31)).alloc (.cells #[.i op,.i arg] 49)).alloc (.cells mZ 29)).alloc (.cells cZ 31)=W0 at *;have l_x:=Ad k_x;have l_c:=Ad k_c;have l_i:=Ad k_i;have l_r1:=Ad k_r1;have l_r2:=Ad k_r2
 refine Cd [some 11,some 12,some 13,some 14,some 15,some 16,some 17,some 10,none] (by kernel_rfl) (by kernel_rfl) (by kernel_rfl) (by kernel_rfl) (by first | (simp [slotsOf]; done) | (simp [slotsOf,Act.put]; done)) [(1,8),(6,8),(7,8)]
  (fun j b _=>(j=8/\W0.heap.size<=b))
  (fun i V W=>match i with
   | 0=>V 0=.agg #[.slice ua 512 ucap,.i bank]
   | 1=>∃ q,V 1=.agg #[q,.i bank]/\Ao W w.heap.size q 512 g
   | 2=>V 2=.agg (cR A X S Pc Z N C I)
   | 3=>V 3=(pt (w.heap.size+1+1) 1)
   | 4=>V 4=.i arg
   | 5=>V 5=.i v
   | 6=>∃ q,V 6=.agg (rR q bank A X S Pc Z N C I arg v)/\Ao W w.heap.size q 512 g
   | 7=>∃ p,V 7=(pt p 0)/\W.heap[p]?=some (.cells (rR (.slice none 0 0) 0 0 0 0 0 false false false false 0 0) 171 (0,0))/\W0.heap.size<=p
   | _=>∃ p q,V 7=(pt p 0)/\W.heap[p]?=some (.cells (rR q bank A X S Pc Z N C I arg v) 171 (0,0))/\Ao W w.heap.size q 512 g/\W0.heap.size<=p) ?_ ?_ ?_
 .intro i j o V x W W' hij ho hnd hW h
  rcases i with _|_|_|_|_|_|_|_|_|i
  all_goals try exact (Ar V x hij).trans h
  .obtain ⟨q,h1,O⟩:=h
   exact ⟨q,(Ar V x hij).trans h1,O.away hW (fun b' o h1 h2 e=>by simp at hnd; omega)⟩
  .obtain ⟨q,h1,O⟩:=h
   exact ⟨q,(Ar V x hij).trans h1,O.away hW (fun b' o h1 h2 e=>by simp at hnd; omega)⟩
  .obtain ⟨q,h1,h2,h3⟩:=h
   exact ⟨q,(Ar V x hij).trans h1,Ag h2 hW (fun o e=>by simp at hnd; omega),h3⟩
  .obtain ⟨p,q,h1,h2,O,h3⟩:=h
   exact ⟨p,q,(by rw [Ar V x (fun e=>by subst e; simp only [Sg,Sh,Si,Option.some.injEq] at ho; subst ho; cases hnd.1.symm.trans (show A0 _ 7=true by kernel_rfl))]; exact h1),Ag h2 hW (fun o e=>by omega),O.away hW (fun b' o h1 h2 e=>by omega),h3⟩
  all_goals simp at ho
 .intro i o a' W K8 ho F L hw hK
  match i with
  | 0 =>
   cases ho;have t4:=F.get (t:=4) (v:=(pt w.heap.size 0)) (by decide) rfl;have rB:=Ag k_x L (fun o ⟨j,oj,hj,hoj,hwj,e⟩=>by rcases e with ⟨rfl,e⟩ <;> first | omega | (cases hwj.symm.trans (show By _ 6 _ 0=true by kernel_rfl)));have rb:=Af rB;go_simp;exact Hk hK (Ai _ _ _)
  | 1 =>
   cases ho;have q0:tv a' 11=_:=Hq hw 0;have KW:=KK.keep L (fun b o hb ⟨j,oj,hj,hoj,hwj,e⟩=>by rcases e with ⟨rfl,e⟩ <;> first | omega | (cases hwj.symm.trans (show By _ 6 _ 1=true by kernel_rfl)));go_simp;refine (Kv W G (.slice ua 512 ucap) 512 g bank KW).mono ?_;rintro e W' ⟨q,rfl,O,LX⟩;exact hK _ _ (Aa LX _) ⟨q,Ai _ _ _,Dz O (Nat.le_trans C0.size L.size)⟩
  | 2 =>
   cases ho;have t5:=F.get (t:=5) (v:=(pt (w.heap.size+1) 0)) (by decide) rfl;have rB:=Ag k_c L (fun o ⟨j,oj,hj,hoj,hwj,e⟩=>by rcases e with ⟨rfl,e⟩ <;> first | omega | (cases hwj.symm.trans (show By _ 6 _ 2=true by kernel_rfl)));have rb:=Af rB;go_simp;exact Hk hK (Ai _ _ _)
  | 3 =>
   cases ho;have t6:=F.get (t:=6) (v:=(pt (w.heap.size+1+1) 0)) (by decide) rfl;go_simp;exact Hk hK (Ai _ _ _)
  | 4 =>
   cases ho;have q3:tv a' 14=_:=Hq hw 3;have rB:=Ag k_i L (fun o ⟨j,oj,hj,hoj,hwj,e⟩=>by rcases e with ⟨rfl,e⟩ <;> first | omega | (cases hwj.symm.trans (show By _ 6 _ 4=true by kernel_rfl)));have rb:=Af rB;go_simp;exact Hk hK (Ai _ _ _)
  | 5 =>
   cases ho;have t3:=F.get (t:=3) (v:=.i v) (by decide) rfl;go_simp;exact Hk hK (Ai _ _ _)
  | 6 =>
   cases ho;have q1:=Hq hw 1;have q2:tv a' 13=_:=Hq hw 2;have q4:tv a' 15=_:=Hq hw 4;have q5:tv a' 16=_:=Hq hw 5;obtain ⟨q,h1,O⟩:=q1;replace h1:a'.tmps[12]?.getD undef=.agg #[q,.i bank]:=h1;go_simp;exact Hk hK ⟨q,Ai _ _ _,O⟩
  | 7 =>
   cases ho;go_simp;exact hK _ _ ((Wrote.refl _ W).alloc _) ⟨_,Ai _ _ _,Ak W _ _,L.size⟩
  | 8 =>
   cases ho;have q7:=Hq hw 7;have q6:=Hq hw 6;obtain ⟨p,h1,rB,h3⟩:=q7;obtain ⟨q,h4,O⟩:=q6;replace h1:a'.tmps[10]?.getD undef=(pt p 0):=h1;replace h4:a'.tmps[17]?.getD undef=.agg (rR q bank A X S Pc Z N C I arg v):=h4
   obtain ⟨xa,xc,hu⟩:∃ a c,q=.slice a 512 c:=by obtain ⟨a,c,hq,_⟩:=O.ex; exact ⟨a,c,hq⟩
   refine wp_store_row _ _ _ rfl p (rR q bank A X S Pc Z N C I arg v) (by simpa [Act.eval] using h1) (by simpa [Act.eval] using h4) _ _ rB Vt rfl (by subst hu; first | kernel_rfl | simp [Value.oneCell']) ?_;exact hK undef _ ((Bq rB _).mono (fun b o _ (h:b=p)=>⟨rfl,by omega⟩)) ⟨p,q,(by rw [Ar _ _ (by decide)]; exact h1),setRow_heap _ _ _ _ _ _ rB,Bm O rB (by show (12:Nat)<=511; omega) (Bq rB _),h3⟩
  | _+9=>simp at ho
 .intro a' W F L hφ
  have p11:a'.tmps[11]?.getD undef=_:=Hf hφ 0;have p13:a'.tmps[13]?.getD undef=_:=Hf hφ 2;have p14:a'.tmps[14]?.getD undef=_:=Hf hφ 3;have p15:a'.tmps[15]?.getD undef=_:=Hf hφ 4;have p16:a'.tmps[16]?.getD undef=_:=Hf hφ 5;have e8:=Hf hφ 8;rw [F.same,show slotsOf [some 11,some 12,some 13,some 14,some 15,some 16,some 17,some 10,none]=[11,12,13,14,15,16,17,10] from rfl];simp only [List.foldl_cons,List.foldl_nil];obtain ⟨p,q,e1,kp,OQ,hp⟩:=e8;replace e1:a'.tmps[10]?.getD undef=(pt p 0):=e1;replace k_x:=Ag k_x L (fun o ⟨j,e⟩=>by omega);replace k_c:=Ag k_c L (fun o ⟨j,e⟩=>by omega);replace k_i:=Ag k_i L (fun o ⟨j,e⟩=>by omega);replace k_r1:=Ag k_r1 L (fun o ⟨j,e⟩=>by omega);replace k_r2:=Ag k_r2 L (fun o ⟨j,e⟩=>by omega)
  replace C0:=C0.trans (L.below C0.size (fun b' o hb ⟨j,e⟩=>by omega));generalize a'.tmps[12]?.getD undef=gl1;generalize a'.tmps[17]?.getD undef=gl2;rw [p11,p13,p14,p15,p16,e1];clear hφ F L e1 p11 p13 p14 p15 p16;refine hK1 _ _ ?_;clear hK1;go_simp;go_upto_region 2 with (fail);rename_i K2 hK2
  have g1:∀ d os,(Go.Sort.grow (redrawn W d) os).cell? ⟨w.heap.size+1,3,none⟩=some (.i Pc):=fun d os=>Af (Ab k_c (below_regrown W d os) (Ad k_c)) 3
  have g2:∀ d os,(Go.Sort.grow (redrawn W d) os).cell? ⟨w.heap.size+1+1,0,none⟩=some (.i op):=fun d os=>Af (Ab k_i (below_regrown W d os) (Ad k_i)) 0
  refine Bc (n:=9) (by kernel_rfl) (by kernel_rfl) rfl ?_;simp only [List.take_succ_cons,List.take_zero,Act.put,Sa,Sb,Sc]
  iterate 9 (go_big_quiet_step (first | (go_at_call 40; exact Calls.regrown_of (HLn.out _ (HT.out.mono (Ah C0 (below_regrown _ _ _))))) | (go_at_call 63; exact Calls.regrown_of ((HAd.out _).mono fun e w' ⟨h1,h2⟩=>⟨h1,h2 ▸ Below.refl _ _⟩))))
  refine wpQuiet_nil ?_;intro w' hw';obtain ⟨⟨dq,os⟩,rfl⟩:=hw';clear g1 g2;have LB:=below_regrown W dq os;replace C0:=Ah C0 LB;replace OQ:=OQ.keepL LB;replace kp:=Ab kp LB (Ad kp);replace k_x:=Ab k_x LB (Ad k_x);replace k_c:=Ab k_c LB (Ad k_c);replace k_i:=Ab k_i LB (Ad k_i);replace k_r1:=Ab k_r1 LB (Ad k_r1);replace k_r2:=Ab k_r2 LB (Ad k_r2);have hpW:W0.heap.size<=p:=hp;clear LB;generalize Go.Sort.grow (redrawn W dq) os=W3 at *;have LP:=Wrote.setCell (b:=p) (o:=5) (R:=fun b _=>b=p) (Wrote.refl _ W3) (fun _=>rfl) (.i pc);have kP:=Am (o:=5) kp (.i pc);simp only [Sa,Sb,Sc] at kP;have cp:=Af kp;have fp:=Au kp;go_simp;clear cp fp;replace OQ:=Bm OQ kp (by show (12:Nat)<=511; omega) LP
  replace C0:=C0.trans (LP.below C0.size (fun b' o hb (e:b'=p)=>by omega));replace k_x:=Ag k_x LP (fun o (e:_=p)=>by omega);replace k_c:=Ag k_c LP (fun o (e:_=p)=>by omega);replace k_i:=Ag k_i LP (fun o (e:_=p)=>by omega);replace k_r1:=Ag k_r1 LP (fun o (e:_=p)=>by omega);replace k_r2:=Ag k_r2 LP (fun o (e:_=p)=>by omega);generalize W3.setCell ⟨p,5,none⟩ (.i pc)=W4 at *;clear LP kp;refine hK2 _ _ ?_;clear hK2;go_simp;have c_i:=Af k_i;go_wp2_with fail;refine (Jgd _ op).mono ?_;rintro e W5 ⟨rfl,L5⟩;replace C0:=Ah C0 L5;replace k_x:=Ab k_x L5 (Ad k_x);replace k_c:=Ab k_c L5 (Ad k_c);replace k_i:=Ab k_i L5 (Ad k_i);replace k_r1:=Ab k_r1 L5 (Ad k_r1);replace k_r2:=Ab k_r2 L5 (Ad k_r2)
  replace OQ:=OQ.away (Aa L5 Aj) (fun _ _ _ _ x=>x);have kQ:=Ab kP L5 (Ad kP);clear L5 c_i kP;have HDC:=Jaw op #[(pt p 0)] W5;go_wp2_with fail;refine (HD.out W5 p q kQ (Fi OQ)).mono ?_;rintro e W6 ⟨rfl,q2,kp,hO,L6⟩;replace OQ:=hO w.heap.size C0.size OQ;replace C0:=C0.trans (L6.below C0.size (fun b o hb (e:b=p)=>by omega));replace k_x:=Ag k_x L6 (fun o (e:_=p)=>by omega);replace k_c:=Ag k_c L6 (fun o (e:_=p)=>by omega);replace k_i:=Ag k_i L6 (fun o (e:_=p)=>by omega);replace k_r1:=Ag k_r1 L6 (fun o (e:_=p)=>by omega);replace k_r2:=Ag k_r2 L6 (fun o (e:_=p)=>by omega);clear kQ hO L6 HD HDC
  obtain ⟨qa2,qc2,hu⟩:∃ a c,q2=.slice a 512 c:=by obtain ⟨a,c,hq,_⟩:=OQ.ex; exact ⟨a,c,hq⟩
  subst hu;replace kp:W6.heap[p]?=some (.cells (rR (.slice qa2 512 qc2) bank cd.A cd.X cd.S cd.Pc cd.Z cd.N cd.C cd.I arg v) 171 (0,0)):=kp;go_upto_region 4 with (fail);rename_i K4 hK4
  refine Cd [some 31,some 32,some 33,some 34,none,none] (by kernel_rfl) (by kernel_rfl) (by kernel_rfl) (by kernel_rfl) (by first | (simp [slotsOf]; done) | (simp [slotsOf,Act.put]; done)) []
   (fun j b _=>(j=4/\b=w.heap.size+1+1+1)\/(j=5/\b=w.heap.size+1+1+1+1))
   (fun i V W=>match i with
    | 0=>V 0=(pt p 0)
    | 1=>V 1=.agg #[.slice qa2 512 qc2,.i bank]
    | 2=>V 2=(pt p 2)
    | 3=>V 3=.agg (cR cd.A cd.X cd.S cd.Pc cd.Z cd.N cd.C cd.I)
    | 4=>W.heap[w.heap.size+1+1+1]?=some (.cells #[.slice qa2 512 qc2,.i bank] 29 (0,0))
    | _=>W.heap[w.heap.size+1+1+1+1]?=some (.cells (cR cd.A cd.X cd.S cd.Pc cd.Z cd.N cd.C cd.I) 31 (0,0))) ?_ ?_ ?_
  .intro i j o V x W W' hij ho hnd hW h
   rcases i with _|_|_|_|_|_|i
   all_goals try exact (Ar V x hij).trans h
   .exact Ag h hW (fun o e=>by omega)
   .exact Ag h hW (fun o e=>by omega)
   all_goals simp at ho
  .intro i o a' W K8 ho F L hw hK
   match i with
   | 0 =>
    cases ho;have t10:=F.get (t:=10) (v:=(pt p 0)) (by decide) rfl;go_simp;exact Hk hK (Ai _ _ _)
   | 1 =>
    cases ho;have q0:tv a' 31=_:=Hq hw 0;have rB:=Ag kp L (fun o ⟨j,oj,hj,hoj,hwj,e⟩=>by rcases e with ⟨rfl,e⟩ | ⟨rfl,e⟩ <;> first | omega | (cases hwj.symm.trans (show By _ 6 _ 1=true by kernel_rfl)));have rb:=Af rB;go_simp;exact Hk hK (Ai _ _ _)
   | 2 =>
    cases ho;have t10:=F.get (t:=10) (v:=(pt p 0)) (by decide) rfl;go_simp;exact Hk hK (Ai _ _ _)
   | 3 =>
    cases ho;have q2:tv a' 33=_:=Hq hw 2;have rB:=Ag kp L (fun o ⟨j,oj,hj,hoj,hwj,e⟩=>by rcases e with ⟨rfl,e⟩ | ⟨rfl,e⟩ <;> first | omega | (cases hwj.symm.trans (show By _ 6 _ 3=true by kernel_rfl)));have rb:=Af rB;go_simp;exact Hk hK (Ai _ _ _)
   | 4 =>
    cases ho;have t8:=F.get (t:=8) (v:=(pt (w.heap.size+1+1+1) 0)) (by decide) rfl;have q1:tv a' 32=_:=Hq hw 1;have rB:=Ag k_r1 L (fun o ⟨j,oj,hj,hoj,hwj,e⟩=>by omega);refine wp_store_row _ _ _ rfl (w.heap.size+1+1+1) #[.slice qa2 512 qc2,.i bank] (by simpa [Act.eval] using t8) (by simpa [Act.eval] using q1) _ _ rB Gn rfl (by first | kernel_rfl | simp [Value.oneCell']) ?_;exact hK undef _ ((Bq rB _).mono (fun b o _ h=>Or.inl ⟨rfl,h⟩)) (setRow_heap _ _ _ _ _ _ rB)
   | 5 =>
    cases ho;have t9:=F.get (t:=9) (v:=(pt (w.heap.size+1+1+1+1) 0)) (by decide) rfl;have q3:tv a' 34=_:=Hq hw 3;have rB:=Ag k_r2 L (fun o ⟨j,oj,hj,hoj,hwj,e⟩=>by omega);refine wp_store_row _ _ _ rfl (w.heap.size+1+1+1+1) (cR cd.A cd.X cd.S cd.Pc cd.Z cd.N cd.C cd.I) (by simpa [Act.eval] using t9) (by simpa [Act.eval] using q3) _ _ rB El rfl (by first | kernel_rfl | simp [Value.oneCell']) ?_;exact hK undef _ ((Bq rB _).mono (fun b o _ h=>Or.inr ⟨rfl,h⟩)) (setRow_heap _ _ _ _ _ _ rB)
   | _+6=>simp at ho
  .intro a' W F L hφ
   have p31:a'.tmps[31]?.getD undef=_:=Hf hφ 0;have p32:a'.tmps[32]?.getD undef=_:=Hf hφ 1;have p33:a'.tmps[33]?.getD undef=_:=Hf hφ 2;have p34:a'.tmps[34]?.getD undef=_:=Hf hφ 3;have e4:=Hf hφ 4;have e5:=Hf hφ 5;rw [F.same,show slotsOf [some 31,some 32,some 33,some 34,none,none]=[31,32,33,34] from rfl];simp only [List.foldl_cons,List.foldl_nil];have LP:=L.mono (S:=fun b _=>b=w.heap.size+1+1+1\/b=w.heap.size+1+1+1+1) (fun b o _ ⟨j,e⟩=>by omega);have CF:=C0.trans (L.below C0.size (fun b' o hb ⟨j,e⟩=>by omega));have OF:=Vu OQ k_r1 (by show (2:Nat)<=511; omega) k_r2 (by show (8:Nat)<=511; omega) LP;rw [p31,p32,p33,p34];clear hφ F L LP p31 p32 p33 p34;refine hK4 _ _ ?_;clear hK4;go_simp;go_wp2
   refine bodyPost_ret (v:=.tuple #[.agg #[.slice qa2 512 qc2,.i bank],.agg (cR cd.A cd.X cd.S cd.Pc cd.Z cd.N cd.C cd.I)]) (Pe results118 _ _ (w.heap.size+1+1+1) (w.heap.size+1+1+1+1) _ _ _ _ _ _ _ _ rfl rfl e4 e5 underlying29 underlying31 rfl rfl Gn El) rfl ?_;exact ⟨_,rfl,OF,CF⟩
theorem Ja6 (w:World) (F G:Nat->Nat->Prop) (iv u:Value) (m:Nat) (ln:Nat->Nat) (f:Nat->Nat->Int) (g:Nat->Int) (bank:Int) (H:Bg .i64 w F iv m ln f) (K:Ints .i64 w G u 512 g) (hb:isRow 512 g 512=true) (A X S Pc:Int) (Z N C I:Bool) (vec:Int) :
  Calls prog 114 #[.agg #[iv],.agg #[u,.i bank],.agg (cR A X S Pc Z N C I),.i vec] w
  fun e w'=>∃ q,e=.returned (.tuple #[.agg #[q,.i bank],.agg (cR A X (dec8 (dec8 (dec8 S))) (E7 m ln f (enterG g S Pc Z N C I) bank vec) Z N C true)])/\Ao w' w.heap.size q 512 (enterG g S Pc Z N C I)/\Below w.heap.size w w':=by
 obtain ⟨ua,ucap,rfl,un,hrow,hF⟩:=id K;clear hrow hF
 obtain ⟨d2,hd2⟩:∃ x,Hid (x=dec8 (dec8 S)):=⟨_,rfl⟩
 obtain ⟨d3,hd3⟩:∃ x,Hid (x=dec8 d2):=⟨_,rfl⟩
 obtain ⟨fl,hfl⟩:∃ x,Hid (x=flagsOf Z N C I):=⟨_,rfl⟩
 obtain ⟨g2,hg2⟩:∃ x,Hid (x=B4 (B4 g S (Pc/256)) (dec8 S) Pc):=⟨_,rfl⟩
 obtain ⟨g3,hg3⟩:∃ x,Hid (x=B4 g2 d2 fl):=⟨_,rfl⟩
 have hge:enterG g S Pc Z N C I=g3:=by rw [hg3.out,hg2.out,hd2.out,hfl.out]; rfl
 obtain ⟨pE,hpE⟩:∃ x,Hid (x=E7 m ln f g3 bank vec):=⟨_,rfl⟩
 have hb2:isRow 512 g2 512=true:=by rw [hg2.out]; exact Kc (Kc hb)
 have HQ:=Ac (fun W z q (k:W.heap[z]?=some (.cells (rR q bank A X S Pc Z N C I 0 0) 171 (0,0))) (KK:Ints .i64 W (fun _ _=>True) q 512 g)=>Pb W z q bank A X S Pc Z N C I 0 0 _ g k KK hb);rw [<- hd2.out,<- hg2.out] at HQ;have HFl:=Ac (fun W=>Zx W A X d2 Pc Z N C I);rw [<- hfl.out] at HFl;have HPu:=Ac (fun W z q (k:W.heap[z]?=some (.cells (rR q bank A X d2 Pc Z N C I 0 0) 171 (0,0))) (KK:Ints .i64 W (fun _ _=>True) q 512 g2)=>Ln W z q bank A X d2 Pc Z N C I 0 0 _ g2 fl k KK hb2);rw [<- hd3.out,<- hg3.out] at HPu;have HI:=Ac (fun W (C0:Below w.heap.size w W) q (KK:Ints .i64 W (fun _ _=>True) q 512 g3)=>addrAt W F _ iv q m ln f 512 g3 bank vec (H.keep (Aa C0 Aj) (fun _ _ _ x=>x)) KK);rw [show peekV m ln f 512 g3 bank vec%256+256*(peekV m ln f 512 g3 bank (vec+1)%256)=pE from hpE.out.symm] at HI
 rw [hge,<- hd2.out,<- hd3.out,<- hpE.out];clear hd2 hd3 hfl hg2 hg3 hge hpE hb hb2
 have C0:Below w.heap.size w (((((w.alloc (.cells #[iv] 26)).alloc (.cells #[.slice ua 512 ucap,.i bank] 29)).alloc (.cells (cR A X S Pc Z N C I) 31)).alloc (.cells mZ 29)).alloc (.cells cZ 31)):=((((((Below.refl _ _).alloc (by first | exact Nat.le_refl _ | (simp; done) | (simp; omega)) _).alloc (by first | exact Nat.le_refl _ | (simp; done) | (simp; omega)) _).alloc (by first | exact Nat.le_refl _ | (simp; done) | (simp; omega)) _).alloc (by first | exact Nat.le_refl _ | (simp; done) | (simp; omega)) _).alloc (by first | exact Nat.le_refl _ | (simp; done) | (simp; omega)) _)
 have k_m:(((((w.alloc (.cells #[iv] 26)).alloc (.cells #[.slice ua 512 ucap,.i bank] 29)).alloc (.cells (cR A X S Pc Z N C I) 31)).alloc (.cells mZ 29)).alloc (.cells cZ 31)).heap[w.heap.size]?=some (.cells #[iv] 26 (0,0)):=by simpa using Az (Az (Az (Az (Ak w #[iv] 26) (.cells #[.slice ua 512 ucap,.i bank] 29)) (.cells (cR A X S Pc Z N C I) 31)) (.cells mZ 29)) (.cells cZ 31)
 have k_x:(((((w.alloc (.cells #[iv] 26)).alloc (.cells #[.slice ua 512 ucap,.i bank] 29)).alloc (.cells (cR A X S Pc Z N C I) 31)).alloc (.cells mZ 29)).alloc (.cells cZ 31)).heap[w.heap.size+1]?=some (.cells #[.slice ua 512 ucap,.i bank] 29 (0,0)):=by simpa using Az (Az (Az (Ak (w.alloc (.cells #[iv] 26)) #[.slice ua 512 ucap,.i bank] 29) (.cells (cR A X S Pc Z N C I) 31)) (.cells mZ 29)) (.cells cZ 31)
 have k_c:(((((w.alloc (.cells #[iv] 26)).alloc (.cells #[.slice ua 512 ucap,.i bank] 29)).alloc (.cells (cR A X S Pc Z N C I) 31)).alloc (.cells mZ 29)).alloc (.cells cZ 31)).heap[w.heap.size+1+1]?=some (.cells (cR A X S Pc Z N C I) 31 (0,0)):=by simpa using Az (Az (Ak ((w.alloc (.cells #[iv] 26)).alloc (.cells #[.slice ua 512 ucap,.i bank] 29)) (cR A X S Pc Z N C I) 31) (.cells mZ 29)) (.cells cZ 31)
 have k_r1:(((((w.alloc (.cells #[iv] 26)).alloc (.cells #[.slice ua 512 ucap,.i bank] 29)).alloc (.cells (cR A X S Pc Z N C I) 31)).alloc (.cells mZ 29)).alloc (.cells cZ 31)).heap[w.heap.size+1+1+1]?=some (.cells mZ 29 (0,0)):=by simpa using Az (Ak (((w.alloc (.cells #[iv] 26)).alloc (.cells #[.slice ua 512 ucap,.i bank] 29)).alloc (.cells (cR A X S Pc Z N C I) 31)) mZ 29) (.cells cZ 31)
 have k_r2:(((((w.alloc (.cells #[iv] 26)).alloc (.cells #[.slice ua 512 ucap,.i bank] 29)).alloc (.cells (cR A X S Pc Z N C I) 31)).alloc (.cells mZ 29)).alloc (.cells cZ 31)).heap[w.heap.size+1+1+1+1]?=some (.cells cZ 31 (0,0)):=by simpa using Ak ((((w.alloc (.cells #[iv] 26)).alloc (.cells #[.slice ua 512 ucap,.i bank] 29)).alloc (.cells (cR A X S Pc Z N C I) 31)).alloc (.cells mZ 29)) cZ 31
 go_enter func114,ntmps114
 go_upto_region 1 with (fail);rename_i K1 hK1;have KK:=K.keep (Aa C0 Aj) (fun _ _ _ x=>x);generalize ((((w.alloc (.cells #[iv] 26)).alloc (.cells #[.slice ua 512 ucap,.i bank] 29)).alloc (.cells (cR A X S Pc Z N C I) 31)).alloc (.cells mZ 29)).alloc (.cells cZ 31)=W0 at *;have l_m:=Ad k_m;have l_x:=Ad k_x;have l_c:=Ad k_c;have l_r1:=Ad k_r1;have l_r2:=Ad k_r2
 refine Cd [some 11,some 12,some 13,some 14,some 10,none] (by kernel_rfl) (by kernel_rfl) (by kernel_rfl) (by kernel_rfl) (by first | (simp [slotsOf]; done) | (simp [slotsOf,Act.put]; done)) [(1,5),(3,5),(4,5)]
  (fun j b _=>(j=5/\W0.heap.size<=b))
  (fun i V W=>match i with
   | 0=>V 0=.agg #[.slice ua 512 ucap,.i bank]
   | 1=>∃ q,V 1=.agg #[q,.i bank]/\Ao W w.heap.size q 512 g
   | 2=>V 2=.agg (cR A X S Pc Z N C I)
   | 3=>∃ q,V 3=.agg (rR q bank A X S Pc Z N C I 0 0)/\Ao W w.heap.size q 512 g
   | 4=>∃ p,V 4=(pt p 0)/\W.heap[p]?=some (.cells (rR (.slice none 0 0) 0 0 0 0 0 false false false false 0 0) 171 (0,0))/\W0.heap.size<=p
   | _=>∃ p q,V 4=(pt p 0)/\W.heap[p]?=some (.cells (rR q bank A X S Pc Z N C I 0 0) 171 (0,0))/\Ao W w.heap.size q 512 g/\W0.heap.size<=p) ?_ ?_ ?_
 .intro i j o V x W W' hij ho hnd hW h
  rcases i with _|_|_|_|_|_|i
  all_goals try exact (Ar V x hij).trans h
  .obtain ⟨q,h1,O⟩:=h
   exact ⟨q,(Ar V x hij).trans h1,O.away hW (fun b' o h1 h2 e=>by simp at hnd; omega)⟩
  .obtain ⟨q,h1,O⟩:=h
   exact ⟨q,(Ar V x hij).trans h1,O.away hW (fun b' o h1 h2 e=>by simp at hnd; omega)⟩
  .obtain ⟨q,h1,h2,h3⟩:=h
   exact ⟨q,(Ar V x hij).trans h1,Ag h2 hW (fun o e=>by simp at hnd; omega),h3⟩
  .obtain ⟨p,q,h1,h2,O,h3⟩:=h
   exact ⟨p,q,(by rw [Ar V x (fun e=>by subst e; simp only [Sg,Sh,Si,Option.some.injEq] at ho; subst ho; cases hnd.1.symm.trans (show A0 _ 4=true by kernel_rfl))]; exact h1),Ag h2 hW (fun o e=>by omega),O.away hW (fun b' o h1 h2 e=>by omega),h3⟩
  all_goals simp at ho
 .intro i o a' W K8 ho F L hw hK
  match i with
  | 0 =>
   cases ho;have t5:=F.get (t:=5) (v:=(pt (w.heap.size+1) 0)) (by decide) rfl;have rB:=Ag k_x L (fun o ⟨j,oj,hj,hoj,hwj,e⟩=>by rcases e with ⟨rfl,e⟩ <;> first | omega | (cases hwj.symm.trans (show By _ 6 _ 0=true by kernel_rfl)));have rb:=Af rB;go_simp;exact Hk hK (Ai _ _ _)
  | 1 =>
   cases ho;have q0:tv a' 11=_:=Hq hw 0;have KW:=KK.keep L (fun b o hb ⟨j,oj,hj,hoj,hwj,e⟩=>by rcases e with ⟨rfl,e⟩ <;> first | omega | (cases hwj.symm.trans (show By _ 6 _ 1=true by kernel_rfl)));go_simp;refine (Kv W G (.slice ua 512 ucap) 512 g bank KW).mono ?_;rintro e W' ⟨q,rfl,O,LX⟩;exact hK _ _ (Aa LX _) ⟨q,Ai _ _ _,Dz O (Nat.le_trans C0.size L.size)⟩
  | 2 =>
   cases ho;have t6:=F.get (t:=6) (v:=(pt (w.heap.size+1+1) 0)) (by decide) rfl;have rB:=Ag k_c L (fun o ⟨j,oj,hj,hoj,hwj,e⟩=>by rcases e with ⟨rfl,e⟩ <;> first | omega | (cases hwj.symm.trans (show By _ 6 _ 2=true by kernel_rfl)));have rb:=Af rB;go_simp;exact Hk hK (Ai _ _ _)
  | 3 =>
   cases ho;have q1:=Hq hw 1;have q2:tv a' 13=_:=Hq hw 2;obtain ⟨q,h1,O⟩:=q1;replace h1:a'.tmps[12]?.getD undef=.agg #[q,.i bank]:=h1;go_simp;exact Hk hK ⟨q,Ai _ _ _,O⟩
  | 4 =>
   cases ho;go_simp;exact hK _ _ ((Wrote.refl _ W).alloc _) ⟨_,Ai _ _ _,Ak W _ _,L.size⟩
  | 5 =>
   cases ho;have q4:=Hq hw 4;have q3:=Hq hw 3;obtain ⟨p,h1,rB,h3⟩:=q4;obtain ⟨q,h4,O⟩:=q3;replace h1:a'.tmps[10]?.getD undef=(pt p 0):=h1;replace h4:a'.tmps[14]?.getD undef=.agg (rR q bank A X S Pc Z N C I 0 0):=h4
   obtain ⟨xa,xc,hu⟩:∃ a c,q=.slice a 512 c:=by obtain ⟨a,c,hq,_⟩:=O.ex; exact ⟨a,c,hq⟩
   refine wp_store_row _ _ _ rfl p (rR q bank A X S Pc Z N C I 0 0) (by simpa [Act.eval] using h1) (by simpa [Act.eval] using h4) _ _ rB Vt rfl (by subst hu; first | kernel_rfl | simp [Value.oneCell']) ?_;exact hK undef _ ((Bq rB _).mono (fun b o _ (h:b=p)=>⟨rfl,by omega⟩)) ⟨p,q,(by rw [Ar _ _ (by decide)]; exact h1),setRow_heap _ _ _ _ _ _ rB,Bm O rB (by show (12:Nat)<=511; omega) (Bq rB _),h3⟩
  | _+6=>simp at ho
 .intro a' W F L hφ
  have p11:a'.tmps[11]?.getD undef=_:=Hf hφ 0;have p13:a'.tmps[13]?.getD undef=_:=Hf hφ 2;have e5:=Hf hφ 5;rw [F.same,show slotsOf [some 11,some 12,some 13,some 14,some 10,none]=[11,12,13,14,10] from rfl];simp only [List.foldl_cons,List.foldl_nil];obtain ⟨p,q,e1,kp,OQ,hp⟩:=e5;replace e1:a'.tmps[10]?.getD undef=(pt p 0):=e1;replace k_m:=Ag k_m L (fun o ⟨j,e⟩=>by omega);replace k_x:=Ag k_x L (fun o ⟨j,e⟩=>by omega);replace k_c:=Ag k_c L (fun o ⟨j,e⟩=>by omega);replace k_r1:=Ag k_r1 L (fun o ⟨j,e⟩=>by omega);replace k_r2:=Ag k_r2 L (fun o ⟨j,e⟩=>by omega);replace C0:=C0.trans (L.below C0.size (fun b' o hb ⟨j,e⟩=>by omega));generalize a'.tmps[12]?.getD undef=gl1;generalize a'.tmps[14]?.getD undef=gl2;rw [p11,p13,e1];clear hφ F L e1 p11 p13;refine hK1 _ _ ?_;clear hK1;go_simp
  go_wp2_with fail;refine (HQ.out _ p q kp (Fi OQ)).mono ?_;rintro e W5 ⟨rfl,q1,kp1,O1,L5⟩;replace OQ:=Dz O1 (Nat.le_trans C0.size (Nat.le_refl _));replace C0:=C0.trans (L5.below C0.size (fun b o hb (e:b=p)=>by omega));replace k_m:=Ag k_m L5 (fun o (e:_=p)=>by omega);replace k_x:=Ag k_x L5 (fun o (e:_=p)=>by omega);replace k_c:=Ag k_c L5 (fun o (e:_=p)=>by omega);replace k_r1:=Ag k_r1 L5 (fun o (e:_=p)=>by omega);replace k_r2:=Ag k_r2 L5 (fun o (e:_=p)=>by omega);clear kp O1 L5 HQ;have cp:=Af kp1;go_wp2_with fail;refine (HFl.out _).mono ?_;rintro e W6 ⟨rfl,L6⟩;replace C0:=Ah C0 L6;replace k_m:=Ab k_m L6 (Ad k_m);replace k_x:=Ab k_x L6 (Ad k_x);replace k_c:=Ab k_c L6 (Ad k_c);replace k_r1:=Ab k_r1 L6 (Ad k_r1)
  replace k_r2:=Ab k_r2 L6 (Ad k_r2);replace OQ:=OQ.away (Aa L6 Aj) (fun _ _ _ _ x=>x);have kp2:=Ab kp1 L6 (Ad kp1);clear cp kp1 L6 HFl;go_wp2_with fail;refine (HPu.out W6 p q1 kp2 (Fi OQ)).mono ?_;rintro e W7 ⟨rfl,q2,kp3,O2,L7⟩;replace OQ:=Dz O2 C0.size;replace C0:=C0.trans (L7.below C0.size (fun b o hb (e:b=p)=>by omega));replace k_m:=Ag k_m L7 (fun o (e:_=p)=>by omega);replace k_x:=Ag k_x L7 (fun o (e:_=p)=>by omega);replace k_c:=Ag k_c L7 (fun o (e:_=p)=>by omega);replace k_r1:=Ag k_r1 L7 (fun o (e:_=p)=>by omega);replace k_r2:=Ag k_r2 L7 (fun o (e:_=p)=>by omega);clear kp2 O2 L7 HPu;go_wp2_with fail;refine (M9 W7 p q2 bank A X d3 Pc Z N C I 0 0 kp3).mono ?_;rintro e W8 ⟨rfl,kp4,L8⟩
  replace OQ:=Bm OQ kp3 (by show (12:Nat)<=511; omega) L8;replace C0:=C0.trans (L8.below C0.size (fun b o hb (e:b=p)=>by omega));replace k_m:=Ag k_m L8 (fun o (e:_=p)=>by omega);replace k_x:=Ag k_x L8 (fun o (e:_=p)=>by omega);replace k_c:=Ag k_c L8 (fun o (e:_=p)=>by omega);replace k_r1:=Ag k_r1 L8 (fun o (e:_=p)=>by omega);replace k_r2:=Ag k_r2 L8 (fun o (e:_=p)=>by omega);clear kp3 L8
  obtain ⟨qa2,qc2,hu⟩:∃ a c,q2=.slice a 512 c:=by obtain ⟨a,c,hq,_⟩:=OQ.ex; exact ⟨a,c,hq⟩
  subst hu;have cp:=Af kp4;have fp:=Au kp4;have cm:=Af k_m;have HH:=Ac (HI.out W8 C0 (.slice qa2 512 qc2) (Fi OQ));go_wp2_with fail;refine HH.out.mono ?_;rintro e W9 ⟨rfl,L9⟩;replace C0:=Ah C0 L9;replace k_m:=Ab k_m L9 (Ad k_m);replace k_x:=Ab k_x L9 (Ad k_x);replace k_c:=Ab k_c L9 (Ad k_c);replace k_r1:=Ab k_r1 L9 (Ad k_r1);replace k_r2:=Ab k_r2 L9 (Ad k_r2);replace OQ:=OQ.away (Aa L9 Aj) (fun _ _ _ _ x=>x);have kp5:=Ab kp4 L9 (Ad kp4);clear cp fp cm kp4 L9 HH HI;have cp:=Af kp5;have fp:=Au kp5;have HB:=Am (o:=5) kp5 (.i pE);simp only [Sa,Sb,Sc] at HB;have TT:Wrote (fun b _=>b=p) W9 (W9.setCell ⟨p,5,none⟩ (.i pE)):=Wrote.setCell (b:=p) (o:=5) (R:=fun b _=>b=p) (Wrote.refl _ W9) (fun _=>rfl) _
  replace OQ:=Bm OQ kp5 (by show (12:Nat)<=511; omega) TT;replace C0:=C0.trans (TT.below C0.size (fun b o hb (e:b=p)=>by omega));replace k_m:=Ag k_m TT (fun o (e:_=p)=>by omega);replace k_x:=Ag k_x TT (fun o (e:_=p)=>by omega);replace k_c:=Ag k_c TT (fun o (e:_=p)=>by omega);replace k_r1:=Ag k_r1 TT (fun o (e:_=p)=>by omega);replace k_r2:=Ag k_r2 TT (fun o (e:_=p)=>by omega);have kp:=HB;clear HB TT;go_upto_region 6 with (fail);rename_i K4 hK4;clear cp fp kp5;generalize W9.setCell ⟨p,5,none⟩ (.i pE)=W10 at *
  refine Cd [some 28,some 29,some 30,some 31,none,none] (by kernel_rfl) (by kernel_rfl) (by kernel_rfl) (by kernel_rfl) (by first | (simp [slotsOf]; done) | (simp [slotsOf,Act.put]; done)) []
   (fun j b _=>(j=4/\b=w.heap.size+1+1+1)\/(j=5/\b=w.heap.size+1+1+1+1))
   (fun i V W=>match i with
    | 0=>V 0=(pt p 0)
    | 1=>V 1=.agg #[.slice qa2 512 qc2,.i bank]
    | 2=>V 2=(pt p 2)
    | 3=>V 3=.agg (cR A X d3 pE Z N C true)
    | 4=>W.heap[w.heap.size+1+1+1]?=some (.cells #[.slice qa2 512 qc2,.i bank] 29 (0,0))
    | _=>W.heap[w.heap.size+1+1+1+1]?=some (.cells (cR A X d3 pE Z N C true) 31 (0,0))) ?_ ?_ ?_
  .intro i j o V x W W' hij ho hnd hW h
   rcases i with _|_|_|_|_|_|i
   all_goals try exact (Ar V x hij).trans h
   .exact Ag h hW (fun o e=>by omega)
   .exact Ag h hW (fun o e=>by omega)
   all_goals simp at ho
  .intro i o a' W K8 ho F L hw hK
   match i with
   | 0 =>
    cases ho;have t10:=F.get (t:=10) (v:=(pt p 0)) (by decide) rfl;go_simp;exact Hk hK (Ai _ _ _)
   | 1 =>
    cases ho;have q0:tv a' 28=_:=Hq hw 0;have rB:=Ag kp L (fun o ⟨j,oj,hj,hoj,hwj,e⟩=>by rcases e with ⟨rfl,e⟩ | ⟨rfl,e⟩ <;> first | omega | (cases hwj.symm.trans (show By _ 6 _ 1=true by kernel_rfl)));have rb:=Af rB;go_simp;exact Hk hK (Ai _ _ _)
   | 2 =>
    cases ho;have t10:=F.get (t:=10) (v:=(pt p 0)) (by decide) rfl;go_simp;exact Hk hK (Ai _ _ _)
   | 3 =>
    cases ho;have q2:tv a' 30=_:=Hq hw 2;have rB:=Ag kp L (fun o ⟨j,oj,hj,hoj,hwj,e⟩=>by rcases e with ⟨rfl,e⟩ | ⟨rfl,e⟩ <;> first | omega | (cases hwj.symm.trans (show By _ 6 _ 3=true by kernel_rfl)));have rb:=Af rB;go_simp;exact Hk hK (Ai _ _ _)
   | 4 =>
    cases ho;have t8:=F.get (t:=8) (v:=(pt (w.heap.size+1+1+1) 0)) (by decide) rfl;have q1:tv a' 29=_:=Hq hw 1;have rB:=Ag k_r1 L (fun o ⟨j,oj,hj,hoj,hwj,e⟩=>by omega);refine wp_store_row _ _ _ rfl (w.heap.size+1+1+1) #[.slice qa2 512 qc2,.i bank] (by simpa [Act.eval] using t8) (by simpa [Act.eval] using q1) _ _ rB Gn rfl (by first | kernel_rfl | simp [Value.oneCell']) ?_;exact hK undef _ ((Bq rB _).mono (fun b o _ h=>Or.inl ⟨rfl,h⟩)) (setRow_heap _ _ _ _ _ _ rB)
   | 5 =>
    cases ho;have t9:=F.get (t:=9) (v:=(pt (w.heap.size+1+1+1+1) 0)) (by decide) rfl;have q3:tv a' 31=_:=Hq hw 3;have rB:=Ag k_r2 L (fun o ⟨j,oj,hj,hoj,hwj,e⟩=>by omega);refine wp_store_row _ _ _ rfl (w.heap.size+1+1+1+1) (cR A X d3 pE Z N C true) (by simpa [Act.eval] using t9) (by simpa [Act.eval] using q3) _ _ rB El rfl (by first | kernel_rfl | simp [Value.oneCell']) ?_;exact hK undef _ ((Bq rB _).mono (fun b o _ h=>Or.inr ⟨rfl,h⟩)) (setRow_heap _ _ _ _ _ _ rB)
   | _+6=>simp at ho
  .intro a' W F L hφ
   have p28:a'.tmps[28]?.getD undef=_:=Hf hφ 0;have p29:a'.tmps[29]?.getD undef=_:=Hf hφ 1;have p30:a'.tmps[30]?.getD undef=_:=Hf hφ 2;have p31:a'.tmps[31]?.getD undef=_:=Hf hφ 3;have e4:=Hf hφ 4;have e5:=Hf hφ 5;rw [F.same,show slotsOf [some 28,some 29,some 30,some 31,none,none]=[28,29,30,31] from rfl];simp only [List.foldl_cons,List.foldl_nil];have LP:=L.mono (S:=fun b _=>b=w.heap.size+1+1+1\/b=w.heap.size+1+1+1+1) (fun b o _ ⟨j,e⟩=>by omega);have CF:=C0.trans (L.below C0.size (fun b' o hb ⟨j,e⟩=>by omega));have OF:=Vu OQ k_r1 (by show (2:Nat)<=511; omega) k_r2 (by show (8:Nat)<=511; omega) LP;rw [p28,p29,p30,p31];clear hφ F L LP p28 p29 p30 p31;refine hK4 _ _ ?_;clear hK4;go_simp;go_wp2
   refine bodyPost_ret (v:=.tuple #[.agg #[.slice qa2 512 qc2,.i bank],.agg (cR A X d3 pE Z N C true)]) (Pe results114 _ _ (w.heap.size+1+1+1) (w.heap.size+1+1+1+1) _ _ _ _ _ _ _ _ rfl rfl e4 e5 underlying29 underlying31 rfl rfl Gn El) rfl ?_;exact ⟨_,rfl,OF,CF⟩
set_option maxHeartbeats 4000000
set_option maxRecDepth 8000
theorem Ph (w:World) (z o:Nat) (v:Value):Wrote (fun b _=>b=z) w (w.setCell ⟨z,o,none⟩ v):=Wrote.setCell (R:=fun b _=>b=z) (Wrote.refl _ _) (fun _=>rfl) v
theorem Jgf (w:World) (z:Nat) (bs:Array Value) (hsz:bs.size=34) (k:w.heap[z]?=some (.cells bs 41 (0,0))) (F G:Nat->Nat->Prop) (u0 u2:Value) (m:Nat) (ln:Nat->Nat) (f:Nat->Nat->Int) (g:Nat->Int) (bank A X S Pc:Int) (Z N C I:Bool) (HI:Bg .i64 w F u0 m ln f) (K:Ints .i64 w G u2 512 g) (hb:isRow 512 g 512=true) (b0:bs[0]?=some u0) (b2:bs[2]?=some (u2)) (b3:bs[3]?=some (.i bank)) (b4:bs[4]?=some (.i A)) (b5:bs[5]?=some (.i X)) (b6:bs[6]?=some (.i S)) (b7:bs[7]?=some (.i Pc)) (b8:bs[8]?=some (.bool Z)) (b9:bs[9]?=some (.bool N)) (b10:bs[10]?=some (.bool C)) (b11:bs[11]?=some (.bool I)) (vec:Int) :
  Calls prog 85 #[(pt z 0),.i vec] w fun e w'=>e=.returned (.tuple #[])/\∃ q,w'.heap[z]?=some (.cells (putAt (putAt bs 2 #[q,.i bank]) 4 (cR A X (dec8 (dec8 (dec8 S))) (E7 m ln f (enterG g S Pc Z N C I) bank vec) Z N C true)) 41 (0,0))/\Ao w' w.heap.size q 512 (enterG g S Pc Z N C I)/\Wrote (fun b _=>b=z) w w':=by
 have hz:=Ad k
 obtain ⟨d3,hd3⟩:∃ x,Hid (x=dec8 (dec8 (dec8 S))):=⟨_,rfl⟩
 obtain ⟨gE,hgE⟩:∃ x,Hid (x=enterG g S Pc Z N C I):=⟨_,rfl⟩
 have HEn:=Ac (fun W (hi:Bg .i64 W F u0 m ln f) (kk:Ints .i64 W G u2 512 g)=>Ja6 W F G u0 u2 m ln f g bank hi kk hb A X S Pc Z N C I vec);rw [<- hd3.out,<- hgE.out] at HEn;rw [<- hd3.out,<- hgE.out]
 obtain ⟨pE,hpE⟩:∃ x,Hid (x=E7 m ln f gE bank vec):=⟨_,rfl⟩
 rw [<- hpE.out] at HEn;rw [<- hpE.out];clear hd3 hgE hpE hb;have hs:=Ac hsz;clear hsz
 go_enter func85,ntmps85
 go_upto_region 0 with (fail)
 refine Cd [some 5,some 6,some 7,some 8,some 9,some 10,some 11,some 12,some 13,some 14,some 15,some 16,some 17,some 18,some 19,some 20,some 4,some 21,some 22,some 23,some 24,none,some 25,some 26,none] (by kernel_rfl) (by kernel_rfl) (by kernel_rfl) (by kernel_rfl) (by first | (simp [slotsOf]; done) | (simp [slotsOf,Act.put]; done)) [(21,24)]
  (fun j b _=>(j=21/\b=z)\/(j=24/\b=z))
  (fun i V W=>match i with
   | 0=>V 0=(pt z 0)
   | 1=>V 1=(pt z 0)
   | 2=>V 2=(pt z 0)
   | 3=>V 3=(pt z 0)
   | 4=>V 4=(pt z 0)
   | 5=>V 5=.agg #[u0]
   | 6=>V 6=(pt z 0)
   | 7=>V 7=(pt z 0)
   | 8=>V 8=(pt z 2)
   | 9=>V 9=.agg #[u2,.i bank]
   | 10=>V 10=(pt z 0)
   | 11=>V 11=(pt z 0)
   | 12=>V 12=(pt z 4)
   | 13=>V 13=.agg (cR A X S Pc Z N C I)
   | 14=>V 14=.i vec
   | 15=>∃ q,V 15=.tuple #[.agg #[q,.i bank],.agg (cR A X d3 pE Z N C true)]/\Ao W w.heap.size q 512 gE
   | 16=>∃ q,V 16=.tuple #[.agg #[q,.i bank],.agg (cR A X d3 pE Z N C true)]/\Ao W w.heap.size q 512 gE
   | 17=>∃ q,V 17=.agg #[q,.i bank]/\Ao W w.heap.size q 512 gE
   | 18=>V 18=.agg (cR A X d3 pE Z N C true)
   | 19=>V 19=(pt z 0)
   | 20=>V 20=(pt z 2)
   | 21=>∃ q,W.heap[z]?=some (.cells (putAt bs 2 #[q,.i bank]) 41 (0,0))/\Ao W w.heap.size q 512 gE
   | 22=>V 22=(pt z 0)
   | 23=>V 23=(pt z 4)
   | _=>∃ q,W.heap[z]?=some (.cells (putAt (putAt bs 2 #[q,.i bank]) 4 (cR A X d3 pE Z N C true)) 41 (0,0))/\Ao W w.heap.size q 512 gE) ?_ ?_ ?_
 .intro i j o V x W W' hij ho hnd hW h
  rcases i with _|_|_|_|_|_|_|_|_|_|_|_|_|_|_|_|_|_|_|_|_|_|_|_|_|i
  all_goals try exact (Ar V x hij).trans h
  .obtain ⟨q,h1,O⟩:=h
   exact ⟨q,(Ar V x hij).trans h1,O.away hW (fun b' o h1 h2 e=>by omega)⟩
  .obtain ⟨q,h1,O⟩:=h
   exact ⟨q,(Ar V x hij).trans h1,O.away hW (fun b' o h1 h2 e=>by omega)⟩
  .obtain ⟨q,h1,O⟩:=h
   exact ⟨q,(Ar V x hij).trans h1,O.away hW (fun b' o h1 h2 e=>by omega)⟩
  .obtain ⟨q,h1,O⟩:=h
   exact ⟨q,Ag h1 hW (fun o e=>by simp at hnd; omega),O.away hW (fun b' o h1 h2 e=>by omega)⟩
  .obtain ⟨q,h1,O⟩:=h
   exact ⟨q,Ag h1 hW (fun o e=>by rcases e with ⟨rfl,e⟩ | ⟨rfl,e⟩ <;> first | omega | (simp only [Sg,Sh,Si,Option.some.injEq] at ho; subst ho; cases hnd.1.symm.trans (show A0 _ 21=true by kernel_rfl))),O.away hW (fun b' o h1 h2 e=>by omega)⟩
  all_goals simp at ho
 .intro i o a' W K8 ho F L hw hK
  match i with
  | 0 =>
   cases ho;have t0:=F.get (t:=0) (v:=(pt z 0)) (by decide) rfl;go_simp;exact Hk hK (Ai _ _ _)
  | 1 =>
   cases ho;have t0:=F.get (t:=0) (v:=(pt z 0)) (by decide) rfl;go_simp;exact Hk hK (Ai _ _ _)
  | 2 =>
   cases ho;have t0:=F.get (t:=0) (v:=(pt z 0)) (by decide) rfl;go_simp;exact Hk hK (Ai _ _ _)
  | 3 =>
   cases ho;have q2:tv a' 7=_:=Hq hw 2;go_simp;exact Hk hK (Ai _ _ _)
  | 4 =>
   cases ho;have q3:tv a' 8=_:=Hq hw 3;go_simp;exact Hk hK (Ai _ _ _)
  | 5 =>
   cases ho;have q4:tv a' 9=_:=Hq hw 4;have rB:=Ag k L Hu;have rb:=Af rB;go_simp;exact Hk hK (Ai _ _ _)
  | 6 =>
   cases ho;have t0:=F.get (t:=0) (v:=(pt z 0)) (by decide) rfl;go_simp;exact Hk hK (Ai _ _ _)
  | 7 =>
   cases ho;have q6:tv a' 11=_:=Hq hw 6;go_simp;exact Hk hK (Ai _ _ _)
  | 8 =>
   cases ho;have q7:tv a' 12=_:=Hq hw 7;go_simp;exact Hk hK (Ai _ _ _)
  | 9 =>
   cases ho;have q8:tv a' 13=_:=Hq hw 8;have rB:=Ag k L Hu;have rb:=Af rB;go_simp;exact Hk hK (Ai _ _ _)
  | 10 =>
   cases ho;have t0:=F.get (t:=0) (v:=(pt z 0)) (by decide) rfl;go_simp;exact Hk hK (Ai _ _ _)
  | 11 =>
   cases ho;have q10:tv a' 15=_:=Hq hw 10;go_simp;exact Hk hK (Ai _ _ _)
  | 12 =>
   cases ho;have q11:tv a' 16=_:=Hq hw 11;go_simp;exact Hk hK (Ai _ _ _)
  | 13 =>
   cases ho;have q12:tv a' 17=_:=Hq hw 12;have rB:=Ag k L Hu;have rb:=Af rB;go_simp;exact Hk hK (Ai _ _ _)
  | 14 =>
   cases ho;have t1:=F.get (t:=1) (v:=.i vec) (by decide) rfl;go_simp;exact Hk hK (Ai _ _ _)
  | 15 =>
   cases ho;have q5:tv a' 10=_:=Hq hw 5;have q9:tv a' 14=_:=Hq hw 9;have q13:tv a' 18=_:=Hq hw 13;have q14:tv a' 19=_:=Hq hw 14;have LN:=L.mono (S:=Aj) (fun b o _ ⟨j,oj,hj,hoj,hwj,e⟩=>by rcases e with ⟨rfl,e⟩ | ⟨rfl,e⟩ <;> first | omega | (cases hwj.symm.trans (show By _ 6 _ 15=true by kernel_rfl)));go_simp;refine (HEn.out W (HI.keep LN (fun _ _ _ x=>x)) (K.keep LN (fun _ _ _ x=>x))).mono ?_;rintro e W' ⟨q,rfl,O,LX⟩;exact hK _ _ (Aa LX _) ⟨q,Ai _ _ _,Dz O L.size⟩
  | 16 =>
   cases ho;have q15:=Hq hw 15;obtain ⟨q,h1,O⟩:=q15;replace h1:a'.tmps[20]?.getD undef=.tuple #[.agg #[q,.i bank],.agg (cR A X d3 pE Z N C true)]:=h1;go_simp;exact Hk hK ⟨q,Ai _ _ _,O⟩
  | 17 =>
   cases ho;have q16:=Hq hw 16;obtain ⟨q,h1,O⟩:=q16;replace h1:a'.tmps[4]?.getD undef=.tuple #[.agg #[q,.i bank],.agg (cR A X d3 pE Z N C true)]:=h1;go_simp;exact Hk hK ⟨q,Ai _ _ _,O⟩
  | 18 =>
   cases ho;have q16:=Hq hw 16;obtain ⟨q,h1,O⟩:=q16;replace h1:a'.tmps[4]?.getD undef=.tuple #[.agg #[q,.i bank],.agg (cR A X d3 pE Z N C true)]:=h1;go_simp;exact Hk hK (Ai _ _ _)
  | 19 =>
   cases ho;have q0:tv a' 5=_:=Hq hw 0;go_simp;exact Hk hK (Ai _ _ _)
  | 20 =>
   cases ho;have q19:tv a' 23=_:=Hq hw 19;go_simp;exact Hk hK (Ai _ _ _)
  | 21 =>
   cases ho;have q20:tv a' 24=_:=Hq hw 20;have q17:=Hq hw 17;have rB:=Ag k L Hu;obtain ⟨q,h1,O⟩:=q17;replace h1:a'.tmps[21]?.getD undef=.agg #[q,.i bank]:=h1
   obtain ⟨xa,xc,hu⟩:∃ a c,q=.slice a 512 c:=by obtain ⟨a,c,hq,_⟩:=O.ex; exact ⟨a,c,hq⟩
   refine Bb _ _ _ rfl z 2 #[q,.i bank] (by simpa [Act.eval] using q20) (by simpa [Act.eval] using h1) _ _ rB Gn (by rw [hs.out]; show (2+2:Nat)<=34; omega) (by subst hu; first | kernel_rfl | simp [Value.oneCell']) ?_;have TT:=Bq rB (putAt bs 2 #[q,.i bank]);exact hK undef _ (TT.mono (fun b o _ e=>Or.inl ⟨rfl,e⟩)) ⟨q,setRow_heap _ _ _ _ _ _ rB,O.away TT (fun b' o h1 h2 (e:b'=z)=>by omega)⟩
  | 22 =>
   cases ho;have q1:tv a' 6=_:=Hq hw 1;go_simp;exact Hk hK (Ai _ _ _)
  | 23 =>
   cases ho;have q22:tv a' 25=_:=Hq hw 22;go_simp;exact Hk hK (Ai _ _ _)
  | 24 =>
   cases ho;have q23:tv a' 26=_:=Hq hw 23;have q18:tv a' 22=_:=Hq hw 18;obtain ⟨q,rB,O⟩:=Hq hw 21;refine Bb _ _ _ rfl z 4 (cR A X d3 pE Z N C true) (by simpa [Act.eval] using q23) (by simpa [Act.eval] using q18) _ _ rB El (by rw [Kd (by rw [hs.out]; show (2+2:Nat)<=34; omega),hs.out]; show (4+8:Nat)<=34; omega) (by first | kernel_rfl | simp [Value.oneCell']) ?_;have TT:=Bq rB (putAt (putAt bs 2 #[q,.i bank]) 4 (cR A X d3 pE Z N C true));exact hK undef _ (TT.mono (fun b o _ e=>Or.inr ⟨rfl,e⟩)) ⟨q,setRow_heap _ _ _ _ _ _ rB,O.away TT (fun b' o h1 h2 (e:b'=z)=>by omega)⟩
  | _+25=>simp at ho
 .intro a' W F L hφ
  have p5:a'.tmps[5]?.getD undef=_:=Hf hφ 0;have p6:a'.tmps[6]?.getD undef=_:=Hf hφ 1;have p7:a'.tmps[7]?.getD undef=_:=Hf hφ 2;have p8:a'.tmps[8]?.getD undef=_:=Hf hφ 3;have p9:a'.tmps[9]?.getD undef=_:=Hf hφ 4;have p10:a'.tmps[10]?.getD undef=_:=Hf hφ 5;have p11:a'.tmps[11]?.getD undef=_:=Hf hφ 6;have p12:a'.tmps[12]?.getD undef=_:=Hf hφ 7;have p13:a'.tmps[13]?.getD undef=_:=Hf hφ 8;have p14:a'.tmps[14]?.getD undef=_:=Hf hφ 9;have p15:a'.tmps[15]?.getD undef=_:=Hf hφ 10;have p16:a'.tmps[16]?.getD undef=_:=Hf hφ 11;have p17:a'.tmps[17]?.getD undef=_:=Hf hφ 12;have p18:a'.tmps[18]?.getD undef=_:=Hf hφ 13;have p19:a'.tmps[19]?.getD undef=_:=Hf hφ 14;have e15:=Hf hφ 15;have e16:=Hf hφ 16;have e17:=Hf hφ 17;have p22:a'.tmps[22]?.getD undef=_:=Hf hφ 18
  have p23:a'.tmps[23]?.getD undef=_:=Hf hφ 19;have p24:a'.tmps[24]?.getD undef=_:=Hf hφ 20;have p25:a'.tmps[25]?.getD undef=_:=Hf hφ 22;have p26:a'.tmps[26]?.getD undef=_:=Hf hφ 23;have e24:=Hf hφ 24;rw [F.same,show slotsOf [some 5,some 6,some 7,some 8,some 9,some 10,some 11,some 12,some 13,some 14,some 15,some 16,some 17,some 18,some 19,some 20,some 4,some 21,some 22,some 23,some 24,none,some 25,some 26,none]=[5,6,7,8,9,10,11,12,13,14,15,16,17,18,19,20,4,21,22,23,24,25,26] from rfl];simp only [List.foldl_cons,List.foldl_nil];obtain ⟨q,kF,OF⟩:=e24;have LF:=L.mono (S:=fun b _=>b=z) (fun b o _ ⟨j,e⟩=>by omega);go_simp;go_wp2
  go_end0
  exact ⟨rfl,q,kF,OF,LF⟩
theorem Yf (x0 x1 x2 x3 x4 x5 x6 x7 x8 x9 x10 x11 x12 x13 x14 x15 x16 x17 x18 x19 x20 x21 x22 x23 x24 x25 x26 x27 x28 x29 x30 x31 x32 x33 q bk y0 y1 y2 y3 y4 y5 y6 y7:Value):putAt (putAt #[x0,x1,x2,x3,x4,x5,x6,x7,x8,x9,x10,x11,x12,x13,x14,x15,x16,x17,x18,x19,x20,x21,x22,x23,x24,x25,x26,x27,x28,x29,x30,x31,x32,x33] 2 #[q,bk]) 4 #[y0,y1,y2,y3,y4,y5,y6,y7]=#[x0,x1,q,bk,y0,y1,y2,y3,y4,y5,y6,y7,x12,x13,x14,x15,x16,x17,x18,x19,x20,x21,x22,x23,x24,x25,x26,x27,x28,x29,x30,x31,x32,x33]:=rfl
theorem Cj.low {W:World} {lo z:Nat} {d:Aq} {u4 u5 u6 u7:Value} (H:Cj W lo z d u4 u5 u6 u7) (hlo:lo<=z) {b o:Nat} (h:RL z u4 u5 u6 u7 b o):lo<=b:=by
 obtain ⟨D,u0,u1,u2,u3,ob,iv,ov,o6,o7,HQ,hz,B0⟩:=H.ex
 rcases h with h | h | h | h | h
 .omega
 .exact (HQ.bd 3 b (HQ.h3.spare4 h)).1
 .obtain ⟨n,c,rfl,-⟩:=h
  exact (HQ.bd 4 b (HQ.h5D b (Or.inl rfl))).1
 .exact (HQ.bd 5 b (HQ.h6D b (Ew HQ.h6 h))).1
 .exact (HQ.bd 6 b (HQ.h7D b (Ew HQ.h7 h))).1
theorem Cj.lt {W:World} {lo z:Nat} {d:Aq} {u4 u5 u6 u7:Value} (H:Cj W lo z d u4 u5 u6 u7):z<W.heap.size:=by
 obtain ⟨D,u0,u1,u2,u3,ob,iv,ov,o6,o7,HQ,hz,B0⟩:=H.ex;exact Ad B0
theorem Cj.goes {w W:World} {lo z:Nat} {d:Aq} {u4 u5 u6 u7 b4 b5 b6 b7:Value} (H:Cj w lo z d u4 u5 u6 u7) (hlo:lo<=z) (G:Goes w W z u4 u5 u6 u7 b4 b5 b6 b7):Below lo w W :=
 G.wr.below (by have:=H.lt; omega) (fun b o hb r=>by have:=H.low hlo r; omega)
theorem Da.at {w:World} (h:Da w):0<w.heap.size:=block_lt_of_cell (h 0 (by decide)).1
theorem Da.lo {w W:World} {lo:Nat} (h:Da w) (hv:0<lo) (L:Below lo w W):Da W:=fun i hi=>by
 obtain ⟨h1,h2,h3,h4⟩:=h i hi
 have e:∀ o,W.cell? ⟨0,o,none⟩=w.cell? ⟨0,o,none⟩:=fun o=>by
  unfold World.cell?;rw [L.block _ hv]
 exact ⟨(e _).trans h1,(e _).trans h2,(e _).trans h3,(e _).trans h4⟩
theorem Jdc {g:Nat->Int} (h:∀ j,j<512->0<=g j/\g j<=255):isRow 512 g 512=true:=by
 rw [Gb (by rfl)];exact Nn (fun j hj=>Bh (h j hj))
theorem Cj.put {w W:World} {lo z:Nat} {d:Aq} {u4 u5 u6 u7 q:Value} {g:Nat->Int} {c:A7} (H:Cj w lo z d u4 u5 u6 u7) (hlo:lo<=z) (hnr:d.nr=512)
  (k:∀ D u0 u1 u2 u3 ob iv ov o6 o7,B7 w lo w.heap.size D u0 u1 u2 u3 u4 u5 u6 u7 ob iv ov o6 o7 d->w.heap[z]?=some (.cells (kR d u0 u1 u2 u3 u4 u5 u6 u7) 41 (0,0))->W.heap[z]?=some (.cells (putAt (putAt (kR d u0 u1 u2 u3 u4 u5 u6 u7) 2 #[q,.i d.bank]) 4 (cR c.A c.X c.S c.Pc c.Z c.N c.C c.I)) 41 (0,0)))
  (O:Ao W w.heap.size q 512 g) (hW:Wrote (fun b _=>b=z) w W):Bz w W lo z u4 u5 u6 u7 (putCpu d g c):=by
 obtain ⟨D,u0,u1,u2,u3,ob,iv,ov,o6,o7,HQ,hz,B0⟩:=H.ex;have kz:=k D u0 u1 u2 u3 ob iv ov o6 o7 HQ B0;rw [Yf] at kz;have hzl:=Ad B0;have HA:=HQ.keepD hW (fun i b o h (e:b=z)=>hz i b h e)
 have OB:Bw W (fun b=>w.heap.size<=b/\b<W.heap.size) (.agg #[q,.i d.bank]) 512 g d.bank:=by
  obtain ⟨a,cap,e,h1,h2,h3,h4⟩:=O.ex;exact ⟨a,cap,by rw [e],h1,h2,h3,fun b o hf=>⟨h4 b o hf,(h3 b o hf).1⟩⟩
 rw [<- hnr] at OB;have HM:=HA.mem OB (Nat.le_refl _) (by omega) hW.size (Nat.le_refl _)
 have HM':B7 W lo W.heap.size (fun i b=>(i=2/\w.heap.size<=b/\b<W.heap.size)\/(i≠2/\D i b)) u0 u1 q u3 u4 u5 u6 u7 ob iv ov o6 o7 (putCpu d g c):=⟨HM.h0,HM.h1,HM.h2,HM.h3,HM.h5,HM.h5D,HM.h6,HM.h6D,HM.h7,HM.h7D,HM.dis,HM.bd,HM.nN,HM.hps⟩
 refine ⟨_,_,_,_,⟨_,_,_,_,_,_,_,_,_,_,HM',fun i b h e=>?_,kz⟩,Goes.box hW _ _ _ _⟩
 rcases h with ⟨-,h1,h2⟩ | ⟨-,h⟩
 .omega
 .exact hz i b h e
theorem Y8 (w:World) (lo z:Nat) (d:Aq) (u4 u5 u6 u7:Value) (H:Cj w lo z d u4 u5 u6 u7) (hlo:lo<=z) (hnr:d.nr=512) (hr:∀ j,j<512->0<=d.g j/\d.g j<=255) (vec:Int):Calls prog 85 #[(pt z 0),.i vec] w fun e w'=>e=.returned (.tuple #[])/\Bz w w' lo z u4 u5 u6 u7 (Mt d vec):=by
 obtain ⟨D,u0,u1,u2,u3,ob,iv,ov,o6,o7,HQ,hz,B0⟩:=H.ex;obtain ⟨q5,hq5,I2⟩:=HQ.h2.ints;simp only [Value.agg.injEq,Array.mk.injEq,List.cons.injEq,and_true] at hq5;subst hq5;rw [hnr] at I2;refine (Jgf w z _ rfl B0 _ _ u0 u2 d.m d.ln d.f d.g d.bank d.A d.X d.S d.Pc d.Z d.N d.C d.I HQ.h0.ints I2 (Jdc hr) rfl rfl rfl rfl rfl rfl rfl rfl rfl rfl rfl vec).mono ?_;rintro e W ⟨rfl,q,k,O,hW⟩
 exact ⟨rfl,Cj.put (c:=entC d vec) H hlo hnr (fun D' v0 v1 v2 v3 ob' iv' ov' o6' o7' HQ' B0'=>by
  rw [B0] at B0';simp only [Option.some.injEq,Obj.cells.injEq,Array.mk.injEq,List.cons.injEq,and_true,true_and] at B0';obtain ⟨rfl,rfl,rfl,rfl⟩:=B0'
  exact k) O hW⟩
end Go.Proofs.YtijljlnooibbmaaGreatDoor
