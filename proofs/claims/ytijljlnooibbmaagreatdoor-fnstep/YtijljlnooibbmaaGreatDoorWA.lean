import Derived.Test.YtijljlnooibbmaaGreatDoorI6b
import Derived.Test.YtijljlnooibbmaaGreatDoorGT
namespace Go.Proofs.YtijljlnooibbmaaGreatDoor
set_option maxHeartbeats 4000000
set_option maxRecDepth 40000
open Go.Proofs.Tryz
set_option linter.unusedVariables false
set_option linter.unusedSimpArgs false
open Go.ChangeShapes Go.WideShapes Go.ChangeAt Go.RowKit
theorem Gn:(prog.info? 29).map (·.size)=some 2:=by kernel_rfl
theorem El:(prog.info? 31).map (·.size)=some 8:=by kernel_rfl
theorem Ag {R:Nat->Nat->Prop} {w w':World} {b:Nat} {o:Obj} (h:w.heap[b]?=some o) (hw:Wrote R w w') (hd:∀ o,¬ R b o):w'.heap[b]?=some o:=(hw.block b (Ad h) hd).trans h
theorem Bq {w:World} {g:Nat} {old:Array Value} {t:TypeId} (hg:w.heap[g]?=some (.cells old t (0,0))) (cs:Array Value):Wrote (fun b _=>b=g) w (w.setRow g cs) :=
 ⟨rfl,rfl,rfl,by simp [World.setRow],fun k hk hn=>setRow_other _ _ _ _ (fun e=>hn 0 e),fun b o hb hn=>cell_setRow_other _ _ _ _ hn,fun b o hb=>by
  by_cases e:b=g
  .subst e
   rw [Au (setRow_heap _ _ _ _ _ _ hg),Au hg]
  .unfold World.frozen?; rw [setRow_other _ _ _ _ e]⟩
theorem Ow (w:World) (x:Nat) (h1:x<256):Calls prog 216 #[.int .u8 (x:Int)] w fun e w'=>e=.returned (.i ((256+x:Nat):Int))/\w'=w:=by
 obtain ⟨r,hr⟩:∃ r:Int,Hid (r=((256+x:Nat):Int)):=⟨_,rfl⟩
 rw [<- hr.out]
 go_enter func216,ntmps216
 go_wp2;go_ret;exact ⟨A5 (by rw [hr.out]; omega),rfl⟩
theorem Jc2 (w:World) (G:Nat->Nat->Prop) (u:Value) (g:Nat->Int) (bank:Int) (K:Ints .i64 w G u 512 g) (hb:isRow 512 g 512=true) (A X S Pc:Int) (Z N C I:Bool) (vv:Int):Calls prog 174 #[.agg #[u,.i bank],.agg (cR A X S Pc Z N C I),.i vv] w
  fun e w'=>∃ u',e=.returned (.tuple #[.agg #[u',.i bank],.agg (cR A X (dec8 S) Pc Z N C I)])/\Ao w' w.heap.size u' 512 (B4 g S vv)/\Below w.heap.size w w':=by
 obtain ⟨ua,ucap,rfl,un,-,-⟩:=id K;have C0:Below w.heap.size w ((((w.alloc (.cells #[.slice ua 512 ucap,.i bank] 29)).alloc (.cells (cR A X S Pc Z N C I) 31)).alloc (.cells mZ 29)).alloc (.cells cZ 31)):=((((Below.refl _ _).alloc (Nat.le_refl _) _).alloc (by simp) _).alloc (by simp; omega) _).alloc (by simp; omega) _;have k0:((((w.alloc (.cells #[.slice ua 512 ucap,.i bank] 29)).alloc (.cells (cR A X S Pc Z N C I) 31)).alloc (.cells mZ 29)).alloc (.cells cZ 31)).heap[w.heap.size]?=some (.cells #[.slice ua 512 ucap,.i bank] 29 (0,0)):=Az (Az (Az (Ak w _ _) _) _) _
 have k1:((((w.alloc (.cells #[.slice ua 512 ucap,.i bank] 29)).alloc (.cells (cR A X S Pc Z N C I) 31)).alloc (.cells mZ 29)).alloc (.cells cZ 31)).heap[w.heap.size+1]?=some (.cells (cR A X S Pc Z N C I) 31 (0,0)):=by simpa using Az (Az (Ak (w.alloc (.cells #[.slice ua 512 ucap,.i bank] 29)) (cR A X S Pc Z N C I) 31) (.cells mZ 29)) (.cells cZ 31)
 have k2:((((w.alloc (.cells #[.slice ua 512 ucap,.i bank] 29)).alloc (.cells (cR A X S Pc Z N C I) 31)).alloc (.cells mZ 29)).alloc (.cells cZ 31)).heap[w.heap.size+1+1]?=some (.cells mZ 29 (0,0)):=by simpa using Az (Ak ((w.alloc (.cells #[.slice ua 512 ucap,.i bank] 29)).alloc (.cells (cR A X S Pc Z N C I) 31)) mZ 29) (.cells cZ 31)
 have k3:((((w.alloc (.cells #[.slice ua 512 ucap,.i bank] 29)).alloc (.cells (cR A X S Pc Z N C I) 31)).alloc (.cells mZ 29)).alloc (.cells cZ 31)).heap[w.heap.size+1+1+1]?=some (.cells cZ 31 (0,0)):=by simpa using Ak (((w.alloc (.cells #[.slice ua 512 ucap,.i bank] 29)).alloc (.cells (cR A X S Pc Z N C I) 31)).alloc (.cells mZ 29)) cZ 31
 obtain ⟨gP,hgP⟩:∃ x,Hid (x=B4 g S vv):=⟨_,rfl⟩
 rw [<- hgP.out]
 obtain ⟨s8,hs8⟩:∃ x:Nat,Hid ((x:Int)=S%256):=⟨(S%256).toNat,by show _=_; omega⟩
 have s80:s8<256:=by have:=hs8.out; omega
 have hwr:IntKind.u8.wrap S=(s8:Int):=by rw [hs8.out]; first | exact IntKind.wrap_u8 S | (simp [IntKind.wrap,IntKind.signed,IntKind.bits])
 obtain ⟨v8,hv8⟩:∃ x,Hid (x=vv%256):=⟨_,rfl⟩
 have HGP:Hid (gP=Fq g (256+s8) v8):=by show _=_; rw [hgP.out,hv8.out]; unfold B4; rw [<- hs8.out,Int.toNat_natCast]
 obtain ⟨sD,hsD⟩:∃ x,Hid (x=dec8 S):=⟨_,rfl⟩
 rw [<- hsD.out];have HBt:=Ac (fun W=>Ct vv W);rw [<- hv8.out] at HBt;have HBS:=Ac (fun W=>Ct (wrap64 (S-1)) W);rw [show wrap64 (S-1)%256=sD by rw [hsD.out]; unfold dec8 wrap64; omega] at HBS;have HIB:=Ac (fun W k=>isBytes W G (.slice ua 512 ucap) 512 g 512 k);rw [hb] at HIB;have HCM:=Ac (fun W k=>Kv W G (.slice ua 512 ucap) 512 g bank k);clear hgP hsD hb
 go_enter func174,ntmps174
 go_upto_region 1 with (fail);generalize (((w.alloc (.cells #[.slice ua 512 ucap,.i bank] 29)).alloc (.cells (cR A X S Pc Z N C I) 31)).alloc (.cells mZ 29)).alloc (.cells cZ 31)=W0 at *;replace K:=K.keep (Aa C0 Aj) (fun _ _ _ x=>x);have c0:=Af k0;go_wp2_with fail;refine (HCM.out W0 K).mono ?_;clear c0 HCM;rintro e W1 ⟨q,rfl,OQ,L⟩;have l3:=Ad k3;replace C0:=Ah C0 L;replace k0:=Ab k0 L (Ad k0);replace k1:=Ab k1 L (Ad k1);replace k2:=Ab k2 L (Ad k2);replace k3:=Ab k3 L (Ad k3);replace K:=K.keep (Aa L Aj) (fun _ _ _ x=>x);clear L;obtain ⟨a,cap,rfl,-,hr,-,-⟩:=id OQ;obtain ⟨qb,off,rfl,-⟩:=hr 0 (by omega);have hoff:=(OQ.cellAt 0 (by omega)).2.2.1;have hb1:=(OQ.cellAt 0 (by omega)).2.2.2;clear hr
 have LA:Below W1.heap.size W1 (W1.alloc (.cells #[.slice (some ⟨qb,off,none⟩) 512 cap,.i bank] 29)):=(Below.refl _ _).alloc (Nat.le_refl _) _;have kM:=Ak W1 #[.slice (some ⟨qb,off,none⟩) 512 cap,.i bank] 29
 have lM:W1.heap.size≠qb:=by omega
 have lM3:=Ad k3;have HK2:=Ac (K.keep (Aa LA Aj) (fun _ _ _ x=>x));have O2:=Ac (OQ.keepL LA);have C2:=Ac (Ah C0 LA);have n0:=Ac (Az k0 (.cells #[.slice (some ⟨qb,off,none⟩) 512 cap,.i bank] 29));have n1:=Ac (Az k1 (.cells #[.slice (some ⟨qb,off,none⟩) 512 cap,.i bank] 29));have n2:=Ac (Az k2 (.cells #[.slice (some ⟨qb,off,none⟩) 512 cap,.i bank] 29));have n3:=Ac (Az k3 (.cells #[.slice (some ⟨qb,off,none⟩) 512 cap,.i bank] 29));have c0:=Af n0.out;clear k0 k1 k2 k3 K OQ C0 LA;go_wp2_with fail;refine (HIB.out _ HK2.out).mono ?_;clear HIB HK2 c0
 obtain ⟨m,hm⟩:∃ x,Hid (x=W1.heap.size):=⟨_,rfl⟩
 rw [<- hm.out] at kM lM lM3 hb1 ⊢;clear hm;generalize W1.alloc (.cells #[.slice (some ⟨qb,off,none⟩) 512 cap,.i bank] 29)=W2 at *;rintro e W3 ⟨rfl,hW3⟩;subst hW3;have k0:=n0.out;have k1:=n1.out;have k2:=n2.out;have k3:=n3.out;have OQ:=O2.out;have C0:=C2.out;clear n0 n1 n2 n3 O2 C2 k0;go_upto_region 3 with (fail);rename_i K3 hK3
 refine Bp [some 14,some 15,some 16,some 17,some 18,some 19,some 20,some 21,some 22,none] (by kernel_rfl) (by kernel_rfl) (by kernel_rfl) (by kernel_rfl) (by first | (simp [slotsOf]; done) | (simp [slotsOf,Act.put]; done))
  (fun j b _=>(j=9/\b=qb))
  (fun i v W=>match i with
   | 0=>v=(pt m 0)
   | 1=>v=.slice (some ⟨qb,off,none⟩) 512 cap
   | 2=>v=(pt (w.heap.size+1) 2)
   | 3=>v=.i S
   | 4=>v=.int .u8 (s8:Int)
   | 5=>v=.i ((256+s8:Nat):Int)
   | 6=>v=.i vv
   | 7=>v=.i v8
   | 8=>v=.pointer (some ⟨qb,off+(256+s8),none⟩)
   | _=>Ao W W0.heap.size (.slice (some ⟨qb,off,none⟩) 512 cap) 512 (Fq g (256+s8) v8)) ?_ ?_ ?_
 .intro i j o v W W' hij ho _ hW h
  rcases i with _|_|_|_|_|_|_|_|_|_|i
  all_goals try exact h
  .exact h.away hW (fun b' o h1 h2 e=>by omega)
  all_goals simp at ho
 .intro i o a' W K8 ho F L hw hK
  match i with
  | 0 =>
   cases ho;have t8:=F.get (t:=8) (v:=(pt m 0)) (by decide) rfl;go_simp;exact Hk hK rfl
  | 1 =>
   cases ho;have q0:tv a' 14=_:=Hr hw 0;have rB:=Ag kM L (fun o ⟨j,oj,hj,hoj,hwj,e⟩=>by omega);have rb:=Af rB;go_simp;exact Hk hK rfl
  | 2 =>
   cases ho;have t4:=F.get (t:=4) (v:=(pt (w.heap.size+1) 0)) (by decide) rfl;go_simp;exact Hk hK rfl
  | 3 =>
   cases ho;have q2:tv a' 16=_:=Hr hw 2;have rB:=Ag k1 L (fun o ⟨j,oj,hj,hoj,hwj,e⟩=>by omega);have rb:=Af rB;go_simp;exact Hk hK rfl
  | 4 =>
   cases ho;have q3:tv a' 17=_:=Hr hw 3;go_simp;exact Hk hK rfl
  | 5 =>
   cases ho;have q4:tv a' 18=_:=Hr hw 4;go_simp;refine (Ow W s8 s80).mono ?_;rintro e W' ⟨rfl,rfl⟩;exact Hk hK rfl
  | 6 =>
   cases ho;have t2:=F.get (t:=2) (v:=.i vv) (by decide) rfl;go_simp;exact Hk hK rfl
  | 7 =>
   cases ho;have q6:tv a' 20=_:=Hr hw 6;go_simp;refine (HBt.out W).mono ?_;rintro e W' ⟨rfl,rfl⟩;exact Hk hK rfl
  | 8 =>
   cases ho;have q1:tv a' 15=_:=Hr hw 1;have q5:tv a' 19=_:=Hr hw 5
   have hix:(0<=256+(s8:Int)/\256+(s8:Int)<512):=by omega
   have htn:(256+(s8:Int)).toNat=256+s8:=by omega
   have hcast:((256+s8:Nat):Int)=256+(s8:Int):=by omega
   go_simp;exact Hk hK rfl
  | 9 =>
   cases ho;have q8:tv a' 22=_:=Hr hw 8;have q7:tv a' 21=_:=Hr hw 7;have OW:=OQ.away L (fun b' o h1 h2 ⟨j,oj,hj,hoj,hwj,e⟩=>by omega);obtain ⟨cc,ff,-,-⟩:=OW.cellAt (256+s8) (by omega);go_simp;exact hK undef _ (Wrote.setCell (Wrote.refl _ W) (fun _=>⟨rfl,rfl⟩) _) (OW.put (256+s8) (by omega) v8)
  | _+10=>simp at ho
 .intro a' W F L hφ
  have p14:a'.tmps[14]?.getD undef=_:=Hd hφ 0;have p15:a'.tmps[15]?.getD undef=_:=Hd hφ 1;have p16:a'.tmps[16]?.getD undef=_:=Hd hφ 2;have p17:a'.tmps[17]?.getD undef=_:=Hd hφ 3;have p18:a'.tmps[18]?.getD undef=_:=Hd hφ 4;have p19:a'.tmps[19]?.getD undef=_:=Hd hφ 5;have p20:a'.tmps[20]?.getD undef=_:=Hd hφ 6;have p21:a'.tmps[21]?.getD undef=_:=Hd hφ 7;have p22:a'.tmps[22]?.getD undef=_:=Hd hφ 8;have e9:=Hd hφ 9;rw [F.same,show slotsOf [some 14,some 15,some 16,some 17,some 18,some 19,some 20,some 21,some 22,none]=[14,15,16,17,18,19,20,21,22] from rfl];simp only [List.foldl_cons,List.foldl_nil];have OF:=e9;clear OQ;have OQ:=OF;clear OF e9;replace kM:=Ag kM L (fun o ⟨j,e⟩=>by omega);replace k1:=Ag k1 L (fun o ⟨j,e⟩=>by omega);replace k2:=Ag k2 L (fun o ⟨j,e⟩=>by omega)
  replace k3:=Ag k3 L (fun o ⟨j,e⟩=>by omega);replace C0:=C0.trans (L.below C0.size (fun b' o hb ⟨j,e⟩=>by omega));rw [p14,p15,p16,p17,p18,p19,p20,p21,p22];clear hφ F L p14 p15 p16 p17 p18 p19 p20 p21 p22;refine hK3 _ _ ?_;clear hK3;go_simp;have TW:=Wrote.refl (fun b' _=>b'=qb) W;have k1c:=Af k1;have k1f:=Au k1;go_wp2_with fail;refine (HBS.out _).mono ?_;rintro e W4 ⟨rfl,hW4⟩;rw [hW4];clear hW4 W4 HBS;go_upto_region 5 with (fail);have TT:=Wrote.setCell (b:=w.heap.size+1) (o:=2) (R:=fun b' _=>b'=w.heap.size+1) (Wrote.refl _ W) (fun _=>rfl) (.i sD);have n1:=Am (o:=2) k1 (.i sD);simp only [Sa,Sb,Sc] at n1;replace kM:=Ag kM TT (fun o (h:_=_)=>by omega);replace k2:=Ag k2 TT (fun o (h:_=_)=>by omega);replace k3:=Ag k3 TT (fun o (h:_=_)=>by omega)
  replace OQ:=OQ.away TT (fun b' o h1 h2 (h:b'=_)=>by omega);replace C0:=C0.trans (TT.below C0.size (fun b' o hb (h:b'=_)=>by omega));clear TT k1 k1c k1f TW;generalize W.setCell ⟨w.heap.size+1,2,none⟩ (.i sD)=W5 at *;have k1:=n1;clear n1;rename_i K5 hK5;have k1c:=Af k1;have kMc:=Af kM
  refine Bp [some 28,some 29,none,none] (by kernel_rfl) (by kernel_rfl) (by kernel_rfl) (by kernel_rfl) (by first | (simp [slotsOf]; done) | (simp [slotsOf,Act.put]; done))
   (fun j b' _=>(j=2/\b'=w.heap.size+1+1)\/(j=3/\b'=w.heap.size+1+1+1))
   (fun i v W=>match i with
    | 0=>v=.agg #[.slice (some ⟨qb,off,none⟩) 512 cap,.i bank]
    | 1=>v=.agg (cR A X sD Pc Z N C I)
    | 2=>W.heap[w.heap.size+1+1]?=some (.cells #[.slice (some ⟨qb,off,none⟩) 512 cap,.i bank] 29 (0,0))
    | _=>W.heap[w.heap.size+1+1+1]?=some (.cells (cR A X sD Pc Z N C I) 31 (0,0))) ?_ ?_ ?_
  .intro i j o v W W' hij ho _ hW h
   rcases i with _|_|_|_|i
   all_goals try exact h
   .exact Ag h hW (fun o e=>by omega)
   .exact Ag h hW (fun o e=>by omega)
   all_goals simp at ho
  .intro i o a' W K8 ho F L hw hK
   match i with
   | 0 =>
    cases ho;have t8:=F.get (t:=8) (v:=(pt m 0)) (by decide) rfl;have rb:=Af (Ag kM L (fun o ⟨j,oj,hj,hoj,hwj,e⟩=>by omega));go_simp;exact Hk hK rfl
   | 1 =>
    cases ho;have t4:=F.get (t:=4) (v:=(pt (w.heap.size+1) 0)) (by decide) rfl;have rb:=Af (Ag k1 L (fun o ⟨j,oj,hj,hoj,hwj,e⟩=>by omega));go_simp;exact Hk hK rfl
   | 2 =>
    cases ho;have t6:=F.get (t:=6) (v:=(pt (w.heap.size+1+1) 0)) (by decide) rfl;have q0:tv a' 28=_:=Hr hw 0;have rB:=Ag k2 L (fun o ⟨j,oj,hj,hoj,hwj,e⟩=>by omega);refine wp_store_row _ _ _ rfl (w.heap.size+1+1) #[.slice (some ⟨qb,off,none⟩) 512 cap,.i bank] (by simpa [Act.eval] using t6) (by simpa [Act.eval] using q0) _ _ rB Gn rfl (by first | kernel_rfl | simp [Value.oneCell']) ?_;exact hK undef _ ((Bq rB _).mono (fun b o _ h=>Or.inl ⟨rfl,h⟩)) (setRow_heap _ _ _ _ _ _ rB)
   | 3 =>
    cases ho;have t7:=F.get (t:=7) (v:=(pt (w.heap.size+1+1+1) 0)) (by decide) rfl;have q1:tv a' 29=_:=Hr hw 1;have rB:=Ag k3 L (fun o ⟨j,oj,hj,hoj,hwj,e⟩=>by omega);refine wp_store_row _ _ _ rfl (w.heap.size+1+1+1) (cR A X sD Pc Z N C I) (by simpa [Act.eval] using t7) (by simpa [Act.eval] using q1) _ _ rB El rfl (by first | kernel_rfl | simp [Value.oneCell']) ?_;exact hK undef _ ((Bq rB _).mono (fun b o _ h=>Or.inr ⟨rfl,h⟩)) (setRow_heap _ _ _ _ _ _ rB)
   | _+4=>simp at ho
  .intro a' W F L hφ
   have p28:a'.tmps[28]?.getD undef=_:=Hd hφ 0;have p29:a'.tmps[29]?.getD undef=_:=Hd hφ 1;have kA:W.heap[w.heap.size+1+1]?=some (.cells #[.slice (some ⟨qb,off,none⟩) 512 cap,.i bank] 29 (0,0)):=Hd hφ 2;have kB:W.heap[w.heap.size+1+1+1]?=some (.cells (cR A X sD Pc Z N C I) 31 (0,0)):=Hd hφ 3;have OF:=Ac ((OQ.away L (fun b' o h1 h2 ⟨j,e⟩=>by omega)).mono (show w.heap.size<=W0.heap.size by omega));have CF:=C0.trans (L.below C0.size (fun b' o hb ⟨j,e⟩=>by omega));rw [F.same,show slotsOf [some 28,some 29,none,none]=[28,29] from rfl];simp only [List.foldl_cons,List.foldl_nil];rw [p28,p29];clear hφ F L p28 p29 OQ C0 k1 k2 k3 kM k1c kMc;refine hK5 _ _ ?_;clear hK5;go_simp;go_wp2;have cA:=Af kA;have cB:=Af kB
   refine bodyPost_ret (v:=.tuple #[.agg #[.slice (some ⟨qb,off,none⟩) 512 cap,.i bank],.agg (cR A X sD Pc Z N C I)]) (by simp [results,results174,go_sem,cA,cB]) rfl ?_;exact ⟨_,rfl,by rw [HGP.out]; exact OF.out,CF⟩
theorem Ms {P:Program} {fn:Func} {p q:Tmp} {ty:TypeId} (h:fn.results=#[.cell p ty,.tmp q]) (tmps:Array Value) (w:World) (g:Nat) (t:TypeId) (cs:Array Value) (fr:Nat × Nat) (dd:TypeDesc)
  (hp:tmps.getD p undef=(pt g 0)) (hg:w.heap[g]?=some (.cells cs t fr)) (hu:P.underlying ty=some dd) (hd:(match dd with | .struct _ | .array _ _=>true | _=>false)=true) (hi:(P.info? ty).map (·.size)=some cs.size) :
  (results fn tmps).run P w=.ok (.tuple #[.agg cs,tmps.getD q undef]) w:=by
 have hp':tmps[p]?.getD undef=(pt g 0):=by simpa using hp
 simp [results,h,hp',asAddr,run_loadVar_row w g t ty cs fr dd hg hu hd hi]
def Eo (S:Int):Int:=(S+1)%256
theorem Jc3 (w:World) (G:Nat->Nat->Prop) (u:Value) (g:Nat->Int) (bank:Int) (K:Ints .i64 w G u 512 g) (hb:isRow 512 g 512=true) (A X S Pc:Int) (Z N C I:Bool):Calls prog 243 #[.agg #[u,.i bank],.agg (cR A X S Pc Z N C I)] w
  fun e w'=>e=.returned (.tuple #[.agg (cR A X (Eo S) Pc Z N C I),.i (g (256+(Eo S).toNat))])/\Below w.heap.size w w':=by
 obtain ⟨ua,ucap,rfl,un,hr,-⟩:=id K
 obtain ⟨s8,hs8⟩:∃ x:Nat,Hid ((x:Int)=Eo S):=⟨(Eo S).toNat,by show _=_; unfold Eo; omega⟩
 have s80:s8<256:=by have:=hs8.out; unfold Eo at this; omega
 rw [<- hs8.out,Int.toNat_natCast]
 obtain ⟨x8,hx8⟩:∃ x,Hid (x=g (256+s8)):=⟨_,rfl⟩
 obtain ⟨qb,off,rfl,hcell⟩:=hr (256+s8) (by omega);rw [<- hx8.out] at hcell ⊢;have hqb:=block_lt_of_cell hcell;have HBS:=Ac (fun W=>Ct (wrap64 (S+1)) W);rw [show wrap64 (S+1)%256=(s8:Int) by rw [hs8.out]; unfold Eo wrap64; omega] at HBS;have HIB:=Ac (fun W k=>isBytes W G (.slice (some ⟨qb,off,none⟩) 512 ucap) 512 g 512 k);rw [hb] at HIB;clear hr hb hx8 hs8;have C0:Below w.heap.size w (((w.alloc (.cells #[.slice (some ⟨qb,off,none⟩) 512 ucap,.i bank] 29)).alloc (.cells (cR A X S Pc Z N C I) 31)).alloc (.cells cZ 31)):=(((Below.refl _ _).alloc (Nat.le_refl _) _).alloc (by simp) _).alloc (by simp; omega) _
 have k0:(((w.alloc (.cells #[.slice (some ⟨qb,off,none⟩) 512 ucap,.i bank] 29)).alloc (.cells (cR A X S Pc Z N C I) 31)).alloc (.cells cZ 31)).heap[w.heap.size]?=some (.cells #[.slice (some ⟨qb,off,none⟩) 512 ucap,.i bank] 29 (0,0)):=Az (Az (Ak w _ _) _) _
 have k1:(((w.alloc (.cells #[.slice (some ⟨qb,off,none⟩) 512 ucap,.i bank] 29)).alloc (.cells (cR A X S Pc Z N C I) 31)).alloc (.cells cZ 31)).heap[w.heap.size+1]?=some (.cells (cR A X S Pc Z N C I) 31 (0,0)):=by simpa using Az (Ak (w.alloc (.cells #[.slice (some ⟨qb,off,none⟩) 512 ucap,.i bank] 29)) (cR A X S Pc Z N C I) 31) (.cells cZ 31)
 have k2:(((w.alloc (.cells #[.slice (some ⟨qb,off,none⟩) 512 ucap,.i bank] 29)).alloc (.cells (cR A X S Pc Z N C I) 31)).alloc (.cells cZ 31)).heap[w.heap.size+1+1]?=some (.cells cZ 31 (0,0)):=by simpa using Ak ((w.alloc (.cells #[.slice (some ⟨qb,off,none⟩) 512 ucap,.i bank] 29)).alloc (.cells (cR A X S Pc Z N C I) 31)) cZ 31
 replace hcell:(((w.alloc (.cells #[.slice (some ⟨qb,off,none⟩) 512 ucap,.i bank] 29)).alloc (.cells (cR A X S Pc Z N C I) 31)).alloc (.cells cZ 31)).cell? ⟨qb,off+(256+s8),none⟩=some (.i x8):=(C0.cell (p:=⟨qb,off+(256+s8),none⟩) hqb).trans hcell
 go_enter func243,ntmps243
 go_upto_region 1 with (fail);generalize ((w.alloc (.cells #[.slice (some ⟨qb,off,none⟩) 512 ucap,.i bank] 29)).alloc (.cells (cR A X S Pc Z N C I) 31)).alloc (.cells cZ 31)=W0 at *;replace K:=K.keep (Aa C0 Aj) (fun _ _ _ x=>x);have c0:=Af k0;go_wp2_with fail;refine (HIB.out W0 K).mono ?_;clear c0 HIB K;rintro e W1 ⟨rfl,hW1⟩;rw [hW1];clear hW1 W1;have c1:=Af k1;have f1:=Au k1;go_wp2_with fail;refine (HBS.out W0).mono ?_;clear HBS;rintro e W1 ⟨rfl,hW1⟩;rw [hW1];clear hW1 W1;go_upto_region 4 with (fail);clear c1 f1;have TT:=Wrote.setCell (b:=w.heap.size+1) (o:=2) (R:=fun b' _=>b'=w.heap.size+1) (Wrote.refl _ W0) (fun _=>rfl) (.i (s8:Int));have n1:=Am (o:=2) k1 (.i (s8:Int));simp only [Sa,Sb,Sc] at n1;replace k0:=Ag k0 TT (fun o (h:_=_)=>by omega)
 replace k2:=Ag k2 TT (fun o (h:_=_)=>by omega);have hqb0:qb<W0.heap.size:=block_lt_of_cell hcell;replace hcell:=(TT.cell qb (off+(256+s8)) hqb0 (fun (h:_=_)=>by omega)).trans hcell;replace C0:=C0.trans (TT.below C0.size (fun b' o hb (h:b'=_)=>by omega));replace hqb:qb<w.heap.size:=hqb;clear TT k1 hqb0;generalize W0.setCell ⟨w.heap.size+1,2,none⟩ (.i (s8:Int))=W5 at *;have k1:=n1;clear n1;have hqw:=hqb;replace hqb:qb<W5.heap.size:=block_lt_of_cell hcell;rename_i K4 hK4
 refine Bp [some 16,some 17,some 18,some 19,some 20,some 21,some 22,some 23,some 24,none,some 5] (by kernel_rfl) (by kernel_rfl) (by kernel_rfl) (by kernel_rfl) (by first | (simp [slotsOf]; done) | (simp [slotsOf,Act.put]; done))
  (fun j b _=>j=9/\b=w.heap.size+1+1)
  (fun i v W=>match i with
   | 0=>v=.agg (cR A X (s8:Int) Pc Z N C I)
   | 1=>v=(pt w.heap.size 0)
   | 2=>v=.slice (some ⟨qb,off,none⟩) 512 ucap
   | 3=>v=(pt (w.heap.size+1) 2)
   | 4=>v=.i (s8:Int)
   | 5=>v=.int .u8 (s8:Int)
   | 6=>v=.i ((256+s8:Nat):Int)
   | 7=>v=.pointer (some ⟨qb,off+(256+s8),none⟩)
   | 8=>v=.i x8
   | 9=>W.heap[w.heap.size+1+1]?=some (.cells (cR A X (s8:Int) Pc Z N C I) 31 (0,0))
   | _=>v=.i x8) ?_ ?_ ?_
 .intro i j o v W W' hij ho _ hW h
  rcases i with _|_|_|_|_|_|_|_|_|_|_|i
  all_goals try exact h
  .exact Ag h hW (fun o e=>by omega)
  all_goals simp at ho
 .intro i o a' W K8 ho F L hw hK
  match i with
  | 0 =>
   cases ho;have t3:=F.get (t:=3) (v:=(pt (w.heap.size+1) 0)) (by decide) rfl;have rb:=Af (Ag k1 L (fun o ⟨j,oj,hj,hoj,hwj,e⟩=>by omega));go_simp;exact Hk hK rfl
  | 1 =>
   cases ho;have t2:=F.get (t:=2) (v:=(pt w.heap.size 0)) (by decide) rfl;go_simp;exact Hk hK rfl
  | 2 =>
   cases ho;have q1:tv a' 17=_:=Hr hw 1;have rb:=Af (Ag k0 L (fun o ⟨j,oj,hj,hoj,hwj,e⟩=>by omega));go_simp;exact Hk hK rfl
  | 3 =>
   cases ho;have t3:=F.get (t:=3) (v:=(pt (w.heap.size+1) 0)) (by decide) rfl;go_simp;exact Hk hK rfl
  | 4 =>
   cases ho;have q3:tv a' 19=_:=Hr hw 3;have rb:=Af (Ag k1 L (fun o ⟨j,oj,hj,hoj,hwj,e⟩=>by omega));go_simp;exact Hk hK rfl
  | 5 =>
   cases ho;have q4:tv a' 20=_:=Hr hw 4
   have hwr:IntKind.u8.wrap (s8:Int)=(s8:Int):=by rw [IntKind.wrap_u8]; omega
   go_simp;exact Hk hK rfl
  | 6 =>
   cases ho;have q5:tv a' 21=_:=Hr hw 5;go_simp;refine (Ow W s8 s80).mono ?_;rintro e W' ⟨rfl,rfl⟩;exact Hk hK rfl
  | 7 =>
   cases ho;have q2:tv a' 18=_:=Hr hw 2;have q6:tv a' 22=_:=Hr hw 6
   have hix:(0<=256+(s8:Int)/\256+(s8:Int)<512):=by omega
   have htn:(256+(s8:Int)).toNat=256+s8:=by omega
   have hcast:((256+s8:Nat):Int)=256+(s8:Int):=by omega
   go_simp;exact Hk hK rfl
  | 8 =>
   cases ho;have q7:tv a' 23=_:=Hr hw 7;have rc:W.cell? ⟨qb,off+(256+s8),none⟩=some (.i x8):=(L.cell qb _ hqb (fun ⟨j,oj,hj,hoj,hwj,e⟩=>by omega)).trans hcell;go_simp;exact Hk hK rfl
  | 9 =>
   cases ho;have t4:=F.get (t:=4) (v:=(pt (w.heap.size+1+1) 0)) (by decide) rfl;have q0:tv a' 16=_:=Hr hw 0;have rB:=Ag k2 L (fun o ⟨j,oj,hj,hoj,hwj,e⟩=>by omega);refine wp_store_row _ _ _ rfl (w.heap.size+1+1) (cR A X (s8:Int) Pc Z N C I) (by simpa [Act.eval] using t4) (by simpa [Act.eval] using q0) _ _ rB El rfl (by first | kernel_rfl | simp [Value.oneCell']) ?_;exact hK undef _ ((Bq rB _).mono (fun b o _ h=>⟨rfl,h⟩)) (setRow_heap _ _ _ _ _ _ rB)
  | 10 =>
   cases ho;have q8:tv a' 24=_:=Hr hw 8;go_simp;exact Hk hK rfl
  | _+11=>simp at ho
 .intro a' W F L hφ
  have p16:a'.tmps[16]?.getD undef=_:=Hd hφ 0;have p17:a'.tmps[17]?.getD undef=_:=Hd hφ 1;have p18:a'.tmps[18]?.getD undef=_:=Hd hφ 2;have p19:a'.tmps[19]?.getD undef=_:=Hd hφ 3;have p20:a'.tmps[20]?.getD undef=_:=Hd hφ 4;have p21:a'.tmps[21]?.getD undef=_:=Hd hφ 5;have p22:a'.tmps[22]?.getD undef=_:=Hd hφ 6;have p23:a'.tmps[23]?.getD undef=_:=Hd hφ 7;have p24:a'.tmps[24]?.getD undef=_:=Hd hφ 8;have e9:=Hd hφ 9;have p5:a'.tmps[5]?.getD undef=_:=Hd hφ 10;rw [F.same,show slotsOf [some 16,some 17,some 18,some 19,some 20,some 21,some 22,some 23,some 24,none,some 5]=[16,17,18,19,20,21,22,23,24,5] from rfl];simp only [List.foldl_cons,List.foldl_nil];have CF:=C0.trans (L.below C0.size (fun b' o hb ⟨j,e⟩=>by omega))
  have kF:W.heap[w.heap.size+1+1]?=some (.cells (cR A X (s8:Int) Pc Z N C I) 31 (0,0)):=e9;rw [p16,p17,p18,p19,p20,p21,p22,p23,p24,p5];clear hφ F L e9 p16 p17 p18 p19 p20 p21 p22 p23 p24 p5;refine hK4 _ _ ?_;clear hK4;go_simp;go_wp2;refine bodyPost_ret (v:=.tuple #[.agg (cR A X (s8:Int) Pc Z N C I),.i x8]) (by exact Ms results243 _ _ (w.heap.size+1+1) _ _ _ _ rfl kF underlying31 rfl El) rfl ?_;exact ⟨rfl,CF⟩
set_option maxHeartbeats 2000000
set_option maxRecDepth 20000
open Go.Sort
theorem Ci:(prog.info? 31).map (·.size)=some 8:=by kernel_rfl
theorem Vq (w:World) (z:Nat) (u:Value) (bank A X S Pc:Int) (Z N C I:Bool) (arg rd:Int) (k:w.heap[z]?=some (.cells (rR u bank A X S Pc Z N C I arg rd) 171 (0,0))) :
  Calls prog 186 #[(pt z 0)] w fun e w'=>e=.returned (.tuple #[])/\w'.heap[z]?=some (.cells (rR u bank (arg%256) X S Pc (arg%256==0) (decide (127<arg%256)) C I arg rd) 171 (0,0))/\Wrote (fun b _=>b=z) w w':=by
 go_enter func186,ntmps186
 go_upto_region 0 with (fail)
 have cg:=fun d os=>Af (Ab k (below_regrown w d os) (Ad k))
 refine Bc (n:=12) (by kernel_rfl) (by kernel_rfl) rfl ?_;simp only [List.take_succ_cons,List.take_zero]
 iterate 4 (go_big_quiet_step (fail))
 refine Bl _ _ rfl rfl z 2 (by go_simp) _ _ (cR A X S Pc Z N C I) _ _ k (Gt rfl rfl rfl rfl rfl rfl rfl rfl) underlying31 rfl Ci ?_;simp only [Act.put,Sa,Sb,Sc]
 iterate 4 (go_big_quiet_step (fail))
 go_big_quiet_step ((go_at_call 224; exact Calls.regrown_of (E9 _ A X S Pc Z N C I arg)))
 iterate 2 (go_big_quiet_step (fail))
 refine wpQuiet_nil ?_;intro w' hw';obtain ⟨⟨d,os⟩,rfl⟩:=hw';clear cg;have L:=below_regrown w d os;have rB:=Ab k L (Ad k);generalize grow (redrawn w d) os=W at *;refine Bb _ _ _ rfl z 2 (cR (arg%256) X S Pc (arg%256==0) (decide (127<arg%256)) C I) (by go_simp) (by go_simp) _ _ rB Ci (by show (2+8:Nat)<=12; omega) (by first | rfl | simp [Value.oneCell']) ?_;go_wp2
 go_end0
 exact ⟨rfl,setRow_heap _ _ _ _ _ _ rB,(Aa L _).trans (Bn rB _)⟩
theorem Ll (w:World) (z:Nat) (u:Value) (bank A X S Pc:Int) (Z N C I:Bool) (arg rd:Int) (k:w.heap[z]?=some (.cells (rR u bank A X S Pc Z N C I arg rd) 171 (0,0))) :
  Calls prog 187 #[(pt z 0)] w fun e w'=>e=.returned (.tuple #[])/\w'.heap[z]?=some (.cells (rR u bank (rd%256) X S Pc (rd%256==0) (decide (127<rd%256)) C I arg rd) 171 (0,0))/\Wrote (fun b _=>b=z) w w':=by
 go_enter func187,ntmps187
 go_upto_region 0 with (fail)
 have cg:=fun d os=>Af (Ab k (below_regrown w d os) (Ad k))
 refine Bc (n:=12) (by kernel_rfl) (by kernel_rfl) rfl ?_;simp only [List.take_succ_cons,List.take_zero]
 iterate 4 (go_big_quiet_step (fail))
 refine Bl _ _ rfl rfl z 2 (by go_simp) _ _ (cR A X S Pc Z N C I) _ _ k (Gt rfl rfl rfl rfl rfl rfl rfl rfl) underlying31 rfl Ci ?_;simp only [Act.put,Sa,Sb,Sc]
 iterate 4 (go_big_quiet_step (fail))
 go_big_quiet_step ((go_at_call 224; exact Calls.regrown_of (E9 _ A X S Pc Z N C I rd)))
 iterate 2 (go_big_quiet_step (fail))
 refine wpQuiet_nil ?_;intro w' hw';obtain ⟨⟨d,os⟩,rfl⟩:=hw';clear cg;have L:=below_regrown w d os;have rB:=Ab k L (Ad k);generalize grow (redrawn w d) os=W at *;refine Bb _ _ _ rfl z 2 (cR (rd%256) X S Pc (rd%256==0) (decide (127<rd%256)) C I) (by go_simp) (by go_simp) _ _ rB Ci (by show (2+8:Nat)<=12; omega) (by first | rfl | simp [Value.oneCell']) ?_;go_wp2
 go_end0
 exact ⟨rfl,setRow_heap _ _ _ _ _ _ rB,(Aa L _).trans (Bn rB _)⟩
theorem J8 (w:World) (z:Nat) (u:Value) (bank A X S Pc:Int) (Z N C I:Bool) (arg rd:Int) (sum:Int) (carry:Bool) (k:w.heap[z]?=some (.cells (rR u bank A X S Pc Z N C I arg rd) 171 (0,0))) :
  Calls prog 225 #[(pt z 0),.i sum,.bool carry] w fun e w'=>e=.returned (.tuple #[])/\w'.heap[z]?=some (.cells (rR u bank (sum%256) X S Pc (sum%256==0) (decide (127<sum%256)) carry I arg rd) 171 (0,0))/\Wrote (fun b _=>b=z) w w':=by
 have c:=Af k;have f:=Au k
 go_enter func225,ntmps225
 go_wp2_with fail;refine (E9 w A X S Pc Z N C I sum).mono ?_;rintro e W1 ⟨rfl,L⟩;have k1:=Ab k L (Ad k);clear c f;have c:=Af k1;have f:=Au k1;have HB:=Am (o:=8) (Am (o:=9) (Am (o:=8) (Am (o:=7) (Am (o:=6) (Am (o:=5) (Am (o:=4) (Am (o:=3) (Am (o:=2) (k1) (.i (sum%256))) (.i X)) (.i S)) (.i Pc)) (.bool (sum%256==0))) (.bool (decide (127<sum%256)))) (.bool C)) (.bool I)) (.bool carry);simp only [Sa,Sb,Sc] at HB;have TT:=Ac (Wz 8 (Wz 9 (Wz 8 (Wz 7 (Wz 6 (Wz 5 (Wz 4 (Wz 3 (Wz 2 (Aa L (fun b _=>b=z)) (.i (sum%256))) (.i X)) (.i S)) (.i Pc)) (.bool (sum%256==0))) (.bool (decide (127<sum%256)))) (.bool C)) (.bool I)) (.bool carry));have HBB:=Ac HB;clear HB;go_wp2
 go_end0
 exact ⟨rfl,HBB.out,TT.out⟩
theorem Xn (w:World) (z:Nat) (u:Value) (bank A X S Pc:Int) (Z N C I:Bool) (arg rd:Int) (k:w.heap[z]?=some (.cells (rR u bank A X S Pc Z N C I arg rd) 171 (0,0))) :
  Calls prog 188 #[(pt z 0)] w fun e w'=>e=.returned (.tuple #[])/\w'.heap[z]?=some (.cells (rR u bank (((A%256+arg%256+Av C)%256)%256) X S Pc (((A%256+arg%256+Av C)%256)%256==0) (decide (127<((A%256+arg%256+Av C)%256)%256)) (decide (255<A%256+arg%256+Av C)) I arg rd) 171 (0,0))/\Wrote (fun b _=>b=z) w w':=by
 obtain ⟨sm,hsm⟩:∃ x,Hid (x=(A%256+arg%256+Av C)%256):=⟨_,rfl⟩
 obtain ⟨ca,hca⟩:∃ x,Hid (x=decide (255<A%256+arg%256+Av C)):=⟨_,rfl⟩
 have HA:=Ac (fun W=>Ts A arg C W);rw [<- hsm.out,<- hca.out] at HA;rw [<- hsm.out,<- hca.out]
 go_enter func188,ntmps188
 go_upto_region 0 with (fail)
 have cg:=fun d os=>Af (Ab k (below_regrown w d os) (Ad k))
 refine Bc (n:=18) (by kernel_rfl) (by kernel_rfl) rfl ?_;simp only [List.take_succ_cons,List.take_zero]
 iterate 15 (go_big_quiet_step (fail))
 go_big_quiet_step ((go_at_call 226; exact Calls.regrown_of ((HA.out _).mono fun e w' ⟨h1,h2⟩=>⟨h1,h2 ▸ Below.refl _ _⟩)))
 iterate 2 (go_big_quiet_step (fail))
 refine wpQuiet_nil ?_;intro w' hw';obtain ⟨⟨d,os⟩,rfl⟩:=hw';clear cg;have L:=below_regrown w d os;have rB:=Ab k L (Ad k);generalize grow (redrawn w d) os=W at *;go_simp;refine (J8 W z u bank A X S Pc Z N C I arg rd sm ca rB).mono ?_;rintro e W' ⟨rfl,kk,hW⟩;have KK:=Ac kk;have HW:=Ac ((Aa L _).trans hW);clear kk hW rB L;go_wp2
 go_end0
 exact ⟨rfl,KK.out,HW.out⟩
theorem Vr (w:World) (z:Nat) (u:Value) (bank A X S Pc:Int) (Z N C I:Bool) (arg rd:Int) (k:w.heap[z]?=some (.cells (rR u bank A X S Pc Z N C I arg rd) 171 (0,0))) :
  Calls prog 210 #[(pt z 0)] w fun e w'=>e=.returned (.tuple #[])/\w'.heap[z]?=some (.cells (rR u bank (((A%256+rd%256+Av C)%256)%256) X S Pc (((A%256+rd%256+Av C)%256)%256==0) (decide (127<((A%256+rd%256+Av C)%256)%256)) (decide (255<A%256+rd%256+Av C)) I arg rd) 171 (0,0))/\Wrote (fun b _=>b=z) w w':=by
 obtain ⟨sm,hsm⟩:∃ x,Hid (x=(A%256+rd%256+Av C)%256):=⟨_,rfl⟩
 obtain ⟨ca,hca⟩:∃ x,Hid (x=decide (255<A%256+rd%256+Av C)):=⟨_,rfl⟩
 have HA:=Ac (fun W=>Ts A rd C W);rw [<- hsm.out,<- hca.out] at HA;rw [<- hsm.out,<- hca.out]
 go_enter func210,ntmps210
 go_upto_region 0 with (fail)
 have cg:=fun d os=>Af (Ab k (below_regrown w d os) (Ad k))
 refine Bc (n:=18) (by kernel_rfl) (by kernel_rfl) rfl ?_;simp only [List.take_succ_cons,List.take_zero]
 iterate 15 (go_big_quiet_step (fail))
 go_big_quiet_step ((go_at_call 226; exact Calls.regrown_of ((HA.out _).mono fun e w' ⟨h1,h2⟩=>⟨h1,h2 ▸ Below.refl _ _⟩)))
 iterate 2 (go_big_quiet_step (fail))
 refine wpQuiet_nil ?_;intro w' hw';obtain ⟨⟨d,os⟩,rfl⟩:=hw';clear cg;have L:=below_regrown w d os;have rB:=Ab k L (Ad k);generalize grow (redrawn w d) os=W at *;go_simp;refine (J8 W z u bank A X S Pc Z N C I arg rd sm ca rB).mono ?_;rintro e W' ⟨rfl,kk,hW⟩;have KK:=Ac kk;have HW:=Ac ((Aa L _).trans hW);clear kk hW rB L;go_wp2
 go_end0
 exact ⟨rfl,KK.out,HW.out⟩
theorem Vs (w:World) (z:Nat) (u:Value) (bank A X S Pc:Int) (Z N C I:Bool) (arg rd:Int) (k:w.heap[z]?=some (.cells (rR u bank A X S Pc Z N C I arg rd) 171 (0,0))) :
  Calls prog 189 #[(pt z 0)] w fun e w'=>e=.returned (.tuple #[])/\w'.heap[z]?=some (.cells (rR u bank (((A%256-arg%256-1+Av C)%256)%256) X S Pc (((A%256-arg%256-1+Av C)%256)%256==0) (decide (127<((A%256-arg%256-1+Av C)%256)%256)) (decide (0<=A%256-arg%256-1+Av C)) I arg rd) 171 (0,0))/\Wrote (fun b _=>b=z) w w':=by
 obtain ⟨sm,hsm⟩:∃ x,Hid (x=(A%256-arg%256-1+Av C)%256):=⟨_,rfl⟩
 obtain ⟨ca,hca⟩:∃ x,Hid (x=decide (0<=A%256-arg%256-1+Av C)):=⟨_,rfl⟩
 have HA:=Ac (fun W=>Tt A arg C W);rw [<- hsm.out,<- hca.out] at HA;rw [<- hsm.out,<- hca.out]
 go_enter func189,ntmps189
 go_upto_region 0 with (fail)
 have cg:=fun d os=>Af (Ab k (below_regrown w d os) (Ad k))
 refine Bc (n:=18) (by kernel_rfl) (by kernel_rfl) rfl ?_;simp only [List.take_succ_cons,List.take_zero]
 iterate 15 (go_big_quiet_step (fail))
 go_big_quiet_step ((go_at_call 227; exact Calls.regrown_of ((HA.out _).mono fun e w' ⟨h1,h2⟩=>⟨h1,h2 ▸ Below.refl _ _⟩)))
 iterate 2 (go_big_quiet_step (fail))
 refine wpQuiet_nil ?_;intro w' hw';obtain ⟨⟨d,os⟩,rfl⟩:=hw';clear cg;have L:=below_regrown w d os;have rB:=Ab k L (Ad k);generalize grow (redrawn w d) os=W at *;go_simp;refine (J8 W z u bank A X S Pc Z N C I arg rd sm ca rB).mono ?_;rintro e W' ⟨rfl,kk,hW⟩;have KK:=Ac kk;have HW:=Ac ((Aa L _).trans hW);clear kk hW rB L;go_wp2
 go_end0
 exact ⟨rfl,KK.out,HW.out⟩
theorem Ox (w:World) (z:Nat) (u:Value) (bank A X S Pc:Int) (Z N C I:Bool) (arg rd:Int) (k:w.heap[z]?=some (.cells (rR u bank A X S Pc Z N C I arg rd) 171 (0,0))) :
  Calls prog 190 #[(pt z 0)] w fun e w'=>e=.returned (.tuple #[])/\w'.heap[z]?=some (.cells (rR u bank ((bits .and .i64 A arg)%256) X S Pc ((bits .and .i64 A arg)%256==0) (decide (127<(bits .and .i64 A arg)%256)) C I arg rd) 171 (0,0))/\Wrote (fun b _=>b=z) w w':=by
 go_enter func190,ntmps190
 go_upto_region 0 with (fail)
 have cg:=fun d os=>Af (Ab k (below_regrown w d os) (Ad k))
 refine Bc (n:=18) (by kernel_rfl) (by kernel_rfl) rfl ?_;simp only [List.take_succ_cons,List.take_zero]
 iterate 4 (go_big_quiet_step (fail))
 refine Bl _ _ rfl rfl z 2 (by go_simp) _ _ (cR A X S Pc Z N C I) _ _ k (Gt rfl rfl rfl rfl rfl rfl rfl rfl) underlying31 rfl Ci ?_;simp only [Act.put,Sa,Sb,Sc]
 iterate 10 (go_big_quiet_step (fail))
 go_big_quiet_step ((go_at_call 224; exact Calls.regrown_of (E9 _ A X S Pc Z N C I (bits .and .i64 A arg))))
 iterate 2 (go_big_quiet_step (fail))
 refine wpQuiet_nil ?_;intro w' hw';obtain ⟨⟨d,os⟩,rfl⟩:=hw';clear cg;have L:=below_regrown w d os;have rB:=Ab k L (Ad k);generalize grow (redrawn w d) os=W at *;refine Bb _ _ _ rfl z 2 (cR ((bits .and .i64 A arg)%256) X S Pc ((bits .and .i64 A arg)%256==0) (decide (127<(bits .and .i64 A arg)%256)) C I) (by go_simp) (by go_simp) _ _ rB Ci (by show (2+8:Nat)<=12; omega) (by first | rfl | simp [Value.oneCell']) ?_;go_wp2
 go_end0
 exact ⟨rfl,setRow_heap _ _ _ _ _ _ rB,(Aa L _).trans (Bn rB _)⟩
theorem Qe (w:World) (z:Nat) (u:Value) (bank A X S Pc:Int) (Z N C I:Bool) (arg rd:Int) (k:w.heap[z]?=some (.cells (rR u bank A X S Pc Z N C I arg rd) 171 (0,0))) :
  Calls prog 191 #[(pt z 0)] w fun e w'=>e=.returned (.tuple #[])/\w'.heap[z]?=some (.cells (rR u bank ((bits .or .i64 A arg)%256) X S Pc ((bits .or .i64 A arg)%256==0) (decide (127<(bits .or .i64 A arg)%256)) C I arg rd) 171 (0,0))/\Wrote (fun b _=>b=z) w w':=by
 go_enter func191,ntmps191
 go_upto_region 0 with (fail)
 have cg:=fun d os=>Af (Ab k (below_regrown w d os) (Ad k))
 refine Bc (n:=18) (by kernel_rfl) (by kernel_rfl) rfl ?_;simp only [List.take_succ_cons,List.take_zero]
 iterate 4 (go_big_quiet_step (fail))
 refine Bl _ _ rfl rfl z 2 (by go_simp) _ _ (cR A X S Pc Z N C I) _ _ k (Gt rfl rfl rfl rfl rfl rfl rfl rfl) underlying31 rfl Ci ?_;simp only [Act.put,Sa,Sb,Sc]
 iterate 10 (go_big_quiet_step (fail))
 go_big_quiet_step ((go_at_call 224; exact Calls.regrown_of (E9 _ A X S Pc Z N C I (bits .or .i64 A arg))))
 iterate 2 (go_big_quiet_step (fail))
 refine wpQuiet_nil ?_;intro w' hw';obtain ⟨⟨d,os⟩,rfl⟩:=hw';clear cg;have L:=below_regrown w d os;have rB:=Ab k L (Ad k);generalize grow (redrawn w d) os=W at *;refine Bb _ _ _ rfl z 2 (cR ((bits .or .i64 A arg)%256) X S Pc ((bits .or .i64 A arg)%256==0) (decide (127<(bits .or .i64 A arg)%256)) C I) (by go_simp) (by go_simp) _ _ rB Ci (by show (2+8:Nat)<=12; omega) (by first | rfl | simp [Value.oneCell']) ?_;go_wp2
 go_end0
 exact ⟨rfl,setRow_heap _ _ _ _ _ _ rB,(Aa L _).trans (Bn rB _)⟩
theorem Lm (w:World) (z:Nat) (u:Value) (bank A X S Pc:Int) (Z N C I:Bool) (arg rd:Int) (k:w.heap[z]?=some (.cells (rR u bank A X S Pc Z N C I arg rd) 171 (0,0))) :
  Calls prog 192 #[(pt z 0)] w fun e w'=>e=.returned (.tuple #[])/\w'.heap[z]?=some (.cells (rR u bank ((bits .xor .i64 A arg)%256) X S Pc ((bits .xor .i64 A arg)%256==0) (decide (127<(bits .xor .i64 A arg)%256)) C I arg rd) 171 (0,0))/\Wrote (fun b _=>b=z) w w':=by
 go_enter func192,ntmps192
 go_upto_region 0 with (fail)
 have cg:=fun d os=>Af (Ab k (below_regrown w d os) (Ad k))
 refine Bc (n:=18) (by kernel_rfl) (by kernel_rfl) rfl ?_;simp only [List.take_succ_cons,List.take_zero]
 iterate 4 (go_big_quiet_step (fail))
 refine Bl _ _ rfl rfl z 2 (by go_simp) _ _ (cR A X S Pc Z N C I) _ _ k (Gt rfl rfl rfl rfl rfl rfl rfl rfl) underlying31 rfl Ci ?_;simp only [Act.put,Sa,Sb,Sc]
 iterate 10 (go_big_quiet_step (fail))
 go_big_quiet_step ((go_at_call 224; exact Calls.regrown_of (E9 _ A X S Pc Z N C I (bits .xor .i64 A arg))))
 iterate 2 (go_big_quiet_step (fail))
 refine wpQuiet_nil ?_;intro w' hw';obtain ⟨⟨d,os⟩,rfl⟩:=hw';clear cg;have L:=below_regrown w d os;have rB:=Ab k L (Ad k);generalize grow (redrawn w d) os=W at *;refine Bb _ _ _ rfl z 2 (cR ((bits .xor .i64 A arg)%256) X S Pc ((bits .xor .i64 A arg)%256==0) (decide (127<(bits .xor .i64 A arg)%256)) C I) (by go_simp) (by go_simp) _ _ rB Ci (by show (2+8:Nat)<=12; omega) (by first | rfl | simp [Value.oneCell']) ?_;go_wp2
 go_end0
 exact ⟨rfl,setRow_heap _ _ _ _ _ _ rB,(Aa L _).trans (Bn rB _)⟩
theorem Ta (w:World) (z:Nat) (u:Value) (bank A X S Pc:Int) (Z N C I:Bool) (arg rd:Int) (k:w.heap[z]?=some (.cells (rR u bank A X S Pc Z N C I arg rd) 171 (0,0))) :
  Calls prog 194 #[(pt z 0)] w fun e w'=>e=.returned (.tuple #[])/\w'.heap[z]?=some (.cells (rR u bank A (A%256) S Pc (A%256==0) (decide (127<A%256)) C I arg rd) 171 (0,0))/\Wrote (fun b _=>b=z) w w':=by
 go_enter func194,ntmps194
 go_upto_region 0 with (fail)
 have cg:=fun d os=>Af (Ab k (below_regrown w d os) (Ad k))
 refine Bc (n:=13) (by kernel_rfl) (by kernel_rfl) rfl ?_;simp only [List.take_succ_cons,List.take_zero]
 iterate 4 (go_big_quiet_step (fail))
 refine Bl _ _ rfl rfl z 2 (by go_simp) _ _ (cR A X S Pc Z N C I) _ _ k (Gt rfl rfl rfl rfl rfl rfl rfl rfl) underlying31 rfl Ci ?_;simp only [Act.put,Sa,Sb,Sc]
 iterate 5 (go_big_quiet_step (fail))
 go_big_quiet_step ((go_at_call 229; exact Calls.regrown_of (Nt _ A X S Pc Z N C I A)))
 iterate 2 (go_big_quiet_step (fail))
 refine wpQuiet_nil ?_;intro w' hw';obtain ⟨⟨d,os⟩,rfl⟩:=hw';clear cg;have L:=below_regrown w d os;have rB:=Ab k L (Ad k);generalize grow (redrawn w d) os=W at *;refine Bb _ _ _ rfl z 2 (cR A (A%256) S Pc (A%256==0) (decide (127<A%256)) C I) (by go_simp) (by go_simp) _ _ rB Ci (by show (2+8:Nat)<=12; omega) (by first | rfl | simp [Value.oneCell']) ?_;go_wp2
 go_end0
 exact ⟨rfl,setRow_heap _ _ _ _ _ _ rB,(Aa L _).trans (Bn rB _)⟩
theorem Tb (w:World) (z:Nat) (u:Value) (bank A X S Pc:Int) (Z N C I:Bool) (arg rd:Int) (k:w.heap[z]?=some (.cells (rR u bank A X S Pc Z N C I arg rd) 171 (0,0))) :
  Calls prog 195 #[(pt z 0)] w fun e w'=>e=.returned (.tuple #[])/\w'.heap[z]?=some (.cells (rR u bank (X%256) X S Pc (X%256==0) (decide (127<X%256)) C I arg rd) 171 (0,0))/\Wrote (fun b _=>b=z) w w':=by
 go_enter func195,ntmps195
 go_upto_region 0 with (fail)
 have cg:=fun d os=>Af (Ab k (below_regrown w d os) (Ad k))
 refine Bc (n:=13) (by kernel_rfl) (by kernel_rfl) rfl ?_;simp only [List.take_succ_cons,List.take_zero]
 iterate 4 (go_big_quiet_step (fail))
 refine Bl _ _ rfl rfl z 2 (by go_simp) _ _ (cR A X S Pc Z N C I) _ _ k (Gt rfl rfl rfl rfl rfl rfl rfl rfl) underlying31 rfl Ci ?_;simp only [Act.put,Sa,Sb,Sc]
 iterate 5 (go_big_quiet_step (fail))
 go_big_quiet_step ((go_at_call 224; exact Calls.regrown_of (E9 _ A X S Pc Z N C I X)))
 iterate 2 (go_big_quiet_step (fail))
 refine wpQuiet_nil ?_;intro w' hw';obtain ⟨⟨d,os⟩,rfl⟩:=hw';clear cg;have L:=below_regrown w d os;have rB:=Ab k L (Ad k);generalize grow (redrawn w d) os=W at *;refine Bb _ _ _ rfl z 2 (cR (X%256) X S Pc (X%256==0) (decide (127<X%256)) C I) (by go_simp) (by go_simp) _ _ rB Ci (by show (2+8:Nat)<=12; omega) (by first | rfl | simp [Value.oneCell']) ?_;go_wp2
 go_end0
 exact ⟨rfl,setRow_heap _ _ _ _ _ _ rB,(Aa L _).trans (Bn rB _)⟩
theorem Tc (w:World) (z:Nat) (u:Value) (bank A X S Pc:Int) (Z N C I:Bool) (arg rd:Int) (k:w.heap[z]?=some (.cells (rR u bank A X S Pc Z N C I arg rd) 171 (0,0))) :
  Calls prog 196 #[(pt z 0)] w fun e w'=>e=.returned (.tuple #[])/\w'.heap[z]?=some (.cells (rR u bank A ((IntKind.i64.wrap (X+1))%256) S Pc ((IntKind.i64.wrap (X+1))%256==0) (decide (127<(IntKind.i64.wrap (X+1))%256)) C I arg rd) 171 (0,0))/\Wrote (fun b _=>b=z) w w':=by
 rw [show IntKind.i64.wrap (X+1)=wrap64 (X+1) from IntWalk.i64_left _]
 go_enter func196,ntmps196
 go_upto_region 0 with (fail)
 have cg:=fun d os=>Af (Ab k (below_regrown w d os) (Ad k))
 refine Bc (n:=14) (by kernel_rfl) (by kernel_rfl) rfl ?_;simp only [List.take_succ_cons,List.take_zero]
 iterate 4 (go_big_quiet_step (fail))
 refine Bl _ _ rfl rfl z 2 (by go_simp) _ _ (cR A X S Pc Z N C I) _ _ k (Gt rfl rfl rfl rfl rfl rfl rfl rfl) underlying31 rfl Ci ?_;simp only [Act.put,Sa,Sb,Sc]
 iterate 6 (go_big_quiet_step (fail))
 go_big_quiet_step ((go_at_call 229; exact Calls.regrown_of (Nt _ A X S Pc Z N C I _)))
 iterate 2 (go_big_quiet_step (fail))
 refine wpQuiet_nil ?_;intro w' hw';obtain ⟨⟨d,os⟩,rfl⟩:=hw';clear cg;have L:=below_regrown w d os;have rB:=Ab k L (Ad k);generalize grow (redrawn w d) os=W at *;refine Bb _ _ _ rfl z 2 (cR A ((wrap64 (X+1))%256) S Pc ((wrap64 (X+1))%256==0) (decide (127<(wrap64 (X+1))%256)) C I) (by go_simp) (by go_simp) _ _ rB Ci (by show (2+8:Nat)<=12; omega) (by first | rfl | simp [Value.oneCell']) ?_;go_wp2
 go_end0
 exact ⟨rfl,setRow_heap _ _ _ _ _ _ rB,(Aa L _).trans (Bn rB _)⟩
theorem Td (w:World) (z:Nat) (u:Value) (bank A X S Pc:Int) (Z N C I:Bool) (arg rd:Int) (k:w.heap[z]?=some (.cells (rR u bank A X S Pc Z N C I arg rd) 171 (0,0))) :
  Calls prog 197 #[(pt z 0)] w fun e w'=>e=.returned (.tuple #[])/\w'.heap[z]?=some (.cells (rR u bank A ((IntKind.i64.wrap (X-1))%256) S Pc ((IntKind.i64.wrap (X-1))%256==0) (decide (127<(IntKind.i64.wrap (X-1))%256)) C I arg rd) 171 (0,0))/\Wrote (fun b _=>b=z) w w':=by
 rw [show IntKind.i64.wrap (X-1)=wrap64 (X-1) from IntWalk.i64_left _]
 go_enter func197,ntmps197
 go_upto_region 0 with (fail)
 have cg:=fun d os=>Af (Ab k (below_regrown w d os) (Ad k))
 refine Bc (n:=14) (by kernel_rfl) (by kernel_rfl) rfl ?_;simp only [List.take_succ_cons,List.take_zero]
 iterate 4 (go_big_quiet_step (fail))
 refine Bl _ _ rfl rfl z 2 (by go_simp) _ _ (cR A X S Pc Z N C I) _ _ k (Gt rfl rfl rfl rfl rfl rfl rfl rfl) underlying31 rfl Ci ?_;simp only [Act.put,Sa,Sb,Sc]
 iterate 6 (go_big_quiet_step (fail))
 go_big_quiet_step ((go_at_call 229; exact Calls.regrown_of (Nt _ A X S Pc Z N C I _)))
 iterate 2 (go_big_quiet_step (fail))
 refine wpQuiet_nil ?_;intro w' hw';obtain ⟨⟨d,os⟩,rfl⟩:=hw';clear cg;have L:=below_regrown w d os;have rB:=Ab k L (Ad k);generalize grow (redrawn w d) os=W at *;refine Bb _ _ _ rfl z 2 (cR A ((wrap64 (X-1))%256) S Pc ((wrap64 (X-1))%256==0) (decide (127<(wrap64 (X-1))%256)) C I) (by go_simp) (by go_simp) _ _ rB Ci (by show (2+8:Nat)<=12; omega) (by first | rfl | simp [Value.oneCell']) ?_;go_wp2
 go_end0
 exact ⟨rfl,setRow_heap _ _ _ _ _ _ rB,(Aa L _).trans (Bn rB _)⟩
theorem M9 (w:World) (z:Nat) (u:Value) (bank A X S Pc:Int) (Z N C I:Bool) (arg rd:Int) (k:w.heap[z]?=some (.cells (rR u bank A X S Pc Z N C I arg rd) 171 (0,0))) :
  Calls prog 149 #[(pt z 0)] w fun e w'=>e=.returned (.tuple #[])/\w'.heap[z]?=some (.cells (rR u bank A X S Pc Z N C true arg rd) 171 (0,0))/\Wrote (fun b _=>b=z) w w':=by
 have c:=Af k;have f:=Au k
 go_enter func149,ntmps149
 have HB:=Am (o:=9) (k) (.bool true);simp only [Sa,Sb,Sc] at HB;have TT:=Ac (Wz 9 (Wrote.refl (fun b _=>b=z) w) (.bool true));have HBB:=Ac HB;clear HB;go_wp2
 go_end0
 exact ⟨rfl,HBB.out,TT.out⟩
theorem Qf (w:World) (z:Nat) (u:Value) (bank A X S Pc:Int) (Z N C I:Bool) (arg rd:Int) (k:w.heap[z]?=some (.cells (rR u bank A X S Pc Z N C I arg rd) 171 (0,0))) :
  Calls prog 207 #[(pt z 0)] w fun e w'=>e=.returned (.tuple #[])/\w'.heap[z]?=some (.cells (rR u bank A X S Pc Z N C false arg rd) 171 (0,0))/\Wrote (fun b _=>b=z) w w':=by
 have c:=Af k;have f:=Au k
 go_enter func207,ntmps207
 have HB:=Am (o:=9) (k) (.bool false);simp only [Sa,Sb,Sc] at HB;have TT:=Ac (Wz 9 (Wrote.refl (fun b _=>b=z) w) (.bool false));have HBB:=Ac HB;clear HB;go_wp2
 go_end0
 exact ⟨rfl,HBB.out,TT.out⟩
theorem Te (w:World) (z:Nat) (u:Value) (bank A X S Pc:Int) (Z N C I:Bool) (arg rd:Int) (k:w.heap[z]?=some (.cells (rR u bank A X S Pc Z N C I arg rd) 171 (0,0))) :
  Calls prog 208 #[(pt z 0)] w fun e w'=>e=.returned (.tuple #[])/\w'.heap[z]?=some (.cells (rR u bank A X S Pc Z N true I arg rd) 171 (0,0))/\Wrote (fun b _=>b=z) w w':=by
 have c:=Af k;have f:=Au k
 go_enter func208,ntmps208
 have HB:=Am (o:=8) (k) (.bool true);simp only [Sa,Sb,Sc] at HB;have TT:=Ac (Wz 8 (Wrote.refl (fun b _=>b=z) w) (.bool true));have HBB:=Ac HB;clear HB;go_wp2
 go_end0
 exact ⟨rfl,HBB.out,TT.out⟩
theorem Oy (w:World) (z:Nat) (u:Value) (bank A X S Pc:Int) (Z N C I:Bool) (arg rd:Int) (k:w.heap[z]?=some (.cells (rR u bank A X S Pc Z N C I arg rd) 171 (0,0))) :
  Calls prog 209 #[(pt z 0)] w fun e w'=>e=.returned (.tuple #[])/\w'.heap[z]?=some (.cells (rR u bank A X S Pc Z N false I arg rd) 171 (0,0))/\Wrote (fun b _=>b=z) w w':=by
 have c:=Af k;have f:=Au k
 go_enter func209,ntmps209
 have HB:=Am (o:=8) (k) (.bool false);simp only [Sa,Sb,Sc] at HB;have TT:=Ac (Wz 8 (Wrote.refl (fun b _=>b=z) w) (.bool false));have HBB:=Ac HB;clear HB;go_wp2
 go_end0
 exact ⟨rfl,HBB.out,TT.out⟩
theorem Oz (w:World) (z:Nat) (u:Value) (bank A X S Pc:Int) (Z N C I:Bool) (arg rd:Int) (k:w.heap[z]?=some (.cells (rR u bank A X S Pc Z N C I arg rd) 171 (0,0))) :
  Calls prog 201 #[(pt z 0)] w fun e w'=>e=.returned (.tuple #[])/\w'.heap[z]?=some (.cells (rR u bank A X S (arg%65536) Z N C I arg rd) 171 (0,0))/\Wrote (fun b _=>b=z) w w':=by
 have c:=Af k;have f:=Au k
 go_enter func201,ntmps201
 go_wp2_with fail;refine (Hj arg w).mono ?_;rintro e W1 ⟨rfl,hW1⟩;rw [hW1];clear hW1 W1;have HB:=Am (o:=5) (k) (.i (arg%65536));simp only [Sa,Sb,Sc] at HB;have TT:=Ac (Wz 5 (Wrote.refl (fun b _=>b=z) w) (.i (arg%65536)));have HBB:=Ac HB;clear HB;go_wp2
 go_end0
 exact ⟨rfl,HBB.out,TT.out⟩
theorem J9 (w:World) (z:Nat) (u:Value) (bank A X S Pc:Int) (Z N C I:Bool) (arg rd:Int) (so:Bool) (k:w.heap[z]?=some (.cells (rR u bank A X S Pc Z N C I arg rd) 171 (0,0))) :
  Calls prog 230 #[(pt z 0),.bool so] w fun e w'=>e=.returned (.tuple #[])/\w'.heap[z]?=some (.cells (rR u bank A X S (if so=true then arg%65536 else Pc) Z N C I arg rd) 171 (0,0))/\Wrote (fun b _=>b=z) w w':=by
 have c:=Af k;have f:=Au k
 go_enter func230,ntmps230
 cases so
 .go_wp2
  go_end0
  exact ⟨rfl,k,Wrote.refl _ _⟩
 .go_wp2_with fail
  refine (Oz w z u bank A X S Pc Z N C I arg rd k).mono ?_;rintro e W1 ⟨rfl,kk,hW⟩;have KK:=Ac kk;have HW:=Ac hW;clear kk hW c f;go_wp2
  go_end0
  exact ⟨rfl,KK.out,HW.out⟩
theorem Nf (w:World) (z:Nat) (u:Value) (bank A X S Pc:Int) (Z N C I:Bool) (arg rd:Int) (k:w.heap[z]?=some (.cells (rR u bank A X S Pc Z N C I arg rd) 171 (0,0))) :
  Calls prog 198 #[(pt z 0)] w fun e w'=>e=.returned (.tuple #[])/\w'.heap[z]?=some (.cells (rR u bank A X S (if (!Z)=true then arg%65536 else Pc) Z N C I arg rd) 171 (0,0))/\Wrote (fun b _=>b=z) w w':=by
 obtain ⟨pj,hpj⟩:∃ x:Int,Hid (x=if (!Z)=true then arg%65536 else Pc):=⟨_,rfl⟩
 have HJ:=Ac (J9 w z u bank A X S Pc Z N C I arg rd (!Z) k);rw [<- hpj.out] at HJ ⊢;clear hpj;have c:=Af k;have f:=Au k
 go_enter func198,ntmps198
 go_wp2_with fail;refine HJ.out.mono ?_;rintro e W1 ⟨rfl,kk,hW⟩;have KK:=Ac kk;have HW:=Ac hW;clear kk hW c f;go_wp2
 go_end0
 exact ⟨rfl,KK.out,HW.out⟩
theorem Tf (w:World) (z:Nat) (u:Value) (bank A X S Pc:Int) (Z N C I:Bool) (arg rd:Int) (k:w.heap[z]?=some (.cells (rR u bank A X S Pc Z N C I arg rd) 171 (0,0))) :
  Calls prog 199 #[(pt z 0)] w fun e w'=>e=.returned (.tuple #[])/\w'.heap[z]?=some (.cells (rR u bank A X S (if (Z)=true then arg%65536 else Pc) Z N C I arg rd) 171 (0,0))/\Wrote (fun b _=>b=z) w w':=by
 obtain ⟨pj,hpj⟩:∃ x:Int,Hid (x=if (Z)=true then arg%65536 else Pc):=⟨_,rfl⟩
 have HJ:=Ac (J9 w z u bank A X S Pc Z N C I arg rd (Z) k);rw [<- hpj.out] at HJ ⊢;clear hpj;have c:=Af k;have f:=Au k
 go_enter func199,ntmps199
 go_wp2_with fail;refine HJ.out.mono ?_;rintro e W1 ⟨rfl,kk,hW⟩;have KK:=Ac kk;have HW:=Ac hW;clear kk hW c f;go_wp2
 go_end0
 exact ⟨rfl,KK.out,HW.out⟩
theorem Qg (w:World) (z:Nat) (u:Value) (bank A X S Pc:Int) (Z N C I:Bool) (arg rd:Int) (k:w.heap[z]?=some (.cells (rR u bank A X S Pc Z N C I arg rd) 171 (0,0))) :
  Calls prog 200 #[(pt z 0)] w fun e w'=>e=.returned (.tuple #[])/\w'.heap[z]?=some (.cells (rR u bank A X S (if (C)=true then arg%65536 else Pc) Z N C I arg rd) 171 (0,0))/\Wrote (fun b _=>b=z) w w':=by
 obtain ⟨pj,hpj⟩:∃ x:Int,Hid (x=if (C)=true then arg%65536 else Pc):=⟨_,rfl⟩
 have HJ:=Ac (J9 w z u bank A X S Pc Z N C I arg rd (C) k);rw [<- hpj.out] at HJ ⊢;clear hpj;have c:=Af k;have f:=Au k
 go_enter func200,ntmps200
 go_wp2_with fail;refine HJ.out.mono ?_;rintro e W1 ⟨rfl,kk,hW⟩;have KK:=Ac kk;have HW:=Ac hW;clear kk hW c f;go_wp2
 go_end0
 exact ⟨rfl,KK.out,HW.out⟩
end Go.Proofs.YtijljlnooibbmaaGreatDoor
