import Derived.Test.YtgcmimcalmjaaaaGreatDoorE8b
import Derived.Test.YtgcmimcalmjaaaaGreatDoorI6b
namespace Go.Proofs.YtgcmimcalmjaaaaGreatDoor
set_option maxHeartbeats 4000000
set_option maxRecDepth 40000
set_option linter.unusedVariables false
set_option linter.unusedSimpArgs false
open Go.ChangeShapes Go.WideShapes Go.ChangeAt Go.RowKit
theorem Fs:(Tryz.prog.info? 42).map (·.size)=some 2:=by kernel_rfl
theorem Dz:(Tryz.prog.info? 43).map (·.size)=some 8:=by kernel_rfl
theorem Ak {R:Nat→Nat→Prop} {w w':World} {b:Nat} {o:Obj} (h:w.heap[b]?=some o) (hw:Wrote R w w') (hd:∀ o,¬ R b o):w'.heap[b]?=some o:=(hw.block b (Ac h) hd).trans h
theorem Bm {w:World} {g:Nat} {old:Array Value} {t:TypeId} (hg:w.heap[g]?=some (.cells old t (0,0))) (cs:Array Value):Wrote (fun b _=>b=g) w (w.setRow g cs) :=
 ⟨rfl,rfl,rfl,by simp [World.setRow],fun k hk hn=>setRow_other _ _ _ _ (fun e=>hn 0 e),fun b o hb hn=>cell_setRow_other _ _ _ _ hn,fun b o hb=>by
  by_cases e:b=g
  ·subst e
   rw [As (setRow_heap _ _ _ _ _ _ hg),As hg]
  ·unfold World.frozen?; rw [setRow_other _ _ _ _ e]⟩
theorem Mw (w:World) (x:Nat) (h1:x<256):Calls Tryz.prog 219 #[.int .u8 (x:Int)] w fun e w'=>e=.returned (.i ((256+x:Nat):Int))∧w'=w:=by
 obtain ⟨r,hr⟩:∃ r:Int,Hid (r=((256+x:Nat):Int)):=⟨_,rfl⟩
 rw [← hr.out]
 go_enter Tryz.func219,Tryz.ntmps219
 go_wp2;go_ret;exact ⟨Az (by rw [hr.out]; omega),rfl⟩
theorem Zm (w:World) (G:Nat→Nat→Prop) (u:Value) (g:Nat→Int) (bank:Int) (K:Ints .i64 w G u 512 g) (hb:isRow 512 g 512=true) (A X S Pc:Int) (Z N C I:Bool) (vv:Int):Calls Tryz.prog 177 #[.agg #[u,.i bank],.agg (cR A X S Pc Z N C I),.i vv] w
  fun e w'=>∃ u',e=.returned (.tuple #[.agg #[u',.i bank],.agg (cR A X (dec8 S) Pc Z N C I)])∧Am w' w.heap.size u' 512 (B7 g S vv)∧Below w.heap.size w w':=by
 obtain ⟨ua,ucap,rfl,un,-,-⟩:=id K;have C0:Below w.heap.size w ((((w.alloc (.cells #[.slice ua 512 ucap,.i bank] 42)).alloc (.cells (cR A X S Pc Z N C I) 43)).alloc (.cells mZ 42)).alloc (.cells cZ 43)):=((((Below.refl _ _).alloc (Nat.le_refl _) _).alloc (by simp) _).alloc (by simp; omega) _).alloc (by simp; omega) _;have k0:((((w.alloc (.cells #[.slice ua 512 ucap,.i bank] 42)).alloc (.cells (cR A X S Pc Z N C I) 43)).alloc (.cells mZ 42)).alloc (.cells cZ 43)).heap[w.heap.size]?=some (.cells #[.slice ua 512 ucap,.i bank] 42 (0,0)):=Ax (Ax (Ax (Al w _ _) _) _) _
 have k1:((((w.alloc (.cells #[.slice ua 512 ucap,.i bank] 42)).alloc (.cells (cR A X S Pc Z N C I) 43)).alloc (.cells mZ 42)).alloc (.cells cZ 43)).heap[w.heap.size+1]?=some (.cells (cR A X S Pc Z N C I) 43 (0,0)):=by simpa using Ax (Ax (Al (w.alloc (.cells #[.slice ua 512 ucap,.i bank] 42)) (cR A X S Pc Z N C I) 43) (.cells mZ 42)) (.cells cZ 43)
 have k2:((((w.alloc (.cells #[.slice ua 512 ucap,.i bank] 42)).alloc (.cells (cR A X S Pc Z N C I) 43)).alloc (.cells mZ 42)).alloc (.cells cZ 43)).heap[w.heap.size+1+1]?=some (.cells mZ 42 (0,0)):=by simpa using Ax (Al ((w.alloc (.cells #[.slice ua 512 ucap,.i bank] 42)).alloc (.cells (cR A X S Pc Z N C I) 43)) mZ 42) (.cells cZ 43)
 have k3:((((w.alloc (.cells #[.slice ua 512 ucap,.i bank] 42)).alloc (.cells (cR A X S Pc Z N C I) 43)).alloc (.cells mZ 42)).alloc (.cells cZ 43)).heap[w.heap.size+1+1+1]?=some (.cells cZ 43 (0,0)):=by simpa using Al (((w.alloc (.cells #[.slice ua 512 ucap,.i bank] 42)).alloc (.cells (cR A X S Pc Z N C I) 43)).alloc (.cells mZ 42)) cZ 43
 obtain ⟨gP,hgP⟩:∃ x,Hid (x=B7 g S vv):=⟨_,rfl⟩
 rw [← hgP.out]
 obtain ⟨s8,hs8⟩:∃ x:Nat,Hid ((x:Int)=S%256):=⟨(S%256).toNat,by show _=_; omega⟩
 have s80:s8<256:=by have:=hs8.out; omega
 have hwr:IntKind.u8.wrap S=(s8:Int):=by rw [hs8.out]; first | exact IntKind.wrap_u8 S | (simp [IntKind.wrap,IntKind.signed,IntKind.bits])
 obtain ⟨v8,hv8⟩:∃ x,Hid (x=vv%256):=⟨_,rfl⟩
 have HGP:Hid (gP=Fh g (256+s8) v8):=by show _=_; rw [hgP.out,hv8.out]; unfold B7; rw [← hs8.out,Int.toNat_natCast]
 obtain ⟨sD,hsD⟩:∃ x,Hid (x=dec8 S):=⟨_,rfl⟩
 rw [← hsD.out];have HBt:=Ad (fun W=>Ck vv W);rw [← hv8.out] at HBt;have HBS:=Ad (fun W=>Ck (wrap64 (S-1)) W);rw [show wrap64 (S-1)%256=sD by rw [hsD.out]; unfold dec8 wrap64; omega] at HBS;have HIB:=Ad (fun W k=>isBytes W G (.slice ua 512 ucap) 512 g 512 k);rw [hb] at HIB;have HCM:=Ad (fun W k=>Js W G (.slice ua 512 ucap) 512 g bank k);clear hgP hsD hb
 go_enter Tryz.func177,Tryz.ntmps177
 go_upto_region 1 with (fail);generalize (((w.alloc (.cells #[.slice ua 512 ucap,.i bank] 42)).alloc (.cells (cR A X S Pc Z N C I) 43)).alloc (.cells mZ 42)).alloc (.cells cZ 43)=W0 at *;replace K:=K.keep (Ab C0 Aj) (fun _ _ _ x=>x);have c0:=Ag k0;go_wp2_with fail;refine (HCM.out W0 K).mono ?_;clear c0 HCM;rintro e W1 ⟨q,rfl,OQ,L⟩;have l3:=Ac k3;replace C0:=Ae C0 L;replace k0:=Aa k0 L (Ac k0);replace k1:=Aa k1 L (Ac k1);replace k2:=Aa k2 L (Ac k2);replace k3:=Aa k3 L (Ac k3);replace K:=K.keep (Ab L Aj) (fun _ _ _ x=>x);clear L;obtain ⟨a,cap,rfl,-,hr,-,-⟩:=id OQ;obtain ⟨qb,off,rfl,-⟩:=hr 0 (by omega);have hoff:=(OQ.cellAt 0 (by omega)).2.2.1;have hb1:=(OQ.cellAt 0 (by omega)).2.2.2;clear hr
 have LA:Below W1.heap.size W1 (W1.alloc (.cells #[.slice (some ⟨qb,off,none⟩) 512 cap,.i bank] 42)):=(Below.refl _ _).alloc (Nat.le_refl _) _;have kM:=Al W1 #[.slice (some ⟨qb,off,none⟩) 512 cap,.i bank] 42
 have lM:W1.heap.size≠qb:=by omega
 have lM3:=Ac k3;have HK2:=Ad (K.keep (Ab LA Aj) (fun _ _ _ x=>x));have O2:=Ad (OQ.keepL LA);have C2:=Ad (Ae C0 LA);have n0:=Ad (Ax k0 (.cells #[.slice (some ⟨qb,off,none⟩) 512 cap,.i bank] 42));have n1:=Ad (Ax k1 (.cells #[.slice (some ⟨qb,off,none⟩) 512 cap,.i bank] 42));have n2:=Ad (Ax k2 (.cells #[.slice (some ⟨qb,off,none⟩) 512 cap,.i bank] 42));have n3:=Ad (Ax k3 (.cells #[.slice (some ⟨qb,off,none⟩) 512 cap,.i bank] 42));have c0:=Ag n0.out;clear k0 k1 k2 k3 K OQ C0 LA;go_wp2_with fail;refine (HIB.out _ HK2.out).mono ?_;clear HIB HK2 c0
 obtain ⟨m,hm⟩:∃ x,Hid (x=W1.heap.size):=⟨_,rfl⟩
 rw [← hm.out] at kM lM lM3 hb1 ⊢;clear hm;generalize W1.alloc (.cells #[.slice (some ⟨qb,off,none⟩) 512 cap,.i bank] 42)=W2 at *;rintro e W3 ⟨rfl,hW3⟩;subst hW3;have k0:=n0.out;have k1:=n1.out;have k2:=n2.out;have k3:=n3.out;have OQ:=O2.out;have C0:=C2.out;clear n0 n1 n2 n3 O2 C2 k0;go_upto_region 3 with (fail);rename_i K3 hK3
 refine A8 [some 14,some 15,some 16,some 17,some 18,some 19,some 20,some 21,some 22,none] (by kernel_rfl) (by kernel_rfl) (by kernel_rfl) (by kernel_rfl) (by first | (simp [slotsOf]; done) | (simp [slotsOf,Act.put]; done))
  (fun j b _=>(j=9∧b=qb))
  (fun i v W=>match i with
   | 0=>v=(pt m 0)
   | 1=>v=.slice (some ⟨qb,off,none⟩) 512 cap
   | 2=>v=(pt (w.heap.size+1) 2)
   | 3=>v=.i S
   | 4=>v=.int .u8 (s8:Int)
   | 5=>v=.i ((256+s8:Nat):Int)
   | 6=>v=.i vv
   | 7=>v=.i v8
   | 8=>v=.pointer (some ⟨qb,off+(256+s8),none⟩)
   | _=>Am W W0.heap.size (.slice (some ⟨qb,off,none⟩) 512 cap) 512 (Fh g (256+s8) v8)) ?_ ?_ ?_
 ·intro i j o v W W' hij ho _ hW h
  rcases i with _|_|_|_|_|_|_|_|_|_|i
  all_goals try exact h
  · exact h.away hW (fun b' o h1 h2 e=>by omega)
  all_goals simp at ho
 ·intro i o a' W K8 ho F L hw hK
  match i with
  | 0 =>
   cases ho;have t8:=F.get (t:=8) (v:=(pt m 0)) (by decide) rfl;go_simp;exact Hk hK rfl
  | 1 =>
   cases ho;have q0:tv a' 14=_:=Hr hw 0;have rB:=Ak kM L (fun o ⟨j,oj,hj,hoj,hwj,e⟩=>by omega);have rb:=Ag rB;go_simp;exact Hk hK rfl
  | 2 =>
   cases ho;have t4:=F.get (t:=4) (v:=(pt (w.heap.size+1) 0)) (by decide) rfl;go_simp;exact Hk hK rfl
  | 3 =>
   cases ho;have q2:tv a' 16=_:=Hr hw 2;have rB:=Ak k1 L (fun o ⟨j,oj,hj,hoj,hwj,e⟩=>by omega);have rb:=Ag rB;go_simp;exact Hk hK rfl
  | 4 =>
   cases ho;have q3:tv a' 17=_:=Hr hw 3;go_simp;exact Hk hK rfl
  | 5 =>
   cases ho;have q4:tv a' 18=_:=Hr hw 4;go_simp;refine (Mw W s8 s80).mono ?_;rintro e W' ⟨rfl,rfl⟩;exact Hk hK rfl
  | 6 =>
   cases ho;have t2:=F.get (t:=2) (v:=.i vv) (by decide) rfl;go_simp;exact Hk hK rfl
  | 7 =>
   cases ho;have q6:tv a' 20=_:=Hr hw 6;go_simp;refine (HBt.out W).mono ?_;rintro e W' ⟨rfl,rfl⟩;exact Hk hK rfl
  | 8 =>
   cases ho;have q1:tv a' 15=_:=Hr hw 1;have q5:tv a' 19=_:=Hr hw 5
   have hix:(0≤256+(s8:Int)∧256+(s8:Int)<512):=by omega
   have htn:(256+(s8:Int)).toNat=256+s8:=by omega
   have hcast:((256+s8:Nat):Int)=256+(s8:Int):=by omega
   go_simp;exact Hk hK rfl
  | 9 =>
   cases ho;have q8:tv a' 22=_:=Hr hw 8;have q7:tv a' 21=_:=Hr hw 7;have OW:=OQ.away L (fun b' o h1 h2 ⟨j,oj,hj,hoj,hwj,e⟩=>by omega);obtain ⟨cc,ff,-,-⟩:=OW.cellAt (256+s8) (by omega);go_simp;exact hK undef _ (Wrote.setCell (Wrote.refl _ W) (fun _=>⟨rfl,rfl⟩) _) (OW.put (256+s8) (by omega) v8)
  | _+10=>simp at ho
 ·intro a' W F L hφ
  have p14:a'.tmps[14]?.getD undef=_:=Hd hφ 0;have p15:a'.tmps[15]?.getD undef=_:=Hd hφ 1;have p16:a'.tmps[16]?.getD undef=_:=Hd hφ 2;have p17:a'.tmps[17]?.getD undef=_:=Hd hφ 3;have p18:a'.tmps[18]?.getD undef=_:=Hd hφ 4;have p19:a'.tmps[19]?.getD undef=_:=Hd hφ 5;have p20:a'.tmps[20]?.getD undef=_:=Hd hφ 6;have p21:a'.tmps[21]?.getD undef=_:=Hd hφ 7;have p22:a'.tmps[22]?.getD undef=_:=Hd hφ 8;have e9:=Hd hφ 9;rw [F.same,show slotsOf [some 14,some 15,some 16,some 17,some 18,some 19,some 20,some 21,some 22,none]=[14,15,16,17,18,19,20,21,22] from rfl];simp only [List.foldl_cons,List.foldl_nil];have OF:=e9;clear OQ;have OQ:=OF;clear OF e9;replace kM:=Ak kM L (fun o ⟨j,e⟩=>by omega);replace k1:=Ak k1 L (fun o ⟨j,e⟩=>by omega);replace k2:=Ak k2 L (fun o ⟨j,e⟩=>by omega)
  replace k3:=Ak k3 L (fun o ⟨j,e⟩=>by omega);replace C0:=C0.trans (L.below C0.size (fun b' o hb ⟨j,e⟩=>by omega));rw [p14,p15,p16,p17,p18,p19,p20,p21,p22];clear hφ F L p14 p15 p16 p17 p18 p19 p20 p21 p22;refine hK3 _ _ ?_;clear hK3;go_simp;have TW:=Wrote.refl (fun b' _=>b'=qb) W;have k1c:=Ag k1;have k1f:=As k1;go_wp2_with fail;refine (HBS.out _).mono ?_;rintro e W4 ⟨rfl,hW4⟩;rw [hW4];clear hW4 W4 HBS;go_upto_region 5 with (fail);have TT:=Wrote.setCell (b:=w.heap.size+1) (o:=2) (R:=fun b' _=>b'=w.heap.size+1) (Wrote.refl _ W) (fun _=>rfl) (.i sD);have n1:=Af (o:=2) k1 (.i sD);simp only [List.setIfInBounds_toArray,List.set_cons_succ,List.set_cons_zero] at n1;replace kM:=Ak kM TT (fun o (h:_=_)=>by omega);replace k2:=Ak k2 TT (fun o (h:_=_)=>by omega)
  replace k3:=Ak k3 TT (fun o (h:_=_)=>by omega);replace OQ:=OQ.away TT (fun b' o h1 h2 (h:b'=_)=>by omega);replace C0:=C0.trans (TT.below C0.size (fun b' o hb (h:b'=_)=>by omega));clear TT k1 k1c k1f TW;generalize W.setCell ⟨w.heap.size+1,2,none⟩ (.i sD)=W5 at *;have k1:=n1;clear n1;rename_i K5 hK5;have k1c:=Ag k1;have kMc:=Ag kM
  refine A8 [some 28,some 29,none,none] (by kernel_rfl) (by kernel_rfl) (by kernel_rfl) (by kernel_rfl) (by first | (simp [slotsOf]; done) | (simp [slotsOf,Act.put]; done))
   (fun j b' _=>(j=2∧b'=w.heap.size+1+1)∨(j=3∧b'=w.heap.size+1+1+1))
   (fun i v W=>match i with
    | 0=>v=.agg #[.slice (some ⟨qb,off,none⟩) 512 cap,.i bank]
    | 1=>v=.agg (cR A X sD Pc Z N C I)
    | 2=>W.heap[w.heap.size+1+1]?=some (.cells #[.slice (some ⟨qb,off,none⟩) 512 cap,.i bank] 42 (0,0))
    | _=>W.heap[w.heap.size+1+1+1]?=some (.cells (cR A X sD Pc Z N C I) 43 (0,0))) ?_ ?_ ?_
  ·intro i j o v W W' hij ho _ hW h
   rcases i with _|_|_|_|i
   all_goals try exact h
   · exact Ak h hW (fun o e=>by omega)
   · exact Ak h hW (fun o e=>by omega)
   all_goals simp at ho
  ·intro i o a' W K8 ho F L hw hK
   match i with
   | 0 =>
    cases ho;have t8:=F.get (t:=8) (v:=(pt m 0)) (by decide) rfl;have rb:=Ag (Ak kM L (fun o ⟨j,oj,hj,hoj,hwj,e⟩=>by omega));go_simp;exact Hk hK rfl
   | 1 =>
    cases ho;have t4:=F.get (t:=4) (v:=(pt (w.heap.size+1) 0)) (by decide) rfl;have rb:=Ag (Ak k1 L (fun o ⟨j,oj,hj,hoj,hwj,e⟩=>by omega));go_simp;exact Hk hK rfl
   | 2 =>
    cases ho;have t6:=F.get (t:=6) (v:=(pt (w.heap.size+1+1) 0)) (by decide) rfl;have q0:tv a' 28=_:=Hr hw 0;have rB:=Ak k2 L (fun o ⟨j,oj,hj,hoj,hwj,e⟩=>by omega);refine wp_store_row _ _ _ rfl (w.heap.size+1+1) #[.slice (some ⟨qb,off,none⟩) 512 cap,.i bank] (by simpa [Act.eval] using t6) (by simpa [Act.eval] using q0) _ _ rB Fs rfl (by first | kernel_rfl | simp [Value.oneCell']) ?_;exact hK undef _ ((Bm rB _).mono (fun b o _ h=>Or.inl ⟨rfl,h⟩)) (setRow_heap _ _ _ _ _ _ rB)
   | 3 =>
    cases ho;have t7:=F.get (t:=7) (v:=(pt (w.heap.size+1+1+1) 0)) (by decide) rfl;have q1:tv a' 29=_:=Hr hw 1;have rB:=Ak k3 L (fun o ⟨j,oj,hj,hoj,hwj,e⟩=>by omega);refine wp_store_row _ _ _ rfl (w.heap.size+1+1+1) (cR A X sD Pc Z N C I) (by simpa [Act.eval] using t7) (by simpa [Act.eval] using q1) _ _ rB Dz rfl (by first | kernel_rfl | simp [Value.oneCell']) ?_;exact hK undef _ ((Bm rB _).mono (fun b o _ h=>Or.inr ⟨rfl,h⟩)) (setRow_heap _ _ _ _ _ _ rB)
   | _+4=>simp at ho
  ·intro a' W F L hφ
   have p28:a'.tmps[28]?.getD undef=_:=Hd hφ 0;have p29:a'.tmps[29]?.getD undef=_:=Hd hφ 1;have kA:W.heap[w.heap.size+1+1]?=some (.cells #[.slice (some ⟨qb,off,none⟩) 512 cap,.i bank] 42 (0,0)):=Hd hφ 2;have kB:W.heap[w.heap.size+1+1+1]?=some (.cells (cR A X sD Pc Z N C I) 43 (0,0)):=Hd hφ 3;have OF:=Ad ((OQ.away L (fun b' o h1 h2 ⟨j,e⟩=>by omega)).mono (show w.heap.size≤W0.heap.size by omega));have CF:=C0.trans (L.below C0.size (fun b' o hb ⟨j,e⟩=>by omega));rw [F.same,show slotsOf [some 28,some 29,none,none]=[28,29] from rfl];simp only [List.foldl_cons,List.foldl_nil];rw [p28,p29];clear hφ F L p28 p29 OQ C0 k1 k2 k3 kM k1c kMc;refine hK5 _ _ ?_;clear hK5;go_simp;go_wp2;have cA:=Ag kA;have cB:=Ag kB
   refine bodyPost_ret (v:=.tuple #[.agg #[.slice (some ⟨qb,off,none⟩) 512 cap,.i bank],.agg (cR A X sD Pc Z N C I)]) (by simp [results,Tryz.results177,go_sem,cA,cB]) rfl ?_;exact ⟨_,rfl,by rw [HGP.out]; exact OF.out,CF⟩
theorem Kn {P:Program} {fn:Func} {p q:Tmp} {ty:TypeId} (h:fn.results=#[.cell p ty,.tmp q]) (tmps:Array Value) (w:World) (g:Nat) (t:TypeId) (cs:Array Value) (fr:Nat × Nat) (dd:TypeDesc)
  (hp:tmps.getD p undef=(pt g 0)) (hg:w.heap[g]?=some (.cells cs t fr)) (hu:P.underlying ty=some dd) (hd:(match dd with | .struct _ | .array _ _=>true | _=>false)=true) (hi:(P.info? ty).map (·.size)=some cs.size) :
  (results fn tmps).run P w=.ok (.tuple #[.agg cs,tmps.getD q undef]) w:=by
 have hp':tmps[p]?.getD undef=(pt g 0):=by simpa using hp
 simp [results,h,hp',asAddr,run_loadVar_row w g t ty cs fr dd hg hu hd hi]
def Eb (S:Int):Int:=(S+1)%256
theorem Zn (w:World) (G:Nat→Nat→Prop) (u:Value) (g:Nat→Int) (bank:Int) (K:Ints .i64 w G u 512 g) (hb:isRow 512 g 512=true) (A X S Pc:Int) (Z N C I:Bool):Calls Tryz.prog 245 #[.agg #[u,.i bank],.agg (cR A X S Pc Z N C I)] w
  fun e w'=>e=.returned (.tuple #[.agg (cR A X (Eb S) Pc Z N C I),.i (g (256+(Eb S).toNat))])∧Below w.heap.size w w':=by
 obtain ⟨ua,ucap,rfl,un,hr,-⟩:=id K
 obtain ⟨s8,hs8⟩:∃ x:Nat,Hid ((x:Int)=Eb S):=⟨(Eb S).toNat,by show _=_; unfold Eb; omega⟩
 have s80:s8<256:=by have:=hs8.out; unfold Eb at this; omega
 rw [← hs8.out,Int.toNat_natCast]
 obtain ⟨x8,hx8⟩:∃ x,Hid (x=g (256+s8)):=⟨_,rfl⟩
 obtain ⟨qb,off,rfl,hcell⟩:=hr (256+s8) (by omega);rw [← hx8.out] at hcell ⊢;have hqb:=block_lt_of_cell hcell;have HBS:=Ad (fun W=>Ck (wrap64 (S+1)) W);rw [show wrap64 (S+1)%256=(s8:Int) by rw [hs8.out]; unfold Eb wrap64; omega] at HBS;have HIB:=Ad (fun W k=>isBytes W G (.slice (some ⟨qb,off,none⟩) 512 ucap) 512 g 512 k);rw [hb] at HIB;clear hr hb hx8 hs8;have C0:Below w.heap.size w (((w.alloc (.cells #[.slice (some ⟨qb,off,none⟩) 512 ucap,.i bank] 42)).alloc (.cells (cR A X S Pc Z N C I) 43)).alloc (.cells cZ 43)):=(((Below.refl _ _).alloc (Nat.le_refl _) _).alloc (by simp) _).alloc (by simp; omega) _
 have k0:(((w.alloc (.cells #[.slice (some ⟨qb,off,none⟩) 512 ucap,.i bank] 42)).alloc (.cells (cR A X S Pc Z N C I) 43)).alloc (.cells cZ 43)).heap[w.heap.size]?=some (.cells #[.slice (some ⟨qb,off,none⟩) 512 ucap,.i bank] 42 (0,0)):=Ax (Ax (Al w _ _) _) _
 have k1:(((w.alloc (.cells #[.slice (some ⟨qb,off,none⟩) 512 ucap,.i bank] 42)).alloc (.cells (cR A X S Pc Z N C I) 43)).alloc (.cells cZ 43)).heap[w.heap.size+1]?=some (.cells (cR A X S Pc Z N C I) 43 (0,0)):=by simpa using Ax (Al (w.alloc (.cells #[.slice (some ⟨qb,off,none⟩) 512 ucap,.i bank] 42)) (cR A X S Pc Z N C I) 43) (.cells cZ 43)
 have k2:(((w.alloc (.cells #[.slice (some ⟨qb,off,none⟩) 512 ucap,.i bank] 42)).alloc (.cells (cR A X S Pc Z N C I) 43)).alloc (.cells cZ 43)).heap[w.heap.size+1+1]?=some (.cells cZ 43 (0,0)):=by simpa using Al ((w.alloc (.cells #[.slice (some ⟨qb,off,none⟩) 512 ucap,.i bank] 42)).alloc (.cells (cR A X S Pc Z N C I) 43)) cZ 43
 replace hcell:(((w.alloc (.cells #[.slice (some ⟨qb,off,none⟩) 512 ucap,.i bank] 42)).alloc (.cells (cR A X S Pc Z N C I) 43)).alloc (.cells cZ 43)).cell? ⟨qb,off+(256+s8),none⟩=some (.i x8):=(C0.cell (p:=⟨qb,off+(256+s8),none⟩) hqb).trans hcell
 go_enter Tryz.func245,Tryz.ntmps245
 go_upto_region 1 with (fail);generalize ((w.alloc (.cells #[.slice (some ⟨qb,off,none⟩) 512 ucap,.i bank] 42)).alloc (.cells (cR A X S Pc Z N C I) 43)).alloc (.cells cZ 43)=W0 at *;replace K:=K.keep (Ab C0 Aj) (fun _ _ _ x=>x);have c0:=Ag k0;go_wp2_with fail;refine (HIB.out W0 K).mono ?_;clear c0 HIB K;rintro e W1 ⟨rfl,hW1⟩;rw [hW1];clear hW1 W1;have c1:=Ag k1;have f1:=As k1;go_wp2_with fail;refine (HBS.out W0).mono ?_;clear HBS;rintro e W1 ⟨rfl,hW1⟩;rw [hW1];clear hW1 W1;go_upto_region 4 with (fail);clear c1 f1;have TT:=Wrote.setCell (b:=w.heap.size+1) (o:=2) (R:=fun b' _=>b'=w.heap.size+1) (Wrote.refl _ W0) (fun _=>rfl) (.i (s8:Int));have n1:=Af (o:=2) k1 (.i (s8:Int));simp only [List.setIfInBounds_toArray,List.set_cons_succ,List.set_cons_zero] at n1;replace k0:=Ak k0 TT (fun o (h:_=_)=>by omega)
 replace k2:=Ak k2 TT (fun o (h:_=_)=>by omega);have hqb0:qb<W0.heap.size:=block_lt_of_cell hcell;replace hcell:=(TT.cell qb (off+(256+s8)) hqb0 (fun (h:_=_)=>by omega)).trans hcell;replace C0:=C0.trans (TT.below C0.size (fun b' o hb (h:b'=_)=>by omega));replace hqb:qb<w.heap.size:=hqb;clear TT k1 hqb0;generalize W0.setCell ⟨w.heap.size+1,2,none⟩ (.i (s8:Int))=W5 at *;have k1:=n1;clear n1;have hqw:=hqb;replace hqb:qb<W5.heap.size:=block_lt_of_cell hcell;rename_i K4 hK4
 refine A8 [some 16,some 17,some 18,some 19,some 20,some 21,some 22,some 23,some 24,none,some 5] (by kernel_rfl) (by kernel_rfl) (by kernel_rfl) (by kernel_rfl) (by first | (simp [slotsOf]; done) | (simp [slotsOf,Act.put]; done))
  (fun j b _=>j=9∧b=w.heap.size+1+1)
  (fun i v W=>match i with
   | 0=>v=.agg (cR A X (s8:Int) Pc Z N C I)
   | 1=>v=(pt w.heap.size 0)
   | 2=>v=.slice (some ⟨qb,off,none⟩) 512 ucap
   | 3=>v=(pt (w.heap.size+1) 2)
   | 4=>v=.i (s8:Int)
   | 5=>v=.int .u8 (s8:Int)
   | 6=>v=.i ((256+s8:Nat):Int)
   | 7=>v=.pointer (some ⟨qb,off+(256+s8),none⟩)
   | 8=>v=.i x8
   | 9=>W.heap[w.heap.size+1+1]?=some (.cells (cR A X (s8:Int) Pc Z N C I) 43 (0,0))
   | _=>v=.i x8) ?_ ?_ ?_
 ·intro i j o v W W' hij ho _ hW h
  rcases i with _|_|_|_|_|_|_|_|_|_|_|i
  all_goals try exact h
  · exact Ak h hW (fun o e=>by omega)
  all_goals simp at ho
 ·intro i o a' W K8 ho F L hw hK
  match i with
  | 0 =>
   cases ho;have t3:=F.get (t:=3) (v:=(pt (w.heap.size+1) 0)) (by decide) rfl;have rb:=Ag (Ak k1 L (fun o ⟨j,oj,hj,hoj,hwj,e⟩=>by omega));go_simp;exact Hk hK rfl
  | 1 =>
   cases ho;have t2:=F.get (t:=2) (v:=(pt w.heap.size 0)) (by decide) rfl;go_simp;exact Hk hK rfl
  | 2 =>
   cases ho;have q1:tv a' 17=_:=Hr hw 1;have rb:=Ag (Ak k0 L (fun o ⟨j,oj,hj,hoj,hwj,e⟩=>by omega));go_simp;exact Hk hK rfl
  | 3 =>
   cases ho;have t3:=F.get (t:=3) (v:=(pt (w.heap.size+1) 0)) (by decide) rfl;go_simp;exact Hk hK rfl
  | 4 =>
   cases ho;have q3:tv a' 19=_:=Hr hw 3;have rb:=Ag (Ak k1 L (fun o ⟨j,oj,hj,hoj,hwj,e⟩=>by omega));go_simp;exact Hk hK rfl
  | 5 =>
   cases ho;have q4:tv a' 20=_:=Hr hw 4
   have hwr:IntKind.u8.wrap (s8:Int)=(s8:Int):=by rw [IntKind.wrap_u8]; omega
   go_simp;exact Hk hK rfl
  | 6 =>
   cases ho;have q5:tv a' 21=_:=Hr hw 5;go_simp;refine (Mw W s8 s80).mono ?_;rintro e W' ⟨rfl,rfl⟩;exact Hk hK rfl
  | 7 =>
   cases ho;have q2:tv a' 18=_:=Hr hw 2;have q6:tv a' 22=_:=Hr hw 6
   have hix:(0≤256+(s8:Int)∧256+(s8:Int)<512):=by omega
   have htn:(256+(s8:Int)).toNat=256+s8:=by omega
   have hcast:((256+s8:Nat):Int)=256+(s8:Int):=by omega
   go_simp;exact Hk hK rfl
  | 8 =>
   cases ho;have q7:tv a' 23=_:=Hr hw 7;have rc:W.cell? ⟨qb,off+(256+s8),none⟩=some (.i x8):=(L.cell qb _ hqb (fun ⟨j,oj,hj,hoj,hwj,e⟩=>by omega)).trans hcell;go_simp;exact Hk hK rfl
  | 9 =>
   cases ho;have t4:=F.get (t:=4) (v:=(pt (w.heap.size+1+1) 0)) (by decide) rfl;have q0:tv a' 16=_:=Hr hw 0;have rB:=Ak k2 L (fun o ⟨j,oj,hj,hoj,hwj,e⟩=>by omega);refine wp_store_row _ _ _ rfl (w.heap.size+1+1) (cR A X (s8:Int) Pc Z N C I) (by simpa [Act.eval] using t4) (by simpa [Act.eval] using q0) _ _ rB Dz rfl (by first | kernel_rfl | simp [Value.oneCell']) ?_;exact hK undef _ ((Bm rB _).mono (fun b o _ h=>⟨rfl,h⟩)) (setRow_heap _ _ _ _ _ _ rB)
  | 10 =>
   cases ho;have q8:tv a' 24=_:=Hr hw 8;go_simp;exact Hk hK rfl
  | _+11=>simp at ho
 ·intro a' W F L hφ
  have p16:a'.tmps[16]?.getD undef=_:=Hd hφ 0;have p17:a'.tmps[17]?.getD undef=_:=Hd hφ 1;have p18:a'.tmps[18]?.getD undef=_:=Hd hφ 2;have p19:a'.tmps[19]?.getD undef=_:=Hd hφ 3;have p20:a'.tmps[20]?.getD undef=_:=Hd hφ 4;have p21:a'.tmps[21]?.getD undef=_:=Hd hφ 5;have p22:a'.tmps[22]?.getD undef=_:=Hd hφ 6;have p23:a'.tmps[23]?.getD undef=_:=Hd hφ 7;have p24:a'.tmps[24]?.getD undef=_:=Hd hφ 8;have e9:=Hd hφ 9;have p5:a'.tmps[5]?.getD undef=_:=Hd hφ 10;rw [F.same,show slotsOf [some 16,some 17,some 18,some 19,some 20,some 21,some 22,some 23,some 24,none,some 5]=[16,17,18,19,20,21,22,23,24,5] from rfl];simp only [List.foldl_cons,List.foldl_nil];have CF:=C0.trans (L.below C0.size (fun b' o hb ⟨j,e⟩=>by omega))
  have kF:W.heap[w.heap.size+1+1]?=some (.cells (cR A X (s8:Int) Pc Z N C I) 43 (0,0)):=e9;rw [p16,p17,p18,p19,p20,p21,p22,p23,p24,p5];clear hφ F L e9 p16 p17 p18 p19 p20 p21 p22 p23 p24 p5;refine hK4 _ _ ?_;clear hK4;go_simp;go_wp2;refine bodyPost_ret (v:=.tuple #[.agg (cR A X (s8:Int) Pc Z N C I),.i x8]) (by exact Kn Tryz.results245 _ _ (w.heap.size+1+1) _ _ _ _ rfl kF Tryz.underlying43 rfl Dz) rfl ?_;exact ⟨rfl,CF⟩
end Go.Proofs.YtgcmimcalmjaaaaGreatDoor
