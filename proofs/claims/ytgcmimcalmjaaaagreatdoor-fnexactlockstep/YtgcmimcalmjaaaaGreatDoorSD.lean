import Derived.Test.YtgcmimcalmjaaaaGreatDoorSC
import Derived.Test.YtgcmimcalmjaaaaGreatDoorWE
namespace Go.Proofs.YtgcmimcalmjaaaaGreatDoor
set_option maxHeartbeats 4000000
set_option maxRecDepth 8000
set_option linter.unusedVariables false
set_option linter.unusedSimpArgs false
open Go.ChangeShapes Go.WideShapes Go.ChangeAt Go.RowKit
theorem Ng (w:World) (z o:Nat) (v:Value):Wrote (fun b _=>b=z) w (w.setCell ⟨z,o,none⟩ v):=Wrote.setCell (R:=fun b _=>b=z) (Wrote.refl _ _) (fun _=>rfl) v
theorem Jcp (w:World) (z:Nat) (bs:Array Value) (hsz:bs.size=34) (k:w.heap[z]?=some (.cells bs 49 (0,0))) (F G:Nat→Nat→Prop) (u0 u2:Value) (m:Nat) (ln:Nat→Nat) (f:Nat→Nat→Int) (g:Nat→Int) (bank A X S Pc:Int) (Z N C I:Bool) (HI:Ba .i64 w F u0 m ln f) (K:Ints .i64 w G u2 512 g) (hb:isRow 512 g 512=true) (b0:bs[0]?=some u0) (b2:bs[2]?=some (u2)) (b3:bs[3]?=some (.i bank)) (b4:bs[4]?=some (.i A)) (b5:bs[5]?=some (.i X)) (b6:bs[6]?=some (.i S)) (b7:bs[7]?=some (.i Pc)) (b8:bs[8]?=some (.bool Z)) (b9:bs[9]?=some (.bool N)) (b10:bs[10]?=some (.bool C)) (b11:bs[11]?=some (.bool I)) (vec:Int) :
  Calls Tryz.prog 106 #[(pt z 0),.i vec] w fun e w'=>e=.returned (.tuple #[])∧∃ q,w'.heap[z]?=some (.cells (putAt (putAt bs 2 #[q,.i bank]) 4 (cR A X (dec8 (dec8 (dec8 S))) (Hc m ln f (enterG g S Pc Z N C I) bank vec) Z N C true)) 49 (0,0))∧Am w' w.heap.size q 512 (enterG g S Pc Z N C I)∧Wrote (fun b _=>b=z) w w':=by
 have hz:=Ac k
 obtain ⟨d3,hd3⟩:∃ x,Hid (x=dec8 (dec8 (dec8 S))):=⟨_,rfl⟩
 obtain ⟨gE,hgE⟩:∃ x,Hid (x=enterG g S Pc Z N C I):=⟨_,rfl⟩
 have HEn:=Ad (fun W (hi:Ba .i64 W F u0 m ln f) (kk:Ints .i64 W G u2 512 g)=>X1 W F G u0 u2 m ln f g bank hi kk hb A X S Pc Z N C I vec);rw [← hd3.out,← hgE.out] at HEn;rw [← hd3.out,← hgE.out]
 obtain ⟨pE,hpE⟩:∃ x,Hid (x=Hc m ln f gE bank vec):=⟨_,rfl⟩
 rw [← hpE.out] at HEn;rw [← hpE.out];clear hd3 hgE hpE hb;have hs:=Ad hsz;clear hsz
 go_enter Tryz.func106,Tryz.ntmps106
 go_upto_region 0 with (fail)
 refine Bz [some 5,some 6,some 7,some 8,some 9,some 10,some 11,some 12,some 13,some 14,some 15,some 16,some 17,some 18,some 19,some 20,some 4,some 21,some 22,some 23,some 24,none,some 25,some 26,none] (by kernel_rfl) (by kernel_rfl) (by kernel_rfl) (by kernel_rfl) (by first | (simp [slotsOf]; done) | (simp [slotsOf,Act.put]; done)) [(21,24)]
  (fun j b _=>(j=21∧b=z)∨(j=24∧b=z))
  (fun i V W=>match i with
   | 0=>V 0=(pt z 0)
   | 1=>V 1=(pt z 0)
   | 2=>V 2=(pt z 0)
   | 3=>V 3=(pt z 0)
   | 4=>V 4=(pt z 0)
   | 5=>V 5=.agg #[u0]
   | 6=>V 6=(pt z 0)
   | 7=>V 7=(pt z 0)
   | 8=>V 8=(pt z 2)
   | 9=>V 9=.agg #[u2,.i bank]
   | 10=>V 10=(pt z 0)
   | 11=>V 11=(pt z 0)
   | 12=>V 12=(pt z 4)
   | 13=>V 13=.agg (cR A X S Pc Z N C I)
   | 14=>V 14=.i vec
   | 15=>∃ q,V 15=.tuple #[.agg #[q,.i bank],.agg (cR A X d3 pE Z N C true)]∧Am W w.heap.size q 512 gE
   | 16=>∃ q,V 16=.tuple #[.agg #[q,.i bank],.agg (cR A X d3 pE Z N C true)]∧Am W w.heap.size q 512 gE
   | 17=>∃ q,V 17=.agg #[q,.i bank]∧Am W w.heap.size q 512 gE
   | 18=>V 18=.agg (cR A X d3 pE Z N C true)
   | 19=>V 19=(pt z 0)
   | 20=>V 20=(pt z 2)
   | 21=>∃ q,W.heap[z]?=some (.cells (putAt bs 2 #[q,.i bank]) 49 (0,0))∧Am W w.heap.size q 512 gE
   | 22=>V 22=(pt z 0)
   | 23=>V 23=(pt z 4)
   | _=>∃ q,W.heap[z]?=some (.cells (putAt (putAt bs 2 #[q,.i bank]) 4 (cR A X d3 pE Z N C true)) 49 (0,0))∧Am W w.heap.size q 512 gE) ?_ ?_ ?_
 ·intro i j o V x W W' hij ho hnd hW h
  rcases i with _|_|_|_|_|_|_|_|_|_|_|_|_|_|_|_|_|_|_|_|_|_|_|_|_|i
  all_goals try exact (Ar V x hij).trans h
  ·obtain ⟨q,h1,O⟩:=h
   exact ⟨q,(Ar V x hij).trans h1,O.away hW (fun b' o h1 h2 e=>by omega)⟩
  ·obtain ⟨q,h1,O⟩:=h
   exact ⟨q,(Ar V x hij).trans h1,O.away hW (fun b' o h1 h2 e=>by omega)⟩
  ·obtain ⟨q,h1,O⟩:=h
   exact ⟨q,(Ar V x hij).trans h1,O.away hW (fun b' o h1 h2 e=>by omega)⟩
  ·obtain ⟨q,h1,O⟩:=h
   exact ⟨q,Ak h1 hW (fun o e=>by simp at hnd; omega),O.away hW (fun b' o h1 h2 e=>by omega)⟩
  ·obtain ⟨q,h1,O⟩:=h
   exact ⟨q,Ak h1 hW (fun o e=>by rcases e with ⟨rfl,e⟩ | ⟨rfl,e⟩ <;> first | omega | (simp only [List.getElem?_toArray,List.getElem?_cons_zero,List.getElem?_cons_succ,Option.some.injEq] at ho; subst ho; cases hnd.1.symm.trans (show A0 _ 21=true by kernel_rfl))),O.away hW (fun b' o h1 h2 e=>by omega)⟩
  all_goals simp at ho
 ·intro i o a' W K8 ho F L hw hK
  match i with
  | 0 =>
   cases ho;have t0:=F.get (t:=0) (v:=(pt z 0)) (by decide) rfl;go_simp;exact Hk hK (Ai _ _ _)
  | 1 =>
   cases ho;have t0:=F.get (t:=0) (v:=(pt z 0)) (by decide) rfl;go_simp;exact Hk hK (Ai _ _ _)
  | 2 =>
   cases ho;have t0:=F.get (t:=0) (v:=(pt z 0)) (by decide) rfl;go_simp;exact Hk hK (Ai _ _ _)
  | 3 =>
   cases ho;have q2:tv a' 7=_:=Hq hw 2;go_simp;exact Hk hK (Ai _ _ _)
  | 4 =>
   cases ho;have q3:tv a' 8=_:=Hq hw 3;go_simp;exact Hk hK (Ai _ _ _)
  | 5 =>
   cases ho;have q4:tv a' 9=_:=Hq hw 4;have rB:=Ak k L (fun o ⟨j,oj,hj,hoj,hwj,e⟩=>by rcases e with ⟨rfl,e⟩ | ⟨rfl,e⟩ <;> first | omega | (cases hwj.symm.trans (show Bb _ 6 _ 5=true by kernel_rfl)));have rb:=Ag rB;go_simp;exact Hk hK (Ai _ _ _)
  | 6 =>
   cases ho;have t0:=F.get (t:=0) (v:=(pt z 0)) (by decide) rfl;go_simp;exact Hk hK (Ai _ _ _)
  | 7 =>
   cases ho;have q6:tv a' 11=_:=Hq hw 6;go_simp;exact Hk hK (Ai _ _ _)
  | 8 =>
   cases ho;have q7:tv a' 12=_:=Hq hw 7;go_simp;exact Hk hK (Ai _ _ _)
  | 9 =>
   cases ho;have q8:tv a' 13=_:=Hq hw 8;have rB:=Ak k L (fun o ⟨j,oj,hj,hoj,hwj,e⟩=>by rcases e with ⟨rfl,e⟩ | ⟨rfl,e⟩ <;> first | omega | (cases hwj.symm.trans (show Bb _ 6 _ 9=true by kernel_rfl)));have rb:=Ag rB;go_simp;exact Hk hK (Ai _ _ _)
  | 10 =>
   cases ho;have t0:=F.get (t:=0) (v:=(pt z 0)) (by decide) rfl;go_simp;exact Hk hK (Ai _ _ _)
  | 11 =>
   cases ho;have q10:tv a' 15=_:=Hq hw 10;go_simp;exact Hk hK (Ai _ _ _)
  | 12 =>
   cases ho;have q11:tv a' 16=_:=Hq hw 11;go_simp;exact Hk hK (Ai _ _ _)
  | 13 =>
   cases ho;have q12:tv a' 17=_:=Hq hw 12;have rB:=Ak k L (fun o ⟨j,oj,hj,hoj,hwj,e⟩=>by rcases e with ⟨rfl,e⟩ | ⟨rfl,e⟩ <;> first | omega | (cases hwj.symm.trans (show Bb _ 6 _ 13=true by kernel_rfl)));have rb:=Ag rB;go_simp;exact Hk hK (Ai _ _ _)
  | 14 =>
   cases ho;have t1:=F.get (t:=1) (v:=.i vec) (by decide) rfl;go_simp;exact Hk hK (Ai _ _ _)
  | 15 =>
   cases ho;have q5:tv a' 10=_:=Hq hw 5;have q9:tv a' 14=_:=Hq hw 9;have q13:tv a' 18=_:=Hq hw 13;have q14:tv a' 19=_:=Hq hw 14;have LN:=L.mono (S:=Aj) (fun b o _ ⟨j,oj,hj,hoj,hwj,e⟩=>by rcases e with ⟨rfl,e⟩ | ⟨rfl,e⟩ <;> first | omega | (cases hwj.symm.trans (show Bb _ 6 _ 15=true by kernel_rfl)));go_simp;refine (HEn.out W (HI.keep LN (fun _ _ _ x=>x)) (K.keep LN (fun _ _ _ x=>x))).mono ?_;rintro e W' ⟨q,rfl,O,LX⟩;exact hK _ _ (Ab LX _) ⟨q,Ai _ _ _,Dl O L.size⟩
  | 16 =>
   cases ho;have q15:=Hq hw 15;obtain ⟨q,h1,O⟩:=q15;replace h1:a'.tmps[20]?.getD undef=.tuple #[.agg #[q,.i bank],.agg (cR A X d3 pE Z N C true)]:=h1;go_simp;exact Hk hK ⟨q,Ai _ _ _,O⟩
  | 17 =>
   cases ho;have q16:=Hq hw 16;obtain ⟨q,h1,O⟩:=q16;replace h1:a'.tmps[4]?.getD undef=.tuple #[.agg #[q,.i bank],.agg (cR A X d3 pE Z N C true)]:=h1;go_simp;exact Hk hK ⟨q,Ai _ _ _,O⟩
  | 18 =>
   cases ho;have q16:=Hq hw 16;obtain ⟨q,h1,O⟩:=q16;replace h1:a'.tmps[4]?.getD undef=.tuple #[.agg #[q,.i bank],.agg (cR A X d3 pE Z N C true)]:=h1;go_simp;exact Hk hK (Ai _ _ _)
  | 19 =>
   cases ho;have q0:tv a' 5=_:=Hq hw 0;go_simp;exact Hk hK (Ai _ _ _)
  | 20 =>
   cases ho;have q19:tv a' 23=_:=Hq hw 19;go_simp;exact Hk hK (Ai _ _ _)
  | 21 =>
   cases ho;have q20:tv a' 24=_:=Hq hw 20;have q17:=Hq hw 17;have rB:=Ak k L (fun o ⟨j,oj,hj,hoj,hwj,e⟩=>by rcases e with ⟨rfl,e⟩ | ⟨rfl,e⟩ <;> first | omega | (cases hwj.symm.trans (show Bb _ 6 _ 21=true by kernel_rfl)));obtain ⟨q,h1,O⟩:=q17;replace h1:a'.tmps[21]?.getD undef=.agg #[q,.i bank]:=h1
   obtain ⟨xa,xc,hu⟩:∃ a c,q=.slice a 512 c:=by obtain ⟨a,c,hq,_⟩:=O.ex; exact ⟨a,c,hq⟩
   refine Bg _ _ _ rfl z 2 #[q,.i bank] (by simpa [Act.eval] using q20) (by simpa [Act.eval] using h1) _ _ rB Fs (by rw [hs.out]; show (2+2:Nat)≤34; omega) (by subst hu; first | kernel_rfl | simp [Value.oneCell']) ?_;have TT:=Bm rB (putAt bs 2 #[q,.i bank]);exact hK undef _ (TT.mono (fun b o _ e=>Or.inl ⟨rfl,e⟩)) ⟨q,setRow_heap _ _ _ _ _ _ rB,O.away TT (fun b' o h1 h2 (e:b'=z)=>by omega)⟩
  | 22 =>
   cases ho;have q1:tv a' 6=_:=Hq hw 1;go_simp;exact Hk hK (Ai _ _ _)
  | 23 =>
   cases ho;have q22:tv a' 25=_:=Hq hw 22;go_simp;exact Hk hK (Ai _ _ _)
  | 24 =>
   cases ho;have q23:tv a' 26=_:=Hq hw 23;have q18:tv a' 22=_:=Hq hw 18;obtain ⟨q,rB,O⟩:=Hq hw 21;refine Bg _ _ _ rfl z 4 (cR A X d3 pE Z N C true) (by simpa [Act.eval] using q23) (by simpa [Act.eval] using q18) _ _ rB Dz (by rw [Mo (by rw [hs.out]; show (2+2:Nat)≤34; omega),hs.out]; show (4+8:Nat)≤34; omega) (by first | kernel_rfl | simp [Value.oneCell']) ?_;have TT:=Bm rB (putAt (putAt bs 2 #[q,.i bank]) 4 (cR A X d3 pE Z N C true));exact hK undef _ (TT.mono (fun b o _ e=>Or.inr ⟨rfl,e⟩)) ⟨q,setRow_heap _ _ _ _ _ _ rB,O.away TT (fun b' o h1 h2 (e:b'=z)=>by omega)⟩
  | _+25=>simp at ho
 ·intro a' W F L hφ
  have p5:a'.tmps[5]?.getD undef=_:=Hf hφ 0;have p6:a'.tmps[6]?.getD undef=_:=Hf hφ 1;have p7:a'.tmps[7]?.getD undef=_:=Hf hφ 2;have p8:a'.tmps[8]?.getD undef=_:=Hf hφ 3;have p9:a'.tmps[9]?.getD undef=_:=Hf hφ 4;have p10:a'.tmps[10]?.getD undef=_:=Hf hφ 5;have p11:a'.tmps[11]?.getD undef=_:=Hf hφ 6;have p12:a'.tmps[12]?.getD undef=_:=Hf hφ 7;have p13:a'.tmps[13]?.getD undef=_:=Hf hφ 8;have p14:a'.tmps[14]?.getD undef=_:=Hf hφ 9;have p15:a'.tmps[15]?.getD undef=_:=Hf hφ 10;have p16:a'.tmps[16]?.getD undef=_:=Hf hφ 11;have p17:a'.tmps[17]?.getD undef=_:=Hf hφ 12;have p18:a'.tmps[18]?.getD undef=_:=Hf hφ 13;have p19:a'.tmps[19]?.getD undef=_:=Hf hφ 14;have e15:=Hf hφ 15;have e16:=Hf hφ 16;have e17:=Hf hφ 17;have p22:a'.tmps[22]?.getD undef=_:=Hf hφ 18
  have p23:a'.tmps[23]?.getD undef=_:=Hf hφ 19;have p24:a'.tmps[24]?.getD undef=_:=Hf hφ 20;have p25:a'.tmps[25]?.getD undef=_:=Hf hφ 22;have p26:a'.tmps[26]?.getD undef=_:=Hf hφ 23;have e24:=Hf hφ 24;rw [F.same,show slotsOf [some 5,some 6,some 7,some 8,some 9,some 10,some 11,some 12,some 13,some 14,some 15,some 16,some 17,some 18,some 19,some 20,some 4,some 21,some 22,some 23,some 24,none,some 25,some 26,none]=[5,6,7,8,9,10,11,12,13,14,15,16,17,18,19,20,4,21,22,23,24,25,26] from rfl];simp only [List.foldl_cons,List.foldl_nil];obtain ⟨q,kF,OF⟩:=e24;have LF:=L.mono (S:=fun b _=>b=z) (fun b o _ ⟨j,e⟩=>by omega);go_simp;go_wp2
  go_end0
  exact ⟨rfl,q,kF,OF,LF⟩
theorem Us (x0 x1 x2 x3 x4 x5 x6 x7 x8 x9 x10 x11 x12 x13 x14 x15 x16 x17 x18 x19 x20 x21 x22 x23 x24 x25 x26 x27 x28 x29 x30 x31 x32 x33 q bk y0 y1 y2 y3 y4 y5 y6 y7:Value):putAt (putAt #[x0,x1,x2,x3,x4,x5,x6,x7,x8,x9,x10,x11,x12,x13,x14,x15,x16,x17,x18,x19,x20,x21,x22,x23,x24,x25,x26,x27,x28,x29,x30,x31,x32,x33] 2 #[q,bk]) 4 #[y0,y1,y2,y3,y4,y5,y6,y7]=#[x0,x1,q,bk,y0,y1,y2,y3,y4,y5,y6,y7,x12,x13,x14,x15,x16,x17,x18,x19,x20,x21,x22,x23,x24,x25,x26,x27,x28,x29,x30,x31,x32,x33]:=rfl
theorem Dg.low {W:World} {lo z:Nat} {d:Aq} {u4 u5 u6 u7:Value} (H:Dg W lo z d u4 u5 u6 u7) (hlo:lo≤z) {b o:Nat} (h:RL z u4 u5 u6 u7 b o):lo≤b:=by
 obtain ⟨D,u0,u1,u2,u3,ob,iv,ov,o6,o7,HQ,hz,B0⟩:=H.ex
 rcases h with h | h | h | h | h
 ·omega
 ·exact (HQ.bd 3 b (HQ.h3.spare4 h)).1
 ·obtain ⟨n,c,rfl,-⟩:=h
  exact (HQ.bd 4 b (HQ.h5D b (Or.inl rfl))).1
 ·exact (HQ.bd 5 b (HQ.h6D b (Dj HQ.h6 h))).1
 ·exact (HQ.bd 6 b (HQ.h7D b (Dj HQ.h7 h))).1
theorem Dg.lt {W:World} {lo z:Nat} {d:Aq} {u4 u5 u6 u7:Value} (H:Dg W lo z d u4 u5 u6 u7):z<W.heap.size:=by
 obtain ⟨D,u0,u1,u2,u3,ob,iv,ov,o6,o7,HQ,hz,B0⟩:=H.ex;exact Ac B0
theorem Dg.goes {w W:World} {lo z:Nat} {d:Aq} {u4 u5 u6 u7 b4 b5 b6 b7:Value} (H:Dg w lo z d u4 u5 u6 u7) (hlo:lo≤z) (G:Goes w W z u4 u5 u6 u7 b4 b5 b6 b7):Below lo w W :=
 G.wr.below (by have:=H.lt; omega) (fun b o hb r=>by have:=H.low hlo r; omega)
theorem Dc.at {w:World} (h:Dc w):0<w.heap.size:=block_lt_of_cell (h 0 (by decide)).1
theorem Dc.lo {w W:World} {lo:Nat} (h:Dc w) (hv:0<lo) (L:Below lo w W):Dc W:=fun i hi=>by
 obtain ⟨h1,h2,h3,h4⟩:=h i hi
 have e:∀ o,W.cell? ⟨0,o,none⟩=w.cell? ⟨0,o,none⟩:=fun o=>by
  unfold World.cell?;rw [L.block _ hv]
 exact ⟨(e _).trans h1,(e _).trans h2,(e _).trans h3,(e _).trans h4⟩
theorem Zw {g:Nat→Int} (h:∀ j,j<512→0≤g j∧g j≤255):isRow 512 g 512=true:=by
 rw [E9 (by rfl)];exact Lh (fun j hj=>Bn (h j hj))
theorem Dg.put {w W:World} {lo z:Nat} {d:Aq} {u4 u5 u6 u7 q:Value} {g:Nat→Int} {c:A4} (H:Dg w lo z d u4 u5 u6 u7) (hlo:lo≤z) (hnr:d.nr=512)
  (k:∀ D u0 u1 u2 u3 ob iv ov o6 o7,Bi w lo w.heap.size D u0 u1 u2 u3 u4 u5 u6 u7 ob iv ov o6 o7 d→w.heap[z]?=some (.cells (kR d u0 u1 u2 u3 u4 u5 u6 u7) 49 (0,0))→W.heap[z]?=some (.cells (putAt (putAt (kR d u0 u1 u2 u3 u4 u5 u6 u7) 2 #[q,.i d.bank]) 4 (cR c.A c.X c.S c.Pc c.Z c.N c.C c.I)) 49 (0,0)))
  (O:Am W w.heap.size q 512 g) (hW:Wrote (fun b _=>b=z) w W):Ei w W lo z u4 u5 u6 u7 (putCpu d g c):=by
 obtain ⟨D,u0,u1,u2,u3,ob,iv,ov,o6,o7,HQ,hz,B0⟩:=H.ex;have kz:=k D u0 u1 u2 u3 ob iv ov o6 o7 HQ B0;rw [Us] at kz;have hzl:=Ac B0;have HA:=HQ.keepD hW (fun i b o h (e:b=z)=>hz i b h e)
 have OB:Bw W (fun b=>w.heap.size≤b∧b<W.heap.size) (.agg #[q,.i d.bank]) 512 g d.bank:=by
  obtain ⟨a,cap,e,h1,h2,h3,h4⟩:=O.ex;exact ⟨a,cap,by rw [e],h1,h2,h3,fun b o hf=>⟨h4 b o hf,(h3 b o hf).1⟩⟩
 rw [← hnr] at OB;have HM:=HA.mem OB (Nat.le_refl _) (by omega) hW.size (Nat.le_refl _)
 have HM':Bi W lo W.heap.size (fun i b=>(i=2∧w.heap.size≤b∧b<W.heap.size)∨(i≠2∧D i b)) u0 u1 q u3 u4 u5 u6 u7 ob iv ov o6 o7 (putCpu d g c):=⟨HM.h0,HM.h1,HM.h2,HM.h3,HM.h5,HM.h5D,HM.h6,HM.h6D,HM.h7,HM.h7D,HM.dis,HM.bd,HM.nN,HM.hps⟩
 refine ⟨_,_,_,_,⟨_,_,_,_,_,_,_,_,_,_,HM',fun i b h e=>?_,kz⟩,Goes.box hW _ _ _ _⟩
 rcases h with ⟨-,h1,h2⟩ | ⟨-,h⟩
 ·omega
 ·exact hz i b h e
theorem Vh (w:World) (lo z:Nat) (d:Aq) (u4 u5 u6 u7:Value) (H:Dg w lo z d u4 u5 u6 u7) (hlo:lo≤z) (hnr:d.nr=512) (hr:∀ j,j<512→0≤d.g j∧d.g j≤255) (vec:Int):Calls Tryz.prog 106 #[(pt z 0),.i vec] w fun e w'=>e=.returned (.tuple #[])∧Ei w w' lo z u4 u5 u6 u7 (Nf d vec):=by
 obtain ⟨D,u0,u1,u2,u3,ob,iv,ov,o6,o7,HQ,hz,B0⟩:=H.ex;obtain ⟨q5,hq5,I2⟩:=HQ.h2.ints;simp only [Value.agg.injEq,Array.mk.injEq,List.cons.injEq,and_true] at hq5;subst hq5;rw [hnr] at I2;refine (Jcp w z _ rfl B0 _ _ u0 u2 d.m d.ln d.f d.g d.bank d.A d.X d.S d.Pc d.Z d.N d.C d.I HQ.h0.ints I2 (Zw hr) rfl rfl rfl rfl rfl rfl rfl rfl rfl rfl rfl vec).mono ?_;rintro e W ⟨rfl,q,k,O,hW⟩
 exact ⟨rfl,Dg.put (c:=entC d vec) H hlo hnr (fun D' v0 v1 v2 v3 ob' iv' ov' o6' o7' HQ' B0'=>by
  rw [B0] at B0';simp only [Option.some.injEq,Obj.cells.injEq,Array.mk.injEq,List.cons.injEq,and_true,true_and] at B0';obtain ⟨rfl,rfl,rfl,rfl⟩:=B0'
  exact k) O hW⟩
end Go.Proofs.YtgcmimcalmjaaaaGreatDoor
