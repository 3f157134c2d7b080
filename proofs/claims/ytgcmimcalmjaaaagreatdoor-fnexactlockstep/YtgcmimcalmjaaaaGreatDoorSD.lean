import Derived.Test.YtgcmimcalmjaaaaGreatDoorSC
import Derived.Test.YtgcmimcalmjaaaaGreatDoorIJ
namespace Go.Proofs.YtgcmimcalmjaaaaGreatDoor
set_option maxHeartbeats 4000000
set_option maxRecDepth 8000
set_option linter.unusedVariables false
set_option linter.unusedSimpArgs false
open Go.ChangeShapes Go.WideShapes Go.ChangeAt Go.RowKit
theorem Ng (w:World) (z o:Nat) (v:Value):Wrote (fun b _=>b=z) w (w.setCell ⟨z,o,none⟩ v):=Wrote.setCell (R:=fun b _=>b=z) (Wrote.refl _ _) (fun _=>rfl) v
theorem Jcp (w:World) (z:Nat) (bs:Array Value) (hsz:bs.size=34) (k:w.heap[z]?=some (.cells bs 49 (0,0))) (F G:Nat→Nat→Prop) (u0 u2:Value) (m:Nat) (ln:Nat→Nat) (f:Nat→Nat→Int) (g:Nat→Int) (bank A X S Pc:Int) (Z N C I:Bool) (HI:Ba .i64 w F u0 m ln f) (K:Ints .i64 w G u2 512 g) (hb:isRow 512 g 512=true) (b0:bs[0]?=some u0) (b2:bs[2]?=some (u2)) (b3:bs[3]?=some (.i bank)) (b4:bs[4]?=some (.i A)) (b5:bs[5]?=some (.i X)) (b6:bs[6]?=some (.i S)) (b7:bs[7]?=some (.i Pc)) (b8:bs[8]?=some (.bool Z)) (b9:bs[9]?=some (.bool N)) (b10:bs[10]?=some (.bool C)) (b11:bs[11]?=some (.bool I)) (vec:Int) :
  Calls Tryz.prog 106 #[(pt z 0),.i vec] w fun e w'=>e=.returned (.tuple #[])∧∃ q,w'.heap[z]?=some (.cells (putAt (putAt bs 2 #[q,.i bank]) 4 (cR A X (dec8 (dec8 (dec8 S))) (Hc m ln f (enterG g S Pc Z N C I) bank vec) Z N C true)) 49 (0,0))∧Am w' w.heap.size q 512 (enterG g S Pc Z N C I)∧Wrote (fun b _=>b=z) w w':=by
 have hz:=Ac k
 obtain ⟨d3,hd3⟩:∃ x,Hid (x=dec8 (dec8 (dec8 S))):=⟨_,rfl⟩
 obtain ⟨gE,hgE⟩:∃ x,Hid (x=enterG g S Pc Z N C I):=⟨_,rfl⟩
 have HEn:=Ad (fun W (hi:Ba .i64 W F u0 m ln f) (kk:Ints .i64 W G u2 512 g)=>X1 W F G u0 u2 m ln f g bank hi kk hb A X S Pc Z N C I vec);rw [← hd3.out,← hgE.out] at HEn;rw [← hd3.out,← hgE.out]
 obtain ⟨pE,hpE⟩:∃ x,Hid (x=Hc m ln f gE bank vec):=⟨_,rfl⟩
 rw [← hpE.out] at HEn;rw [← hpE.out];clear hd3 hgE hpE hb;have hs:=Ad hsz;clear hsz
 go_enter Tryz.func106,Tryz.ntmps106
 go_upto_region 0 with (fail)
 refine Bz [some 5,some 6,some 7,some 8,some 9,some 10,some 11,some 12,some 13,some 14,some 15,some 16,some 17,some 18,some 19,some 20,some 4,some 21,some 22,some 23,some 24,none,some 25,some 26,none] (by kernel_rfl) (by kernel_rfl) (by kernel_rfl) (by kernel_rfl) (by first | (simp [slotsOf]; done) | (simp [slotsOf,Act.put]; done)) [(21,24)]
  (fun j b _=>(j=21∧b=z)∨(j=24∧b=z))
  (fun i V W=>match i with
   | 0=>V 0=(pt z 0)
   | 1=>V 1=(pt z 0)
   | 2=>V 2=(pt z 0)
   | 3=>V 3=(pt z 0)
   | 4=>V 4=(pt z 0)
   | 5=>V 5=.agg #[u0]
   | 6=>V 6=(pt z 0)
   | 7=>V 7=(pt z 0)
   | 8=>V 8=(pt z 2)
   | 9=>V 9=.agg #[u2,.i bank]
   | 10=>V 10=(pt z 0)
   | 11=>V 11=(pt z 0)
   | 12=>V 12=(pt z 4)
   | 13=>V 13=.agg (cR A X S Pc Z N C I)
   | 14=>V 14=.i vec
   | 15=>∃ q,V 15=.tuple #[.agg #[q,.i bank],.agg (cR A X d3 pE Z N C true)]∧Am W w.heap.size q 512 gE
   | 16=>∃ q,V 16=.tuple #[.agg #[q,.i bank],.agg (cR A X d3 pE Z N C true)]∧Am W w.heap.size q 512 gE
   | 17=>∃ q,V 17=.agg #[q,.i bank]∧Am W w.heap.size q 512 gE
   | 18=>V 18=.agg (cR A X d3 pE Z N C true)
   | 19=>V 19=(pt z 0)
   | 20=>V 20=(pt z 2)
   | 21=>∃ q,W.heap[z]?=some (.cells (putAt bs 2 #[q,.i bank]) 49 (0,0))∧Am W w.heap.size q 512 gE
   | 22=>V 22=(pt z 0)
   | 23=>V 23=(pt z 4)
   | _=>∃ q,W.heap[z]?=some (.cells (putAt (putAt bs 2 #[q,.i bank]) 4 (cR A X d3 pE Z N C true)) 49 (0,0))∧Am W w.heap.size q 512 gE) ?_ ?_ ?_
 ·intro i j o V x W W' hij ho hnd hW h
  rcases i with _|_|_|_|_|_|_|_|_|_|_|_|_|_|_|_|_|_|_|_|_|_|_|_|_|i
  all_goals try exact (Ar V x hij).trans h
  ·obtain ⟨q,h1,O⟩:=h
   exact ⟨q,(Ar V x hij).trans h1,O.away hW (fun b' o h1 h2 e=>by omega)⟩
  ·obtain ⟨q,h1,O⟩:=h
   exact ⟨q,(Ar V x hij).trans h1,O.away hW (fun b' o h1 h2 e=>by omega)⟩
  ·obtain ⟨q,h1,O⟩:=h
   exact ⟨q,(Ar V x hij).trans h1,O.away hW (fun b' o h1 h2 e=>by omega)⟩
  ·obtain ⟨q,h1,O⟩:=h
   exact ⟨q,Ak h1 hW (fun o e=>by simp at hnd; omega),O.away hW (fun b' o h1 h2 e=>by omega)⟩
  ·obtain ⟨q,h1,O⟩:=h
   exact ⟨q,Ak h1 hW (fun o e=>by rcases e with ⟨rfl,e⟩ | ⟨rfl,e⟩ <;> first | omega | (simp only [List.getElem?_toArray,List.getElem?_cons_zero,List.getElem?_cons_succ,Option.some.injEq] at ho; subst ho; cases hnd.1.symm.trans (show A0 _ 21=true by kernel_rfl))),O.away hW (fun b' o h1 h2 e=>by omega)⟩
  all_goals simp at ho
 ·intro i o a' W K8 ho F L hw hK
  match i with
  | 0 =>
   cases ho;have t0:=F.get (t:=0) (v:=(pt z 0)) (by decide) rfl;go_simp;exact Hk hK (Ai _ _ _)
  | 1 =>
   cases ho;have t0:=F.get (t:=0) (v:=(pt z 0)) (by decide) rfl;go_simp;exact Hk hK (Ai _ _ _)
  | 2 =>
   cases ho;have t0:=F.get (t:=0) (v:=(pt z 0)) (by decide) rfl;go_simp;exact Hk hK (Ai _ _ _)
  | 3 =>
   cases ho;have q2:tv a' 7=_:=Hq hw 2;go_simp;exact Hk hK (Ai _ _ _)
  | 4 =>
   cases ho;have q3:tv a' 8=_:=Hq hw 3;go_simp;exact Hk hK (Ai _ _ _)
  | 5 =>
   cases ho;have q4:tv a' 9=_:=Hq hw 4;have rB:=Ak k L (fun o ⟨j,oj,hj,hoj,hwj,e⟩=>by rcases e with ⟨rfl,e⟩ | ⟨rfl,e⟩ <;> first | omega | (cases hwj.symm.trans (show Bb _ 6 _ 5=true by kernel_rfl)));have rb:=Ag rB;go_simp;exact Hk hK (Ai _ _ _)
  | 6 =>
   cases ho;have t0:=F.get (t:=0) (v:=(pt z 0)) (by decide) rfl;go_simp;exact Hk hK (Ai _ _ _)
  | 7 =>
   cases ho;have q6:tv a' 11=_:=Hq hw 6;go_simp;exact Hk hK (Ai _ _ _)
  | 8 =>
   cases ho;have q7:tv a' 12=_:=Hq hw 7;go_simp;exact Hk hK (Ai _ _ _)
  | 9 =>
   cases ho;have q8:tv a' 13=_:=Hq hw 8;have rB:=Ak k L (fun o ⟨j,oj,hj,hoj,hwj,e⟩=>by rcases e with ⟨rfl,e⟩ | ⟨rfl,e⟩ <;> first | omega | (cases hwj.symm.trans (show Bb _ 6 _ 9=true by kernel_rfl)));have rb:=Ag rB;go_simp;exact Hk hK (Ai _ _ _)
  | 10 =>
   cases ho;have t0:=F.get (t:=0) (v:=(pt z 0)) (by decide) rfl;go_simp;exact Hk hK (Ai _ _ _)
  | 11 =>
   cases ho;have q10:tv a' 15=_:=Hq hw 10;go_simp;exact Hk hK (Ai _ _ _)
  | 12 =>
   cases ho;have q11:tv a' 16=_:=Hq hw 11;go_simp;exact Hk hK (Ai _ _ _)
  | 13 =>
   cases ho;have q12:tv a' 17=_:=Hq hw 12;have rB:=Ak k L (fun o ⟨j,oj,hj,hoj,hwj,e⟩=>by rcases e with ⟨rfl,e⟩ | ⟨rfl,e⟩ <;> first | omega | (cases hwj.symm.trans (show Bb _ 6 _ 13=true by kernel_rfl)));have rb:=Ag rB;go_simp;exact Hk hK (Ai _ _ _)
  | 14 =>
   cases ho;have t1:=F.get (t:=1) (v:=.i vec) (by decide) rfl;go_simp;exact Hk hK (Ai _ _ _)
  | 15 =>
   cases ho;have q5:tv a' 10=_:=Hq hw 5;have q9:tv a' 14=_:=Hq hw 9;have q13:tv a' 18=_:=Hq hw 13;have q14:tv a' 19=_:=Hq hw 14;have LN:=L.mono (S:=Aj) (fun b o _ ⟨j,oj,hj,hoj,hwj,e⟩=>by rcases e with ⟨rfl,e⟩ | ⟨rfl,e⟩ <;> first | omega | (cases hwj.symm.trans (show Bb _ 6 _ 15=true by kernel_rfl)));go_simp;refine (HEn.out W (HI.keep LN (fun _ _ _ x=>x)) (K.keep LN (fun _ _ _ x=>x))).mono ?_;rintro e W' ⟨q,rfl,O,LX⟩;exact hK _ _ (Ab LX _) ⟨q,Ai _ _ _,Dl O L.size⟩
  | 16 =>
   cases ho;have q15:=Hq hw 15;obtain ⟨q,h1,O⟩:=q15;replace h1:a'.tmps[20]?.getD undef=.tuple #[.agg #[q,.i bank],.agg (cR A X d3 pE Z N C true)]:=h1;go_simp;exact Hk hK ⟨q,Ai _ _ _,O⟩
  | 17 =>
   cases ho;have q16:=Hq hw 16;obtain ⟨q,h1,O⟩:=q16;replace h1:a'.tmps[4]?.getD undef=.tuple #[.agg #[q,.i bank],.agg (cR A X d3 pE Z N C true)]:=h1;go_simp;exact Hk hK ⟨q,Ai _ _ _,O⟩
  | 18 =>
   cases ho;have q16:=Hq hw 16;obtain ⟨q,h1,O⟩:=q16;replace h1:a'.tmps[4]?.getD undef=.tuple #[.agg #[q,.i bank],.agg (cR A X d3 pE Z N C true)]:=h1;go_simp;exact Hk hK (Ai _ _ _)
  | 19 =>
   cases ho;have q0:tv a' 5=_:=Hq hw 0;go_simp;exact Hk hK (Ai _ _ _)
  | 20 =>
   cases ho;have q19:tv a' 23=_:=Hq hw 19;go_simp;exact Hk hK (Ai _ _ _)
  | 21 =>
   cases ho;have q20:tv a' 24=_:=Hq hw 20;have q17:=Hq hw 17;have rB:=Ak k L (fun o ⟨j,oj,hj,hoj,hwj,e⟩=>by rcases e with ⟨rfl,e⟩ | ⟨rfl,e⟩ <;> first | omega | (cases hwj.symm.trans (show Bb _ 6 _ 21=true by kernel_rfl)));obtain ⟨q,h1,O⟩:=q17;replace h1:a'.tmps[21]?.getD undef=.agg #[q,.i bank]:=h1
   obtain ⟨xa,xc,hu⟩:∃ a c,q=.slice a 512 c:=by obtain ⟨a,c,hq,_⟩:=O.ex; exact ⟨a,c,hq⟩
   refine Bg _ _ _ rfl z 2 #[q,.i bank] (by simpa [Act.eval] using q20) (by simpa [Act.eval] using h1) _ _ rB Fs (by rw [hs.out]; show (2+2:Nat)≤34; omega) (by subst hu; first | kernel_rfl | simp [Value.oneCell']) ?_;have TT:=Bm rB (putAt bs 2 #[q,.i bank]);exact hK undef _ (TT.mono (fun b o _ e=>Or.inl ⟨rfl,e⟩)) ⟨q,setRow_heap _ _ _ _ _ _ rB,O.away TT (fun b' o h1 h2 (e:b'=z)=>by omega)⟩
  | 22 =>
   cases ho;have q1:tv a' 6=_:=Hq hw 1;go_simp;exact Hk hK (Ai _ _ _)
  | 23 =>
   cases ho;have q22:tv a' 25=_:=Hq hw 22;go_simp;exact Hk hK (Ai _ _ _)
  | 24 =>
   cases ho;have q23:tv a' 26=_:=Hq hw 23;have q18:tv a' 22=_:=Hq hw 18;obtain ⟨q,rB,O⟩:=Hq hw 21;refine Bg _ _ _ rfl z 4 (cR A X d3 pE Z N C true) (by simpa [Act.eval] using q23) (by simpa [Act.eval] using q18) _ _ rB Dz (by rw [Mo (by rw [hs.out]; show (2+2:Nat)≤34; omega),hs.out]; show (4+8:Nat)≤34; omega) (by first | kernel_rfl | simp [Value.oneCell']) ?_;have TT:=Bm rB (putAt (putAt bs 2 #[q,.i bank]) 4 (cR A X d3 pE Z N C true));exact hK undef _ (TT.mono (fun b o _ e=>Or.inr ⟨rfl,e⟩)) ⟨q,setRow_heap _ _ _ _ _ _ rB,O.away TT (fun b' o h1 h2 (e:b'=z)=>by omega)⟩
  | _+25=>simp at ho
 ·intro a' W F L hφ
  have p5:a'.tmps[5]?.getD undef=_:=Hf hφ 0;have p6:a'.tmps[6]?.getD undef=_:=Hf hφ 1;have p7:a'.tmps[7]?.getD undef=_:=Hf hφ 2;have p8:a'.tmps[8]?.getD undef=_:=Hf hφ 3;have p9:a'.tmps[9]?.getD undef=_:=Hf hφ 4;have p10:a'.tmps[10]?.getD undef=_:=Hf hφ 5;have p11:a'.tmps[11]?.getD undef=_:=Hf hφ 6;have p12:a'.tmps[12]?.getD undef=_:=Hf hφ 7;have p13:a'.tmps[13]?.getD undef=_:=Hf hφ 8;have p14:a'.tmps[14]?.getD undef=_:=Hf hφ 9;have p15:a'.tmps[15]?.getD undef=_:=Hf hφ 10;have p16:a'.tmps[16]?.getD undef=_:=Hf hφ 11;have p17:a'.tmps[17]?.getD undef=_:=Hf hφ 12;have p18:a'.tmps[18]?.getD undef=_:=Hf hφ 13;have p19:a'.tmps[19]?.getD undef=_:=Hf hφ 14;have e15:=Hf hφ 15;have e16:=Hf hφ 16;have e17:=Hf hφ 17;have p22:a'.tmps[22]?.getD undef=_:=Hf hφ 18
  have p23:a'.tmps[23]?.getD undef=_:=Hf hφ 19;have p24:a'.tmps[24]?.getD undef=_:=Hf hφ 20;have p25:a'.tmps[25]?.getD undef=_:=Hf hφ 22;have p26:a'.tmps[26]?.getD undef=_:=Hf hφ 23;have e24:=Hf hφ 24;rw [F.same,show slotsOf [some 5,some 6,some 7,some 8,some 9,some 10,some 11,some 12,some 13,some 14,some 15,some 16,some 17,some 18,some 19,some 20,some 4,some 21,some 22,some 23,some 24,none,some 25,some 26,none]=[5,6,7,8,9,10,11,12,13,14,15,16,17,18,19,20,4,21,22,23,24,25,26] from rfl];simp only [List.foldl_cons,List.foldl_nil];obtain ⟨q,kF,OF⟩:=e24;have LF:=L.mono (S:=fun b _=>b=z) (fun b o _ ⟨j,e⟩=>by omega);go_simp;go_wp2
  go_end0
  exact ⟨rfl,q,kF,OF,LF⟩
theorem Us (x0 x1 x2 x3 x4 x5 x6 x7 x8 x9 x10 x11 x12 x13 x14 x15 x16 x17 x18 x19 x20 x21 x22 x23 x24 x25 x26 x27 x28 x29 x30 x31 x32 x33 q bk y0 y1 y2 y3 y4 y5 y6 y7:Value):putAt (putAt #[x0,x1,x2,x3,x4,x5,x6,x7,x8,x9,x10,x11,x12,x13,x14,x15,x16,x17,x18,x19,x20,x21,x22,x23,x24,x25,x26,x27,x28,x29,x30,x31,x32,x33] 2 #[q,bk]) 4 #[y0,y1,y2,y3,y4,y5,y6,y7]=#[x0,x1,q,bk,y0,y1,y2,y3,y4,y5,y6,y7,x12,x13,x14,x15,x16,x17,x18,x19,x20,x21,x22,x23,x24,x25,x26,x27,x28,x29,x30,x31,x32,x33]:=rfl
theorem Dg.low {W:World} {lo z:Nat} {d:Aq} {u4 u5 u6 u7:Value} (H:Dg W lo z d u4 u5 u6 u7) (hlo:lo≤z) {b o:Nat} (h:RL z u4 u5 u6 u7 b o):lo≤b:=by
 obtain ⟨D,u0,u1,u2,u3,ob,iv,ov,o6,o7,HQ,hz,B0⟩:=H.ex
 rcases h with h | h | h | h | h
 ·omega
 ·exact (HQ.bd 3 b (HQ.h3.spare4 h)).1
 ·obtain ⟨n,c,rfl,-⟩:=h
  exact (HQ.bd 4 b (HQ.h5D b (Or.inl rfl))).1
 ·exact (HQ.bd 5 b (HQ.h6D b (Dj HQ.h6 h))).1
 ·exact (HQ.bd 6 b (HQ.h7D b (Dj HQ.h7 h))).1
theorem Dg.lt {W:World} {lo z:Nat} {d:Aq} {u4 u5 u6 u7:Value} (H:Dg W lo z d u4 u5 u6 u7):z<W.heap.size:=by
 obtain ⟨D,u0,u1,u2,u3,ob,iv,ov,o6,o7,HQ,hz,B0⟩:=H.ex;exact Ac B0
theorem Dg.goes {w W:World} {lo z:Nat} {d:Aq} {u4 u5 u6 u7 b4 b5 b6 b7:Value} (H:Dg w lo z d u4 u5 u6 u7) (hlo:lo≤z) (G:Goes w W z u4 u5 u6 u7 b4 b5 b6 b7):Below lo w W :=
 G.wr.below (by have:=H.lt; omega) (fun b o hb r=>by have:=H.low hlo r; omega)
theorem Dc.at {w:World} (h:Dc w):0<w.heap.size:=block_lt_of_cell (h 0 (by decide)).1
theorem Dc.lo {w W:World} {lo:Nat} (h:Dc w) (hv:0<lo) (L:Below lo w W):Dc W:=fun i hi=>by
 obtain ⟨h1,h2,h3,h4⟩:=h i hi
 have e:∀ o,W.cell? ⟨0,o,none⟩=w.cell? ⟨0,o,none⟩:=fun o=>by
  unfold World.cell?;rw [L.block _ hv]
 exact ⟨(e _).trans h1,(e _).trans h2,(e _).trans h3,(e _).trans h4⟩
theorem Zw {g:Nat→Int} (h:∀ j,j<512→0≤g j∧g j≤255):isRow 512 g 512=true:=by
 rw [E9 (by rfl)];exact Lh (fun j hj=>Bn (h j hj))
theorem Dg.put {w W:World} {lo z:Nat} {d:Aq} {u4 u5 u6 u7 q:Value} {g:Nat→Int} {c:A4} (H:Dg w lo z d u4 u5 u6 u7) (hlo:lo≤z) (hnr:d.nr=512)
  (k:∀ D u0 u1 u2 u3 ob iv ov o6 o7,Bi w lo w.heap.size D u0 u1 u2 u3 u4 u5 u6 u7 ob iv ov o6 o7 d→w.heap[z]?=some (.cells (kR d u0 u1 u2 u3 u4 u5 u6 u7) 49 (0,0))→W.heap[z]?=some (.cells (putAt (putAt (kR d u0 u1 u2 u3 u4 u5 u6 u7) 2 #[q,.i d.bank]) 4 (cR c.A c.X c.S c.Pc c.Z c.N c.C c.I)) 49 (0,0)))
  (O:Am W w.heap.size q 512 g) (hW:Wrote (fun b _=>b=z) w W):Ei w W lo z u4 u5 u6 u7 (putCpu d g c):=by
 obtain ⟨D,u0,u1,u2,u3,ob,iv,ov,o6,o7,HQ,hz,B0⟩:=H.ex;have kz:=k D u0 u1 u2 u3 ob iv ov o6 o7 HQ B0;rw [Us] at kz;have hzl:=Ac B0;have HA:=HQ.keepD hW (fun i b o h (e:b=z)=>hz i b h e)
 have OB:Bw W (fun b=>w.heap.size≤b∧b<W.heap.size) (.agg #[q,.i d.bank]) 512 g d.bank:=by
  obtain ⟨a,cap,e,h1,h2,h3,h4⟩:=O.ex;exact ⟨a,cap,by rw [e],h1,h2,h3,fun b o hf=>⟨h4 b o hf,(h3 b o hf).1⟩⟩
 rw [← hnr] at OB;have HM:=HA.mem OB (Nat.le_refl _) (by omega) hW.size (Nat.le_refl _)
 have HM':Bi W lo W.heap.size (fun i b=>(i=2∧w.heap.size≤b∧b<W.heap.size)∨(i≠2∧D i b)) u0 u1 q u3 u4 u5 u6 u7 ob iv ov o6 o7 (putCpu d g c):=⟨HM.h0,HM.h1,HM.h2,HM.h3,HM.h5,HM.h5D,HM.h6,HM.h6D,HM.h7,HM.h7D,HM.dis,HM.bd,HM.nN,HM.hps⟩
 refine ⟨_,_,_,_,⟨_,_,_,_,_,_,_,_,_,_,HM',fun i b h e=>?_,kz⟩,Goes.box hW _ _ _ _⟩
 rcases h with ⟨-,h1,h2⟩ | ⟨-,h⟩
 ·omega
 ·exact hz i b h e
theorem Vh (w:World) (lo z:Nat) (d:Aq) (u4 u5 u6 u7:Value) (H:Dg w lo z d u4 u5 u6 u7) (hlo:lo≤z) (hnr:d.nr=512) (hr:∀ j,j<512→0≤d.g j∧d.g j≤255) (vec:Int):Calls Tryz.prog 106 #[(pt z 0),.i vec] w fun e w'=>e=.returned (.tuple #[])∧Ei w w' lo z u4 u5 u6 u7 (Nf d vec):=by
 obtain ⟨D,u0,u1,u2,u3,ob,iv,ov,o6,o7,HQ,hz,B0⟩:=H.ex;obtain ⟨q5,hq5,I2⟩:=HQ.h2.ints;simp only [Value.agg.injEq,Array.mk.injEq,List.cons.injEq,and_true] at hq5;subst hq5;rw [hnr] at I2;refine (Jcp w z _ rfl B0 _ _ u0 u2 d.m d.ln d.f d.g d.bank d.A d.X d.S d.Pc d.Z d.N d.C d.I HQ.h0.ints I2 (Zw hr) rfl rfl rfl rfl rfl rfl rfl rfl rfl rfl rfl vec).mono ?_;rintro e W ⟨rfl,q,k,O,hW⟩
 exact ⟨rfl,Dg.put (c:=entC d vec) H hlo hnr (fun D' v0 v1 v2 v3 ob' iv' ov' o6' o7' HQ' B0'=>by
  rw [B0] at B0';simp only [Option.some.injEq,Obj.cells.injEq,Array.mk.injEq,List.cons.injEq,and_true,true_and] at B0';obtain ⟨rfl,rfl,rfl,rfl⟩:=B0'
  exact k) O hW⟩
set_option maxHeartbeats 4000000
structure TBL (w W:World) (lo z:Nat) (xs:Nat→Value) (o1 o2:Option Nat) (u1 u2 tv:Value) (t c s ad pl:Int) (bl:Bool) (n:Nat) (f:Nat→Int) (m:Nat) (g:Nat→Int) (k:Nat) (h:Nat→Int):Prop where
 ex:∃ o2' u2' o3,W.heap[z]?=some (.cells #[xs 0,xs 1,xs 2,xs 3,xs 4,xs 5,xs 6,xs 7,xs 8,xs 9,xs 10,xs 11,.i t,.i c,.i s,.i ad,.i pl,.bool bl,u1,u2',xs 20,xs 21,xs 22,xs 23,xs 24,xs 25,xs 26,xs 27,xs 28,xs 29,xs 30,xs 31,xs 32,xs 33] 49 (0,0))∧A5 W lo o1 u1 n f∧A5 W lo o2' u2' m g∧A5 W lo o3 tv k h∧Pz o1 o2'∧Pz o1 o3∧Pz o2' o3∧(∀ q,(o1=some q∨o2'=some q∨o3=some q)→q≠z)∧Wrote (fun b o=>b=z∨spare u2 b o) w W∧(∀ q,(o2'=some q∨o3=some q)→o2=some q∨w.heap.size≤q)∧(∀ b o,b<w.heap.size→spare u2' b o→spare u2 b o)
theorem TBL.up {w W:World} {lo z:Nat} {xs:Nat→Value} {o1 o2:Option Nat} {u1 u2 tv:Value} {t c s ad pl:Int} {bl:Bool} {n:Nat} {f:Nat→Int} {m:Nat} {g:Nat→Int} {k:Nat} {h:Nat→Int} (H:TBL w W lo z xs o1 o2 u1 u2 tv t c s ad pl bl n f m g k h) (t':Int) :
  TBL w (W.setCell ⟨z,12,none⟩ (.i t')) lo z xs o1 o2 u1 u2 tv t' c s ad pl bl n f m g k h:=by
 obtain ⟨o2',u2',o3,hb,r1,r2,r3,h1,h2,h3,hz,hw,hn,hs⟩:=H;have WS:Wrote (fun b _=>b=z) W (W.setCell ⟨z,12,none⟩ (.i t')):=Wrote.setCell (R:=fun b _=>b=z) (Wrote.refl _ W) (fun _=>rfl) _;exact ⟨o2',u2',o3,Af hb _,r1.keep WS (fun q e _ _ _ x=>hz q (Or.inl e) x),r2.keep WS (fun q e _ _ _ x=>hz q (Or.inr (Or.inl e)) x),r3.keep WS (fun q e _ _ _ x=>hz q (Or.inr (Or.inr e)) x),h1,h2,h3,hz,hw.setCell (fun _=>Or.inl rfl) _,hn,hs⟩
theorem Zx (w:World) (lo z:Nat) (xs:Nat→Value) (o1 o2:Option Nat) (u1 u2:Value) (t c s ad pl:Int) (bl:Bool) (n:Nat) (f:Nat→Int) (m:Nat) (g:Nat→Int) (hb:w.heap[z]?=some (.cells #[xs 0,xs 1,xs 2,xs 3,xs 4,xs 5,xs 6,xs 7,xs 8,xs 9,xs 10,xs 11,.i t,.i c,.i s,.i ad,.i pl,.bool bl,u1,u2,xs 20,xs 21,xs 22,xs 23,xs 24,xs 25,xs 26,xs 27,xs 28,xs 29,xs 30,xs 31,xs 32,xs 33] 49 (0,0))) (R1:A5 w lo o1 u1 n f) (R2:A5 w lo o2 u2 m g) (h12:Pz o1 o2) (hz:∀ q,(o1=some q∨o2=some q)→q≠z) (hlo:lo≤w.heap.size) (ok:A1 t c s ad pl n f m g=true) (ht:¬ t=20000) :
  Calls Tryz.prog 143 #[(pt z 12)] w fun e w'=>∃ tv,e=.returned (.tuple #[tv,.bool (Py t c)])∧TBL w w' lo z xs o1 o2 u1 u2 tv (Ga t) c s ad pl (Ho t bl) n f (tkM t m) (Kz t f s pl m g) (Ki t m) g:=by
 have IP:=Ev ok;have t0:=IP.t0
 have t1:t<20000:=by have:=IP.t1; omega
 have HT:=Ad ht;have m64:t.tmod 64=t%64:=Int.tmod_eq_emod_of_nonneg t0;obtain ⟨pa,px,rfl⟩:=R1.form;obtain ⟨qa,qx,rfl⟩:=R2.form;have hzlt:=Ac hb;have y0:=Ax hb (.cells #[] 3);have x0:=Al w #[] 3;have L0:Below w.heap.size w (w.alloc (.cells #[] 3)):=(Below.refl _ _).alloc (Nat.le_refl _) _;have U1:=R1.below L0;have U2:=R2.below L0
 have sz:(w.alloc (.cells #[] 3)).heap.size=w.heap.size+1:=by simp
 have l1:∀ q,o1=some q→lo≤q∧q<w.heap.size:=fun q e=>by subst e; exact R1.lt
 have l2:∀ q,o2=some q→lo≤q∧q<w.heap.size:=fun q e=>by subst e; exact R2.lt
 have c0:=Ag hb;have WB:Wrote (fun b o=>b=z∨spare (.slice qa m qx) b o) w (w.alloc (.cells #[] 3)):=Ab L0 _;have HL:=Ad (And.intro l1 (And.intro l2 (And.intro h12 hz)));have HIP:=Ad (And.intro IP ok);have HSP:=Ad (fun (b o:Nat) (h:spare (.slice qa m qx) b o)=>Dj R2 h);clear ht R1 R2 l1 l2 h12 hz hb IP ok
 obtain ⟨W0,hW0⟩:∃ W0,W0=w.alloc (.cells #[] 3):=⟨_,rfl⟩
 rw [← hW0] at y0 x0 L0 U1 U2 sz WB;have d0:=Ag y0;have g0:=As y0
 by_cases hA:t%64<48
 ·have HE:Hid (Ga t=t+1∧Ho t bl=bl∧tkM t m=m+1∧Kz t f s pl m g=snoc g m (Hn f s pl (t%64))∧Ki t m=0∧Py t c=false):=⟨if_neg HT.out,(if_neg HT.out).trans ((if_neg (by omega)).trans (if_neg (by omega))),(if_neg HT.out).trans (if_pos hA),(if_neg HT.out).trans (if_pos hA),(if_neg HT.out).trans (if_neg (by omega)),(if_neg HT.out).trans (if_neg (by omega))⟩
  have hm48:m<48:=by
   have h1:=HIP.out.1.dots;unfold Dk at h1;rw [if_neg (by omega)] at h1
   omega
  have hb0:0≤t%64:=by omega
  have HDOT:Hid (∀ W:World,Ints .i64 W (On (fun b=>o1=some b)) (.slice pa n px) n f→Ints .i64 W (On (fun b=>o2=some b)) (.slice qa m qx) m g→Calls Tryz.prog 171 #[.agg (pR t c s ad pl bl (.slice pa n px) (.slice qa m qx)),.i (t%64)] W fun e w'=>e=.returned (.i (Hn f s pl (t%64)))∧Below W.heap.size W w'):=fun W h1 h2=>by
   refine (Ja9 W _ _ t c s ad pl bl _ _ n f m g (t%64) h1 h2).mono ?_;rintro e w' ⟨rfl,h⟩;rw [HIP.out.2];exact ⟨Az (if_pos ⟨rfl,by omega,by omega⟩),h⟩
  generalize hdv:Hn f s pl (t%64)=dv at *;clear hdv
  go_enter Tryz.func143,Tryz.ntmps143
  go_upto_region 4 with (fail);rw [← hW0]
  refine A8 [some 16,some 17,some 18,some 19,some 20,some 21,some 22,some 23,some 24,some 25,some 26,some 27,some 28,some 29,none] (by kernel_rfl) (by kernel_rfl) (by kernel_rfl) (by kernel_rfl) (by simp [slotsOf])
   (fun j b o=>(j=11∧o2=some b∧spare (.slice qa m qx) b o)∨(j=14∧b=z))
   (fun i v W=>match i with
    | 0=>v=(pt z 12)
    | 1=>v=(pt z 12)
    | 2=>v=(pt z 12)
    | 3=>v=(pt z 19)
    | 4=>v=.slice qa m qx
    | 5=>v=(pt z 12)
    | 6=>v=(pt z 12)
    | 7=>v=.agg (pR t c s ad pl bl (.slice pa n px) (.slice qa m qx))
    | 8=>v=.i (t%64)
    | 9=>v=.i dv
    | 10=>∃ a,v=.slice (some ⟨a,0,none⟩) 1 1∧W0.heap.size≤a∧W.cell? ⟨a,0,none⟩=some (.i dv)
    | 11=>∃ g' c',v=.slice (some ⟨g',0,none⟩) (m+1) c'∧Row W lo g' (m+1) c' (snoc g m dv)∧(o2=some g'∨W0.heap.size≤g')
    | 12=>v=(pt z 12)
    | 13=>v=(pt z 19)
    | _=>∃ g' c',W.heap[z]?=some (.cells #[xs 0,xs 1,xs 2,xs 3,xs 4,xs 5,xs 6,xs 7,xs 8,xs 9,xs 10,xs 11,.i t,.i c,.i s,.i ad,.i pl,.bool bl,.slice pa n px,.slice (some ⟨g',0,none⟩) (m+1) c',xs 20,xs 21,xs 22,xs 23,xs 24,xs 25,xs 26,xs 27,xs 28,xs 29,xs 30,xs 31,xs 32,xs 33] 49 (0,0))∧Row W lo g' (m+1) c' (snoc g m dv)∧(o2=some g'∨W0.heap.size≤g')) ?_ ?_ ?_
  ·intro i j o v W W' hij ho hnw hW h
   match i,hij,ho,h with
   | 0,_,_,h=>exact h
   | 1,_,_,h=>exact h
   | 2,_,_,h=>exact h
   | 3,_,_,h=>exact h
   | 4,_,_,h=>exact h
   | 5,_,_,h=>exact h
   | 6,_,_,h=>exact h
   | 7,_,_,h=>exact h
   | 8,_,_,h=>exact h
   | 9,_,_,h=>exact h
   | 10,_,_,⟨a,h1,h2,h3⟩=>exact ⟨a,h1,h2,(hW.cell a 0 (block_lt_of_cell h3) (fun e=>by rcases e with ⟨_,e,-⟩ | ⟨_,e⟩; have:=HL.out.2.1 a e; omega; omega)).trans h3⟩
   | 11,hij,_,⟨g',c',h1,h2,h3⟩=>exact ⟨g',c',h1,h2.keep hW (fun o e=>by rcases e with ⟨e,_,-⟩ | ⟨_,e⟩; omega; subst e; rcases h3 with h3 | h3; exact HL.out.2.2.2 _ (Or.inr h3) rfl; omega),h3⟩
   | 12,_,_,h=>exact h
   | 13,_,_,h=>exact h
   | 14,hij,ho,⟨g',c',h1,h2,h3⟩ =>
    have h6:j≠11:=fun e=>by
     obtain rfl:=Option.some.inj ho;rw [e] at hnw;cases hnw.symm.trans (show A0 _ 11=true by kernel_rfl)
    exact ⟨g',c',Ah h1 hW (fun o e=>by omega),h2.keep hW (fun o e=>by omega),h3⟩
   | _+15,_,ho,_=>simp at ho
  ·intro i o a' W K ho F L hw hK
   have hsz:=L.size;have tz:=F.get (t:=0) (v:=(pt z 12)) (by decide) rfl;have t6:=F.get (t:=6) (v:=.i (t%64)) (by decide) rfl
   match i with
   | 0 =>
    cases ho;go_simp;exact Hk hK rfl
   | 1 =>
    cases ho;go_simp;exact Hk hK rfl
   | 2 =>
    cases ho;have q1:tv a' 17=_:=Hr hw 1;go_simp;exact Hk hK rfl
   | 3 =>
    cases ho;have q1:tv a' 18=_:=Hr hw 2;go_simp;exact Hk hK rfl
   | 4 =>
    cases ho;have q1:tv a' 19=_:=Hr hw 3
    have r2:=Ag (Ah y0 L (fun o ⟨j,oj,_,hj,hnw,e⟩=>by
     rcases e with ⟨_,e,-⟩ | ⟨rfl,_⟩
     ·exact HL.out.2.2.2 _ (Or.inr e) rfl
     ·obtain rfl:=Option.some.inj hj
      cases hnw.symm.trans (show A0 _ 4=true by kernel_rfl)))
    go_simp;exact Hk hK rfl
   | 5 =>
    cases ho;go_simp;exact Hk hK rfl
   | 6 =>
    cases ho;have q1:tv a' 21=_:=Hr hw 5;go_simp;exact Hk hK rfl
   | 7 =>
    cases ho;have q1:tv a' 22=_:=Hr hw 6
    have r2:=Ag (Ah y0 L (fun o ⟨j,oj,_,hj,hnw,e⟩=>by
     rcases e with ⟨_,e,-⟩ | ⟨rfl,_⟩
     ·exact HL.out.2.2.2 _ (Or.inr e) rfl
     ·obtain rfl:=Option.some.inj hj
      cases hnw.symm.trans (show A0 _ 7=true by kernel_rfl)))
    go_simp;exact Hk hK rfl
   | 8 =>
    cases ho;go_simp;exact Hk hK rfl
   | 9 =>
    cases ho;have q1:tv a' 23=_:=Hr hw 7;have q2:tv a' 24=_:=Hr hw 8
    have V1:=(U1.keep L (fun q e _ _ o ⟨j,oj,_,hj,hnw,e'⟩=>by
     rcases e' with ⟨rfl,e',-⟩ | ⟨rfl,e'⟩
     ·exact HL.out.2.2.1 q e e'
     ·exact HL.out.2.2.2 q (Or.inl e) e')).ints
    have V2:=(U2.keep L (fun q e _ _ o ⟨j,oj,_,hj,hnw,e'⟩=>by
     rcases e' with ⟨rfl,e',-⟩ | ⟨rfl,e'⟩
     ·obtain rfl:=Option.some.inj hj
      cases hnw.symm.trans (show A0 _ 9=true by kernel_rfl)
     ·exact HL.out.2.2.2 q (Or.inr e) e')).ints
    go_simp;refine (HDOT.out W V1 V2).mono ?_;rintro e W' ⟨rfl,LB⟩;exact hK _ _ (Ab LB _) rfl
   | 10 =>
    cases ho;have q1:tv a' 25=_:=Hr hw 9;go_simp;exact hK _ _ ((Wrote.refl _ W).alloc _) ⟨_,rfl,by omega,Ag (Al W #[.i dv] 3) 0⟩
   | 11 =>
    cases ho;have q1:tv a' 20=_:=Hr hw 4;obtain ⟨aa,q2,q3,q4⟩:∃ a,a'.tmps[26]?.getD undef=.slice (some ⟨a,0,none⟩) 1 1∧W0.heap.size≤a∧W.cell? ⟨a,0,none⟩=some (.i dv):=Hr hw 10
    have V2:=U2.keep L (fun q e _ _ o ⟨j,oj,hne,hj,hnw,e'⟩=>by
     rcases e' with ⟨rfl,e',-⟩ | ⟨rfl,e'⟩
     ·exact hne rfl
     ·exact HL.out.2.2.2 q (Or.inr e) e')
    refine Se W (.tmp 20) (.tmp 26) rfl lo o2 (.slice qa m qx) m g (by simpa [Act.eval] using q1) V2 (by omega) (by omega) aa dv (by simpa [Act.eval] using q2) q4 ?_;rintro g' c' W' ⟨cx,hcx,h1⟩ h2 h3
    obtain rfl:c'=cx:=by simpa using hcx
    exact hK _ _ (h2.mono (fun b o _ e=>Or.inl ⟨rfl,HSP.out _ _ e,e⟩)) ⟨g',c',rfl,h1,by rcases h3 with h3 | h3; exact Or.inl h3; exact Or.inr (by omega)⟩
   | 12 =>
    cases ho;have q1:tv a' 16=_:=Hr hw 0;go_simp;exact Hk hK rfl
   | 13 =>
    cases ho;have q1:tv a' 28=_:=Hr hw 12;go_simp;exact Hk hK rfl
   | 14 =>
    cases ho;have q1:tv a' 29=_:=Hr hw 13;obtain ⟨g',c',q2,q3,q4⟩:∃ g' c',a'.tmps[27]?.getD undef=.slice (some ⟨g',0,none⟩) (m+1) c'∧Row W lo g' (m+1) c' (snoc g m dv)∧(o2=some g'∨W0.heap.size≤g'):=Hr hw 11;have r2b:=Ah y0 L (fun o ⟨j,_,hne,_,_,e⟩=>by rcases e with ⟨_,e,-⟩ | ⟨rfl,_⟩; exact HL.out.2.2.2 _ (Or.inr e) rfl; exact hne rfl);have r2:=Ag r2b;have r2f:=As r2b;go_simp;have WZ:Wrote (fun b _=>b=z) W (W.setCell ⟨z,19,none⟩ (.slice (some ⟨g',0,none⟩) (m+1) c')):=Wrote.setCell (Wrote.refl (fun b _=>b=z) W) (fun _=>rfl) _;exact hK undef _ (WZ.mono (fun b o _ e=>Or.inr ⟨rfl,e⟩)) ⟨g',c',Af r2b _,q3.keep WZ (fun o e=>by subst e; rcases q4 with q4 | q4; exact HL.out.2.2.2 _ (Or.inr q4) rfl; omega),q4⟩
   | _+15=>simp at ho
  ·intro a' W F L hφ
   obtain ⟨g',c',b8,R8,h8⟩:∃ g' c',W.heap[z]?=some (.cells #[xs 0,xs 1,xs 2,xs 3,xs 4,xs 5,xs 6,xs 7,xs 8,xs 9,xs 10,xs 11,.i t,.i c,.i s,.i ad,.i pl,.bool bl,.slice pa n px,.slice (some ⟨g',0,none⟩) (m+1) c',xs 20,xs 21,xs 22,xs 23,xs 24,xs 25,xs 26,xs 27,xs 28,xs 29,xs 30,xs 31,xs 32,xs 33] 49 (0,0))∧Row W lo g' (m+1) c' (snoc g m dv)∧(o2=some g'∨W0.heap.size≤g'):=Hd hφ 14
   have T0:TBL w W lo z xs o1 o2 (.slice pa n px) (.slice qa m qx) (.slice (some ⟨w.heap.size,0,none⟩) 0 0) t c s ad pl bl n f (m+1) (snoc g m dv) 0 g:=by
    have V1:=U1.keep L (fun q e _ _ o ⟨j,e'⟩=>by
     rcases e' with ⟨_,e',-⟩ | ⟨_,e'⟩
     ·exact HL.out.2.2.1 q e e'
     ·exact HL.out.2.2.2 q (Or.inl e) e')
    have V3:=Ah x0 L (fun o ⟨j,e'⟩=>by
     rcases e' with ⟨_,e',-⟩ | ⟨_,e'⟩
     ·have:=HL.out.2.1 _ e'; omega
     ·omega)
    refine ⟨some g',_,some w.heap.size,b8,V1,⟨_,rfl,R8⟩,⟨_,rfl,Row.empty g V3 hlo⟩,fun q e1 e2=>?_,fun q e1 e2=>?_,fun q e1 e2=>?_,fun q e=>?_,WB.trans (L.mono (fun b o _ ⟨j,e⟩=>by rcases e with ⟨_,-,e⟩ | ⟨_,e⟩; exact Or.inr e; exact Or.inl e)),fun q e=>?_,fun b o hb h=>Je (N:=w.heap.size) U2 (h8.imp id (fun x=>by omega)) hb h⟩
    ·obtain rfl:=Option.some.inj e2
     rcases h8 with h8 | h8
     ·exact HL.out.2.2.1 _ e1 h8
     ·have:=HL.out.1 _ e1; omega
    ·obtain rfl:=Option.some.inj e2
     have:=HL.out.1 _ e1
     omega
    ·obtain rfl:=Option.some.inj e1
     have e3:=Option.some.inj e2
     rcases h8 with h8 | h8
     ·have:=HL.out.2.1 _ h8; omega
     ·omega
    ·rcases e with e | e | e
     ·exact HL.out.2.2.2 q (Or.inl e)
     ·obtain rfl:=Option.some.inj e
      rcases h8 with h8 | h8
      ·exact HL.out.2.2.2 _ (Or.inr h8)
      ·omega
     ·obtain rfl:=Option.some.inj e
      omega
    ·rcases e with e | e
     ·obtain rfl:=Option.some.inj e
      rcases h8 with h8 | h8
      ·exact Or.inl h8
      ·exact Or.inr (by omega)
     ·obtain rfl:=Option.some.inj e
      exact Or.inr (Nat.le_refl _)
   clear hφ L;rw [F.same,show slotsOf [some 16,some 17,some 18,some 19,some 20,some 21,some 22,some 23,some 24,some 25,some 26,some 27,some 28,some 29,none]=[16,17,18,19,20,21,22,23,24,25,26,27,28,29] from rfl];simp only [List.foldl_cons,List.foldl_nil];generalize a'.tmps[16]?.getD undef=s16;generalize a'.tmps[17]?.getD undef=s17;generalize a'.tmps[18]?.getD undef=s18;generalize a'.tmps[19]?.getD undef=s19;generalize a'.tmps[20]?.getD undef=s20;generalize a'.tmps[21]?.getD undef=s21;generalize a'.tmps[22]?.getD undef=s22;generalize a'.tmps[23]?.getD undef=s23;generalize a'.tmps[24]?.getD undef=s24;generalize a'.tmps[25]?.getD undef=s25;generalize a'.tmps[26]?.getD undef=s26;generalize a'.tmps[27]?.getD undef=s27;generalize a'.tmps[28]?.getD undef=s28;generalize a'.tmps[29]?.getD undef=s29;have c2:=Ag b8;have f2:=As b8
   have HTB:=Ad T0;clear T0 R8 F y0 x0 U1 U2 d0 g0 c0 b8;rename_i KK hKK;refine hKK _ _ ?_;go_simp;go_wp2;obtain ⟨i1,i2,i3,i4,i5,i6⟩:=HE.out;refine bodyPost_ret (v:=.tuple #[.slice (some ⟨w.heap.size,0,none⟩) 0 0,.bool false]) (by simp [results,Tryz.results143,go_sem]) rfl ?_;rw [i1,i2,i3,i4,i5,i6];exact ⟨_,rfl,HTB.out.up (t+1)⟩
 by_cases hB:t%64=48
 ·have HE:Hid (Ga t=t+1∧Ho t bl=true∧tkM t m=0∧Kz t f s pl m g=g∧Ki t m=m∧Py t c=decide (127<c)):=⟨if_neg HT.out,(if_neg HT.out).trans (if_pos hB),(if_neg HT.out).trans ((if_neg hA).trans (if_pos hB)),(if_neg HT.out).trans (if_neg hA),(if_neg HT.out).trans (if_pos hB),(if_neg HT.out).trans (if_pos hB)⟩
  have y1:=Ax y0 (.cells #[] 3);have d1:=Ag y1;have g1:=As y1;have LA:Below W0.heap.size W0 (W0.alloc (.cells #[] 3)):=(Below.refl _ _).alloc (Nat.le_refl _) _;have x1:=Al W0 #[] 3;have WS:Wrote (fun b _=>b=z) (W0.alloc (.cells #[] 3)) (((W0.alloc (.cells #[] 3)).setCell ⟨z,19,none⟩ (.slice (some ⟨W0.heap.size,0,none⟩) 0 0)).setCell ⟨z,17,none⟩ (.bool true)):=Wrote.setCell (R:=fun b _=>b=z) (Wrote.setCell (R:=fun b _=>b=z) (Wrote.refl _ _) (fun _=>rfl) _) (fun _=>rfl) _
  have T0:TBL w (((W0.alloc (.cells #[] 3)).setCell ⟨z,19,none⟩ (.slice (some ⟨W0.heap.size,0,none⟩) 0 0)).setCell ⟨z,17,none⟩ (.bool true)) lo z xs o1 o2 (.slice pa n px) (.slice qa m qx) (.slice qa m qx) t c s ad pl true n f 0 g m g:=by
   refine ⟨some W0.heap.size,_,o2,Af (Af y1 _) _,(U1.below LA).keep WS (fun q e _ _ _ e'=>HL.out.2.2.2 q (Or.inl e) e'),⟨0,rfl,Row.empty g (Ah x1 WS (fun o e=>by omega)) (by omega)⟩,(U2.below LA).keep WS (fun q e _ _ _ e'=>HL.out.2.2.2 q (Or.inr e) e'),fun q e1 e2=>?_,HL.out.2.2.1,fun q e1 e2=>?_,fun q e=>?_,(WB.alloc _).trans (WS.mono (fun b o _ e=>Or.inl e)),fun q e=>?_,fun b o hb h=>?_⟩
   ·obtain rfl:=Option.some.inj e2
    have:=HL.out.1 _ e1
    omega
   ·obtain rfl:=Option.some.inj e1
    have:=HL.out.2.1 _ e2
    omega
   ·rcases e with e | e | e
    ·exact HL.out.2.2.2 q (Or.inl e)
    ·obtain rfl:=Option.some.inj e
     omega
    ·exact HL.out.2.2.2 q (Or.inr e)
   ·rcases e with e | e
    ·obtain rfl:=Option.some.inj e
     exact Or.inr (by omega)
    ·exact Or.inl e
   ·obtain ⟨n1,c1,e,-⟩:=h
    simp only [Value.slice.injEq,Option.some.injEq,Addr.mk.injEq,and_true] at e
    omega
  have HTB:=Ad T0;rw [hB] at m64;clear T0 hA hB U1 U2 WS x0 x1 y0 y1 LA WB L0 sz
  go_enter Tryz.func143,Tryz.ntmps143
  go_upto_region 2 with (fail);rw [← hW0];clear hW0 c0;go_wp2;obtain ⟨i1,i2,i3,i4,i5,i6⟩:=HE.out;refine bodyPost_ret (v:=.tuple #[.slice qa m qx,.bool (decide (127<c))]) (by simp [results,Tryz.results143,go_sem]) rfl ?_;rw [i1,i2,i3,i4,i5,i6];exact ⟨_,rfl,HTB.out.up (t+1)⟩
 have T1:∀ W,Wrote (fun b _=>b=z) W0 W→∀ b',W.heap[z]?=some (.cells #[xs 0,xs 1,xs 2,xs 3,xs 4,xs 5,xs 6,xs 7,xs 8,xs 9,xs 10,xs 11,.i t,.i c,.i s,.i ad,.i pl,.bool b',.slice pa n px,.slice qa m qx,xs 20,xs 21,xs 22,xs 23,xs 24,xs 25,xs 26,xs 27,xs 28,xs 29,xs 30,xs 31,xs 32,xs 33] 49 (0,0))→TBL w W lo z xs o1 o2 (.slice pa n px) (.slice qa m qx) (.slice (some ⟨w.heap.size,0,none⟩) 0 0) t c s ad pl b' n f m g 0 g:=fun W WS b' hb'=>by
  refine ⟨o2,_,some w.heap.size,hb',U1.keep WS (fun q e _ _ _ e'=>HL.out.2.2.2 q (Or.inl e) e'),U2.keep WS (fun q e _ _ _ e'=>HL.out.2.2.2 q (Or.inr e) e'),⟨0,rfl,Row.empty g (Ah x0 WS (fun o e=>by omega)) hlo⟩,HL.out.2.2.1,fun q e1 e2=>?_,fun q e1 e2=>?_,fun q e=>?_,WB.trans (WS.mono (fun b o _ e=>Or.inl e)),fun q e=>?_,fun b o hb h=>h⟩
  ·obtain rfl:=Option.some.inj e2
   have:=HL.out.1 _ e1
   omega
  ·obtain rfl:=Option.some.inj e2
   have:=HL.out.2.1 _ e1
   omega
  ·rcases e with e | e | e
   ·exact HL.out.2.2.2 q (Or.inl e)
   ·exact HL.out.2.2.2 q (Or.inr e)
   ·obtain rfl:=Option.some.inj e
    omega
  ·rcases e with e | e
   ·exact Or.inl e
   ·obtain rfl:=Option.some.inj e
    exact Or.inr (Nat.le_refl _)
 have HY:=Ad y0;have HT1:=Ad T1;clear T1 U1 U2 x0 WB L0 sz y0
 by_cases hC:t%64=63
 ·have HE:Hid (Ga t=t+1∧Ho t bl=false∧tkM t m=m∧Kz t f s pl m g=g∧Ki t m=0∧Py t c=false):=⟨if_neg HT.out,(if_neg HT.out).trans ((if_neg hB).trans (if_pos hC)),(if_neg HT.out).trans ((if_neg hA).trans (if_neg hB)),(if_neg HT.out).trans (if_neg hA),(if_neg HT.out).trans (if_neg hB),(if_neg HT.out).trans (if_neg hB)⟩
  rw [hC] at m64;clear hA hB hC
  go_enter Tryz.func143,Tryz.ntmps143
  go_upto_region 2 with (fail);rw [← hW0];clear hW0 c0;go_wp2;obtain ⟨i1,i2,i3,i4,i5,i6⟩:=HE.out;refine bodyPost_ret (v:=.tuple #[.slice (some ⟨w.heap.size,0,none⟩) 0 0,.bool false]) (by simp [results,Tryz.results143,go_sem]) rfl ?_;rw [i1,i2,i3,i4,i5,i6];exact ⟨_,rfl,(HT1.out _ (Wrote.setCell (R:=fun b _=>b=z) (Wrote.refl _ _) (fun _=>rfl) _) false (Af HY.out _)).up (t+1)⟩
 ·have HE:Hid (Ga t=t+1∧Ho t bl=bl∧tkM t m=m∧Kz t f s pl m g=g∧Ki t m=0∧Py t c=false):=⟨if_neg HT.out,(if_neg HT.out).trans ((if_neg hB).trans (if_neg hC)),(if_neg HT.out).trans ((if_neg hA).trans (if_neg hB)),(if_neg HT.out).trans (if_neg hA),(if_neg HT.out).trans (if_neg hB),(if_neg HT.out).trans (if_neg hB)⟩
  have b1:decide (t%64<48)=false:=by simpa using hA
  have b2:(t%64==48)=false:=by simpa using hB
  have b3:(t%64==63)=false:=by simpa using hC
  clear hB hC
  go_enter Tryz.func143,Tryz.ntmps143
  go_upto_region 2 with (fail);rw [← hW0];clear hW0 c0;go_wp2;obtain ⟨i1,i2,i3,i4,i5,i6⟩:=HE.out;refine bodyPost_ret (v:=.tuple #[.slice (some ⟨w.heap.size,0,none⟩) 0 0,.bool false]) (by simp [results,Tryz.results143,go_sem]) rfl ?_;rw [i1,i2,i3,i4,i5,i6];exact ⟨_,rfl,(HT1.out _ (Wrote.refl _ _) bl HY.out).up (t+1)⟩
end Go.Proofs.YtgcmimcalmjaaaaGreatDoor
