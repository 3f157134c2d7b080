import Derived.Test.YtijljlnooibbmaaGreatDoorWE
namespace Go.Proofs.YtijljlnooibbmaaGreatDoor
set_option maxHeartbeats 8000000
set_option maxRecDepth 20000
open Go.Proofs.Tryz
set_option linter.unusedVariables false
set_option linter.unusedSimpArgs false
open Go.ChangeShapes Go.WideShapes Go.ChangeAt Go.RowKit
theorem Yh:(prog.info? 49).map (·.size)=some 2:=by kernel_rfl
theorem Cj.below {W W':World} {lo z:Nat} {d:Aq} {u4 u5 u6 u7:Value} (H:Cj W lo z d u4 u5 u6 u7) (L:Below W.heap.size W W'):Cj W' lo z d u4 u5 u6 u7:=by
 obtain ⟨D,u0,u1,u2,u3,ob,iv,ov,o6,o7,HQ,hz,B0⟩:=H.ex;exact ⟨D,u0,u1,u2,u3,ob,iv,ov,o6,o7,(HQ.below L).upTo L.size (Nat.le_refl _),hz,Ab B0 L (Ad B0)⟩
theorem Cj.top {W:World} {lo z:Nat} {d:Aq} {u4 u5 u6 u7:Value} (H:Cj W lo z d u4 u5 u6 u7) {b o:Nat} (h:RL z u4 u5 u6 u7 b o):b<W.heap.size:=by
 obtain ⟨D,u0,u1,u2,u3,ob,iv,ov,o6,o7,HQ,hz,B0⟩:=H.ex
 rcases h with h | h | h | h | h
 .have:=Ad B0; omega
 .exact (HQ.bd 3 b (HQ.h3.spare4 h)).2
 .obtain ⟨n,c,rfl,-⟩:=h
  exact (HQ.bd 4 b (HQ.h5D b (Or.inl rfl))).2
 .exact (HQ.bd 5 b (HQ.h6D b (Ew HQ.h6 h))).2
 .exact (HQ.bd 6 b (HQ.h7D b (Ew HQ.h7 h))).2
theorem Bz.trans {w V W:World} {lo z:Nat} {u4 u5 u6 u7 b4 b5 b6 b7:Value} {d:Aq} (h:Goes w V z u4 u5 u6 u7 b4 b5 b6 b7) (k:Bz V W lo z b4 b5 b6 b7 d):Bz w W lo z u4 u5 u6 u7 d:=by
 obtain ⟨c4,c5,c6,c7,H,G⟩:=k.ex;exact ⟨c4,c5,c6,c7,H,h.trans G⟩
theorem Je2 (w:World) (lo z:Nat) (d:Aq) (s4 s5 s6 s7:Value) (H:Cj w lo z d s4 s5 s6 s7) (hlo:lo<=z) (hL:OkL d) (hT:Da w) (hv:0<lo) (hnq:d.nq<1048576):Calls prog 86 #[(pt z 0)] w fun e w'=>e=.returned (.i (cycT (opO d)))/\Bz w w' lo z s4 s5 s6 s7 (opD d (opO d) (opA d)):=by
 have HH:=Ac H;obtain ⟨D,s0,s1,s2,s3,ob,iv,ov,o6,o7,HQ,hz,B0⟩:=H.ex;clear H;obtain ⟨q5,hq5,K⟩:=HQ.h2.ints;simp only [Value.agg.injEq,Array.mk.injEq,List.cons.injEq,and_true] at hq5;subst hq5
 obtain ⟨FI,HI⟩:∃ F,Bg .i64 w F s0 d.m d.ln d.f:=⟨_,HQ.h0.ints⟩
 obtain ⟨FK,K⟩:∃ G,Ints .i64 w G s2 d.nr d.g:=⟨_,K⟩
 have hzl:=Ad B0
 obtain ⟨op,hop⟩:∃ x,Hid (x=opO d):=⟨_,rfl⟩
 obtain ⟨arg,harg⟩:∃ x,Hid (x=opA d):=⟨_,rfl⟩
 have HFe:Hid (∀ W,Bg .i64 W FI s0 d.m d.ln d.f->Ints .i64 W FK s2 d.nr d.g->Da W->CB 12 #[.agg #[s0],.agg #[s2,.i d.bank],.i d.Pc] W (.agg #[.i op,.i arg])):=fun W h1 h2 ot=>by
  rw [hop.out,harg.out];exact Qu W _ _ s0 s2 d.m d.ln d.f d.nr d.g d.bank d.Pc h1 h2 ot
 rw [<- hop.out,<- harg.out]
 obtain ⟨at',hat⟩:∃ x,Hid (x=Gv op arg d.X):=⟨_,rfl⟩
 obtain ⟨put,hput⟩:∃ x,Hid (x=N1 op d.A):=⟨_,rfl⟩
 obtain ⟨kd,hkd⟩:∃ x,Hid (x=Ch op):=⟨_,rfl⟩
 have HAc:=Ac (fun W ot=>Xa W op arg d.A d.X d.S d.Pc d.Z d.N d.C d.I ot);rw [<- hat.out,<- hput.out,<- hkd.out] at HAc
 obtain ⟨bs,hbs⟩:∃ x,Hid (x=(kR d s0 s1 s2 s3 s4 s5 s6 s7)):=⟨_,rfl⟩
 rw [<- hbs.out] at B0
 have hsbs:Hid (bs.size=34):=by show _=_; rw [hbs.out]; rfl
 have b0:bs[0]?=some (s0):=by rw [hbs.out]; rfl
 have b2:bs[2]?=some (s2):=by rw [hbs.out]; rfl
 have b3:bs[3]?=some (.i d.bank):=by rw [hbs.out]; rfl
 have b4:bs[4]?=some (.i d.A):=by rw [hbs.out]; rfl
 have b5:bs[5]?=some (.i d.X):=by rw [hbs.out]; rfl
 have b6:bs[6]?=some (.i d.S):=by rw [hbs.out]; rfl
 have b7:bs[7]?=some (.i d.Pc):=by rw [hbs.out]; rfl
 have b8:bs[8]?=some (.bool d.Z):=by rw [hbs.out]; rfl
 have b9:bs[9]?=some (.bool d.N):=by rw [hbs.out]; rfl
 have b10:bs[10]?=some (.bool d.C):=by rw [hbs.out]; rfl
 have b11:bs[11]?=some (.bool d.I):=by rw [hbs.out]; rfl
 go_enter func86,ntmps86
 go_upto_region 1 with (fail);rename_i K1 hK1
 refine Cd [some 8,some 9,some 10,some 11,some 12,some 13,some 14,some 15,some 16,some 17,some 18,some 19,some 20,some 21,some 3,none] (by kernel_rfl) (by kernel_rfl) (by kernel_rfl) (by kernel_rfl) (by first | (simp [slotsOf]; done) | (simp [slotsOf,Act.put]; done)) [(14,15)]
  (fun j b _=>(j=15/\w.heap.size<=b))
  (fun i V W=>match i with
   | 0=>V 0=(pt z 0)
   | 1=>V 1=(pt z 0)
   | 2=>V 2=(pt z 0)
   | 3=>V 3=.agg #[s0]
   | 4=>V 4=(pt z 0)
   | 5=>V 5=(pt z 0)
   | 6=>V 6=(pt z 2)
   | 7=>V 7=.agg #[s2,.i d.bank]
   | 8=>V 8=(pt z 0)
   | 9=>V 9=(pt z 0)
   | 10=>V 10=(pt z 4)
   | 11=>V 11=(pt z 7)
   | 12=>V 12=.i d.Pc
   | 13=>V 13=.agg #[.i op,.i arg]
   | 14=>∃ p,V 14=(pt p 0)/\W.heap[p]?=some (.cells #[.i 0,.i 0] 49 (0,0))/\w.heap.size<=p
   | _=>∃ p,V 14=(pt p 0)/\W.heap[p]?=some (.cells #[.i op,.i arg] 49 (0,0))/\w.heap.size<=p) ?_ ?_ ?_
 .intro i j o V x W W' hij ho hnd hW h
  rcases i with _|_|_|_|_|_|_|_|_|_|_|_|_|_|_|_|i
  all_goals try exact (Ar V x hij).trans h
  .obtain ⟨q,h1,h2,h3⟩:=h
   exact ⟨q,(Ar V x hij).trans h1,Ag h2 hW (fun o e=>by simp at hnd; omega),h3⟩
  .obtain ⟨q,h1,h2,h3⟩:=h
   exact ⟨q,(by rw [Ar V x (fun e=>by subst e; simp only [Sg,Sh,Si,Option.some.injEq] at ho; subst ho; cases hnd.1.symm.trans (show A0 _ 14=true by kernel_rfl))]; exact h1),Ag h2 hW (fun o e=>by omega),h3⟩
  all_goals simp at ho
 .intro i o a' W K8 ho F L hw hK
  match i with
  | 0 =>
   cases ho;have t0:=F.get (t:=0) (v:=(pt z 0)) (by decide) rfl;go_simp;exact Hk hK (Ai _ _ _)
  | 1 =>
   cases ho;have q0:tv a' 8=_:=Hq hw 0;go_simp;exact Hk hK (Ai _ _ _)
  | 2 =>
   cases ho;have q1:tv a' 9=_:=Hq hw 1;go_simp;exact Hk hK (Ai _ _ _)
  | 3 =>
   cases ho;have q2:tv a' 10=_:=Hq hw 2;have rB:=Ag B0 L Ht;have rb:=Af rB;go_simp;exact Hk hK (Ai _ _ _)
  | 4 =>
   cases ho;have t0:=F.get (t:=0) (v:=(pt z 0)) (by decide) rfl;go_simp;exact Hk hK (Ai _ _ _)
  | 5 =>
   cases ho;have q4:tv a' 12=_:=Hq hw 4;go_simp;exact Hk hK (Ai _ _ _)
  | 6 =>
   cases ho;have q5:tv a' 13=_:=Hq hw 5;go_simp;exact Hk hK (Ai _ _ _)
  | 7 =>
   cases ho;have q6:tv a' 14=_:=Hq hw 6;have rB:=Ag B0 L Ht;have rb:=Af rB;go_simp;exact Hk hK (Ai _ _ _)
  | 8 =>
   cases ho;have t0:=F.get (t:=0) (v:=(pt z 0)) (by decide) rfl;go_simp;exact Hk hK (Ai _ _ _)
  | 9 =>
   cases ho;have q8:tv a' 16=_:=Hq hw 8;go_simp;exact Hk hK (Ai _ _ _)
  | 10 =>
   cases ho;have q9:tv a' 17=_:=Hq hw 9;go_simp;exact Hk hK (Ai _ _ _)
  | 11 =>
   cases ho;have q10:tv a' 18=_:=Hq hw 10;go_simp;exact Hk hK (Ai _ _ _)
  | 12 =>
   cases ho;have q11:tv a' 19=_:=Hq hw 11;have rB:=Ag B0 L Ht;have rb:=Af rB;go_simp;exact Hk hK (Ai _ _ _)
  | 13 =>
   cases ho;have q3:tv a' 11=_:=Hq hw 3;have q7:tv a' 15=_:=Hq hw 7;have q12:tv a' 20=_:=Hq hw 12;have LN:=L.mono (S:=Aj) (fun b o hb ⟨j,oj,hj,hoj,hwj,e⟩=>by omega);go_simp;refine (HFe.out W (HI.keep LN (fun _ _ _ x=>x)) (K.keep LN (fun _ _ _ x=>x)) (hT.lo hv (LN.below (by omega) (fun _ _ _ x=>x)))).mono ?_;rintro e W' ⟨rfl,LX⟩;exact hK _ _ (Aa LX _) (Ai _ _ _)
  | 14 =>
   cases ho;go_simp;exact hK _ _ ((Wrote.refl _ W).alloc _) ⟨_,Ai _ _ _,Ak W _ _,L.size⟩
  | 15 =>
   cases ho;have q14:=Hq hw 14;have q13:tv a' 21=_:=Hq hw 13;obtain ⟨p,h1,rB,h3⟩:=q14;replace h1:a'.tmps[3]?.getD undef=(pt p 0):=h1;refine wp_store_row _ _ _ rfl p #[.i op,.i arg] (by simpa [Act.eval] using h1) (by simpa [Act.eval] using q13) _ _ rB Yh rfl (by first | kernel_rfl | simp [Value.oneCell']) ?_;exact hK undef _ ((Bq rB _).mono (fun b o _ (h:b=p)=>⟨rfl,by omega⟩)) ⟨p,(by rw [Ar _ _ (by decide)]; exact h1),setRow_heap _ _ _ _ _ _ rB,h3⟩
  | _+16=>simp at ho
 .intro a' W F L hφ
  have p8:a'.tmps[8]?.getD undef=_:=Hf hφ 0;have p9:a'.tmps[9]?.getD undef=_:=Hf hφ 1;have p10:a'.tmps[10]?.getD undef=_:=Hf hφ 2;have p11:a'.tmps[11]?.getD undef=_:=Hf hφ 3;have p12:a'.tmps[12]?.getD undef=_:=Hf hφ 4;have p13:a'.tmps[13]?.getD undef=_:=Hf hφ 5;have p14:a'.tmps[14]?.getD undef=_:=Hf hφ 6;have p15:a'.tmps[15]?.getD undef=_:=Hf hφ 7;have p16:a'.tmps[16]?.getD undef=_:=Hf hφ 8;have p17:a'.tmps[17]?.getD undef=_:=Hf hφ 9;have p18:a'.tmps[18]?.getD undef=_:=Hf hφ 10;have p19:a'.tmps[19]?.getD undef=_:=Hf hφ 11;have p20:a'.tmps[20]?.getD undef=_:=Hf hφ 12;have p21:a'.tmps[21]?.getD undef=_:=Hf hφ 13;have e15:=Hf hφ 15
  rw [F.same,show slotsOf [some 8,some 9,some 10,some 11,some 12,some 13,some 14,some 15,some 16,some 17,some 18,some 19,some 20,some 21,some 3,none]=[8,9,10,11,12,13,14,15,16,17,18,19,20,21,3] from rfl];simp only [List.foldl_cons,List.foldl_nil];obtain ⟨p,e1,kp,hp⟩:=e15;replace e1:a'.tmps[3]?.getD undef=(pt p 0):=e1;have k1:=Ag B0 L (fun o ⟨j,e⟩=>by omega);have C1:=L.below (Nat.le_refl _) (fun b' o hb ⟨j,e⟩=>by omega);rw [p8,p9,p10,p11,p12,p13,p14,p15,p16,p17,p18,p19,p20,p21,e1];clear hφ F L e1 p8 p9 p10 p11 p12 p13 p14 p15 p16 p17 p18 p19 p20 p21;refine hK1 _ _ ?_;clear hK1;go_simp;have hT1:=hT.lo hv (C1.mono (by omega));generalize W=V1 at *;go_upto_region 3 with (fail);rename_i K3 hK3
  refine Cd [some 23,some 24,some 25,some 26,some 27,some 28,some 22,some 29,some 30,some 31,some 5,some 6,some 7] (by kernel_rfl) (by kernel_rfl) (by kernel_rfl) (by kernel_rfl) (by first | (simp [slotsOf]; done) | (simp [slotsOf,Act.put]; done)) []
   (fun j b _=>False)
   (fun i V W=>match i with
    | 0=>V 0=.agg #[.i op,.i arg]
    | 1=>V 1=(pt z 0)
    | 2=>V 2=(pt z 0)
    | 3=>V 3=(pt z 4)
    | 4=>V 4=.agg (cR d.A d.X d.S d.Pc d.Z d.N d.C d.I)
    | 5=>V 5=.tuple #[.i kd,.i at',.i put]
    | 6=>V 6=.tuple #[.i kd,.i at',.i put]
    | 7=>V 7=.i kd
    | 8=>V 8=.i at'
    | 9=>V 9=.i put
    | 10=>V 10=.i kd
    | 11=>V 11=.i at'
    | _=>V 12=.i put) ?_ ?_ ?_
  .intro i j o V x W W' hij ho hnd hW h
   rcases i with _|_|_|_|_|_|_|_|_|_|_|_|_|i
   all_goals try exact (Ar V x hij).trans h
   all_goals simp at ho
  .intro i o a' W K8 ho F L hw hK
   match i with
   | 0 =>
    cases ho;have t3:=F.get (t:=3) (v:=(pt p 0)) (by decide) rfl;have rB:=Ag kp L (fun o ⟨j,oj,hj,hoj,hwj,e⟩=>by exact e);have rb:=Af rB;go_simp;exact Hk hK (Ai _ _ _)
   | 1 =>
    cases ho;have t0:=F.get (t:=0) (v:=(pt z 0)) (by decide) rfl;go_simp;exact Hk hK (Ai _ _ _)
   | 2 =>
    cases ho;have q1:tv a' 24=_:=Hq hw 1;go_simp;exact Hk hK (Ai _ _ _)
   | 3 =>
    cases ho;have q2:tv a' 25=_:=Hq hw 2;go_simp;exact Hk hK (Ai _ _ _)
   | 4 =>
    cases ho;have q3:tv a' 26=_:=Hq hw 3;have rB:=Ag k1 L (fun o ⟨j,oj,hj,hoj,hwj,e⟩=>by exact e);have rb:=Af rB;go_simp;exact Hk hK (Ai _ _ _)
   | 5 =>
    cases ho;have q0:tv a' 23=_:=Hq hw 0;have q4:tv a' 27=_:=Hq hw 4;have LN:=L.mono (S:=Aj) (fun b o hb ⟨j,oj,hj,hoj,hwj,e⟩=>e);go_simp;refine (HAc.out W (hT1.lo hv (LN.below (by have:=C1.size; omega) (fun _ _ _ x=>x)))).mono ?_;rintro e W' ⟨rfl,LX⟩;exact hK _ _ (Aa LX _) (Ai _ _ _)
   | 6 =>
    cases ho;have q5:tv a' 28=_:=Hq hw 5;go_simp;exact Hk hK (Ai _ _ _)
   | 7 =>
    cases ho;have q6:tv a' 22=_:=Hq hw 6;go_simp;exact Hk hK (Ai _ _ _)
   | 8 =>
    cases ho;have q6:tv a' 22=_:=Hq hw 6;go_simp;exact Hk hK (Ai _ _ _)
   | 9 =>
    cases ho;have q6:tv a' 22=_:=Hq hw 6;go_simp;exact Hk hK (Ai _ _ _)
   | 10 =>
    cases ho;have q7:tv a' 29=_:=Hq hw 7;go_simp;exact Hk hK (Ai _ _ _)
   | 11 =>
    cases ho;have q8:tv a' 30=_:=Hq hw 8;go_simp;exact Hk hK (Ai _ _ _)
   | 12 =>
    cases ho;have q9:tv a' 31=_:=Hq hw 9;go_simp;exact Hk hK (Ai _ _ _)
   | _+13=>simp at ho
  .intro a' W F L hφ
   have p23:a'.tmps[23]?.getD undef=_:=Hf hφ 0;have p24:a'.tmps[24]?.getD undef=_:=Hf hφ 1;have p25:a'.tmps[25]?.getD undef=_:=Hf hφ 2;have p26:a'.tmps[26]?.getD undef=_:=Hf hφ 3;have p27:a'.tmps[27]?.getD undef=_:=Hf hφ 4;have p28:a'.tmps[28]?.getD undef=_:=Hf hφ 5;have p22:a'.tmps[22]?.getD undef=_:=Hf hφ 6;have p29:a'.tmps[29]?.getD undef=_:=Hf hφ 7;have p30:a'.tmps[30]?.getD undef=_:=Hf hφ 8;have p31:a'.tmps[31]?.getD undef=_:=Hf hφ 9;have p5:a'.tmps[5]?.getD undef=_:=Hf hφ 10;have p6:a'.tmps[6]?.getD undef=_:=Hf hφ 11;have p7:a'.tmps[7]?.getD undef=_:=Hf hφ 12;rw [F.same,show slotsOf [some 23,some 24,some 25,some 26,some 27,some 28,some 22,some 29,some 30,some 31,some 5,some 6,some 7]=[23,24,25,26,27,28,22,29,30,31,5,6,7] from rfl];simp only [List.foldl_cons,List.foldl_nil]
   have C2:=L.below (Nat.le_refl _) (fun b' o hb ⟨j,e⟩=>e);rw [p23,p24,p25,p26,p27,p28,p22,p29,p30,p31,p5,p6,p7];clear hφ F L p23 p24 p25 p26 p27 p28 p22 p29 p30 p31 p5 p6 p7;refine hK3 _ _ ?_;clear hK3;go_simp;have C12:=C1.trans (C2.mono C1.size);have H2:=Ac (HH.out.below C12);have kp2:=Ag kp (Aa C2 Aj) (fun _ x=>x);have hT2:=Ac (hT1.lo hv (C2.mono (by have:=C1.size; omega)));have HTOP:=Ac (fun (b o:Nat) (h:RL z s4 s5 s6 s7 b o)=>HH.out.top h);have G2:=Ac (Goes.below C12 z s4 s5 s6 s7);clear C1 C2 C12 kp k1 hT1 B0 HI K HFe HAc b0 b2 b3 b4 b5 b6 b7 b8 b9 b10 b11 hbs hsbs HQ;generalize W=V2 at *
   obtain ⟨x,hx⟩:∃ y,Hid (y=Hh d op arg):=⟨_,rfl⟩
   go_upto_block 0 with (fail)
   go_cut [4] (fun s wc=>s=.i x/\Bz V2 wc lo z s4 s5 s6 s7 (Cq d op arg))
   case first =>
    by_cases k1:kd=1
    .have e:Ch op=1:=by rw [<- hkd.out]; exact k1
     have HR:Hid (Cq d op arg=Cl d at'/\x=Dx d at'):=by
      show _/\_
      rw [hx.out];unfold Cq Hh;rw [if_pos e,if_pos e,hat.out];exact ⟨rfl,rfl⟩
     subst k1;clear hkd;go_wp2_with fail;refine (Jba _ lo z d at' s4 s5 s6 s7 H2.out hlo hL.ok hnq).mono ?_;rintro e W5 ⟨rfl,T5⟩;go_wp2
     go_meet
     rw [HR.out.1,HR.out.2];exact ⟨rfl,T5⟩
    .by_cases k2:kd=2
     .have e:Ch op=2:=by rw [<- hkd.out]; exact k2
      have HR:Hid (Cq d op arg=Br d at' put/\x=0):=by
       show _/\_
       rw [hx.out];unfold Cq Hh;rw [if_neg (by rw [e]; decide),if_pos e,if_neg (by rw [e]; decide),hat.out,hput.out];exact ⟨rfl,rfl⟩
      subst k2;clear hkd k1;go_wp2_with fail;refine (Ye _ lo z d at' put s4 s5 s6 s7 H2.out hlo hL.ok).mono ?_;rintro e W5 ⟨rfl,T5⟩;go_wp2
      go_meet
      rw [HR.out.1,HR.out.2];exact ⟨rfl,T5⟩
     .have e1:¬ Ch op=1:=by rw [<- hkd.out]; exact k1
      have e2:¬ Ch op=2:=by rw [<- hkd.out]; exact k2
      have HR:Hid (Cq d op arg=d/\x=0):=by
       show _/\_
       rw [hx.out];unfold Cq Hh;rw [if_neg e1,if_neg e2,if_neg e1];exact ⟨rfl,rfl⟩
      have q1:(kd==1)=false:=beq_eq_false_iff_ne.2 k1;have q2:(kd==2)=false:=beq_eq_false_iff_ne.2 k2;go_wp2
      go_meet
      rw [HR.out.1,HR.out.2];exact ⟨rfl,_,_,_,_,H2.out,Goes.refl _ _ _ _ _ _⟩
   case rest =>
    obtain ⟨rfl,T5⟩:=hcut
    obtain ⟨W5,hW5⟩:∃ x,x=wc:=⟨_,rfl⟩
    subst hW5;obtain ⟨b4,b5,b6,b7,H5,G5⟩:=T5.ex;have kp5:=Ag kp2 G5.wr (fun o h=>by have:=HTOP.out _ o h; omega);have hT5:=Ac (hT2.out.lo hv (H2.out.goes hlo G5));replace H5:=Ac H5;replace G5:=Ac G5
    obtain ⟨d1,hd1⟩:∃ x,Hid (x=Cq d op arg):=⟨_,rfl⟩
    have hr5:Hid ((∀ j,j<512->0<=d1.g j/\d1.g j<=255)/\(0<=(Dy d1).Pc/\(Dy d1).Pc<=65535)/\d1.nr=512):=by
     obtain ⟨r1,r2,r3,r4,r5,r6⟩:=Jk d op arg hL.row
     show _/\_/\_
     rw [hd1.out,r5,r3];exact ⟨r4,hL.cpu.2.2.2,hL.nr⟩
    rw [<- hd1.out] at H5
    have HG:Hid (opD d op arg=putCpu d1 (Ev d1.g (Dy d1) op) (Ee d1.g (Dy d1) op arg (Hh d op arg))):=by show _=_; rw [hd1.out]; rfl
    clear T5 kp2 hT2 H2 hd1;rw [<- hx.out] at HG;clear hx;obtain ⟨D5,v0,v1,v2,v3,ob5,iv5,ov5,o65,o75,HQ5,hz5,k5⟩:=H5.out.ex;obtain ⟨y5,hy5,K5⟩:=HQ5.h2.ints;simp only [Value.agg.injEq,Array.mk.injEq,List.cons.injEq,and_true] at hy5;subst hy5;rw [hr5.out.2.2] at K5
    obtain ⟨F5,K5⟩:∃ G,Ints .i64 W5 G v2 512 d1.g:=⟨_,K5⟩
    clear HQ5 hz5;have hz5l:=Ad k5
    obtain ⟨ce,hce⟩:∃ y,Hid (y=Ee d1.g (Dy d1) op arg x):=⟨_,rfl⟩
    obtain ⟨gE,hgE⟩:∃ y,Hid (y=Ev d1.g (Dy d1) op):=⟨_,rfl⟩
    have HEx0:=Ac (fun W (ot:Da W) (kk:Ints .i64 W F5 v2 512 d1.g)=>Jc9 W ot _ v2 d1.g d1.bank kk (Jdc hr5.out.1) (Dy d1) hr5.out.2.1 op arg x);rw [<- hce.out,<- hgE.out] at HEx0;have HEx:Hid (∀ W,Da W->Ints .i64 W F5 v2 512 d1.g->Calls prog 118 #[.agg #[v2,.i d1.bank],.agg (cR d1.A d1.X d1.S d1.Pc d1.Z d1.N d1.C d1.I),.agg #[.i op,.i arg],.i x] W fun e w'=>∃ q,e=.returned (.tuple #[.agg #[q,.i d1.bank],.agg (cR ce.A ce.X ce.S ce.Pc ce.Z ce.N ce.C ce.I)])/\Ao w' W.heap.size q 512 gE/\Below W.heap.size W w'):=HEx0;clear HEx0
    obtain ⟨cs5,hcs5⟩:∃ x,Hid (x=(kR d1 v0 v1 v2 v3 b4 b5 b6 b7)):=⟨_,rfl⟩
    rw [<- hcs5.out] at k5
    have hscs5:Hid (cs5.size=34):=by show _=_; rw [hcs5.out]; rfl
    have f0:cs5[0]?=some (v0):=by rw [hcs5.out]; rfl
    have f2:cs5[2]?=some (v2):=by rw [hcs5.out]; rfl
    have f3:cs5[3]?=some (.i d1.bank):=by rw [hcs5.out]; rfl
    have f4:cs5[4]?=some (.i d1.A):=by rw [hcs5.out]; rfl
    have f5:cs5[5]?=some (.i d1.X):=by rw [hcs5.out]; rfl
    have f6:cs5[6]?=some (.i d1.S):=by rw [hcs5.out]; rfl
    have f7:cs5[7]?=some (.i d1.Pc):=by rw [hcs5.out]; rfl
    have f8:cs5[8]?=some (.bool d1.Z):=by rw [hcs5.out]; rfl
    have f9:cs5[9]?=some (.bool d1.N):=by rw [hcs5.out]; rfl
    have f10:cs5[10]?=some (.bool d1.C):=by rw [hcs5.out]; rfl
    have f11:cs5[11]?=some (.bool d1.I):=by rw [hcs5.out]; rfl
    go_upto_region 9 with (fail)
    refine Cd [some 45,some 46,some 47,some 48,some 49,some 50,some 51,some 52,some 53,some 54,some 55,some 56,some 57,some 44,some 58,some 59,some 60,some 61,none,some 62,some 63,none] (by kernel_rfl) (by kernel_rfl) (by kernel_rfl) (by kernel_rfl) (by first | (simp [slotsOf]; done) | (simp [slotsOf,Act.put]; done)) [(18,21)]
     (fun j b _=>(j=18/\b=z)\/(j=21/\b=z))
     (fun i V W=>match i with
      | 0=>V 0=(pt z 0)
      | 1=>V 1=(pt z 0)
      | 2=>V 2=(pt z 0)
      | 3=>V 3=(pt z 0)
      | 4=>V 4=(pt z 2)
      | 5=>V 5=.agg #[v2,.i d1.bank]
      | 6=>V 6=(pt z 0)
      | 7=>V 7=(pt z 0)
      | 8=>V 8=(pt z 4)
      | 9=>V 9=.agg (cR d1.A d1.X d1.S d1.Pc d1.Z d1.N d1.C d1.I)
      | 10=>V 10=.agg #[.i op,.i arg]
      | 11=>V 11=.i x
      | 12=>∃ q,V 12=.tuple #[.agg #[q,.i d1.bank],.agg (cR ce.A ce.X ce.S ce.Pc ce.Z ce.N ce.C ce.I)]/\Ao W W5.heap.size q 512 gE
      | 13=>∃ q,V 13=.tuple #[.agg #[q,.i d1.bank],.agg (cR ce.A ce.X ce.S ce.Pc ce.Z ce.N ce.C ce.I)]/\Ao W W5.heap.size q 512 gE
      | 14=>∃ q,V 14=.agg #[q,.i d1.bank]/\Ao W W5.heap.size q 512 gE
      | 15=>V 15=.agg (cR ce.A ce.X ce.S ce.Pc ce.Z ce.N ce.C ce.I)
      | 16=>V 16=(pt z 0)
      | 17=>V 17=(pt z 2)
      | 18=>∃ q,W.heap[z]?=some (.cells (putAt cs5 2 #[q,.i d1.bank]) 41 (0,0))/\Ao W W5.heap.size q 512 gE
      | 19=>V 19=(pt z 0)
      | 20=>V 20=(pt z 4)
      | _=>∃ q,W.heap[z]?=some (.cells (putAt (putAt cs5 2 #[q,.i d1.bank]) 4 (cR ce.A ce.X ce.S ce.Pc ce.Z ce.N ce.C ce.I)) 41 (0,0))/\Ao W W5.heap.size q 512 gE) ?_ ?_ ?_
    .intro i j o V x W W' hij ho hnd hW h
     rcases i with _|_|_|_|_|_|_|_|_|_|_|_|_|_|_|_|_|_|_|_|_|_|i
     all_goals try exact (Ar V x hij).trans h
     .obtain ⟨q,h1,O⟩:=h
      exact ⟨q,(Ar V x hij).trans h1,O.away hW (fun b' o h1 h2 e=>by omega)⟩
     .obtain ⟨q,h1,O⟩:=h
      exact ⟨q,(Ar V x hij).trans h1,O.away hW (fun b' o h1 h2 e=>by omega)⟩
     .obtain ⟨q,h1,O⟩:=h
      exact ⟨q,(Ar V x hij).trans h1,O.away hW (fun b' o h1 h2 e=>by omega)⟩
     .obtain ⟨q,h1,O⟩:=h
      exact ⟨q,Ag h1 hW (fun o e=>by simp at hnd; omega),O.away hW (fun b' o h1 h2 e=>by omega)⟩
     .obtain ⟨q,h1,O⟩:=h
      exact ⟨q,Ag h1 hW (fun o e=>by rcases e with ⟨rfl,e⟩ | ⟨rfl,e⟩ <;> first | omega | (simp only [Sg,Sh,Si,Option.some.injEq] at ho; subst ho; cases hnd.1.symm.trans (show A0 _ 18=true by kernel_rfl))),O.away hW (fun b' o h1 h2 e=>by omega)⟩
     all_goals simp at ho
    .intro i o a' W K8 ho F L hw hK
     match i with
     | 0 =>
      cases ho;have t0:=F.get (t:=0) (v:=(pt z 0)) (by decide) rfl;go_simp;exact Hk hK (Ai _ _ _)
     | 1 =>
      cases ho;have t0:=F.get (t:=0) (v:=(pt z 0)) (by decide) rfl;go_simp;exact Hk hK (Ai _ _ _)
     | 2 =>
      cases ho;have t0:=F.get (t:=0) (v:=(pt z 0)) (by decide) rfl;go_simp;exact Hk hK (Ai _ _ _)
     | 3 =>
      cases ho;have q2:tv a' 47=_:=Hq hw 2;go_simp;exact Hk hK (Ai _ _ _)
     | 4 =>
      cases ho;have q3:tv a' 48=_:=Hq hw 3;go_simp;exact Hk hK (Ai _ _ _)
     | 5 =>
      cases ho;have q4:tv a' 49=_:=Hq hw 4;have rB:=Ag k5 L Hu;have rb:=Af rB;go_simp;exact Hk hK (Ai _ _ _)
     | 6 =>
      cases ho;have t0:=F.get (t:=0) (v:=(pt z 0)) (by decide) rfl;go_simp;exact Hk hK (Ai _ _ _)
     | 7 =>
      cases ho;have q6:tv a' 51=_:=Hq hw 6;go_simp;exact Hk hK (Ai _ _ _)
     | 8 =>
      cases ho;have q7:tv a' 52=_:=Hq hw 7;go_simp;exact Hk hK (Ai _ _ _)
     | 9 =>
      cases ho;have q8:tv a' 53=_:=Hq hw 8;have rB:=Ag k5 L Hu;have rb:=Af rB;go_simp;exact Hk hK (Ai _ _ _)
     | 10 =>
      cases ho;have t3:=F.get (t:=3) (v:=(pt p 0)) (by decide) rfl;have rB:=Ag kp5 L Hu;have rb:=Af rB;go_simp;exact Hk hK (Ai _ _ _)
     | 11 =>
      cases ho;have t4:=F.get (t:=4) (v:=.i x) (by decide) rfl;go_simp;exact Hk hK (Ai _ _ _)
     | 12 =>
      cases ho;have q5:tv a' 50=_:=Hq hw 5;have q9:tv a' 54=_:=Hq hw 9;have q10:tv a' 55=_:=Hq hw 10;have q11:tv a' 56=_:=Hq hw 11;have LN:=L.mono (S:=Aj) (fun b o _ ⟨j,oj,hj,hoj,hwj,e⟩=>by rcases e with ⟨rfl,e⟩ | ⟨rfl,e⟩ <;> first | omega | (cases hwj.symm.trans (show By _ 6 _ 12=true by kernel_rfl)));go_simp;refine (HEx.out W (hT5.out.lo hv (LN.below (by have:=Ad k5; omega) (fun _ _ _ x=>x))) (K5.keep LN (fun _ _ _ x=>x))).mono ?_;rintro e W' ⟨q,rfl,O,LX⟩;exact hK _ _ (Aa LX _) ⟨q,Ai _ _ _,Dz O L.size⟩
     | 13 =>
      cases ho;have q12:=Hq hw 12;obtain ⟨q,h1,O⟩:=q12;replace h1:a'.tmps[57]?.getD undef=.tuple #[.agg #[q,.i d1.bank],.agg (cR ce.A ce.X ce.S ce.Pc ce.Z ce.N ce.C ce.I)]:=h1;go_simp;exact Hk hK ⟨q,Ai _ _ _,O⟩
     | 14 =>
      cases ho;have q13:=Hq hw 13;obtain ⟨q,h1,O⟩:=q13;replace h1:a'.tmps[44]?.getD undef=.tuple #[.agg #[q,.i d1.bank],.agg (cR ce.A ce.X ce.S ce.Pc ce.Z ce.N ce.C ce.I)]:=h1;go_simp;exact Hk hK ⟨q,Ai _ _ _,O⟩
     | 15 =>
      cases ho;have q13:=Hq hw 13;obtain ⟨q,h1,O⟩:=q13;replace h1:a'.tmps[44]?.getD undef=.tuple #[.agg #[q,.i d1.bank],.agg (cR ce.A ce.X ce.S ce.Pc ce.Z ce.N ce.C ce.I)]:=h1;go_simp;exact Hk hK (Ai _ _ _)
     | 16 =>
      cases ho;have q0:tv a' 45=_:=Hq hw 0;go_simp;exact Hk hK (Ai _ _ _)
     | 17 =>
      cases ho;have q16:tv a' 60=_:=Hq hw 16;go_simp;exact Hk hK (Ai _ _ _)
     | 18 =>
      cases ho;have q17:tv a' 61=_:=Hq hw 17;have q14:=Hq hw 14;have rB:=Ag k5 L Hu;obtain ⟨q,h1,O⟩:=q14;replace h1:a'.tmps[58]?.getD undef=.agg #[q,.i d1.bank]:=h1
      obtain ⟨xa,xc,hu⟩:∃ a c,q=.slice a 512 c:=by obtain ⟨a,c,hq,_⟩:=O.ex; exact ⟨a,c,hq⟩
      refine Bb _ _ _ rfl z 2 #[q,.i d1.bank] (by simpa [Act.eval] using q17) (by simpa [Act.eval] using h1) _ _ rB Gn (by rw [hscs5.out]; show (2+2:Nat)<=34; omega) (by subst hu; first | kernel_rfl | simp [Value.oneCell']) ?_;have TT:=Bq rB (putAt cs5 2 #[q,.i d1.bank]);exact hK undef _ (TT.mono (fun b o _ e=>Or.inl ⟨rfl,e⟩)) ⟨q,setRow_heap _ _ _ _ _ _ rB,O.away TT (fun b' o h1 h2 (e:b'=z)=>by omega)⟩
     | 19 =>
      cases ho;have q1:tv a' 46=_:=Hq hw 1;go_simp;exact Hk hK (Ai _ _ _)
     | 20 =>
      cases ho;have q19:tv a' 62=_:=Hq hw 19;go_simp;exact Hk hK (Ai _ _ _)
     | 21 =>
      cases ho;have q20:tv a' 63=_:=Hq hw 20;have q15:tv a' 59=_:=Hq hw 15;obtain ⟨q,rB,O⟩:=Hq hw 18;refine Bb _ _ _ rfl z 4 (cR ce.A ce.X ce.S ce.Pc ce.Z ce.N ce.C ce.I) (by simpa [Act.eval] using q20) (by simpa [Act.eval] using q15) _ _ rB El (by rw [Kd (by rw [hscs5.out]; show (2+2:Nat)<=34; omega),hscs5.out]; show (4+8:Nat)<=34; omega) (by first | kernel_rfl | simp [Value.oneCell']) ?_;have TT:=Bq rB (putAt (putAt cs5 2 #[q,.i d1.bank]) 4 (cR ce.A ce.X ce.S ce.Pc ce.Z ce.N ce.C ce.I));exact hK undef _ (TT.mono (fun b o _ e=>Or.inr ⟨rfl,e⟩)) ⟨q,setRow_heap _ _ _ _ _ _ rB,O.away TT (fun b' o h1 h2 (e:b'=z)=>by omega)⟩
     | _+22=>simp at ho
    .intro a' W F L hφ
     have p45:a'.tmps[45]?.getD undef=_:=Hf hφ 0;have p46:a'.tmps[46]?.getD undef=_:=Hf hφ 1;have p47:a'.tmps[47]?.getD undef=_:=Hf hφ 2;have p48:a'.tmps[48]?.getD undef=_:=Hf hφ 3;have p49:a'.tmps[49]?.getD undef=_:=Hf hφ 4;have p50:a'.tmps[50]?.getD undef=_:=Hf hφ 5;have p51:a'.tmps[51]?.getD undef=_:=Hf hφ 6;have p52:a'.tmps[52]?.getD undef=_:=Hf hφ 7;have p53:a'.tmps[53]?.getD undef=_:=Hf hφ 8;have p54:a'.tmps[54]?.getD undef=_:=Hf hφ 9;have p55:a'.tmps[55]?.getD undef=_:=Hf hφ 10;have p56:a'.tmps[56]?.getD undef=_:=Hf hφ 11;have e12:=Hf hφ 12;have e13:=Hf hφ 13;have e14:=Hf hφ 14;have p59:a'.tmps[59]?.getD undef=_:=Hf hφ 15;have p60:a'.tmps[60]?.getD undef=_:=Hf hφ 16;have p61:a'.tmps[61]?.getD undef=_:=Hf hφ 17;have p62:a'.tmps[62]?.getD undef=_:=Hf hφ 19
     have p63:a'.tmps[63]?.getD undef=_:=Hf hφ 20;have e21:=Hf hφ 21;rw [F.same,show slotsOf [some 45,some 46,some 47,some 48,some 49,some 50,some 51,some 52,some 53,some 54,some 55,some 56,some 57,some 44,some 58,some 59,some 60,some 61,none,some 62,some 63,none]=[45,46,47,48,49,50,51,52,53,54,55,56,57,44,58,59,60,61,62,63] from rfl];simp only [List.foldl_cons,List.foldl_nil];obtain ⟨q,kF,OF⟩:=e21;have LF:=L.mono (S:=fun b _=>b=z) (fun b o _ ⟨j,e⟩=>by omega)
     have PT:=Cj.put (c:=Ee d1.g (Dy d1) op arg x) (g:=Ev d1.g (Dy d1) op) H5.out hlo hr5.out.2.2 (fun D' y0 y1 y2 y3 ob' iv' ov' o6' o7' HQ' B0'=>by
      rw [k5,hcs5.out] at B0';simp only [Option.some.injEq,Obj.cells.injEq,Array.mk.injEq,List.cons.injEq,and_true,true_and] at B0';obtain ⟨rfl,rfl,rfl,rfl⟩:=B0';rw [<- hcs5.out,<- hce.out]
      exact kF) (by rw [<- hgE.out]; exact OF) LF
     have kp9:=Ag kp5 LF (fun o (e:_=_)=>by have:=HTOP.out z 0 (Or.inl rfl); omega);have hT9:=hT5.out.lo hv (LF.below (B:=lo) (by have:=Ad k5; omega) (fun b o hb (e:b=z)=>by omega));have FIN:=Ac (Bz.trans (G2.out.trans G5.out) PT);generalize W=W9 at *;clear kF OF LF PT k5 kp5 hT5 H5;have cp9:=Af kp9;go_simp;go_wp2_with fail;refine (Kp W9 op hT9).mono ?_;rintro e W10 ⟨rfl,L10⟩;go_wp2;go_ret;obtain ⟨c4,c5,c6,c7,HF,GF⟩:=FIN.out.ex;rw [HG.out];exact ⟨rfl,c4,c5,c6,c7,HF.below L10,GF.trans (Goes.below L10 _ _ _ _ _)⟩
end Go.Proofs.YtijljlnooibbmaaGreatDoor
