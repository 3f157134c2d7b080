import Derived.Test.YtijljlnooibbmaaGreatDoorIJ
namespace Go.Proofs.YtijljlnooibbmaaGreatDoor
set_option maxHeartbeats 8000000
set_option maxRecDepth 20000
open Go.Proofs.Tryz
open Go.ChangeShapes Go.WideShapes Go.ChangeAt Go.RowKit
theorem Uf (w:World) (B c:Nat) (a:Option Addr) (len cap:Nat) (H:Ep w B c a len cap) :
    Calls prog 78 #[(pt c 0)] w fun e w'=>(∃ v m ra rc F,e=.returned (.agg #[v])/\1<=m/\m<=3/\Dl w' w.heap.size v m ra (fun _=>256) rc F/\Kr w' v m/\∀ i j,i<m->j<256->0<=F i j/\F i j<=255)/\Ep w' B c a len cap/\Step c w w':=by
  have hcl:=H.lt
  go_enter func78,ntmps78
  go_wp2_with fail;refine (Dk _ B c a len cap ((H.alloc _ hcl).alloc _ (by simp; omega)) 3).mono ?_;rintro e w1 ⟨x,rfl,x0,x1,H1,O1⟩
  obtain ⟨m,hm,hm1,hm3⟩:∃ m:Nat,1+x=m/\1<=m/\m<=3:=⟨(1+x).toNat,by omega,by omega,by omega⟩
  have zz:w1.heap.size=w.heap.size+2:=by rw [O1.size]; simp
  have xR:w1.cell? ⟨w.heap.size,0,none⟩=some (.slice none 0 0):=(O1.cell (by show w.heap.size≠c; omega)).trans (by rw [World.cell?_alloc_lt _ _ ⟨w.heap.size,0,none⟩ (by simp),World.cell?_alloc_at _ _ _ _ rfl]; rfl);have fR:w1.frozen? ⟨w.heap.size,0,none⟩=false:=(O1.frozen (by show w.heap.size≠c; omega)).trans (by go_simp);have xX:w1.cell? ⟨w.heap.size+1,0,none⟩=some (.slice none 0 0):=(O1.cell (by show w.heap.size+1≠c; omega)).trans (by rw [World.cell?_alloc_at _ _ _ _ (by simp)]; rfl);have fX:w1.frozen? ⟨w.heap.size+1,0,none⟩=false:=(O1.frozen (by show w.heap.size+1≠c; omega)).trans (by go_simp);have S1:Step c w w1:=(((Step.refl c w).alloc _).alloc _).trans O1.step;go_wp2_with fail;clear O1 hm;obtain ⟨i2,hi2,hzb1,hzb2,hzb3⟩:=info_parts Kk
  go_loopw [5] (fun i wr=>∃ (q:Nat) (gb cp:Nat->Nat) (F:Nat->Nat->Int) (ov:Value),q<=m/\i=.i q/\Ue w B c a len cap wr q gb cp F ov) (fun i _=>m-(intOf i).toNat)
  case atStart=>exact ⟨0,fun _=>0,fun _=>0,fun _ _=>0,.slice none 0 0,Nat.zero_le _,rfl,⟨⟨fun i hi=>absurd hi (Nat.not_lt_zero _),fun i hi=>absurd hi (Nat.not_lt_zero _),fun i hi=>absurd hi (Nat.not_lt_zero _),fun i j hi=>absurd hi (Nat.not_lt_zero _)⟩,World.ownsRow_nil _ _ _ _,fun g hg i hi=>absurd hi (Nat.not_lt_zero _),xX,fX,xR,fR,hcl,H1,S1,Nat.le_of_eq zz.symm,fun _ _=>⟨Int.le_refl 0,show (0:Int)<=255 by decide⟩⟩⟩
  case round =>
    obtain ⟨q,gb,cp,F,ov,hq,rfl,hG⟩:=hrel;have hX:=hG.cx;have hFz:=hG.fx;have HG:=Ac hG;clear hG xR fR xX fX H1 S1
    by_cases hqm:q<m
    . have hqm':(q:Int)<(m:Int):=by omega
      go_wp2
      go_region_law (first
        | (refine Zr rfl 107 #[(pt c 0)] (by go_simp) ((Wt _ B c a len cap ((Ae HG).cur.drewN 1)).mono ?_)
           rintro e w2 ⟨rfl,⟨g,hR2,hg⟩,H2,S2⟩;obtain ⟨hX2,hF2,hO2,hz2⟩:=(Ae HG).drawn S2
           have hx2:w.heap.size+1<w2.heap.size:=by omega
           have HO2:=Ac hO2;have HR2:=Ac hR2;have HH2:=Ac H2;have HS2:=Ac S2;have Hg:=Ac hg;clear hO2 hR2 H2 S2 hg
           refine ⟨_,rfl,?_⟩)
        | (refine step_append_lies _ rfl (.tmp 19) (.tmp 22) 24 rfl (w.heap.size+2) 27 i2 (.slice none 0 0) 1 24 underlying24 hi2 hzb1 hzb2 hzb3 rfl (by decide) ov q (Pu q gb cp) (by simp [Act.eval]) ((Ae HO2).alloc _) ⟨w2.heap.size,0,none⟩ 1 1 [.slice (some ⟨wr.heap.size,0,none⟩) 256 256] (by simp [Act.eval]) rfl (Re _ #[.slice (some ⟨wr.heap.size,0,none⟩) 256 256] _ (0,0) _ rfl) (fun u hu=>by simp at hu; subst hu; rfl) (by decide) (by unfold maxLen; omega) (by omega) (by simp; omega) _ rfl ?_
           intro g3 c3 w3 hown3 hgrow hat hlt3;have GN:=(Ae HG).snoc (Ae HS2) (Ae HH2) (Ae HR2) (Ae Hg) hown3 hgrow hat;have hX3:w3.cell? ⟨w.heap.size+1,0,none⟩=some ov:=(World.cell?_of_block (a:=⟨w.heap.size+1,0,none⟩) (hgrow.block (w.heap.size+1) (by simp; omega) (fun e=>by have:=((Ae HO2).lt _ e.symm).1; omega))).trans ((World.cell?_alloc_past _ _ _ (by omega)).trans hX2);have hF3:w3.frozen? ⟨w.heap.size+1,0,none⟩=false:=(World.frozen?_of_block (a:=⟨w.heap.size+1,0,none⟩) (hgrow.block (w.heap.size+1) (by simp; omega) (fun e=>by have:=((Ae HO2).lt _ e.symm).1; omega))).trans (by rw [World.frozen?_alloc_old _ _ _ (by show ¬ w.heap.size+1=w2.heap.size; omega)]; exact hF2);have HGN:=Ac GN
           clear GN hown3 hgrow hat))
      all_goals
        go_wp2;go_roundw
        case rel=>exact ⟨q+1,_,_,_,_,by omega,by go_num,Ae HGN⟩
        case measure=>simp [intOf]; omega
    . have hqm':¬ (q:Int)<(m:Int):=by omega
      obtain rfl:q=m:=by omega
      obtain ⟨go,co,rfl,hI⟩:=(Ae HG).img hm1 hm3;have HCU:=(Ae HG).cur;clear HG hX hFz hqm hqm' hq
      obtain ⟨k,hk⟩:∃ k:Nat,k+1=q:=⟨q-1,by omega⟩
      have hk1:(q:Int)-1=k:=by omega
      have hkq:k<q:=by omega
      have hkq':(k:Int)<(q:Int):=by omega
      have hk0:(0:Int)<=(k:Int):=by omega
      have HI:=Ac hI;clear hI
      go_upto_if 27 with ((go_at_call 108; refine (Jbv _ B c a len cap HCU 4).mono ?_; rintro e w2 ⟨z,rfl,H2,O2⟩))
      have HI2:=Ac ((Ae HI).step O2.step H2);clear HI O2 HCU
      go_cut [6,7] (fun bb zz wc=>∃ ra rc F,Qo w B c a len cap wc q go co ra rc F)
      case first =>
        cases z
        . go_wp2_with fail
          refine (Jfk _ B c a len cap H2).mono ?_;rintro e w3 ⟨⟨s,rfl,hs⟩,H3,S3⟩;have HI3:=Ac ((Ae HI2).step S3 H3);clear HI2 S3;go_wp2_with fail;refine (Rm _ s hs).mono ?_;rintro e w4 ⟨⟨v,n',cc,f,rfl,⟨aa,ac,rfl,hn',hr,hfr,hlo⟩,hA⟩,L4⟩
          have S4:Step c w3 w4:=⟨L4.os,L4.tape,L4.output,L4.size,fun k hk _=>L4.block k hk⟩
          have hI4:=(Ae HI3).step S4 (H3.below L4 H3.lt);obtain ⟨hl,hv⟩:=Jb3 hA;obtain ⟨_,_,_,_,_,hcg,_⟩:=hI4.at_ k hkq;have hX4:=hI4.cx;have hf4:=hI4.fr k hkq;have HI4:=Ac hI4;have HR:=Ac hr;have HV:=Ac hv;clear hI4 hr hv hA hs L4 S4
          rcases hl with rfl | rfl
          . go_wp2
            go_meet
            case rel=>exact ⟨_,_,_,Ae HI4⟩
          . go_wp2
            go_meet
            case rel=>exact ⟨_,_,_,(Ae HI4).setOuter k hkq w3.heap.size (fun p hp b o hF=>((Ae HI3).ss.sep.free p hp b o hF).1) (Ae HI3).gl.2 aa ac f (Ae HR) hfr hlo (Ae HI3).sz (Ae HV trivial)⟩
        . go_wp2
          go_meet
          case rel=>exact ⟨_,_,_,Ae HI2⟩
      case rest =>
        obtain ⟨ra,rc,F,hI⟩:=hcut;obtain ⟨b,off,ha,hb,hbl,hcg,-⟩:=hI.at_ k hkq;have hX:=hI.cx;go_upto_region 12 with (fail);obtain ⟨⟨x250,c250⟩,f250⟩:=hI.cellOf hkq ha 250 (by decide);have hI1:=hI.setInner k 250 b off hkq (by decide) ha 128 (by decide);go_upto_region 13 with (fail);generalize wc.setCell ⟨b,off+250,none⟩ (.i 128)=W1 at *;clear hI c250 f250;obtain ⟨⟨x251,c251⟩,f251⟩:=hI1.cellOf hkq ha 251 (by decide);have hI2:=hI1.setInner k 251 b off hkq (by decide) ha 192 (by decide);go_upto_region 14 with (fail);generalize W1.setCell ⟨b,off+251,none⟩ (.i 192)=W2 at *;clear hI1 c251 f251;obtain ⟨⟨x252,c252⟩,f252⟩:=hI2.cellOf hkq ha 252 (by decide);have hI3:=hI2.setInner k 252 b off hkq (by decide) ha 0 (by decide);go_upto_region 15 with (fail);generalize W2.setCell ⟨b,off+252,none⟩ (.i 0)=W3 at *;clear hI2 c252 f252
        obtain ⟨⟨x253,c253⟩,f253⟩:=hI3.cellOf hkq ha 253 (by decide);have hI4:=hI3.setInner k 253 b off hkq (by decide) ha 192 (by decide);go_upto_region 16 with (fail);generalize W3.setCell ⟨b,off+253,none⟩ (.i 192)=W4 at *;clear hI3 c253 f253;obtain ⟨⟨x254,c254⟩,f254⟩:=hI4.cellOf hkq ha 254 (by decide);have hI5:=hI4.setInner k 254 b off hkq (by decide) ha 160 (by decide);go_upto_region 17 with (fail);generalize W4.setCell ⟨b,off+254,none⟩ (.i 160)=W5 at *;clear hI4 c254 f254;obtain ⟨⟨x255,c255⟩,f255⟩:=hI5.cellOf hkq ha 255 (by decide);have hI6:=hI5.setInner k 255 b off hkq (by decide) ha 192 (by decide);have hX6:=hI6.cx;have hR6:=hI6.rx;have hRf6:=hI6.rf;go_upto_region 18 with (fail);generalize W5.setCell ⟨b,off+255,none⟩ (.i 192)=W6 at *;clear hI5 c255 f255;go_wp2
        have hbel:Below w.heap.size W6 (W6.setCell ⟨w.heap.size,0,none⟩ (.slice (some ⟨go,0,none⟩) q co)):=(Below.refl w.heap.size W6).setCell (p:=⟨w.heap.size,0,none⟩) (Nat.le_refl _) _;have xr:(W6.setCell ⟨w.heap.size,0,none⟩ (.slice (some ⟨go,0,none⟩) q co)).cell? ⟨w.heap.size,0,none⟩=some (.slice (some ⟨go,0,none⟩) q co):=World.cell?_setCell_same _ _ _ hR6;refine bodyPost_ret (v:=.agg #[.slice (some ⟨go,0,none⟩) q co]) (by simp [results,results78,go_sem,xr]) rfl ?_;exact ⟨⟨_,q,_,_,_,rfl,hm1,hm3,(hI6.ss.lower (by omega:w.heap.size+1<=w.heap.size+2)).set_low (Nat.le_refl _),hI6.outFree _ _,hI6.vals⟩,hI6.cur.below hbel hcl,hI6.st.low hbel⟩
set_option maxHeartbeats 1000000
set_option linter.unusedVariables false
set_option linter.unusedSimpArgs false
open Go.Sort
theorem Ef (w:World) (z:Nat) (xs:Nat->Value) (T P C B L:Int) (S Q:Bool) (hb:w.heap[z]?=some (.cells #[xs 0,xs 1,xs 2,xs 3,xs 4,xs 5,xs 6,xs 7,xs 8,xs 9,xs 10,xs 11,xs 12,xs 13,xs 14,xs 15,xs 16,xs 17,xs 18,xs 19,.i T,.i P,.i C,.i B,.i L,.bool S,.bool Q,xs 27,xs 28,xs 29,xs 30,xs 31,xs 32,xs 33] 41 (0,0))) (b:Bool) (h:decide (0<L)=b):Calls prog 179 #[(pt z 20)] w fun e w'=>e=.returned (.bool b)/\w'=w:=by
 have hc:=Af hb;have HH:=Ac h;clear h hb
 go_enter func179,ntmps179
 go_wp2;go_ret;exact ⟨Ap HH.out,rfl⟩
theorem Jde (w:World) (z:Nat) (xs:Nat->Value) (T P C B L:Int) (S Q:Bool) (hb:w.heap[z]?=some (.cells #[xs 0,xs 1,xs 2,xs 3,xs 4,xs 5,xs 6,xs 7,xs 8,xs 9,xs 10,xs 11,xs 12,xs 13,xs 14,xs 15,xs 16,xs 17,xs 18,xs 19,.i T,.i P,.i C,.i B,.i L,.bool S,.bool Q,xs 27,xs 28,xs 29,xs 30,xs 31,xs 32,xs 33] 41 (0,0))) (c0:0<=C) (c1:C<=255) (b0:0<=B) (b1:B<=1):Calls prog 163 #[(pt z 20)] w fun e w'=>e=.returned (.tuple #[])/\w'.heap[z]?=some (.cells #[xs 0,xs 1,xs 2,xs 3,xs 4,xs 5,xs 6,xs 7,xs 8,xs 9,xs 10,xs 11,xs 12,xs 13,xs 14,xs 15,xs 16,xs 17,xs 18,xs 19,.i T,.i P,.i (Qb P C),.i (Ni C B L),.i L,.bool S,.bool Q,xs 27,xs 28,xs 29,xs 30,xs 31,xs 32,xs 33] 41 (0,0))/\Wrote (fun b _=>b=z) w w':=by
 have hc:=Af hb;have hf:=Au hb
 by_cases hC:C=0
 .subst hC
  have hb1:=Bv hb 22 (.i P);simp only [Sa,Sb,Sc] at hb1;have W1:Wrote (fun b _=>b=z) w (w.setCell ⟨z,22,none⟩ (.i P)):=Wrote.setCell (R:=fun b _=>b=z) (Wrote.refl _ w) (fun _=>rfl) _;clear hb
  by_cases hL:0<L
  .have HE:Hid (Qb P 0=P/\Ni 0 B L=1-B):=⟨if_pos rfl,if_pos ⟨rfl,hL⟩⟩
   rw [HE.out.1,HE.out.2];clear HE
   go_enter func163,ntmps163
   go_wp2_with fail;clear hc hf;generalize w.setCell ⟨z,22,none⟩ (.i P)=w1 at *;refine (Ef _ z xs T P P B L S Q hb1 true (decide_eq_true hL)).mono ?_;rintro e w2 ⟨rfl,rfl⟩;have hb2:=Bv hb1 23 (.i (1-B));simp only [Sa,Sb,Sc] at hb2;have HX:=Ac (And.intro hb2 (Wrote.setCell (b:=z) (o:=23) W1 (fun _=>rfl) (.i (1-B))));have hc:=Af hb1;have hf:=Au hb1;clear hb1 hb2 W1;go_wp2
   ((try simp only [Exit.inBlock,Exit.then]); first | (refine bodyPost_ret (results_none rfl _ _ _) rfl ?_) | (refine bodyPost_end (results_none rfl _ _ _) rfl ?_))
   exact ⟨rfl,HX.out.1,HX.out.2⟩
  .have HE:Hid (Qb P 0=P/\Ni 0 B L=B):=⟨if_pos rfl,if_neg (by simp [hL])⟩
   rw [HE.out.1,HE.out.2];clear HE
   go_enter func163,ntmps163
   go_wp2_with fail;clear hc hf;generalize w.setCell ⟨z,22,none⟩ (.i P)=w1 at *;refine (Ef _ z xs T P P B L S Q hb1 false (decide_eq_false (by omega))).mono ?_;rintro e w2 ⟨rfl,rfl⟩;have HX:=Ac (And.intro hb1 W1);clear hb1 W1;go_wp2
   ((try simp only [Exit.inBlock,Exit.then]); first | (refine bodyPost_ret (results_none rfl _ _ _) rfl ?_) | (refine bodyPost_end (results_none rfl _ _ _) rfl ?_))
   exact ⟨rfl,HX.out.1,HX.out.2⟩
 .have HE:Hid (Qb P C=C-1/\Ni C B L=B):=⟨if_neg hC,if_neg (by simp [hC])⟩
  rw [HE.out.1,HE.out.2]
  have hC1:0<C:=by omega
  have hb2:=Bv hb 22 (.i (C-1));simp only [Sa,Sb,Sc] at hb2;have HX:=Ac (And.intro hb2 (Wrote.setCell (R:=fun b _=>b=z) (b:=z) (o:=22) (Wrote.refl _ w) (fun _=>rfl) (.i (C-1))));clear hb2 hb HE
  go_enter func163,ntmps163
  go_wp2
  ((try simp only [Exit.inBlock,Exit.then]); first | (refine bodyPost_ret (results_none rfl _ _ _) rfl ?_) | (refine bodyPost_end (results_none rfl _ _ _) rfl ?_))
  exact ⟨rfl,HX.out.1,HX.out.2⟩
theorem Jdf (w:World) (z:Nat) (xs:Nat->Value) (T P C B L:Int) (S Q:Bool) (hb:w.heap[z]?=some (.cells #[xs 0,xs 1,xs 2,xs 3,xs 4,xs 5,xs 6,xs 7,xs 8,xs 9,xs 10,xs 11,xs 12,xs 13,xs 14,xs 15,xs 16,xs 17,xs 18,xs 19,.i T,.i P,.i C,.i B,.i L,.bool S,.bool Q,xs 27,xs 28,xs 29,xs 30,xs 31,xs 32,xs 33] 41 (0,0))) (l1:L<=31):Calls prog 164 #[(pt z 20)] w fun e w'=>e=.returned (.tuple #[])/\w'.heap[z]?=some (.cells #[xs 0,xs 1,xs 2,xs 3,xs 4,xs 5,xs 6,xs 7,xs 8,xs 9,xs 10,xs 11,xs 12,xs 13,xs 14,xs 15,xs 16,xs 17,xs 18,xs 19,.i T,.i P,.i C,.i B,.i (Ux L),.bool S,.bool (Uy L S Q),xs 27,xs 28,xs 29,xs 30,xs 31,xs 32,xs 33] 41 (0,0))/\Wrote (fun b _=>b=z) w w':=by
 have hc:=Af hb;have hf:=Au hb
 by_cases hL:0<L
 .have HE:Hid (Ux L=L-1/\Uy L S Q=(Q || (decide (L-1=0) && S))):=⟨if_pos hL,if_pos hL⟩
  rw [HE.out.1,HE.out.2];have hb1:=Bv hb 24 (.i (L-1));simp only [Sa,Sb,Sc] at hb1;have W1:Wrote (fun b _=>b=z) w (w.setCell ⟨z,24,none⟩ (.i (L-1))):=Wrote.setCell (R:=fun b _=>b=z) (Wrote.refl _ w) (fun _=>rfl) _
  go_enter func164,ntmps164
  go_wp2_with fail;refine (Ef _ z xs T P C B L S Q hb true (decide_eq_true hL)).mono ?_;rintro e w2 ⟨rfl,rfl⟩;clear hb HE;cases S
  .have HX:=Ac (And.intro hb1 W1)
   clear hb1 W1;go_wp2
   ((try simp only [Exit.inBlock,Exit.then]); first | (refine bodyPost_ret (results_none rfl _ _ _) rfl ?_) | (refine bodyPost_end (results_none rfl _ _ _) rfl ?_))
   rw [Bool.and_false,Bool.or_false];exact ⟨rfl,HX.out.1,HX.out.2⟩
  .go_wp2_with fail
   clear hc hf;generalize w2.setCell ⟨z,24,none⟩ (.i (L-1))=w1 at *
   by_cases h1:L-1=0
   .refine (Ef _ z xs T P C B (L-1) true Q hb1 false (decide_eq_false (by omega))).mono ?_
    rintro e w3 ⟨rfl,rfl⟩;have hb2:=Bv hb1 26 (.bool true);simp only [Sa,Sb,Sc] at hb2;have HX:=Ac (And.intro hb2 (Wrote.setCell (b:=z) (o:=26) W1 (fun _=>rfl) (.bool true)));have hc:=Af hb1;have hf:=Au hb1
    have HT:Hid ((Q || (decide (L-1=0) && true))=true):=by show _=_; rw [decide_eq_true h1]; simp
    clear hb1 hb2 W1 h1;go_wp2
    ((try simp only [Exit.inBlock,Exit.then]); first | (refine bodyPost_ret (results_none rfl _ _ _) rfl ?_) | (refine bodyPost_end (results_none rfl _ _ _) rfl ?_))
    rw [HT.out];exact ⟨rfl,HX.out.1,HX.out.2⟩
   .refine (Ef _ z xs T P C B (L-1) true Q hb1 true (decide_eq_true (by omega))).mono ?_
    rintro e w3 ⟨rfl,rfl⟩;have HX:=Ac (And.intro hb1 W1)
    have HT:Hid ((Q || (decide (L-1=0) && true))=Q):=by show _=_; rw [decide_eq_false h1]; simp
    clear hb1 W1 h1;go_wp2
    ((try simp only [Exit.inBlock,Exit.then]); first | (refine bodyPost_ret (results_none rfl _ _ _) rfl ?_) | (refine bodyPost_end (results_none rfl _ _ _) rfl ?_))
    rw [HT.out];exact ⟨rfl,HX.out.1,HX.out.2⟩
 .have HE:Hid (Ux L=L/\Uy L S Q=Q):=⟨if_neg hL,if_neg hL⟩
  rw [HE.out.1,HE.out.2]
  go_enter func164,ntmps164
  go_wp2_with fail;refine (Ef _ z xs T P C B L S Q hb false (decide_eq_false (by omega))).mono ?_;rintro e w2 ⟨rfl,rfl⟩;have HX:=Ac hb;clear hb HE hc hf;go_wp2
  ((try simp only [Exit.inBlock,Exit.then]); first | (refine bodyPost_ret (results_none rfl _ _ _) rfl ?_) | (refine bodyPost_end (results_none rfl _ _ _) rfl ?_))
  exact ⟨rfl,HX.out,Wrote.refl _ _⟩
theorem Yg (w:World) (z:Nat) (xs:Nat->Value) (T P C B L:Int) (S Q:Bool) (hb:w.heap[z]?=some (.cells #[xs 0,xs 1,xs 2,xs 3,xs 4,xs 5,xs 6,xs 7,xs 8,xs 9,xs 10,xs 11,xs 12,xs 13,xs 14,xs 15,xs 16,xs 17,xs 18,xs 19,.i T,.i P,.i C,.i B,.i L,.bool S,.bool Q,xs 27,xs 28,xs 29,xs 30,xs 31,xs 32,xs 33] 41 (0,0))) (b0:0<=B) (b1:B<=1):Calls prog 165 #[(pt z 20)] w fun e w'=>e=.returned (.i (if 0<L then 8*B else 0))/\w'=w:=by
 have hc:=Af hb
 by_cases hL:0<L
 .rw [if_pos hL]
  go_enter func165,ntmps165
  go_wp2_with fail;refine (Ef _ z xs T P C B L S Q hb true (decide_eq_true hL)).mono ?_;rintro e w2 ⟨rfl,rfl⟩;clear hb;go_wp2;go_ret;exact ⟨rfl,rfl⟩
 .rw [if_neg hL]
  go_enter func165,ntmps165
  go_wp2_with fail;refine (Ef _ z xs T P C B L S Q hb false (decide_eq_false (by omega))).mono ?_;rintro e w2 ⟨rfl,rfl⟩;clear hb;go_wp2;go_ret;exact ⟨rfl,rfl⟩
theorem Q7 (w:World) (z:Nat) (xs:Nat->Value) (T P C B L:Int) (S Q:Bool) (hb:w.heap[z]?=some (.cells #[xs 0,xs 1,xs 2,xs 3,xs 4,xs 5,xs 6,xs 7,xs 8,xs 9,xs 10,xs 11,xs 12,xs 13,xs 14,xs 15,xs 16,xs 17,xs 18,xs 19,.i T,.i P,.i C,.i B,.i L,.bool S,.bool Q,xs 27,xs 28,xs 29,xs 30,xs 31,xs 32,xs 33] 41 (0,0))) (h:Hz T P C B L) (hT:T≠20000):Calls prog 120 #[(pt z 20)] w fun e w'=>e=.returned (.tuple #[.i (tvA T C B L),.bool (Eb T)])/\w'.heap[z]?=some (.cells #[xs 0,xs 1,xs 2,xs 3,xs 4,xs 5,xs 6,xs 7,xs 8,xs 9,xs 10,xs 11,xs 12,xs 13,xs 14,xs 15,xs 16,xs 17,xs 18,xs 19,.i (T+1),.i P,.i (Qb P C),.i (Ni C B L),.i (Qc T L),.bool S,.bool (Ut T L S Q),xs 27,xs 28,xs 29,xs 30,xs 31,xs 32,xs 33] 41 (0,0))/\Wrote (fun b _=>b=z) w w':=by
 have t0:=h.t0;have t1:=h.t1;have m32:T.tmod 32=T%32:=Int.tmod_eq_emod_of_nonneg t0;have m16:T.tmod 16=T%16:=Int.tmod_eq_emod_of_nonneg t0
 obtain ⟨b',hb'⟩:∃ b',Hid (b'=Ni C B L):=⟨_,rfl⟩
 have B0:0<=b':=by rw [hb'.out]; have:=h.b0; have:=h.b1; unfold Ni; split <;> omega
 have B1:b'<=1:=by rw [hb'.out]; have:=h.b0; have:=h.b1; unfold Ni; split <;> omega
 obtain ⟨l',hl'⟩:∃ l',Hid (l'=Qc T L):=⟨_,rfl⟩
 obtain ⟨q',hq'⟩:∃ q',Hid (q'=Ut T L S Q):=⟨_,rfl⟩
 have HV:Hid (tvA T C B L=if T%16=15 then (if 0<l' then 8*b' else 0) else 0):=by
  show _=_
  rw [hl'.out,hb'.out];unfold tvA
  by_cases h1:T%16=15 <;> by_cases h2:0<Qc T L <;> simp [h1,h2]
 obtain ⟨sv,hsv⟩:∃ sv,Hid (sv=if T%16=15 then (if 0<l' then 8*b' else 0) else 0):=⟨_,rfl⟩
 obtain ⟨dT,hdT⟩:∃ d,Hid (d=Eb T):=⟨_,rfl⟩
 rw [HV.out,<- hb'.out,<- hl'.out,<- hq'.out,<- hsv.out,<- hdT.out];have TF:=Xg T C L B S Q;rw [<- hl'.out,<- hq'.out] at TF;obtain ⟨TL,TQ⟩:=TF;have l1:=h.l1
 obtain ⟨cc,hcc⟩:∃ cc,Hid (cc=Qb P C):=⟨_,rfl⟩
 have HT:=Ac (Jde w z xs T P C B L S Q hb h.c0 h.c1 h.b0 h.b1);rw [<- hb'.out,<- hcc.out] at HT;rw [<- hcc.out];clear hb h hb' hl' hq' hcc HV
 go_enter func120,ntmps120
 go_wp2_with fail;refine HT.out.mono ?_;rintro e w1 ⟨rfl,hb1,W1⟩;clear HT
 have END:∀ w3:World,w3.heap[z]?=some (.cells #[xs 0,xs 1,xs 2,xs 3,xs 4,xs 5,xs 6,xs 7,xs 8,xs 9,xs 10,xs 11,xs 12,xs 13,xs 14,xs 15,xs 16,xs 17,xs 18,xs 19,.i T,.i P,.i cc,.i b',.i l',.bool S,.bool q',xs 27,xs 28,xs 29,xs 30,xs 31,xs 32,xs 33] 41 (0,0))->Wrote (fun b _=>b=z) w w3->(w3.setCell ⟨z,20,none⟩ (.i (T+1))).heap[z]?=some (.cells #[xs 0,xs 1,xs 2,xs 3,xs 4,xs 5,xs 6,xs 7,xs 8,xs 9,xs 10,xs 11,xs 12,xs 13,xs 14,xs 15,xs 16,xs 17,xs 18,xs 19,.i (T+1),.i P,.i cc,.i b',.i l',.bool S,.bool q',xs 27,xs 28,xs 29,xs 30,xs 31,xs 32,xs 33] 41 (0,0))/\Wrote (fun b _=>b=z) w (w3.setCell ⟨z,20,none⟩ (.i (T+1))):=fun w3 h3 W3=>⟨by
  have:=Bv h3 20 (.i (T+1))
  simpa only [Sa,Sb,Sc] using this,Wrote.setCell W3 (fun _=>rfl) _⟩
 have HEND:=Ac END;clear END;have c1:=Af hb1
 by_cases h32:T%32=0
 .rw [if_pos h32] at TL TQ
  go_wp2_with fail;clear c1;refine (Jdf _ z xs T P cc b' L S Q hb1 l1).mono ?_;rintro e w2 ⟨rfl,hb2,W2⟩;rw [<- TL,<- TQ] at hb2;replace W2:=W1.trans W2;have c2:=Af hb2;have f2:=Au hb2
  by_cases h16:T%16=15
  .exfalso; omega
  .have HD:Hid (dT=false/\sv=0):=⟨hdT.out.trans (decide_eq_false h16),hsv.out.trans (if_neg h16)⟩
   have HX:=Ac (HEND.out w2 hb2 W2);clear hb1 hb2 W1 W2 HEND TL TQ hdT hsv;go_wp2;go_ret2;exact ⟨by first | (rw [HD.out.1,HD.out.2]; done) | (rw [HD.out.1,HD.out.2]; rfl) | (rw [HD.out.1]; rfl),HX.out.1,HX.out.2⟩
 .rw [if_neg h32] at TL TQ
  rw [<- TL,<- TQ] at hb1
  by_cases h16:T%16=15
  .have HD:Hid (dT=true/\sv=if 0<l' then 8*b' else 0):=⟨hdT.out.trans (decide_eq_true h16),hsv.out.trans (if_pos h16)⟩
   clear hdT hsv TL TQ;have HX:=Ac (HEND.out w1 hb1 W1);clear W1 HEND;go_wp2_with fail;have f1:=Au hb1;refine (Yg _ z xs T P cc b' l' S q' hb1 B0 B1).mono ?_;rintro e w2 ⟨rfl,rfl⟩;clear hb1;rw [<- HD.out.2];go_wp2;go_ret2;exact ⟨by first | (rw [HD.out.1,HD.out.2]; done) | (rw [HD.out.1,HD.out.2]; rfl) | (rw [HD.out.1]; rfl),HX.out.1,HX.out.2⟩
  .have HD:Hid (dT=false/\sv=0):=⟨hdT.out.trans (decide_eq_false h16),hsv.out.trans (if_neg h16)⟩
   have HX:=Ac (HEND.out w1 hb1 W1);have f1:=Au hb1;clear hb1 W1 HEND TL TQ hdT hsv;go_wp2;go_ret2;exact ⟨by first | (rw [HD.out.1,HD.out.2]; done) | (rw [HD.out.1,HD.out.2]; rfl) | (rw [HD.out.1]; rfl),HX.out.1,HX.out.2⟩
end Go.Proofs.YtijljlnooibbmaaGreatDoor
