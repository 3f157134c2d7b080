import Derived.Test.YtfjieibndedngaaGreatX3
namespace Go.Proofs.YtfjieibndedngaaGreat
set_option maxHeartbeats 8000000
set_option maxRecDepth 20000
open Go.ChangeShapes Go.WideShapes Go.ChangeAt Go.RowKit
theorem Nw (w:World) (B c:Nat) (a:Option Addr) (len cap:Nat) (H:Dc w B c a len cap) :
    Calls Tryz.prog 41 #[(pt c 0)] w fun e w'=>(∃ v m ra rc F,e=.returned (.agg #[v])∧1≤m∧m≤3∧Cl w' w.heap.size v m ra (fun _=>256) rc F∧Hm w' v m∧∀ i j,i<m→j<256→0≤F i j∧F i j≤255)∧Dc w' B c a len cap∧Step c w w':=by
  have hcl:=H.lt
  go_enter Tryz.func41,Tryz.ntmps41
  go_wp2_with fail;refine (Bw _ B c a len cap ((H.alloc _ hcl).alloc _ (by simp; omega)) 3).mono ?_;rintro e w1 ⟨x,rfl,x0,x1,H1,O1⟩
  obtain ⟨m,hm,hm1,hm3⟩:∃ m:Nat,1+x=m∧1≤m∧m≤3:=⟨(1+x).toNat,by omega,by omega,by omega⟩
  have zz:w1.heap.size=w.heap.size+2:=by rw [O1.size]; simp
  have xR:w1.cell? ⟨w.heap.size,0,none⟩=some (.slice none 0 0):=(O1.cell (by show w.heap.size≠c; omega)).trans (by rw [World.cell?_alloc_lt _ _ ⟨w.heap.size,0,none⟩ (by simp),World.cell?_alloc_at _ _ _ _ rfl]; rfl);have fR:w1.frozen? ⟨w.heap.size,0,none⟩=false:=(O1.frozen (by show w.heap.size≠c; omega)).trans (by go_simp);have xX:w1.cell? ⟨w.heap.size+1,0,none⟩=some (.slice none 0 0):=(O1.cell (by show w.heap.size+1≠c; omega)).trans (by rw [World.cell?_alloc_at _ _ _ _ (by simp)]; rfl);have fX:w1.frozen? ⟨w.heap.size+1,0,none⟩=false:=(O1.frozen (by show w.heap.size+1≠c; omega)).trans (by go_simp);have S1:Step c w w1:=(((Step.refl c w).alloc _).alloc _).trans O1.step;go_wp2_with fail;clear O1 hm;obtain ⟨i2,hi2,hzb1,hzb2,hzb3⟩:=info_parts Ni
  go_loopw [5] (fun i wr=>∃ (q:Nat) (gb cp:Nat→Nat) (F:Nat→Nat→Int) (ov:Value),q≤m∧i=.i q∧Nv w B c a len cap wr q gb cp F ov) (fun i _=>m-(intOf i).toNat)
  case atStart=>exact ⟨0,fun _=>0,fun _=>0,fun _ _=>0,.slice none 0 0,Nat.zero_le _,rfl,⟨⟨fun i hi=>absurd hi (Nat.not_lt_zero _),fun i hi=>absurd hi (Nat.not_lt_zero _),fun i hi=>absurd hi (Nat.not_lt_zero _),fun i j hi=>absurd hi (Nat.not_lt_zero _)⟩,World.ownsRow_nil _ _ _ _,fun g hg i hi=>absurd hi (Nat.not_lt_zero _),xX,fX,xR,fR,hcl,H1,S1,Nat.le_of_eq zz.symm,fun _ _=>⟨Int.le_refl 0,show (0:Int)≤255 by decide⟩⟩⟩
  case round =>
    obtain ⟨q,gb,cp,F,ov,hq,rfl,hG⟩:=hrel;have hX:=hG.cx;have hFz:=hG.fx;have HG:=Ad hG;clear hG xR fR xX fX H1 S1
    by_cases hqm:q<m
    · have hqm':(q:Int)<(m:Int):=by omega
      go_wp2
      go_region_law (first
        | (refine Rf rfl 57 #[(pt c 0)] (by go_simp) ((Pu _ B c a len cap ((Ab HG).cur.drewN 1)).mono ?_)
           rintro e w2 ⟨rfl,⟨g,hR2,hg⟩,H2,S2⟩;obtain ⟨hX2,hF2,hO2,hz2⟩:=(Ab HG).drawn S2
           have hx2:w.heap.size+1<w2.heap.size:=by omega
           have HO2:=Ad hO2;have HR2:=Ad hR2;have HH2:=Ad H2;have HS2:=Ad S2;have Hg:=Ad hg;clear hO2 hR2 H2 S2 hg
           refine ⟨_,rfl,?_⟩)
        | (refine step_append_lies _ rfl (.tmp 19) (.tmp 22) 24 rfl (w.heap.size+2) 25 i2 (.slice none 0 0) 1 24 Tryz.underlying24 hi2 hzb1 hzb2 hzb3 rfl (by decide) ov q (Ko q gb cp) (by simp [Act.eval]) ((Ab HO2).alloc _) ⟨w2.heap.size,0,none⟩ 1 1 [.slice (some ⟨wr.heap.size,0,none⟩) 256 256] (by simp [Act.eval]) rfl (L9 _ #[.slice (some ⟨wr.heap.size,0,none⟩) 256 256] _ (0,0) _ rfl) (fun u hu=>by simp at hu; subst hu; rfl) (by decide) (by unfold maxLen; omega) (by omega) (by simp; omega) _ rfl ?_
           intro g3 c3 w3 hown3 hgrow hat hlt3;have GN:=(Ab HG).snoc (Ab HS2) (Ab HH2) (Ab HR2) (Ab Hg) hown3 hgrow hat;have hX3:w3.cell? ⟨w.heap.size+1,0,none⟩=some ov:=(World.cell?_of_block (a:=⟨w.heap.size+1,0,none⟩) (hgrow.block (w.heap.size+1) (by simp; omega) (fun e=>by have:=((Ab HO2).lt _ e.symm).1; omega))).trans ((World.cell?_alloc_past _ _ _ (by omega)).trans hX2);have hF3:w3.frozen? ⟨w.heap.size+1,0,none⟩=false:=(World.frozen?_of_block (a:=⟨w.heap.size+1,0,none⟩) (hgrow.block (w.heap.size+1) (by simp; omega) (fun e=>by have:=((Ab HO2).lt _ e.symm).1; omega))).trans (by rw [World.frozen?_alloc_old _ _ _ (by show ¬ w.heap.size+1=w2.heap.size; omega)]; exact hF2);have HGN:=Ad GN
           clear GN hown3 hgrow hat))
      all_goals
        go_wp2;go_roundw
        case rel=>exact ⟨q+1,_,_,_,_,by omega,by go_num,Ab HGN⟩
        case measure=>simp [intOf]; omega
    · have hqm':¬ (q:Int)<(m:Int):=by omega
      obtain rfl:q=m:=by omega
      obtain ⟨go,co,rfl,hI⟩:=(Ab HG).img hm1 hm3;have HCU:=(Ab HG).cur;clear HG hX hFz hqm hqm' hq
      obtain ⟨k,hk⟩:∃ k:Nat,k+1=q:=⟨q-1,by omega⟩
      have hk1:(q:Int)-1=k:=by omega
      have hkq:k<q:=by omega
      have hkq':(k:Int)<(q:Int):=by omega
      have hk0:(0:Int)≤(k:Int):=by omega
      have HI:=Ad hI;clear hI
      go_upto_if 27 with ((go_at_call 58; refine (Sp _ B c a len cap HCU 4).mono ?_; rintro e w2 ⟨z,rfl,H2,O2⟩))
      have HI2:=Ad ((Ab HI).step O2.step H2);clear HI O2 HCU
      go_cut [6,7] (fun bb zz wc=>∃ ra rc F,Lb w B c a len cap wc q go co ra rc F)
      case first =>
        cases z
        · go_wp2_with fail
          refine (Vj _ B c a len cap H2).mono ?_;rintro e w3 ⟨⟨s,rfl,hs⟩,H3,S3⟩;have HI3:=Ad ((Ab HI2).step S3 H3);clear HI2 S3;go_wp2_with fail;refine (Mf _ s hs).mono ?_;rintro e w4 ⟨⟨v,n',cc,f,rfl,⟨aa,ac,rfl,hn',hr,hfr,hlo⟩,hA⟩,L4⟩
          have S4:Step c w3 w4:=⟨L4.os,L4.tape,L4.output,L4.size,fun k hk _=>L4.block k hk⟩
          have hI4:=(Ab HI3).step S4 (H3.below L4 H3.lt);obtain ⟨hl,hv⟩:=Sx hA;obtain ⟨_,_,_,_,_,hcg,_⟩:=hI4.at_ k hkq;have hX4:=hI4.cx;have hf4:=hI4.fr k hkq;have HI4:=Ad hI4;have HR:=Ad hr;have HV:=Ad hv;clear hI4 hr hv hA hs L4 S4
          rcases hl with rfl | rfl
          · go_wp2
            go_meet
            case rel=>exact ⟨_,_,_,Ab HI4⟩
          · go_wp2
            go_meet
            case rel=>exact ⟨_,_,_,(Ab HI4).setOuter k hkq w3.heap.size (fun p hp b o hF=>((Ab HI3).ss.sep.free p hp b o hF).1) (Ab HI3).gl.2 aa ac f (Ab HR) hfr hlo (Ab HI3).sz (Ab HV trivial)⟩
        · go_wp2
          go_meet
          case rel=>exact ⟨_,_,_,Ab HI2⟩
      case rest =>
        obtain ⟨ra,rc,F,hI⟩:=hcut;obtain ⟨b,off,ha,hb,hbl,hcg,-⟩:=hI.at_ k hkq;have hX:=hI.cx;go_upto_region 12 with (fail);obtain ⟨⟨x250,c250⟩,f250⟩:=hI.cellOf hkq ha 250 (by decide);have hI1:=hI.setInner k 250 b off hkq (by decide) ha 128 (by decide);go_upto_region 13 with (fail);generalize wc.setCell ⟨b,off+250,none⟩ (.i 128)=W1 at *;clear hI c250 f250;obtain ⟨⟨x251,c251⟩,f251⟩:=hI1.cellOf hkq ha 251 (by decide);have hI2:=hI1.setInner k 251 b off hkq (by decide) ha 192 (by decide);go_upto_region 14 with (fail);generalize W1.setCell ⟨b,off+251,none⟩ (.i 192)=W2 at *;clear hI1 c251 f251;obtain ⟨⟨x252,c252⟩,f252⟩:=hI2.cellOf hkq ha 252 (by decide);have hI3:=hI2.setInner k 252 b off hkq (by decide) ha 0 (by decide);go_upto_region 15 with (fail);generalize W2.setCell ⟨b,off+252,none⟩ (.i 0)=W3 at *;clear hI2 c252 f252
        obtain ⟨⟨x253,c253⟩,f253⟩:=hI3.cellOf hkq ha 253 (by decide);have hI4:=hI3.setInner k 253 b off hkq (by decide) ha 192 (by decide);go_upto_region 16 with (fail);generalize W3.setCell ⟨b,off+253,none⟩ (.i 192)=W4 at *;clear hI3 c253 f253;obtain ⟨⟨x254,c254⟩,f254⟩:=hI4.cellOf hkq ha 254 (by decide);have hI5:=hI4.setInner k 254 b off hkq (by decide) ha 160 (by decide);go_upto_region 17 with (fail);generalize W4.setCell ⟨b,off+254,none⟩ (.i 160)=W5 at *;clear hI4 c254 f254;obtain ⟨⟨x255,c255⟩,f255⟩:=hI5.cellOf hkq ha 255 (by decide);have hI6:=hI5.setInner k 255 b off hkq (by decide) ha 192 (by decide);have hX6:=hI6.cx;have hR6:=hI6.rx;have hRf6:=hI6.rf;go_upto_region 18 with (fail);generalize W5.setCell ⟨b,off+255,none⟩ (.i 192)=W6 at *;clear hI5 c255 f255;go_wp2
        have hbel:Below w.heap.size W6 (W6.setCell ⟨w.heap.size,0,none⟩ (.slice (some ⟨go,0,none⟩) q co)):=(Below.refl w.heap.size W6).setCell (p:=⟨w.heap.size,0,none⟩) (Nat.le_refl _) _;have xr:(W6.setCell ⟨w.heap.size,0,none⟩ (.slice (some ⟨go,0,none⟩) q co)).cell? ⟨w.heap.size,0,none⟩=some (.slice (some ⟨go,0,none⟩) q co):=World.cell?_setCell_same _ _ _ hR6;refine bodyPost_ret (v:=.agg #[.slice (some ⟨go,0,none⟩) q co]) (by simp [results,Tryz.results41,go_sem,xr]) rfl ?_;exact ⟨⟨_,q,_,_,_,rfl,hm1,hm3,(hI6.ss.lower (by omega:w.heap.size+1≤w.heap.size+2)).set_low (Nat.le_refl _),hI6.outFree _ _,hI6.vals⟩,hI6.cur.below hbel hcl,hI6.st.low hbel⟩
end Go.Proofs.YtfjieibndedngaaGreat
