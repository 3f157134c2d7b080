/- At every row of bytes: what is put into the memory that is drawn from them is there, a bank that is switched in is the one that was wanted, and all else stays. -/
import Derived.Test.YtpaedkefmebjjaeRows
import Derived.Test.YtpaedkefmebjjaeO
import Derived.Test.YtpaedkefmebjjaeM6
import Derived.WalkKit
import Derived.ProofKit
import Derived.OpenShut
import Derived.ShutString
import Derived.ChangeOld
import Derived.Below
import Derived.Deep.RegionWith
namespace Go.Proofs.Ytpaedkefmebjjae.fnMemory
open Go.ChangeShapes Go.WideShapes Go.ChangeAt Go.RowKit
open Go.ChangeMaps (open_string shut_string)
set_option linter.unusedVariables false
theorem own : ownKnob Try.prog.godebug = none := by kernel_rfl
theorem laidOut : laidOutB Try.prog = true := by kernel_rfl
set_option maxRecDepth 40000
set_option maxHeartbeats 16000000 in
theorem walk (s0 : Option Addr) (n0 c0 : Nat) (f0 : Nat → Int) (w : World) (w0 : n0 ≤ 9223372036854775807 ∧ RowOf .u8 w s0 n0 f0 ∧ ∀ i, i < n0 → (Lit.int .u8 (f0 i)).wf = true) :
    Calls Try.prog 4 #[.slice s0 n0 c0] w fun e w' => e = .returned (.bool true) ∧ Below w.heap.size w w' := by
  obtain ⟨hn63, hrow, hwf⟩ := w0
  by_cases hbig : (1048576 : Int) < (n0 : Int)
  · have hb' : decide ((1048576 : Int) < (n0 : Int)) = true := decide_eq_true hbig
    go_enter Try.func4, Try.ntmps4
    go_wp2_with fail
    refine (lawsBig _ s0 n0 c0).mono ?_
    rintro e w' ⟨rfl, rfl⟩
    rw [hb']
    go_wp2
    go_ret
    exact ⟨rfl, Below.refl _ _⟩
  · have hb' : decide ((1048576 : Int) < (n0 : Int)) = false := decide_eq_false hbig
    have hn : n0 ≤ 1048576 := by omega
    have hby : ∀ i, i < n0 → 0 ≤ f0 i ∧ f0 i ≤ 255 := fun i hi => by
      have h : IntKind.u8.min ≤ f0 i ∧ f0 i ≤ IntKind.u8.max := by simpa [Lit.wf] using hwf i hi
      exact ⟨h.1, h.2⟩
    have hcode : Code w w.heap.size s0 n0 := ⟨hn, fun i hi => by
      obtain ⟨b, off, e, hc⟩ := hrow i hi
      exact ⟨b, off, e, block_lt_of_cell hc, f0 i, hc, (hby i hi).1, by have := (hby i hi).2; omega⟩⟩
    clear hbig hwf hn63 hrow hby
    go_enter Try.func4, Try.ntmps4
    go_wp2_with fail
    refine (lawsBig _ s0 n0 c0).mono ?_
    rintro e w' ⟨rfl, rfl⟩
    rw [hb']
    clear hb'
    go_wp2_with fail
    refine (drawPoke _ s0 n0 c0 hcode).mono ?_
    rintro e w2 ⟨v, m, ra, ln, rc, F, q, n, g, bank, x, y, rfl, hm, hS, hO, L2⟩
    obtain ⟨va, vc, hv, -, -⟩ := hS.sep.outer
    subst hv
    obtain ⟨qa, qc, hq, -, -, -, -⟩ := id hO
    subst hq
    have LB : Below w2.heap.size w2 ((w2.alloc (.cells #[.slice va m vc] 34)).alloc (.cells #[.slice qa n qc, .int .i64 bank] 37)) := ((Below.refl _ _).alloc (Nat.le_refl _) _).alloc (by simp) _
    have H0 := (hS.ints.keep (wrote_below LB Nowhere) (fun _ _ _ x => x)).mono (G := fun _ _ => True) (fun _ _ _ _ => trivial)
    have K0 := (own_intsT hO).keep (wrote_below LB Nowhere) (fun _ _ _ x => x)
    have b0 : ((w2.alloc (.cells #[.slice va m vc] 34)).alloc (.cells #[.slice qa n qc, .int .i64 bank] 37)).heap[w2.heap.size]? = some (.cells #[.slice va m vc] 34 (0, 0)) := boxA (box_new w2 _ _) _
    have b1 : ((w2.alloc (.cells #[.slice va m vc] 34)).alloc (.cells #[.slice qa n qc, .int .i64 bank] 37)).heap[w2.heap.size + 1]? = some (.cells #[.slice qa n qc, .int .i64 bank] 37 (0, 0)) := by simpa using box_new (w2.alloc (.cells #[.slice va m vc] 34)) #[.slice qa n qc, .int .i64 bank] 37
    have C2 := L2.trans (LB.mono L2.size)
    clear hS hO L2 LB
    go_wp2_with fail
    generalize hp : w2.heap.size = p at *
    generalize ((w2.alloc (.cells #[.slice va m vc] 34)).alloc (.cells #[.slice qa n qc, .int .i64 bank] 37)) = W3 at *
    clear hp
    refine (implPoke _ _ _ _ _ m ln F n g bank x y H0 K0).mono ?_
    rintro e W4 ⟨yv, rfl, O4, L4⟩
    obtain ⟨ya, yc, hyv, -, -, -, -⟩ := id O4
    subst hyv
    have HYB : Hid (pokeB (okMem m ln F n g bank) m bank (x % 65536) y = pokeB (okMem m ln F n g bank) m bank (x % 65536) y) := rfl
    have HSP := hide (fun (W : World) h k => specPoke W (fun _ _ => True) (fun _ _ => True) (.slice va m vc) (.slice qa n qc) m ln F n g bank x y h k)
    generalize hyb : pokeB (okMem m ln F n g bank) m bank (x % 65536) y = yb at *
    generalize hg' : pokeG (okMem m ln F n g bank) g (x % 65536) y = g' at *
    have HB := hide hyb
    have HG := hide hg'
    clear hyb hg' HYB
    have LY : Below W4.heap.size W4 (W4.alloc (.cells #[.slice ya n yc, .int .i64 yb] 37)) := (Below.refl _ _).alloc (Nat.le_refl _) _
    have C4 := below_snoc C2 L4
    have C5 := below_snoc C4 LY
    have k0 := box_keep (box_keep b0 L4 (boxLt b0)) LY (boxLt (box_keep b0 L4 (boxLt b0)))
    have k1 := box_keep (box_keep b1 L4 (boxLt b1)) LY (boxLt (box_keep b1 L4 (boxLt b1)))
    have k7 := box_new W4 #[.slice ya n yc, .int .i64 yb] 37
    have H1 := (H0.keep (wrote_below L4 Nowhere) (fun _ _ _ x => x)).keep (wrote_below LY Nowhere) (fun _ _ _ x => x)
    have K1 := (K0.keep (wrote_below L4 Nowhere) (fun _ _ _ x => x)).keep (wrote_below LY Nowhere) (fun _ _ _ x => x)
    have Y1 := (own_intsT O4).keep (wrote_below LY Nowhere) (fun _ _ _ x => x)
    have e0 := boxC k0
    have e1 := boxC k1
    clear b0 b1 H0 K0 O4 L4 LY C2 C4
    go_wp2_with fail
    clear e0 e1
    generalize hP : W4.heap.size = P at *
    generalize (W4.alloc (.cells #[.slice ya n yc, .int .i64 yb] 37)) = W5 at *
    clear hP
    refine (unhide HSP _ H1 K1).mono ?_
    rintro e W6 ⟨zv, rfl, O6, L6⟩
    obtain ⟨za, zc, hzv, -, -, -, -⟩ := id O6
    subst hzv
    have LZ : Below W6.heap.size W6 (W6.alloc (.cells #[.slice za n zc, .int .i64 yb] 37)) := (Below.refl _ _).alloc (Nat.le_refl _) _
    have C7 := below_snoc (below_snoc C5 L6) LZ
    have D : MS (W6.alloc (.cells #[.slice za n zc, .int .i64 yb] 37)) p P W6.heap.size va m vc qa n qc bank ya yc za zc yb ln F g g' :=
      ⟨box_keep (box_keep k0 L6 (boxLt k0)) LZ (boxLt (box_keep k0 L6 (boxLt k0))), box_keep (box_keep k1 L6 (boxLt k1)) LZ (boxLt (box_keep k1 L6 (boxLt k1))), box_keep (box_keep k7 L6 (boxLt k7)) LZ (boxLt (box_keep k7 L6 (boxLt k7))), box_new _ _ _,
       (H1.keep (wrote_below L6 Nowhere) (fun _ _ _ x => x)).keep (wrote_below LZ Nowhere) (fun _ _ _ x => x), (K1.keep (wrote_below L6 Nowhere) (fun _ _ _ x => x)).keep (wrote_below LZ Nowhere) (fun _ _ _ x => x), (Y1.keep (wrote_below L6 Nowhere) (fun _ _ _ x => x)).keep (wrote_below LZ Nowhere) (fun _ _ _ x => x), (own_intsT O6).keep (wrote_below LZ Nowhere) (fun _ _ _ x => x)⟩
    clear k0 k1 k7 H1 K1 Y1 O6 L6 LZ C5 HSP
    go_upto_region 6 with (fail)
    generalize hQ : W6.heap.size = Q at *
    generalize (W6.alloc (.cells #[.slice za n zc, .int .i64 yb] 37)) = W7 at *
    clear hQ
    obtain ⟨c1, c2, c3, c4, c5, c6, c7⟩ := D.cells
    have HD := hide D
    have HDd := hide D.drew
    clear D
    go_cut [51] (fun s WX => s = .bool false ∧ Below W7.heap.size W7 WX)
    case first =>
      go_region_held3 (fun w' => w'.cell? ⟨p, 0, none⟩ = some (.slice va m vc) ∧ w'.cell? ⟨p + 1, 0, none⟩ = some (.slice qa n qc) ∧ w'.cell? ⟨p + 1, 1, none⟩ = some (.int .i64 bank) ∧ w'.cell? ⟨P, 0, none⟩ = some (.slice ya n yc) ∧ w'.cell? ⟨P, 1, none⟩ = some (.int .i64 yb) ∧ w'.cell? ⟨Q, 0, none⟩ = some (.slice za n zc) ∧ w'.cell? ⟨Q, 1, none⟩ = some (.int .i64 yb)) (first | assumption | go_keep) (first
        | (go_at_call 20; refine (sameInts _ _ _ _ _ n g' g' (unhide HDd).hy (unhide HDd).hz (fun _ _ => rfl)).mono ?_; rintro e V1 ⟨rfl, hd⟩; have M1 : Below W7.heap.size W7 V1 := by (obtain ⟨d, rfl⟩ := hd; exact ⟨rfl, rfl, rfl, Nat.le_refl _, fun _ _ => rfl⟩)
           have E1 := (unhide HD).below M1; obtain ⟨c11, c12, c13, c14, c15, c16, c17⟩ := E1.cells; have HE1 := hide E1; clear E1 hd)
        | (go_at_call 21; refine (implMemOk _ _ _ _ _ m ln F n g bank (unhide HE1).hi (unhide HE1).hx).mono ?_; rintro e V2 ⟨rfl, N2⟩; have M2 := below_snoc M1 N2; have E2 := (unhide HD).below M2; obtain ⟨c21, c22, c23, c24, c25, c26, c27⟩ := E2.cells; have HE2 := hide E2; clear E2 N2)
        | (go_at_call 22; refine (specMemOk _ _ _ _ _ m ln F n g bank (unhide HE2).hi (unhide HE2).hx).mono ?_; rintro e V3 ⟨rfl, N3⟩; have M3 := below_snoc M2 N3; have E3 := (unhide HD).below M3; obtain ⟨c31, c32, c33, c34, c35, c36, c37⟩ := E3.cells; clear E3 N3))
      all_goals
        go_wp2_with fail
        go_meet
        exact ⟨by simp, M3⟩
    case rest =>
    obtain ⟨rfl, LX⟩ := hcut
    have CX := below_snoc C7 LX
    have DX := (unhide HD).below LX
    clear C7 LX HD HDd c1 c2 c3 c4 c5 c6 c7
    have q0 : 0 ≤ x % 65536 := by omega
    have q1 : x % 65536 < 65536 := by omega
    have hcs := rg_cases _ q0 q1
    have HR := hide (fun W => implRegion W x)
    obtain ⟨c1, c2, c3, c4, c5, c6, c7⟩ := DX.cells
    go_wp2_with fail
    refine (unhide HR _).mono ?_
    rintro e wr ⟨rfl, hwr⟩
    rw [hwr]
    clear hwr HR
    go_wp2_with fail
    refine (specMemOk _ _ _ _ _ m ln F n g bank DX.hi DX.hx).mono ?_
    rintro e W8 ⟨rfl, L8⟩
    have C8 := below_snoc CX L8
    have D8 := DX.below L8
    clear DX L8 CX c1 c2 c3 c4 c5 c6 c7 q0 q1
    obtain ⟨c1, c2, c3, c4, c5, c6, c7⟩ := D8.cells
    cases hO : okMem m ln F n g bank
    · have hb : yb = bank := HB.out.symm.trans (poke_no (g := g) hO).1
      have HPK : Hid (peekV m ln F n g bank x = 0) := by show _ = _; unfold peekV; rw [hO]; rfl
      clear hO hcs HG HB
      subst hb
      go_wp2_with fail
      refine (implPeek _ _ _ _ _ m ln F n g yb x D8.hi D8.hx).mono ?_
      rintro e W9 ⟨rfl, L9⟩
      rw [HPK.out]
      have C9 := below_snoc C8 L9
      go_wp2
      go_ret
      exact ⟨rfl, C9⟩
    · have hok := hO
      obtain ⟨hI, hn, -, -⟩ := okMem_of hO
      have HB' := hide (show pokeB true m bank (x % 65536) y = yb by have := HB.out; rw [hO] at this; exact this)
      have HG' := hide (show pokeG true g (x % 65536) y = g' by have := HG.out; rw [hO] at this; exact this)
      clear HB HG
      subst hn
      rcases (show (rgN (x % 65536) = 1 ∧ 0 ≤ rgP (x % 65536) ∧ rgP (x % 65536) < 512) ∨ ((rgN (x % 65536) = 5 ∨ rgN (x % 65536) = 6) ∧ 0 ≤ rgP (x % 65536) ∧ rgP (x % 65536) < 256) ∨ (rgN (x % 65536) = 2 ∨ rgN (x % 65536) = 3 ∨ rgN (x % 65536) = 4 ∨ rgN (x % 65536) = 7) by omega) with ⟨hr, p0, p1⟩ | ⟨hr, p0, p1⟩ | hr
      · have hp := poke_ram (y := y) hok hr
        have hb : yb = bank := HB'.out.symm.trans hp.1
        have hg : g' = setAt g (rgP (x % 65536)).toNat (y % 256) := HG'.out.symm.trans hp.2.1
        subst hg
        have HPK := hide hp.2.2
        clear hp HB' HG' hO hok hI
        subst hb
        rw [hr]
        clear hr
        obtain ⟨k, hk⟩ : ∃ k : Nat, rgP (x % 65536) = k := ⟨(rgP (x % 65536)).toNat, by omega⟩
        rw [hk] at p0 p1 HPK D8 ⊢
        rw [Int.toNat_natCast] at HPK D8
        clear hk
        obtain ⟨a', c', e', -, hrow, -⟩ := id D8.hy
        simp only [Value.slice.injEq] at e'
        obtain ⟨rfl, -, rfl⟩ := e'
        obtain ⟨rb, ro, rfl, hcell⟩ := hrow k (by omega)
        rw [setAt_same] at hcell
        have hwk : IntKind.i64.wrap (k : Int) = (k : Int) := by rw [IntKind.wrap_i64]; omega
        have hrl := block_lt_of_cell hcell
        have HD8 := hide D8
        have HDd := hide D8.drew
        clear hrow D8
        go_upto_region 13 with (fail)
        go_region_held3 (fun w' => w'.cell? ⟨p, 0, none⟩ = some (.slice va m vc) ∧ w'.cell? ⟨p + 1, 0, none⟩ = some (.slice qa 512 qc) ∧ w'.cell? ⟨p + 1, 1, none⟩ = some (.int .i64 yb) ∧ w'.cell? ⟨P, 0, none⟩ = some (.slice (some ⟨rb, ro, none⟩) 512 yc) ∧ w'.cell? ⟨P, 1, none⟩ = some (.int .i64 yb) ∧ w'.cell? ⟨Q, 0, none⟩ = some (.slice za 512 zc) ∧ w'.cell? ⟨Q, 1, none⟩ = some (.int .i64 yb) ∧ w'.cell? ⟨rb, ro + k, none⟩ = some (.int .i64 (y % 256))) (first | assumption | go_keep) (first
          | (go_at_call 24; refine (implPeek _ _ _ _ _ m ln F 512 _ yb x (unhide HDd).hi (unhide HDd).hy).mono ?_; rintro e V1 ⟨rfl, N1⟩; rw [HPK.out]; have M1 : Below W8.heap.size W8 V1 := Below.trans (⟨rfl, rfl, rfl, Nat.le_refl _, fun _ _ => rfl⟩ : Below W8.heap.size W8 W8.drew) N1; have E1 := (unhide HD8).below M1; obtain ⟨k1, k2, k3, k4, k5, k6, k7⟩ := E1.cells; have hc1 := (M1.cell (p := ⟨rb, ro + k, none⟩) hrl).trans hcell; clear E1 N1)
          | (go_at_call 16; refine (implByte _ _).mono ?_; rintro e wb ⟨rfl, rfl⟩))
        all_goals
          go_wp2
          go_ret
          exact ⟨rfl, C8.trans (Below.trans (M1.mono C8.size) ⟨rfl, rfl, rfl, Nat.le_refl _, fun _ _ => rfl⟩)⟩
      · obtain ⟨k, hk⟩ : ∃ k : Nat, rgP (x % 65536) = k := ⟨(rgP (x % 65536)).toNat, by omega⟩
        have hk256 : k < 256 := by omega
        have hp := poke_bank (y := y) hok hr hk256
        have hb : yb = y % 256 % (m : Int) := HB'.out.symm.trans hp.1
        have hg : g' = g := HG'.out.symm.trans hp.2.1
        subst hg
        have HPK := hide hp.2.2
        have hbl : bankLen m ln F = 256 := by unfold bankLen; rw [hI]; rfl
        clear hp HB' HG' hO hok hI
        subst hb
        rw [hk] at p0 p1 ⊢
        clear hk
        generalize rgN (x % 65536) = rn at *
        have e1 : (rn == 1) = false := by rcases hr with h | h <;> rw [h] <;> rfl
        have HR56 := hide hr
        clear hr
        have hwk : IntKind.i64.wrap (k : Int) = (k : Int) := by rw [IntKind.wrap_i64]; omega
        have hwa : wrap64 (32768 + (k : Int)) = 32768 + (k : Int) := by unfold wrap64; omega
        have hwb : IntKind.i64.wrap (32768 + (k : Int)) = 32768 + (k : Int) := by rw [IntKind.wrap_i64]; omega
        have hk2 : (k : Int) < 256 := by omega
        generalize hyb : y % 256 % (m : Int) = yb at *
        have HD8 := hide D8
        have HDd := hide D8.drew
        clear D8 hyb
        go_upto_region 14 with (fail)
        have hr := unhide HR56
        go_cut [100, 101] (fun s100 s101 WX => s100 = .bool (rn == 5) ∧ WX = W8)
        case first =>
          go_wp2_with fail
          go_meet
          exact ⟨rfl, rfl⟩
        case rest =>
        obtain ⟨rfl, hw1⟩ := hcut
        have hw2 := hw1.symm
        subst hw2
        clear hw1
        go_upto_if 100 with (fail)
        go_cut [100, 102] (fun s100 s102 WX => s100 = .bool true ∧ WX = W8)
        case first =>
          rcases hr with rfl | rfl
          · go_wp2_with fail
            go_meet
            exact ⟨rfl, rfl⟩
          · go_wp2_with fail
            go_meet
            exact ⟨rfl, rfl⟩
        case rest =>
        obtain ⟨rfl, hw1⟩ := hcut
        have hw2 := hw1.symm
        subst hw2
        clear hw1
        clear hr HR56 e1 c3 c6 c7 p0 p1
        go_upto_region 16 with (fail)
        go_region_with (first
          | (go_at_call 20; refine (sameInts _ _ _ _ _ 512 _ _ (unhide HDd).hy (unhide HDd).hx (fun _ _ => rfl)).mono ?_; rintro e V1 ⟨rfl, hd⟩; have M1 : Below W8.heap.size W8 V1 := by (obtain ⟨d, rfl⟩ := hd; exact ⟨rfl, rfl, rfl, Nat.le_refl _, fun _ _ => rfl⟩)
             have E1 := (unhide HD8).below M1; obtain ⟨k11, k12, -, k14, k15, -, -⟩ := E1.cells; have HE1 := hide E1; clear E1 hd)
          | (go_at_call 24; refine (implPeek _ _ _ _ _ m ln F 512 _ yb (32768 + (k : Int)) (unhide HE1).hi (unhide HE1).hy).mono ?_; rintro e V2 ⟨rfl, N2⟩; rw [HPK.out]; have M2 := below_snoc M1 N2; have E2 := (unhide HD8).below M2; obtain ⟨k21, k22, -, k24, k25, -, -⟩ := E2.cells; have HE2 := hide E2; clear E2 N2)
          | (go_at_call 16; refine (implByte _ _).mono ?_; rintro e wb ⟨rfl, rfl⟩)
          | (go_at_call 25; refine (implBankOf _ _ _ m ln F (y % 256) (unhide HE2).hi).mono ?_; rintro e V3 ⟨bv, rfl, O3, N3⟩; rw [hbl] at O3; obtain ⟨ba, bc, hbv, -, hbr, -, -⟩ := id O3; subst hbv; obtain ⟨bb, bo, rfl, hbc⟩ := hbr k hk256; have M3 := below_snoc M2 N3; have E3 := (unhide HD8).below M3; obtain ⟨k31, k32, -, k34, k35, -, -⟩ := E3.cells; clear E3 N3 O3 hbr))
        all_goals
          go_wp2
          go_ret
          exact ⟨by first | rfl | simp, C8.trans (Below.trans (M3.mono C8.size) ⟨rfl, rfl, rfl, Nat.le_refl _, fun _ _ => rfl⟩)⟩
      · have hp := poke_none (m := m) (ln := ln) (F := F) (n := 512) (g := g) (bank := bank) (y := y) hr
        have hb : yb = bank := HB'.out.symm.trans hp.1
        have hg : g' = g := HG'.out.symm.trans hp.2.1
        subst hg
        have HPK := hide hp.2.2
        clear hp HB' HG' hO hok hI
        subst hb
        generalize rgN (x % 65536) = rn at *
        have e1 : (rn == 1) = false := by simp; omega
        have e5 : (rn == 5) = false := by simp; omega
        have e6 : (rn == 6) = false := by simp; omega
        clear hr
        go_wp2_with fail
        refine (sameInts _ _ _ _ _ 512 _ _ D8.hy D8.hx (fun _ _ => rfl)).mono ?_
        rintro e V1 ⟨rfl, hd⟩
        have M1 : Below W8.heap.size W8 V1 := by (obtain ⟨d, rfl⟩ := hd; exact ⟨rfl, rfl, rfl, Nat.le_refl _, fun _ _ => rfl⟩)
        have E1 := D8.below M1
        clear hd D8 c1 c2 c3 c4 c5 c6 c7
        obtain ⟨c1, c2, c3, c4, c5, c6, c7⟩ := E1.cells
        go_wp2_with fail
        refine (implPeek _ _ _ _ _ m ln F 512 _ yb x E1.hi E1.hy).mono ?_
        rintro e V2 ⟨rfl, N2⟩
        rw [HPK.out]
        have C9 := below_snoc (below_snoc C8 M1) N2
        go_wp2
        go_ret
        exact ⟨rfl, C9⟩
set_option maxRecDepth 100000 in
theorem lifted (os : Os) (started : os.Started) (H : Type) (enc : TypeId × Value → H) :
    ReturnsInHanded {} Try.checked os 4 .any (Rows.fnMemorySpec.pre6 enc Try.prog Try.f4 Rows.fnMemoryRow.domain false) (Rows.fnMemorySpec.post enc Try.prog Try.f4 false true false false) := by
  refine returnsInHanded_of_change (C := Try.checked) own started (by kernel_rfl) Try.func4
    (ChangeSpec.witness6 (enc := enc) (C := Try.checked) false ⟨#[], #[.slice none 0 0], []⟩ 8 (by kernel_rfl) (by kernel_rfl) (by kernel_rfl) (by kernel_rfl)) ?_
  intro W base args ds gs before hval0 hW hcnd _
  have hval : ∀ (j : Nat) t v, Try.f4.params[j]? = some t → args[j]? = some v → Value.okWide Try.prog W .any base t v := hval0
  have hW' := hW
  obtain ⟨p, q, hA0, hV, rfl, hfz, hnd⟩ := hW
  have hA : DataW.TrodAll enc Try.prog W 0 (fun _ => true) true Try.f4.params.toList args.toList ds p := hA0
  rw [Try.params4] at hA hval
  obtain ⟨v0, vs0, d0, ds0, p0, q0, hargs, rfl, rfl, h0, r0⟩ := trodAll_cons hA
  obtain ⟨rfl, rfl, rfl⟩ := trodAll_nil r0
  obtain rfl : args = #[v0] := by cases args; simp_all
  obtain ⟨rfl, rfl⟩ := trodVars_none hV
  have k0 := h0
  have lt0 : ∀ x ∈ p0, x.block < W.heap.size := by obtain ⟨m, hm⟩ := k0; exact DataW.trod_lt m _ _ _ hm
  obtain ⟨s0, n0, c0, rfl⟩ := okWide_slice Try.underlying22 (hval 0 22 v0 rfl rfl)
  obtain ⟨f0, w0⟩ := openInts (k := .u8) Try.underlying22 Try.underlying5 (by kernel_rfl) h0
  clear hA0 hval0
  refine (walk s0 n0 c0 f0 W w0).mono fun e W' ⟨he, bel⟩ => ?_
  subst he
  exact ⟨_, rfl, _, _, _, [], _, [], hW', trodAll_mk1 (shut_bool Try.underlying4 _), (trodAll_cons_mk (Below.trod laidOut (by kernel_rfl) (of_decide_eq_true (by kernel_rfl)) k0 bel lt0) trodAll_mk0), rfl, bel.frame _, fun h => by cases h⟩
theorem over : Rows.fnMemoryRow.holds Try.pinned (OpenSpec.ofChange Rows.fnMemorySpec) :=
  OpenClaim.holds_of_wide 4 Try.f4 rfl rfl rfl rfl rfl rfl rfl ⟨rfl, rfl, rfl, rfl, rfl⟩ rfl rfl rfl rfl rfl (by kernel_rfl) Try.func4 (by kernel_rfl)
    (of_decide_eq_true (by kernel_rfl)) (by unfold Func.isWrapper; first | (rw [if_pos (by decide +kernel)]; kernel_rfl) | (rw [if_neg (by decide +kernel)]; exact ⟨rfl, rfl⟩))
    (fun os started H enc _ => lifted os started H enc)
end Go.Proofs.Ytpaedkefmebjjae.fnMemory
namespace Go.Proofs.Ytpaedkefmebjjae
theorem fnMemory_holds : Rows.FnMemorySaid := fnMemory.over
end Go.Proofs.Ytpaedkefmebjjae
