/- At every row of bytes: what is fetched of the memory that is drawn from them has the bytes that stand there, and what it accesses is an address, with the program's table of ops as its own text lays it. -/
import Derived.Test.YtpaedkefmebjjafDoorRows
import Derived.Test.YtpaedkefmebjjafDoorO
import Derived.Test.YtpaedkefmebjjafDoorY9
import Derived.Test.YtpaedkefmebjjafDoorQ8
import Derived.Test.YtpaedkefmebjjafDoorI7
import Derived.Test.YtpaedkefmebjjafDoorCards
import Derived.Test.YtpaedkefmebjjafDoorTie
import Derived.ChangeSame
import Derived.ChangeVars
import Derived.JoinedOf
import Derived.RowKit
import Derived.RowKitTokens
import Derived.LaidLaws
import Derived.LaidHandle
import Derived.Stop.Joined
import Derived.SevenTiedAt
import Derived.OpenVars
import Derived.WalkKit
import Derived.ProofKit
import Derived.OpenShut
import Derived.ShutString
import Derived.ChangeOld
import Derived.Below
import Derived.Deep.RegionWith
namespace Go.Proofs.YtpaedkefmebjjafDoor.fnFetched
open Go.ChangeShapes Go.WideShapes Go.ChangeAt Go.RowKit
open Go.ChangeMaps (open_string shut_string)
set_option linter.unusedVariables false
theorem own : ownKnob Tryd.prog.godebug = none := by kernel_rfl
theorem laidOut : laidOutB Tryd.prog = true := by kernel_rfl
set_option maxRecDepth 40000
open Go.Sort
theorem own_ints {w : World} {lo : Nat} {v : Value} {n : Nat} {f : Nat → Int} (h : OwnInts w lo v n f) : Ints .i64 w (fun b _ => lo ≤ b) v n f := by
  obtain ⟨a, cap, rfl, hn, hr, hF, hL⟩ := h
  exact ⟨a, cap, rfl, hn, hr, fun b o h => hL b o h⟩
set_option maxHeartbeats 16000000 in
theorem walk (s0 : Option Addr) (n0 c0 : Nat) (f0 : Nat → Int) (w : World) (w0 : n0 ≤ 9223372036854775807 ∧ RowOf .u8 w s0 n0 f0 ∧ ∀ i, i < n0 → (Lit.int .u8 (f0 i)).wf = true) (hd0 : ∀ i v, leafAt Tryd.prog 4 88 Rows.laid_loop_example_g00231_impl_opRows i = some v → w.cell? ⟨0, i, none⟩ = some v) :
    Calls Tryd.prog 3 #[.slice s0 n0 c0] w fun e w' => e = .returned (.bool true) ∧ Below w.heap.size w w' := by
  obtain ⟨hn63, hrow, hwf⟩ := w0
  by_cases hbig : (1048576 : Int) < (n0 : Int)
  · have hb' : decide ((1048576 : Int) < (n0 : Int)) = true := decide_eq_true hbig
    go_enter Tryd.func3, Tryd.ntmps3
    go_wp2_with fail
    refine (lawsBig _ s0 n0 c0).mono ?_
    rintro e w' ⟨rfl, rfl⟩
    rw [hb']
    go_wp2
    go_ret
    exact ⟨rfl, Below.refl _ _⟩
  · have hb' : decide ((1048576 : Int) < (n0 : Int)) = false := decide_eq_false hbig
    have hn : n0 ≤ 1048576 := by omega
    have hby : ∀ i, i < n0 → 0 ≤ f0 i ∧ f0 i ≤ 255 := fun i hi => by
      have h : IntKind.u8.min ≤ f0 i ∧ f0 i ≤ IntKind.u8.max := by simpa [Lit.wf] using hwf i hi
      exact ⟨h.1, h.2⟩
    have hcode : Code w w.heap.size s0 n0 := ⟨hn, fun i hi => by
      obtain ⟨b, off, e, hc⟩ := hrow i hi
      exact ⟨b, off, e, block_lt_of_cell hc, f0 i, hc, (hby i hi).1, by have := (hby i hi).2; omega⟩⟩
    clear hbig hwf hn63 hrow hby
    have hT := opTab_of hd0
    clear hd0
    go_enter Tryd.func3, Tryd.ntmps3
    go_wp2_with fail
    refine (lawsBig _ s0 n0 c0).mono ?_
    rintro e w' ⟨rfl, rfl⟩
    rw [hb']
    clear hb'
    go_wp2_with fail
    refine (drawFetch _ s0 n0 c0 hcode).mono ?_
    rintro e w2 ⟨v, m, ra, ln, rc, F, q, n, g, bank, x, rfl, hm, hS, hO, L2⟩
    obtain ⟨va, vc, hv, -, -⟩ := hS.sep.outer
    subst hv
    obtain ⟨qa, qc, hq, -, -, -, -⟩ := id hO
    subst hq
    have LB : Below w2.heap.size w2 ((w2.alloc (.cells #[.slice va m vc] 26)).alloc (.cells #[.slice qa n qc, .int .i64 bank] 29)) := ((Below.refl _ _).alloc (Nat.le_refl _) _).alloc (by simp) _
    have H0 := (hS.ints.keep (wrote_below LB Nowhere) (fun _ _ _ x => x)).mono (G := fun _ _ => True) (fun _ _ _ _ => trivial)
    have K0 := ((own_ints hO).keep (wrote_below LB Nowhere) (fun _ _ _ x => x)).mono (G := fun _ _ => True) (fun _ _ _ _ => trivial)
    have b0 : ((w2.alloc (.cells #[.slice va m vc] 26)).alloc (.cells #[.slice qa n qc, .int .i64 bank] 29)).heap[w2.heap.size]? = some (.cells #[.slice va m vc] 26 (0, 0)) := boxA (box_new w2 _ _) _
    have b1 : ((w2.alloc (.cells #[.slice va m vc] 26)).alloc (.cells #[.slice qa n qc, .int .i64 bank] 29)).heap[w2.heap.size + 1]? = some (.cells #[.slice qa n qc, .int .i64 bank] 29 (0, 0)) := by simpa using box_new (w2.alloc (.cells #[.slice va m vc] 26)) #[.slice qa n qc, .int .i64 bank] 29
    have C2 := L2.trans (LB.mono L2.size)
    clear hS hO L2 LB
    go_wp2_with fail
    generalize hp : w2.heap.size = p at *
    generalize ((w2.alloc (.cells #[.slice va m vc] 26)).alloc (.cells #[.slice qa n qc, .int .i64 bank] 29)) = W3 at *
    clear hp
    refine (implFetch _ _ _ _ _ m ln F n g bank x H0 K0 (hT.mono C2)).mono ?_
    rintro e W4 ⟨rfl, L4⟩
    have HSF := hide (fun (W : World) h k => specFetch W (fun _ _ => True) (fun _ _ => True) (.slice va m vc) (.slice qa n qc) m ln F n g bank x h k)
    have HPK := hide (fun (W : World) h k => implPeek W (fun _ _ => True) (fun _ _ => True) (.slice va m vc) (.slice qa n qc) m ln F n g bank x h k)
    have HP1 := hide (fun (W : World) h k => implPeek W (fun _ _ => True) (fun _ _ => True) (.slice va m vc) (.slice qa n qc) m ln F n g bank (IntKind.i64.wrap (x + 1)) h k)
    have HP2 := hide (fun (W : World) h k => implPeek W (fun _ _ => True) (fun _ _ => True) (.slice va m vc) (.slice qa n qc) m ln F n g bank (IntKind.i64.wrap (x + 2)) h k)
    rw [peekV_wrapK] at HP1 HP2
    have hA : (opLn (peekV m ln F n g bank x) = 1 → fetchA (peekV m ln F n g bank) x = 0) ∧ (opLn (peekV m ln F n g bank x) = 2 → fetchA (peekV m ln F n g bank) x = peekV m ln F n g bank (x + 1)) ∧ (opLn (peekV m ln F n g bank x) = 3 → fetchA (peekV m ln F n g bank) x = peekV m ln F n g bank (x + 1) % 256 + 256 * (peekV m ln F n g bank (x + 2) % 256)) := by
      unfold fetchA
      refine ⟨fun h => ?_, fun h => ?_, fun h => ?_⟩
      · rw [if_neg (by omega), if_neg (by omega)]
      · rw [if_pos h]
      · rw [if_neg (by omega), if_pos h]
    have hcs := opLn_cases (peekV m ln F n g bank x)
    generalize fetchA (peekV m ln F n g bank) x = arg at *
    generalize peekV m ln F n g bank x = op at *
    generalize peekV m ln F n g bank (x + 1) = v1 at *
    generalize peekV m ln F n g bank (x + 2) = v2 at *
    have HA := hide hA
    have HC := hide hcs
    clear hA hcs
    have LY : Below W4.heap.size W4 (W4.alloc (.cells #[.int .i64 op, .int .i64 arg] 33)) := (Below.refl _ _).alloc (Nat.le_refl _) _
    have C5 := below_snoc (below_snoc C2 L4) LY
    have k0 := box_keep (box_keep b0 L4 (boxLt b0)) LY (boxLt (box_keep b0 L4 (boxLt b0)))
    have k1 := box_keep (box_keep b1 L4 (boxLt b1)) LY (boxLt (box_keep b1 L4 (boxLt b1)))
    have k6 := box_new W4 #[.int .i64 op, .int .i64 arg] 33
    have H1 := (H0.keep (wrote_below L4 Nowhere) (fun _ _ _ x => x)).keep (wrote_below LY Nowhere) (fun _ _ _ x => x)
    have K1 := (K0.keep (wrote_below L4 Nowhere) (fun _ _ _ x => x)).keep (wrote_below LY Nowhere) (fun _ _ _ x => x)
    clear b0 b1 H0 K0 L4 LY C2
    go_upto_region 5 with (fail)
    generalize hP : W4.heap.size = P at *
    generalize (W4.alloc (.cells #[.int .i64 op, .int .i64 arg] 33)) = W5 at *
    clear hP
    have HH := hide (fun d os => H1.keep (wrote_below (below_regrown W5 d os) Nowhere) (fun _ _ _ x => x))
    have HK := hide (fun d os => K1.keep (wrote_below (below_regrown W5 d os) Nowhere) (fun _ _ _ x => x))
    have q1 := cell_regrown (show W5.cell? ⟨p, 0, none⟩ = some (.slice va m vc) from boxC k0 0)
    have q2 := cell_regrown (show W5.cell? ⟨p + 1, 0, none⟩ = some (.slice qa n qc) from boxC k1 0)
    have q3 := cell_regrown (show W5.cell? ⟨p + 1, 1, none⟩ = some (.int .i64 bank) from boxC k1 1)
    have q4 := cell_regrown (show W5.cell? ⟨P, 0, none⟩ = some (.int .i64 op) from boxC k6 0)
    have q5 := cell_regrown (show W5.cell? ⟨P, 1, none⟩ = some (.int .i64 arg) from boxC k6 1)
    go_cut [44] (fun s WX => s = .bool false ∧ Below W5.heap.size W5 WX)
    case first =>
      rename_i J K' hJ hK'
      refine reg5 W5 p P va m vc qa n qc bank op x arg v2 _ (by simp) rfl rfl rfl rfl q1 q2 q3 q4 q5 (fun d os => unhide HSF _ (unhide HH d os) (unhide HK d os)) (fun d os => unhide HPK _ (unhide HH d os) (unhide HK d os)) ?_
      intro a W Fq x1 LQ
      have x1' : a.tmps[44]?.getD undef = .bool false := by rw [x1]; rfl
      rw [Fq.same]
      simp only [reg5_sl, List.foldl_cons, List.foldl_nil]
      rw [x1']
      generalize a.tmps[30]?.getD undef = s30
      generalize a.tmps[31]?.getD undef = s31
      generalize a.tmps[32]?.getD undef = s32
      generalize a.tmps[33]?.getD undef = s33
      generalize a.tmps[34]?.getD undef = s34
      generalize a.tmps[35]?.getD undef = s35
      generalize a.tmps[36]?.getD undef = s36
      generalize a.tmps[37]?.getD undef = s37
      generalize a.tmps[38]?.getD undef = s38
      generalize a.tmps[39]?.getD undef = s39
      generalize a.tmps[40]?.getD undef = s40
      generalize a.tmps[41]?.getD undef = s41
      generalize a.tmps[42]?.getD undef = s42
      generalize a.tmps[43]?.getD undef = s43
      go_simp
      refine hK' _ _ (Met.intro (hJ _ _ ?_))
      (repeat apply Exists.intro)
      refine ⟨?relreg5, rfl⟩
      exact ⟨rfl, LQ⟩
    case rest =>
    obtain ⟨rfl, LX⟩ := hcut
    obtain ⟨W6, hW6⟩ : ∃ x, x = wc := ⟨_, rfl⟩
    subst hW6
    have C6 := below_snoc C5 LX
    replace k0 := box_keep k0 LX (boxLt k0)
    replace k1 := box_keep k1 LX (boxLt k1)
    replace k6 := box_keep k6 LX (boxLt k6)
    have H6 := H1.keep (wrote_below LX Nowhere) (fun _ _ _ x => x)
    have K6 := K1.keep (wrote_below LX Nowhere) (fun _ _ _ x => x)
    clear LX C5 H1 K1 HH HK q1 q2 q3 q4 q5
    have e6 := boxC k6
    go_wp2_with fail
    refine (show Calls Tryd.prog 9 #[.int .i64 op] W6 (fun e w' => e = .returned (.int .i64 (opLn op)) ∧ Below W6.heap.size W6 w') from implOpLen W6 op (hT.mono C6)).mono ?_
    rintro e W7 ⟨rfl, L7⟩
    have C7 := below_snoc C6 L7
    replace k0 := box_keep k0 L7 (boxLt k0)
    replace k1 := box_keep k1 L7 (boxLt k1)
    replace k6 := box_keep k6 L7 (boxLt k6)
    have H7 := H6.keep (wrote_below L7 Nowhere) (fun _ _ _ x => x)
    have K7 := K6.keep (wrote_below L7 Nowhere) (fun _ _ _ x => x)
    clear L7 C6 H6 K6 e6
    go_upto_region 8 with (fail)
    have HH := hide (fun d os => H7.keep (wrote_below (below_regrown W7 d os) Nowhere) (fun _ _ _ x => x))
    have HK := hide (fun d os => K7.keep (wrote_below (below_regrown W7 d os) Nowhere) (fun _ _ _ x => x))
    have q1 := cell_regrown (show W7.cell? ⟨p, 0, none⟩ = some (.slice va m vc) from boxC k0 0)
    have q2 := cell_regrown (show W7.cell? ⟨p + 1, 0, none⟩ = some (.slice qa n qc) from boxC k1 0)
    have q3 := cell_regrown (show W7.cell? ⟨p + 1, 1, none⟩ = some (.int .i64 bank) from boxC k1 1)
    have q4 := cell_regrown (show W7.cell? ⟨P, 0, none⟩ = some (.int .i64 op) from boxC k6 0)
    have q5 := cell_regrown (show W7.cell? ⟨P, 1, none⟩ = some (.int .i64 arg) from boxC k6 1)
    go_cut [88] (fun s WX => s = .bool false ∧ Below W7.heap.size W7 WX)
    case first =>
      rename_i J K' hJ hK'
      have hcs := unhide HC
      have hA := unhide HA
      clear HC HA
      generalize opLn op = len at *
      rcases hcs with rfl | rfl | rfl
      · have ha := hA.1 rfl
        clear hA
        rw [ha] at q5
        refine reg8a W7 p P va m vc qa n qc bank op x v1 v2 _ (by simp) rfl rfl rfl rfl rfl q1 q2 q3 q4 q5 ?_
        intro a W Fq x1 LQ
        have x1' : a.tmps[88]?.getD undef = .bool false := by rw [x1]; rfl
        rw [Fq.same]
        simp only [reg8a_sl, List.foldl_cons, List.foldl_nil]
        rw [x1']
        generalize a.tmps[48]?.getD undef = s48
        generalize a.tmps[49]?.getD undef = s49
        generalize a.tmps[50]?.getD undef = s50
        generalize a.tmps[51]?.getD undef = s51
        generalize a.tmps[52]?.getD undef = s52
        generalize a.tmps[53]?.getD undef = s53
        generalize a.tmps[54]?.getD undef = s54
        generalize a.tmps[55]?.getD undef = s55
        generalize a.tmps[56]?.getD undef = s56
        generalize a.tmps[57]?.getD undef = s57
        generalize a.tmps[58]?.getD undef = s58
        generalize a.tmps[59]?.getD undef = s59
        generalize a.tmps[60]?.getD undef = s60
        generalize a.tmps[61]?.getD undef = s61
        generalize a.tmps[62]?.getD undef = s62
        generalize a.tmps[63]?.getD undef = s63
        generalize a.tmps[64]?.getD undef = s64
        generalize a.tmps[65]?.getD undef = s65
        generalize a.tmps[66]?.getD undef = s66
        generalize a.tmps[67]?.getD undef = s67
        generalize a.tmps[68]?.getD undef = s68
        generalize a.tmps[69]?.getD undef = s69
        generalize a.tmps[70]?.getD undef = s70
        generalize a.tmps[71]?.getD undef = s71
        generalize a.tmps[72]?.getD undef = s72
        generalize a.tmps[73]?.getD undef = s73
        generalize a.tmps[74]?.getD undef = s74
        generalize a.tmps[75]?.getD undef = s75
        generalize a.tmps[76]?.getD undef = s76
        generalize a.tmps[77]?.getD undef = s77
        generalize a.tmps[78]?.getD undef = s78
        generalize a.tmps[79]?.getD undef = s79
        generalize a.tmps[80]?.getD undef = s80
        generalize a.tmps[81]?.getD undef = s81
        generalize a.tmps[82]?.getD undef = s82
        generalize a.tmps[83]?.getD undef = s83
        generalize a.tmps[84]?.getD undef = s84
        generalize a.tmps[85]?.getD undef = s85
        generalize a.tmps[86]?.getD undef = s86
        generalize a.tmps[87]?.getD undef = s87
        go_simp
        refine hK' _ _ (Met.intro (hJ _ _ ?_))
        (repeat apply Exists.intro)
        refine ⟨?relreg8a, rfl⟩
        exact ⟨rfl, LQ⟩
      · have ha := hA.2.1 rfl
        clear hA
        rw [ha] at q5
        refine reg8b W7 p P va m vc qa n qc bank op x v1 v2 _ (by simp) rfl rfl rfl rfl rfl q1 q2 q3 q4 q5 (fun d os => unhide HP1 _ (unhide HH d os) (unhide HK d os)) ?_
        intro a W Fq x1 LQ
        have x1' : a.tmps[88]?.getD undef = .bool false := by rw [x1]; rfl
        rw [Fq.same]
        simp only [reg8b_sl, List.foldl_cons, List.foldl_nil]
        rw [x1']
        generalize a.tmps[48]?.getD undef = s48
        generalize a.tmps[49]?.getD undef = s49
        generalize a.tmps[50]?.getD undef = s50
        generalize a.tmps[51]?.getD undef = s51
        generalize a.tmps[52]?.getD undef = s52
        generalize a.tmps[53]?.getD undef = s53
        generalize a.tmps[54]?.getD undef = s54
        generalize a.tmps[55]?.getD undef = s55
        generalize a.tmps[56]?.getD undef = s56
        generalize a.tmps[57]?.getD undef = s57
        generalize a.tmps[58]?.getD undef = s58
        generalize a.tmps[59]?.getD undef = s59
        generalize a.tmps[60]?.getD undef = s60
        generalize a.tmps[61]?.getD undef = s61
        generalize a.tmps[62]?.getD undef = s62
        generalize a.tmps[63]?.getD undef = s63
        generalize a.tmps[64]?.getD undef = s64
        generalize a.tmps[65]?.getD undef = s65
        generalize a.tmps[66]?.getD undef = s66
        generalize a.tmps[67]?.getD undef = s67
        generalize a.tmps[68]?.getD undef = s68
        generalize a.tmps[69]?.getD undef = s69
        generalize a.tmps[70]?.getD undef = s70
        generalize a.tmps[71]?.getD undef = s71
        generalize a.tmps[72]?.getD undef = s72
        generalize a.tmps[73]?.getD undef = s73
        generalize a.tmps[74]?.getD undef = s74
        generalize a.tmps[75]?.getD undef = s75
        generalize a.tmps[76]?.getD undef = s76
        generalize a.tmps[77]?.getD undef = s77
        generalize a.tmps[78]?.getD undef = s78
        generalize a.tmps[79]?.getD undef = s79
        generalize a.tmps[80]?.getD undef = s80
        generalize a.tmps[81]?.getD undef = s81
        generalize a.tmps[82]?.getD undef = s82
        generalize a.tmps[83]?.getD undef = s83
        generalize a.tmps[84]?.getD undef = s84
        generalize a.tmps[85]?.getD undef = s85
        generalize a.tmps[86]?.getD undef = s86
        generalize a.tmps[87]?.getD undef = s87
        go_simp
        refine hK' _ _ (Met.intro (hJ _ _ ?_))
        (repeat apply Exists.intro)
        refine ⟨?relreg8b, rfl⟩
        exact ⟨rfl, LQ⟩
      · have ha := hA.2.2 rfl
        clear hA
        rw [ha] at q5
        refine reg8c W7 p P va m vc qa n qc bank op x v1 v2 _ (by simp) rfl rfl rfl rfl rfl q1 q2 q3 q4 q5 (fun d os => unhide HP1 _ (unhide HH d os) (unhide HK d os)) (fun d os => unhide HP2 _ (unhide HH d os) (unhide HK d os)) ?_
        intro a W Fq x1 LQ
        have x1' : a.tmps[88]?.getD undef = .bool false := by rw [x1]; rfl
        rw [Fq.same]
        simp only [reg8c_sl, List.foldl_cons, List.foldl_nil]
        rw [x1']
        generalize a.tmps[48]?.getD undef = s48
        generalize a.tmps[49]?.getD undef = s49
        generalize a.tmps[50]?.getD undef = s50
        generalize a.tmps[51]?.getD undef = s51
        generalize a.tmps[52]?.getD undef = s52
        generalize a.tmps[53]?.getD undef = s53
        generalize a.tmps[54]?.getD undef = s54
        generalize a.tmps[55]?.getD undef = s55
        generalize a.tmps[56]?.getD undef = s56
        generalize a.tmps[57]?.getD undef = s57
        generalize a.tmps[58]?.getD undef = s58
        generalize a.tmps[59]?.getD undef = s59
        generalize a.tmps[60]?.getD undef = s60
        generalize a.tmps[61]?.getD undef = s61
        generalize a.tmps[62]?.getD undef = s62
        generalize a.tmps[63]?.getD undef = s63
        generalize a.tmps[64]?.getD undef = s64
        generalize a.tmps[65]?.getD undef = s65
        generalize a.tmps[66]?.getD undef = s66
        generalize a.tmps[67]?.getD undef = s67
        generalize a.tmps[68]?.getD undef = s68
        generalize a.tmps[69]?.getD undef = s69
        generalize a.tmps[70]?.getD undef = s70
        generalize a.tmps[71]?.getD undef = s71
        generalize a.tmps[72]?.getD undef = s72
        generalize a.tmps[73]?.getD undef = s73
        generalize a.tmps[74]?.getD undef = s74
        generalize a.tmps[75]?.getD undef = s75
        generalize a.tmps[76]?.getD undef = s76
        generalize a.tmps[77]?.getD undef = s77
        generalize a.tmps[78]?.getD undef = s78
        generalize a.tmps[79]?.getD undef = s79
        generalize a.tmps[80]?.getD undef = s80
        generalize a.tmps[81]?.getD undef = s81
        generalize a.tmps[82]?.getD undef = s82
        generalize a.tmps[83]?.getD undef = s83
        generalize a.tmps[84]?.getD undef = s84
        generalize a.tmps[85]?.getD undef = s85
        generalize a.tmps[86]?.getD undef = s86
        generalize a.tmps[87]?.getD undef = s87
        go_simp
        refine hK' _ _ (Met.intro (hJ _ _ ?_))
        (repeat apply Exists.intro)
        refine ⟨?relreg8c, rfl⟩
        exact ⟨rfl, LQ⟩
    case rest =>
    obtain ⟨rfl, LX⟩ := hcut
    obtain ⟨W8, hW8⟩ : ∃ x, x = wc := ⟨_, rfl⟩
    subst hW8
    have C8 := below_snoc C7 LX
    clear LX C7 H7 K7 HH HK q1 q2 q3 q4 q5 k0 k1 k6 HA HC HSF HPK HP1 HP2
    go_wp2_with fail
    refine (drawAccess _ s0 n0 c0 (hcode.up C8 C8.size)).mono ?_
    rintro e w9 ⟨⟨jo, ja, A, X, S, Pc, Z, N, C, I, rfl⟩, L9⟩
    have LB : Below w9.heap.size w9 ((w9.alloc (.cells #[.int .i64 jo, .int .i64 ja] 33)).alloc (.cells #[.int .i64 A, .int .i64 X, .int .i64 S, .int .i64 Pc, .bool Z, .bool N, .bool C, .bool I] 39)) := ((Below.refl _ _).alloc (Nat.le_refl _) _).alloc (by simp) _
    have b8 : ((w9.alloc (.cells #[.int .i64 jo, .int .i64 ja] 33)).alloc (.cells #[.int .i64 A, .int .i64 X, .int .i64 S, .int .i64 Pc, .bool Z, .bool N, .bool C, .bool I] 39)).heap[w9.heap.size]? = some (.cells #[.int .i64 jo, .int .i64 ja] 33 (0, 0)) := boxA (box_new w9 _ _) _
    have b9 : ((w9.alloc (.cells #[.int .i64 jo, .int .i64 ja] 33)).alloc (.cells #[.int .i64 A, .int .i64 X, .int .i64 S, .int .i64 Pc, .bool Z, .bool N, .bool C, .bool I] 39)).heap[w9.heap.size + 1]? = some (.cells #[.int .i64 A, .int .i64 X, .int .i64 S, .int .i64 Pc, .bool Z, .bool N, .bool C, .bool I] 39 (0, 0)) := by simpa using box_new (w9.alloc (.cells #[.int .i64 jo, .int .i64 ja] 33)) #[.int .i64 A, .int .i64 X, .int .i64 S, .int .i64 Pc, .bool Z, .bool N, .bool C, .bool I] 39
    have C9 := below_snoc (below_snoc C8 L9) LB
    clear L9 LB C8
    go_wp2_with fail
    generalize hp : w9.heap.size = p9 at *
    generalize ((w9.alloc (.cells #[.int .i64 jo, .int .i64 ja] 33)).alloc (.cells #[.int .i64 A, .int .i64 X, .int .i64 S, .int .i64 Pc, .bool Z, .bool N, .bool C, .bool I] 39)) = V1 at *
    clear hp
    refine (implAccess _ jo ja A X S Pc Z N C I (hT.mono C9)).mono ?_
    rintro e V2 ⟨rfl, L⟩
    have D2 := below_snoc C9 L
    replace b8 := box_keep b8 L (boxLt b8)
    replace b9 := box_keep b9 L (boxLt b9)
    clear L C9
    have e8 := boxC b8
    have e9 := boxC b9
    go_wp2_with fail
    clear e8 e9
    refine (specAccess _ jo ja A X S Pc Z N C I).mono ?_
    rintro e V3 ⟨rfl, L⟩
    have D3 := below_snoc D2 L
    replace b8 := box_keep b8 L (boxLt b8)
    replace b9 := box_keep b9 L (boxLt b9)
    clear L D2
    go_wp2_with fail
    refine (drawCpuNew _ s0 n0 c0 (hcode.up D3 D3.size)).mono ?_
    rintro e V4 ⟨nv, nm, nra, nln, nrc, NF, rfl, hnm, nS, L⟩
    obtain ⟨na, nc, hnv, -, -⟩ := nS.sep.outer
    subst hnv
    have LB : Below V4.heap.size V4 (V4.alloc (.cells #[.slice na nm nc] 26)) := (Below.refl _ _).alloc (Nat.le_refl _) _
    have D5 := below_snoc (below_snoc D3 L) LB
    replace b8 := box_keep (box_keep b8 L (boxLt b8)) LB (boxLt (box_keep b8 L (boxLt b8)))
    have b16 := box_new V4 #[.slice na nm nc] 26
    have NH := (nS.ints.keep (wrote_below LB Nowhere) (fun _ _ _ x => x)).mono (G := fun _ _ => True) (fun _ _ _ _ => trivial)
    clear L LB D3 nS b9
    go_wp2_with fail
    generalize hp : V4.heap.size = p16 at *
    generalize (V4.alloc (.cells #[.slice na nm nc] 26)) = V5 at *
    clear hp
    refine (implCpuNew _ _ _ nm nln NF NH).mono ?_
    rintro e V6 ⟨rfl, L⟩
    have HSN := hide (fun (W : World) h => specCpuNew W (fun _ _ => True) (.slice na nm nc) nm nln NF h)
    generalize newPc nm nln NF = npc at *
    have LB : Below V6.heap.size V6 (V6.alloc (.cells #[.int .i64 0, .int .i64 0, .int .i64 255, .int .i64 npc, .bool false, .bool false, .bool false, .bool true] 39)) := (Below.refl _ _).alloc (Nat.le_refl _) _
    have D7 := below_snoc (below_snoc D5 L) LB
    replace b8 := box_keep (box_keep b8 L (boxLt b8)) LB (boxLt (box_keep b8 L (boxLt b8)))
    replace b16 := box_keep (box_keep b16 L (boxLt b16)) LB (boxLt (box_keep b16 L (boxLt b16)))
    have b17 := box_new V6 #[.int .i64 0, .int .i64 0, .int .i64 255, .int .i64 npc, .bool false, .bool false, .bool false, .bool true] 39
    have NH7 := (NH.keep (wrote_below L Nowhere) (fun _ _ _ x => x)).keep (wrote_below LB Nowhere) (fun _ _ _ x => x)
    clear L LB D5 NH
    go_upto_region 15 with (fail)
    generalize hp : V6.heap.size = p17 at *
    generalize (V6.alloc (.cells #[.int .i64 0, .int .i64 0, .int .i64 255, .int .i64 npc, .bool false, .bool false, .bool false, .bool true] 39)) = V7 at *
    clear hp
    have NHR := hide (fun d os => NH7.keep (wrote_below (below_regrown V7 d os) Nowhere) (fun _ _ _ x => x))
    have HT := hide (fun d os => hT.mono (D7.trans ((below_regrown V7 d os).mono D7.size)))
    have q1 := cell_regrown (show V7.cell? ⟨p9, 0, none⟩ = some (.int .i64 jo) from boxC b8 0)
    have q2 := cell_regrown (show V7.cell? ⟨p16, 0, none⟩ = some (.slice na nm nc) from boxC b16 0)
    have r0 := cell_regrown (show V7.cell? ⟨p17, 0, none⟩ = some (.int .i64 0) from boxC b17 0)
    have r1 := cell_regrown (show V7.cell? ⟨p17, 1, none⟩ = some (.int .i64 0) from boxC b17 1)
    have r2 := cell_regrown (show V7.cell? ⟨p17, 2, none⟩ = some (.int .i64 255) from boxC b17 2)
    have r3 := cell_regrown (show V7.cell? ⟨p17, 3, none⟩ = some (.int .i64 npc) from boxC b17 3)
    have r4 := cell_regrown (show V7.cell? ⟨p17, 4, none⟩ = some (.bool false) from boxC b17 4)
    have r5 := cell_regrown (show V7.cell? ⟨p17, 5, none⟩ = some (.bool false) from boxC b17 5)
    have r6 := cell_regrown (show V7.cell? ⟨p17, 6, none⟩ = some (.bool false) from boxC b17 6)
    have r7 := cell_regrown (show V7.cell? ⟨p17, 7, none⟩ = some (.bool true) from boxC b17 7)
    obtain ⟨i0, i1⟩ := acc_in jo ja X
    have hac := acOf_eq jo
    have HAV := hide (acc_v jo A)
    generalize accAt jo ja X = ad at *
    generalize accV jo A = av at *
    by_cases h2 : accOf jo = 2
    · rw [h2] at hac ⊢
      refine reg15a V7 p9 p16 p17 na nm nc jo npc ad av _ (by simp) rfl rfl rfl rfl rfl rfl rfl rfl rfl q1 q2 r0 r1 r2 r3 r4 r5 r6 r7 i0 i1 (fun d os => (show Calls Tryd.prog 16 #[.int .i64 jo] _ (fun e w' => e = .returned (.int .i64 2) ∧ Below _ _ w') from hac ▸ implOpAccess _ jo (unhide HT d os))) (fun d os => unhide HSN _ (unhide NHR d os)) ?_
      intro a W Fq x1 LQ
      have x1' : a.tmps[2]?.getD undef = .bool true := by rw [x1]; rfl
      rw [Fq.same]
      simp only [reg15a_sl, List.foldl_cons, List.foldl_nil]
      rw [x1']
      generalize a.tmps[112]?.getD undef = s112
      generalize a.tmps[113]?.getD undef = s113
      generalize a.tmps[114]?.getD undef = s114
      generalize a.tmps[115]?.getD undef = s115
      generalize a.tmps[116]?.getD undef = s116
      generalize a.tmps[117]?.getD undef = s117
      generalize a.tmps[118]?.getD undef = s118
      generalize a.tmps[119]?.getD undef = s119
      generalize a.tmps[120]?.getD undef = s120
      generalize a.tmps[121]?.getD undef = s121
      generalize a.tmps[122]?.getD undef = s122
      generalize a.tmps[123]?.getD undef = s123
      generalize a.tmps[124]?.getD undef = s124
      generalize a.tmps[125]?.getD undef = s125
      generalize a.tmps[126]?.getD undef = s126
      generalize a.tmps[127]?.getD undef = s127
      generalize a.tmps[128]?.getD undef = s128
      generalize a.tmps[129]?.getD undef = s129
      generalize a.tmps[130]?.getD undef = s130
      generalize a.tmps[131]?.getD undef = s131
      generalize a.tmps[132]?.getD undef = s132
      generalize a.tmps[133]?.getD undef = s133
      generalize a.tmps[134]?.getD undef = s134
      generalize a.tmps[135]?.getD undef = s135
      generalize a.tmps[136]?.getD undef = s136
      generalize a.tmps[137]?.getD undef = s137
      generalize a.tmps[138]?.getD undef = s138
      generalize a.tmps[139]?.getD undef = s139
      generalize a.tmps[140]?.getD undef = s140
      generalize a.tmps[141]?.getD undef = s141
      generalize a.tmps[142]?.getD undef = s142
      generalize a.tmps[143]?.getD undef = s143
      generalize a.tmps[144]?.getD undef = s144
      generalize a.tmps[145]?.getD undef = s145
      generalize a.tmps[146]?.getD undef = s146
      generalize a.tmps[147]?.getD undef = s147
      generalize a.tmps[148]?.getD undef = s148
      generalize a.tmps[149]?.getD undef = s149
      generalize a.tmps[150]?.getD undef = s150
      generalize a.tmps[151]?.getD undef = s151
      generalize a.tmps[152]?.getD undef = s152
      generalize a.tmps[153]?.getD undef = s153
      generalize a.tmps[154]?.getD undef = s154
      generalize a.tmps[155]?.getD undef = s155
      generalize a.tmps[156]?.getD undef = s156
      generalize a.tmps[157]?.getD undef = s157
      generalize a.tmps[158]?.getD undef = s158
      generalize a.tmps[159]?.getD undef = s159
      generalize a.tmps[160]?.getD undef = s160
      generalize a.tmps[161]?.getD undef = s161
      generalize a.tmps[162]?.getD undef = s162
      go_simp
      clear x1 x1' Fq
      go_wp2
      go_ret
      exact ⟨rfl, D7.trans (LQ.mono D7.size)⟩
    · have hav : av = 0 := unhide HAV h2
      subst hav
      have h2' : (accOf jo == 2) = false := by simpa using h2
      generalize accOf jo = kd at *
      clear h2
      refine reg15b V7 p9 p16 p17 na nm nc jo npc kd ad _ (by simp) rfl rfl rfl rfl rfl rfl rfl rfl rfl q1 q2 r0 r1 r2 r3 r4 r5 r6 r7 i0 i1 h2' (fun d os => (show Calls Tryd.prog 16 #[.int .i64 jo] _ (fun e w' => e = .returned (.int .i64 kd) ∧ Below _ _ w') from hac ▸ implOpAccess _ jo (unhide HT d os))) (fun d os => unhide HSN _ (unhide NHR d os)) ?_
      intro a W Fq x1 LQ
      have x1' : a.tmps[2]?.getD undef = .bool true := by rw [x1]; rfl
      rw [Fq.same]
      simp only [reg15b_sl, List.foldl_cons, List.foldl_nil]
      rw [x1']
      generalize a.tmps[112]?.getD undef = s112
      generalize a.tmps[113]?.getD undef = s113
      generalize a.tmps[114]?.getD undef = s114
      generalize a.tmps[115]?.getD undef = s115
      generalize a.tmps[116]?.getD undef = s116
      generalize a.tmps[117]?.getD undef = s117
      generalize a.tmps[118]?.getD undef = s118
      generalize a.tmps[119]?.getD undef = s119
      generalize a.tmps[120]?.getD undef = s120
      generalize a.tmps[121]?.getD undef = s121
      generalize a.tmps[122]?.getD undef = s122
      generalize a.tmps[123]?.getD undef = s123
      generalize a.tmps[124]?.getD undef = s124
      generalize a.tmps[125]?.getD undef = s125
      generalize a.tmps[126]?.getD undef = s126
      generalize a.tmps[127]?.getD undef = s127
      generalize a.tmps[128]?.getD undef = s128
      generalize a.tmps[129]?.getD undef = s129
      generalize a.tmps[130]?.getD undef = s130
      generalize a.tmps[131]?.getD undef = s131
      generalize a.tmps[132]?.getD undef = s132
      generalize a.tmps[133]?.getD undef = s133
      generalize a.tmps[134]?.getD undef = s134
      generalize a.tmps[135]?.getD undef = s135
      generalize a.tmps[136]?.getD undef = s136
      generalize a.tmps[137]?.getD undef = s137
      generalize a.tmps[138]?.getD undef = s138
      generalize a.tmps[139]?.getD undef = s139
      generalize a.tmps[140]?.getD undef = s140
      generalize a.tmps[141]?.getD undef = s141
      generalize a.tmps[142]?.getD undef = s142
      generalize a.tmps[143]?.getD undef = s143
      generalize a.tmps[144]?.getD undef = s144
      generalize a.tmps[145]?.getD undef = s145
      generalize a.tmps[146]?.getD undef = s146
      generalize a.tmps[147]?.getD undef = s147
      generalize a.tmps[148]?.getD undef = s148
      generalize a.tmps[149]?.getD undef = s149
      generalize a.tmps[150]?.getD undef = s150
      generalize a.tmps[151]?.getD undef = s151
      generalize a.tmps[152]?.getD undef = s152
      generalize a.tmps[153]?.getD undef = s153
      generalize a.tmps[154]?.getD undef = s154
      generalize a.tmps[155]?.getD undef = s155
      generalize a.tmps[156]?.getD undef = s156
      generalize a.tmps[157]?.getD undef = s157
      generalize a.tmps[158]?.getD undef = s158
      generalize a.tmps[159]?.getD undef = s159
      generalize a.tmps[160]?.getD undef = s160
      generalize a.tmps[161]?.getD undef = s161
      generalize a.tmps[162]?.getD undef = s162
      go_simp
      clear x1 x1' Fq
      go_wp2
      go_ret
      exact ⟨rfl, D7.trans (LQ.mono D7.size)⟩
theorem data_of_laid {W : World} (h : laidMetH Tryd.prog Rows.fnFetchedRow.laid W) : laidMet Tryd.prog [("loop.example/g00231/impl.opRows", Rows.laid_loop_example_g00231_impl_opRows)] W := h
noncomputable def laidWorld (os : Os) : World :=
  let w0 := World.holding Tryd.prog os ⟨#[], #[], []⟩
  let w0 := { w0 with heap := w0.heap.modify 0 fun
      | .cells _ t frozen => .cells (flatD 6 Rows.laid_loop_example_g00231_impl_opRows).toArray t frozen
      | o => o }
  w0
set_option maxRecDepth 100000 in
theorem laidWorld_met (os : Os) (args : Array Value) : laidMetH Tryd.prog Rows.fnFetchedRow.laid ((laidWorld os).forCall (fun _ _ => 0) ⟨#[], args, []⟩).memory :=
  laidMetH_of_parts (laidMet_of_run' 8 (by kernel_rfl) (by kernel_rfl)) (by kernel_rfl)
set_option maxRecDepth 100000 in
theorem lifted (os : Os) (started : os.Started) (H : Type) (enc : TypeId × Value → H) :
    ReturnsInHanded {} Tryd.checked os 3 .any (fun w args => (Rows.fnFetchedSpec.pre enc Tryd.prog Tryd.f3 [] false w args ∧ laidMetH Tryd.prog Rows.fnFetchedRow.laid w) ∧ sizedMet enc Tryd.prog Tryd.f3 (OpenSpec.ofChange Rows.fnFetchedSpec) false w args)
      (Rows.fnFetchedSpec.post enc Tryd.prog Tryd.f3 false true false false) := by
  refine returnsInHanded_of_change_and (C := Tryd.checked) (X := fun w _ => laidMetH Tryd.prog Rows.fnFetchedRow.laid w) (fun _ _ _ hh h => h.of_heap hh) own started (by kernel_rfl) Tryd.func3
    (ChangeSpec.witness_at (enc := enc) (C := Tryd.checked) (os := os) (X := fun w _ => laidMetH Tryd.prog Rows.fnFetchedRow.laid w) false (laidWorld os) #[.slice none 0 0] 8 rfl (by kernel_rfl) (by kernel_rfl) (by kernel_rfl) (by kernel_rfl) (by kernel_rfl) (laidWorld_met os _)) ?_
  intro W base args ds gs before hval0 hW _ _ hL _
  have hd0 := laid_cell_mem (t := 88) (show Tryd.prog.globalNamed "loop.example/g00231/impl.opRows" = some 0 by kernel_rfl) (by kernel_rfl) (d := Rows.laid_loop_example_g00231_impl_opRows) (by simp) (data_of_laid hL) 4
  have hval : ∀ (j : Nat) t v, Tryd.f3.params[j]? = some t → args[j]? = some v → Value.okWide Tryd.prog W .any base t v := hval0
  have hW' := hW
  obtain ⟨p, q, hA0, hV, rfl, hfz, hnd⟩ := hW
  have hA : DataW.TrodAll enc Tryd.prog W 0 (fun _ => true) true Tryd.f3.params.toList args.toList ds p := hA0
  rw [Tryd.params3] at hA hval
  obtain ⟨v0, vs0, d0, ds0, p0, q0, hargs, rfl, rfl, h0, r0⟩ := trodAll_cons hA
  obtain ⟨rfl, rfl, rfl⟩ := trodAll_nil r0
  obtain rfl : args = #[v0] := by cases args; simp_all
  have hV0 : DataW.TrodVars enc Tryd.prog W (fun _ => true) ["loop.example/g00231/impl.opRows"] gs q := hV
  obtain ⟨g0, gs0, qv0, rfl, hV1⟩ := trodVars_cons hV0
  obtain rfl := trodVars_nil hV1
  have k0 := h0
  have lt0 : ∀ x ∈ p0, x.block < W.heap.size := by obtain ⟨m, hm⟩ := k0; exact DataW.trod_lt m _ _ _ hm
  obtain ⟨s0, n0, c0, rfl⟩ := okWide_slice Tryd.underlying22 (hval 0 22 v0 rfl rfl)
  obtain ⟨f0, w0⟩ := openInts (k := .u8) Tryd.underlying22 Tryd.underlying5 (by kernel_rfl) h0
  clear hA0 hval0
  refine (walk s0 n0 c0 f0 W w0 hd0).mono fun e W' ⟨he, bel⟩ => ?_
  subst he
  exact ⟨_, rfl, _, _, _, [], _, _, hW', trodAll_mk1 (shut_bool Tryd.underlying4 _), (trodAll_cons_mk (Below.trod laidOut (by kernel_rfl) (of_decide_eq_true (by kernel_rfl)) k0 bel lt0) trodAll_mk0), Below.trodVars laidOut bel (by kernel_rfl) hV, bel.frame _, fun h => by cases h⟩
theorem over : Rows.fnFetchedRow.holds Tryd.pinned (OpenSpec.ofChange Rows.fnFetchedSpec) :=
  OpenClaim.holds_of_wide 3 Tryd.f3 rfl rfl rfl rfl rfl rfl rfl ⟨rfl, rfl, rfl, rfl, rfl⟩ rfl rfl rfl rfl rfl (by kernel_rfl) Tryd.func3 (by kernel_rfl)
    (of_decide_eq_true (by kernel_rfl)) (by unfold Func.isWrapper; first | (rw [if_pos (by decide +kernel)]; kernel_rfl) | (rw [if_neg (by decide +kernel)]; exact ⟨rfl, rfl⟩))
    (fun os started H enc _ => lifted os started H enc)
theorem card : Rows.FnFetchedCardSaid :=
  Claim7.holds_tied_plain_at .later [] [.data] true (true, "94a1d08b9d502b36ba0849ac03f14cb911022efd7c4a94951713aa7f16a424b0") true
    over (fun _ h => by cases h) (by kernel_rfl) (fun _ h => by cases h) fnFetched_row_tie rfl ⟨rfl, rfl⟩ (by kernel_rfl) rfl
    (fun f fn hf hfn => by
      obtain rfl : f = 3 := Option.some.inj ((show Tryd.prog.funcNamed "loop.example/g00231/laws.FnFetched" = some 3 by kernel_rfl).symm.trans hf) |>.symm
      obtain rfl : fn = Tryd.f3 := (Option.some.inj (Tryd.func3.symm.trans hfn)).symm
      exact ⟨by kernel_rfl, fun j t ht => by
        rw [Tryd.params3] at ht
        rcases j with _ | j
        · obtain rfl : t = 22 := by simpa using ht.symm
          exact (show Tryd.prog.wantsStandIn 22 = false by kernel_rfl)
        · simp at ht⟩)
    (by kernel_rfl)
end Go.Proofs.YtpaedkefmebjjafDoor.fnFetched
namespace Go.Proofs.YtpaedkefmebjjafDoor
theorem fnFetched_holds : Rows.FnFetchedCardSaid := fnFetched.card
end Go.Proofs.YtpaedkefmebjjafDoor
