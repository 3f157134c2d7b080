/- At every image and memory of the mirrors' types that are not too great and every integer of 64 bits Fetch of the program answers as Fetch of the specification, and turns nothing of its arguments. -/
import Derived.Test.YtpaedkefmebjjanDoorRows
import Derived.Test.YtpaedkefmebjjanDoorO
import Derived.Test.YtpaedkefmebjjanDoorR7f
import Derived.Test.YtpaedkefmebjjanDoorI7
import Derived.Test.YtpaedkefmebjjanDoorCards
import Derived.Test.YtpaedkefmebjjanDoorTie
import Derived.ChangeSame
import Derived.ChangeVars
import Derived.JoinedOf
import Derived.RowKit
import Derived.RowKitTokens
import Derived.LaidLaws
import Derived.LaidHandle
import Derived.Stop.Joined
import Derived.SevenTiedAt
import Derived.OpenVars
import Derived.WalkKit
import Derived.ProofKit
import Derived.OpenShut
import Derived.ShutString
import Derived.ChangeOld
import Derived.Below
import Derived.Deep.RegionWith
namespace Go.Proofs.YtpaedkefmebjjanDoor.fnExactFetch
open Go.ChangeShapes Go.WideShapes Go.ChangeAt Go.RowKit
open Go.ChangeMaps (open_string shut_string)
set_option linter.unusedVariables false
theorem own : ownKnob Tryd.prog.godebug = none := by kernel_rfl
theorem laidOut : laidOutB Tryd.prog = true := by kernel_rfl
set_option maxRecDepth 40000
set_option maxHeartbeats 8000000 in
theorem walk (u0 : Value) (m0 : Nat) (ra0 : Nat → Option Addr) (ln0 rc0 : Nat → Nat) (f0 : Nat → Nat → Int) (s1Ram : Option Addr) (n1Ram c1Ram : Nat) (f1Ram : Nat → Int) (a1Bank : Int) (a2 : Int) (w : World) (w0 : RawSS w u0 m0 ra0 ln0 rc0 f0) (w1Ram : n1Ram ≤ 9223372036854775807 ∧ RowOf .i64 w s1Ram n1Ram f1Ram ∧ ∀ i, i < n1Ram → (Lit.int .i64 (f1Ram i)).wf = true) (w1Bank : (Lit.int .i64 a1Bank).wf = true) (w2 : (Lit.int .i64 a2).wf = true) (hd0 : ∀ i v, leafAt Tryd.prog 4 114 Rows.laid_loop_example_g00231_impl_opRows i = some v → w.cell? ⟨0, i, none⟩ = some v) :
    Calls Tryd.prog 3 #[.agg #[u0], .agg #[.slice s1Ram n1Ram c1Ram, .int .i64 a1Bank], .int .i64 a2] w fun e w' => e = .returned (.bool true) ∧ Below w.heap.size w w' := by
  have hT := opTab_of hd0
  clear hd0
  obtain ⟨h1n, h1r, h1f⟩ := w1Ram
  by_cases hbig0 : (1048576 : Int) < ((m0 + psum ln0 m0 : Nat) : Int)
  · have HZ0 := hide (szOut_no hbig0)
    clear hbig0
    have C0 : Below w.heap.size w ((w.alloc (.cells #[u0] 24)).alloc (.cells #[.slice s1Ram n1Ram c1Ram, .int .i64 a1Bank] 27)) := ((Below.refl _ _).alloc (Nat.le_refl _) _).alloc (by simp) _
    have k0 : ((w.alloc (.cells #[u0] 24)).alloc (.cells #[.slice s1Ram n1Ram c1Ram, .int .i64 a1Bank] 27)).heap[w.heap.size]? = some (.cells #[u0] 24 (0, 0)) := boxA (box_new w #[u0] 24) (.cells #[.slice s1Ram n1Ram c1Ram, .int .i64 a1Bank] 27)
    have k1 : ((w.alloc (.cells #[u0] 24)).alloc (.cells #[.slice s1Ram n1Ram c1Ram, .int .i64 a1Bank] 27)).heap[w.heap.size + 1]? = some (.cells #[.slice s1Ram n1Ram c1Ram, .int .i64 a1Bank] 27 (0, 0)) := by simpa using box_new (w.alloc (.cells #[u0] 24)) #[.slice s1Ram n1Ram c1Ram, .int .i64 a1Bank] 27
    go_enter Tryd.func3, Tryd.ntmps3
    go_wp2_with fail
    generalize ((w.alloc (.cells #[u0] 24)).alloc (.cells #[.slice s1Ram n1Ram c1Ram, .int .i64 a1Bank] 27)) = W0 at *
    refine (szImage _ u0 m0 ra0 ln0 rc0 f0 (w0.below C0) (1048576) (by omega) (by omega)).mono ?_
    rintro e W1 ⟨rfl, L⟩
    rw [HZ0.out]
    have C1 := below_snoc C0 L
    replace k0 := box_keep k0 L (boxLt k0)
    replace k1 := box_keep k1 L (boxLt k1)
    have sz1 := L.size
    clear L C0
    go_wp2
    go_ret
    exact ⟨rfl, C1⟩
  · have HZ0 := hide (szOut_ok (show ((m0 + psum ln0 m0 : Nat) : Int) ≤ 1048576 by omega))
    have hnn0 : ¬ (1048576 - ((m0 + psum ln0 m0 : Nat) : Int) < 0) := by omega
    have hsm0 : m0 + psum ln0 m0 ≤ 1048576 := by omega
    have hI0 := w0.ints hsm0
    by_cases hbig1 : 1048576 - ((m0 + psum ln0 m0 : Nat) : Int) < ((n1Ram : Nat) : Int)
    · have HZ1 := hide (szOut_no hbig1)
      clear hbig1
      have C0 : Below w.heap.size w ((w.alloc (.cells #[u0] 24)).alloc (.cells #[.slice s1Ram n1Ram c1Ram, .int .i64 a1Bank] 27)) := ((Below.refl _ _).alloc (Nat.le_refl _) _).alloc (by simp) _
      have k0 : ((w.alloc (.cells #[u0] 24)).alloc (.cells #[.slice s1Ram n1Ram c1Ram, .int .i64 a1Bank] 27)).heap[w.heap.size]? = some (.cells #[u0] 24 (0, 0)) := boxA (box_new w #[u0] 24) (.cells #[.slice s1Ram n1Ram c1Ram, .int .i64 a1Bank] 27)
      have k1 : ((w.alloc (.cells #[u0] 24)).alloc (.cells #[.slice s1Ram n1Ram c1Ram, .int .i64 a1Bank] 27)).heap[w.heap.size + 1]? = some (.cells #[.slice s1Ram n1Ram c1Ram, .int .i64 a1Bank] 27 (0, 0)) := by simpa using box_new (w.alloc (.cells #[u0] 24)) #[.slice s1Ram n1Ram c1Ram, .int .i64 a1Bank] 27
      go_enter Tryd.func3, Tryd.ntmps3
      go_wp2_with fail
      generalize ((w.alloc (.cells #[u0] 24)).alloc (.cells #[.slice s1Ram n1Ram c1Ram, .int .i64 a1Bank] 27)) = W0 at *
      refine (szImage _ u0 m0 ra0 ln0 rc0 f0 (w0.below C0) (1048576) (by omega) (by omega)).mono ?_
      rintro e W1 ⟨rfl, L⟩
      rw [HZ0.out]
      have C1 := below_snoc C0 L
      replace k0 := box_keep k0 L (boxLt k0)
      replace k1 := box_keep k1 L (boxLt k1)
      have sz1 := L.size
      clear L C0
      have c_k0 := boxC k0
      have c_k1 := boxC k1
      go_wp2_with fail
      clear c_k0 c_k1
      refine (szMem _ s1Ram n1Ram c1Ram a1Bank (1048576 - ((m0 + psum ln0 m0 : Nat) : Int)) h1n (by omega) (by omega)).mono ?_
      rintro e W2 ⟨rfl, L⟩
      rw [HZ1.out]
      have C2 := below_snoc C1 L
      replace k0 := box_keep k0 L (boxLt k0)
      replace k1 := box_keep k1 L (boxLt k1)
      have sz2 := L.size
      clear L C1
      go_wp2
      go_ret
      exact ⟨rfl, C2⟩
    · have HZ1 := hide (szOut_ok (show ((n1Ram : Nat) : Int) ≤ 1048576 - ((m0 + psum ln0 m0 : Nat) : Int) by omega))
      have hnn1 : ¬ ((1048576 - ((m0 + psum ln0 m0 : Nat) : Int)) - ((n1Ram : Nat) : Int) < 0) := by omega
      have hn1 : n1Ram ≤ 1048576 := by omega
      clear hbig0
      clear hbig1
      have C0 : Below w.heap.size w ((w.alloc (.cells #[u0] 24)).alloc (.cells #[.slice s1Ram n1Ram c1Ram, .int .i64 a1Bank] 27)) := ((Below.refl _ _).alloc (Nat.le_refl _) _).alloc (by simp) _
      have k0 : ((w.alloc (.cells #[u0] 24)).alloc (.cells #[.slice s1Ram n1Ram c1Ram, .int .i64 a1Bank] 27)).heap[w.heap.size]? = some (.cells #[u0] 24 (0, 0)) := boxA (box_new w #[u0] 24) (.cells #[.slice s1Ram n1Ram c1Ram, .int .i64 a1Bank] 27)
      have k1 : ((w.alloc (.cells #[u0] 24)).alloc (.cells #[.slice s1Ram n1Ram c1Ram, .int .i64 a1Bank] 27)).heap[w.heap.size + 1]? = some (.cells #[.slice s1Ram n1Ram c1Ram, .int .i64 a1Bank] 27 (0, 0)) := by simpa using box_new (w.alloc (.cells #[u0] 24)) #[.slice s1Ram n1Ram c1Ram, .int .i64 a1Bank] 27
      go_enter Tryd.func3, Tryd.ntmps3
      go_wp2_with fail
      generalize ((w.alloc (.cells #[u0] 24)).alloc (.cells #[.slice s1Ram n1Ram c1Ram, .int .i64 a1Bank] 27)) = W0 at *
      refine (szImage _ u0 m0 ra0 ln0 rc0 f0 (w0.below C0) (1048576) (by omega) (by omega)).mono ?_
      rintro e W1 ⟨rfl, L⟩
      rw [HZ0.out]
      have C1 := below_snoc C0 L
      replace k0 := box_keep k0 L (boxLt k0)
      replace k1 := box_keep k1 L (boxLt k1)
      have sz1 := L.size
      clear L C0
      have c_k0 := boxC k0
      have c_k1 := boxC k1
      go_wp2_with fail
      clear c_k0 c_k1
      refine (szMem _ s1Ram n1Ram c1Ram a1Bank (1048576 - ((m0 + psum ln0 m0 : Nat) : Int)) h1n (by omega) (by omega)).mono ?_
      rintro e W2 ⟨rfl, L⟩
      rw [HZ1.out]
      have C2 := below_snoc C1 L
      replace k0 := box_keep k0 L (boxLt k0)
      replace k1 := box_keep k1 L (boxLt k1)
      have sz2 := L.size
      clear L C1
      have b0 := boxLt k1
      have c_k0 := boxC k0
      have c_k1 := boxC k1
      go_upto_region 8 with (fail)
      clear c_k0 c_k1
      obtain ⟨tS, htS⟩ : ∃ t, Hid (t = W2.heap.size) := ⟨_, rfl⟩
      go_cut [8] (fun s WX => ∃ (p : Nat), s = .pointer (some ⟨p, 0, none⟩) ∧ W2.heap.size ≤ p ∧ WX.heap[p]? = some (.cells #[.int .i64 (peekV m0 ln0 f0 n1Ram f1Ram a1Bank a2), .int .i64 (fetchA (peekV m0 ln0 f0 n1Ram f1Ram a1Bank) a2)] 31 (0, 0)) ∧ Below W2.heap.size W2 WX)
      case first =>
        rename_i J K' hJ hK'
        refine regFetchS W2 u0 m0 ln0 f0 (.slice s1Ram n1Ram c1Ram) n1Ram f1Ram a1Bank a2 _ (by simp) rfl rfl k0 k1 rfl hsm0 hn1 (hI0.keep (wrote_below C2 Nowhere) (fun _ _ _ x => x)) (Ints.keep (F := fun _ _ => True) ⟨_, _, rfl, hn1, h1r, fun _ _ _ => trivial⟩ (wrote_below C2 Nowhere) (fun _ _ _ x => x)) ?_
        intro a W p F x1 hp x3 L
        rw [F.same]
        simp only [regFetchS_sl, List.foldl_cons, List.foldl_nil]
        rw [x1]
        generalize a.tmps[22]?.getD undef = s22
        generalize a.tmps[23]?.getD undef = s23
        generalize a.tmps[24]?.getD undef = s24
        generalize a.tmps[25]?.getD undef = s25
        generalize a.tmps[26]?.getD undef = s26
        generalize a.tmps[27]?.getD undef = s27
        go_simp
        refine hK' _ _ (Met.intro (hJ _ _ ?_))
        (repeat apply Exists.intro)
        refine ⟨?relS, rfl⟩
        exact ⟨p, rfl, hp, x3, L⟩
      case rest =>
        obtain ⟨pS, rfl, hpS, kbS, LX⟩ := hcut
        obtain ⟨TS, hTS⟩ : ∃ x, x = wc := ⟨_, rfl⟩
        subst hTS
        have C3 := below_snoc C2 LX
        replace k0 := box_keep k0 LX (boxLt k0)
        replace k1 := box_keep k1 LX (boxLt k1)
        have sz3 := LX.size
        clear LX C2
        have lpS := boxLt kbS
        replace hpS : tS ≤ pS := by rw [htS.out]; exact hpS
        have loS : w.heap.size + 1 + 1 ≤ tS := by rw [htS.out]; omega
        clear htS
        obtain ⟨uzS, huzS⟩ : ∃ t, Hid (t = TS.heap.size) := ⟨_, rfl⟩
        replace lpS : pS < uzS := by rw [huzS.out]; exact lpS
        have luzS : uzS ≤ TS.heap.size := by rw [huzS.out]; exact Nat.le_refl _
        clear huzS
        have c_k0 := boxC k0
        have c_k1 := boxC k1
        have c_kbS := boxC kbS
        go_wp2_with fail
        clear c_k0 c_k1 c_kbS
        refine (onToImage _ _ u0 m0 ln0 f0 (hI0.keep (wrote_below C3 Nowhere) (fun _ _ _ x => x)) hsm0).mono ?_
        rintro e X0 ⟨v0, rfl, o0, L⟩
        have C4 := below_snoc C3 L
        replace k0 := box_keep k0 L (boxLt k0)
        replace k1 := box_keep k1 L (boxLt k1)
        replace kbS := box_keep kbS L (boxLt kbS)
        have sz4 := L.size
        clear L C3
        obtain ⟨y0, hy0, -⟩ := id o0.ex
        subst hy0
        obtain ⟨uz0, huz0⟩ : ∃ t, Hid (t = X0.heap.size) := ⟨_, rfl⟩
        replace o0 := o0.mono (E := fun b => uzS ≤ b ∧ b < uz0) (fun b hb h => ⟨by omega, by rw [huz0.out]; exact hb⟩)
        have luz0 : uzS ≤ uz0 := by rw [huz0.out]; omega
        replace C4 := C4.alloc C4.size (.cells #[.slice (some ⟨y0, 0, none⟩) m0 m0] 33)
        have LA : Below X0.heap.size X0 (X0.alloc (.cells #[.slice (some ⟨y0, 0, none⟩) m0 m0] 33)) := (Below.refl _ _).alloc (Nat.le_refl _) _
        replace k0 := boxA k0 (.cells #[.slice (some ⟨y0, 0, none⟩) m0 m0] 33)
        replace k1 := boxA k1 (.cells #[.slice (some ⟨y0, 0, none⟩) m0 m0] 33)
        replace kbS := boxA kbS (.cells #[.slice (some ⟨y0, 0, none⟩) m0 m0] 33)
        replace o0 := o0.below LA
        have x0 := box_new X0 #[.slice (some ⟨y0, 0, none⟩) m0 m0] 33
        have sA0 : uz0 + 1 ≤ (X0.alloc (.cells #[.slice (some ⟨y0, 0, none⟩) m0 m0] 33)).heap.size := by rw [huz0.out]; simp
        clear LA
        have c_k0 := boxC k0
        have c_k1 := boxC k1
        have c_kbS := boxC kbS
        have c_x0 := boxC x0
        go_wp2_with fail
        clear c_k0 c_k1 c_kbS c_x0
        generalize X0.alloc (.cells #[.slice (some ⟨y0, 0, none⟩) m0 m0] 33) = V0 at *
        rw [← huz0.out] at x0 ⊢
        clear huz0
        refine (onToMem _ (fun _ _ => True) _ n1Ram f1Ram a1Bank (Ints.keep (F := fun _ _ => True) ⟨_, _, rfl, hn1, h1r, fun _ _ _ => trivial⟩ (wrote_below C4 Nowhere) (fun _ _ _ x => x)) hn1).mono ?_
        rintro e X1 ⟨v1, rfl, o1, L⟩
        have C5 := below_snoc C4 L
        replace k0 := box_keep k0 L (boxLt k0)
        replace k1 := box_keep k1 L (boxLt k1)
        replace kbS := box_keep kbS L (boxLt kbS)
        replace x0 := box_keep x0 L (boxLt x0)
        replace o0 := o0.below L
        have sz5 := L.size
        clear L C4
        obtain ⟨ya1, yc1, hy1⟩ := o1.two
        subst hy1
        obtain ⟨uz1, huz1⟩ : ∃ t, Hid (t = X1.heap.size) := ⟨_, rfl⟩
        replace o1 := o1.mono (E := fun b => uz0 + 1 ≤ b ∧ b < uz1) (fun b hb h => ⟨by omega, by rw [huz1.out]; exact hb⟩)
        have luz1 : uz0 + 1 ≤ uz1 := by rw [huz1.out]; omega
        replace C5 := C5.alloc C5.size (.cells #[.slice ya1 n1Ram yc1, .int .i64 a1Bank] 35)
        have LA : Below X1.heap.size X1 (X1.alloc (.cells #[.slice ya1 n1Ram yc1, .int .i64 a1Bank] 35)) := (Below.refl _ _).alloc (Nat.le_refl _) _
        replace k0 := boxA k0 (.cells #[.slice ya1 n1Ram yc1, .int .i64 a1Bank] 35)
        replace k1 := boxA k1 (.cells #[.slice ya1 n1Ram yc1, .int .i64 a1Bank] 35)
        replace kbS := boxA kbS (.cells #[.slice ya1 n1Ram yc1, .int .i64 a1Bank] 35)
        replace x0 := boxA x0 (.cells #[.slice ya1 n1Ram yc1, .int .i64 a1Bank] 35)
        replace o0 := o0.below LA
        replace o1 := o1.below LA
        have x1 := box_new X1 #[.slice ya1 n1Ram yc1, .int .i64 a1Bank] 35
        have sA1 : uz1 + 1 ≤ (X1.alloc (.cells #[.slice ya1 n1Ram yc1, .int .i64 a1Bank] 35)).heap.size := by rw [huz1.out]; simp
        clear LA
        have c_k0 := boxC k0
        have c_k1 := boxC k1
        have c_kbS := boxC kbS
        have c_x0 := boxC x0
        have c_x1 := boxC x1
        go_wp2_with fail
        clear c_k0 c_k1 c_kbS c_x0 c_x1
        generalize X1.alloc (.cells #[.slice ya1 n1Ram yc1, .int .i64 a1Bank] 35) = V1 at *
        rw [← huz1.out] at x1 ⊢
        clear huz1
        refine (onImplFetch _ _ _ _ _ m0 ln0 f0 n1Ram f1Ram a1Bank a2 o0 o1 (hT.mono C5)).mono ?_
        rintro e GG ⟨rfl, L⟩
        have C6 := below_snoc C5 L
        replace k0 := box_keep k0 L (boxLt k0)
        replace k1 := box_keep k1 L (boxLt k1)
        replace kbS := box_keep kbS L (boxLt kbS)
        replace x0 := box_keep x0 L (boxLt x0)
        replace x1 := box_keep x1 L (boxLt x1)
        replace o0 := o0.below L
        replace o1 := o1.below L
        have sz6 := L.size
        clear L C5
        obtain ⟨uzG, huzG⟩ : ∃ t, Hid (t = GG.heap.size) := ⟨_, rfl⟩
        have luzG : uz1 + 1 ≤ uzG := by rw [huzG.out]; omega
        replace C6 := C6.alloc C6.size (.cells #[.int .i64 (peekV m0 ln0 f0 n1Ram f1Ram a1Bank a2), .int .i64 (fetchA (peekV m0 ln0 f0 n1Ram f1Ram a1Bank) a2)] 31)
        have LA : Below GG.heap.size GG (GG.alloc (.cells #[.int .i64 (peekV m0 ln0 f0 n1Ram f1Ram a1Bank a2), .int .i64 (fetchA (peekV m0 ln0 f0 n1Ram f1Ram a1Bank) a2)] 31)) := (Below.refl _ _).alloc (Nat.le_refl _) _
        replace k0 := boxA k0 (.cells #[.int .i64 (peekV m0 ln0 f0 n1Ram f1Ram a1Bank a2), .int .i64 (fetchA (peekV m0 ln0 f0 n1Ram f1Ram a1Bank) a2)] 31)
        replace k1 := boxA k1 (.cells #[.int .i64 (peekV m0 ln0 f0 n1Ram f1Ram a1Bank a2), .int .i64 (fetchA (peekV m0 ln0 f0 n1Ram f1Ram a1Bank) a2)] 31)
        replace kbS := boxA kbS (.cells #[.int .i64 (peekV m0 ln0 f0 n1Ram f1Ram a1Bank a2), .int .i64 (fetchA (peekV m0 ln0 f0 n1Ram f1Ram a1Bank) a2)] 31)
        replace x0 := boxA x0 (.cells #[.int .i64 (peekV m0 ln0 f0 n1Ram f1Ram a1Bank a2), .int .i64 (fetchA (peekV m0 ln0 f0 n1Ram f1Ram a1Bank) a2)] 31)
        replace x1 := boxA x1 (.cells #[.int .i64 (peekV m0 ln0 f0 n1Ram f1Ram a1Bank a2), .int .i64 (fetchA (peekV m0 ln0 f0 n1Ram f1Ram a1Bank) a2)] 31)
        replace o0 := o0.below LA
        replace o1 := o1.below LA
        have xG := box_new GG #[.int .i64 (peekV m0 ln0 f0 n1Ram f1Ram a1Bank a2), .int .i64 (fetchA (peekV m0 ln0 f0 n1Ram f1Ram a1Bank) a2)] 31
        have sAG : uzG + 1 ≤ (GG.alloc (.cells #[.int .i64 (peekV m0 ln0 f0 n1Ram f1Ram a1Bank a2), .int .i64 (fetchA (peekV m0 ln0 f0 n1Ram f1Ram a1Bank) a2)] 31)).heap.size := by rw [huzG.out]; simp
        clear LA
        have c_k0 := boxC k0
        have c_k1 := boxC k1
        have c_kbS := boxC kbS
        have c_x0 := boxC x0
        have c_x1 := boxC x1
        have c_xG := boxC xG
        go_wp2_with fail
        clear c_k0 c_k1 c_kbS c_x0 c_x1 c_xG
        generalize GG.alloc (.cells #[.int .i64 (peekV m0 ln0 f0 n1Ram f1Ram a1Bank a2), .int .i64 (fetchA (peekV m0 ln0 f0 n1Ram f1Ram a1Bank) a2)] 31) = VG at *
        rw [← huzG.out] at xG ⊢
        clear huzG
        refine (eqInstr_same _ _ _).mono ?_
        rintro e Q7 ⟨rfl, L⟩
        have C7 := below_snoc C6 L
        replace k0 := box_keep k0 L (boxLt k0)
        replace k1 := box_keep k1 L (boxLt k1)
        replace kbS := box_keep kbS L (boxLt kbS)
        replace x0 := box_keep x0 L (boxLt x0)
        replace x1 := box_keep x1 L (boxLt x1)
        replace xG := box_keep xG L (boxLt xG)
        replace o0 := o0.below L
        replace o1 := o1.below L
        have sz7 := L.size
        clear L C6
        have c_k0 := boxC k0
        have c_k1 := boxC k1
        have c_kbS := boxC kbS
        have c_x0 := boxC x0
        have c_x1 := boxC x1
        have c_xG := boxC xG
        go_upto_region 14 with (fail)
        go_cut [44] (fun s WX => s = .bool false ∧ Below Q7.heap.size Q7 WX)
        case first =>
          go_region_with (first
            | (go_at_call 9; refine (onToImage _ _ u0 m0 ln0 f0 (hI0.keep (wrote_below (below_snoc C7 (Below.refl _ Q7).drew) Nowhere) (fun _ _ _ x => x)) hsm0).mono ?_; rintro e YY ⟨vv, rfl, RR, MM⟩; have DD : Below Q7.heap.size Q7 YY := (Below.refl _ _).drew.trans MM; have d_x0 := boxC (box_keep x0 DD (boxLt x0)); have QQ := o0.below DD; skip)
            | (go_at_call 13; refine (onEqImage _ _ _ _ _ m0 ln0 f0 QQ RR).mono ?_; rintro e ZZ ⟨rfl, NN⟩; have EE := below_snoc DD NN))
          all_goals
            go_wp2_with fail
            go_meet
            exact ⟨rfl, EE⟩
        case rest =>
          obtain ⟨rfl, LX⟩ := hcut
          clear c_k0 c_k1 c_kbS c_x0 c_x1 c_xG
          obtain ⟨E0, hE0⟩ : ∃ x, x = wc := ⟨_, rfl⟩
          subst hE0
          have C8 := below_snoc C7 LX
          replace k0 := box_keep k0 LX (boxLt k0)
          replace k1 := box_keep k1 LX (boxLt k1)
          replace kbS := box_keep kbS LX (boxLt kbS)
          replace x0 := box_keep x0 LX (boxLt x0)
          replace x1 := box_keep x1 LX (boxLt x1)
          replace xG := box_keep xG LX (boxLt xG)
          replace o0 := o0.below LX
          replace o1 := o1.below LX
          have sz8 := LX.size
          clear LX C7
          have c_k0 := boxC k0
          have c_k1 := boxC k1
          have c_kbS := boxC kbS
          have c_x0 := boxC x0
          have c_x1 := boxC x1
          have c_xG := boxC xG
          go_upto_region 16 with (fail)
          go_cut [49] (fun s WX => s = .bool false ∧ Below E0.heap.size E0 WX)
          case first =>
            go_region_with (first
              | (go_at_call 10; refine (onToMem _ (fun _ _ => True) _ n1Ram f1Ram a1Bank (Ints.keep (F := fun _ _ => True) ⟨_, _, rfl, hn1, h1r, fun _ _ _ => trivial⟩ (wrote_below (below_snoc C8 (Below.refl _ E0).drew) Nowhere) (fun _ _ _ x => x)) hn1).mono ?_; rintro e YY ⟨vv, rfl, RR, MM⟩; have DD : Below E0.heap.size E0 YY := (Below.refl _ _).drew.trans MM; have d_x1 := boxC (box_keep x1 DD (boxLt x1)); have QQ := o1.below DD; skip)
              | (go_at_call 14; refine (onEqMem _ _ _ _ _ n1Ram f1Ram a1Bank QQ RR).mono ?_; rintro e ZZ ⟨rfl, NN⟩; have EE := below_snoc DD NN))
            all_goals
              go_wp2_with fail
              go_meet
              exact ⟨rfl, EE⟩
          case rest =>
            obtain ⟨rfl, LX⟩ := hcut
            clear c_k0 c_k1 c_kbS c_x0 c_x1 c_xG
            obtain ⟨E1, hE1⟩ : ∃ x, x = wc := ⟨_, rfl⟩
            subst hE1
            have C9 := below_snoc C8 LX
            replace k0 := box_keep k0 LX (boxLt k0)
            replace k1 := box_keep k1 LX (boxLt k1)
            replace kbS := box_keep kbS LX (boxLt kbS)
            replace x0 := box_keep x0 LX (boxLt x0)
            replace x1 := box_keep x1 LX (boxLt x1)
            replace xG := box_keep xG LX (boxLt xG)
            replace o0 := o0.below LX
            replace o1 := o1.below LX
            have sz9 := LX.size
            clear LX C8
            go_wp2
            go_ret
            exact ⟨rfl, C9⟩
theorem data_of_laid {W : World} (h : laidMetH Tryd.prog Rows.fnExactFetchRow.laid W) : laidMet Tryd.prog [("loop.example/g00231/impl.opRows", Rows.laid_loop_example_g00231_impl_opRows)] W := h
noncomputable def laidWorld (os : Os) : World :=
  let w0 := World.holding Tryd.prog os ⟨#[], #[], []⟩
  let w0 := { w0 with heap := w0.heap.modify 0 fun
      | .cells _ t frozen => .cells (flatD 6 Rows.laid_loop_example_g00231_impl_opRows).toArray t frozen
      | o => o }
  w0
set_option maxRecDepth 100000 in
theorem laidWorld_met (os : Os) (args : Array Value) : laidMetH Tryd.prog Rows.fnExactFetchRow.laid ((laidWorld os).forCall (fun _ _ => 0) ⟨#[], args, []⟩).memory :=
  laidMetH_of_parts (laidMet_of_run' 8 (by kernel_rfl) (by kernel_rfl)) (by kernel_rfl)
set_option maxRecDepth 100000 in
theorem lifted (os : Os) (started : os.Started) (H : Type) (enc : TypeId × Value → H) :
    ReturnsInHanded {} Tryd.checked os 3 .any (fun w args => (Rows.fnExactFetchSpec.pre enc Tryd.prog Tryd.f3 [] false w args ∧ laidMetH Tryd.prog Rows.fnExactFetchRow.laid w) ∧ sizedMet enc Tryd.prog Tryd.f3 (OpenSpec.ofChange Rows.fnExactFetchSpec) false w args)
      (Rows.fnExactFetchSpec.post enc Tryd.prog Tryd.f3 false true false false) := by
  refine returnsInHanded_of_change_and (C := Tryd.checked) (X := fun w _ => laidMetH Tryd.prog Rows.fnExactFetchRow.laid w) (fun _ _ _ hh h => h.of_heap hh) own started (by kernel_rfl) Tryd.func3
    (ChangeSpec.witness_at (enc := enc) (C := Tryd.checked) (os := os) (X := fun w _ => laidMetH Tryd.prog Rows.fnExactFetchRow.laid w) false (laidWorld os) #[.agg #[.slice none 0 0], .agg #[.slice none 0 0, .int .i64 0], .int .i64 0] 8 rfl (by kernel_rfl) (by kernel_rfl) (by kernel_rfl) (by kernel_rfl) (by kernel_rfl) (laidWorld_met os _)) ?_
  intro W base args ds gs before hval0 hW _ _ hL _
  have hd0 := laid_cell_mem (t := 114) (show Tryd.prog.globalNamed "loop.example/g00231/impl.opRows" = some 0 by kernel_rfl) (by kernel_rfl) (d := Rows.laid_loop_example_g00231_impl_opRows) (by simp) (data_of_laid hL) 4
  have hval : ∀ (j : Nat) t v, Tryd.f3.params[j]? = some t → args[j]? = some v → Value.okWide Tryd.prog W .any base t v := hval0
  have hW' := hW
  obtain ⟨p, q, hA0, hV, rfl, hfz, hnd⟩ := hW
  have hA : DataW.TrodAll enc Tryd.prog W 0 (fun _ => true) true Tryd.f3.params.toList args.toList ds p := hA0
  rw [Tryd.params3] at hA hval
  obtain ⟨v0, vs0, d0, ds0, p0, q0, hargs, rfl, rfl, h0, r0⟩ := trodAll_cons hA
  obtain ⟨v1, vs1, d1, ds1, p1, q1, rfl, rfl, rfl, h1, r1⟩ := trodAll_cons r0
  obtain ⟨v2, vs2, d2, ds2, p2, q2, rfl, rfl, rfl, h2, r2⟩ := trodAll_cons r1
  obtain ⟨rfl, rfl, rfl⟩ := trodAll_nil r2
  obtain rfl : args = #[v0, v1, v2] := by cases args; simp_all
  have hV0 : DataW.TrodVars enc Tryd.prog W (fun _ => true) ["loop.example/g00231/impl.opRows"] gs q := hV
  obtain ⟨g0, gs0, qv0, rfl, hV1⟩ := trodVars_cons hV0
  obtain rfl := trodVars_nil hV1
  have k0 := h0
  have lt0 : ∀ x ∈ p0, x.block < W.heap.size := by obtain ⟨m, hm⟩ := k0; exact DataW.trod_lt m _ _ _ hm
  have k1 := h1
  have lt1 : ∀ x ∈ p1, x.block < W.heap.size := by obtain ⟨m, hm⟩ := k1; exact DataW.trod_lt m _ _ _ hm
  have k2 := h2
  have lt2 : ∀ x ∈ p2, x.block < W.heap.size := by obtain ⟨m, hm⟩ := k2; exact DataW.trod_lt m _ _ _ hm
  obtain ⟨u0, m0, ra0, ln0, rc0, f0, rfl, w0⟩ := openImage (hval 0 24 v0 rfl rfl) h0
  obtain ⟨s1Ram, n1Ram, c1Ram, f1Ram, a1Bank, rfl, w1Ram, w1Bank⟩ := open_Mem (hval 1 27 v1 rfl rfl) h1
  obtain ⟨a2, rfl, rfl, rfl, w2⟩ := open_int Tryd.underlying3 (hval 2 3 v2 rfl rfl) h2
  clear hA0 hval0
  refine (walk u0 m0 ra0 ln0 rc0 f0 s1Ram n1Ram c1Ram f1Ram a1Bank a2 W w0 w1Ram w1Bank w2 hd0).mono fun e W' ⟨he, bel⟩ => ?_
  subst he
  exact ⟨_, rfl, _, _, _, [], _, _, hW', trodAll_mk1 (shut_bool Tryd.underlying4 _), (trodAll_cons_mk (Below.trod laidOut (by kernel_rfl) (of_decide_eq_true (by kernel_rfl)) k0 bel lt0) (trodAll_cons_mk (Below.trod laidOut (by kernel_rfl) (of_decide_eq_true (by kernel_rfl)) k1 bel lt1) (trodAll_cons_mk (Below.trod laidOut (by kernel_rfl) (of_decide_eq_true (by kernel_rfl)) k2 bel lt2) trodAll_mk0))), Below.trodVars laidOut bel (by kernel_rfl) hV, bel.frame _, fun h => by cases h⟩
theorem over : Rows.fnExactFetchRow.holds Tryd.pinned (OpenSpec.ofChange Rows.fnExactFetchSpec) :=
  OpenClaim.holds_of_wide 3 Tryd.f3 rfl rfl rfl rfl rfl rfl rfl ⟨rfl, rfl, rfl, rfl, rfl⟩ rfl rfl rfl rfl rfl (by kernel_rfl) Tryd.func3 (by kernel_rfl)
    (of_decide_eq_true (by kernel_rfl)) (by unfold Func.isWrapper; first | (rw [if_pos (by decide +kernel)]; kernel_rfl) | (rw [if_neg (by decide +kernel)]; exact ⟨rfl, rfl⟩))
    (fun os started H enc _ => lifted os started H enc)
theorem card : Rows.FnExactFetchCardSaid :=
  Claim7.holds_tied_plain_at .later [] [.data] true (true, "0ac0ad466622566e6aca02c69a9535d1fe05565f2bc9f99f0dbd9f1a5dccb9ce") true
    over (fun _ h => by cases h) (by kernel_rfl) (fun _ h => by cases h) fnExactFetch_row_tie rfl ⟨rfl, rfl⟩ (by kernel_rfl) rfl
    (fun f fn hf hfn => by
      obtain rfl : f = 3 := Option.some.inj ((show Tryd.prog.funcNamed "loop.example/g00231/laws.FnExactFetch" = some 3 by kernel_rfl).symm.trans hf) |>.symm
      obtain rfl : fn = Tryd.f3 := (Option.some.inj (Tryd.func3.symm.trans hfn)).symm
      exact ⟨by kernel_rfl, fun j t ht => by
        rw [Tryd.params3] at ht
        rcases j with _ | _ | _ | j
        · obtain rfl : t = 24 := by simpa using ht.symm
          exact (show Tryd.prog.wantsStandIn 24 = false by kernel_rfl)
        · obtain rfl : t = 27 := by simpa using ht.symm
          exact (show Tryd.prog.wantsStandIn 27 = false by kernel_rfl)
        · obtain rfl : t = 3 := by simpa using ht.symm
          exact (show Tryd.prog.wantsStandIn 3 = false by kernel_rfl)
        · simp at ht⟩)
    (by kernel_rfl)
end Go.Proofs.YtpaedkefmebjjanDoor.fnExactFetch
namespace Go.Proofs.YtpaedkefmebjjanDoor
theorem fnExactFetch_holds : Rows.FnExactFetchCardSaid := fnExactFetch.card
end Go.Proofs.YtpaedkefmebjjanDoor
