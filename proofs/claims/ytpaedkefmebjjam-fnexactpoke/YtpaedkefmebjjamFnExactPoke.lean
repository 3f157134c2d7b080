/- At every image and memory of the mirrors' types that are not too great and all integers of 64 bits Poke of the program answers as Poke of the specification, turns nothing of its arguments, and its answer owns its memory. -/
import Derived.Test.YtpaedkefmebjjamRows
import Derived.Test.YtpaedkefmebjjamO
import Derived.Test.YtpaedkefmebjjamR6p
import Derived.Test.YtpaedkefmebjjamI6d
import Derived.WalkKit
import Derived.ProofKit
import Derived.OpenShut
import Derived.ShutString
import Derived.ChangeOld
import Derived.Below
import Derived.Deep.RegionWith
namespace Go.Proofs.Ytpaedkefmebjjam.fnExactPoke
open Go.ChangeShapes Go.WideShapes Go.ChangeAt Go.RowKit
open Go.ChangeMaps (open_string shut_string)
set_option linter.unusedVariables false
theorem own : ownKnob Try.prog.godebug = none := by kernel_rfl
theorem laidOut : laidOutB Try.prog = true := by kernel_rfl
set_option maxRecDepth 40000
set_option maxHeartbeats 8000000 in
theorem walk (u0 : Value) (m0 : Nat) (ra0 : Nat → Option Addr) (ln0 rc0 : Nat → Nat) (f0 : Nat → Nat → Int) (s1Ram : Option Addr) (n1Ram c1Ram : Nat) (f1Ram : Nat → Int) (a1Bank : Int) (a2 : Int) (a3 : Int) (w : World) (w0 : RawSS w u0 m0 ra0 ln0 rc0 f0) (w1Ram : n1Ram ≤ 9223372036854775807 ∧ RowOf .i64 w s1Ram n1Ram f1Ram ∧ ∀ i, i < n1Ram → (Lit.int .i64 (f1Ram i)).wf = true) (w1Bank : (Lit.int .i64 a1Bank).wf = true) (w2 : (Lit.int .i64 a2).wf = true) (w3 : (Lit.int .i64 a3).wf = true) :
    Calls Try.prog 7 #[.agg #[u0], .agg #[.slice s1Ram n1Ram c1Ram, .int .i64 a1Bank], .int .i64 a2, .int .i64 a3] w fun e w' => e = .returned (.bool true) ∧ Below w.heap.size w w' := by
  obtain ⟨h1n, h1r, h1f⟩ := w1Ram
  by_cases hbig0 : (1048576 : Int) < ((m0 + psum ln0 m0 : Nat) : Int)
  · have HZ0 := hide (szOut_no hbig0)
    clear hbig0
    have C0 : Below w.heap.size w ((w.alloc (.cells #[u0] 24)).alloc (.cells #[.slice s1Ram n1Ram c1Ram, .int .i64 a1Bank] 27)) := ((Below.refl _ _).alloc (Nat.le_refl _) _).alloc (by simp) _
    have k0 : ((w.alloc (.cells #[u0] 24)).alloc (.cells #[.slice s1Ram n1Ram c1Ram, .int .i64 a1Bank] 27)).heap[w.heap.size]? = some (.cells #[u0] 24 (0, 0)) := boxA (box_new w #[u0] 24) (.cells #[.slice s1Ram n1Ram c1Ram, .int .i64 a1Bank] 27)
    have k1 : ((w.alloc (.cells #[u0] 24)).alloc (.cells #[.slice s1Ram n1Ram c1Ram, .int .i64 a1Bank] 27)).heap[w.heap.size + 1]? = some (.cells #[.slice s1Ram n1Ram c1Ram, .int .i64 a1Bank] 27 (0, 0)) := by simpa using box_new (w.alloc (.cells #[u0] 24)) #[.slice s1Ram n1Ram c1Ram, .int .i64 a1Bank] 27
    go_enter Try.func7, Try.ntmps7
    go_wp2_with fail
    generalize ((w.alloc (.cells #[u0] 24)).alloc (.cells #[.slice s1Ram n1Ram c1Ram, .int .i64 a1Bank] 27)) = W0 at *
    refine (szImage _ u0 m0 ra0 ln0 rc0 f0 (w0.below C0) (1048576) (by omega) (by omega)).mono ?_
    rintro e W1 ⟨rfl, L⟩
    rw [HZ0.out]
    have C1 := below_snoc C0 L
    replace k0 := box_keep k0 L (boxLt k0)
    replace k1 := box_keep k1 L (boxLt k1)
    have sz1 := L.size
    clear L C0
    go_wp2
    go_ret
    exact ⟨rfl, C1⟩
  · have HZ0 := hide (szOut_ok (show ((m0 + psum ln0 m0 : Nat) : Int) ≤ 1048576 by omega))
    have hnn0 : ¬ (1048576 - ((m0 + psum ln0 m0 : Nat) : Int) < 0) := by omega
    have hsm0 : m0 + psum ln0 m0 ≤ 1048576 := by omega
    have hI0 := w0.ints hsm0
    by_cases hbig1 : 1048576 - ((m0 + psum ln0 m0 : Nat) : Int) < ((n1Ram : Nat) : Int)
    · have HZ1 := hide (szOut_no hbig1)
      clear hbig1
      have C0 : Below w.heap.size w ((w.alloc (.cells #[u0] 24)).alloc (.cells #[.slice s1Ram n1Ram c1Ram, .int .i64 a1Bank] 27)) := ((Below.refl _ _).alloc (Nat.le_refl _) _).alloc (by simp) _
      have k0 : ((w.alloc (.cells #[u0] 24)).alloc (.cells #[.slice s1Ram n1Ram c1Ram, .int .i64 a1Bank] 27)).heap[w.heap.size]? = some (.cells #[u0] 24 (0, 0)) := boxA (box_new w #[u0] 24) (.cells #[.slice s1Ram n1Ram c1Ram, .int .i64 a1Bank] 27)
      have k1 : ((w.alloc (.cells #[u0] 24)).alloc (.cells #[.slice s1Ram n1Ram c1Ram, .int .i64 a1Bank] 27)).heap[w.heap.size + 1]? = some (.cells #[.slice s1Ram n1Ram c1Ram, .int .i64 a1Bank] 27 (0, 0)) := by simpa using box_new (w.alloc (.cells #[u0] 24)) #[.slice s1Ram n1Ram c1Ram, .int .i64 a1Bank] 27
      go_enter Try.func7, Try.ntmps7
      go_wp2_with fail
      generalize ((w.alloc (.cells #[u0] 24)).alloc (.cells #[.slice s1Ram n1Ram c1Ram, .int .i64 a1Bank] 27)) = W0 at *
      refine (szImage _ u0 m0 ra0 ln0 rc0 f0 (w0.below C0) (1048576) (by omega) (by omega)).mono ?_
      rintro e W1 ⟨rfl, L⟩
      rw [HZ0.out]
      have C1 := below_snoc C0 L
      replace k0 := box_keep k0 L (boxLt k0)
      replace k1 := box_keep k1 L (boxLt k1)
      have sz1 := L.size
      clear L C0
      have c_k0 := boxC k0
      have c_k1 := boxC k1
      go_wp2_with fail
      clear c_k0 c_k1
      refine (szMem _ s1Ram n1Ram c1Ram a1Bank (1048576 - ((m0 + psum ln0 m0 : Nat) : Int)) h1n (by omega) (by omega)).mono ?_
      rintro e W2 ⟨rfl, L⟩
      rw [HZ1.out]
      have C2 := below_snoc C1 L
      replace k0 := box_keep k0 L (boxLt k0)
      replace k1 := box_keep k1 L (boxLt k1)
      have sz2 := L.size
      clear L C1
      go_wp2
      go_ret
      exact ⟨rfl, C2⟩
    · have HZ1 := hide (szOut_ok (show ((n1Ram : Nat) : Int) ≤ 1048576 - ((m0 + psum ln0 m0 : Nat) : Int) by omega))
      have hnn1 : ¬ ((1048576 - ((m0 + psum ln0 m0 : Nat) : Int)) - ((n1Ram : Nat) : Int) < 0) := by omega
      have hn1 : n1Ram ≤ 1048576 := by omega
      clear hbig0
      clear hbig1
      have C0 : Below w.heap.size w ((w.alloc (.cells #[u0] 24)).alloc (.cells #[.slice s1Ram n1Ram c1Ram, .int .i64 a1Bank] 27)) := ((Below.refl _ _).alloc (Nat.le_refl _) _).alloc (by simp) _
      have k0 : ((w.alloc (.cells #[u0] 24)).alloc (.cells #[.slice s1Ram n1Ram c1Ram, .int .i64 a1Bank] 27)).heap[w.heap.size]? = some (.cells #[u0] 24 (0, 0)) := boxA (box_new w #[u0] 24) (.cells #[.slice s1Ram n1Ram c1Ram, .int .i64 a1Bank] 27)
      have k1 : ((w.alloc (.cells #[u0] 24)).alloc (.cells #[.slice s1Ram n1Ram c1Ram, .int .i64 a1Bank] 27)).heap[w.heap.size + 1]? = some (.cells #[.slice s1Ram n1Ram c1Ram, .int .i64 a1Bank] 27 (0, 0)) := by simpa using box_new (w.alloc (.cells #[u0] 24)) #[.slice s1Ram n1Ram c1Ram, .int .i64 a1Bank] 27
      go_enter Try.func7, Try.ntmps7
      go_wp2_with fail
      generalize ((w.alloc (.cells #[u0] 24)).alloc (.cells #[.slice s1Ram n1Ram c1Ram, .int .i64 a1Bank] 27)) = W0 at *
      refine (szImage _ u0 m0 ra0 ln0 rc0 f0 (w0.below C0) (1048576) (by omega) (by omega)).mono ?_
      rintro e W1 ⟨rfl, L⟩
      rw [HZ0.out]
      have C1 := below_snoc C0 L
      replace k0 := box_keep k0 L (boxLt k0)
      replace k1 := box_keep k1 L (boxLt k1)
      have sz1 := L.size
      clear L C0
      have c_k0 := boxC k0
      have c_k1 := boxC k1
      go_wp2_with fail
      clear c_k0 c_k1
      refine (szMem _ s1Ram n1Ram c1Ram a1Bank (1048576 - ((m0 + psum ln0 m0 : Nat) : Int)) h1n (by omega) (by omega)).mono ?_
      rintro e W2 ⟨rfl, L⟩
      rw [HZ1.out]
      have C2 := below_snoc C1 L
      replace k0 := box_keep k0 L (boxLt k0)
      replace k1 := box_keep k1 L (boxLt k1)
      have sz2 := L.size
      clear L C1
      have b0 := boxLt k1
      have c_k0 := boxC k0
      have c_k1 := boxC k1
      go_upto_region 8 with (fail)
      clear c_k0 c_k1
      obtain ⟨tS, htS⟩ : ∃ t, Hid (t = W2.heap.size) := ⟨_, rfl⟩
      go_cut [10] (fun s WX => ∃ (p : Nat) (cs : Array Value), s = .pointer (some ⟨p, 0, none⟩) ∧ W2.heap.size ≤ p ∧ WX.heap[p]? = some (.cells cs 33 (0, 0)) ∧ MemOn WX (fun b => W2.heap.size ≤ b ∧ b ≠ p) (.agg cs) n1Ram (pokeG (okMem m0 ln0 f0 n1Ram f1Ram a1Bank) f1Ram (a2 % 65536) a3) (pokeB (okMem m0 ln0 f0 n1Ram f1Ram a1Bank) m0 a1Bank (a2 % 65536) a3) ∧ Below W2.heap.size W2 WX)
      case first =>
        rename_i J K' hJ hK'
        refine regPokeS W2 u0 m0 ln0 f0 (.slice s1Ram n1Ram c1Ram) n1Ram f1Ram a1Bank a2 a3 _ (by simp) rfl rfl k0 k1 rfl rfl hsm0 hn1 (hI0.keep (wrote_below C2 Nowhere) (fun _ _ _ x => x)) (Ints.keep (F := fun _ _ => True) ⟨_, _, rfl, hn1, h1r, fun _ _ _ => trivial⟩ (wrote_below C2 Nowhere) (fun _ _ _ x => x)) ?_
        intro a W p cs F x1 hp x3 x4 L
        rw [F.same]
        simp only [regPokeS_sl, List.foldl_cons, List.foldl_nil]
        rw [x1]
        generalize a.tmps[28]?.getD undef = s28
        generalize a.tmps[29]?.getD undef = s29
        generalize a.tmps[30]?.getD undef = s30
        generalize a.tmps[31]?.getD undef = s31
        generalize a.tmps[32]?.getD undef = s32
        generalize a.tmps[33]?.getD undef = s33
        generalize a.tmps[34]?.getD undef = s34
        go_simp
        refine hK' _ _ (Met.intro (hJ _ _ ?_))
        (repeat apply Exists.intro)
        refine ⟨?relS, rfl⟩
        exact ⟨p, cs, rfl, hp, x3, x4, L⟩
      case rest =>
        obtain ⟨pS, csS, rfl, hpS, kbS, onS, LX⟩ := hcut
        obtain ⟨TS, hTS⟩ : ∃ x, x = wc := ⟨_, rfl⟩
        subst hTS
        have C3 := below_snoc C2 LX
        replace k0 := box_keep k0 LX (boxLt k0)
        replace k1 := box_keep k1 LX (boxLt k1)
        have sz3 := LX.size
        clear LX C2
        replace onS := onS.mono (E := fun b => tS ≤ b ∧ b < TS.heap.size ∧ b ≠ pS) (fun b hb h => ⟨by rw [htS.out]; exact h.1, hb, h.2⟩)
        obtain ⟨yaS, ycS, hcsS⟩ := onS.two
        simp only [Value.agg.injEq] at hcsS
        subst hcsS
        have lpS := boxLt kbS
        replace hpS : tS ≤ pS := by rw [htS.out]; exact hpS
        have loS : w.heap.size + 1 + 1 ≤ tS := by rw [htS.out]; omega
        clear htS
        obtain ⟨uzS, huzS⟩ : ∃ t, Hid (t = TS.heap.size) := ⟨_, rfl⟩
        replace onS := onS.mono (E := fun b => tS ≤ b ∧ b < uzS ∧ b ≠ pS) (fun b hb h => ⟨h.1, by rw [huzS.out]; exact h.2.1, h.2.2⟩)
        replace lpS : pS < uzS := by rw [huzS.out]; exact lpS
        have luzS : uzS ≤ TS.heap.size := by rw [huzS.out]; exact Nat.le_refl _
        clear huzS
        have c_k0 := boxC k0
        have c_k1 := boxC k1
        have c_kbS := boxC kbS
        go_wp2_with fail
        clear c_k0 c_k1 c_kbS
        refine (onToImage _ _ u0 m0 ln0 f0 (hI0.keep (wrote_below C3 Nowhere) (fun _ _ _ x => x)) hsm0).mono ?_
        rintro e X0 ⟨v0, rfl, o0, L⟩
        have C4 := below_snoc C3 L
        replace k0 := box_keep k0 L (boxLt k0)
        replace k1 := box_keep k1 L (boxLt k1)
        replace kbS := box_keep kbS L (boxLt kbS)
        replace onS := onS.below L
        have sz4 := L.size
        clear L C3
        obtain ⟨y0, hy0, -⟩ := id o0.ex
        subst hy0
        obtain ⟨uz0, huz0⟩ : ∃ t, Hid (t = X0.heap.size) := ⟨_, rfl⟩
        replace o0 := o0.mono (E := fun b => uzS ≤ b ∧ b < uz0) (fun b hb h => ⟨by omega, by rw [huz0.out]; exact hb⟩)
        have luz0 : uzS ≤ uz0 := by rw [huz0.out]; omega
        replace C4 := C4.alloc C4.size (.cells #[.slice (some ⟨y0, 0, none⟩) m0 m0] 31)
        have LA : Below X0.heap.size X0 (X0.alloc (.cells #[.slice (some ⟨y0, 0, none⟩) m0 m0] 31)) := (Below.refl _ _).alloc (Nat.le_refl _) _
        replace k0 := boxA k0 (.cells #[.slice (some ⟨y0, 0, none⟩) m0 m0] 31)
        replace k1 := boxA k1 (.cells #[.slice (some ⟨y0, 0, none⟩) m0 m0] 31)
        replace kbS := boxA kbS (.cells #[.slice (some ⟨y0, 0, none⟩) m0 m0] 31)
        replace onS := onS.below LA
        replace o0 := o0.below LA
        have x0 := box_new X0 #[.slice (some ⟨y0, 0, none⟩) m0 m0] 31
        have sA0 : uz0 + 1 ≤ (X0.alloc (.cells #[.slice (some ⟨y0, 0, none⟩) m0 m0] 31)).heap.size := by rw [huz0.out]; simp
        clear LA
        have c_k0 := boxC k0
        have c_k1 := boxC k1
        have c_kbS := boxC kbS
        have c_x0 := boxC x0
        go_wp2_with fail
        clear c_k0 c_k1 c_kbS c_x0
        generalize X0.alloc (.cells #[.slice (some ⟨y0, 0, none⟩) m0 m0] 31) = V0 at *
        rw [← huz0.out] at x0 ⊢
        clear huz0
        refine (onToMem _ (fun _ _ => True) _ n1Ram f1Ram a1Bank (Ints.keep (F := fun _ _ => True) ⟨_, _, rfl, hn1, h1r, fun _ _ _ => trivial⟩ (wrote_below C4 Nowhere) (fun _ _ _ x => x)) hn1).mono ?_
        rintro e X1 ⟨v1, rfl, o1, L⟩
        have C5 := below_snoc C4 L
        replace k0 := box_keep k0 L (boxLt k0)
        replace k1 := box_keep k1 L (boxLt k1)
        replace kbS := box_keep kbS L (boxLt kbS)
        replace x0 := box_keep x0 L (boxLt x0)
        replace onS := onS.below L
        replace o0 := o0.below L
        have sz5 := L.size
        clear L C4
        obtain ⟨ya1, yc1, hy1⟩ := o1.two
        subst hy1
        obtain ⟨uz1, huz1⟩ : ∃ t, Hid (t = X1.heap.size) := ⟨_, rfl⟩
        replace o1 := o1.mono (E := fun b => uz0 + 1 ≤ b ∧ b < uz1) (fun b hb h => ⟨by omega, by rw [huz1.out]; exact hb⟩)
        have luz1 : uz0 + 1 ≤ uz1 := by rw [huz1.out]; omega
        replace C5 := C5.alloc C5.size (.cells #[.slice ya1 n1Ram yc1, .int .i64 a1Bank] 33)
        have LA : Below X1.heap.size X1 (X1.alloc (.cells #[.slice ya1 n1Ram yc1, .int .i64 a1Bank] 33)) := (Below.refl _ _).alloc (Nat.le_refl _) _
        replace k0 := boxA k0 (.cells #[.slice ya1 n1Ram yc1, .int .i64 a1Bank] 33)
        replace k1 := boxA k1 (.cells #[.slice ya1 n1Ram yc1, .int .i64 a1Bank] 33)
        replace kbS := boxA kbS (.cells #[.slice ya1 n1Ram yc1, .int .i64 a1Bank] 33)
        replace x0 := boxA x0 (.cells #[.slice ya1 n1Ram yc1, .int .i64 a1Bank] 33)
        replace onS := onS.below LA
        replace o0 := o0.below LA
        replace o1 := o1.below LA
        have x1 := box_new X1 #[.slice ya1 n1Ram yc1, .int .i64 a1Bank] 33
        have sA1 : uz1 + 1 ≤ (X1.alloc (.cells #[.slice ya1 n1Ram yc1, .int .i64 a1Bank] 33)).heap.size := by rw [huz1.out]; simp
        clear LA
        have c_k0 := boxC k0
        have c_k1 := boxC k1
        have c_kbS := boxC kbS
        have c_x0 := boxC x0
        have c_x1 := boxC x1
        go_wp2_with fail
        clear c_k0 c_k1 c_kbS c_x0 c_x1
        generalize X1.alloc (.cells #[.slice ya1 n1Ram yc1, .int .i64 a1Bank] 33) = V1 at *
        rw [← huz1.out] at x1 ⊢
        clear huz1
        refine (onImplPoke _ _ _ _ _ m0 ln0 f0 n1Ram f1Ram a1Bank a2 a3 o0 o1).mono ?_
        rintro e GG ⟨vG, rfl, oG, L⟩
        have C6 := below_snoc C5 L
        replace k0 := box_keep k0 L (boxLt k0)
        replace k1 := box_keep k1 L (boxLt k1)
        replace kbS := box_keep kbS L (boxLt kbS)
        replace x0 := box_keep x0 L (boxLt x0)
        replace x1 := box_keep x1 L (boxLt x1)
        replace onS := onS.below L
        replace o0 := o0.below L
        replace o1 := o1.below L
        have sz6 := L.size
        clear L C5
        obtain ⟨yaG, ycG, hyG⟩ := oG.two
        subst hyG
        obtain ⟨uzG, huzG⟩ : ∃ t, Hid (t = GG.heap.size) := ⟨_, rfl⟩
        replace oG := oG.mono (E := fun b => uz1 + 1 ≤ b ∧ b < uzG) (fun b hb h => ⟨by omega, by rw [huzG.out]; exact hb⟩)
        have luzG : uz1 + 1 ≤ uzG := by rw [huzG.out]; omega
        replace C6 := C6.alloc C6.size (.cells #[.slice yaG n1Ram ycG, .int .i64 (pokeB (okMem m0 ln0 f0 n1Ram f1Ram a1Bank) m0 a1Bank (a2 % 65536) a3)] 33)
        have LA : Below GG.heap.size GG (GG.alloc (.cells #[.slice yaG n1Ram ycG, .int .i64 (pokeB (okMem m0 ln0 f0 n1Ram f1Ram a1Bank) m0 a1Bank (a2 % 65536) a3)] 33)) := (Below.refl _ _).alloc (Nat.le_refl _) _
        replace k0 := boxA k0 (.cells #[.slice yaG n1Ram ycG, .int .i64 (pokeB (okMem m0 ln0 f0 n1Ram f1Ram a1Bank) m0 a1Bank (a2 % 65536) a3)] 33)
        replace k1 := boxA k1 (.cells #[.slice yaG n1Ram ycG, .int .i64 (pokeB (okMem m0 ln0 f0 n1Ram f1Ram a1Bank) m0 a1Bank (a2 % 65536) a3)] 33)
        replace kbS := boxA kbS (.cells #[.slice yaG n1Ram ycG, .int .i64 (pokeB (okMem m0 ln0 f0 n1Ram f1Ram a1Bank) m0 a1Bank (a2 % 65536) a3)] 33)
        replace x0 := boxA x0 (.cells #[.slice yaG n1Ram ycG, .int .i64 (pokeB (okMem m0 ln0 f0 n1Ram f1Ram a1Bank) m0 a1Bank (a2 % 65536) a3)] 33)
        replace x1 := boxA x1 (.cells #[.slice yaG n1Ram ycG, .int .i64 (pokeB (okMem m0 ln0 f0 n1Ram f1Ram a1Bank) m0 a1Bank (a2 % 65536) a3)] 33)
        replace onS := onS.below LA
        replace o0 := o0.below LA
        replace o1 := o1.below LA
        replace oG := oG.below LA
        have xG := box_new GG #[.slice yaG n1Ram ycG, .int .i64 (pokeB (okMem m0 ln0 f0 n1Ram f1Ram a1Bank) m0 a1Bank (a2 % 65536) a3)] 33
        have sAG : uzG + 1 ≤ (GG.alloc (.cells #[.slice yaG n1Ram ycG, .int .i64 (pokeB (okMem m0 ln0 f0 n1Ram f1Ram a1Bank) m0 a1Bank (a2 % 65536) a3)] 33)).heap.size := by rw [huzG.out]; simp
        clear LA
        have c_k0 := boxC k0
        have c_k1 := boxC k1
        have c_kbS := boxC kbS
        have c_x0 := boxC x0
        have c_x1 := boxC x1
        have c_xG := boxC xG
        go_wp2_with fail
        clear c_k0 c_k1 c_kbS c_x0 c_x1 c_xG
        generalize GG.alloc (.cells #[.slice yaG n1Ram ycG, .int .i64 (pokeB (okMem m0 ln0 f0 n1Ram f1Ram a1Bank) m0 a1Bank (a2 % 65536) a3)] 33) = VG at *
        rw [← huzG.out] at xG ⊢
        clear huzG
        refine (onEqMem _ _ _ _ _ n1Ram (pokeG (okMem m0 ln0 f0 n1Ram f1Ram a1Bank) f1Ram (a2 % 65536) a3) (pokeB (okMem m0 ln0 f0 n1Ram f1Ram a1Bank) m0 a1Bank (a2 % 65536) a3) oG onS).mono ?_
        rintro e Q7 ⟨rfl, L⟩
        have C7 := below_snoc C6 L
        replace k0 := box_keep k0 L (boxLt k0)
        replace k1 := box_keep k1 L (boxLt k1)
        replace kbS := box_keep kbS L (boxLt kbS)
        replace x0 := box_keep x0 L (boxLt x0)
        replace x1 := box_keep x1 L (boxLt x1)
        replace xG := box_keep xG L (boxLt xG)
        replace onS := onS.below L
        replace o0 := o0.below L
        replace o1 := o1.below L
        replace oG := oG.below L
        have sz7 := L.size
        clear L C6
        have c_k0 := boxC k0
        have c_k1 := boxC k1
        have c_kbS := boxC kbS
        have c_x0 := boxC x0
        have c_x1 := boxC x1
        have c_xG := boxC xG
        go_upto_region 14 with (fail)
        go_cut [52] (fun s WX => s = .bool false ∧ Below Q7.heap.size Q7 WX)
        case first =>
          go_region_with (first
            | (go_at_call 12; refine (onToImage _ _ u0 m0 ln0 f0 (hI0.keep (wrote_below (below_snoc C7 (Below.refl _ Q7).drew) Nowhere) (fun _ _ _ x => x)) hsm0).mono ?_; rintro e YY ⟨vv, rfl, RR, MM⟩; have DD : Below Q7.heap.size Q7 YY := (Below.refl _ _).drew.trans MM; have d_x0 := boxC (box_keep x0 DD (boxLt x0)); have QQ := o0.below DD; skip)
            | (go_at_call 15; refine (onEqImage _ _ _ _ _ m0 ln0 f0 QQ RR).mono ?_; rintro e ZZ ⟨rfl, NN⟩; have EE := below_snoc DD NN))
          all_goals
            go_wp2_with fail
            go_meet
            exact ⟨rfl, EE⟩
        case rest =>
          obtain ⟨rfl, LX⟩ := hcut
          clear c_k0 c_k1 c_kbS c_x0 c_x1 c_xG
          obtain ⟨E0, hE0⟩ : ∃ x, x = wc := ⟨_, rfl⟩
          subst hE0
          have C8 := below_snoc C7 LX
          replace k0 := box_keep k0 LX (boxLt k0)
          replace k1 := box_keep k1 LX (boxLt k1)
          replace kbS := box_keep kbS LX (boxLt kbS)
          replace x0 := box_keep x0 LX (boxLt x0)
          replace x1 := box_keep x1 LX (boxLt x1)
          replace xG := box_keep xG LX (boxLt xG)
          replace onS := onS.below LX
          replace o0 := o0.below LX
          replace o1 := o1.below LX
          replace oG := oG.below LX
          have sz8 := LX.size
          clear LX C7
          have c_k0 := boxC k0
          have c_k1 := boxC k1
          have c_kbS := boxC kbS
          have c_x0 := boxC x0
          have c_x1 := boxC x1
          have c_xG := boxC xG
          go_upto_region 16 with (fail)
          go_cut [57] (fun s WX => s = .bool false ∧ Below E0.heap.size E0 WX)
          case first =>
            go_region_with (first
              | (go_at_call 13; refine (onToMem _ (fun _ _ => True) _ n1Ram f1Ram a1Bank (Ints.keep (F := fun _ _ => True) ⟨_, _, rfl, hn1, h1r, fun _ _ _ => trivial⟩ (wrote_below (below_snoc C8 (Below.refl _ E0).drew) Nowhere) (fun _ _ _ x => x)) hn1).mono ?_; rintro e YY ⟨vv, rfl, RR, MM⟩; have DD : Below E0.heap.size E0 YY := (Below.refl _ _).drew.trans MM; have d_x1 := boxC (box_keep x1 DD (boxLt x1)); have QQ := o1.below DD; skip)
              | (go_at_call 16; refine (onEqMem _ _ _ _ _ n1Ram f1Ram a1Bank QQ RR).mono ?_; rintro e ZZ ⟨rfl, NN⟩; have EE := below_snoc DD NN))
            all_goals
              go_wp2_with fail
              go_meet
              exact ⟨rfl, EE⟩
          case rest =>
            obtain ⟨rfl, LX⟩ := hcut
            clear c_k0 c_k1 c_kbS c_x0 c_x1 c_xG
            obtain ⟨E1, hE1⟩ : ∃ x, x = wc := ⟨_, rfl⟩
            subst hE1
            have C9 := below_snoc C8 LX
            replace k0 := box_keep k0 LX (boxLt k0)
            replace k1 := box_keep k1 LX (boxLt k1)
            replace kbS := box_keep kbS LX (boxLt kbS)
            replace x0 := box_keep x0 LX (boxLt x0)
            replace x1 := box_keep x1 LX (boxLt x1)
            replace xG := box_keep xG LX (boxLt xG)
            replace onS := onS.below LX
            replace o0 := o0.below LX
            replace o1 := o1.below LX
            replace oG := oG.below LX
            have sz9 := LX.size
            clear LX C8
            have c_k0 := boxC k0
            have c_k1 := boxC k1
            have c_kbS := boxC kbS
            have c_x0 := boxC x0
            have c_x1 := boxC x1
            have c_xG := boxC xG
            go_wp2_with fail
            clear c_k0 c_k1 c_kbS c_x0 c_x1 c_xG
            refine (onMarkImage _ _ _ m0 ln0 f0 (1) o0 (by omega) (by omega)).mono ?_
            rintro e M0 ⟨rfl, WW⟩
            clear o0
            have C10 := C9.trans (WW.below C9.size (fun b o hb (h : _ ∧ _) => by omega))
            replace k0 := box_wrote k0 WW (fun o (h : _ ∧ _) => by omega)
            replace k1 := box_wrote k1 WW (fun o (h : _ ∧ _) => by omega)
            replace kbS := box_wrote kbS WW (fun o (h : _ ∧ _) => by omega)
            replace x0 := box_wrote x0 WW (fun o (h : _ ∧ _) => by omega)
            replace x1 := box_wrote x1 WW (fun o (h : _ ∧ _) => by omega)
            replace xG := box_wrote xG WW (fun o (h : _ ∧ _) => by omega)
            replace onS := onS.keep WW (fun b o (hb : _ ∧ _) _ (h : _ ∧ _) => by omega)
            replace o1 := o1.keep WW (fun b o (hb : _ ∧ _) _ (h : _ ∧ _) => by omega)
            replace oG := oG.keep WW (fun b o (hb : _ ∧ _) _ (h : _ ∧ _) => by omega)
            have sz10 := WW.size
            clear WW C9
            have c_k0 := boxC k0
            have c_k1 := boxC k1
            have c_kbS := boxC kbS
            have c_x0 := boxC x0
            have c_x1 := boxC x1
            have c_xG := boxC xG
            go_wp2_with fail
            clear c_k0 c_k1 c_kbS c_x0 c_x1 c_xG
            refine (onMarkMem _ _ _ n1Ram f1Ram a1Bank (1 + psum ln0 m0) o1 (by omega) (by omega)).mono ?_
            rintro e M1 ⟨rfl, -, WW⟩
            clear o1
            have C11 := C10.trans (WW.below C10.size (fun b o hb (h : _ ∧ _) => by omega))
            replace k0 := box_wrote k0 WW (fun o (h : _ ∧ _) => by omega)
            replace k1 := box_wrote k1 WW (fun o (h : _ ∧ _) => by omega)
            replace kbS := box_wrote kbS WW (fun o (h : _ ∧ _) => by omega)
            replace x0 := box_wrote x0 WW (fun o (h : _ ∧ _) => by omega)
            replace x1 := box_wrote x1 WW (fun o (h : _ ∧ _) => by omega)
            replace xG := box_wrote xG WW (fun o (h : _ ∧ _) => by omega)
            replace onS := onS.keep WW (fun b o (hb : _ ∧ _) _ (h : _ ∧ _) => by omega)
            replace oG := oG.keep WW (fun b o (hb : _ ∧ _) _ (h : _ ∧ _) => by omega)
            have sz11 := WW.size
            clear WW C10
            have hk1 : ¬ ((1 + psum ln0 m0 + (n1Ram : Nat) : Int) < 0) := by omega
            have c_k0 := boxC k0
            have c_k1 := boxC k1
            have c_kbS := boxC kbS
            have c_x0 := boxC x0
            have c_x1 := boxC x1
            have c_xG := boxC xG
            go_wp2_with fail
            clear c_k0 c_k1 c_kbS c_x0 c_x1 c_xG
            refine (onEqMem _ _ _ _ _ n1Ram (pokeG (okMem m0 ln0 f0 n1Ram f1Ram a1Bank) f1Ram (a2 % 65536) a3) (pokeB (okMem m0 ln0 f0 n1Ram f1Ram a1Bank) m0 a1Bank (a2 % 65536) a3) oG onS).mono ?_
            rintro e Q12 ⟨rfl, L⟩
            have C12 := below_snoc C11 L
            replace k0 := box_keep k0 L (boxLt k0)
            replace k1 := box_keep k1 L (boxLt k1)
            replace kbS := box_keep kbS L (boxLt kbS)
            replace x0 := box_keep x0 L (boxLt x0)
            replace x1 := box_keep x1 L (boxLt x1)
            replace xG := box_keep xG L (boxLt xG)
            replace onS := onS.below L
            replace oG := oG.below L
            have sz12 := L.size
            clear L C11
            have c_k0 := boxC k0
            have c_k1 := boxC k1
            have c_kbS := boxC kbS
            have c_x0 := boxC x0
            have c_x1 := boxC x1
            have c_xG := boxC xG
            go_wp2_with fail
            clear c_k0 c_k1 c_kbS c_x0 c_x1 c_xG
            have hN := oG.size
            refine (onMarkMem _ _ _ n1Ram (pokeG (okMem m0 ln0 f0 n1Ram f1Ram a1Bank) f1Ram (a2 % 65536) a3) (pokeB (okMem m0 ln0 f0 n1Ram f1Ram a1Bank) m0 a1Bank (a2 % 65536) a3) 1 oG (by omega) (by omega)).mono ?_
            rintro e MG ⟨rfl, oG', WW⟩
            clear oG
            have C13 := C12.trans (WW.below C12.size (fun b o hb (h : _ ∧ _) => by omega))
            replace k0 := box_wrote k0 WW (fun o (h : _ ∧ _) => by omega)
            replace k1 := box_wrote k1 WW (fun o (h : _ ∧ _) => by omega)
            replace kbS := box_wrote kbS WW (fun o (h : _ ∧ _) => by omega)
            replace x0 := box_wrote x0 WW (fun o (h : _ ∧ _) => by omega)
            replace x1 := box_wrote x1 WW (fun o (h : _ ∧ _) => by omega)
            replace xG := box_wrote xG WW (fun o (h : _ ∧ _) => by omega)
            replace onS := onS.keep WW (fun b o (hb : _ ∧ _) _ (h : _ ∧ _) => by omega)
            have sz13 := WW.size
            clear WW C12
            have c_k0 := boxC k0
            have c_k1 := boxC k1
            have c_kbS := boxC kbS
            have c_x0 := boxC x0
            have c_x1 := boxC x1
            have c_xG := boxC xG
            go_wp2_with fail
            clear c_k0 c_k1 c_kbS c_x0 c_x1 c_xG
            refine (onHeldMem _ _ _ n1Ram (pokeB (okMem m0 ln0 f0 n1Ram f1Ram a1Bank) m0 a1Bank (a2 % 65536) a3) 1 oG' (by omega) (by omega)).mono ?_
            rintro e H14 ⟨rfl, L⟩
            have C14 := below_snoc C13 L
            replace k0 := box_keep k0 L (boxLt k0)
            replace k1 := box_keep k1 L (boxLt k1)
            replace kbS := box_keep kbS L (boxLt kbS)
            replace x0 := box_keep x0 L (boxLt x0)
            replace x1 := box_keep x1 L (boxLt x1)
            replace xG := box_keep xG L (boxLt xG)
            replace onS := onS.below L
            replace oG' := oG'.below L
            have sz14 := L.size
            clear L C13
            have hq1 : ¬ ((1 : Int) + n1Ram < 0) := by omega
            have hq2 : (((1 : Int) + n1Ram) != ((1 : Int) + n1Ram)) = false := by simp
            have c_k0 := boxC k0
            have c_k1 := boxC k1
            have c_kbS := boxC kbS
            have c_x0 := boxC x0
            have c_x1 := boxC x1
            have c_xG := boxC xG
            go_upto_region 31 with (fail)
            clear c_k0 c_k1 c_kbS c_x0 c_x1 c_xG
            obtain ⟨tI, htI⟩ : ∃ t, Hid (t = H14.heap.size) := ⟨_, rfl⟩
            go_cut [17] (fun s WX => ∃ (p : Nat) (cs : Array Value), s = .pointer (some ⟨p, 0, none⟩) ∧ H14.heap.size ≤ p ∧ WX.heap[p]? = some (.cells cs 33 (0, 0)) ∧ MemOn WX (fun b => H14.heap.size ≤ b ∧ b ≠ p) (.agg cs) n1Ram (pokeG (okMem m0 ln0 f0 n1Ram f1Ram a1Bank) f1Ram (a2 % 65536) a3) (pokeB (okMem m0 ln0 f0 n1Ram f1Ram a1Bank) m0 a1Bank (a2 % 65536) a3) ∧ Below H14.heap.size H14 WX)
            case first =>
              rename_i J K' hJ hK'
              refine regPokeI H14 u0 m0 ln0 f0 (.slice s1Ram n1Ram c1Ram) n1Ram f1Ram a1Bank a2 a3 _ (by simp) rfl rfl k0 k1 rfl rfl hsm0 hn1 (hI0.keep (wrote_below C14 Nowhere) (fun _ _ _ x => x)) (Ints.keep (F := fun _ _ => True) ⟨_, _, rfl, hn1, h1r, fun _ _ _ => trivial⟩ (wrote_below C14 Nowhere) (fun _ _ _ x => x)) ?_
              intro a W p cs F x1 hp x3 x4 L
              rw [F.same]
              simp only [regPokeI_sl, List.foldl_cons, List.foldl_nil]
              rw [x1]
              generalize a.tmps[83]?.getD undef = s83
              generalize a.tmps[84]?.getD undef = s84
              generalize a.tmps[85]?.getD undef = s85
              generalize a.tmps[86]?.getD undef = s86
              generalize a.tmps[87]?.getD undef = s87
              generalize a.tmps[88]?.getD undef = s88
              generalize a.tmps[89]?.getD undef = s89
              go_simp
              refine hK' _ _ (Met.intro (hJ _ _ ?_))
              (repeat apply Exists.intro)
              refine ⟨?relI, rfl⟩
              exact ⟨p, cs, rfl, hp, x3, x4, L⟩
            case rest =>
              obtain ⟨pI, csI, rfl, hpI, kbI, onI, LX⟩ := hcut
              obtain ⟨TI, hTI⟩ : ∃ x, x = wc := ⟨_, rfl⟩
              subst hTI
              have C15 := below_snoc C14 LX
              replace k0 := box_keep k0 LX (boxLt k0)
              replace k1 := box_keep k1 LX (boxLt k1)
              replace kbS := box_keep kbS LX (boxLt kbS)
              replace x0 := box_keep x0 LX (boxLt x0)
              replace x1 := box_keep x1 LX (boxLt x1)
              replace xG := box_keep xG LX (boxLt xG)
              replace onS := onS.below LX
              replace oG' := oG'.below LX
              have sz15 := LX.size
              clear LX C14
              replace onI := onI.mono (E := fun b => tI ≤ b ∧ b < TI.heap.size ∧ b ≠ pI) (fun b hb h => ⟨by rw [htI.out]; exact h.1, hb, h.2⟩)
              obtain ⟨yaI, ycI, hcsI⟩ := onI.two
              simp only [Value.agg.injEq] at hcsI
              subst hcsI
              have lpI := boxLt kbI
              replace hpI : tI ≤ pI := by rw [htI.out]; exact hpI
              have loI : uzG + 1 ≤ tI := by rw [htI.out]; omega
              clear htI
              obtain ⟨uzI, huzI⟩ : ∃ t, Hid (t = TI.heap.size) := ⟨_, rfl⟩
              replace onI := onI.mono (E := fun b => tI ≤ b ∧ b < uzI ∧ b ≠ pI) (fun b hb h => ⟨h.1, by rw [huzI.out]; exact h.2.1, h.2.2⟩)
              replace lpI : pI < uzI := by rw [huzI.out]; exact lpI
              have luzI : uzI ≤ TI.heap.size := by rw [huzI.out]; exact Nat.le_refl _
              clear huzI
              have c_k0 := boxC k0
              have c_k1 := boxC k1
              have c_kbS := boxC kbS
              have c_x0 := boxC x0
              have c_x1 := boxC x1
              have c_xG := boxC xG
              have c_kbI := boxC kbI
              go_wp2_with fail
              clear c_k0 c_k1 c_kbS c_x0 c_x1 c_xG c_kbI
              refine (onEqMem _ _ _ _ _ n1Ram (pokeG (okMem m0 ln0 f0 n1Ram f1Ram a1Bank) f1Ram (a2 % 65536) a3) (pokeB (okMem m0 ln0 f0 n1Ram f1Ram a1Bank) m0 a1Bank (a2 % 65536) a3) onI onS).mono ?_
              rintro e Q16 ⟨rfl, L⟩
              have C16 := below_snoc C15 L
              replace k0 := box_keep k0 L (boxLt k0)
              replace k1 := box_keep k1 L (boxLt k1)
              replace kbS := box_keep kbS L (boxLt kbS)
              replace x0 := box_keep x0 L (boxLt x0)
              replace x1 := box_keep x1 L (boxLt x1)
              replace xG := box_keep xG L (boxLt xG)
              replace kbI := box_keep kbI L (boxLt kbI)
              replace onS := onS.below L
              replace oG' := oG'.below L
              replace onI := onI.below L
              have sz16 := L.size
              clear L C15
              have c_k0 := boxC k0
              have c_k1 := boxC k1
              have c_kbS := boxC kbS
              have c_x0 := boxC x0
              have c_x1 := boxC x1
              have c_xG := boxC xG
              have c_kbI := boxC kbI
              go_wp2_with fail
              clear c_k0 c_k1 c_kbS c_x0 c_x1 c_xG c_kbI
              refine (onHeldMem _ _ _ n1Ram (pokeB (okMem m0 ln0 f0 n1Ram f1Ram a1Bank) m0 a1Bank (a2 % 65536) a3) 1 oG' (by omega) (by omega)).mono ?_
              rintro e H17 ⟨rfl, L⟩
              have C17 := below_snoc C16 L
              replace k0 := box_keep k0 L (boxLt k0)
              replace k1 := box_keep k1 L (boxLt k1)
              replace kbS := box_keep kbS L (boxLt kbS)
              replace x0 := box_keep x0 L (boxLt x0)
              replace x1 := box_keep x1 L (boxLt x1)
              replace xG := box_keep xG L (boxLt xG)
              replace kbI := box_keep kbI L (boxLt kbI)
              replace onS := onS.below L
              replace oG' := oG'.below L
              replace onI := onI.below L
              have sz17 := L.size
              clear L C16
              go_wp2
              go_ret
              exact ⟨rfl, C17⟩
set_option maxRecDepth 100000 in
theorem lifted (os : Os) (started : os.Started) (H : Type) (enc : TypeId × Value → H) :
    ReturnsInHanded {} Try.checked os 7 .any (Rows.fnExactPokeSpec.pre6 enc Try.prog Try.f7 Rows.fnExactPokeRow.domain false) (Rows.fnExactPokeSpec.post enc Try.prog Try.f7 false true false false) := by
  refine returnsInHanded_of_change (C := Try.checked) own started (by kernel_rfl) Try.func7
    (ChangeSpec.witness6 (enc := enc) (C := Try.checked) false ⟨#[], #[.agg #[.slice none 0 0], .agg #[.slice none 0 0, .int .i64 0], .int .i64 0, .int .i64 0], []⟩ 8 (by kernel_rfl) (by kernel_rfl) (by kernel_rfl) (by kernel_rfl)) ?_
  intro W base args ds gs before hval0 hW hcnd _
  have hval : ∀ (j : Nat) t v, Try.f7.params[j]? = some t → args[j]? = some v → Value.okWide Try.prog W .any base t v := hval0
  have hW' := hW
  obtain ⟨p, q, hA0, hV, rfl, hfz, hnd⟩ := hW
  have hA : DataW.TrodAll enc Try.prog W 0 (fun _ => true) true Try.f7.params.toList args.toList ds p := hA0
  rw [Try.params7] at hA hval
  obtain ⟨v0, vs0, d0, ds0, p0, q0, hargs, rfl, rfl, h0, r0⟩ := trodAll_cons hA
  obtain ⟨v1, vs1, d1, ds1, p1, q1, rfl, rfl, rfl, h1, r1⟩ := trodAll_cons r0
  obtain ⟨v2, vs2, d2, ds2, p2, q2, rfl, rfl, rfl, h2, r2⟩ := trodAll_cons r1
  obtain ⟨v3, vs3, d3, ds3, p3, q3, rfl, rfl, rfl, h3, r3⟩ := trodAll_cons r2
  obtain ⟨rfl, rfl, rfl⟩ := trodAll_nil r3
  obtain rfl : args = #[v0, v1, v2, v3] := by cases args; simp_all
  obtain ⟨rfl, rfl⟩ := trodVars_none hV
  have k0 := h0
  have lt0 : ∀ x ∈ p0, x.block < W.heap.size := by obtain ⟨m, hm⟩ := k0; exact DataW.trod_lt m _ _ _ hm
  have k1 := h1
  have lt1 : ∀ x ∈ p1, x.block < W.heap.size := by obtain ⟨m, hm⟩ := k1; exact DataW.trod_lt m _ _ _ hm
  have k2 := h2
  have lt2 : ∀ x ∈ p2, x.block < W.heap.size := by obtain ⟨m, hm⟩ := k2; exact DataW.trod_lt m _ _ _ hm
  have k3 := h3
  have lt3 : ∀ x ∈ p3, x.block < W.heap.size := by obtain ⟨m, hm⟩ := k3; exact DataW.trod_lt m _ _ _ hm
  obtain ⟨u0, m0, ra0, ln0, rc0, f0, rfl, w0⟩ := openImage (hval 0 24 v0 rfl rfl) h0
  obtain ⟨s1Ram, n1Ram, c1Ram, f1Ram, a1Bank, rfl, w1Ram, w1Bank⟩ := open_Mem (hval 1 27 v1 rfl rfl) h1
  obtain ⟨a2, rfl, rfl, rfl, w2⟩ := open_int Try.underlying3 (hval 2 3 v2 rfl rfl) h2
  obtain ⟨a3, rfl, rfl, rfl, w3⟩ := open_int Try.underlying3 (hval 3 3 v3 rfl rfl) h3
  clear hA0 hval0
  refine (walk u0 m0 ra0 ln0 rc0 f0 s1Ram n1Ram c1Ram f1Ram a1Bank a2 a3 W w0 w1Ram w1Bank w2 w3).mono fun e W' ⟨he, bel⟩ => ?_
  subst he
  exact ⟨_, rfl, _, _, _, [], _, [], hW', trodAll_mk1 (shut_bool Try.underlying4 _), (trodAll_cons_mk (Below.trod laidOut (by kernel_rfl) (of_decide_eq_true (by kernel_rfl)) k0 bel lt0) (trodAll_cons_mk (Below.trod laidOut (by kernel_rfl) (of_decide_eq_true (by kernel_rfl)) k1 bel lt1) (trodAll_cons_mk (Below.trod laidOut (by kernel_rfl) (of_decide_eq_true (by kernel_rfl)) k2 bel lt2) (trodAll_cons_mk (Below.trod laidOut (by kernel_rfl) (of_decide_eq_true (by kernel_rfl)) k3 bel lt3) trodAll_mk0)))), rfl, bel.frame _, fun h => by cases h⟩
theorem over : Rows.fnExactPokeRow.holds Try.pinned (OpenSpec.ofChange Rows.fnExactPokeSpec) :=
  OpenClaim.holds_of_wide 7 Try.f7 rfl rfl rfl rfl rfl rfl rfl ⟨rfl, rfl, rfl, rfl, rfl⟩ rfl rfl rfl rfl rfl (by kernel_rfl) Try.func7 (by kernel_rfl)
    (of_decide_eq_true (by kernel_rfl)) (by unfold Func.isWrapper; first | (rw [if_pos (by decide +kernel)]; kernel_rfl) | (rw [if_neg (by decide +kernel)]; exact ⟨rfl, rfl⟩))
    (fun os started H enc _ => lifted os started H enc)
end Go.Proofs.Ytpaedkefmebjjam.fnExactPoke
namespace Go.Proofs.Ytpaedkefmebjjam
theorem fnExactPoke_holds : Rows.FnExactPokeSaid := fnExactPoke.over
end Go.Proofs.Ytpaedkefmebjjam
