/-
  Chapter 19: its law over what is drawn.
-/
import Derived.Test.YteefbbnkfclllaaDoorXF
import Derived.Test.YteefbbnkfclllaaDoorXJ
import Derived.Test.YteefbbnkfclllaaDoorV2
import Derived.Lib.QuietBelow
import Derived.BigQuiet
namespace Go.Proofs.YteefbbnkfclllaaDoor
set_option linter.unusedVariables false
set_option linter.unusedSimpArgs false
open Go.ChangeShapes Go.WideShapes Go.ChangeAt Go.RowKit Go.Sort
theorem okT_frame {f : Nat → Int} (h : ∀ j, j < 48 → 0 ≤ f j ∧ f j ≤ 63) : okT (frameStr 48 f) = true ∧ ∀ j, j < 48 → dotF (frameStr 48 f) j = f j := by
  rw [frameStr_yes h]
  have hd : ∀ j, j < 48 → dotF (strB 54 (frameF f)) j = f j := fun j hj => dotF_strB h hj
  refine ⟨?_, hd⟩
  unfold okT
  rw [decide_eq_true_eq]
  exact ⟨strB_size _ _, by rw [frameStr_congr hd, frameStr_yes h]⟩
theorem boxG {W0 : World} {b : Nat} {cs : Array Value} {t : TypeId} (h : W0.heap[b]? = some (.cells cs t (0, 0))) (d : Nat) (os : Array Obj) (j : Nat) : (grow (redrawn W0 d) os).cell? ⟨b, j, none⟩ = cs[j]? := by
  rw [(below_regrown W0 d os).cell (boxLt h)]
  exact boxC h j
theorem cpuS_ne {A X S Pc : Int} {Z N C I : Bool} (h : okCpu A X S Pc = true) : ((cpuS A X S Pc Z N C I).toList == []) = false := by
  rw [ByteArray.toList_eq]
  simp only [beq_eq_false_iff_ne, ne_eq, Array.toList_eq_nil_iff]
  intro e
  have hz : (cpuS A X S Pc Z N C I).size = 0 := by show (cpuS A X S Pc Z N C I).data.size = 0; rw [e]; rfl
  unfold cpuS numS at hz
  rw [h] at hz
  simp only [if_true, ByteArray.size_append] at hz
  have : (⟨#[65]⟩ : ByteArray).size = 1 := rfl
  omega
theorem cpuS_no {A X S Pc : Int} {Z N C I : Bool} (h : okCpu A X S Pc = false) : cpuS A X S Pc Z N C I = ⟨#[]⟩ := by
  unfold cpuS
  rw [h]
  rfl
set_option maxRecDepth 40000 in
set_option maxHeartbeats 8000000 in
theorem lawShown (w : World) (s0 : Option Addr) (n0 c0 : Nat) (hp : Pow w) (h : (1048576 : Int) < (n0 : Int) ∨ Code w w.heap.size s0 n0) :
    Calls Tryd.prog 3 #[.slice s0 n0 c0] w fun e w' => e = .returned (.bool true) ∧ Below w.heap.size w w' := by
  by_cases hbig : (1048576 : Int) < (n0 : Int)
  · have hb' : decide ((1048576 : Int) < (n0 : Int)) = true := decide_eq_true hbig
    go_enter Tryd.func3, Tryd.ntmps3
    go_wp2_with fail
    refine (lawsBig _ s0 n0 c0).mono ?_
    rintro e w' ⟨rfl, rfl⟩
    rw [hb']
    go_wp2
    go_ret
    exact ⟨rfl, Below.refl _ _⟩
  · have hb' : decide ((1048576 : Int) < (n0 : Int)) = false := decide_eq_false hbig
    have hcode : Code w w.heap.size s0 n0 := h.resolve_left hbig
    clear hbig h
    go_enter Tryd.func3, Tryd.ntmps3
    go_wp2_with fail
    refine (lawsBig _ s0 n0 c0).mono ?_
    rintro e w' ⟨rfl, rfl⟩
    rw [hb']
    clear hb'
    go_wp2_with fail
    refine (drawFrameText _ w'.heap.size s0 n0 c0 (Nat.le_refl _) hcode).mono ?_
    rintro e w1 ⟨v, n, f, rfl, O1, C1⟩
    obtain ⟨fa, fc, rfl, fn, fr, ff, -⟩ := O1.ex
    have I1 : Ints .i64 w1 (fun _ _ => True) (.slice fa n fc) n f := ⟨_, _, rfl, fn, fr, fun _ _ _ => trivial⟩
    clear O1 fr ff
    go_wp2_with fail
    refine (implFrameText _ _ _ n f I1).mono ?_
    rintro e w2 ⟨rfl, L2⟩
    have I2 := I1.keep (wrote_below L2 Nowhere) (fun _ _ _ x => x)
    have C2 := C1.trans (L2.mono C1.size)
    clear I1 C1 L2
    have HS := hide (fun W H => specFrameText W (fun _ _ => True) (.slice fa n fc) n f H)
    obtain ⟨s, hs⟩ : ∃ s, Hid (s = frameStr n f) := ⟨_, rfl⟩
    rw [← hs.out] at HS ⊢
    have e1 : (!s.toList == s.toList) = false := by simp
    go_wp2_with fail
    refine (HS.out _ I2).mono ?_
    rintro e w3 ⟨rfl, L3⟩
    have I3 := I2.keep (wrote_below L3 Nowhere) (fun _ _ _ x => x)
    have C3 := C2.trans (L3.mono C2.size)
    clear HS I2 C2 L3
    by_cases hok : okFrame n f = true
    · obtain ⟨rfl, hr⟩ := okFrame_of hok
      obtain ⟨k1, k2⟩ := okT_frame hr
      rw [← hs.out] at k1 k2
      have k3 : lenT s = 48 := by unfold lenT; rw [k1]; rfl
      have HK2 := hide k2
      have hsz : s.size ≤ 1048576 := by rw [hs.out]; have := frameStr_size 48 f; omega
      have hne : (s.toList == []) = false := by
        rw [ByteArray.toList_eq]
        simp only [beq_eq_false_iff_ne, ne_eq, Array.toList_eq_nil_iff]
        intro e
        have h1 := (okT_of k1).1
        have h2 : s.size = 0 := by show s.data.size = 0; rw [e]; rfl
        omega
      have HM := implFrameRead w3 s hsz
      rw [k1, k3] at HM
      clear k1 k2 k3 hr hok hsz
      go_wp2_with fail
      refine HM.mono ?_
      rintro e w4 ⟨u4, rfl, ⟨ga, gc, rfl, gn, gR, -, -⟩, L4⟩
      have I4 := I3.keep (wrote_below L4 Nowhere) (fun _ _ _ x => x)
      have C4 := C3.trans (L4.mono C3.size)
      clear HM I3 C3 L4
      go_wp2_with fail
      refine (sameInts _ (fun _ _ => True) (fun _ _ => True) _ _ 48 f (dotF s) I4 ⟨_, _, rfl, gn, gR, fun _ _ _ => trivial⟩ (fun j hj => (HK2.out j hj).symm)).mono ?_
      rintro e w5 ⟨rfl, d5, rfl⟩
      have C5 : Below w'.heap.size w' (w4.drewN d5) := C4.trans ⟨rfl, rfl, rfl, Nat.le_refl _, fun _ _ => rfl⟩
      generalize w4.drewN d5 = w5 at *
      clear I4 C4 gR gn HK2 hne
      go_wp2_with fail
      refine (drawFrameRead _ w'.heap.size s0 n0 c0 C5.size (hcode.keep C5)).mono ?_
      rintro e w6 ⟨⟨t, rfl, ht⟩, L6⟩
      have C6 := C5.trans (L6.mono C5.size)
      clear C5 L6
      have hB : (okT t = true ∧ lenT t = 48 ∧ frameStr 48 (dotF t) = t) ∨ (okT t = false ∧ lenT t = 0) := by
        cases hk : okT t
        · exact Or.inr ⟨rfl, by unfold lenT; rw [hk]; rfl⟩
        · exact Or.inl ⟨rfl, by unfold lenT; rw [hk]; rfl, (okT_of hk).2⟩
      rcases hB with ⟨b1, b2, b3⟩ | ⟨b1, b2⟩
      · have HM := fun W => implFrameRead W t (by omega)
        have HP := fun W => specFrameRead W t (by omega)
        simp only [b1, b2] at HM HP
        go_wp2_with fail
        refine (HM _).mono ?_
        rintro e w7 ⟨u7, rfl, ⟨ga, gc, rfl, -, gR, -, -⟩, L7⟩
        have G7 : Ints .i64 w7 (fun _ _ => True) (.slice ga 48 gc) 48 (dotF t) := ⟨_, _, rfl, by omega, gR, fun _ _ _ => trivial⟩
        have C7 := C6.trans (L7.mono C6.size)
        clear C6 L7 gR HM
        go_wp2_with fail
        refine (HP _).mono ?_
        rintro e w8 ⟨u8, rfl, -, L8⟩
        have G8 := G7.keep (wrote_below L8 Nowhere) (fun _ _ _ x => x)
        have C8 := C7.trans (L8.mono C7.size)
        clear C7 L8 G7 HP
        go_wp2_with fail
        refine (drawToneText _ w'.heap.size s0 n0 c0 C8.size (hcode.keep C8)).mono ?_
        rintro e w9 ⟨v9, ln, lf, rfl, ⟨la, lc, rfl, lm, lR, -, -⟩, L9⟩
        have I9 : Ints .i64 w9 (fun _ _ => True) (.slice la ln lc) ln lf := ⟨_, _, rfl, lm, lR, fun _ _ _ => trivial⟩
        have G9 := G8.keep (wrote_below L9 Nowhere) (fun _ _ _ x => x)
        have C9 := C8.trans (L9.mono C8.size)
        clear C8 L9 G8 lR
        go_wp2_with fail
        refine (drawCpuText _ w'.heap.size s0 n0 c0 C9.size (hcode.keep C9)).mono ?_
        rintro e wa ⟨⟨A, X, S, Pc, Z, N, C, I, rfl⟩, La⟩
        have Ia := I9.keep (wrote_below La Nowhere) (fun _ _ _ x => x)
        have Ga := G9.keep (wrote_below La Nowhere) (fun _ _ _ x => x)
        have Ca := C9.trans (La.mono C9.size)
        clear C9 La G9 I9
        have bB := box_new wa #[.int .i64 A, .int .i64 X, .int .i64 S, .int .i64 Pc, .bool Z, .bool N, .bool C, .bool I] 32
        have LB2 : Below wa.heap.size wa (wa.alloc (.cells #[.int .i64 A, .int .i64 X, .int .i64 S, .int .i64 Pc, .bool Z, .bool N, .bool C, .bool I] 32)) := (Below.refl _ _).alloc (Nat.le_refl _) _
        go_upto_region 18 with (fail)
        generalize wa.alloc (.cells #[.int .i64 A, .int .i64 X, .int .i64 S, .int .i64 Pc, .bool Z, .bool N, .bool C, .bool I] 32) = WB at *
        have IB := Ia.keep (wrote_below LB2 Nowhere) (fun _ _ _ x => x)
        have GB := Ga.keep (wrote_below LB2 Nowhere) (fun _ _ _ x => x)
        have CB := Ca.trans (LB2.mono Ca.size)
        have hpB := Pow.mono hp CB
        have bxB := boxG bB
        clear Ia Ga LB2 Ca bB
        obtain ⟨ts, hts⟩ : ∃ x, Hid (x = strB ln (fun i => toneF (lf i))) := ⟨_, rfl⟩
        cases hok2 : okCpu A X S Pc
        · have ce := cpuS_no (Z := Z) (N := N) (C := C) (I := I) hok2
          have KC : ∀ d os, Calls Tryd.prog 16 #[.agg #[.int .i64 A, .int .i64 X, .int .i64 S, .int .i64 Pc, .bool Z, .bool N, .bool C, .bool I]] (grow (redrawn WB d) os) fun e w' => e = .returned (.string (cpuS A X S Pc Z N C I)) ∧ Below (grow (redrawn WB d) os).heap.size (grow (redrawn WB d) os) w' := fun d os => implCpuText _ A X S Pc Z N C I (Pow.mono hpB (below_regrown WB d os))
          have KD : ∀ d os, Calls Tryd.prog 17 #[.agg #[.int .i64 A, .int .i64 X, .int .i64 S, .int .i64 Pc, .bool Z, .bool N, .bool C, .bool I]] (grow (redrawn WB d) os) fun e w' => e = .returned (.string (cpuS A X S Pc Z N C I)) ∧ Below (grow (redrawn WB d) os).heap.size (grow (redrawn WB d) os) w' := fun d os => specCpuText _ A X S Pc Z N C I
          have KO : ∀ d os, Calls Tryd.prog 18 #[.agg #[.int .i64 A, .int .i64 X, .int .i64 S, .int .i64 Pc, .bool Z, .bool N, .bool C, .bool I]] (grow (redrawn WB d) os) fun e w' => e = .returned (.bool false) ∧ Below (grow (redrawn WB d) os).heap.size (grow (redrawn WB d) os) w' := fun d os => by
            rw [← hok2]
            exact implCpuOk _ A X S Pc Z N C I
          rw [ce] at KC KD
          have KT : ∀ d os, Calls Tryd.prog 14 #[.slice la ln lc] (grow (redrawn WB d) os) fun e w' => e = .returned (.string ts) ∧ Below (grow (redrawn WB d) os).heap.size (grow (redrawn WB d) os) w' := fun d os => by
            rw [hts.out]
            exact implToneText _ _ _ ln lf (IB.keep (wrote_below (below_regrown WB d os) Nowhere) (fun _ _ _ x => x))
          have KU : ∀ d os, Calls Tryd.prog 15 #[.slice la ln lc] (grow (redrawn WB d) os) fun e w' => e = .returned (.string ts) ∧ Below (grow (redrawn WB d) os).heap.size (grow (redrawn WB d) os) w' := fun d os => by
            rw [hts.out]
            exact specToneText _ _ _ ln lf (IB.keep (wrote_below (below_regrown WB d os) Nowhere) (fun _ _ _ x => x))
          have KF : ∀ d os, Calls Tryd.prog 6 #[.slice ga 48 gc] (grow (redrawn WB d) os) fun e w' => e = .returned (.string t) ∧ Below (grow (redrawn WB d) os).heap.size (grow (redrawn WB d) os) w' := fun d os => by
            have := implFrameText (grow (redrawn WB d) os) _ _ 48 (dotF t) (GB.keep (wrote_below (below_regrown WB d os) Nowhere) (fun _ _ _ x => x))
            rw [b3] at this
            exact this
          have tsz : ((ts.size : Int) == (ln : Int)) = true := by rw [hts.out, strB_size]; simp
          clear b3
          refine wp_region_quiet_below (by kernel_rfl) (by kernel_rfl) ?_
          repeat (go_big_quiet_step (first | (go_at_call 14; exact Calls.regrown_of (KT _ _)) | (go_at_call 15; exact Calls.regrown_of (KU _ _)) | (go_at_call 16; exact Calls.regrown_of (KC _ _)) | (go_at_call 17; exact Calls.regrown_of (KD _ _)) | (go_at_call 18; exact Calls.regrown_of (KO _ _)) | (go_at_call 6; exact Calls.regrown_of (KF _ _))))
          refine wpQuiet_nil ?_
          intro _ hw'
          obtain ⟨⟨dq, osq⟩, hw''⟩ := hw'
          subst hw''
          have LQ := CB.trans ((below_regrown WB dq osq).mono CB.size)
          generalize grow (redrawn WB dq) osq = wq at *
          go_wp2
          go_ret
          exact ⟨rfl, LQ⟩
        · have cne := cpuS_ne (Z := Z) (N := N) (C := C) (I := I) hok2
          have KC : ∀ d os, Calls Tryd.prog 16 #[.agg #[.int .i64 A, .int .i64 X, .int .i64 S, .int .i64 Pc, .bool Z, .bool N, .bool C, .bool I]] (grow (redrawn WB d) os) fun e w' => e = .returned (.string (cpuS A X S Pc Z N C I)) ∧ Below (grow (redrawn WB d) os).heap.size (grow (redrawn WB d) os) w' := fun d os => implCpuText _ A X S Pc Z N C I (Pow.mono hpB (below_regrown WB d os))
          have KD : ∀ d os, Calls Tryd.prog 17 #[.agg #[.int .i64 A, .int .i64 X, .int .i64 S, .int .i64 Pc, .bool Z, .bool N, .bool C, .bool I]] (grow (redrawn WB d) os) fun e w' => e = .returned (.string (cpuS A X S Pc Z N C I)) ∧ Below (grow (redrawn WB d) os).heap.size (grow (redrawn WB d) os) w' := fun d os => specCpuText _ A X S Pc Z N C I
          have KO : ∀ d os, Calls Tryd.prog 18 #[.agg #[.int .i64 A, .int .i64 X, .int .i64 S, .int .i64 Pc, .bool Z, .bool N, .bool C, .bool I]] (grow (redrawn WB d) os) fun e w' => e = .returned (.bool true) ∧ Below (grow (redrawn WB d) os).heap.size (grow (redrawn WB d) os) w' := fun d os => by
            rw [← hok2]
            exact implCpuOk _ A X S Pc Z N C I
          generalize cpuS A X S Pc Z N C I = cs at *
          have KT : ∀ d os, Calls Tryd.prog 14 #[.slice la ln lc] (grow (redrawn WB d) os) fun e w' => e = .returned (.string ts) ∧ Below (grow (redrawn WB d) os).heap.size (grow (redrawn WB d) os) w' := fun d os => by
            rw [hts.out]
            exact implToneText _ _ _ ln lf (IB.keep (wrote_below (below_regrown WB d os) Nowhere) (fun _ _ _ x => x))
          have KU : ∀ d os, Calls Tryd.prog 15 #[.slice la ln lc] (grow (redrawn WB d) os) fun e w' => e = .returned (.string ts) ∧ Below (grow (redrawn WB d) os).heap.size (grow (redrawn WB d) os) w' := fun d os => by
            rw [hts.out]
            exact specToneText _ _ _ ln lf (IB.keep (wrote_below (below_regrown WB d os) Nowhere) (fun _ _ _ x => x))
          have KF : ∀ d os, Calls Tryd.prog 6 #[.slice ga 48 gc] (grow (redrawn WB d) os) fun e w' => e = .returned (.string t) ∧ Below (grow (redrawn WB d) os).heap.size (grow (redrawn WB d) os) w' := fun d os => by
            have := implFrameText (grow (redrawn WB d) os) _ _ 48 (dotF t) (GB.keep (wrote_below (below_regrown WB d os) Nowhere) (fun _ _ _ x => x))
            rw [b3] at this
            exact this
          have tsz : ((ts.size : Int) == (ln : Int)) = true := by rw [hts.out, strB_size]; simp
          clear b3
          refine wp_region_quiet_below (by kernel_rfl) (by kernel_rfl) ?_
          repeat (go_big_quiet_step (first | (go_at_call 14; exact Calls.regrown_of (KT _ _)) | (go_at_call 15; exact Calls.regrown_of (KU _ _)) | (go_at_call 16; exact Calls.regrown_of (KC _ _)) | (go_at_call 17; exact Calls.regrown_of (KD _ _)) | (go_at_call 18; exact Calls.regrown_of (KO _ _)) | (go_at_call 6; exact Calls.regrown_of (KF _ _))))
          refine wpQuiet_nil ?_
          intro _ hw'
          obtain ⟨⟨dq, osq⟩, hw''⟩ := hw'
          subst hw''
          have LQ := CB.trans ((below_regrown WB dq osq).mono CB.size)
          generalize grow (redrawn WB dq) osq = wq at *
          go_wp2
          go_ret
          exact ⟨rfl, LQ⟩
      · have HM := fun W => implFrameRead W t (by omega)
        have HP := fun W => specFrameRead W t (by omega)
        simp only [b1, b2] at HM HP
        go_wp2_with fail
        refine (HM _).mono ?_
        rintro e w7 ⟨u7, rfl, ⟨ga, gc, rfl, -, gR, -, -⟩, L7⟩
        have G7 : Ints .i64 w7 (fun _ _ => True) (.slice ga 0 gc) 0 (dotF t) := ⟨_, _, rfl, by omega, gR, fun _ _ _ => trivial⟩
        have C7 := C6.trans (L7.mono C6.size)
        clear C6 L7 gR HM
        go_wp2_with fail
        refine (HP _).mono ?_
        rintro e w8 ⟨u8, rfl, -, L8⟩
        have G8 := G7.keep (wrote_below L8 Nowhere) (fun _ _ _ x => x)
        have C8 := C7.trans (L8.mono C7.size)
        clear C7 L8 G7 HP
        go_wp2_with fail
        refine (drawToneText _ w'.heap.size s0 n0 c0 C8.size (hcode.keep C8)).mono ?_
        rintro e w9 ⟨v9, ln, lf, rfl, ⟨la, lc, rfl, lm, lR, -, -⟩, L9⟩
        have I9 : Ints .i64 w9 (fun _ _ => True) (.slice la ln lc) ln lf := ⟨_, _, rfl, lm, lR, fun _ _ _ => trivial⟩
        have G9 := G8.keep (wrote_below L9 Nowhere) (fun _ _ _ x => x)
        have C9 := C8.trans (L9.mono C8.size)
        clear C8 L9 G8 lR
        go_wp2_with fail
        refine (drawCpuText _ w'.heap.size s0 n0 c0 C9.size (hcode.keep C9)).mono ?_
        rintro e wa ⟨⟨A, X, S, Pc, Z, N, C, I, rfl⟩, La⟩
        have Ia := I9.keep (wrote_below La Nowhere) (fun _ _ _ x => x)
        have Ga := G9.keep (wrote_below La Nowhere) (fun _ _ _ x => x)
        have Ca := C9.trans (La.mono C9.size)
        clear C9 La G9 I9
        have bB := box_new wa #[.int .i64 A, .int .i64 X, .int .i64 S, .int .i64 Pc, .bool Z, .bool N, .bool C, .bool I] 32
        have LB2 : Below wa.heap.size wa (wa.alloc (.cells #[.int .i64 A, .int .i64 X, .int .i64 S, .int .i64 Pc, .bool Z, .bool N, .bool C, .bool I] 32)) := (Below.refl _ _).alloc (Nat.le_refl _) _
        go_upto_region 18 with (fail)
        generalize wa.alloc (.cells #[.int .i64 A, .int .i64 X, .int .i64 S, .int .i64 Pc, .bool Z, .bool N, .bool C, .bool I] 32) = WB at *
        have IB := Ia.keep (wrote_below LB2 Nowhere) (fun _ _ _ x => x)
        have GB := Ga.keep (wrote_below LB2 Nowhere) (fun _ _ _ x => x)
        have CB := Ca.trans (LB2.mono Ca.size)
        have hpB := Pow.mono hp CB
        have bxB := boxG bB
        clear Ia Ga LB2 Ca bB
        obtain ⟨ts, hts⟩ : ∃ x, Hid (x = strB ln (fun i => toneF (lf i))) := ⟨_, rfl⟩
        cases hok2 : okCpu A X S Pc
        · have ce := cpuS_no (Z := Z) (N := N) (C := C) (I := I) hok2
          have KC : ∀ d os, Calls Tryd.prog 16 #[.agg #[.int .i64 A, .int .i64 X, .int .i64 S, .int .i64 Pc, .bool Z, .bool N, .bool C, .bool I]] (grow (redrawn WB d) os) fun e w' => e = .returned (.string (cpuS A X S Pc Z N C I)) ∧ Below (grow (redrawn WB d) os).heap.size (grow (redrawn WB d) os) w' := fun d os => implCpuText _ A X S Pc Z N C I (Pow.mono hpB (below_regrown WB d os))
          have KD : ∀ d os, Calls Tryd.prog 17 #[.agg #[.int .i64 A, .int .i64 X, .int .i64 S, .int .i64 Pc, .bool Z, .bool N, .bool C, .bool I]] (grow (redrawn WB d) os) fun e w' => e = .returned (.string (cpuS A X S Pc Z N C I)) ∧ Below (grow (redrawn WB d) os).heap.size (grow (redrawn WB d) os) w' := fun d os => specCpuText _ A X S Pc Z N C I
          have KO : ∀ d os, Calls Tryd.prog 18 #[.agg #[.int .i64 A, .int .i64 X, .int .i64 S, .int .i64 Pc, .bool Z, .bool N, .bool C, .bool I]] (grow (redrawn WB d) os) fun e w' => e = .returned (.bool false) ∧ Below (grow (redrawn WB d) os).heap.size (grow (redrawn WB d) os) w' := fun d os => by
            rw [← hok2]
            exact implCpuOk _ A X S Pc Z N C I
          rw [ce] at KC KD
          have KT : ∀ d os, Calls Tryd.prog 14 #[.slice la ln lc] (grow (redrawn WB d) os) fun e w' => e = .returned (.string ts) ∧ Below (grow (redrawn WB d) os).heap.size (grow (redrawn WB d) os) w' := fun d os => by
            rw [hts.out]
            exact implToneText _ _ _ ln lf (IB.keep (wrote_below (below_regrown WB d os) Nowhere) (fun _ _ _ x => x))
          have KU : ∀ d os, Calls Tryd.prog 15 #[.slice la ln lc] (grow (redrawn WB d) os) fun e w' => e = .returned (.string ts) ∧ Below (grow (redrawn WB d) os).heap.size (grow (redrawn WB d) os) w' := fun d os => by
            rw [hts.out]
            exact specToneText _ _ _ ln lf (IB.keep (wrote_below (below_regrown WB d os) Nowhere) (fun _ _ _ x => x))
          have tsz : ((ts.size : Int) == (ln : Int)) = true := by rw [hts.out, strB_size]; simp
          refine wp_region_quiet_below (by kernel_rfl) (by kernel_rfl) ?_
          repeat (go_big_quiet_step (first | (go_at_call 14; exact Calls.regrown_of (KT _ _)) | (go_at_call 15; exact Calls.regrown_of (KU _ _)) | (go_at_call 16; exact Calls.regrown_of (KC _ _)) | (go_at_call 17; exact Calls.regrown_of (KD _ _)) | (go_at_call 18; exact Calls.regrown_of (KO _ _))))
          refine wpQuiet_nil ?_
          intro _ hw'
          obtain ⟨⟨dq, osq⟩, hw''⟩ := hw'
          subst hw''
          have LQ := CB.trans ((below_regrown WB dq osq).mono CB.size)
          generalize grow (redrawn WB dq) osq = wq at *
          go_wp2
          go_ret
          exact ⟨rfl, LQ⟩
        · have cne := cpuS_ne (Z := Z) (N := N) (C := C) (I := I) hok2
          have KC : ∀ d os, Calls Tryd.prog 16 #[.agg #[.int .i64 A, .int .i64 X, .int .i64 S, .int .i64 Pc, .bool Z, .bool N, .bool C, .bool I]] (grow (redrawn WB d) os) fun e w' => e = .returned (.string (cpuS A X S Pc Z N C I)) ∧ Below (grow (redrawn WB d) os).heap.size (grow (redrawn WB d) os) w' := fun d os => implCpuText _ A X S Pc Z N C I (Pow.mono hpB (below_regrown WB d os))
          have KD : ∀ d os, Calls Tryd.prog 17 #[.agg #[.int .i64 A, .int .i64 X, .int .i64 S, .int .i64 Pc, .bool Z, .bool N, .bool C, .bool I]] (grow (redrawn WB d) os) fun e w' => e = .returned (.string (cpuS A X S Pc Z N C I)) ∧ Below (grow (redrawn WB d) os).heap.size (grow (redrawn WB d) os) w' := fun d os => specCpuText _ A X S Pc Z N C I
          have KO : ∀ d os, Calls Tryd.prog 18 #[.agg #[.int .i64 A, .int .i64 X, .int .i64 S, .int .i64 Pc, .bool Z, .bool N, .bool C, .bool I]] (grow (redrawn WB d) os) fun e w' => e = .returned (.bool true) ∧ Below (grow (redrawn WB d) os).heap.size (grow (redrawn WB d) os) w' := fun d os => by
            rw [← hok2]
            exact implCpuOk _ A X S Pc Z N C I
          generalize cpuS A X S Pc Z N C I = cs at *
          have KT : ∀ d os, Calls Tryd.prog 14 #[.slice la ln lc] (grow (redrawn WB d) os) fun e w' => e = .returned (.string ts) ∧ Below (grow (redrawn WB d) os).heap.size (grow (redrawn WB d) os) w' := fun d os => by
            rw [hts.out]
            exact implToneText _ _ _ ln lf (IB.keep (wrote_below (below_regrown WB d os) Nowhere) (fun _ _ _ x => x))
          have KU : ∀ d os, Calls Tryd.prog 15 #[.slice la ln lc] (grow (redrawn WB d) os) fun e w' => e = .returned (.string ts) ∧ Below (grow (redrawn WB d) os).heap.size (grow (redrawn WB d) os) w' := fun d os => by
            rw [hts.out]
            exact specToneText _ _ _ ln lf (IB.keep (wrote_below (below_regrown WB d os) Nowhere) (fun _ _ _ x => x))
          have tsz : ((ts.size : Int) == (ln : Int)) = true := by rw [hts.out, strB_size]; simp
          refine wp_region_quiet_below (by kernel_rfl) (by kernel_rfl) ?_
          repeat (go_big_quiet_step (first | (go_at_call 14; exact Calls.regrown_of (KT _ _)) | (go_at_call 15; exact Calls.regrown_of (KU _ _)) | (go_at_call 16; exact Calls.regrown_of (KC _ _)) | (go_at_call 17; exact Calls.regrown_of (KD _ _)) | (go_at_call 18; exact Calls.regrown_of (KO _ _))))
          refine wpQuiet_nil ?_
          intro _ hw'
          obtain ⟨⟨dq, osq⟩, hw''⟩ := hw'
          subst hw''
          have LQ := CB.trans ((below_regrown WB dq osq).mono CB.size)
          generalize grow (redrawn WB dq) osq = wq at *
          go_wp2
          go_ret
          exact ⟨rfl, LQ⟩
    · have hok' : okFrame n f = false := by simpa using hok
      have hE : Hid (s = ⟨#[]⟩) := by show _ = _; rw [hs.out]; exact frameStr_no hok'
      have hne : (s.toList == []) = true := by rw [hE.out, ByteArray.toList_eq]; rfl
      have C5 := C3
      clear hok hok' C3 I3
      go_wp2_with fail
      refine (drawFrameRead _ w'.heap.size s0 n0 c0 C5.size (hcode.keep C5)).mono ?_
      rintro e w6 ⟨⟨t, rfl, ht⟩, L6⟩
      have C6 := C5.trans (L6.mono C5.size)
      clear C5 L6
      have hB : (okT t = true ∧ lenT t = 48 ∧ frameStr 48 (dotF t) = t) ∨ (okT t = false ∧ lenT t = 0) := by
        cases hk : okT t
        · exact Or.inr ⟨rfl, by unfold lenT; rw [hk]; rfl⟩
        · exact Or.inl ⟨rfl, by unfold lenT; rw [hk]; rfl, (okT_of hk).2⟩
      rcases hB with ⟨b1, b2, b3⟩ | ⟨b1, b2⟩
      · have HM := fun W => implFrameRead W t (by omega)
        have HP := fun W => specFrameRead W t (by omega)
        simp only [b1, b2] at HM HP
        go_wp2_with fail
        refine (HM _).mono ?_
        rintro e w7 ⟨u7, rfl, ⟨ga, gc, rfl, -, gR, -, -⟩, L7⟩
        have G7 : Ints .i64 w7 (fun _ _ => True) (.slice ga 48 gc) 48 (dotF t) := ⟨_, _, rfl, by omega, gR, fun _ _ _ => trivial⟩
        have C7 := C6.trans (L7.mono C6.size)
        clear C6 L7 gR HM
        go_wp2_with fail
        refine (HP _).mono ?_
        rintro e w8 ⟨u8, rfl, -, L8⟩
        have G8 := G7.keep (wrote_below L8 Nowhere) (fun _ _ _ x => x)
        have C8 := C7.trans (L8.mono C7.size)
        clear C7 L8 G7 HP
        go_wp2_with fail
        refine (drawToneText _ w'.heap.size s0 n0 c0 C8.size (hcode.keep C8)).mono ?_
        rintro e w9 ⟨v9, ln, lf, rfl, ⟨la, lc, rfl, lm, lR, -, -⟩, L9⟩
        have I9 : Ints .i64 w9 (fun _ _ => True) (.slice la ln lc) ln lf := ⟨_, _, rfl, lm, lR, fun _ _ _ => trivial⟩
        have G9 := G8.keep (wrote_below L9 Nowhere) (fun _ _ _ x => x)
        have C9 := C8.trans (L9.mono C8.size)
        clear C8 L9 G8 lR
        go_wp2_with fail
        refine (drawCpuText _ w'.heap.size s0 n0 c0 C9.size (hcode.keep C9)).mono ?_
        rintro e wa ⟨⟨A, X, S, Pc, Z, N, C, I, rfl⟩, La⟩
        have Ia := I9.keep (wrote_below La Nowhere) (fun _ _ _ x => x)
        have Ga := G9.keep (wrote_below La Nowhere) (fun _ _ _ x => x)
        have Ca := C9.trans (La.mono C9.size)
        clear C9 La G9 I9
        have bB := box_new wa #[.int .i64 A, .int .i64 X, .int .i64 S, .int .i64 Pc, .bool Z, .bool N, .bool C, .bool I] 32
        have LB2 : Below wa.heap.size wa (wa.alloc (.cells #[.int .i64 A, .int .i64 X, .int .i64 S, .int .i64 Pc, .bool Z, .bool N, .bool C, .bool I] 32)) := (Below.refl _ _).alloc (Nat.le_refl _) _
        go_upto_region 18 with (fail)
        generalize wa.alloc (.cells #[.int .i64 A, .int .i64 X, .int .i64 S, .int .i64 Pc, .bool Z, .bool N, .bool C, .bool I] 32) = WB at *
        have IB := Ia.keep (wrote_below LB2 Nowhere) (fun _ _ _ x => x)
        have GB := Ga.keep (wrote_below LB2 Nowhere) (fun _ _ _ x => x)
        have CB := Ca.trans (LB2.mono Ca.size)
        have hpB := Pow.mono hp CB
        have bxB := boxG bB
        clear Ia Ga LB2 Ca bB
        obtain ⟨ts, hts⟩ : ∃ x, Hid (x = strB ln (fun i => toneF (lf i))) := ⟨_, rfl⟩
        cases hok2 : okCpu A X S Pc
        · have ce := cpuS_no (Z := Z) (N := N) (C := C) (I := I) hok2
          have KC : ∀ d os, Calls Tryd.prog 16 #[.agg #[.int .i64 A, .int .i64 X, .int .i64 S, .int .i64 Pc, .bool Z, .bool N, .bool C, .bool I]] (grow (redrawn WB d) os) fun e w' => e = .returned (.string (cpuS A X S Pc Z N C I)) ∧ Below (grow (redrawn WB d) os).heap.size (grow (redrawn WB d) os) w' := fun d os => implCpuText _ A X S Pc Z N C I (Pow.mono hpB (below_regrown WB d os))
          have KD : ∀ d os, Calls Tryd.prog 17 #[.agg #[.int .i64 A, .int .i64 X, .int .i64 S, .int .i64 Pc, .bool Z, .bool N, .bool C, .bool I]] (grow (redrawn WB d) os) fun e w' => e = .returned (.string (cpuS A X S Pc Z N C I)) ∧ Below (grow (redrawn WB d) os).heap.size (grow (redrawn WB d) os) w' := fun d os => specCpuText _ A X S Pc Z N C I
          have KO : ∀ d os, Calls Tryd.prog 18 #[.agg #[.int .i64 A, .int .i64 X, .int .i64 S, .int .i64 Pc, .bool Z, .bool N, .bool C, .bool I]] (grow (redrawn WB d) os) fun e w' => e = .returned (.bool false) ∧ Below (grow (redrawn WB d) os).heap.size (grow (redrawn WB d) os) w' := fun d os => by
            rw [← hok2]
            exact implCpuOk _ A X S Pc Z N C I
          rw [ce] at KC KD
          have KT : ∀ d os, Calls Tryd.prog 14 #[.slice la ln lc] (grow (redrawn WB d) os) fun e w' => e = .returned (.string ts) ∧ Below (grow (redrawn WB d) os).heap.size (grow (redrawn WB d) os) w' := fun d os => by
            rw [hts.out]
            exact implToneText _ _ _ ln lf (IB.keep (wrote_below (below_regrown WB d os) Nowhere) (fun _ _ _ x => x))
          have KU : ∀ d os, Calls Tryd.prog 15 #[.slice la ln lc] (grow (redrawn WB d) os) fun e w' => e = .returned (.string ts) ∧ Below (grow (redrawn WB d) os).heap.size (grow (redrawn WB d) os) w' := fun d os => by
            rw [hts.out]
            exact specToneText _ _ _ ln lf (IB.keep (wrote_below (below_regrown WB d os) Nowhere) (fun _ _ _ x => x))
          have KF : ∀ d os, Calls Tryd.prog 6 #[.slice ga 48 gc] (grow (redrawn WB d) os) fun e w' => e = .returned (.string t) ∧ Below (grow (redrawn WB d) os).heap.size (grow (redrawn WB d) os) w' := fun d os => by
            have := implFrameText (grow (redrawn WB d) os) _ _ 48 (dotF t) (GB.keep (wrote_below (below_regrown WB d os) Nowhere) (fun _ _ _ x => x))
            rw [b3] at this
            exact this
          have tsz : ((ts.size : Int) == (ln : Int)) = true := by rw [hts.out, strB_size]; simp
          clear b3
          refine wp_region_quiet_below (by kernel_rfl) (by kernel_rfl) ?_
          repeat (go_big_quiet_step (first | (go_at_call 14; exact Calls.regrown_of (KT _ _)) | (go_at_call 15; exact Calls.regrown_of (KU _ _)) | (go_at_call 16; exact Calls.regrown_of (KC _ _)) | (go_at_call 17; exact Calls.regrown_of (KD _ _)) | (go_at_call 18; exact Calls.regrown_of (KO _ _)) | (go_at_call 6; exact Calls.regrown_of (KF _ _))))
          refine wpQuiet_nil ?_
          intro _ hw'
          obtain ⟨⟨dq, osq⟩, hw''⟩ := hw'
          subst hw''
          have LQ := CB.trans ((below_regrown WB dq osq).mono CB.size)
          generalize grow (redrawn WB dq) osq = wq at *
          go_wp2
          go_ret
          exact ⟨rfl, LQ⟩
        · have cne := cpuS_ne (Z := Z) (N := N) (C := C) (I := I) hok2
          have KC : ∀ d os, Calls Tryd.prog 16 #[.agg #[.int .i64 A, .int .i64 X, .int .i64 S, .int .i64 Pc, .bool Z, .bool N, .bool C, .bool I]] (grow (redrawn WB d) os) fun e w' => e = .returned (.string (cpuS A X S Pc Z N C I)) ∧ Below (grow (redrawn WB d) os).heap.size (grow (redrawn WB d) os) w' := fun d os => implCpuText _ A X S Pc Z N C I (Pow.mono hpB (below_regrown WB d os))
          have KD : ∀ d os, Calls Tryd.prog 17 #[.agg #[.int .i64 A, .int .i64 X, .int .i64 S, .int .i64 Pc, .bool Z, .bool N, .bool C, .bool I]] (grow (redrawn WB d) os) fun e w' => e = .returned (.string (cpuS A X S Pc Z N C I)) ∧ Below (grow (redrawn WB d) os).heap.size (grow (redrawn WB d) os) w' := fun d os => specCpuText _ A X S Pc Z N C I
          have KO : ∀ d os, Calls Tryd.prog 18 #[.agg #[.int .i64 A, .int .i64 X, .int .i64 S, .int .i64 Pc, .bool Z, .bool N, .bool C, .bool I]] (grow (redrawn WB d) os) fun e w' => e = .returned (.bool true) ∧ Below (grow (redrawn WB d) os).heap.size (grow (redrawn WB d) os) w' := fun d os => by
            rw [← hok2]
            exact implCpuOk _ A X S Pc Z N C I
          generalize cpuS A X S Pc Z N C I = cs at *
          have KT : ∀ d os, Calls Tryd.prog 14 #[.slice la ln lc] (grow (redrawn WB d) os) fun e w' => e = .returned (.string ts) ∧ Below (grow (redrawn WB d) os).heap.size (grow (redrawn WB d) os) w' := fun d os => by
            rw [hts.out]
            exact implToneText _ _ _ ln lf (IB.keep (wrote_below (below_regrown WB d os) Nowhere) (fun _ _ _ x => x))
          have KU : ∀ d os, Calls Tryd.prog 15 #[.slice la ln lc] (grow (redrawn WB d) os) fun e w' => e = .returned (.string ts) ∧ Below (grow (redrawn WB d) os).heap.size (grow (redrawn WB d) os) w' := fun d os => by
            rw [hts.out]
            exact specToneText _ _ _ ln lf (IB.keep (wrote_below (below_regrown WB d os) Nowhere) (fun _ _ _ x => x))
          have KF : ∀ d os, Calls Tryd.prog 6 #[.slice ga 48 gc] (grow (redrawn WB d) os) fun e w' => e = .returned (.string t) ∧ Below (grow (redrawn WB d) os).heap.size (grow (redrawn WB d) os) w' := fun d os => by
            have := implFrameText (grow (redrawn WB d) os) _ _ 48 (dotF t) (GB.keep (wrote_below (below_regrown WB d os) Nowhere) (fun _ _ _ x => x))
            rw [b3] at this
            exact this
          have tsz : ((ts.size : Int) == (ln : Int)) = true := by rw [hts.out, strB_size]; simp
          clear b3
          refine wp_region_quiet_below (by kernel_rfl) (by kernel_rfl) ?_
          repeat (go_big_quiet_step (first | (go_at_call 14; exact Calls.regrown_of (KT _ _)) | (go_at_call 15; exact Calls.regrown_of (KU _ _)) | (go_at_call 16; exact Calls.regrown_of (KC _ _)) | (go_at_call 17; exact Calls.regrown_of (KD _ _)) | (go_at_call 18; exact Calls.regrown_of (KO _ _)) | (go_at_call 6; exact Calls.regrown_of (KF _ _))))
          refine wpQuiet_nil ?_
          intro _ hw'
          obtain ⟨⟨dq, osq⟩, hw''⟩ := hw'
          subst hw''
          have LQ := CB.trans ((below_regrown WB dq osq).mono CB.size)
          generalize grow (redrawn WB dq) osq = wq at *
          go_wp2
          go_ret
          exact ⟨rfl, LQ⟩
      · have HM := fun W => implFrameRead W t (by omega)
        have HP := fun W => specFrameRead W t (by omega)
        simp only [b1, b2] at HM HP
        go_wp2_with fail
        refine (HM _).mono ?_
        rintro e w7 ⟨u7, rfl, ⟨ga, gc, rfl, -, gR, -, -⟩, L7⟩
        have G7 : Ints .i64 w7 (fun _ _ => True) (.slice ga 0 gc) 0 (dotF t) := ⟨_, _, rfl, by omega, gR, fun _ _ _ => trivial⟩
        have C7 := C6.trans (L7.mono C6.size)
        clear C6 L7 gR HM
        go_wp2_with fail
        refine (HP _).mono ?_
        rintro e w8 ⟨u8, rfl, -, L8⟩
        have G8 := G7.keep (wrote_below L8 Nowhere) (fun _ _ _ x => x)
        have C8 := C7.trans (L8.mono C7.size)
        clear C7 L8 G7 HP
        go_wp2_with fail
        refine (drawToneText _ w'.heap.size s0 n0 c0 C8.size (hcode.keep C8)).mono ?_
        rintro e w9 ⟨v9, ln, lf, rfl, ⟨la, lc, rfl, lm, lR, -, -⟩, L9⟩
        have I9 : Ints .i64 w9 (fun _ _ => True) (.slice la ln lc) ln lf := ⟨_, _, rfl, lm, lR, fun _ _ _ => trivial⟩
        have G9 := G8.keep (wrote_below L9 Nowhere) (fun _ _ _ x => x)
        have C9 := C8.trans (L9.mono C8.size)
        clear C8 L9 G8 lR
        go_wp2_with fail
        refine (drawCpuText _ w'.heap.size s0 n0 c0 C9.size (hcode.keep C9)).mono ?_
        rintro e wa ⟨⟨A, X, S, Pc, Z, N, C, I, rfl⟩, La⟩
        have Ia := I9.keep (wrote_below La Nowhere) (fun _ _ _ x => x)
        have Ga := G9.keep (wrote_below La Nowhere) (fun _ _ _ x => x)
        have Ca := C9.trans (La.mono C9.size)
        clear C9 La G9 I9
        have bB := box_new wa #[.int .i64 A, .int .i64 X, .int .i64 S, .int .i64 Pc, .bool Z, .bool N, .bool C, .bool I] 32
        have LB2 : Below wa.heap.size wa (wa.alloc (.cells #[.int .i64 A, .int .i64 X, .int .i64 S, .int .i64 Pc, .bool Z, .bool N, .bool C, .bool I] 32)) := (Below.refl _ _).alloc (Nat.le_refl _) _
        go_upto_region 18 with (fail)
        generalize wa.alloc (.cells #[.int .i64 A, .int .i64 X, .int .i64 S, .int .i64 Pc, .bool Z, .bool N, .bool C, .bool I] 32) = WB at *
        have IB := Ia.keep (wrote_below LB2 Nowhere) (fun _ _ _ x => x)
        have GB := Ga.keep (wrote_below LB2 Nowhere) (fun _ _ _ x => x)
        have CB := Ca.trans (LB2.mono Ca.size)
        have hpB := Pow.mono hp CB
        have bxB := boxG bB
        clear Ia Ga LB2 Ca bB
        obtain ⟨ts, hts⟩ : ∃ x, Hid (x = strB ln (fun i => toneF (lf i))) := ⟨_, rfl⟩
        cases hok2 : okCpu A X S Pc
        · have ce := cpuS_no (Z := Z) (N := N) (C := C) (I := I) hok2
          have KC : ∀ d os, Calls Tryd.prog 16 #[.agg #[.int .i64 A, .int .i64 X, .int .i64 S, .int .i64 Pc, .bool Z, .bool N, .bool C, .bool I]] (grow (redrawn WB d) os) fun e w' => e = .returned (.string (cpuS A X S Pc Z N C I)) ∧ Below (grow (redrawn WB d) os).heap.size (grow (redrawn WB d) os) w' := fun d os => implCpuText _ A X S Pc Z N C I (Pow.mono hpB (below_regrown WB d os))
          have KD : ∀ d os, Calls Tryd.prog 17 #[.agg #[.int .i64 A, .int .i64 X, .int .i64 S, .int .i64 Pc, .bool Z, .bool N, .bool C, .bool I]] (grow (redrawn WB d) os) fun e w' => e = .returned (.string (cpuS A X S Pc Z N C I)) ∧ Below (grow (redrawn WB d) os).heap.size (grow (redrawn WB d) os) w' := fun d os => specCpuText _ A X S Pc Z N C I
          have KO : ∀ d os, Calls Tryd.prog 18 #[.agg #[.int .i64 A, .int .i64 X, .int .i64 S, .int .i64 Pc, .bool Z, .bool N, .bool C, .bool I]] (grow (redrawn WB d) os) fun e w' => e = .returned (.bool false) ∧ Below (grow (redrawn WB d) os).heap.size (grow (redrawn WB d) os) w' := fun d os => by
            rw [← hok2]
            exact implCpuOk _ A X S Pc Z N C I
          rw [ce] at KC KD
          have KT : ∀ d os, Calls Tryd.prog 14 #[.slice la ln lc] (grow (redrawn WB d) os) fun e w' => e = .returned (.string ts) ∧ Below (grow (redrawn WB d) os).heap.size (grow (redrawn WB d) os) w' := fun d os => by
            rw [hts.out]
            exact implToneText _ _ _ ln lf (IB.keep (wrote_below (below_regrown WB d os) Nowhere) (fun _ _ _ x => x))
          have KU : ∀ d os, Calls Tryd.prog 15 #[.slice la ln lc] (grow (redrawn WB d) os) fun e w' => e = .returned (.string ts) ∧ Below (grow (redrawn WB d) os).heap.size (grow (redrawn WB d) os) w' := fun d os => by
            rw [hts.out]
            exact specToneText _ _ _ ln lf (IB.keep (wrote_below (below_regrown WB d os) Nowhere) (fun _ _ _ x => x))
          have tsz : ((ts.size : Int) == (ln : Int)) = true := by rw [hts.out, strB_size]; simp
          refine wp_region_quiet_below (by kernel_rfl) (by kernel_rfl) ?_
          repeat (go_big_quiet_step (first | (go_at_call 14; exact Calls.regrown_of (KT _ _)) | (go_at_call 15; exact Calls.regrown_of (KU _ _)) | (go_at_call 16; exact Calls.regrown_of (KC _ _)) | (go_at_call 17; exact Calls.regrown_of (KD _ _)) | (go_at_call 18; exact Calls.regrown_of (KO _ _))))
          refine wpQuiet_nil ?_
          intro _ hw'
          obtain ⟨⟨dq, osq⟩, hw''⟩ := hw'
          subst hw''
          have LQ := CB.trans ((below_regrown WB dq osq).mono CB.size)
          generalize grow (redrawn WB dq) osq = wq at *
          go_wp2
          go_ret
          exact ⟨rfl, LQ⟩
        · have cne := cpuS_ne (Z := Z) (N := N) (C := C) (I := I) hok2
          have KC : ∀ d os, Calls Tryd.prog 16 #[.agg #[.int .i64 A, .int .i64 X, .int .i64 S, .int .i64 Pc, .bool Z, .bool N, .bool C, .bool I]] (grow (redrawn WB d) os) fun e w' => e = .returned (.string (cpuS A X S Pc Z N C I)) ∧ Below (grow (redrawn WB d) os).heap.size (grow (redrawn WB d) os) w' := fun d os => implCpuText _ A X S Pc Z N C I (Pow.mono hpB (below_regrown WB d os))
          have KD : ∀ d os, Calls Tryd.prog 17 #[.agg #[.int .i64 A, .int .i64 X, .int .i64 S, .int .i64 Pc, .bool Z, .bool N, .bool C, .bool I]] (grow (redrawn WB d) os) fun e w' => e = .returned (.string (cpuS A X S Pc Z N C I)) ∧ Below (grow (redrawn WB d) os).heap.size (grow (redrawn WB d) os) w' := fun d os => specCpuText _ A X S Pc Z N C I
          have KO : ∀ d os, Calls Tryd.prog 18 #[.agg #[.int .i64 A, .int .i64 X, .int .i64 S, .int .i64 Pc, .bool Z, .bool N, .bool C, .bool I]] (grow (redrawn WB d) os) fun e w' => e = .returned (.bool true) ∧ Below (grow (redrawn WB d) os).heap.size (grow (redrawn WB d) os) w' := fun d os => by
            rw [← hok2]
            exact implCpuOk _ A X S Pc Z N C I
          generalize cpuS A X S Pc Z N C I = cs at *
          have KT : ∀ d os, Calls Tryd.prog 14 #[.slice la ln lc] (grow (redrawn WB d) os) fun e w' => e = .returned (.string ts) ∧ Below (grow (redrawn WB d) os).heap.size (grow (redrawn WB d) os) w' := fun d os => by
            rw [hts.out]
            exact implToneText _ _ _ ln lf (IB.keep (wrote_below (below_regrown WB d os) Nowhere) (fun _ _ _ x => x))
          have KU : ∀ d os, Calls Tryd.prog 15 #[.slice la ln lc] (grow (redrawn WB d) os) fun e w' => e = .returned (.string ts) ∧ Below (grow (redrawn WB d) os).heap.size (grow (redrawn WB d) os) w' := fun d os => by
            rw [hts.out]
            exact specToneText _ _ _ ln lf (IB.keep (wrote_below (below_regrown WB d os) Nowhere) (fun _ _ _ x => x))
          have tsz : ((ts.size : Int) == (ln : Int)) = true := by rw [hts.out, strB_size]; simp
          refine wp_region_quiet_below (by kernel_rfl) (by kernel_rfl) ?_
          repeat (go_big_quiet_step (first | (go_at_call 14; exact Calls.regrown_of (KT _ _)) | (go_at_call 15; exact Calls.regrown_of (KU _ _)) | (go_at_call 16; exact Calls.regrown_of (KC _ _)) | (go_at_call 17; exact Calls.regrown_of (KD _ _)) | (go_at_call 18; exact Calls.regrown_of (KO _ _))))
          refine wpQuiet_nil ?_
          intro _ hw'
          obtain ⟨⟨dq, osq⟩, hw''⟩ := hw'
          subst hw''
          have LQ := CB.trans ((below_regrown WB dq osq).mono CB.size)
          generalize grow (redrawn WB dq) osq = wq at *
          go_wp2
          go_ret
          exact ⟨rfl, LQ⟩
end Go.Proofs.YteefbbnkfclllaaDoor
