/- At every image and memory of the mirrors' types that are not too great and every integer of 64 bits Peek of the program answers as Peek of the specification, and turns nothing of its arguments. -/
import Derived.Test.YtpaedkefmebjjamRows
import Derived.Test.YtpaedkefmebjjamO
import Derived.Test.YtpaedkefmebjjamI6c
import Derived.WalkKit
import Derived.ProofKit
import Derived.OpenShut
import Derived.ShutString
import Derived.ChangeOld
import Derived.Below
import Derived.Deep.RegionWith
namespace Go.Proofs.Ytpaedkefmebjjam.fnExactPeek
open Go.ChangeShapes Go.WideShapes Go.ChangeAt Go.RowKit
open Go.ChangeMaps (open_string shut_string)
set_option linter.unusedVariables false
theorem own : ownKnob Try.prog.godebug = none := by kernel_rfl
theorem laidOut : laidOutB Try.prog = true := by kernel_rfl
set_option maxHeartbeats 1000000 in
theorem walk (u0 : Value) (m0 : Nat) (ra0 : Nat → Option Addr) (ln0 rc0 : Nat → Nat) (f0 : Nat → Nat → Int) (s1Ram : Option Addr) (n1Ram c1Ram : Nat) (f1Ram : Nat → Int) (a1Bank : Int) (a2 : Int) (w : World) (w0 : RawSS w u0 m0 ra0 ln0 rc0 f0) (w1Ram : n1Ram ≤ 9223372036854775807 ∧ RowOf .i64 w s1Ram n1Ram f1Ram ∧ ∀ i, i < n1Ram → (Lit.int .i64 (f1Ram i)).wf = true) (w1Bank : (Lit.int .i64 a1Bank).wf = true) (w2 : (Lit.int .i64 a2).wf = true) :
    Calls Try.prog 6 #[.agg #[u0], .agg #[.slice s1Ram n1Ram c1Ram, .int .i64 a1Bank], .int .i64 a2] w fun e w' => e = .returned (.bool true) ∧ Below w.heap.size w w' := by
  obtain ⟨h1n, h1r, h1f⟩ := w1Ram
  by_cases hbig0 : (1048576 : Int) < ((m0 + psum ln0 m0 : Nat) : Int)
  · have HZ0 := hide (szOut_no hbig0)
    clear hbig0
    have C0 : Below w.heap.size w ((w.alloc (.cells #[u0] 24)).alloc (.cells #[.slice s1Ram n1Ram c1Ram, .int .i64 a1Bank] 27)) := ((Below.refl _ _).alloc (Nat.le_refl _) _).alloc (by simp) _
    have k0 : ((w.alloc (.cells #[u0] 24)).alloc (.cells #[.slice s1Ram n1Ram c1Ram, .int .i64 a1Bank] 27)).heap[w.heap.size]? = some (.cells #[u0] 24 (0, 0)) := boxA (box_new w #[u0] 24) (.cells #[.slice s1Ram n1Ram c1Ram, .int .i64 a1Bank] 27)
    have k1 : ((w.alloc (.cells #[u0] 24)).alloc (.cells #[.slice s1Ram n1Ram c1Ram, .int .i64 a1Bank] 27)).heap[w.heap.size + 1]? = some (.cells #[.slice s1Ram n1Ram c1Ram, .int .i64 a1Bank] 27 (0, 0)) := by simpa using box_new (w.alloc (.cells #[u0] 24)) #[.slice s1Ram n1Ram c1Ram, .int .i64 a1Bank] 27
    go_enter Try.func6, Try.ntmps6
    go_wp2_with fail
    generalize ((w.alloc (.cells #[u0] 24)).alloc (.cells #[.slice s1Ram n1Ram c1Ram, .int .i64 a1Bank] 27)) = W0 at *
    refine (szImage _ u0 m0 ra0 ln0 rc0 f0 (w0.below C0) (1048576) (by omega) (by omega)).mono ?_
    rintro e W1 ⟨rfl, L⟩
    rw [HZ0.out]
    have C1 := below_snoc C0 L
    replace k0 := box_keep k0 L (boxLt k0)
    replace k1 := box_keep k1 L (boxLt k1)
    clear L C0
    go_wp2
    go_ret
    exact ⟨rfl, C1⟩
  · have HZ0 := hide (szOut_ok (show ((m0 + psum ln0 m0 : Nat) : Int) ≤ 1048576 by omega))
    have hnn0 : ¬ (1048576 - ((m0 + psum ln0 m0 : Nat) : Int) < 0) := by omega
    have hsm0 : m0 + psum ln0 m0 ≤ 1048576 := by omega
    have hI0 := w0.ints hsm0
    by_cases hbig1 : 1048576 - ((m0 + psum ln0 m0 : Nat) : Int) < ((n1Ram : Nat) : Int)
    · have HZ1 := hide (szOut_no hbig1)
      clear hbig1
      have C0 : Below w.heap.size w ((w.alloc (.cells #[u0] 24)).alloc (.cells #[.slice s1Ram n1Ram c1Ram, .int .i64 a1Bank] 27)) := ((Below.refl _ _).alloc (Nat.le_refl _) _).alloc (by simp) _
      have k0 : ((w.alloc (.cells #[u0] 24)).alloc (.cells #[.slice s1Ram n1Ram c1Ram, .int .i64 a1Bank] 27)).heap[w.heap.size]? = some (.cells #[u0] 24 (0, 0)) := boxA (box_new w #[u0] 24) (.cells #[.slice s1Ram n1Ram c1Ram, .int .i64 a1Bank] 27)
      have k1 : ((w.alloc (.cells #[u0] 24)).alloc (.cells #[.slice s1Ram n1Ram c1Ram, .int .i64 a1Bank] 27)).heap[w.heap.size + 1]? = some (.cells #[.slice s1Ram n1Ram c1Ram, .int .i64 a1Bank] 27 (0, 0)) := by simpa using box_new (w.alloc (.cells #[u0] 24)) #[.slice s1Ram n1Ram c1Ram, .int .i64 a1Bank] 27
      go_enter Try.func6, Try.ntmps6
      go_wp2_with fail
      generalize ((w.alloc (.cells #[u0] 24)).alloc (.cells #[.slice s1Ram n1Ram c1Ram, .int .i64 a1Bank] 27)) = W0 at *
      refine (szImage _ u0 m0 ra0 ln0 rc0 f0 (w0.below C0) (1048576) (by omega) (by omega)).mono ?_
      rintro e W1 ⟨rfl, L⟩
      rw [HZ0.out]
      have C1 := below_snoc C0 L
      replace k0 := box_keep k0 L (boxLt k0)
      replace k1 := box_keep k1 L (boxLt k1)
      clear L C0
      have c_k0 := boxC k0
      have c_k1 := boxC k1
      go_wp2_with fail
      clear c_k0 c_k1
      refine (szMem _ s1Ram n1Ram c1Ram a1Bank (1048576 - ((m0 + psum ln0 m0 : Nat) : Int)) h1n (by omega) (by omega)).mono ?_
      rintro e W2 ⟨rfl, L⟩
      rw [HZ1.out]
      have C2 := below_snoc C1 L
      replace k0 := box_keep k0 L (boxLt k0)
      replace k1 := box_keep k1 L (boxLt k1)
      clear L C1
      go_wp2
      go_ret
      exact ⟨rfl, C2⟩
    · have HZ1 := hide (szOut_ok (show ((n1Ram : Nat) : Int) ≤ 1048576 - ((m0 + psum ln0 m0 : Nat) : Int) by omega))
      have hnn1 : ¬ ((1048576 - ((m0 + psum ln0 m0 : Nat) : Int)) - ((n1Ram : Nat) : Int) < 0) := by omega
      have hn1 : n1Ram ≤ 1048576 := by omega
      clear hbig0
      clear hbig1
      have C0 : Below w.heap.size w ((w.alloc (.cells #[u0] 24)).alloc (.cells #[.slice s1Ram n1Ram c1Ram, .int .i64 a1Bank] 27)) := ((Below.refl _ _).alloc (Nat.le_refl _) _).alloc (by simp) _
      have k0 : ((w.alloc (.cells #[u0] 24)).alloc (.cells #[.slice s1Ram n1Ram c1Ram, .int .i64 a1Bank] 27)).heap[w.heap.size]? = some (.cells #[u0] 24 (0, 0)) := boxA (box_new w #[u0] 24) (.cells #[.slice s1Ram n1Ram c1Ram, .int .i64 a1Bank] 27)
      have k1 : ((w.alloc (.cells #[u0] 24)).alloc (.cells #[.slice s1Ram n1Ram c1Ram, .int .i64 a1Bank] 27)).heap[w.heap.size + 1]? = some (.cells #[.slice s1Ram n1Ram c1Ram, .int .i64 a1Bank] 27 (0, 0)) := by simpa using box_new (w.alloc (.cells #[u0] 24)) #[.slice s1Ram n1Ram c1Ram, .int .i64 a1Bank] 27
      go_enter Try.func6, Try.ntmps6
      go_wp2_with fail
      generalize ((w.alloc (.cells #[u0] 24)).alloc (.cells #[.slice s1Ram n1Ram c1Ram, .int .i64 a1Bank] 27)) = W0 at *
      refine (szImage _ u0 m0 ra0 ln0 rc0 f0 (w0.below C0) (1048576) (by omega) (by omega)).mono ?_
      rintro e W1 ⟨rfl, L⟩
      rw [HZ0.out]
      have C1 := below_snoc C0 L
      replace k0 := box_keep k0 L (boxLt k0)
      replace k1 := box_keep k1 L (boxLt k1)
      clear L C0
      have c_k0 := boxC k0
      have c_k1 := boxC k1
      go_wp2_with fail
      clear c_k0 c_k1
      refine (szMem _ s1Ram n1Ram c1Ram a1Bank (1048576 - ((m0 + psum ln0 m0 : Nat) : Int)) h1n (by omega) (by omega)).mono ?_
      rintro e W2 ⟨rfl, L⟩
      rw [HZ1.out]
      have C2 := below_snoc C1 L
      replace k0 := box_keep k0 L (boxLt k0)
      replace k1 := box_keep k1 L (boxLt k1)
      clear L C1
      have c_k0 := boxC k0
      have c_k1 := boxC k1
      go_upto_region 8 with (fail)
      go_cut [8] (fun s WX => s = .int .i64 (peekV m0 ln0 f0 n1Ram f1Ram a1Bank a2) ∧ Below W2.heap.size W2 WX)
      case first =>
        go_region_with (first
          | (go_at_call 12; refine (toImage _ _ u0 m0 ln0 f0 (hI0.keep (wrote_below (below_snoc C2 (Below.refl _ W2).drew) Nowhere) (fun _ _ _ x => x))).mono ?_; rintro e Y0 ⟨p0, hp0, rfl, R0_0, sp0, M0⟩; have D0 : Below W2.heap.size W2 Y0 := (Below.refl _ _).drew.trans M0; have c0_k0 := boxC (box_keep k0 D0 (boxLt k0)); have c0_k1 := boxC (box_keep k1 D0 (boxLt k1)); skip)
          | (go_at_call 13; refine (toMem _ (fun _ _ => True) _ n1Ram f1Ram a1Bank ⟨_, _, rfl, hn1, h1r.keep (wrote_below (below_snoc C2 D0) Nowhere) (fun _ _ _ x => x), fun _ _ _ => trivial⟩).mono ?_; rintro e Y1 ⟨p1, hp1, rfl, R1_1, M1⟩; have D1 : Below W2.heap.size W2 Y1 := below_snoc D0 M1; have c1_k0 := boxC (box_keep k0 D1 (boxLt k0)); have c1_k1 := boxC (box_keep k1 D1 (boxLt k1)); have R0_1 := R0_0.keep (wrote_below M1 Nowhere) (fun _ _ _ _ x => x); skip)
          | (go_at_call 23; refine (specPeek _ _ _ _ _ m0 ln0 f0 n1Ram f1Ram a1Bank a2 (R0_1.ints hsm0) (ints_of_row R1_1 hn1)).mono ?_; rintro e YY ⟨rfl, MM⟩; have DD := below_snoc D1 MM))
        all_goals
          go_wp2_with fail
          go_meet
          exact ⟨rfl, DD⟩
      case rest =>
        obtain ⟨rfl, LX⟩ := hcut
        clear c_k0 c_k1
        have C3 := below_snoc C2 LX
        replace k0 := box_keep k0 LX (boxLt k0)
        replace k1 := box_keep k1 LX (boxLt k1)
        clear LX C2
        have c_k0 := boxC k0
        have c_k1 := boxC k1
        go_wp2_with fail
        clear c_k0 c_k1
        refine (toImage _ _ u0 m0 ln0 f0 (hI0.keep (wrote_below C3 Nowhere) (fun _ _ _ x => x))).mono ?_
        rintro e X0 ⟨q0, hq0, rfl, Q0, sq0, L⟩
        have C4 := below_snoc C3 L
        replace k0 := box_keep k0 L (boxLt k0)
        replace k1 := box_keep k1 L (boxLt k1)
        clear L C3
        replace C4 := C4.alloc C4.size (.cells #[.slice (some ⟨q0, 0, none⟩) m0 m0] 31)
        replace k0 := boxA k0 (.cells #[.slice (some ⟨q0, 0, none⟩) m0 m0] 31)
        replace k1 := boxA k1 (.cells #[.slice (some ⟨q0, 0, none⟩) m0 m0] 31)
        have x0 := box_new X0 #[.slice (some ⟨q0, 0, none⟩) m0 m0] 31
        replace Q0 := Q0.keep (wrote_below ((Below.refl _ X0).alloc (Nat.le_refl _) (.cells #[.slice (some ⟨q0, 0, none⟩) m0 m0] 31)) Nowhere) (fun _ _ _ _ x => x)
        have c_k0 := boxC k0
        have c_k1 := boxC k1
        have c_x0 := boxC x0
        go_wp2_with fail
        clear c_k0 c_k1 c_x0
        generalize (X0.alloc (.cells #[.slice (some ⟨q0, 0, none⟩) m0 m0] 31)) = V1 at *
        refine (toMem _ (fun _ _ => True) _ n1Ram f1Ram a1Bank ⟨_, _, rfl, hn1, h1r.keep (wrote_below C4 Nowhere) (fun _ _ _ x => x), fun _ _ _ => trivial⟩).mono ?_
        rintro e X1 ⟨q1, hq1, rfl, Q1, L⟩
        have C5 := below_snoc C4 L
        replace k0 := box_keep k0 L (boxLt k0)
        replace k1 := box_keep k1 L (boxLt k1)
        replace x0 := box_keep x0 L (boxLt x0)
        replace Q0 := Q0.keep (wrote_below L Nowhere) (fun _ _ _ _ x => x)
        clear L C4
        replace C5 := C5.alloc C5.size (.cells #[.slice (some ⟨q1, 0, none⟩) n1Ram n1Ram, .int .i64 a1Bank] 33)
        replace k0 := boxA k0 (.cells #[.slice (some ⟨q1, 0, none⟩) n1Ram n1Ram, .int .i64 a1Bank] 33)
        replace k1 := boxA k1 (.cells #[.slice (some ⟨q1, 0, none⟩) n1Ram n1Ram, .int .i64 a1Bank] 33)
        replace x0 := boxA x0 (.cells #[.slice (some ⟨q1, 0, none⟩) n1Ram n1Ram, .int .i64 a1Bank] 33)
        have x1 := box_new X1 #[.slice (some ⟨q1, 0, none⟩) n1Ram n1Ram, .int .i64 a1Bank] 33
        replace Q0 := Q0.keep (wrote_below ((Below.refl _ X1).alloc (Nat.le_refl _) (.cells #[.slice (some ⟨q1, 0, none⟩) n1Ram n1Ram, .int .i64 a1Bank] 33)) Nowhere) (fun _ _ _ _ x => x)
        replace Q1 := Q1.alloc (.cells #[.slice (some ⟨q1, 0, none⟩) n1Ram n1Ram, .int .i64 a1Bank] 33)
        have c_k0 := boxC k0
        have c_k1 := boxC k1
        have c_x0 := boxC x0
        have c_x1 := boxC x1
        go_wp2_with fail
        clear c_k0 c_k1 c_x0 c_x1
        generalize (X1.alloc (.cells #[.slice (some ⟨q1, 0, none⟩) n1Ram n1Ram, .int .i64 a1Bank] 33)) = VV at *
        refine (implPeek _ _ _ _ _ m0 ln0 f0 n1Ram f1Ram a1Bank a2 (Q0.ints hsm0) (ints_of_row Q1 hn1)).mono ?_
        rintro e GG ⟨rfl, L⟩
        have C6 := below_snoc C5 L
        replace k0 := box_keep k0 L (boxLt k0)
        replace k1 := box_keep k1 L (boxLt k1)
        replace x0 := box_keep x0 L (boxLt x0)
        replace x1 := box_keep x1 L (boxLt x1)
        replace Q0 := Q0.keep (wrote_below L Nowhere) (fun _ _ _ _ x => x)
        replace Q1 := Q1.of_block (L.block _ Q1.lt)
        clear L C5
        generalize peekV m0 ln0 f0 n1Ram f1Ram a1Bank a2 = res at *
        have c_k0 := boxC k0
        have c_k1 := boxC k1
        have c_x0 := boxC x0
        have c_x1 := boxC x1
        go_upto_region 14 with (fail)
        go_cut [43] (fun s WX => s = .bool false ∧ Below GG.heap.size GG WX)
        case first =>
          go_region_with (first
            | (go_at_call 12; refine (toImage _ _ u0 m0 ln0 f0 (hI0.keep (wrote_below (below_snoc C6 (Below.refl _ GG).drew) Nowhere) (fun _ _ _ x => x))).mono ?_; rintro e YY ⟨pp, hpp, rfl, RR, spp, MM⟩; have DD : Below GG.heap.size GG YY := (Below.refl _ _).drew.trans MM; have d_k0 := boxC (box_keep k0 DD (boxLt k0)); have d_k1 := boxC (box_keep k1 DD (boxLt k1)); have d_x0 := boxC (box_keep x0 DD (boxLt x0)); have d_x1 := boxC (box_keep x1 DD (boxLt x1)); have QQ := Q0.keep (wrote_below DD Nowhere) (fun _ _ _ _ x => x); skip)
            | (go_at_call 15; refine (eqImage _ _ _ _ _ m0 m0 ln0 ln0 f0 f0 (QQ.ints hsm0) (RR.ints hsm0)).mono ?_; rintro e ZZ ⟨rfl, NN⟩; have EE := below_snoc DD NN; rw [eqIntss_refl]))
          all_goals
            go_wp2_with fail
            go_meet
            exact ⟨rfl, EE⟩
        case rest =>
          obtain ⟨rfl, LX⟩ := hcut
          clear c_k0 c_k1 c_x0 c_x1
          have C7 := below_snoc C6 LX
          replace k0 := box_keep k0 LX (boxLt k0)
          replace k1 := box_keep k1 LX (boxLt k1)
          replace x0 := box_keep x0 LX (boxLt x0)
          replace x1 := box_keep x1 LX (boxLt x1)
          replace Q0 := Q0.keep (wrote_below LX Nowhere) (fun _ _ _ _ x => x)
          replace Q1 := Q1.of_block (LX.block _ Q1.lt)
          clear LX C6
          obtain ⟨T0, hT0⟩ : ∃ x, x = wc := ⟨_, rfl⟩
          subst hT0
          have c_k0 := boxC k0
          have c_k1 := boxC k1
          have c_x0 := boxC x0
          have c_x1 := boxC x1
          go_upto_region 16 with (fail)
          go_cut [48] (fun s WX => s = .bool false ∧ Below T0.heap.size T0 WX)
          case first =>
            go_region_with (first
              | (go_at_call 13; refine (toMem _ (fun _ _ => True) _ n1Ram f1Ram a1Bank ⟨_, _, rfl, hn1, h1r.keep (wrote_below (below_snoc C7 (Below.refl _ T0).drew) Nowhere) (fun _ _ _ x => x), fun _ _ _ => trivial⟩).mono ?_; rintro e YY ⟨pp, hpp, rfl, RR, MM⟩; have DD : Below T0.heap.size T0 YY := (Below.refl _ _).drew.trans MM; have d_k0 := boxC (box_keep k0 DD (boxLt k0)); have d_k1 := boxC (box_keep k1 DD (boxLt k1)); have d_x0 := boxC (box_keep x0 DD (boxLt x0)); have d_x1 := boxC (box_keep x1 DD (boxLt x1)); have QQ := Q1.of_block (DD.block _ Q1.lt); skip)
              | (go_at_call 16; refine (eqMem_same _ _ _ _ _ n1Ram f1Ram a1Bank (ints_of_row QQ hn1) (ints_of_row RR hn1)).mono ?_; rintro e ZZ ⟨rfl, NN⟩; have EE := below_snoc DD NN))
            all_goals
              go_wp2_with fail
              go_meet
              exact ⟨rfl, EE⟩
          case rest =>
            obtain ⟨rfl, LX⟩ := hcut
            clear c_k0 c_k1 c_x0 c_x1
            have C8 := below_snoc C7 LX
            replace k0 := box_keep k0 LX (boxLt k0)
            replace k1 := box_keep k1 LX (boxLt k1)
            replace x0 := box_keep x0 LX (boxLt x0)
            replace x1 := box_keep x1 LX (boxLt x1)
            replace Q0 := Q0.keep (wrote_below LX Nowhere) (fun _ _ _ _ x => x)
            replace Q1 := Q1.of_block (LX.block _ Q1.lt)
            clear LX C7
            obtain ⟨T1, hT1⟩ : ∃ x, x = wc := ⟨_, rfl⟩
            subst hT1
            go_wp2
            go_ret
            exact ⟨rfl, C8⟩
set_option maxRecDepth 100000 in
theorem lifted (os : Os) (started : os.Started) (H : Type) (enc : TypeId × Value → H) :
    ReturnsInHanded {} Try.checked os 6 .any (Rows.fnExactPeekSpec.pre6 enc Try.prog Try.f6 Rows.fnExactPeekRow.domain false) (Rows.fnExactPeekSpec.post enc Try.prog Try.f6 false true false false) := by
  refine returnsInHanded_of_change (C := Try.checked) own started (by kernel_rfl) Try.func6
    (ChangeSpec.witness6 (enc := enc) (C := Try.checked) false ⟨#[], #[.agg #[.slice none 0 0], .agg #[.slice none 0 0, .int .i64 0], .int .i64 0], []⟩ 8 (by kernel_rfl) (by kernel_rfl) (by kernel_rfl) (by kernel_rfl)) ?_
  intro W base args ds gs before hval0 hW hcnd _
  have hval : ∀ (j : Nat) t v, Try.f6.params[j]? = some t → args[j]? = some v → Value.okWide Try.prog W .any base t v := hval0
  have hW' := hW
  obtain ⟨p, q, hA0, hV, rfl, hfz, hnd⟩ := hW
  have hA : DataW.TrodAll enc Try.prog W 0 (fun _ => true) true Try.f6.params.toList args.toList ds p := hA0
  rw [Try.params6] at hA hval
  obtain ⟨v0, vs0, d0, ds0, p0, q0, hargs, rfl, rfl, h0, r0⟩ := trodAll_cons hA
  obtain ⟨v1, vs1, d1, ds1, p1, q1, rfl, rfl, rfl, h1, r1⟩ := trodAll_cons r0
  obtain ⟨v2, vs2, d2, ds2, p2, q2, rfl, rfl, rfl, h2, r2⟩ := trodAll_cons r1
  obtain ⟨rfl, rfl, rfl⟩ := trodAll_nil r2
  obtain rfl : args = #[v0, v1, v2] := by cases args; simp_all
  obtain ⟨rfl, rfl⟩ := trodVars_none hV
  have k0 := h0
  have lt0 : ∀ x ∈ p0, x.block < W.heap.size := by obtain ⟨m, hm⟩ := k0; exact DataW.trod_lt m _ _ _ hm
  have k1 := h1
  have lt1 : ∀ x ∈ p1, x.block < W.heap.size := by obtain ⟨m, hm⟩ := k1; exact DataW.trod_lt m _ _ _ hm
  have k2 := h2
  have lt2 : ∀ x ∈ p2, x.block < W.heap.size := by obtain ⟨m, hm⟩ := k2; exact DataW.trod_lt m _ _ _ hm
  obtain ⟨u0, m0, ra0, ln0, rc0, f0, rfl, w0⟩ := openImage (hval 0 24 v0 rfl rfl) h0
  obtain ⟨s1Ram, n1Ram, c1Ram, f1Ram, a1Bank, rfl, w1Ram, w1Bank⟩ := open_Mem (hval 1 27 v1 rfl rfl) h1
  obtain ⟨a2, rfl, rfl, rfl, w2⟩ := open_int Try.underlying3 (hval 2 3 v2 rfl rfl) h2
  clear hA0 hval0
  refine (walk u0 m0 ra0 ln0 rc0 f0 s1Ram n1Ram c1Ram f1Ram a1Bank a2 W w0 w1Ram w1Bank w2).mono fun e W' ⟨he, bel⟩ => ?_
  subst he
  exact ⟨_, rfl, _, _, _, [], _, [], hW', trodAll_mk1 (shut_bool Try.underlying4 _), (trodAll_cons_mk (Below.trod laidOut (by kernel_rfl) (of_decide_eq_true (by kernel_rfl)) k0 bel lt0) (trodAll_cons_mk (Below.trod laidOut (by kernel_rfl) (of_decide_eq_true (by kernel_rfl)) k1 bel lt1) (trodAll_cons_mk (Below.trod laidOut (by kernel_rfl) (of_decide_eq_true (by kernel_rfl)) k2 bel lt2) trodAll_mk0))), rfl, bel.frame _, fun h => by cases h⟩
theorem over : Rows.fnExactPeekRow.holds Try.pinned (OpenSpec.ofChange Rows.fnExactPeekSpec) :=
  OpenClaim.holds_of_wide 6 Try.f6 rfl rfl rfl rfl rfl rfl rfl ⟨rfl, rfl, rfl, rfl, rfl⟩ rfl rfl rfl rfl rfl (by kernel_rfl) Try.func6 (by kernel_rfl)
    (of_decide_eq_true (by kernel_rfl)) (by unfold Func.isWrapper; first | (rw [if_pos (by decide +kernel)]; kernel_rfl) | (rw [if_neg (by decide +kernel)]; exact ⟨rfl, rfl⟩))
    (fun os started H enc _ => lifted os started H enc)
end Go.Proofs.Ytpaedkefmebjjam.fnExactPeek
namespace Go.Proofs.Ytpaedkefmebjjam
theorem fnExactPeek_holds : Rows.FnExactPeekSaid := fnExactPeek.over
end Go.Proofs.Ytpaedkefmebjjam
