/- At every row of bytes: the flags of the processor that is drawn from them are as they were put, and registers stay. -/
import Derived.Test.YtpaedkefmebjjaeRows
import Derived.Test.YtpaedkefmebjjaeO
import Derived.Test.YtpaedkefmebjjaeD5
import Derived.Test.YtpaedkefmebjjaeI5
import Derived.Test.YtpaedkefmebjjaeZ5
import Derived.Test.YtpaedkefmebjjaeV0
import Derived.Test.YtpaedkefmebjjaeR8
import Derived.WalkKit
import Derived.ProofKit
import Derived.OpenShut
import Derived.ShutString
import Derived.ChangeOld
import Derived.Below
import Derived.Deep.RegionWith
namespace Go.Proofs.Ytpaedkefmebjjae.fnFlags
open Go.ChangeShapes Go.WideShapes Go.ChangeAt Go.RowKit
open Go.ChangeMaps (open_string shut_string)
set_option linter.unusedVariables false
theorem own : ownKnob Try.prog.godebug = none := by kernel_rfl
theorem laidOut : laidOutB Try.prog = true := by kernel_rfl
set_option maxRecDepth 40000
set_option maxHeartbeats 8000000 in
theorem walk (s0 : Option Addr) (n0 c0 : Nat) (f0 : Nat → Int) (w : World) (w0 : n0 ≤ 9223372036854775807 ∧ RowOf .u8 w s0 n0 f0 ∧ ∀ i, i < n0 → (Lit.int .u8 (f0 i)).wf = true) :
    Calls Try.prog 3 #[.slice s0 n0 c0] w fun e w' => e = .returned (.bool true) ∧ Below w.heap.size w w' := by
  obtain ⟨hn63, hrow, hwf⟩ := w0
  by_cases hbig : (1048576 : Int) < (n0 : Int)
  · have hb' : decide ((1048576 : Int) < (n0 : Int)) = true := decide_eq_true hbig
    go_enter Try.func3, Try.ntmps3
    go_wp2_with fail
    refine (lawsBig _ s0 n0 c0).mono ?_
    rintro e w' ⟨rfl, rfl⟩
    rw [hb']
    go_wp2
    go_ret
    exact ⟨rfl, Below.refl _ _⟩
  · have hb' : decide ((1048576 : Int) < (n0 : Int)) = false := decide_eq_false hbig
    have hn : n0 ≤ 1048576 := by omega
    have hby : ∀ i, i < n0 → 0 ≤ f0 i ∧ f0 i ≤ 255 := fun i hi => by
      have h : IntKind.u8.min ≤ f0 i ∧ f0 i ≤ IntKind.u8.max := by simpa [Lit.wf] using hwf i hi
      exact ⟨h.1, h.2⟩
    have hcode : Code w w.heap.size s0 n0 := ⟨hn, fun i hi => by
      obtain ⟨b, off, e, hc⟩ := hrow i hi
      exact ⟨b, off, e, block_lt_of_cell hc, f0 i, hc, (hby i hi).1, by have := (hby i hi).2; omega⟩⟩
    clear hbig hwf hn63 hrow hby
    go_enter Try.func3, Try.ntmps3
    go_wp2_with fail
    refine (lawsBig _ s0 n0 c0).mono ?_
    rintro e w' ⟨rfl, rfl⟩
    rw [hb']
    clear hb'
    go_wp2_with fail
    refine (drawWithFlags _ w'.heap.size s0 n0 c0 (Nat.le_refl _) hcode).mono ?_
    rintro e w1 ⟨⟨A, X, S, Pc, Z, N, C, I, v, rfl⟩, L1⟩
    have k1 := box_new w1 #[.int .i64 A, .int .i64 X, .int .i64 S, .int .i64 Pc, .bool Z, .bool N, .bool C, .bool I] 25
    go_wp2_with fail
    refine (implWithFlags _ A X S Pc Z N C I v).mono ?_
    rintro e w2 ⟨rfl, L2⟩
    have k2 := box_keep k1 L2 (by simp)
    have C2 := below_snoc (L1.alloc L1.size (.cells #[.int .i64 A, .int .i64 X, .int .i64 S, .int .i64 Pc, .bool Z, .bool N, .bool C, .bool I] 25)) L2
    have d3 := box_new w2 #[.int .i64 A, .int .i64 X, .int .i64 S, .int .i64 Pc, .bool (hasB v 2), .bool (hasB v 128), .bool (hasB v 1), .bool (hasB v 4)] 25
    have k3 := box_alloc k2 (.cells #[.int .i64 A, .int .i64 X, .int .i64 S, .int .i64 Pc, .bool (hasB v 2), .bool (hasB v 128), .bool (hasB v 1), .bool (hasB v 4)] 25)
    have C3 := C2.alloc C2.size (.cells #[.int .i64 A, .int .i64 X, .int .i64 S, .int .i64 Pc, .bool (hasB v 2), .bool (hasB v 128), .bool (hasB v 1), .bool (hasB v 4)] 25)
    go_upto_region 5 with (fail)
    generalize (w2.alloc (.cells #[.int .i64 A, .int .i64 X, .int .i64 S, .int .i64 Pc, .bool (hasB v 2), .bool (hasB v 128), .bool (hasB v 1), .bool (hasB v 4)] 25)) = w3 at *
    clear k1 k2 L1 L2 C2
    have hb := flags_135 v
    obtain ⟨g0, g1, g2, g3⟩ := flags_put (hasB v 2) (hasB v 128) (hasB v 1) (hasB v 4)
    obtain ⟨p0, p1, p2, p3, p4, p5, p6, p7⟩ := cells8R k3
    obtain ⟨q0, q1, q2, q3, q4, q5, q6, q7⟩ := cells8R d3
    have hne := fun W => cpu_neq_same W A X S Pc (hasB v 2) (hasB v 128) (hasB v 1) (hasB v 4)
    have heg : Try.prog.eqGuardType Try.prog.depth 25 = false := by kernel_rfl
    generalize hz : hasB v 2 = z at *
    generalize hn' : hasB v 128 = n at *
    generalize hc' : hasB v 1 = c at *
    generalize hi' : hasB v 4 = i at *
    generalize hfl : flagsOf z n c i = fl at *
    go_cut [46] (fun s WX => s = .bool false ∧ Below w3.heap.size w3 WX)
    case first =>
      refine wp_region_quiet_below (by kernel_rfl) (by kernel_rfl) ?_
      repeat (quiet_step (first
        | (go_at_call 9; exact Calls.regrown_of (specWithFlags _ _ _ _ _ _ _ _ _ _))
        | (go_at_call 8; exact Calls.regrown_of (implWithFlags _ _ _ _ _ _ _ _ _ _))
        | (go_at_call 10; exact Calls.regrown_of (implFlags _ _ _ _ _ _ _ _ _))
        | (go_at_call 11; exact Calls.regrown_of (implCpuOk _ _ _ _ _ _ _ _ _))
        | (go_at_call 12; exact Calls.regrown_of (specCpuOk _ _ _ _ _ _ _ _ _))))
      refine wpQuiet_nil ?_
      intro _ hw'
      obtain ⟨⟨dq, osq⟩, hw''⟩ := hw'
      subst hw''
      have LQ := below_regrown w3 dq osq
      generalize Go.Sort.grow (redrawn w3 dq) osq = w4 at *
      go_wp2_with fail
      go_meet
      exact ⟨rfl, LQ⟩
    case rest =>
    obtain ⟨rfl, LQ⟩ := hcut
    obtain ⟨w4, hw4⟩ : ∃ x, x = wc := ⟨_, rfl⟩
    subst hw4
    have k4 := box_keep k3 LQ (box_lt k3)
    have d4 := box_keep d3 LQ (box_lt d3)
    have C4 := below_snoc C3 LQ
    clear LQ k3 d3 C3 hb g0 g1 g2 g3 p0 p1 p2 p3 p4 p5 p6 p7 q0 q1 q2 q3 q4 q5 q6 q7 hne heg
    have hcode4 := hcode.keep C4
    go_upto_region 7 with (fail)
    go_cut [6, 7] (fun s6 s7 WX => ∃ (p : Nat) (A' X' S' Pc' : Int) (Z' N' C' I' : Bool) (v' : Int), s6 = .pointer (some ⟨p, 0, none⟩) ∧ s7 = .int .i64 v' ∧ WX.heap[p]? = some (.cells #[.int .i64 A', .int .i64 X', .int .i64 S', .int .i64 Pc', .bool Z', .bool N', .bool C', .bool I'] 25 (0, 0)) ∧ Below w4.heap.size w4 WX)
    case first =>
      go_wp2_with fail
      refine (drawSetA _ w'.heap.size s0 n0 c0 C4.size hcode4).mono ?_
      rintro e w5 ⟨⟨A', X', S', Pc', Z', N', C', I', v', rfl⟩, L5⟩
      have e6 := box_new w5 #[.int .i64 A', .int .i64 X', .int .i64 S', .int .i64 Pc', .bool Z', .bool N', .bool C', .bool I'] 25
      have C6 := L5.alloc L5.size (.cells #[.int .i64 A', .int .i64 X', .int .i64 S', .int .i64 Pc', .bool Z', .bool N', .bool C', .bool I'] 25)
      go_wp2_with fail
      go_meet
      exact ⟨_, _, _, _, _, _, _, _, _, _, rfl, rfl, e6, C6⟩
    case rest =>
    obtain ⟨pe, A', X', S', Pc', Z', N', C', I', v', rfl, rfl, e6, L5⟩ := hcut
    obtain ⟨w6, hw6⟩ : ∃ x, x = wc := ⟨_, rfl⟩
    subst hw6
    have k6 := box_keep k4 L5 (box_lt k4)
    have d6 := box_keep d4 L5 (box_lt d4)
    have C6 := below_snoc C4 L5
    clear k4 d4 C4 L5 hcode4
    go_upto_region 8 with (fail)
    obtain ⟨q0, q1, q2, q3, q4, q5, q6, q7⟩ := cells8 e6
    go_cut [8, 9] (fun s8 s9 WX => ∃ p q, s8 = .pointer (some ⟨p, 0, none⟩) ∧ s9 = .pointer (some ⟨q, 0, none⟩) ∧ WX.heap[p]? = some (.cells #[.int .i64 (v' % 256), .int .i64 X', .int .i64 S', .int .i64 Pc', .bool (v' % 256 == 0), .bool (decide (127 < v' % 256)), .bool C', .bool I'] 25 (0, 0)) ∧ WX.heap[q]? = some (.cells #[.int .i64 A', .int .i64 (v' % 256), .int .i64 S', .int .i64 Pc', .bool (v' % 256 == 0), .bool (decide (127 < v' % 256)), .bool C', .bool I'] 25 (0, 0)) ∧ Below w6.heap.size w6 WX)
    case first =>
      rename_i J K' hJ hK'
      clear k6 d6
      refine reg8 w6 A' X' S' Pc' Z' N' C' I' v' _ pe (by simp) rfl rfl e6 ?_
      intro a W p q F x1 y1 x3 y3 L
      rw [F.same]
      simp only [Sl8, List.foldl_cons, List.foldl_nil]
      rw [x1, y1]
      generalize a.tmps[52]?.getD undef = s52
      generalize a.tmps[53]?.getD undef = s53
      generalize a.tmps[54]?.getD undef = s54
      generalize a.tmps[55]?.getD undef = s55
      generalize a.tmps[56]?.getD undef = s56
      generalize a.tmps[57]?.getD undef = s57
      go_simp
      refine hK' _ _ (Met.intro (hJ _ _ ?_))
      (repeat apply Exists.intro)
      refine ⟨?rel, rfl⟩
      exact ⟨_, _, rfl, rfl, x3, y3, L⟩
    case rest =>
      obtain ⟨p, q, rfl, rfl, ap, xq, LX⟩ := hcut
      have k7 := boxC (box_keep k6 LX (boxLt k6))
      have d7 := boxC (box_keep d6 LX (boxLt d6))
      have e7 := boxC (box_keep e6 LX (boxLt e6))
      have a7 := boxC ap
      have x7 := boxC xq
      have C7 := below_snoc C6 LX
      clear k6 d6 e6 q0 q1 q2 q3 q4 q5 q6 q7 ap xq LX C6
      go_upto_region 9 with (fail)
      go_quiet ((go_at_call 16; exact Calls.quiet_of_same (implByte _ _)))
      go_wp2
      go_ret
      exact ⟨rfl, C7.trans ⟨rfl, rfl, rfl, Nat.le_refl _, fun _ _ => rfl⟩⟩
set_option maxRecDepth 100000 in
theorem lifted (os : Os) (started : os.Started) (H : Type) (enc : TypeId × Value → H) :
    ReturnsInHanded {} Try.checked os 3 .any (Rows.fnFlagsSpec.pre6 enc Try.prog Try.f3 Rows.fnFlagsRow.domain false) (Rows.fnFlagsSpec.post enc Try.prog Try.f3 false true false false) := by
  refine returnsInHanded_of_change (C := Try.checked) own started (by kernel_rfl) Try.func3
    (ChangeSpec.witness6 (enc := enc) (C := Try.checked) false ⟨#[], #[.slice none 0 0], []⟩ 8 (by kernel_rfl) (by kernel_rfl) (by kernel_rfl) (by kernel_rfl)) ?_
  intro W base args ds gs before hval0 hW hcnd _
  have hval : ∀ (j : Nat) t v, Try.f3.params[j]? = some t → args[j]? = some v → Value.okWide Try.prog W .any base t v := hval0
  have hW' := hW
  obtain ⟨p, q, hA0, hV, rfl, hfz, hnd⟩ := hW
  have hA : DataW.TrodAll enc Try.prog W 0 (fun _ => true) true Try.f3.params.toList args.toList ds p := hA0
  rw [Try.params3] at hA hval
  obtain ⟨v0, vs0, d0, ds0, p0, q0, hargs, rfl, rfl, h0, r0⟩ := trodAll_cons hA
  obtain ⟨rfl, rfl, rfl⟩ := trodAll_nil r0
  obtain rfl : args = #[v0] := by cases args; simp_all
  obtain ⟨rfl, rfl⟩ := trodVars_none hV
  have k0 := h0
  have lt0 : ∀ x ∈ p0, x.block < W.heap.size := by obtain ⟨m, hm⟩ := k0; exact DataW.trod_lt m _ _ _ hm
  obtain ⟨s0, n0, c0, rfl⟩ := okWide_slice Try.underlying22 (hval 0 22 v0 rfl rfl)
  obtain ⟨f0, w0⟩ := openInts (k := .u8) Try.underlying22 Try.underlying5 (by kernel_rfl) h0
  clear hA0 hval0
  refine (walk s0 n0 c0 f0 W w0).mono fun e W' ⟨he, bel⟩ => ?_
  subst he
  exact ⟨_, rfl, _, _, _, [], _, [], hW', trodAll_mk1 (shut_bool Try.underlying4 _), (trodAll_cons_mk (Below.trod laidOut (by kernel_rfl) (of_decide_eq_true (by kernel_rfl)) k0 bel lt0) trodAll_mk0), rfl, bel.frame _, fun h => by cases h⟩
theorem over : Rows.fnFlagsRow.holds Try.pinned (OpenSpec.ofChange Rows.fnFlagsSpec) :=
  OpenClaim.holds_of_wide 3 Try.f3 rfl rfl rfl rfl rfl rfl rfl ⟨rfl, rfl, rfl, rfl, rfl⟩ rfl rfl rfl rfl rfl (by kernel_rfl) Try.func3 (by kernel_rfl)
    (of_decide_eq_true (by kernel_rfl)) (by unfold Func.isWrapper; first | (rw [if_pos (by decide +kernel)]; kernel_rfl) | (rw [if_neg (by decide +kernel)]; exact ⟨rfl, rfl⟩))
    (fun os started H enc _ => lifted os started H enc)
end Go.Proofs.Ytpaedkefmebjjae.fnFlags
namespace Go.Proofs.Ytpaedkefmebjjae
theorem fnFlags_holds : Rows.FnFlagsSaid := fnFlags.over
end Go.Proofs.Ytpaedkefmebjjae
