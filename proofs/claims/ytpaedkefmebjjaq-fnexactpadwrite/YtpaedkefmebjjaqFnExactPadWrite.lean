/- At every pad of the mirror's type, every row of integers that is not too long and every two integers of 64 bits PadWrite of the program answers as PadWrite of the specification, and turns nothing of its arguments. -/
import Derived.Test.YtpaedkefmebjjaqRows
import Derived.Test.YtpaedkefmebjjaqO
import Derived.Test.YtpaedkefmebjjaqPI
import Derived.WalkKit
import Derived.ProofKit
import Derived.OpenShut
import Derived.ShutString
import Derived.ChangeOld
import Derived.Below
import Derived.Deep.RegionWith
namespace Go.Proofs.Ytpaedkefmebjjaq.fnExactPadWrite
open Go.ChangeShapes Go.WideShapes Go.ChangeAt Go.RowKit
open Go.ChangeMaps (open_string shut_string)
set_option linter.unusedVariables false
theorem own : ownKnob Try.prog.godebug = none := by kernel_rfl
theorem laidOut : laidOutB Try.prog = true := by kernel_rfl
set_option maxHeartbeats 2000000 in
theorem walk (a0Held : Bool) (a0Shift : Int) (s1 : Option Addr) (n1 c1 : Nat) (f1 : Nat → Int) (a2 : Int) (a3 : Int) (w : World) (w0Shift : (Lit.int .i64 a0Shift).wf = true) (w1 : n1 ≤ 9223372036854775807 ∧ RowOf .i64 w s1 n1 f1 ∧ ∀ i, i < n1 → (Lit.int .i64 (f1 i)).wf = true) (w2 : (Lit.int .i64 a2).wf = true) (w3 : (Lit.int .i64 a3).wf = true) :
    Calls Try.prog 6 #[.agg #[.bool a0Held, .int .i64 a0Shift], .slice s1 n1 c1, .int .i64 a2, .int .i64 a3] w fun e w' => e = .returned (.bool true) ∧ Below w.heap.size w w' := by
  obtain ⟨hn63, hrow, hwf⟩ := w1
  have hb : a2 ≤ 9223372036854775807 := (by simpa [Lit.wf] using w2 : IntKind.i64.min ≤ a2 ∧ a2 ≤ IntKind.i64.max).2
  have C0 : Below w.heap.size w (w.alloc (.cells #[.bool a0Held, .int .i64 a0Shift] 30)) := (Below.refl _ _).alloc (Nat.le_refl _) _
  have k0 := box_new w #[.bool a0Held, .int .i64 a0Shift] 30
  by_cases hbig : (1048576 : Int) < (n1 : Int)
  · go_enter Try.func6, Try.ntmps6
    go_wp2
    go_ret
    exact ⟨rfl, C0⟩
  · have hn : n1 ≤ 1048576 := by omega
    have HI : Ints .i64 w (fun _ _ => True) (.slice s1 n1 c1) n1 f1 := ⟨_, _, rfl, hn, hrow, fun _ _ _ => trivial⟩
    obtain ⟨x, hx⟩ : ∃ x, Hid (x = heldW a3) := ⟨_, rfl⟩
    obtain ⟨y, hy⟩ : ∃ y, Hid (y = shiftW a0Held a0Shift n1 f1 a2 a3) := ⟨_, rfl⟩
    go_enter Try.func6, Try.ntmps6
    go_upto_region 1 with (fail)
    generalize w.alloc (.cells #[.bool a0Held, .int .i64 a0Shift] 30) = W0 at *
    have q_k0 := boxC k0
    go_wp2_with fail
    clear q_k0
    refine (toPad _ a0Held a0Shift).mono ?_
    rintro e W1 ⟨rfl, L1⟩
    have C1 := below_snoc C0 L1
    replace k0 := box_keep k0 L1 (boxLt k0)
    clear L1
    have q_k0 := boxC k0
    go_wp2_with fail
    clear q_k0
    refine (toIntS _ _ _ n1 f1 (HI.keep (wrote_below C1 Nowhere) (fun _ _ _ x => x))).mono ?_
    rintro e W2 ⟨rfl, R2, -, L2⟩
    have C2 := below_snoc C1 L2
    replace k0 := box_keep k0 L2 (boxLt k0)
    clear L2 C1
    have q_k0 := boxC k0
    go_wp2_with fail
    clear q_k0
    refine (specPadWrite _ _ a0Held a0Shift _ n1 f1 a2 a3 hb (ints_of_row R2 hn)).mono ?_
    rintro e W3 ⟨rfl, L3⟩
    rw [← hx.out, ← hy.out]
    have C3 := below_snoc C2 L3
    replace k0 := box_keep k0 L3 (boxLt k0)
    replace R2 := R2.of_block (L3.block _ R2.lt)
    clear L3 C2
    clear R2
    have y0 := box_new W3 #[.bool x, .int .i64 y] 31
    have LA3 : Below W3.heap.size W3 (W3.alloc (.cells #[.bool x, .int .i64 y] 31)) := (Below.refl _ _).alloc (Nat.le_refl _) _
    replace k0 := box_keep k0 LA3 (boxLt k0)
    replace C3 := below_snoc C3 LA3
    clear LA3
    go_upto_region 4 with (fail)
    obtain ⟨z3, hz3⟩ : ∃ z, Hid (z = W3.heap.size) := ⟨_, rfl⟩
    generalize W3.alloc (.cells #[.bool x, .int .i64 y] 31) = V3 at *
    rw [← hz3.out] at y0 ⊢
    clear hz3
    have q_k0 := boxC k0
    have q_y0 := boxC y0
    go_wp2_with fail
    clear q_k0 q_y0
    refine (toIntS _ _ _ n1 f1 (HI.keep (wrote_below C3 Nowhere) (fun _ _ _ x => x))).mono ?_
    rintro e W4 ⟨rfl, R4, -, L4⟩
    have C4 := below_snoc C3 L4
    replace k0 := box_keep k0 L4 (boxLt k0)
    replace y0 := box_keep y0 L4 (boxLt y0)
    clear L4 C3
    have q_k0 := boxC k0
    have q_y0 := boxC y0
    go_wp2_with fail
    clear q_k0 q_y0
    refine (toPad _ a0Held a0Shift).mono ?_
    rintro e W5 ⟨rfl, L5⟩
    have C5 := below_snoc C4 L5
    replace k0 := box_keep k0 L5 (boxLt k0)
    replace y0 := box_keep y0 L5 (boxLt y0)
    replace R4 := R4.of_block (L5.block _ R4.lt)
    clear L5 C4
    have q_k0 := boxC k0
    have q_y0 := boxC y0
    go_wp2_with fail
    clear q_k0 q_y0
    refine (implPadWrite _ _ a0Held a0Shift _ n1 f1 a2 a3 hb (ints_of_row R4 hn)).mono ?_
    rintro e W6 ⟨rfl, L6⟩
    rw [← hx.out, ← hy.out]
    have C6 := below_snoc C5 L6
    replace k0 := box_keep k0 L6 (boxLt k0)
    replace y0 := box_keep y0 L6 (boxLt y0)
    replace R4 := R4.of_block (L6.block _ R4.lt)
    clear L6 C5
    have y1 := box_new W6 #[.bool x, .int .i64 y] 31
    have LA6 : Below W6.heap.size W6 (W6.alloc (.cells #[.bool x, .int .i64 y] 31)) := (Below.refl _ _).alloc (Nat.le_refl _) _
    replace k0 := box_keep k0 LA6 (boxLt k0)
    replace y0 := box_keep y0 LA6 (boxLt y0)
    replace R4 := R4.of_block (LA6.block _ R4.lt)
    replace C6 := below_snoc C6 LA6
    clear LA6
    go_upto_region 6 with (fail)
    obtain ⟨z6, hz6⟩ : ∃ z, Hid (z = W6.heap.size) := ⟨_, rfl⟩
    generalize W6.alloc (.cells #[.bool x, .int .i64 y] 31) = V6 at *
    rw [← hz6.out] at y1 ⊢
    clear hz6
    have q_k0 := boxC k0
    have q_y0 := boxC y0
    have q_y1 := boxC y1
    go_wp2_with fail
    clear q_k0 q_y0 q_y1
    refine (eqPad_same _ x y).mono ?_
    rintro e W7 ⟨rfl, L7⟩
    have C7 := below_snoc C6 L7
    replace k0 := box_keep k0 L7 (boxLt k0)
    replace y0 := box_keep y0 L7 (boxLt y0)
    replace R4 := R4.of_block (L7.block _ R4.lt)
    replace y1 := box_keep y1 L7 (boxLt y1)
    clear L7 C6
    have q_k0 := boxC k0
    have q_y0 := boxC y0
    have q_y1 := boxC y1
    go_wp2_with fail
    clear q_k0 q_y0 q_y1
    refine (toIntS _ _ _ n1 f1 (HI.keep (wrote_below C7 Nowhere) (fun _ _ _ x => x))).mono ?_
    rintro e W8 ⟨rfl, R8, -, L8⟩
    have C8 := below_snoc C7 L8
    replace k0 := box_keep k0 L8 (boxLt k0)
    replace y0 := box_keep y0 L8 (boxLt y0)
    replace R4 := R4.of_block (L8.block _ R4.lt)
    replace y1 := box_keep y1 L8 (boxLt y1)
    clear L8 C7
    have q_k0 := boxC k0
    have q_y0 := boxC y0
    have q_y1 := boxC y1
    go_wp2_with fail
    clear q_k0 q_y0 q_y1
    refine (eqIntS _ _ _ _ _ n1 n1 f1 f1 (ints_of_row R4 hn) (ints_of_row R8 hn)).mono ?_
    rintro e W9 ⟨rfl, d, rfl⟩
    rw [eqInts_refl]
    go_wp2
    go_ret
    exact ⟨rfl, C8.trans ⟨rfl, rfl, rfl, Nat.le_refl _, fun _ _ => rfl⟩⟩
set_option maxRecDepth 100000 in
theorem lifted (os : Os) (started : os.Started) (H : Type) (enc : TypeId × Value → H) :
    ReturnsInHanded {} Try.checked os 6 .any (Rows.fnExactPadWriteSpec.pre6 enc Try.prog Try.f6 Rows.fnExactPadWriteRow.domain false) (Rows.fnExactPadWriteSpec.post enc Try.prog Try.f6 false true false false) := by
  refine returnsInHanded_of_change (C := Try.checked) own started (by kernel_rfl) Try.func6
    (ChangeSpec.witness6 (enc := enc) (C := Try.checked) false ⟨#[], #[.agg #[.bool false, .int .i64 0], .slice none 0 0, .int .i64 0, .int .i64 0], []⟩ 8 (by kernel_rfl) (by kernel_rfl) (by kernel_rfl) (by kernel_rfl)) ?_
  intro W base args ds gs before hval0 hW hcnd _
  have hval : ∀ (j : Nat) t v, Try.f6.params[j]? = some t → args[j]? = some v → Value.okWide Try.prog W .any base t v := hval0
  have hW' := hW
  obtain ⟨p, q, hA0, hV, rfl, hfz, hnd⟩ := hW
  have hA : DataW.TrodAll enc Try.prog W 0 (fun _ => true) true Try.f6.params.toList args.toList ds p := hA0
  rw [Try.params6] at hA hval
  obtain ⟨v0, vs0, d0, ds0, p0, q0, hargs, rfl, rfl, h0, r0⟩ := trodAll_cons hA
  obtain ⟨v1, vs1, d1, ds1, p1, q1, rfl, rfl, rfl, h1, r1⟩ := trodAll_cons r0
  obtain ⟨v2, vs2, d2, ds2, p2, q2, rfl, rfl, rfl, h2, r2⟩ := trodAll_cons r1
  obtain ⟨v3, vs3, d3, ds3, p3, q3, rfl, rfl, rfl, h3, r3⟩ := trodAll_cons r2
  obtain ⟨rfl, rfl, rfl⟩ := trodAll_nil r3
  obtain rfl : args = #[v0, v1, v2, v3] := by cases args; simp_all
  obtain ⟨rfl, rfl⟩ := trodVars_none hV
  have k0 := h0
  have lt0 : ∀ x ∈ p0, x.block < W.heap.size := by obtain ⟨m, hm⟩ := k0; exact DataW.trod_lt m _ _ _ hm
  have k1 := h1
  have lt1 : ∀ x ∈ p1, x.block < W.heap.size := by obtain ⟨m, hm⟩ := k1; exact DataW.trod_lt m _ _ _ hm
  have k2 := h2
  have lt2 : ∀ x ∈ p2, x.block < W.heap.size := by obtain ⟨m, hm⟩ := k2; exact DataW.trod_lt m _ _ _ hm
  have k3 := h3
  have lt3 : ∀ x ∈ p3, x.block < W.heap.size := by obtain ⟨m, hm⟩ := k3; exact DataW.trod_lt m _ _ _ hm
  obtain ⟨a0Held, a0Shift, rfl, w0Shift⟩ := open_Pad (hval 0 30 v0 rfl rfl) h0
  obtain ⟨s1, n1, c1, rfl⟩ := okWide_slice Try.underlying23 (hval 1 23 v1 rfl rfl)
  obtain ⟨f1, w1⟩ := openInts (k := .i64) Try.underlying23 Try.underlying3 (by kernel_rfl) h1
  obtain ⟨a2, rfl, rfl, rfl, w2⟩ := open_int Try.underlying3 (hval 2 3 v2 rfl rfl) h2
  obtain ⟨a3, rfl, rfl, rfl, w3⟩ := open_int Try.underlying3 (hval 3 3 v3 rfl rfl) h3
  clear hA0 hval0
  refine (walk a0Held a0Shift s1 n1 c1 f1 a2 a3 W w0Shift w1 w2 w3).mono fun e W' ⟨he, bel⟩ => ?_
  subst he
  exact ⟨_, rfl, _, _, _, [], _, [], hW', trodAll_mk1 (shut_bool Try.underlying4 _), (trodAll_cons_mk (Below.trod laidOut (by kernel_rfl) (of_decide_eq_true (by kernel_rfl)) k0 bel lt0) (trodAll_cons_mk (Below.trod laidOut (by kernel_rfl) (of_decide_eq_true (by kernel_rfl)) k1 bel lt1) (trodAll_cons_mk (Below.trod laidOut (by kernel_rfl) (of_decide_eq_true (by kernel_rfl)) k2 bel lt2) (trodAll_cons_mk (Below.trod laidOut (by kernel_rfl) (of_decide_eq_true (by kernel_rfl)) k3 bel lt3) trodAll_mk0)))), rfl, bel.frame _, fun h => by cases h⟩
theorem over : Rows.fnExactPadWriteRow.holds Try.pinned (OpenSpec.ofChange Rows.fnExactPadWriteSpec) :=
  OpenClaim.holds_of_wide 6 Try.f6 rfl rfl rfl rfl rfl rfl rfl ⟨rfl, rfl, rfl, rfl, rfl⟩ rfl rfl rfl rfl rfl (by kernel_rfl) Try.func6 (by kernel_rfl)
    (of_decide_eq_true (by kernel_rfl)) (by unfold Func.isWrapper; first | (rw [if_pos (by decide +kernel)]; kernel_rfl) | (rw [if_neg (by decide +kernel)]; exact ⟨rfl, rfl⟩))
    (fun os started H enc _ => lifted os started H enc)
end Go.Proofs.Ytpaedkefmebjjaq.fnExactPadWrite
namespace Go.Proofs.Ytpaedkefmebjjaq
theorem fnExactPadWrite_holds : Rows.FnExactPadWriteSaid := fnExactPadWrite.over
end Go.Proofs.Ytpaedkefmebjjaq
