/- At every picture unit of the mirror's type that is not too great and every integer of 64 bits Dot of the program answers as Dot of the specification, and turns nothing of its argument. -/
import Derived.Test.YtpaedkefmebjjaoRows
import Derived.Test.YtpaedkefmebjjaoO
import Derived.Test.YtpaedkefmebjjaoI8
import Derived.WalkKit
import Derived.ProofKit
import Derived.OpenShut
import Derived.ShutString
import Derived.ChangeOld
import Derived.Below
import Derived.Deep.RegionWith
namespace Go.Proofs.Ytpaedkefmebjjao.fnExactDot
open Go.ChangeShapes Go.WideShapes Go.ChangeAt Go.RowKit
open Go.ChangeMaps (open_string shut_string)
set_option linter.unusedVariables false
theorem own : ownKnob Try.prog.godebug = none := by kernel_rfl
theorem laidOut : laidOutB Try.prog = true := by kernel_rfl
set_option maxRecDepth 40000
set_option maxHeartbeats 8000000 in
theorem walk (a0T : Int) (a0Ctrl : Int) (a0Scroll : Int) (a0Addr : Int) (a0Pal : Int) (a0Blank : Bool) (s0Table : Option Addr) (n0Table c0Table : Nat) (f0Table : Nat → Int) (s0Dots : Option Addr) (n0Dots c0Dots : Nat) (f0Dots : Nat → Int) (a1 : Int) (w : World) (w0T : (Lit.int .i64 a0T).wf = true) (w0Ctrl : (Lit.int .i64 a0Ctrl).wf = true) (w0Scroll : (Lit.int .i64 a0Scroll).wf = true) (w0Addr : (Lit.int .i64 a0Addr).wf = true) (w0Pal : (Lit.int .i64 a0Pal).wf = true) (w0Table : n0Table ≤ 9223372036854775807 ∧ RowOf .i64 w s0Table n0Table f0Table ∧ ∀ i, i < n0Table → (Lit.int .i64 (f0Table i)).wf = true) (w0Dots : n0Dots ≤ 9223372036854775807 ∧ RowOf .i64 w s0Dots n0Dots f0Dots ∧ ∀ i, i < n0Dots → (Lit.int .i64 (f0Dots i)).wf = true) (w1 : (Lit.int .i64 a1).wf = true) :
    Calls Try.prog 5 #[.agg #[.int .i64 a0T, .int .i64 a0Ctrl, .int .i64 a0Scroll, .int .i64 a0Addr, .int .i64 a0Pal, .bool a0Blank, .slice s0Table n0Table c0Table, .slice s0Dots n0Dots c0Dots], .int .i64 a1] w fun e w' => e = .returned (.bool true) ∧ Below w.heap.size w w' := by
  obtain ⟨hTablen, hTabler, hTablef⟩ := w0Table
  obtain ⟨hDotsn, hDotsr, hDotsf⟩ := w0Dots
  by_cases hbig : (1048576 : Int) < ((n0Table + n0Dots : Nat) : Int)
  · have HZ := hide (szOut_no hbig)
    clear hbig
    have C0 : Below w.heap.size w (w.alloc (.cells #[.int .i64 a0T, .int .i64 a0Ctrl, .int .i64 a0Scroll, .int .i64 a0Addr, .int .i64 a0Pal, .bool a0Blank, .slice s0Table n0Table c0Table, .slice s0Dots n0Dots c0Dots] 24)) := (Below.refl _ _).alloc (Nat.le_refl _) _
    have k0 := box_new w #[.int .i64 a0T, .int .i64 a0Ctrl, .int .i64 a0Scroll, .int .i64 a0Addr, .int .i64 a0Pal, .bool a0Blank, .slice s0Table n0Table c0Table, .slice s0Dots n0Dots c0Dots] 24
    go_enter Try.func5, Try.ntmps5
    go_wp2_with fail
    generalize (w.alloc (.cells #[.int .i64 a0T, .int .i64 a0Ctrl, .int .i64 a0Scroll, .int .i64 a0Addr, .int .i64 a0Pal, .bool a0Blank, .slice s0Table n0Table c0Table, .slice s0Dots n0Dots c0Dots] 24)) = W0 at *
    refine (szPpu _ a0T a0Ctrl a0Scroll a0Addr a0Pal a0Blank s0Table n0Table c0Table s0Dots n0Dots c0Dots 1048576 (by omega) (by omega) (by omega) (by omega)).mono ?_
    rintro e W1 ⟨rfl, L⟩
    rw [HZ.out]
    have C1 := below_snoc C0 L
    replace k0 := box_keep k0 L (boxLt k0)
    have sz1 := L.size
    clear L C0
    go_wp2
    go_ret
    exact ⟨rfl, C1⟩
  · have HZ := hide (szOut_ok (show ((n0Table + n0Dots : Nat) : Int) ≤ 1048576 by omega))
    have hnn : ¬ (1048576 - ((n0Table + n0Dots : Nat) : Int) < 0) := by omega
    have hnTable : n0Table ≤ 1048576 := by omega
    have hnDots : n0Dots ≤ 1048576 := by omega
    clear hbig
    have C0 : Below w.heap.size w (w.alloc (.cells #[.int .i64 a0T, .int .i64 a0Ctrl, .int .i64 a0Scroll, .int .i64 a0Addr, .int .i64 a0Pal, .bool a0Blank, .slice s0Table n0Table c0Table, .slice s0Dots n0Dots c0Dots] 24)) := (Below.refl _ _).alloc (Nat.le_refl _) _
    have k0 := box_new w #[.int .i64 a0T, .int .i64 a0Ctrl, .int .i64 a0Scroll, .int .i64 a0Addr, .int .i64 a0Pal, .bool a0Blank, .slice s0Table n0Table c0Table, .slice s0Dots n0Dots c0Dots] 24
    go_enter Try.func5, Try.ntmps5
    go_wp2_with fail
    generalize (w.alloc (.cells #[.int .i64 a0T, .int .i64 a0Ctrl, .int .i64 a0Scroll, .int .i64 a0Addr, .int .i64 a0Pal, .bool a0Blank, .slice s0Table n0Table c0Table, .slice s0Dots n0Dots c0Dots] 24)) = W0 at *
    refine (szPpu _ a0T a0Ctrl a0Scroll a0Addr a0Pal a0Blank s0Table n0Table c0Table s0Dots n0Dots c0Dots 1048576 (by omega) (by omega) (by omega) (by omega)).mono ?_
    rintro e W1 ⟨rfl, L⟩
    rw [HZ.out]
    have C1 := below_snoc C0 L
    replace k0 := box_keep k0 L (boxLt k0)
    have sz1 := L.size
    clear L C0
    have b0 := boxLt k0
    have c_k0 := boxC k0
    go_wp2_with fail
    clear c_k0
    refine (toPpu _ (fun _ _ => True) (fun _ _ => True) a0T a0Ctrl a0Scroll a0Addr a0Pal a0Blank _ _ n0Table f0Table n0Dots f0Dots (Ints.keep (F := fun _ _ => True) ⟨_, _, rfl, hnTable, hTabler, fun _ _ _ => trivial⟩ (wrote_below C1 Nowhere) (fun _ _ _ x => x)) (Ints.keep (F := fun _ _ => True) ⟨_, _, rfl, hnDots, hDotsr, fun _ _ _ => trivial⟩ (wrote_below C1 Nowhere) (fun _ _ _ x => x))).mono ?_
    rintro e XS ⟨vS, rfl, oS, L⟩
    have C2 := below_snoc C1 L
    replace k0 := box_keep k0 L (boxLt k0)
    have sz2 := L.size
    clear L C1
    have c_k0 := boxC k0
    go_wp2_with fail
    clear c_k0
    refine (onSpecDot _ _ _ a0T a0Ctrl a0Scroll a0Addr a0Pal a0Blank n0Table f0Table n0Dots f0Dots oS a1).mono ?_
    rintro e SS ⟨rfl, L⟩
    have C3 := below_snoc C2 L
    replace k0 := box_keep k0 L (boxLt k0)
    replace oS := oS.below L
    have sz3 := L.size
    clear L C2
    clear oS
    have c_k0 := boxC k0
    go_wp2_with fail
    clear c_k0
    refine (toPpu _ (fun _ _ => True) (fun _ _ => True) a0T a0Ctrl a0Scroll a0Addr a0Pal a0Blank _ _ n0Table f0Table n0Dots f0Dots (Ints.keep (F := fun _ _ => True) ⟨_, _, rfl, hnTable, hTabler, fun _ _ _ => trivial⟩ (wrote_below C3 Nowhere) (fun _ _ _ x => x)) (Ints.keep (F := fun _ _ => True) ⟨_, _, rfl, hnDots, hDotsr, fun _ _ _ => trivial⟩ (wrote_below C3 Nowhere) (fun _ _ _ x => x))).mono ?_
    rintro e X0 ⟨v0, rfl, o0, L⟩
    have C4 := below_snoc C3 L
    replace k0 := box_keep k0 L (boxLt k0)
    have sz4 := L.size
    clear L C3
    obtain ⟨a00, c00, a01, c01, hy0⟩ := o0.two
    subst hy0
    obtain ⟨uz0, huz0⟩ : ∃ t, Hid (t = X0.heap.size) := ⟨_, rfl⟩
    replace o0 := o0.mono (E := fun b => w.heap.size + 1 ≤ b ∧ b < uz0) (fun b hb h => ⟨by omega, by rw [huz0.out]; exact hb⟩)
    have luz0 : w.heap.size + 1 ≤ uz0 := by rw [huz0.out]; omega
    replace C4 := C4.alloc C4.size (.cells #[.int .i64 a0T, .int .i64 a0Ctrl, .int .i64 a0Scroll, .int .i64 a0Addr, .int .i64 a0Pal, .bool a0Blank, .slice a00 n0Table c00, .slice a01 n0Dots c01] 27)
    have LA : Below X0.heap.size X0 (X0.alloc (.cells #[.int .i64 a0T, .int .i64 a0Ctrl, .int .i64 a0Scroll, .int .i64 a0Addr, .int .i64 a0Pal, .bool a0Blank, .slice a00 n0Table c00, .slice a01 n0Dots c01] 27)) := (Below.refl _ _).alloc (Nat.le_refl _) _
    replace k0 := boxA k0 (.cells #[.int .i64 a0T, .int .i64 a0Ctrl, .int .i64 a0Scroll, .int .i64 a0Addr, .int .i64 a0Pal, .bool a0Blank, .slice a00 n0Table c00, .slice a01 n0Dots c01] 27)
    replace o0 := o0.below LA
    have x0 := box_new X0 #[.int .i64 a0T, .int .i64 a0Ctrl, .int .i64 a0Scroll, .int .i64 a0Addr, .int .i64 a0Pal, .bool a0Blank, .slice a00 n0Table c00, .slice a01 n0Dots c01] 27
    have sA0 : uz0 + 1 ≤ (X0.alloc (.cells #[.int .i64 a0T, .int .i64 a0Ctrl, .int .i64 a0Scroll, .int .i64 a0Addr, .int .i64 a0Pal, .bool a0Blank, .slice a00 n0Table c00, .slice a01 n0Dots c01] 27)).heap.size := by rw [huz0.out]; simp
    clear LA
    have c_k0 := boxC k0
    have c_x0 := boxC x0
    go_wp2_with fail
    clear c_k0 c_x0
    generalize X0.alloc (.cells #[.int .i64 a0T, .int .i64 a0Ctrl, .int .i64 a0Scroll, .int .i64 a0Addr, .int .i64 a0Pal, .bool a0Blank, .slice a00 n0Table c00, .slice a01 n0Dots c01] 27) = V0 at *
    rw [← huz0.out] at x0 ⊢
    clear huz0
    refine (onImplDot _ _ _ a0T a0Ctrl a0Scroll a0Addr a0Pal a0Blank n0Table f0Table n0Dots f0Dots o0 a1).mono ?_
    rintro e GG ⟨rfl, L⟩
    have C5 := below_snoc C4 L
    replace k0 := box_keep k0 L (boxLt k0)
    replace x0 := box_keep x0 L (boxLt x0)
    replace o0 := o0.below L
    have sz5 := L.size
    clear L C4
    have c_k0 := boxC k0
    have c_x0 := boxC x0
    go_upto_region 10 with (fail)
    go_cut [30] (fun s WX => s = .bool false ∧ Below GG.heap.size GG WX)
    case first =>
      go_region_with (first
        | (go_at_call 11; refine (toPpu _ (fun _ _ => True) (fun _ _ => True) a0T a0Ctrl a0Scroll a0Addr a0Pal a0Blank _ _ n0Table f0Table n0Dots f0Dots (Ints.keep (F := fun _ _ => True) ⟨_, _, rfl, hnTable, hTabler, fun _ _ _ => trivial⟩ (wrote_below (below_snoc C5 (Below.refl _ GG).drew) Nowhere) (fun _ _ _ x => x)) (Ints.keep (F := fun _ _ => True) ⟨_, _, rfl, hnDots, hDotsr, fun _ _ _ => trivial⟩ (wrote_below (below_snoc C5 (Below.refl _ GG).drew) Nowhere) (fun _ _ _ x => x))).mono ?_; rintro e YY ⟨vv, rfl, RR, MM⟩; have DD : Below GG.heap.size GG YY := (Below.refl _ _).drew.trans MM; have d_x0 := boxC (box_keep x0 DD (boxLt x0)); have QQ := o0.below DD; skip)
        | (go_at_call 13; refine (onEqPpu _ _ _ _ _ a0T a0Ctrl a0Scroll a0Addr a0Pal a0Blank n0Table f0Table n0Dots f0Dots QQ RR).mono ?_; rintro e ZZ ⟨rfl, NN⟩; have EE := below_snoc DD NN))
      all_goals
        go_wp2_with fail
        go_meet
        exact ⟨rfl, EE⟩
    case rest =>
      obtain ⟨rfl, LX⟩ := hcut
      clear c_k0 c_x0
      obtain ⟨E0, hE0⟩ : ∃ x, x = wc := ⟨_, rfl⟩
      subst hE0
      have C6 := below_snoc C5 LX
      replace k0 := box_keep k0 LX (boxLt k0)
      replace x0 := box_keep x0 LX (boxLt x0)
      replace o0 := o0.below LX
      have sz6 := LX.size
      clear LX C5
      go_wp2
      go_ret
      exact ⟨rfl, C6⟩
set_option maxRecDepth 100000 in
theorem lifted (os : Os) (started : os.Started) (H : Type) (enc : TypeId × Value → H) :
    ReturnsInHanded {} Try.checked os 5 .any (Rows.fnExactDotSpec.pre6 enc Try.prog Try.f5 Rows.fnExactDotRow.domain false) (Rows.fnExactDotSpec.post enc Try.prog Try.f5 false true false false) := by
  refine returnsInHanded_of_change (C := Try.checked) own started (by kernel_rfl) Try.func5
    (ChangeSpec.witness6 (enc := enc) (C := Try.checked) false ⟨#[], #[.agg #[.int .i64 0, .int .i64 0, .int .i64 0, .int .i64 0, .int .i64 0, .bool false, .slice none 0 0, .slice none 0 0], .int .i64 0], []⟩ 8 (by kernel_rfl) (by kernel_rfl) (by kernel_rfl) (by kernel_rfl)) ?_
  intro W base args ds gs before hval0 hW hcnd _
  have hval : ∀ (j : Nat) t v, Try.f5.params[j]? = some t → args[j]? = some v → Value.okWide Try.prog W .any base t v := hval0
  have hW' := hW
  obtain ⟨p, q, hA0, hV, rfl, hfz, hnd⟩ := hW
  have hA : DataW.TrodAll enc Try.prog W 0 (fun _ => true) true Try.f5.params.toList args.toList ds p := hA0
  rw [Try.params5] at hA hval
  obtain ⟨v0, vs0, d0, ds0, p0, q0, hargs, rfl, rfl, h0, r0⟩ := trodAll_cons hA
  obtain ⟨v1, vs1, d1, ds1, p1, q1, rfl, rfl, rfl, h1, r1⟩ := trodAll_cons r0
  obtain ⟨rfl, rfl, rfl⟩ := trodAll_nil r1
  obtain rfl : args = #[v0, v1] := by cases args; simp_all
  obtain ⟨rfl, rfl⟩ := trodVars_none hV
  have k0 := h0
  have lt0 : ∀ x ∈ p0, x.block < W.heap.size := by obtain ⟨m, hm⟩ := k0; exact DataW.trod_lt m _ _ _ hm
  have k1 := h1
  have lt1 : ∀ x ∈ p1, x.block < W.heap.size := by obtain ⟨m, hm⟩ := k1; exact DataW.trod_lt m _ _ _ hm
  obtain ⟨a0T, a0Ctrl, a0Scroll, a0Addr, a0Pal, a0Blank, s0Table, n0Table, c0Table, f0Table, s0Dots, n0Dots, c0Dots, f0Dots, rfl, w0T, w0Ctrl, w0Scroll, w0Addr, w0Pal, w0Table, w0Dots⟩ := open_Ppu (hval 0 24 v0 rfl rfl) h0
  obtain ⟨a1, rfl, rfl, rfl, w1⟩ := open_int Try.underlying3 (hval 1 3 v1 rfl rfl) h1
  clear hA0 hval0
  refine (walk a0T a0Ctrl a0Scroll a0Addr a0Pal a0Blank s0Table n0Table c0Table f0Table s0Dots n0Dots c0Dots f0Dots a1 W w0T w0Ctrl w0Scroll w0Addr w0Pal w0Table w0Dots w1).mono fun e W' ⟨he, bel⟩ => ?_
  subst he
  exact ⟨_, rfl, _, _, _, [], _, [], hW', trodAll_mk1 (shut_bool Try.underlying4 _), (trodAll_cons_mk (Below.trod laidOut (by kernel_rfl) (of_decide_eq_true (by kernel_rfl)) k0 bel lt0) (trodAll_cons_mk (Below.trod laidOut (by kernel_rfl) (of_decide_eq_true (by kernel_rfl)) k1 bel lt1) trodAll_mk0)), rfl, bel.frame _, fun h => by cases h⟩
theorem over : Rows.fnExactDotRow.holds Try.pinned (OpenSpec.ofChange Rows.fnExactDotSpec) :=
  OpenClaim.holds_of_wide 5 Try.f5 rfl rfl rfl rfl rfl rfl rfl ⟨rfl, rfl, rfl, rfl, rfl⟩ rfl rfl rfl rfl rfl (by kernel_rfl) Try.func5 (by kernel_rfl)
    (of_decide_eq_true (by kernel_rfl)) (by unfold Func.isWrapper; first | (rw [if_pos (by decide +kernel)]; kernel_rfl) | (rw [if_neg (by decide +kernel)]; exact ⟨rfl, rfl⟩))
    (fun os started H enc _ => lifted os started H enc)
end Go.Proofs.Ytpaedkefmebjjao.fnExactDot
namespace Go.Proofs.Ytpaedkefmebjjao
theorem fnExactDot_holds : Rows.FnExactDotSaid := fnExactDot.over
end Go.Proofs.Ytpaedkefmebjjao
