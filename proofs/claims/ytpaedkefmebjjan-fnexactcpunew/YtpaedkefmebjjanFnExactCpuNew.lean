/- At every image of the mirror's type that is not too great CpuNew of the program answers as CpuNew of the specification, and turns nothing of its argument. -/
import Derived.Test.YtpaedkefmebjjanRows
import Derived.Test.YtpaedkefmebjjanO
import Derived.Test.YtpaedkefmebjjanR7f
import Derived.Test.YtpaedkefmebjjanI7
import Derived.WalkKit
import Derived.ProofKit
import Derived.OpenShut
import Derived.ShutString
import Derived.ChangeOld
import Derived.Below
import Derived.Deep.RegionWith
namespace Go.Proofs.Ytpaedkefmebjjan.fnExactCpuNew
open Go.ChangeShapes Go.WideShapes Go.ChangeAt Go.RowKit
open Go.ChangeMaps (open_string shut_string)
set_option linter.unusedVariables false
theorem own : ownKnob Try.prog.godebug = none := by kernel_rfl
theorem laidOut : laidOutB Try.prog = true := by kernel_rfl
set_option maxRecDepth 40000
set_option maxHeartbeats 8000000 in
theorem walk (u0 : Value) (m0 : Nat) (ra0 : Nat → Option Addr) (ln0 rc0 : Nat → Nat) (f0 : Nat → Nat → Int) (w : World) (w0 : RawSS w u0 m0 ra0 ln0 rc0 f0) :
    Calls Try.prog 5 #[.agg #[u0]] w fun e w' => e = .returned (.bool true) ∧ Below w.heap.size w w' := by
  by_cases hbig0 : (1048576 : Int) < ((m0 + psum ln0 m0 : Nat) : Int)
  · have HZ0 := hide (szOut_no hbig0)
    clear hbig0
    have C0 : Below w.heap.size w (w.alloc (.cells #[u0] 39)) := (Below.refl _ _).alloc (Nat.le_refl _) _
    have k0 : (w.alloc (.cells #[u0] 39)).heap[w.heap.size]? = some (.cells #[u0] 39 (0, 0)) := box_new w #[u0] 39
    go_enter Try.func5, Try.ntmps5
    go_wp2_with fail
    generalize (w.alloc (.cells #[u0] 39)) = W0 at *
    refine (szImage _ u0 m0 ra0 ln0 rc0 f0 (w0.below C0) (1048576) (by omega) (by omega)).mono ?_
    rintro e W1 ⟨rfl, L⟩
    rw [HZ0.out]
    have C1 := below_snoc C0 L
    replace k0 := box_keep k0 L (boxLt k0)
    have sz1 := L.size
    clear L C0
    go_wp2
    go_ret
    exact ⟨rfl, C1⟩
  · have HZ0 := hide (szOut_ok (show ((m0 + psum ln0 m0 : Nat) : Int) ≤ 1048576 by omega))
    have hnn0 : ¬ (1048576 - ((m0 + psum ln0 m0 : Nat) : Int) < 0) := by omega
    have hsm0 : m0 + psum ln0 m0 ≤ 1048576 := by omega
    have hI0 := w0.ints hsm0
    clear hbig0
    have C0 : Below w.heap.size w (w.alloc (.cells #[u0] 39)) := (Below.refl _ _).alloc (Nat.le_refl _) _
    have k0 : (w.alloc (.cells #[u0] 39)).heap[w.heap.size]? = some (.cells #[u0] 39 (0, 0)) := box_new w #[u0] 39
    go_enter Try.func5, Try.ntmps5
    go_wp2_with fail
    generalize (w.alloc (.cells #[u0] 39)) = W0 at *
    refine (szImage _ u0 m0 ra0 ln0 rc0 f0 (w0.below C0) (1048576) (by omega) (by omega)).mono ?_
    rintro e W1 ⟨rfl, L⟩
    rw [HZ0.out]
    have C1 := below_snoc C0 L
    replace k0 := box_keep k0 L (boxLt k0)
    have sz1 := L.size
    clear L C0
    have b0 := boxLt k0
    have c_k0 := boxC k0
    go_wp2_with fail
    clear c_k0
    refine (onToImage _ _ u0 m0 ln0 f0 (hI0.keep (wrote_below C1 Nowhere) (fun _ _ _ x => x)) hsm0).mono ?_
    rintro e XS0 ⟨vS0, rfl, oS0, L⟩
    have C2 := below_snoc C1 L
    replace k0 := box_keep k0 L (boxLt k0)
    have sz2 := L.size
    clear L C1
    have c_k0 := boxC k0
    go_wp2_with fail
    clear c_k0
    refine (onSpecCpuNew _ _ _ m0 ln0 f0 oS0).mono ?_
    rintro e SS ⟨rfl, L⟩
    have C3 := below_snoc C2 L
    replace k0 := box_keep k0 L (boxLt k0)
    replace oS0 := oS0.below L
    have sz3 := L.size
    clear L C2
    clear oS0
    obtain ⟨uzS, huzS⟩ : ∃ t, Hid (t = SS.heap.size) := ⟨_, rfl⟩
    have luzS : w.heap.size + 1 ≤ uzS := by rw [huzS.out]; omega
    replace C3 := C3.alloc C3.size (.cells #[.int .i64 0, .int .i64 0, .int .i64 255, .int .i64 (newPc m0 ln0 f0), .bool false, .bool false, .bool false, .bool true] 28)
    have LA : Below SS.heap.size SS (SS.alloc (.cells #[.int .i64 0, .int .i64 0, .int .i64 255, .int .i64 (newPc m0 ln0 f0), .bool false, .bool false, .bool false, .bool true] 28)) := (Below.refl _ _).alloc (Nat.le_refl _) _
    replace k0 := boxA k0 (.cells #[.int .i64 0, .int .i64 0, .int .i64 255, .int .i64 (newPc m0 ln0 f0), .bool false, .bool false, .bool false, .bool true] 28)
    have xS := box_new SS #[.int .i64 0, .int .i64 0, .int .i64 255, .int .i64 (newPc m0 ln0 f0), .bool false, .bool false, .bool false, .bool true] 28
    have sAS : uzS + 1 ≤ (SS.alloc (.cells #[.int .i64 0, .int .i64 0, .int .i64 255, .int .i64 (newPc m0 ln0 f0), .bool false, .bool false, .bool false, .bool true] 28)).heap.size := by rw [huzS.out]; simp
    clear LA
    have c_k0 := boxC k0
    have c_xS := boxC xS
    go_wp2_with fail
    clear c_k0 c_xS
    generalize SS.alloc (.cells #[.int .i64 0, .int .i64 0, .int .i64 255, .int .i64 (newPc m0 ln0 f0), .bool false, .bool false, .bool false, .bool true] 28) = VS at *
    rw [← huzS.out] at xS ⊢
    clear huzS
    refine (onToImage _ _ u0 m0 ln0 f0 (hI0.keep (wrote_below C3 Nowhere) (fun _ _ _ x => x)) hsm0).mono ?_
    rintro e X0 ⟨v0, rfl, o0, L⟩
    have C4 := below_snoc C3 L
    replace k0 := box_keep k0 L (boxLt k0)
    replace xS := box_keep xS L (boxLt xS)
    have sz4 := L.size
    clear L C3
    obtain ⟨y0, hy0, -⟩ := id o0.ex
    subst hy0
    obtain ⟨uz0, huz0⟩ : ∃ t, Hid (t = X0.heap.size) := ⟨_, rfl⟩
    replace o0 := o0.mono (E := fun b => uzS + 1 ≤ b ∧ b < uz0) (fun b hb h => ⟨by omega, by rw [huz0.out]; exact hb⟩)
    have luz0 : uzS + 1 ≤ uz0 := by rw [huz0.out]; omega
    replace C4 := C4.alloc C4.size (.cells #[.slice (some ⟨y0, 0, none⟩) m0 m0] 43)
    have LA : Below X0.heap.size X0 (X0.alloc (.cells #[.slice (some ⟨y0, 0, none⟩) m0 m0] 43)) := (Below.refl _ _).alloc (Nat.le_refl _) _
    replace k0 := boxA k0 (.cells #[.slice (some ⟨y0, 0, none⟩) m0 m0] 43)
    replace xS := boxA xS (.cells #[.slice (some ⟨y0, 0, none⟩) m0 m0] 43)
    replace o0 := o0.below LA
    have x0 := box_new X0 #[.slice (some ⟨y0, 0, none⟩) m0 m0] 43
    have sA0 : uz0 + 1 ≤ (X0.alloc (.cells #[.slice (some ⟨y0, 0, none⟩) m0 m0] 43)).heap.size := by rw [huz0.out]; simp
    clear LA
    have c_k0 := boxC k0
    have c_xS := boxC xS
    have c_x0 := boxC x0
    go_wp2_with fail
    clear c_k0 c_xS c_x0
    generalize X0.alloc (.cells #[.slice (some ⟨y0, 0, none⟩) m0 m0] 43) = V0 at *
    rw [← huz0.out] at x0 ⊢
    clear huz0
    refine (onImplCpuNew _ _ _ m0 ln0 f0 o0).mono ?_
    rintro e GG ⟨rfl, L⟩
    have C5 := below_snoc C4 L
    replace k0 := box_keep k0 L (boxLt k0)
    replace xS := box_keep xS L (boxLt xS)
    replace x0 := box_keep x0 L (boxLt x0)
    replace o0 := o0.below L
    have sz5 := L.size
    clear L C4
    obtain ⟨uzG, huzG⟩ : ∃ t, Hid (t = GG.heap.size) := ⟨_, rfl⟩
    have luzG : uz0 + 1 ≤ uzG := by rw [huzG.out]; omega
    replace C5 := C5.alloc C5.size (.cells #[.int .i64 0, .int .i64 0, .int .i64 255, .int .i64 (newPc m0 ln0 f0), .bool false, .bool false, .bool false, .bool true] 28)
    have LA : Below GG.heap.size GG (GG.alloc (.cells #[.int .i64 0, .int .i64 0, .int .i64 255, .int .i64 (newPc m0 ln0 f0), .bool false, .bool false, .bool false, .bool true] 28)) := (Below.refl _ _).alloc (Nat.le_refl _) _
    replace k0 := boxA k0 (.cells #[.int .i64 0, .int .i64 0, .int .i64 255, .int .i64 (newPc m0 ln0 f0), .bool false, .bool false, .bool false, .bool true] 28)
    replace xS := boxA xS (.cells #[.int .i64 0, .int .i64 0, .int .i64 255, .int .i64 (newPc m0 ln0 f0), .bool false, .bool false, .bool false, .bool true] 28)
    replace x0 := boxA x0 (.cells #[.int .i64 0, .int .i64 0, .int .i64 255, .int .i64 (newPc m0 ln0 f0), .bool false, .bool false, .bool false, .bool true] 28)
    replace o0 := o0.below LA
    have xG := box_new GG #[.int .i64 0, .int .i64 0, .int .i64 255, .int .i64 (newPc m0 ln0 f0), .bool false, .bool false, .bool false, .bool true] 28
    have sAG : uzG + 1 ≤ (GG.alloc (.cells #[.int .i64 0, .int .i64 0, .int .i64 255, .int .i64 (newPc m0 ln0 f0), .bool false, .bool false, .bool false, .bool true] 28)).heap.size := by rw [huzG.out]; simp
    clear LA
    have c_k0 := boxC k0
    have c_xS := boxC xS
    have c_x0 := boxC x0
    have c_xG := boxC xG
    go_wp2_with fail
    clear c_k0 c_xS c_x0 c_xG
    generalize GG.alloc (.cells #[.int .i64 0, .int .i64 0, .int .i64 255, .int .i64 (newPc m0 ln0 f0), .bool false, .bool false, .bool false, .bool true] 28) = VG at *
    rw [← huzG.out] at xG ⊢
    clear huzG
    refine (eqCpu_same _ _ _ _ _ _ _ _ _).mono ?_
    rintro e Q6 ⟨rfl, L⟩
    have C6 := below_snoc C5 L
    replace k0 := box_keep k0 L (boxLt k0)
    replace xS := box_keep xS L (boxLt xS)
    replace x0 := box_keep x0 L (boxLt x0)
    replace xG := box_keep xG L (boxLt xG)
    replace o0 := o0.below L
    have sz6 := L.size
    clear L C5
    have c_k0 := boxC k0
    have c_xS := boxC xS
    have c_x0 := boxC x0
    have c_xG := boxC xG
    go_upto_region 10 with (fail)
    go_cut [27] (fun s WX => s = .bool false ∧ Below Q6.heap.size Q6 WX)
    case first =>
      go_region_with (first
        | (go_at_call 15; refine (onToImage _ _ u0 m0 ln0 f0 (hI0.keep (wrote_below (below_snoc C6 (Below.refl _ Q6).drew) Nowhere) (fun _ _ _ x => x)) hsm0).mono ?_; rintro e YY ⟨vv, rfl, RR, MM⟩; have DD : Below Q6.heap.size Q6 YY := (Below.refl _ _).drew.trans MM; have d_x0 := boxC (box_keep x0 DD (boxLt x0)); have QQ := o0.below DD; skip)
        | (go_at_call 17; refine (onEqImage _ _ _ _ _ m0 ln0 f0 QQ RR).mono ?_; rintro e ZZ ⟨rfl, NN⟩; have EE := below_snoc DD NN))
      all_goals
        go_wp2_with fail
        go_meet
        exact ⟨rfl, EE⟩
    case rest =>
      obtain ⟨rfl, LX⟩ := hcut
      clear c_k0 c_xS c_x0 c_xG
      obtain ⟨E0, hE0⟩ : ∃ x, x = wc := ⟨_, rfl⟩
      subst hE0
      have C7 := below_snoc C6 LX
      replace k0 := box_keep k0 LX (boxLt k0)
      replace xS := box_keep xS LX (boxLt xS)
      replace x0 := box_keep x0 LX (boxLt x0)
      replace xG := box_keep xG LX (boxLt xG)
      replace o0 := o0.below LX
      have sz7 := LX.size
      clear LX C6
      go_wp2
      go_ret
      exact ⟨rfl, C7⟩
set_option maxRecDepth 100000 in
theorem lifted (os : Os) (started : os.Started) (H : Type) (enc : TypeId × Value → H) :
    ReturnsInHanded {} Try.checked os 5 .any (Rows.fnExactCpuNewSpec.pre6 enc Try.prog Try.f5 Rows.fnExactCpuNewRow.domain false) (Rows.fnExactCpuNewSpec.post enc Try.prog Try.f5 false true false false) := by
  refine returnsInHanded_of_change (C := Try.checked) own started (by kernel_rfl) Try.func5
    (ChangeSpec.witness6 (enc := enc) (C := Try.checked) false ⟨#[], #[.agg #[.slice none 0 0]], []⟩ 8 (by kernel_rfl) (by kernel_rfl) (by kernel_rfl) (by kernel_rfl)) ?_
  intro W base args ds gs before hval0 hW hcnd _
  have hval : ∀ (j : Nat) t v, Try.f5.params[j]? = some t → args[j]? = some v → Value.okWide Try.prog W .any base t v := hval0
  have hW' := hW
  obtain ⟨p, q, hA0, hV, rfl, hfz, hnd⟩ := hW
  have hA : DataW.TrodAll enc Try.prog W 0 (fun _ => true) true Try.f5.params.toList args.toList ds p := hA0
  rw [Try.params5] at hA hval
  obtain ⟨v0, vs0, d0, ds0, p0, q0, hargs, rfl, rfl, h0, r0⟩ := trodAll_cons hA
  obtain ⟨rfl, rfl, rfl⟩ := trodAll_nil r0
  obtain rfl : args = #[v0] := by cases args; simp_all
  obtain ⟨rfl, rfl⟩ := trodVars_none hV
  have k0 := h0
  have lt0 : ∀ x ∈ p0, x.block < W.heap.size := by obtain ⟨m, hm⟩ := k0; exact DataW.trod_lt m _ _ _ hm
  obtain ⟨u0, m0, ra0, ln0, rc0, f0, rfl, w0⟩ := openImage (hval 0 39 v0 rfl rfl) h0
  clear hA0 hval0
  refine (walk u0 m0 ra0 ln0 rc0 f0 W w0).mono fun e W' ⟨he, bel⟩ => ?_
  subst he
  exact ⟨_, rfl, _, _, _, [], _, [], hW', trodAll_mk1 (shut_bool Try.underlying4 _), (trodAll_cons_mk (Below.trod laidOut (by kernel_rfl) (of_decide_eq_true (by kernel_rfl)) k0 bel lt0) trodAll_mk0), rfl, bel.frame _, fun h => by cases h⟩
theorem over : Rows.fnExactCpuNewRow.holds Try.pinned (OpenSpec.ofChange Rows.fnExactCpuNewSpec) :=
  OpenClaim.holds_of_wide 5 Try.f5 rfl rfl rfl rfl rfl rfl rfl ⟨rfl, rfl, rfl, rfl, rfl⟩ rfl rfl rfl rfl rfl (by kernel_rfl) Try.func5 (by kernel_rfl)
    (of_decide_eq_true (by kernel_rfl)) (by unfold Func.isWrapper; first | (rw [if_pos (by decide +kernel)]; kernel_rfl) | (rw [if_neg (by decide +kernel)]; exact ⟨rfl, rfl⟩))
    (fun os started H enc _ => lifted os started H enc)
end Go.Proofs.Ytpaedkefmebjjan.fnExactCpuNew
namespace Go.Proofs.Ytpaedkefmebjjan
theorem fnExactCpuNew_holds : Rows.FnExactCpuNewSaid := fnExactCpuNew.over
end Go.Proofs.Ytpaedkefmebjjan
