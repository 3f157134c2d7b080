/- PpuNew of the program answers as PpuNew of the specification; its answer owns its memory, behind another call too. -/
import Derived.Test.YtpaedkefmebjjaoRows
import Derived.Test.YtpaedkefmebjjaoO
import Derived.Test.YtpaedkefmebjjaoI8
import Derived.WalkKit
import Derived.ProofKit
import Derived.OpenShut
import Derived.ShutString
import Derived.ChangeOld
import Derived.Below
import Derived.Deep.RegionWith
namespace Go.Proofs.Ytpaedkefmebjjao.fnExactPpuNew
open Go.ChangeShapes Go.WideShapes Go.ChangeAt Go.RowKit
open Go.ChangeMaps (open_string shut_string)
set_option linter.unusedVariables false
theorem own : ownKnob Try.prog.godebug = none := by kernel_rfl
theorem laidOut : laidOutB Try.prog = true := by kernel_rfl
set_option maxRecDepth 20000
set_option maxHeartbeats 4000000 in
theorem walk  (w : World)  :
    Calls Try.prog 4 #[] w fun e w' => e = .returned (.bool true) ∧ Below w.heap.size w w' := by
  go_enter Try.func4, Try.ntmps4
  go_wp2_with fail
  refine (specPpuNew _).mono ?_
  rintro e W1 ⟨p0, rfl, O0, C1⟩
  have M0 : PpuOn W1 (fun b => w.heap.size ≤ b ∧ b < W1.heap.size) (.agg #[.int .i64 0, .int .i64 0, .int .i64 0, .int .i64 0, .int .i64 0, .bool false, .slice (some ⟨p0, 0, none⟩) 16 16, .slice none 0 0]) 0 0 0 0 0 false 16 (fun _ => 0) 0 (fun _ => 0) := (ppuOn_new O0).mono (fun b hb h => ⟨h, hb⟩)
  clear O0
  have sW1 := C1.size
  have k1 := box_new W1 #[.int .i64 0, .int .i64 0, .int .i64 0, .int .i64 0, .int .i64 0, .bool false, .slice (some ⟨p0, 0, none⟩) 16 16, .slice none 0 0] 27
  replace M0 := M0.below ((Below.refl _ W1).alloc (Nat.le_refl _) (.cells #[.int .i64 0, .int .i64 0, .int .i64 0, .int .i64 0, .int .i64 0, .bool false, .slice (some ⟨p0, 0, none⟩) 16 16, .slice none 0 0] 27))
  replace C1 := C1.alloc C1.size (.cells #[.int .i64 0, .int .i64 0, .int .i64 0, .int .i64 0, .int .i64 0, .bool false, .slice (some ⟨p0, 0, none⟩) 16 16, .slice none 0 0] 27)
  have sW2 : (W1.alloc (.cells #[.int .i64 0, .int .i64 0, .int .i64 0, .int .i64 0, .int .i64 0, .bool false, .slice (some ⟨p0, 0, none⟩) 16 16, .slice none 0 0] 27)).heap.size = W1.heap.size + 1 := by simp
  have c_k1 := boxC k1
  go_wp2_with fail
  clear c_k1
  generalize (W1.alloc (.cells #[.int .i64 0, .int .i64 0, .int .i64 0, .int .i64 0, .int .i64 0, .bool false, .slice (some ⟨p0, 0, none⟩) 16 16, .slice none 0 0] 27)) = W2 at *
  refine (implPpuNew _).mono ?_
  rintro e W3 ⟨p1, rfl, O1, L⟩
  have C2 := below_snoc C1 L
  replace k1 := box_keep k1 L (boxLt k1)
  replace M0 := M0.below L
  have sW3 := L.size
  clear L C1
  have M1 : PpuOn W3 (fun b => W2.heap.size ≤ b ∧ b < W3.heap.size) (.agg #[.int .i64 0, .int .i64 0, .int .i64 0, .int .i64 0, .int .i64 0, .bool false, .slice (some ⟨p1, 0, none⟩) 16 16, .slice none 0 0]) 0 0 0 0 0 false 16 (fun _ => 0) 0 (fun _ => 0) := (ppuOn_new O1).mono (fun b hb h => ⟨h, hb⟩)
  clear O1
  have k2 := box_new W3 #[.int .i64 0, .int .i64 0, .int .i64 0, .int .i64 0, .int .i64 0, .bool false, .slice (some ⟨p1, 0, none⟩) 16 16, .slice none 0 0] 27
  replace k1 := boxA k1 (.cells #[.int .i64 0, .int .i64 0, .int .i64 0, .int .i64 0, .int .i64 0, .bool false, .slice (some ⟨p1, 0, none⟩) 16 16, .slice none 0 0] 27)
  replace M0 := M0.below ((Below.refl _ W3).alloc (Nat.le_refl _) (.cells #[.int .i64 0, .int .i64 0, .int .i64 0, .int .i64 0, .int .i64 0, .bool false, .slice (some ⟨p1, 0, none⟩) 16 16, .slice none 0 0] 27))
  replace M1 := M1.below ((Below.refl _ W3).alloc (Nat.le_refl _) (.cells #[.int .i64 0, .int .i64 0, .int .i64 0, .int .i64 0, .int .i64 0, .bool false, .slice (some ⟨p1, 0, none⟩) 16 16, .slice none 0 0] 27))
  replace C2 := C2.alloc C2.size (.cells #[.int .i64 0, .int .i64 0, .int .i64 0, .int .i64 0, .int .i64 0, .bool false, .slice (some ⟨p1, 0, none⟩) 16 16, .slice none 0 0] 27)
  have sW4 : (W3.alloc (.cells #[.int .i64 0, .int .i64 0, .int .i64 0, .int .i64 0, .int .i64 0, .bool false, .slice (some ⟨p1, 0, none⟩) 16 16, .slice none 0 0] 27)).heap.size = W3.heap.size + 1 := by simp
  have c_k1 := boxC k1
  have c_k2 := boxC k2
  go_wp2_with fail
  clear c_k1 c_k2
  generalize (W3.alloc (.cells #[.int .i64 0, .int .i64 0, .int .i64 0, .int .i64 0, .int .i64 0, .bool false, .slice (some ⟨p1, 0, none⟩) 16 16, .slice none 0 0] 27)) = W4 at *
  refine (onEqPpu _ _ _ _ _ 0 0 0 0 0 false 16 _ 0 _ M1 M0).mono ?_
  rintro e W5 ⟨rfl, L⟩
  have C3 := below_snoc C2 L
  replace k1 := box_keep k1 L (boxLt k1)
  replace k2 := box_keep k2 L (boxLt k2)
  replace M0 := M0.below L
  replace M1 := M1.below L
  have sW5 := L.size
  clear L C2
  have c_k1 := boxC k1
  have c_k2 := boxC k2
  go_wp2_with fail
  clear c_k1 c_k2
  refine (onMarkPpu _ _ _ 0 0 0 0 0 false 16 _ 0 _ 1 M1 (by omega) (by omega)).mono ?_
  rintro e W6 ⟨rfl, M2, T⟩
  have C4 := C3.trans (T.below C3.size (fun b o hb (h : _ ∧ _) => by omega))
  replace k1 := box_wrote k1 T (fun o (h : _ ∧ _) => by omega)
  replace k2 := box_wrote k2 T (fun o (h : _ ∧ _) => by omega)
  replace M0 := M0.keep T (fun b o (hb : _ ∧ _) _ (h : _ ∧ _) => by omega)
  have sW6 := T.size
  clear T C3 M1
  have c_k1 := boxC k1
  have c_k2 := boxC k2
  go_wp2_with fail
  clear c_k1 c_k2
  refine (onHeldPpu _ _ _ 0 0 0 0 0 false 16 0 1 M2 (by omega) (by omega)).mono ?_
  rintro e W7 ⟨rfl, L⟩
  have C5 := below_snoc C4 L
  replace k1 := box_keep k1 L (boxLt k1)
  replace k2 := box_keep k2 L (boxLt k2)
  replace M0 := M0.below L
  replace M2 := M2.below L
  have sW7 := L.size
  clear L C4
  have c_k1 := boxC k1
  have c_k2 := boxC k2
  go_wp2_with fail
  clear c_k1 c_k2
  refine (implPpuNew _).mono ?_
  rintro e W8 ⟨p3, rfl, O3, L⟩
  have C6 := below_snoc C5 L
  replace k1 := box_keep k1 L (boxLt k1)
  replace k2 := box_keep k2 L (boxLt k2)
  replace M0 := M0.below L
  replace M2 := M2.below L
  have sW8 := L.size
  clear L C5
  have M3 : PpuOn W8 (fun b => W7.heap.size ≤ b) (.agg #[.int .i64 0, .int .i64 0, .int .i64 0, .int .i64 0, .int .i64 0, .bool false, .slice (some ⟨p3, 0, none⟩) 16 16, .slice none 0 0]) 0 0 0 0 0 false 16 (fun _ => 0) 0 (fun _ => 0) := ppuOn_new O3
  clear O3
  have k3 := box_new W8 #[.int .i64 0, .int .i64 0, .int .i64 0, .int .i64 0, .int .i64 0, .bool false, .slice (some ⟨p3, 0, none⟩) 16 16, .slice none 0 0] 27
  replace k1 := boxA k1 (.cells #[.int .i64 0, .int .i64 0, .int .i64 0, .int .i64 0, .int .i64 0, .bool false, .slice (some ⟨p3, 0, none⟩) 16 16, .slice none 0 0] 27)
  replace k2 := boxA k2 (.cells #[.int .i64 0, .int .i64 0, .int .i64 0, .int .i64 0, .int .i64 0, .bool false, .slice (some ⟨p3, 0, none⟩) 16 16, .slice none 0 0] 27)
  replace M0 := M0.below ((Below.refl _ W8).alloc (Nat.le_refl _) (.cells #[.int .i64 0, .int .i64 0, .int .i64 0, .int .i64 0, .int .i64 0, .bool false, .slice (some ⟨p3, 0, none⟩) 16 16, .slice none 0 0] 27))
  replace M2 := M2.below ((Below.refl _ W8).alloc (Nat.le_refl _) (.cells #[.int .i64 0, .int .i64 0, .int .i64 0, .int .i64 0, .int .i64 0, .bool false, .slice (some ⟨p3, 0, none⟩) 16 16, .slice none 0 0] 27))
  replace M3 := M3.below ((Below.refl _ W8).alloc (Nat.le_refl _) (.cells #[.int .i64 0, .int .i64 0, .int .i64 0, .int .i64 0, .int .i64 0, .bool false, .slice (some ⟨p3, 0, none⟩) 16 16, .slice none 0 0] 27))
  replace C6 := C6.alloc C6.size (.cells #[.int .i64 0, .int .i64 0, .int .i64 0, .int .i64 0, .int .i64 0, .bool false, .slice (some ⟨p3, 0, none⟩) 16 16, .slice none 0 0] 27)
  have sW9 : (W8.alloc (.cells #[.int .i64 0, .int .i64 0, .int .i64 0, .int .i64 0, .int .i64 0, .bool false, .slice (some ⟨p3, 0, none⟩) 16 16, .slice none 0 0] 27)).heap.size = W8.heap.size + 1 := by simp
  have c_k1 := boxC k1
  have c_k2 := boxC k2
  have c_k3 := boxC k3
  go_wp2_with fail
  clear c_k1 c_k2 c_k3
  generalize (W8.alloc (.cells #[.int .i64 0, .int .i64 0, .int .i64 0, .int .i64 0, .int .i64 0, .bool false, .slice (some ⟨p3, 0, none⟩) 16 16, .slice none 0 0] 27)) = W9 at *
  refine (onEqPpu _ _ _ _ _ 0 0 0 0 0 false 16 _ 0 _ M3 M0).mono ?_
  rintro e WA ⟨rfl, L⟩
  have C7 := below_snoc C6 L
  replace k1 := box_keep k1 L (boxLt k1)
  replace k2 := box_keep k2 L (boxLt k2)
  replace k3 := box_keep k3 L (boxLt k3)
  replace M0 := M0.below L
  replace M2 := M2.below L
  replace M3 := M3.below L
  have sWA := L.size
  clear L C6
  have c_k1 := boxC k1
  have c_k2 := boxC k2
  have c_k3 := boxC k3
  go_wp2_with fail
  clear c_k1 c_k2 c_k3
  refine (onHeldPpu _ _ _ 0 0 0 0 0 false 16 0 1 M2 (by omega) (by omega)).mono ?_
  rintro e WB ⟨rfl, L⟩
  have C8 := below_snoc C7 L
  replace k1 := box_keep k1 L (boxLt k1)
  replace k2 := box_keep k2 L (boxLt k2)
  replace k3 := box_keep k3 L (boxLt k3)
  replace M0 := M0.below L
  replace M2 := M2.below L
  replace M3 := M3.below L
  have sWB := L.size
  clear L C7
  go_wp2
  go_ret
  exact ⟨rfl, C8⟩
set_option maxRecDepth 100000 in
theorem lifted (os : Os) (started : os.Started) (H : Type) (enc : TypeId × Value → H) :
    ReturnsInHanded {} Try.checked os 4 .any (Rows.fnExactPpuNewSpec.pre6 enc Try.prog Try.f4 Rows.fnExactPpuNewRow.domain false) (Rows.fnExactPpuNewSpec.post enc Try.prog Try.f4 false true false false) := by
  refine returnsInHanded_of_change (C := Try.checked) own started (by kernel_rfl) Try.func4
    (ChangeSpec.witness6 (enc := enc) (C := Try.checked) false ⟨#[], #[], []⟩ 8 (by kernel_rfl) (by kernel_rfl) (by kernel_rfl) (by kernel_rfl)) ?_
  intro W base args ds gs before hval0 hW hcnd _
  have hval : ∀ (j : Nat) t v, Try.f4.params[j]? = some t → args[j]? = some v → Value.okWide Try.prog W .any base t v := hval0
  have hW' := hW
  obtain ⟨p, q, hA0, hV, rfl, hfz, hnd⟩ := hW
  have hA : DataW.TrodAll enc Try.prog W 0 (fun _ => true) true Try.f4.params.toList args.toList ds p := hA0
  rw [Try.params4] at hA hval
  obtain ⟨hargs, rfl, rfl⟩ := trodAll_nil hA
  obtain rfl : args = #[] := by cases args; simp_all
  obtain ⟨rfl, rfl⟩ := trodVars_none hV
  clear hA0 hval0
  refine (walk  W ).mono fun e W' ⟨he, bel⟩ => ?_
  subst he
  exact ⟨_, rfl, _, _, _, [], _, [], hW', trodAll_mk1 (shut_bool Try.underlying4 _), trodAll_mk0, rfl, bel.frame _, fun h => by cases h⟩
theorem over : Rows.fnExactPpuNewRow.holds Try.pinned (OpenSpec.ofChange Rows.fnExactPpuNewSpec) :=
  OpenClaim.holds_of_wide 4 Try.f4 rfl rfl rfl rfl rfl rfl rfl ⟨rfl, rfl, rfl, rfl, rfl⟩ rfl rfl rfl rfl rfl (by kernel_rfl) Try.func4 (by kernel_rfl)
    (of_decide_eq_true (by kernel_rfl)) (by unfold Func.isWrapper; first | (rw [if_pos (by decide +kernel)]; kernel_rfl) | (rw [if_neg (by decide +kernel)]; exact ⟨rfl, rfl⟩))
    (fun os started H enc _ => lifted os started H enc)
end Go.Proofs.Ytpaedkefmebjjao.fnExactPpuNew
namespace Go.Proofs.Ytpaedkefmebjjao
theorem fnExactPpuNew_holds : Rows.FnExactPpuNewSaid := fnExactPpuNew.over
end Go.Proofs.Ytpaedkefmebjjao
