/- At every processor of the mirror's type CpuText of the program answers as CpuText of the specification, with the tables of the library as its text lays them. -/
import Derived.Test.YtoefmpolfenkoaaDoorRows
import Derived.Test.YtoefmpolfenkoaaDoorO
import Derived.Test.YtoefmpolfenkoaaDoorT1
import Derived.Test.YtoefmpolfenkoaaDoorXB
import Derived.Test.YtoefmpolfenkoaaDoorXJ
import Derived.Test.YtoefmpolfenkoaaDoorCards
import Derived.Test.YtoefmpolfenkoaaDoorTie
import Derived.ChangeSame
import Derived.ChangeVars
import Derived.JoinedOf
import Derived.RowKit
import Derived.RowKitTokens
import Derived.LaidLaws
import Derived.LaidHandle
import Derived.Stop.Joined
import Derived.SevenTiedAt
import Derived.OpenVars
import Derived.WalkKit
import Derived.ProofKit
import Derived.OpenShut
import Derived.ShutString
import Derived.ChangeOld
import Derived.Below
import Derived.Deep.RegionWith
namespace Go.Proofs.YtoefmpolfenkoaaDoor.fnExactCpuText
open Go.ChangeShapes Go.WideShapes Go.ChangeAt Go.RowKit
open Go.ChangeMaps (open_string shut_string)
set_option linter.unusedVariables false
theorem own : ownKnob Tryd.prog.godebug = none := by kernel_rfl
theorem laidOut : laidOutB Tryd.prog = true := by kernel_rfl
set_option maxHeartbeats 1000000 in
theorem walk (a0A : Int) (a0X : Int) (a0S : Int) (a0Pc : Int) (a0Z : Bool) (a0N : Bool) (a0C : Bool) (a0I : Bool) (w : World) (w0A : (Lit.int .i64 a0A).wf = true) (w0X : (Lit.int .i64 a0X).wf = true) (w0S : (Lit.int .i64 a0S).wf = true) (w0Pc : (Lit.int .i64 a0Pc).wf = true) (hp : Lib.TabIs Tryd.prog w "internal/strconv.uint64pow10" .u64 Lib.pow10Tab) (hd0 : ∀ i v, leafAt Tryd.prog 4 51 Rows.laid_math_bits_deBruijn32tab i = some v → w.cell? ⟨1, i, none⟩ = some v) (hd1 : ∀ i v, leafAt Tryd.prog 4 52 Rows.laid_math_bits_deBruijn64tab i = some v → w.cell? ⟨2, i, none⟩ = some v) (hd2 : ∀ i v, leafAt Tryd.prog 4 45 Rows.laid_internal_strconv_uint64pow10 i = some v → w.cell? ⟨0, i, none⟩ = some v) :
    Calls Tryd.prog 3 #[.agg #[.int .i64 a0A, .int .i64 a0X, .int .i64 a0S, .int .i64 a0Pc, .bool a0Z, .bool a0N, .bool a0C, .bool a0I]] w fun e w' => e = .returned (.bool true) ∧ Below w.heap.size w w' := by
  have L0 : Below w.heap.size w (w.alloc (.cells #[.int .i64 a0A, .int .i64 a0X, .int .i64 a0S, .int .i64 a0Pc, .bool a0Z, .bool a0N, .bool a0C, .bool a0I] 23)) := (Below.refl _ _).alloc (Nat.le_refl _) _
  have b0 := box_new w #[.int .i64 a0A, .int .i64 a0X, .int .i64 a0S, .int .i64 a0Pc, .bool a0Z, .bool a0N, .bool a0C, .bool a0I] 23
  go_enter Tryd.func3, Tryd.ntmps3
  go_wp2_with fail
  refine (toCpu _ a0A a0X a0S a0Pc a0Z a0N a0C a0I).mono ?_
  rintro e w1 ⟨rfl, L1⟩
  have C1 := L0.trans (L1.mono L0.size)
  have b1 := box_keep b0 L1 (by simp)
  have z1 : w.heap.size < w1.heap.size := by have := L1.size; simp at this; omega
  clear L0 L1 b0
  go_wp2_with fail
  refine (specCpuText _ a0A a0X a0S a0Pc a0Z a0N a0C a0I).mono ?_
  rintro e w2 ⟨rfl, L2⟩
  have C2 := C1.trans (L2.mono C1.size)
  have b2 := box_keep b1 L2 z1
  have z2 : w.heap.size < w2.heap.size := Nat.lt_of_lt_of_le z1 L2.size
  obtain ⟨q0, q1, q2, q3, q4, q5, q6, q7⟩ := cells8 b2
  clear L2 b1 z1 C1
  go_wp2_with fail
  refine (toCpu _ a0A a0X a0S a0Pc a0Z a0N a0C a0I).mono ?_
  rintro e w3 ⟨rfl, L3⟩
  have C3 := C2.trans (L3.mono C2.size)
  clear q0 q1 q2 q3 q4 q5 q6 q7 b2 L3
  go_wp2_with fail
  refine (implCpuText _ a0A a0X a0S a0Pc a0Z a0N a0C a0I (Pow.mono hp C3)).mono ?_
  rintro e w4 ⟨rfl, L4⟩
  generalize cpuS a0A a0X a0S a0Pc a0Z a0N a0C a0I = r at *
  go_wp2
  go_ret
  exact ⟨rfl, C3.trans (L4.mono C3.size)⟩
theorem data_of_laid {W : World} (h : laidMetH Tryd.prog Rows.fnExactCpuTextRow.laid W) : laidMet Tryd.prog [("math/bits.deBruijn32tab", Rows.laid_math_bits_deBruijn32tab), ("math/bits.deBruijn64tab", Rows.laid_math_bits_deBruijn64tab), ("internal/strconv.uint64pow10", Rows.laid_internal_strconv_uint64pow10)] W := h
noncomputable def laidWorld (os : Os) : World :=
  let w0 := World.holding Tryd.prog os ⟨#[], #[], []⟩
  let w0 := { w0 with heap := w0.heap.modify 1 fun
      | .cells _ t frozen => .cells (flatD 6 Rows.laid_math_bits_deBruijn32tab).toArray t frozen
      | o => o }
  let w0 := { w0 with heap := w0.heap.modify 2 fun
      | .cells _ t frozen => .cells (flatD 6 Rows.laid_math_bits_deBruijn64tab).toArray t frozen
      | o => o }
  let w0 := { w0 with heap := w0.heap.modify 0 fun
      | .cells _ t frozen => .cells (flatD 6 Rows.laid_internal_strconv_uint64pow10).toArray t frozen
      | o => o }
  w0
set_option maxRecDepth 100000 in
theorem laidWorld_met (os : Os) (args : Array Value) : laidMetH Tryd.prog Rows.fnExactCpuTextRow.laid ((laidWorld os).forCall (fun _ _ => 0) ⟨#[], args, []⟩).memory :=
  laidMetH_of_parts (laidMet_of_run' 8 (by kernel_rfl) (by kernel_rfl)) (by kernel_rfl)
set_option maxRecDepth 100000 in
theorem lifted (os : Os) (started : os.Started) (H : Type) (enc : TypeId × Value → H) :
    ReturnsInHanded {} Tryd.checked os 3 .any (fun w args => (Rows.fnExactCpuTextSpec.pre enc Tryd.prog Tryd.f3 [] false w args ∧ laidMetH Tryd.prog Rows.fnExactCpuTextRow.laid w) ∧ sizedMet enc Tryd.prog Tryd.f3 (OpenSpec.ofChange Rows.fnExactCpuTextSpec) false w args)
      (Rows.fnExactCpuTextSpec.post enc Tryd.prog Tryd.f3 false true false false) := by
  refine returnsInHanded_of_change_and (C := Tryd.checked) (X := fun w _ => laidMetH Tryd.prog Rows.fnExactCpuTextRow.laid w) (fun _ _ _ hh h => h.of_heap hh) own started (by kernel_rfl) Tryd.func3
    (ChangeSpec.witness_at (enc := enc) (C := Tryd.checked) (os := os) (X := fun w _ => laidMetH Tryd.prog Rows.fnExactCpuTextRow.laid w) false (laidWorld os) #[.agg #[.int .i64 0, .int .i64 0, .int .i64 0, .int .i64 0, .bool false, .bool false, .bool false, .bool false]] 8 rfl (by kernel_rfl) (by kernel_rfl) (by kernel_rfl) (by kernel_rfl) (by kernel_rfl) (laidWorld_met os _)) ?_
  intro W base args ds gs before hval0 hW _ _ hL _
  have hp := tabIs_mem (name := "internal/strconv.uint64pow10") (g := 0) (t := 45) (by kernel_rfl) (by kernel_rfl) Tryd.underlying45 Tryd.underlying39 (by kernel_rfl) (by kernel_rfl) (k := .u64) (zs := Lib.pow10Tab) (d := Rows.laid_internal_strconv_uint64pow10) (by rfl) (by simp) (data_of_laid hL)
  have hd0 := laid_cell_mem (t := 51) (show Tryd.prog.globalNamed "math/bits.deBruijn32tab" = some 1 by kernel_rfl) (by kernel_rfl) (d := Rows.laid_math_bits_deBruijn32tab) (by simp) (data_of_laid hL) 4
  have hd1 := laid_cell_mem (t := 52) (show Tryd.prog.globalNamed "math/bits.deBruijn64tab" = some 2 by kernel_rfl) (by kernel_rfl) (d := Rows.laid_math_bits_deBruijn64tab) (by simp) (data_of_laid hL) 4
  have hd2 := laid_cell_mem (t := 45) (show Tryd.prog.globalNamed "internal/strconv.uint64pow10" = some 0 by kernel_rfl) (by kernel_rfl) (d := Rows.laid_internal_strconv_uint64pow10) (by simp) (data_of_laid hL) 4
  have hval : ∀ (j : Nat) t v, Tryd.f3.params[j]? = some t → args[j]? = some v → Value.okWide Tryd.prog W .any base t v := hval0
  have hW' := hW
  obtain ⟨p, q, hA0, hV, rfl, hfz, hnd⟩ := hW
  have hA : DataW.TrodAll enc Tryd.prog W 0 (fun _ => true) true Tryd.f3.params.toList args.toList ds p := hA0
  rw [Tryd.params3] at hA hval
  obtain ⟨v0, vs0, d0, ds0, p0, q0, hargs, rfl, rfl, h0, r0⟩ := trodAll_cons hA
  obtain ⟨rfl, rfl, rfl⟩ := trodAll_nil r0
  obtain rfl : args = #[v0] := by cases args; simp_all
  obtain ⟨rfl, rfl⟩ := trodVars_none hV
  have k0 := h0
  have lt0 : ∀ x ∈ p0, x.block < W.heap.size := by obtain ⟨m, hm⟩ := k0; exact DataW.trod_lt m _ _ _ hm
  obtain ⟨a0A, a0X, a0S, a0Pc, a0Z, a0N, a0C, a0I, rfl, w0A, w0X, w0S, w0Pc⟩ := open_Cpu (hval 0 23 v0 rfl rfl) h0
  clear hA0 hval0
  refine (walk a0A a0X a0S a0Pc a0Z a0N a0C a0I W w0A w0X w0S w0Pc hp hd0 hd1 hd2).mono fun e W' ⟨he, bel⟩ => ?_
  subst he
  exact ⟨_, rfl, _, _, _, [], _, [], hW', trodAll_mk1 (shut_bool Tryd.underlying4 _), (trodAll_cons_mk (Below.trod laidOut (by kernel_rfl) (of_decide_eq_true (by kernel_rfl)) k0 bel lt0) trodAll_mk0), rfl, bel.frame _, fun h => by cases h⟩
theorem over : Rows.fnExactCpuTextRow.holds Tryd.pinned (OpenSpec.ofChange Rows.fnExactCpuTextSpec) :=
  OpenClaim.holds_of_wide 3 Tryd.f3 rfl rfl rfl rfl rfl rfl rfl ⟨rfl, rfl, rfl, rfl, rfl⟩ rfl rfl rfl rfl rfl (by kernel_rfl) Tryd.func3 (by kernel_rfl)
    (of_decide_eq_true (by kernel_rfl)) (by unfold Func.isWrapper; first | (rw [if_pos (by decide +kernel)]; kernel_rfl) | (rw [if_neg (by decide +kernel)]; exact ⟨rfl, rfl⟩))
    (fun os started H enc _ => lifted os started H enc)
theorem card : Rows.FnExactCpuTextCardSaid :=
  Claim7.holds_tied_plain_at .later [] [.data, .data, .data] true (true, "b837e0904ac9c62504d54ffc7141269ec5d5081963e7ebd72b10a9e01d28d14a") false
    over (fun _ h => by cases h) (by kernel_rfl) (fun _ h => by cases h) fnExactCpuText_row_tie rfl ⟨rfl, rfl⟩ (by kernel_rfl) rfl
    (fun f fn hf hfn => by
      obtain rfl : f = 3 := Option.some.inj ((show Tryd.prog.funcNamed "loop.example/g00231/laws.FnExactCpuText" = some 3 by kernel_rfl).symm.trans hf) |>.symm
      obtain rfl : fn = Tryd.f3 := (Option.some.inj (Tryd.func3.symm.trans hfn)).symm
      exact ⟨by kernel_rfl, fun j t ht => by
        rw [Tryd.params3] at ht
        rcases j with _ | j
        · obtain rfl : t = 23 := by simpa using ht.symm
          exact (show Tryd.prog.wantsStandIn 23 = false by kernel_rfl)
        · simp at ht⟩)
    (by kernel_rfl)
end Go.Proofs.YtoefmpolfenkoaaDoor.fnExactCpuText
namespace Go.Proofs.YtoefmpolfenkoaaDoor
theorem fnExactCpuText_holds : Rows.FnExactCpuTextCardSaid := fnExactCpuText.card
end Go.Proofs.YtoefmpolfenkoaaDoor
