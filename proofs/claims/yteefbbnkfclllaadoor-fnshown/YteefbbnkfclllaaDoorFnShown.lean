/- At every row of bytes: the picture that is drawn from them is read from its text as it was, a text that is read is that of the picture, and all texts are those of the specification, with the tables of the library as its text lays them. -/
import Derived.Test.YteefbbnkfclllaaDoorRows
import Derived.Test.YteefbbnkfclllaaDoorO
import Derived.Test.YteefbbnkfclllaaDoorT1
import Derived.Test.YteefbbnkfclllaaDoorXG
import Derived.Test.YteefbbnkfclllaaDoorCards
import Derived.Test.YteefbbnkfclllaaDoorTie
import Derived.ChangeSame
import Derived.ChangeVars
import Derived.JoinedOf
import Derived.RowKit
import Derived.RowKitTokens
import Derived.LaidLaws
import Derived.LaidHandle
import Derived.Stop.Joined
import Derived.SevenTiedAt
import Derived.OpenVars
import Derived.WalkKit
import Derived.ProofKit
import Derived.OpenShut
import Derived.ShutString
import Derived.ChangeOld
import Derived.Below
import Derived.Deep.RegionWith
namespace Go.Proofs.YteefbbnkfclllaaDoor.fnShown
open Go.ChangeShapes Go.WideShapes Go.ChangeAt Go.RowKit
open Go.ChangeMaps (open_string shut_string)
set_option linter.unusedVariables false
theorem own : ownKnob Tryd.prog.godebug = none := by kernel_rfl
theorem laidOut : laidOutB Tryd.prog = true := by kernel_rfl
set_option maxHeartbeats 2000000 in
theorem walk (s0 : Option Addr) (n0 c0 : Nat) (f0 : Nat → Int) (w : World) (w0 : n0 ≤ 9223372036854775807 ∧ RowOf .u8 w s0 n0 f0 ∧ ∀ i, i < n0 → (Lit.int .u8 (f0 i)).wf = true) (hp : Lib.TabIs Tryd.prog w "internal/strconv.uint64pow10" .u64 Lib.pow10Tab) (hd0 : ∀ i v, leafAt Tryd.prog 4 88 Rows.laid_math_bits_deBruijn32tab i = some v → w.cell? ⟨1, i, none⟩ = some v) (hd1 : ∀ i v, leafAt Tryd.prog 4 89 Rows.laid_math_bits_deBruijn64tab i = some v → w.cell? ⟨2, i, none⟩ = some v) (hd2 : ∀ i v, leafAt Tryd.prog 4 83 Rows.laid_internal_strconv_uint64pow10 i = some v → w.cell? ⟨0, i, none⟩ = some v) :
    Calls Tryd.prog 3 #[.slice s0 n0 c0] w fun e w' => e = .returned (.bool true) ∧ Below w.heap.size w w' := by
  obtain ⟨hn63, hrow, hwf⟩ := w0
  refine lawShown w s0 n0 c0 hp ?_
  by_cases hbig : (1048576 : Int) < (n0 : Int)
  · exact Or.inl hbig
  · have hn : n0 ≤ 1048576 := by omega
    have hby : ∀ i, i < n0 → 0 ≤ f0 i ∧ f0 i ≤ 255 := fun i hi => by
      have h : IntKind.u8.min ≤ f0 i ∧ f0 i ≤ IntKind.u8.max := by simpa [Lit.wf] using hwf i hi
      exact ⟨h.1, h.2⟩
    exact Or.inr ⟨hn, fun i hi => by
      obtain ⟨b, off, e, hc⟩ := hrow i hi
      exact ⟨b, off, e, block_lt_of_cell hc, f0 i, hc, (hby i hi).1, by have := (hby i hi).2; omega⟩⟩
theorem data_of_laid {W : World} (h : laidMetH Tryd.prog Rows.fnShownRow.laid W) : laidMet Tryd.prog [("math/bits.deBruijn32tab", Rows.laid_math_bits_deBruijn32tab), ("math/bits.deBruijn64tab", Rows.laid_math_bits_deBruijn64tab), ("internal/strconv.uint64pow10", Rows.laid_internal_strconv_uint64pow10)] W := h
noncomputable def laidWorld (os : Os) : World :=
  let w0 := World.holding Tryd.prog os ⟨#[], #[], []⟩
  let w0 := { w0 with heap := w0.heap.modify 1 fun
      | .cells _ t frozen => .cells (flatD 6 Rows.laid_math_bits_deBruijn32tab).toArray t frozen
      | o => o }
  let w0 := { w0 with heap := w0.heap.modify 2 fun
      | .cells _ t frozen => .cells (flatD 6 Rows.laid_math_bits_deBruijn64tab).toArray t frozen
      | o => o }
  let w0 := { w0 with heap := w0.heap.modify 0 fun
      | .cells _ t frozen => .cells (flatD 6 Rows.laid_internal_strconv_uint64pow10).toArray t frozen
      | o => o }
  w0
set_option maxRecDepth 100000 in
theorem laidWorld_met (os : Os) (args : Array Value) : laidMetH Tryd.prog Rows.fnShownRow.laid ((laidWorld os).forCall (fun _ _ => 0) ⟨#[], args, []⟩).memory :=
  laidMetH_of_parts (laidMet_of_run' 8 (by kernel_rfl) (by kernel_rfl)) (by kernel_rfl)
set_option maxRecDepth 100000 in
theorem lifted (os : Os) (started : os.Started) (H : Type) (enc : TypeId × Value → H) :
    ReturnsInHanded {} Tryd.checked os 3 .any (fun w args => (Rows.fnShownSpec.pre enc Tryd.prog Tryd.f3 [] false w args ∧ laidMetH Tryd.prog Rows.fnShownRow.laid w) ∧ sizedMet enc Tryd.prog Tryd.f3 (OpenSpec.ofChange Rows.fnShownSpec) false w args)
      (Rows.fnShownSpec.post enc Tryd.prog Tryd.f3 false true false false) := by
  refine returnsInHanded_of_change_and (C := Tryd.checked) (X := fun w _ => laidMetH Tryd.prog Rows.fnShownRow.laid w) (fun _ _ _ hh h => h.of_heap hh) own started (by kernel_rfl) Tryd.func3
    (ChangeSpec.witness_at (enc := enc) (C := Tryd.checked) (os := os) (X := fun w _ => laidMetH Tryd.prog Rows.fnShownRow.laid w) false (laidWorld os) #[.slice none 0 0] 8 rfl (by kernel_rfl) (by kernel_rfl) (by kernel_rfl) (by kernel_rfl) (by kernel_rfl) (laidWorld_met os _)) ?_
  intro W base args ds gs before hval0 hW _ _ hL _
  have hp := tabIs_mem (name := "internal/strconv.uint64pow10") (g := 0) (t := 83) (by kernel_rfl) (by kernel_rfl) Tryd.underlying83 Tryd.underlying77 (by kernel_rfl) (by kernel_rfl) (k := .u64) (zs := Lib.pow10Tab) (d := Rows.laid_internal_strconv_uint64pow10) (by rfl) (by simp) (data_of_laid hL)
  have hd0 := laid_cell_mem (t := 88) (show Tryd.prog.globalNamed "math/bits.deBruijn32tab" = some 1 by kernel_rfl) (by kernel_rfl) (d := Rows.laid_math_bits_deBruijn32tab) (by simp) (data_of_laid hL) 4
  have hd1 := laid_cell_mem (t := 89) (show Tryd.prog.globalNamed "math/bits.deBruijn64tab" = some 2 by kernel_rfl) (by kernel_rfl) (d := Rows.laid_math_bits_deBruijn64tab) (by simp) (data_of_laid hL) 4
  have hd2 := laid_cell_mem (t := 83) (show Tryd.prog.globalNamed "internal/strconv.uint64pow10" = some 0 by kernel_rfl) (by kernel_rfl) (d := Rows.laid_internal_strconv_uint64pow10) (by simp) (data_of_laid hL) 4
  have hval : ∀ (j : Nat) t v, Tryd.f3.params[j]? = some t → args[j]? = some v → Value.okWide Tryd.prog W .any base t v := hval0
  have hW' := hW
  obtain ⟨p, q, hA0, hV, rfl, hfz, hnd⟩ := hW
  have hA : DataW.TrodAll enc Tryd.prog W 0 (fun _ => true) true Tryd.f3.params.toList args.toList ds p := hA0
  rw [Tryd.params3] at hA hval
  obtain ⟨v0, vs0, d0, ds0, p0, q0, hargs, rfl, rfl, h0, r0⟩ := trodAll_cons hA
  obtain ⟨rfl, rfl, rfl⟩ := trodAll_nil r0
  obtain rfl : args = #[v0] := by cases args; simp_all
  obtain ⟨rfl, rfl⟩ := trodVars_none hV
  have k0 := h0
  have lt0 : ∀ x ∈ p0, x.block < W.heap.size := by obtain ⟨m, hm⟩ := k0; exact DataW.trod_lt m _ _ _ hm
  obtain ⟨s0, n0, c0, rfl⟩ := okWide_slice Tryd.underlying22 (hval 0 22 v0 rfl rfl)
  obtain ⟨f0, w0⟩ := openInts (k := .u8) Tryd.underlying22 Tryd.underlying5 (by kernel_rfl) h0
  clear hA0 hval0
  refine (walk s0 n0 c0 f0 W w0 hp hd0 hd1 hd2).mono fun e W' ⟨he, bel⟩ => ?_
  subst he
  exact ⟨_, rfl, _, _, _, [], _, [], hW', trodAll_mk1 (shut_bool Tryd.underlying4 _), (trodAll_cons_mk (Below.trod laidOut (by kernel_rfl) (of_decide_eq_true (by kernel_rfl)) k0 bel lt0) trodAll_mk0), rfl, bel.frame _, fun h => by cases h⟩
theorem over : Rows.fnShownRow.holds Tryd.pinned (OpenSpec.ofChange Rows.fnShownSpec) :=
  OpenClaim.holds_of_wide 3 Tryd.f3 rfl rfl rfl rfl rfl rfl rfl ⟨rfl, rfl, rfl, rfl, rfl⟩ rfl rfl rfl rfl rfl (by kernel_rfl) Tryd.func3 (by kernel_rfl)
    (of_decide_eq_true (by kernel_rfl)) (by unfold Func.isWrapper; first | (rw [if_pos (by decide +kernel)]; kernel_rfl) | (rw [if_neg (by decide +kernel)]; exact ⟨rfl, rfl⟩))
    (fun os started H enc _ => lifted os started H enc)
theorem card : Rows.FnShownCardSaid :=
  Claim7.holds_tied_plain_at .later [] [.data, .data, .data] true (true, "00c873ff5f3f80c253307ff22bd9f0538ecf311a7e6bcac9f387e5a64dd0c689") false
    over (fun _ h => by cases h) (by kernel_rfl) (fun _ h => by cases h) fnShown_row_tie rfl ⟨rfl, rfl⟩ (by kernel_rfl) rfl
    (fun f fn hf hfn => by
      obtain rfl : f = 3 := Option.some.inj ((show Tryd.prog.funcNamed "loop.example/g00231/laws.FnShown" = some 3 by kernel_rfl).symm.trans hf) |>.symm
      obtain rfl : fn = Tryd.f3 := (Option.some.inj (Tryd.func3.symm.trans hfn)).symm
      exact ⟨by kernel_rfl, fun j t ht => by
        rw [Tryd.params3] at ht
        rcases j with _ | j
        · obtain rfl : t = 22 := by simpa using ht.symm
          exact (show Tryd.prog.wantsStandIn 22 = false by kernel_rfl)
        · simp at ht⟩)
    (by kernel_rfl)
end Go.Proofs.YteefbbnkfclllaaDoor.fnShown
namespace Go.Proofs.YteefbbnkfclllaaDoor
theorem fnShown_holds : Rows.FnShownCardSaid := fnShown.card
end Go.Proofs.YteefbbnkfclllaaDoor
