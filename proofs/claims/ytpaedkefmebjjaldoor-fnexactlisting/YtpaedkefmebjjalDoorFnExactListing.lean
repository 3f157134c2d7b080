/- At every slice of integers that is not too long and all integers of 64 bits Listing of the program answers as Listing of the specification and turns nothing of its argument, with the tables as the text of the program and of the library lays them. -/
import Derived.Test.YtpaedkefmebjjalDoorRows
import Derived.Test.YtpaedkefmebjjalDoorE2
import Derived.Test.YtpaedkefmebjjalDoorO
import Derived.Test.YtpaedkefmebjjalDoorL5
import Derived.Test.YtpaedkefmebjjalDoorCards
import Derived.Test.YtpaedkefmebjjalDoorTie
import Derived.ChangeSame
import Derived.ChangeVars
import Derived.JoinedOf
import Derived.RowKit
import Derived.RowKitTokens
import Derived.LaidLaws
import Derived.LaidHandle
import Derived.Stop.Joined
import Derived.SevenTiedAt
import Derived.OpenVars
import Derived.WalkKit
import Derived.ProofKit
import Derived.OpenShut
import Derived.ShutString
import Derived.ChangeOld
import Derived.Below
import Derived.Deep.RegionWith
namespace Go.Proofs.YtpaedkefmebjjalDoor.fnExactListing
open Go.ChangeShapes Go.WideShapes Go.ChangeAt Go.RowKit
open Go.ChangeMaps (open_string shut_string)
set_option linter.unusedVariables false
theorem own : ownKnob Tryd.prog.godebug = none := by kernel_rfl
theorem laidOut : laidOutB Tryd.prog = true := by kernel_rfl
set_option maxHeartbeats 1000000 in
theorem walk (s0 : Option Addr) (n0 c0 : Nat) (f0 : Nat → Int) (a1 : Int) (a2 : Int) (w : World) (w0 : n0 ≤ 9223372036854775807 ∧ RowOf .i64 w s0 n0 f0 ∧ ∀ i, i < n0 → (Lit.int .i64 (f0 i)).wf = true) (w1 : (Lit.int .i64 a1).wf = true) (w2 : (Lit.int .i64 a2).wf = true) (hp : Lib.TabIs Tryd.prog w "internal/strconv.uint64pow10" .u64 Lib.pow10Tab) (hd0 : ∀ i v, leafAt Tryd.prog 4 72 Rows.laid_math_bits_deBruijn32tab i = some v → w.cell? ⟨2, i, none⟩ = some v) (hd1 : ∀ i v, leafAt Tryd.prog 4 73 Rows.laid_math_bits_deBruijn64tab i = some v → w.cell? ⟨3, i, none⟩ = some v) (hd2 : ∀ i v, leafAt Tryd.prog 4 66 Rows.laid_internal_strconv_uint64pow10 i = some v → w.cell? ⟨1, i, none⟩ = some v) (hd3 : ∀ i v, leafAt Tryd.prog 4 56 Rows.laid_loop_example_g00231_impl_opRows i = some v → w.cell? ⟨0, i, none⟩ = some v) :
    Calls Tryd.prog 3 #[.slice s0 n0 c0, .int .i64 a1, .int .i64 a2] w fun e w' => e = .returned (.bool true) ∧ Below w.heap.size w w' := by
  have hT := opTab_of hd3
  obtain ⟨hn0, R0, hf0⟩ := w0
  by_cases hbig : (1048576 : Int) < (n0 : Int)
  · go_enter Tryd.func3, Tryd.ntmps3
    go_wp2
    go_ret
    exact ⟨rfl, Below.refl _ _⟩
  · have hn : n0 ≤ 1048576 := by omega
    have HI : Ints .i64 w (fun _ _ => True) (.slice s0 n0 c0) n0 f0 := ⟨_, _, rfl, hn, R0, fun _ _ _ => trivial⟩
    go_enter Tryd.func3, Tryd.ntmps3
    go_wp2_with fail
    refine (toIntS _ _ _ n0 f0 HI).mono ?_
    rintro e w1 ⟨rfl, R1, s1, L1⟩
    clear s1
    go_wp2_with fail
    refine (specListing _ _ n0 n0 f0 a1 a2 (rowOf_of_rowIs R1) hn).mono ?_
    rintro e w2 ⟨⟨s, rfl, hs⟩, L2⟩
    have C2 := L1.trans (L2.mono L1.size)
    clear R1 L2 L1
    go_wp2_with fail
    refine (toIntS _ _ _ n0 f0 (HI.keep (wrote_below C2 Nowhere) (fun _ _ _ x => x))).mono ?_
    rintro e w3 ⟨rfl, R3, s3, L3⟩
    have C3 := C2.trans (L3.mono C2.size)
    have RR := rowOf_of_rowIs R3
    clear s3 R3
    go_wp2_with fail
    refine (implListing _ _ n0 n0 f0 a1 a2 RR hn (hT.mono C3) (Pow.mono hp C3)).mono ?_
    rintro e w4 ⟨⟨g, rfl, hg⟩, L4⟩
    have C4 := C3.trans (L4.mono C3.size)
    have hq : (!g.toList == s.toList) = false := by rw [ByteArray.toList_eq, ByteArray.toList_eq, hs, hg]; simp
    have R4 := RR.keep (wrote_below L4 Nowhere) (fun _ _ _ x => x)
    generalize w2.heap.size = B at *
    clear L4 hs hg RR L3
    go_wp2_with fail
    refine (toIntS _ _ _ n0 f0 (HI.keep (wrote_below C4 Nowhere) (fun _ _ _ x => x))).mono ?_
    rintro e w5 ⟨rfl, R5, s5, L5⟩
    have C5 := C4.trans (L5.mono C4.size)
    have R4' := R4.keep (wrote_below L5 Nowhere) (fun _ _ _ x => x)
    clear s5 R4
    go_wp2_with fail
    refine (eqIntS _ (fun _ _ => True) (fun _ _ => True) _ _ n0 n0 f0 f0 ⟨_, _, rfl, hn, R4', fun _ _ _ => trivial⟩ ⟨_, _, rfl, hn, rowOf_of_rowIs R5, fun _ _ _ => trivial⟩).mono ?_
    rintro e w6 ⟨rfl, d6, rfl⟩
    rw [eqInts_refl]
    go_wp2
    go_ret
    exact ⟨rfl, C5.trans ⟨rfl, rfl, rfl, Nat.le_refl _, fun _ _ => rfl⟩⟩
theorem data_of_laid {W : World} (h : laidMetH Tryd.prog Rows.fnExactListingRow.laid W) : laidMet Tryd.prog [("math/bits.deBruijn32tab", Rows.laid_math_bits_deBruijn32tab), ("math/bits.deBruijn64tab", Rows.laid_math_bits_deBruijn64tab), ("internal/strconv.uint64pow10", Rows.laid_internal_strconv_uint64pow10), ("loop.example/g00231/impl.opRows", Rows.laid_loop_example_g00231_impl_opRows)] W := h
noncomputable def laidWorld (os : Os) : World :=
  let w0 := World.holding Tryd.prog os ⟨#[], #[], []⟩
  let w0 := { w0 with heap := w0.heap.modify 2 fun
      | .cells _ t frozen => .cells (flatD 6 Rows.laid_math_bits_deBruijn32tab).toArray t frozen
      | o => o }
  let w0 := { w0 with heap := w0.heap.modify 3 fun
      | .cells _ t frozen => .cells (flatD 6 Rows.laid_math_bits_deBruijn64tab).toArray t frozen
      | o => o }
  let w0 := { w0 with heap := w0.heap.modify 1 fun
      | .cells _ t frozen => .cells (flatD 6 Rows.laid_internal_strconv_uint64pow10).toArray t frozen
      | o => o }
  let w0 := { w0 with heap := w0.heap.modify 0 fun
      | .cells _ t frozen => .cells (flatD 6 Rows.laid_loop_example_g00231_impl_opRows).toArray t frozen
      | o => o }
  w0
set_option maxRecDepth 100000 in
theorem laidWorld_met (os : Os) (args : Array Value) : laidMetH Tryd.prog Rows.fnExactListingRow.laid ((laidWorld os).forCall (fun _ _ => 0) ⟨#[], args, []⟩).memory :=
  laidMetH_of_parts (laidMet_of_run' 8 (by kernel_rfl) (by kernel_rfl)) (by kernel_rfl)
set_option maxRecDepth 100000 in
theorem lifted (os : Os) (started : os.Started) (H : Type) (enc : TypeId × Value → H) :
    ReturnsInHanded {} Tryd.checked os 3 .any (fun w args => (Rows.fnExactListingSpec.pre enc Tryd.prog Tryd.f3 [] false w args ∧ laidMetH Tryd.prog Rows.fnExactListingRow.laid w) ∧ sizedMet enc Tryd.prog Tryd.f3 (OpenSpec.ofChange Rows.fnExactListingSpec) false w args)
      (Rows.fnExactListingSpec.post enc Tryd.prog Tryd.f3 false true false false) := by
  refine returnsInHanded_of_change_and (C := Tryd.checked) (X := fun w _ => laidMetH Tryd.prog Rows.fnExactListingRow.laid w) (fun _ _ _ hh h => h.of_heap hh) own started (by kernel_rfl) Tryd.func3
    (ChangeSpec.witness_at (enc := enc) (C := Tryd.checked) (os := os) (X := fun w _ => laidMetH Tryd.prog Rows.fnExactListingRow.laid w) false (laidWorld os) #[.slice none 0 0, .int .i64 0, .int .i64 0] 8 rfl (by kernel_rfl) (by kernel_rfl) (by kernel_rfl) (by kernel_rfl) (by kernel_rfl) (laidWorld_met os _)) ?_
  intro W base args ds gs before hval0 hW _ _ hL _
  have hp := tabIs_mem (name := "internal/strconv.uint64pow10") (g := 1) (t := 66) (by kernel_rfl) (by kernel_rfl) Tryd.underlying66 Tryd.underlying60 (by kernel_rfl) (by kernel_rfl) (k := .u64) (zs := Lib.pow10Tab) (d := Rows.laid_internal_strconv_uint64pow10) (by rfl) (by simp) (data_of_laid hL)
  have hd0 := laid_cell_mem (t := 72) (show Tryd.prog.globalNamed "math/bits.deBruijn32tab" = some 2 by kernel_rfl) (by kernel_rfl) (d := Rows.laid_math_bits_deBruijn32tab) (by simp) (data_of_laid hL) 4
  have hd1 := laid_cell_mem (t := 73) (show Tryd.prog.globalNamed "math/bits.deBruijn64tab" = some 3 by kernel_rfl) (by kernel_rfl) (d := Rows.laid_math_bits_deBruijn64tab) (by simp) (data_of_laid hL) 4
  have hd2 := laid_cell_mem (t := 66) (show Tryd.prog.globalNamed "internal/strconv.uint64pow10" = some 1 by kernel_rfl) (by kernel_rfl) (d := Rows.laid_internal_strconv_uint64pow10) (by simp) (data_of_laid hL) 4
  have hd3 := laid_cell_mem (t := 56) (show Tryd.prog.globalNamed "loop.example/g00231/impl.opRows" = some 0 by kernel_rfl) (by kernel_rfl) (d := Rows.laid_loop_example_g00231_impl_opRows) (by simp) (data_of_laid hL) 4
  have hval : ∀ (j : Nat) t v, Tryd.f3.params[j]? = some t → args[j]? = some v → Value.okWide Tryd.prog W .any base t v := hval0
  have hW' := hW
  obtain ⟨p, q, hA0, hV, rfl, hfz, hnd⟩ := hW
  have hA : DataW.TrodAll enc Tryd.prog W 0 (fun _ => true) true Tryd.f3.params.toList args.toList ds p := hA0
  rw [Tryd.params3] at hA hval
  obtain ⟨v0, vs0, d0, ds0, p0, q0, hargs, rfl, rfl, h0, r0⟩ := trodAll_cons hA
  obtain ⟨v1, vs1, d1, ds1, p1, q1, rfl, rfl, rfl, h1, r1⟩ := trodAll_cons r0
  obtain ⟨v2, vs2, d2, ds2, p2, q2, rfl, rfl, rfl, h2, r2⟩ := trodAll_cons r1
  obtain ⟨rfl, rfl, rfl⟩ := trodAll_nil r2
  obtain rfl : args = #[v0, v1, v2] := by cases args; simp_all
  have hV0 : DataW.TrodVars enc Tryd.prog W (fun _ => true) ["loop.example/g00231/impl.opRows"] gs q := hV
  obtain ⟨g0, gs0, qv0, rfl, hV1⟩ := trodVars_cons hV0
  obtain rfl := trodVars_nil hV1
  have k0 := h0
  have lt0 : ∀ x ∈ p0, x.block < W.heap.size := by obtain ⟨m, hm⟩ := k0; exact DataW.trod_lt m _ _ _ hm
  have k1 := h1
  have lt1 : ∀ x ∈ p1, x.block < W.heap.size := by obtain ⟨m, hm⟩ := k1; exact DataW.trod_lt m _ _ _ hm
  have k2 := h2
  have lt2 : ∀ x ∈ p2, x.block < W.heap.size := by obtain ⟨m, hm⟩ := k2; exact DataW.trod_lt m _ _ _ hm
  obtain ⟨s0, n0, c0, rfl⟩ := okWide_slice Tryd.underlying22 (hval 0 22 v0 rfl rfl)
  obtain ⟨f0, w0⟩ := openInts (k := .i64) Tryd.underlying22 Tryd.underlying3 (by kernel_rfl) h0
  obtain ⟨a1, rfl, rfl, rfl, w1⟩ := open_int Tryd.underlying3 (hval 1 3 v1 rfl rfl) h1
  obtain ⟨a2, rfl, rfl, rfl, w2⟩ := open_int Tryd.underlying3 (hval 2 3 v2 rfl rfl) h2
  clear hA0 hval0
  refine (walk s0 n0 c0 f0 a1 a2 W w0 w1 w2 hp hd0 hd1 hd2 hd3).mono fun e W' ⟨he, bel⟩ => ?_
  subst he
  exact ⟨_, rfl, _, _, _, [], _, _, hW', trodAll_mk1 (shut_bool Tryd.underlying4 _), (trodAll_cons_mk (Below.trod laidOut (by kernel_rfl) (of_decide_eq_true (by kernel_rfl)) k0 bel lt0) (trodAll_cons_mk (Below.trod laidOut (by kernel_rfl) (of_decide_eq_true (by kernel_rfl)) k1 bel lt1) (trodAll_cons_mk (Below.trod laidOut (by kernel_rfl) (of_decide_eq_true (by kernel_rfl)) k2 bel lt2) trodAll_mk0))), Below.trodVars laidOut bel (by kernel_rfl) hV, bel.frame _, fun h => by cases h⟩
theorem over : Rows.fnExactListingRow.holds Tryd.pinned (OpenSpec.ofChange Rows.fnExactListingSpec) :=
  OpenClaim.holds_of_wide 3 Tryd.f3 rfl rfl rfl rfl rfl rfl rfl ⟨rfl, rfl, rfl, rfl, rfl⟩ rfl rfl rfl rfl rfl (by kernel_rfl) Tryd.func3 (by kernel_rfl)
    (of_decide_eq_true (by kernel_rfl)) (by unfold Func.isWrapper; first | (rw [if_pos (by decide +kernel)]; kernel_rfl) | (rw [if_neg (by decide +kernel)]; exact ⟨rfl, rfl⟩))
    (fun os started H enc _ => lifted os started H enc)
theorem card : Rows.FnExactListingCardSaid :=
  Claim7.holds_tied_plain_at .later [] [.data, .data, .data, .data] true (true, "de5d016ece9db29103d1d3e42913e4c7df5b35aeaeaf903332dad4394a687850") false
    over (fun _ h => by cases h) (by kernel_rfl) (fun _ h => by cases h) fnExactListing_row_tie rfl ⟨rfl, rfl⟩ (by kernel_rfl) rfl
    (fun f fn hf hfn => by
      obtain rfl : f = 3 := Option.some.inj ((show Tryd.prog.funcNamed "loop.example/g00231/laws.FnExactListing" = some 3 by kernel_rfl).symm.trans hf) |>.symm
      obtain rfl : fn = Tryd.f3 := (Option.some.inj (Tryd.func3.symm.trans hfn)).symm
      exact ⟨by kernel_rfl, fun j t ht => by
        rw [Tryd.params3] at ht
        rcases j with _ | _ | _ | j
        · obtain rfl : t = 22 := by simpa using ht.symm
          exact (show Tryd.prog.wantsStandIn 22 = false by kernel_rfl)
        · obtain rfl : t = 3 := by simpa using ht.symm
          exact (show Tryd.prog.wantsStandIn 3 = false by kernel_rfl)
        · obtain rfl : t = 3 := by simpa using ht.symm
          exact (show Tryd.prog.wantsStandIn 3 = false by kernel_rfl)
        · simp at ht⟩)
    (by kernel_rfl)
end Go.Proofs.YtpaedkefmebjjalDoor.fnExactListing
namespace Go.Proofs.YtpaedkefmebjjalDoor
theorem fnExactListing_holds : Rows.FnExactListingCardSaid := fnExactListing.card
end Go.Proofs.YtpaedkefmebjjalDoor
