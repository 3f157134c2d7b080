/- At every op with its number and every processor Access of the program answers as Access of the specification, with the program's table of ops as its own text lays it. -/
import Derived.Test.YtpaedkefmebjjanDoorRows
import Derived.Test.YtpaedkefmebjjanDoorO
import Derived.Test.YtpaedkefmebjjanDoorCB
import Derived.Test.YtpaedkefmebjjanDoorI7
import Derived.Test.YtpaedkefmebjjanDoorCards
import Derived.Test.YtpaedkefmebjjanDoorTie
import Derived.ChangeSame
import Derived.ChangeVars
import Derived.JoinedOf
import Derived.RowKit
import Derived.RowKitTokens
import Derived.LaidLaws
import Derived.LaidHandle
import Derived.Stop.Joined
import Derived.SevenTiedAt
import Derived.OpenVars
import Derived.WalkKit
import Derived.ProofKit
import Derived.OpenShut
import Derived.ShutString
import Derived.ChangeOld
import Derived.Below
import Derived.Deep.RegionWith
namespace Go.Proofs.YtpaedkefmebjjanDoor.fnExactAccess
open Go.ChangeShapes Go.WideShapes Go.ChangeAt Go.RowKit
open Go.ChangeMaps (open_string shut_string)
set_option linter.unusedVariables false
theorem own : ownKnob Tryd.prog.godebug = none := by kernel_rfl
theorem laidOut : laidOutB Tryd.prog = true := by kernel_rfl
set_option maxRecDepth 20000
set_option maxHeartbeats 4000000 in
theorem walk (a0Op : Int) (a0Arg : Int) (a1A : Int) (a1X : Int) (a1S : Int) (a1Pc : Int) (a1Z : Bool) (a1N : Bool) (a1C : Bool) (a1I : Bool) (w : World) (w0Op : (Lit.int .i64 a0Op).wf = true) (w0Arg : (Lit.int .i64 a0Arg).wf = true) (w1A : (Lit.int .i64 a1A).wf = true) (w1X : (Lit.int .i64 a1X).wf = true) (w1S : (Lit.int .i64 a1S).wf = true) (w1Pc : (Lit.int .i64 a1Pc).wf = true) (hd0 : ∀ i v, leafAt Tryd.prog 4 114 Rows.laid_loop_example_g00231_impl_opRows i = some v → w.cell? ⟨0, i, none⟩ = some v) :
    Calls Tryd.prog 4 #[.agg #[.int .i64 a0Op, .int .i64 a0Arg], .agg #[.int .i64 a1A, .int .i64 a1X, .int .i64 a1S, .int .i64 a1Pc, .bool a1Z, .bool a1N, .bool a1C, .bool a1I]] w fun e w' => e = .returned (.bool true) ∧ Below w.heap.size w w' := by
  have hT := opTab_of hd0
  clear hd0
  have C0 : Below w.heap.size w ((w.alloc (.cells #[.int .i64 a0Op, .int .i64 a0Arg] 41)).alloc (.cells #[.int .i64 a1A, .int .i64 a1X, .int .i64 a1S, .int .i64 a1Pc, .bool a1Z, .bool a1N, .bool a1C, .bool a1I] 43)) := ((Below.refl _ _).alloc (Nat.le_refl _) _).alloc (by simp) _
  have k0 : ((w.alloc (.cells #[.int .i64 a0Op, .int .i64 a0Arg] 41)).alloc (.cells #[.int .i64 a1A, .int .i64 a1X, .int .i64 a1S, .int .i64 a1Pc, .bool a1Z, .bool a1N, .bool a1C, .bool a1I] 43)).heap[w.heap.size]? = some (.cells #[.int .i64 a0Op, .int .i64 a0Arg] 41 (0, 0)) := boxA (box_new w _ _) _
  have k1 : ((w.alloc (.cells #[.int .i64 a0Op, .int .i64 a0Arg] 41)).alloc (.cells #[.int .i64 a1A, .int .i64 a1X, .int .i64 a1S, .int .i64 a1Pc, .bool a1Z, .bool a1N, .bool a1C, .bool a1I] 43)).heap[w.heap.size + 1]? = some (.cells #[.int .i64 a1A, .int .i64 a1X, .int .i64 a1S, .int .i64 a1Pc, .bool a1Z, .bool a1N, .bool a1C, .bool a1I] 43 (0, 0)) := by simpa using box_new (w.alloc (.cells #[.int .i64 a0Op, .int .i64 a0Arg] 41)) #[.int .i64 a1A, .int .i64 a1X, .int .i64 a1S, .int .i64 a1Pc, .bool a1Z, .bool a1N, .bool a1C, .bool a1I] 43
  go_enter Tryd.func4, Tryd.ntmps4
  go_wp2_with fail
  generalize ((w.alloc (.cells #[.int .i64 a0Op, .int .i64 a0Arg] 41)).alloc (.cells #[.int .i64 a1A, .int .i64 a1X, .int .i64 a1S, .int .i64 a1Pc, .bool a1Z, .bool a1N, .bool a1C, .bool a1I] 43)) = W0 at *
  have c0 := boxC k0
  have c1 := boxC k1
  go_cut [5, 6, 7] (fun s5 s6 s7 WX => s5 = .int .i64 (accOf a0Op) ∧ s6 = .int .i64 (accAt a0Op a0Arg a1X) ∧ s7 = .int .i64 (accV a0Op a1A) ∧ Below W0.heap.size W0 WX)
  case first =>
    go_region_held3 (fun w' => (∀ j, w'.cell? ⟨w.heap.size, j, none⟩ = #[.int .i64 a0Op, .int .i64 a0Arg][j]?) ∧ (∀ j, w'.cell? ⟨w.heap.size + 1, j, none⟩ = #[.int .i64 a1A, .int .i64 a1X, .int .i64 a1S, .int .i64 a1Pc, .bool a1Z, .bool a1N, .bool a1C, .bool a1I][j]?)) (first | (with_reducible assumption) | (refine ⟨?_, ?_⟩ <;> with_reducible assumption) | go_keep) (first
      | (go_at_call 16; refine (toInstr _ a0Op a0Arg).mono ?_; rintro e Y1 ⟨rfl, N1⟩; have M1 : Below W0.heap.size W0 Y1 := Below.trans (⟨rfl, rfl, rfl, Nat.le_refl _, fun _ _ => rfl⟩ : Below W0.heap.size W0 W0.drew) N1; have d1 := boxC (box_keep k0 M1 (boxLt k0)); have d2 := boxC (box_keep k1 M1 (boxLt k1)))
      | (go_at_call 17; refine (toCpu _ a1A a1X a1S a1Pc a1Z a1N a1C a1I).mono ?_; rintro e Y2 ⟨rfl, N2⟩; have M2 := below_snoc M1 N2; have e1 := boxC (box_keep k0 M2 (boxLt k0)); have e2 := boxC (box_keep k1 M2 (boxLt k1)))
      | (go_at_call 15; refine (specAccess _ a0Op a0Arg a1A a1X a1S a1Pc a1Z a1N a1C a1I).mono ?_; rintro e Y3 ⟨rfl, N3⟩; have M3 := below_snoc M2 N3; have f1 := boxC (box_keep k0 M3 (boxLt k0)); have f2 := boxC (box_keep k1 M3 (boxLt k1))))
    all_goals
      go_wp2_with fail
      go_meet
      exact ⟨rfl, rfl, rfl, M3⟩
  case rest =>
  obtain ⟨rfl, rfl, rfl, LX⟩ := hcut
  obtain ⟨T1, hT1⟩ : ∃ x, x = wc := ⟨_, rfl⟩
  subst hT1
  replace C0 := below_snoc C0 LX
  replace k0 := box_keep k0 LX (boxLt k0)
  replace k1 := box_keep k1 LX (boxLt k1)
  clear c0 c1 LX
  have c0 := boxC k0
  have c1 := boxC k1
  go_upto_region 2 with (fail)
  go_cut [8, 9, 10] (fun s8 s9 s10 WX => s8 = .int .i64 (accOf a0Op) ∧ s9 = .int .i64 (accAt a0Op a0Arg a1X) ∧ s10 = .int .i64 (accV a0Op a1A) ∧ Below T1.heap.size T1 WX)
  case first =>
    go_region_held3 (fun w' => (∀ j, w'.cell? ⟨w.heap.size, j, none⟩ = #[.int .i64 a0Op, .int .i64 a0Arg][j]?) ∧ (∀ j, w'.cell? ⟨w.heap.size + 1, j, none⟩ = #[.int .i64 a1A, .int .i64 a1X, .int .i64 a1S, .int .i64 a1Pc, .bool a1Z, .bool a1N, .bool a1C, .bool a1I][j]?)) (first | (with_reducible assumption) | (refine ⟨?_, ?_⟩ <;> with_reducible assumption) | go_keep) (first
      | (go_at_call 16; refine (toInstr _ a0Op a0Arg).mono ?_; rintro e Y1 ⟨rfl, N1⟩; have M1 : Below T1.heap.size T1 Y1 := Below.trans (⟨rfl, rfl, rfl, Nat.le_refl _, fun _ _ => rfl⟩ : Below T1.heap.size T1 T1.drew) N1; have d1 := boxC (box_keep k0 M1 (boxLt k0)); have d2 := boxC (box_keep k1 M1 (boxLt k1)))
      | (go_at_call 17; refine (toCpu _ a1A a1X a1S a1Pc a1Z a1N a1C a1I).mono ?_; rintro e Y2 ⟨rfl, N2⟩; have M2 := below_snoc M1 N2; have e1 := boxC (box_keep k0 M2 (boxLt k0)); have e2 := boxC (box_keep k1 M2 (boxLt k1)))
      | (go_at_call 18; refine (implAccess _ a0Op a0Arg a1A a1X a1S a1Pc a1Z a1N a1C a1I (hT.mono (below_snoc C0 M2))).mono ?_; rintro e Y3 ⟨rfl, N3⟩; have M3 := below_snoc M2 N3; have f1 := boxC (box_keep k0 M3 (boxLt k0)); have f2 := boxC (box_keep k1 M3 (boxLt k1))))
    all_goals
      go_wp2_with fail
      go_meet
      exact ⟨rfl, rfl, rfl, M3⟩
  case rest =>
  obtain ⟨rfl, rfl, rfl, LX⟩ := hcut
  obtain ⟨T2, hT2⟩ : ∃ x, x = wc := ⟨_, rfl⟩
  subst hT2
  replace C0 := below_snoc C0 LX
  replace k0 := box_keep k0 LX (boxLt k0)
  replace k1 := box_keep k1 LX (boxLt k1)
  clear c0 c1 LX
  go_wp2
  go_ret
  exact ⟨rfl, C0⟩
theorem data_of_laid {W : World} (h : laidMetH Tryd.prog Rows.fnExactAccessRow.laid W) : laidMet Tryd.prog [("loop.example/g00231/impl.opRows", Rows.laid_loop_example_g00231_impl_opRows)] W := h
noncomputable def laidWorld (os : Os) : World :=
  let w0 := World.holding Tryd.prog os ⟨#[], #[], []⟩
  let w0 := { w0 with heap := w0.heap.modify 0 fun
      | .cells _ t frozen => .cells (flatD 6 Rows.laid_loop_example_g00231_impl_opRows).toArray t frozen
      | o => o }
  w0
set_option maxRecDepth 100000 in
theorem laidWorld_met (os : Os) (args : Array Value) : laidMetH Tryd.prog Rows.fnExactAccessRow.laid ((laidWorld os).forCall (fun _ _ => 0) ⟨#[], args, []⟩).memory :=
  laidMetH_of_parts (laidMet_of_run' 8 (by kernel_rfl) (by kernel_rfl)) (by kernel_rfl)
set_option maxRecDepth 100000 in
theorem lifted (os : Os) (started : os.Started) (H : Type) (enc : TypeId × Value → H) :
    ReturnsInHanded {} Tryd.checked os 4 .any (fun w args => (Rows.fnExactAccessSpec.pre enc Tryd.prog Tryd.f4 [] false w args ∧ laidMetH Tryd.prog Rows.fnExactAccessRow.laid w) ∧ sizedMet enc Tryd.prog Tryd.f4 (OpenSpec.ofChange Rows.fnExactAccessSpec) false w args)
      (Rows.fnExactAccessSpec.post enc Tryd.prog Tryd.f4 false true false false) := by
  refine returnsInHanded_of_change_and (C := Tryd.checked) (X := fun w _ => laidMetH Tryd.prog Rows.fnExactAccessRow.laid w) (fun _ _ _ hh h => h.of_heap hh) own started (by kernel_rfl) Tryd.func4
    (ChangeSpec.witness_at (enc := enc) (C := Tryd.checked) (os := os) (X := fun w _ => laidMetH Tryd.prog Rows.fnExactAccessRow.laid w) false (laidWorld os) #[.agg #[.int .i64 0, .int .i64 0], .agg #[.int .i64 0, .int .i64 0, .int .i64 0, .int .i64 0, .bool false, .bool false, .bool false, .bool false]] 8 rfl (by kernel_rfl) (by kernel_rfl) (by kernel_rfl) (by kernel_rfl) (by kernel_rfl) (laidWorld_met os _)) ?_
  intro W base args ds gs before hval0 hW _ _ hL _
  have hd0 := laid_cell_mem (t := 114) (show Tryd.prog.globalNamed "loop.example/g00231/impl.opRows" = some 0 by kernel_rfl) (by kernel_rfl) (d := Rows.laid_loop_example_g00231_impl_opRows) (by simp) (data_of_laid hL) 4
  have hval : ∀ (j : Nat) t v, Tryd.f4.params[j]? = some t → args[j]? = some v → Value.okWide Tryd.prog W .any base t v := hval0
  have hW' := hW
  obtain ⟨p, q, hA0, hV, rfl, hfz, hnd⟩ := hW
  have hA : DataW.TrodAll enc Tryd.prog W 0 (fun _ => true) true Tryd.f4.params.toList args.toList ds p := hA0
  rw [Tryd.params4] at hA hval
  obtain ⟨v0, vs0, d0, ds0, p0, q0, hargs, rfl, rfl, h0, r0⟩ := trodAll_cons hA
  obtain ⟨v1, vs1, d1, ds1, p1, q1, rfl, rfl, rfl, h1, r1⟩ := trodAll_cons r0
  obtain ⟨rfl, rfl, rfl⟩ := trodAll_nil r1
  obtain rfl : args = #[v0, v1] := by cases args; simp_all
  have hV0 : DataW.TrodVars enc Tryd.prog W (fun _ => true) ["loop.example/g00231/impl.opRows"] gs q := hV
  obtain ⟨g0, gs0, qv0, rfl, hV1⟩ := trodVars_cons hV0
  obtain rfl := trodVars_nil hV1
  have k0 := h0
  have lt0 : ∀ x ∈ p0, x.block < W.heap.size := by obtain ⟨m, hm⟩ := k0; exact DataW.trod_lt m _ _ _ hm
  have k1 := h1
  have lt1 : ∀ x ∈ p1, x.block < W.heap.size := by obtain ⟨m, hm⟩ := k1; exact DataW.trod_lt m _ _ _ hm
  obtain ⟨a0Op, a0Arg, rfl, w0Op, w0Arg⟩ := open_Instr (hval 0 41 v0 rfl rfl) h0
  obtain ⟨a1A, a1X, a1S, a1Pc, a1Z, a1N, a1C, a1I, rfl, w1A, w1X, w1S, w1Pc⟩ := open_Cpu (hval 1 43 v1 rfl rfl) h1
  clear hA0 hval0
  refine (walk a0Op a0Arg a1A a1X a1S a1Pc a1Z a1N a1C a1I W w0Op w0Arg w1A w1X w1S w1Pc hd0).mono fun e W' ⟨he, bel⟩ => ?_
  subst he
  exact ⟨_, rfl, _, _, _, [], _, _, hW', trodAll_mk1 (shut_bool Tryd.underlying4 _), (trodAll_cons_mk (Below.trod laidOut (by kernel_rfl) (of_decide_eq_true (by kernel_rfl)) k0 bel lt0) (trodAll_cons_mk (Below.trod laidOut (by kernel_rfl) (of_decide_eq_true (by kernel_rfl)) k1 bel lt1) trodAll_mk0)), Below.trodVars laidOut bel (by kernel_rfl) hV, bel.frame _, fun h => by cases h⟩
theorem over : Rows.fnExactAccessRow.holds Tryd.pinned (OpenSpec.ofChange Rows.fnExactAccessSpec) :=
  OpenClaim.holds_of_wide 4 Tryd.f4 rfl rfl rfl rfl rfl rfl rfl ⟨rfl, rfl, rfl, rfl, rfl⟩ rfl rfl rfl rfl rfl (by kernel_rfl) Tryd.func4 (by kernel_rfl)
    (of_decide_eq_true (by kernel_rfl)) (by unfold Func.isWrapper; first | (rw [if_pos (by decide +kernel)]; kernel_rfl) | (rw [if_neg (by decide +kernel)]; exact ⟨rfl, rfl⟩))
    (fun os started H enc _ => lifted os started H enc)
theorem card : Rows.FnExactAccessCardSaid :=
  Claim7.holds_tied_plain_at .later [] [.data] true (true, "0ac0ad466622566e6aca02c69a9535d1fe05565f2bc9f99f0dbd9f1a5dccb9ce") true
    over (fun _ h => by cases h) (by kernel_rfl) (fun _ h => by cases h) fnExactAccess_row_tie rfl ⟨rfl, rfl⟩ (by kernel_rfl) rfl
    (fun f fn hf hfn => by
      obtain rfl : f = 4 := Option.some.inj ((show Tryd.prog.funcNamed "loop.example/g00231/laws.FnExactAccess" = some 4 by kernel_rfl).symm.trans hf) |>.symm
      obtain rfl : fn = Tryd.f4 := (Option.some.inj (Tryd.func4.symm.trans hfn)).symm
      exact ⟨by kernel_rfl, fun j t ht => by
        rw [Tryd.params4] at ht
        rcases j with _ | _ | j
        · obtain rfl : t = 41 := by simpa using ht.symm
          exact (show Tryd.prog.wantsStandIn 41 = false by kernel_rfl)
        · obtain rfl : t = 43 := by simpa using ht.symm
          exact (show Tryd.prog.wantsStandIn 43 = false by kernel_rfl)
        · simp at ht⟩)
    (by kernel_rfl)
end Go.Proofs.YtpaedkefmebjjanDoor.fnExactAccess
namespace Go.Proofs.YtpaedkefmebjjanDoor
theorem fnExactAccess_holds : Rows.FnExactAccessCardSaid := fnExactAccess.card
end Go.Proofs.YtpaedkefmebjjanDoor
