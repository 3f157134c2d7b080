/- At every row of bytes: each address that is drawn from them has one region, its part lies within it, and those that lie so far apart as it repeats have the same. -/
import Derived.Test.YtpaedkefmebjjaeRows
import Derived.Test.YtpaedkefmebjjaeO
import Derived.Test.YtpaedkefmebjjaeY8
import Derived.Test.YtpaedkefmebjjaeI6c
import Derived.WalkKit
import Derived.ProofKit
import Derived.OpenShut
import Derived.ShutString
import Derived.ChangeOld
import Derived.Below
import Derived.Deep.RegionWith
namespace Go.Proofs.Ytpaedkefmebjjae.fnRegions
open Go.ChangeShapes Go.WideShapes Go.ChangeAt Go.RowKit
open Go.ChangeMaps (open_string shut_string)
set_option linter.unusedVariables false
theorem own : ownKnob Try.prog.godebug = none := by kernel_rfl
theorem laidOut : laidOutB Try.prog = true := by kernel_rfl
set_option maxRecDepth 40000
theorem own_ints {w : World} {lo : Nat} {v : Value} {n : Nat} {f : Nat → Int} (h : OwnInts w lo v n f) : Ints .i64 w (fun b _ => lo ≤ b) v n f := by
  obtain ⟨a, cap, rfl, hn, hr, hF, hL⟩ := h
  exact ⟨a, cap, rfl, hn, hr, fun b o h => hL b o h⟩
theorem rg_in (a : Int) (h0 : 0 ≤ a) (h1 : a < 65536) : 0 ≤ rgP a ∧ rgP a < 512 ∧ (rgN a = 5 → rgP a < 256) ∧ (rgN a = 6 → rgP a < 256) := by
  rcases rg_all a h0 h1 with ⟨_, hn, hp⟩ | ⟨_, _, hn, hp⟩ | ⟨_, _, hn, hp⟩ | ⟨_, hn, hp⟩ | ⟨_, _, _, hn, hp⟩ | ⟨_, _, hn, hp⟩ | ⟨_, hn, hp⟩ <;> rw [hn, hp] <;> omega
theorem far_same (x : Int) : wrap64 (x + 65536) % 65536 = x % 65536 := by
  unfold wrap64
  omega
set_option maxHeartbeats 8000000 in
theorem walk (s0 : Option Addr) (n0 c0 : Nat) (f0 : Nat → Int) (w : World) (w0 : n0 ≤ 9223372036854775807 ∧ RowOf .u8 w s0 n0 f0 ∧ ∀ i, i < n0 → (Lit.int .u8 (f0 i)).wf = true) :
    Calls Try.prog 5 #[.slice s0 n0 c0] w fun e w' => e = .returned (.bool true) ∧ Below w.heap.size w w' := by
  obtain ⟨hn63, hrow, hwf⟩ := w0
  by_cases hbig : (1048576 : Int) < (n0 : Int)
  · have hb' : decide ((1048576 : Int) < (n0 : Int)) = true := decide_eq_true hbig
    go_enter Try.func5, Try.ntmps5
    go_wp2_with fail
    refine (lawsBig _ s0 n0 c0).mono ?_
    rintro e w' ⟨rfl, rfl⟩
    rw [hb']
    go_wp2
    go_ret
    exact ⟨rfl, Below.refl _ _⟩
  · have hb' : decide ((1048576 : Int) < (n0 : Int)) = false := decide_eq_false hbig
    have hn : n0 ≤ 1048576 := by omega
    have hby : ∀ i, i < n0 → 0 ≤ f0 i ∧ f0 i ≤ 255 := fun i hi => by
      have h : IntKind.u8.min ≤ f0 i ∧ f0 i ≤ IntKind.u8.max := by simpa [Lit.wf] using hwf i hi
      exact ⟨h.1, h.2⟩
    have hcode : Code w w.heap.size s0 n0 := ⟨hn, fun i hi => by
      obtain ⟨b, off, e, hc⟩ := hrow i hi
      exact ⟨b, off, e, block_lt_of_cell hc, f0 i, hc, (hby i hi).1, by have := (hby i hi).2; omega⟩⟩
    clear hbig hwf hn63 hrow hby
    go_enter Try.func5, Try.ntmps5
    go_wp2_with fail
    refine (lawsBig _ s0 n0 c0).mono ?_
    rintro e w' ⟨rfl, rfl⟩
    rw [hb']
    clear hb'
    go_wp2_with fail
    refine (drawRegion _ w'.heap.size s0 n0 c0 (Nat.le_refl _) hcode).mono ?_
    rintro e w1 ⟨x, rfl, L1⟩
    have hfar := far_same x
    have HA := hide (fun W => implRegion W (wrap64 (x + 65536)))
    rw [hfar] at HA
    have q0 : 0 ≤ x % 65536 := by omega
    have q1 : x % 65536 < 65536 := by omega
    have HI := hide (rg_in _ q0 q1)
    have HC := hide (rgN_cases _ q0 q1)
    have HR := hide (fun W => implRegion W x)
    have HS := hide (fun W => specRegion W x)
    generalize rgN (x % 65536) = rn at *
    generalize rgP (x % 65536) = rp at *
    clear q0 q1 hfar
    go_wp2_with fail
    refine (unhide HR w1).mono ?_
    rintro e wx ⟨rfl, rfl⟩
    go_wp2_with fail
    refine (unhide HS wx).mono ?_
    rintro e wy ⟨rfl, rfl⟩
    go_wp2_with fail
    refine (drawPeek _ s0 n0 c0 (hcode.up L1 L1.size)).mono ?_
    rintro e w2 ⟨v, m, ra, ln, rc, F, q, n, g, bank, y, rfl, hm, hS, hO, L2⟩
    obtain ⟨va, vc, hv, -, -⟩ := hS.sep.outer
    subst hv
    obtain ⟨qa, qc, hq, -, -, -, -⟩ := id hO
    subst hq
    have LB : Below w2.heap.size w2 ((w2.alloc (.cells #[.slice va m vc] 34)).alloc (.cells #[.slice qa n qc, .int .i64 bank] 37)) := ((Below.refl _ _).alloc (Nat.le_refl _) _).alloc (by simp) _
    have H0 := hS.ints.keep (wrote_below LB Nowhere) (fun _ _ _ x => x)
    have K0 := (own_ints hO).keep (wrote_below LB Nowhere) (fun _ _ _ x => x)
    have b0 : ((w2.alloc (.cells #[.slice va m vc] 34)).alloc (.cells #[.slice qa n qc, .int .i64 bank] 37)).heap[w2.heap.size]? = some (.cells #[.slice va m vc] 34 (0, 0)) := boxA (box_new w2 _ _) _
    have b1 : ((w2.alloc (.cells #[.slice va m vc] 34)).alloc (.cells #[.slice qa n qc, .int .i64 bank] 37)).heap[w2.heap.size + 1]? = some (.cells #[.slice qa n qc, .int .i64 bank] 37 (0, 0)) := by simpa using box_new (w2.alloc (.cells #[.slice va m vc] 34)) #[.slice qa n qc, .int .i64 bank] 37
    have C2 := (L1.trans (L2.mono L1.size)).trans (LB.mono (Nat.le_trans L1.size L2.size))
    clear hS hO L1 L2 LB
    go_upto_region 9 with (fail)
    generalize hp : w2.heap.size = p at *
    generalize ((w2.alloc (.cells #[.slice va m vc] 34)).alloc (.cells #[.slice qa n qc, .int .i64 bank] 37)) = W3 at *
    clear hp
    have cb0 := boxC b0
    have cb1 := boxC b1
    have HH := hide (show IntSS .i64 W3.drew _ _ m ln F from H0)
    have HK := hide (show Ints .i64 W3.drew _ _ n g from K0)
    have HB0 := hide b0
    have HB1 := hide b1
    clear H0 K0 b0 b1
    go_cut [49] (fun s WX => s = .bool false ∧ Below W3.heap.size W3 WX)
    case first =>
      go_region_held3 (fun w' => w'.cell? ⟨p, 0, none⟩ = some (.slice va m vc) ∧ w'.cell? ⟨p + 1, 0, none⟩ = some (.slice qa n qc) ∧ w'.cell? ⟨p + 1, 1, none⟩ = some (.int .i64 bank)) (first | assumption | go_keep) (first
        | (go_at_call 24; refine (implPeek _ _ _ _ _ m ln F n g bank y (unhide HH) (unhide HK)).mono ?_; rintro e W4 ⟨rfl, L4'⟩; have L4 : Below W3.heap.size W3 W4 := Below.trans (⟨rfl, rfl, rfl, Nat.le_refl _, fun _ _ => rfl⟩ : Below W3.heap.size W3 W3.drew) L4'; have d0 : W4.cell? ⟨p, 0, none⟩ = some (.slice va m vc) := boxC (box_keep (unhide HB0) L4 (boxLt (unhide HB0))) 0; have d1 : W4.cell? ⟨p + 1, 0, none⟩ = some (.slice qa n qc) := boxC (box_keep (unhide HB1) L4 (boxLt (unhide HB1))) 0; have d2 : W4.cell? ⟨p + 1, 1, none⟩ = some (.int .i64 bank) := boxC (box_keep (unhide HB1) L4 (boxLt (unhide HB1))) 1; have HH4 := hide ((unhide HH).keep (wrote_below L4' Nowhere) (fun _ _ _ x => x)); have HK4 := hide ((unhide HK).keep (wrote_below L4' Nowhere) (fun _ _ _ x => x)); clear L4')
        | (go_at_call 29; refine (specPeek _ _ _ _ _ m ln F n g bank y (unhide HH4) (unhide HK4)).mono ?_; rintro e W5 ⟨rfl, L5⟩; have C5 := below_snoc L4 L5; have d0 : W5.cell? ⟨p, 0, none⟩ = some (.slice va m vc) := boxC (box_keep (unhide HB0) C5 (boxLt (unhide HB0))) 0; have d1 : W5.cell? ⟨p + 1, 0, none⟩ = some (.slice qa n qc) := boxC (box_keep (unhide HB1) C5 (boxLt (unhide HB1))) 0; have d2 : W5.cell? ⟨p + 1, 1, none⟩ = some (.int .i64 bank) := boxC (box_keep (unhide HB1) C5 (boxLt (unhide HB1))) 1))
      all_goals
        go_wp2_with fail
        go_meet
        exact ⟨by simp, C5⟩
    case rest =>
      obtain ⟨rfl, LX⟩ := hcut
      have CX := C2.trans (LX.mono C2.size)
      clear C2 LX cb0 cb1 HB0 HB1 HH HK
      go_wp2_with fail
      refine (unhide HA _).mono ?_
      rintro e wz ⟨rfl, rfl⟩
      obtain ⟨p0, p1, p5, p6⟩ := unhide HI
      rcases unhide HC with rfl | rfl | rfl | rfl | rfl | rfl | rfl
      all_goals
        try replace p5 := p5 rfl
        try replace p6 := p6 rfl
        go_wp2
        go_ret
        exact ⟨by first | rfl | simp, CX⟩
set_option maxRecDepth 100000 in
theorem lifted (os : Os) (started : os.Started) (H : Type) (enc : TypeId × Value → H) :
    ReturnsInHanded {} Try.checked os 5 .any (Rows.fnRegionsSpec.pre6 enc Try.prog Try.f5 Rows.fnRegionsRow.domain false) (Rows.fnRegionsSpec.post enc Try.prog Try.f5 false true false false) := by
  refine returnsInHanded_of_change (C := Try.checked) own started (by kernel_rfl) Try.func5
    (ChangeSpec.witness6 (enc := enc) (C := Try.checked) false ⟨#[], #[.slice none 0 0], []⟩ 8 (by kernel_rfl) (by kernel_rfl) (by kernel_rfl) (by kernel_rfl)) ?_
  intro W base args ds gs before hval0 hW hcnd _
  have hval : ∀ (j : Nat) t v, Try.f5.params[j]? = some t → args[j]? = some v → Value.okWide Try.prog W .any base t v := hval0
  have hW' := hW
  obtain ⟨p, q, hA0, hV, rfl, hfz, hnd⟩ := hW
  have hA : DataW.TrodAll enc Try.prog W 0 (fun _ => true) true Try.f5.params.toList args.toList ds p := hA0
  rw [Try.params5] at hA hval
  obtain ⟨v0, vs0, d0, ds0, p0, q0, hargs, rfl, rfl, h0, r0⟩ := trodAll_cons hA
  obtain ⟨rfl, rfl, rfl⟩ := trodAll_nil r0
  obtain rfl : args = #[v0] := by cases args; simp_all
  obtain ⟨rfl, rfl⟩ := trodVars_none hV
  have k0 := h0
  have lt0 : ∀ x ∈ p0, x.block < W.heap.size := by obtain ⟨m, hm⟩ := k0; exact DataW.trod_lt m _ _ _ hm
  obtain ⟨s0, n0, c0, rfl⟩ := okWide_slice Try.underlying22 (hval 0 22 v0 rfl rfl)
  obtain ⟨f0, w0⟩ := openInts (k := .u8) Try.underlying22 Try.underlying5 (by kernel_rfl) h0
  clear hA0 hval0
  refine (walk s0 n0 c0 f0 W w0).mono fun e W' ⟨he, bel⟩ => ?_
  subst he
  exact ⟨_, rfl, _, _, _, [], _, [], hW', trodAll_mk1 (shut_bool Try.underlying4 _), (trodAll_cons_mk (Below.trod laidOut (by kernel_rfl) (of_decide_eq_true (by kernel_rfl)) k0 bel lt0) trodAll_mk0), rfl, bel.frame _, fun h => by cases h⟩
theorem over : Rows.fnRegionsRow.holds Try.pinned (OpenSpec.ofChange Rows.fnRegionsSpec) :=
  OpenClaim.holds_of_wide 5 Try.f5 rfl rfl rfl rfl rfl rfl rfl ⟨rfl, rfl, rfl, rfl, rfl⟩ rfl rfl rfl rfl rfl (by kernel_rfl) Try.func5 (by kernel_rfl)
    (of_decide_eq_true (by kernel_rfl)) (by unfold Func.isWrapper; first | (rw [if_pos (by decide +kernel)]; kernel_rfl) | (rw [if_neg (by decide +kernel)]; exact ⟨rfl, rfl⟩))
    (fun os started H enc _ => lifted os started H enc)
end Go.Proofs.Ytpaedkefmebjjae.fnRegions
namespace Go.Proofs.Ytpaedkefmebjjae
theorem fnRegions_holds : Rows.FnRegionsSaid := fnRegions.over
end Go.Proofs.Ytpaedkefmebjjae
