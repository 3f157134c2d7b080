/-
  Chapter 13 of the specification by its contracts: what is a right ring.
-/
import Derived.Test.YtjcaligejlhjdaaGreatRB
import Derived.Test.YtjcaligejlhjdaaGreatG1
import Derived.Lib.QuietBelow
import Derived.BigQuiet
import Derived.Deep.DeepCutAuto
import Derived.ArgAppend
import Derived.Deep.AppendLies
import Derived.Deep.Upon
namespace Go.Proofs.YtjcaligejlhjdaaGreat
set_option linter.unusedVariables false
set_option linter.unusedSimpArgs false
open Go.ChangeShapes Go.WideShapes Go.ChangeAt Go.RowKit Go.Sort
theorem boxRR {W : World} {b : Nat} {cs : Array Value} {T : TypeId} (h : W.heap[b]? = some (.cells cs T (0, 0))) (d : Nat) (os : Array Obj) (j : Nat) : (grow (redrawn W d) os).cell? ⟨b, j, none⟩ = cs[j]? := boxC (((below_regrown W d os).block _ (boxLt h)).trans h) j
/-- A right record. -/
def okRec (f : Nat → Int) (i : Nat) : Bool := inB (f (i * 3)) 0 20000 && (inB (f (i * 3 + 1)) 0 7 && inB (f (i * 3 + 2)) 0 255)
/-- Right records, up to one, in the order of their times. -/
def okUpto (f : Nat → Int) (q : Nat) : Prop := ∀ i, i < q → okRec f i = true ∧ (0 < i → f ((i - 1) * 3) ≤ f (i * 3))
instance okUptoD (f : Nat → Int) (q : Nat) : Decidable (okUpto f q) := by unfold okUpto; infer_instance
def okRing (cap : Int) (n : Nat) (f : Nat → Int) : Bool := (decide (okUpto f n) && (inB cap 1 16 && decide ((n : Int) ≤ cap)))
theorem okUpto.step {f : Nat → Int} {q : Nat} (h : okUpto f q) (h1 : okRec f q = true) (h2 : 0 < q → f ((q - 1) * 3) ≤ f (q * 3)) : okUpto f (q + 1) := fun i hi => by
  by_cases e : i = q
  · subst e; exact ⟨h1, h2⟩
  · exact h i (by omega)
theorem okRing_rec {cap : Int} {n q : Nat} {f : Nat → Int} (hq : q < n) (h : okRec f q = false) : okRing cap n f = false := by
  unfold okRing
  rw [decide_eq_false (fun x => by have := (x q hq).1; rw [h] at this; cases this)]
  rfl
theorem okRing_time {cap : Int} {n r : Nat} {f : Nat → Int} (hq : r + 1 < n) (h : ¬ f (r * 3) ≤ f ((r + 1) * 3)) : okRing cap n f = false := by
  unfold okRing
  rw [decide_eq_false (fun x => h ((x (r + 1) hq).2 (by omega)))]
  rfl
theorem okRing_end {cap : Int} {n : Nat} {f : Nat → Int} (h : okUpto f n) : okRing cap n f = (inB cap 1 16 && decide ((n : Int) ≤ cap)) := by
  unfold okRing
  rw [decide_eq_true h]
  rfl
set_option maxHeartbeats 4000000 in
theorem specRingOk (w : World) (D : Nat → Prop) (v : Value) (cap : Int) (n : Nat) (f : Nat → Int) (H : RgOn w D v cap n f) : Calls Tryz.prog 120 #[v] w fun e w' => e = .returned (.bool (okRing cap n f)) ∧ Below w.heap.size w w' := by
  obtain ⟨u, rfl, a, c, rfl, hn, hr, -, -⟩ := H
  have C0 : Below w.heap.size w (w.alloc (.cells #[.int .i64 cap, .slice a n c] 38)) := (Below.refl _ _).alloc (Nat.le_refl _) _
  have K0 := box_new w #[.int .i64 cap, .slice a n c] 38
  go_enter Tryz.func120, Tryz.ntmps120
  go_wp2
  generalize w.alloc (.cells #[.int .i64 cap, .slice a n c] 38) = W0 at *
  go_loopw [3] (fun i wr => ∃ q : Nat, q ≤ n ∧ i = .int .i64 q ∧ okUpto f q ∧ Below w.heap.size w wr ∧ wr.heap[w.heap.size]? = some (.cells #[.int .i64 cap, .slice a n c] 38 (0, 0))) (fun i _ => n - (intOf i).toNat)
  case atStart => exact ⟨0, Nat.zero_le _, rfl, fun i hi => absurd hi (Nat.not_lt_zero _), C0, K0⟩
  case round =>
    obtain ⟨q, hq, rfl, hU, hL, hK⟩ := hrel
    have HU := hide hU
    clear hU C0 K0
    by_cases hlt : q < n
    · have hlt' : (q : Int) < (n : Int) := by omega
      obtain ⟨b, off, rfl, q0, q1, q2⟩ := hr.rec3 hlt
      have hb : b < w.heap.size := block_lt_of_cell q0
      have cK := boxC hK
      have d0 := (hL.cell (p := ⟨b, off + q * 3, none⟩) hb).trans q0
      have d1 := (hL.cell (p := ⟨b, off + q * 3 + 1, none⟩) hb).trans q1
      have d2 := (hL.cell (p := ⟨b, off + q * 3 + 2, none⟩) hb).trans q2
      have wq : IntKind.i64.wrap (q : Int) = q := by rw [IntKind.wrap_i64]; omega
      obtain ⟨x, hx⟩ : ∃ x, Hid (x = f (q * 3)) := ⟨_, rfl⟩
      obtain ⟨y, hy⟩ : ∃ y, Hid (y = f (q * 3 + 1)) := ⟨_, rfl⟩
      obtain ⟨z, hz⟩ : ∃ z, Hid (z = f (q * 3 + 2)) := ⟨_, rfl⟩
      rw [← hx.out] at d0
      rw [← hy.out] at d1
      rw [← hz.out] at d2
      have LA : Below wr.heap.size wr (wr.alloc (.cells #[.int .i64 x, .int .i64 y, .int .i64 z] 144)) := (Below.refl _ _).alloc (Nat.le_refl _) _
      have C1 := below_snoc hL LA
      have K1 := box_keep hK LA (boxLt hK)
      have X1 := box_new wr #[.int .i64 x, .int .i64 y, .int .i64 z] 144
      obtain ⟨b1, h1⟩ : ∃ b, Hid (b = inB x 0 20000) := ⟨_, rfl⟩
      obtain ⟨b2, h2⟩ : ∃ b, Hid (b = inB y 0 7) := ⟨_, rfl⟩
      obtain ⟨b3, h3⟩ : ∃ b, Hid (b = inB z 0 255) := ⟨_, rfl⟩
      have Q1 : ∀ W : World, Calls Tryz.prog 87 #[.int .i64 x, .int .i64 0, .int .i64 20000] W fun e w' => e = .returned (.bool b1) ∧ Below W.heap.size W w' := fun W => (l1In x 0 20000 W).mono (fun e w' ⟨he, hw⟩ => ⟨by rw [he, h1.out], by rw [hw]; exact Below.refl _ _⟩)
      have Q2 : ∀ W : World, Calls Tryz.prog 87 #[.int .i64 y, .int .i64 0, .int .i64 7] W fun e w' => e = .returned (.bool b2) ∧ Below W.heap.size W w' := fun W => (l1In y 0 7 W).mono (fun e w' ⟨he, hw⟩ => ⟨by rw [he, h2.out], by rw [hw]; exact Below.refl _ _⟩)
      have Q3 : ∀ W : World, Calls Tryz.prog 86 #[.int .i64 z] W fun e w' => e = .returned (.bool b3) ∧ Below W.heap.size W w' := fun W => (l5Byte W z).mono (fun e w' ⟨he, hw⟩ => ⟨by rw [he, h3.out], by rw [hw]; exact Below.refl _ _⟩)
      have HOK : Hid (okRec f q = (b1 && (b2 && b3))) := by show _ = _; unfold okRec; rw [h1.out, h2.out, h3.out, hx.out, hy.out, hz.out]
      clear h1 h2 h3 hy hz
      go_upto_region 5 with (fail)
      clear cK d0 d1 d2 LA hK
      obtain ⟨zz, hzz⟩ : ∃ zz, Hid (zz = wr.heap.size) := ⟨_, rfl⟩
      rw [← hzz.out] at X1 ⊢
      have wl := hL.size
      clear hL hzz
      generalize wr.alloc (.cells #[.int .i64 x, .int .i64 y, .int .i64 z] 144) = W1 at *
      have s0 := boxRR K1
      have xb := boxRR X1
      cases b1
      · have xp : True := trivial
        refine wp_region_quiet_below (by kernel_rfl) (by kernel_rfl) ?_
        repeat (go_big_quiet_step (first | (go_at_call 87; first | with_reducible exact Calls.regrown_of (Q1 _) | with_reducible exact Calls.regrown_of (Q2 _)) | (go_at_call 86; with_reducible exact Calls.regrown_of (Q3 _))))
        refine wpQuiet_nil ?_
        intro _ hw'
        obtain ⟨⟨dq, osq⟩, hw''⟩ := hw'
        subst hw''
        have C2 := below_snoc C1 (below_regrown W1 dq osq)
        have K2 := box_keep K1 (below_regrown W1 dq osq) (boxLt K1)
        generalize grow (redrawn W1 dq) osq = W2 at *
        clear s0 xb xp
        have HE := hide (okRing_rec (cap := cap) hlt (by rw [HOK.out]; rfl))
        go_wp2
        go_ret
        exact ⟨ret_bool HE.out.symm, C2⟩
      cases b2
      · have xp : True := trivial
        refine wp_region_quiet_below (by kernel_rfl) (by kernel_rfl) ?_
        repeat (go_big_quiet_step (first | (go_at_call 87; first | with_reducible exact Calls.regrown_of (Q1 _) | with_reducible exact Calls.regrown_of (Q2 _)) | (go_at_call 86; with_reducible exact Calls.regrown_of (Q3 _))))
        refine wpQuiet_nil ?_
        intro _ hw'
        obtain ⟨⟨dq, osq⟩, hw''⟩ := hw'
        subst hw''
        have C2 := below_snoc C1 (below_regrown W1 dq osq)
        have K2 := box_keep K1 (below_regrown W1 dq osq) (boxLt K1)
        generalize grow (redrawn W1 dq) osq = W2 at *
        clear s0 xb xp
        have HE := hide (okRing_rec (cap := cap) hlt (by rw [HOK.out]; rfl))
        go_wp2
        go_ret
        exact ⟨ret_bool HE.out.symm, C2⟩
      cases b3
      · have xp : True := trivial
        refine wp_region_quiet_below (by kernel_rfl) (by kernel_rfl) ?_
        repeat (go_big_quiet_step (first | (go_at_call 87; first | with_reducible exact Calls.regrown_of (Q1 _) | with_reducible exact Calls.regrown_of (Q2 _)) | (go_at_call 86; with_reducible exact Calls.regrown_of (Q3 _))))
        refine wpQuiet_nil ?_
        intro _ hw'
        obtain ⟨⟨dq, osq⟩, hw''⟩ := hw'
        subst hw''
        have C2 := below_snoc C1 (below_regrown W1 dq osq)
        have K2 := box_keep K1 (below_regrown W1 dq osq) (boxLt K1)
        generalize grow (redrawn W1 dq) osq = W2 at *
        clear s0 xb xp
        have HE := hide (okRing_rec (cap := cap) hlt (by rw [HOK.out]; rfl))
        go_wp2
        go_ret
        exact ⟨ret_bool HE.out.symm, C2⟩
      cases q with
      | zero =>
        have xp : True := trivial
        refine wp_region_quiet_below (by kernel_rfl) (by kernel_rfl) ?_
        repeat (go_big_quiet_step (first | (go_at_call 87; first | with_reducible exact Calls.regrown_of (Q1 _) | with_reducible exact Calls.regrown_of (Q2 _)) | (go_at_call 86; with_reducible exact Calls.regrown_of (Q3 _))))
        refine wpQuiet_nil ?_
        intro _ hw'
        obtain ⟨⟨dq, osq⟩, hw''⟩ := hw'
        subst hw''
        have C2 := below_snoc C1 (below_regrown W1 dq osq)
        have K2 := box_keep K1 (below_regrown W1 dq osq) (boxLt K1)
        generalize grow (redrawn W1 dq) osq = W2 at *
        clear s0 xb xp
        go_wp2
        go_roundw
        case rel => exact ⟨0 + 1, by omega, by go_num, HU.out.step (by rw [HOK.out]; rfl) (fun h => absurd h (Nat.lt_irrefl _)), C2, K2⟩
        case measure => simp [intOf]; omega
      | succ r =>
        obtain ⟨b', off', e, p0, -, -⟩ := hr.rec3 (show r < n by omega)
        simp only [Option.some.injEq, Addr.mk.injEq, and_true] at e
        obtain ⟨rfl, rfl⟩ := e
        obtain ⟨xr, hxr⟩ : ∃ x, Hid (x = f (r * 3)) := ⟨_, rfl⟩
        rw [← hxr.out] at p0
        have xp : ∀ (d : Nat) (os : Array Obj), (grow (redrawn W1 d) os).cell? ⟨b, off + r * 3, none⟩ = some (.int .i64 xr) := fun d os => ((below_regrown W1 d os).cell (p := ⟨b, off + r * 3, none⟩) (Nat.lt_of_lt_of_le hb C1.size)).trans ((C1.cell (p := ⟨b, off + r * 3, none⟩) hb).trans p0)
        have wr1 : IntKind.i64.wrap (r : Int) = r := by rw [IntKind.wrap_i64]; omega
        have hpos : (0 : Int) < ((r + 1 : Nat) : Int) := by omega
        by_cases hle : xr ≤ x
        · have hgt : ¬ (x < xr) := by omega
          refine wp_region_quiet_below (by kernel_rfl) (by kernel_rfl) ?_
          repeat (go_big_quiet_step (first | (go_at_call 87; first | with_reducible exact Calls.regrown_of (Q1 _) | with_reducible exact Calls.regrown_of (Q2 _)) | (go_at_call 86; with_reducible exact Calls.regrown_of (Q3 _))))
          refine wpQuiet_nil ?_
          intro _ hw'
          obtain ⟨⟨dq, osq⟩, hw''⟩ := hw'
          subst hw''
          have C2 := below_snoc C1 (below_regrown W1 dq osq)
          have K2 := box_keep K1 (below_regrown W1 dq osq) (boxLt K1)
          generalize grow (redrawn W1 dq) osq = W2 at *
          clear s0 xb xp
          go_wp2
          go_roundw
          case rel => exact ⟨r + 1 + 1, by omega, by go_num, HU.out.step (by rw [HOK.out]; rfl) (fun _ => by rw [Nat.add_sub_cancel, ← hxr.out, ← hx.out]; exact hle), C2, K2⟩
          case measure => simp [intOf]; omega
        · have hgt : x < xr := by omega
          refine wp_region_quiet_below (by kernel_rfl) (by kernel_rfl) ?_
          repeat (go_big_quiet_step (first | (go_at_call 87; first | with_reducible exact Calls.regrown_of (Q1 _) | with_reducible exact Calls.regrown_of (Q2 _)) | (go_at_call 86; with_reducible exact Calls.regrown_of (Q3 _))))
          refine wpQuiet_nil ?_
          intro _ hw'
          obtain ⟨⟨dq, osq⟩, hw''⟩ := hw'
          subst hw''
          have C2 := below_snoc C1 (below_regrown W1 dq osq)
          have K2 := box_keep K1 (below_regrown W1 dq osq) (boxLt K1)
          generalize grow (redrawn W1 dq) osq = W2 at *
          clear s0 xb xp
          have HE := hide (okRing_time (cap := cap) (f := f) hlt (by rw [← hxr.out, ← hx.out]; exact hle))
          go_wp2
          go_ret
          exact ⟨ret_bool HE.out.symm, C2⟩
    · have hlt' : ¬ (q : Int) < (n : Int) := by omega
      obtain rfl : q = n := by omega
      have HE := hide (okRing_end (cap := cap) HU.out)
      have cK := boxC hK
      obtain ⟨b1, h1⟩ : ∃ b, Hid (b = inB cap 1 16) := ⟨_, rfl⟩
      rw [← h1.out] at HE
      have HC := hide (fun W => l1In cap 1 16 W)
      rw [← h1.out] at HC
      clear h1
      go_wp2_with fail
      refine (HC.out _).mono ?_
      rintro e W1 ⟨rfl, hw1⟩
      rw [hw1]
      cases b1
      · go_wp2
        go_ret
        exact ⟨ret_bool HE.out.symm, hL⟩
      · go_wp2
        go_ret
        exact ⟨ret_bool HE.out.symm, hL⟩
end Go.Proofs.YtjcaligejlhjdaaGreat
namespace Go.Proofs.YtjcaligejlhjdaaGreat
set_option linter.unusedVariables false
set_option linter.unusedSimpArgs false
open Go.ChangeShapes Go.WideShapes Go.ChangeAt Go.RowKit Go.Sort
def recVals (m : Nat) (f : Nat → Int) : List Value := (List.range m).map (fun i => .int .i64 (f i))
theorem recVals_get {m j : Nat} (f : Nat → Int) (hj : j < m) : (recVals m f)[j]? = some (.int .i64 (f j)) := by unfold recVals; simp [hj]
/-- The list of n records that begins a block g, which the call has made. -/
structure RcRow (W : World) (lo g n c : Nat) (f : Nat → Int) : Prop where
  own : W.ownsRow lo 144 3 (.slice (some ⟨g, 0, none⟩) n c) n (recVals (n * 3) f)
  small : n ≤ 1048576
section
variable {R : Nat → Nat → Prop} {W W' : World} {lo g n c : Nat} {f : Nat → Int}
theorem RcRow.parts (h : RcRow W lo g n c f) : lo ≤ g ∧ g < W.heap.size ∧ n ≤ c ∧ ∃ cur, W.heap[g]? = some (.cells cur 144 (0, 0)) ∧ cur.size = c * 3 ∧ ∀ j, j < n * 3 → cur[j]? = some (.int .i64 (f j)) := by
  rcases h.own.2 with ⟨e, _⟩ | ⟨g', cap, cur, hv, hb, hg, h1, h2, h3, h4⟩
  · cases e
  · simp only [Value.slice.injEq, Option.some.injEq, Addr.mk.injEq, and_true, true_and] at hv
    obtain ⟨rfl, rfl⟩ := hv
    refine ⟨hb, boxLt hg, h1, cur, hg, h3, fun j hj => ?_⟩
    have := recVals_get f hj
    rw [← h4, List.getElem?_take, if_pos hj, Array.getElem?_toList] at this
    exact this
theorem RcRow.on (h : RcRow W lo g n c f) {D : Nat → Prop} (hd : D g) : RsOn W D (.slice (some ⟨g, 0, none⟩) n c) n f := by
  obtain ⟨h1, h2, h3, cur, h4, h5, h6⟩ := h.parts
  refine ⟨_, _, rfl, ⟨h.small, h3⟩, fun j hj => ⟨g, 0, rfl, ?_⟩, fun b o hF => ?_, fun b o hF => ?_⟩
  · rw [Nat.zero_add, boxC h4]
    exact h6 j hj
  · obtain ⟨off, e, _, _⟩ := hF
    simp only [Option.some.injEq, Addr.mk.injEq, and_true] at e
    obtain ⟨rfl, rfl⟩ := e
    exact ⟨h2, boxF h4 o⟩
  · obtain ⟨off, e, _, _⟩ := hF
    simp only [Option.some.injEq, Addr.mk.injEq, and_true] at e
    rw [← e.1]
    exact hd
theorem RcRow.keep (h : RcRow W lo g n c f) (hw : Wrote R W W') (hd : ∀ o, ¬ R g o) : RcRow W' lo g n c f := by
  refine ⟨⟨h.own.1, ?_⟩, h.small⟩
  rcases h.own.2 with ⟨e, _⟩ | ⟨g', cap, cur, hv, hb, hg, r⟩
  · cases e
  · have hv' := hv
    simp only [Value.slice.injEq, Option.some.injEq, Addr.mk.injEq, and_true, true_and] at hv'
    obtain ⟨rfl, rfl⟩ := hv'
    exact Or.inr ⟨g, c, cur, rfl, hb, (hw.block g (boxLt hg) hd).trans hg, r⟩
theorem RcRow.below (h : RcRow W lo g n c f) (L : Below W.heap.size W W') : RcRow W' lo g n c f := h.keep (wrote_below L Nowhere) (fun _ x => x)
theorem RcRow.mono {lo' : Nat} (h : RcRow W lo g n c f) (hl : lo' ≤ lo) : RcRow W lo' g n c f := by
  refine ⟨⟨h.own.1, ?_⟩, h.small⟩
  rcases h.own.2 with ⟨e, _⟩ | ⟨g', cap, cur, hv, hb, r⟩
  · cases e
  · exact Or.inr ⟨g', cap, cur, hv, by omega, r⟩
end
end Go.Proofs.YtjcaligejlhjdaaGreat
