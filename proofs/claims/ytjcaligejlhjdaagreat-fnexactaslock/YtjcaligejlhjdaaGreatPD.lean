/-
  Chapter 11 by its contracts: the mirror of a pad, and the specification's functions on it.
-/
import Derived.Test.YtjcaligejlhjdaaGreatJ2
import Derived.Test.YtjcaligejlhjdaaGreatS2
import Derived.Test.YtjcaligejlhjdaaGreatI9
import Derived.Test.YtjcaligejlhjdaaGreatB2
import Derived.Test.YtjcaligejlhjdaaGreatE8
import Derived.Deep.DeepCutAuto
namespace Go.Proofs.YtjcaligejlhjdaaGreat
set_option linter.unusedVariables false
set_option linter.unusedSimpArgs false
open Go.ChangeShapes Go.WideShapes Go.ChangeAt Go.RowKit
def okPads (n : Nat) (f : Nat → Int) : Bool := decide ((∀ i, i < n → 0 ≤ f i ∧ f i ≤ 255) ∧ n ≤ 20)
theorem okPads_no {n : Nat} {f : Nat → Int} {j : Nat} (hj : j < n) (h : ¬ (0 ≤ f j ∧ f j ≤ 255)) : okPads n f = false := decide_eq_false (fun x => h (x.1 j hj))
theorem okPads_all {n : Nat} {f : Nat → Int} (h : ∀ j, j < n → 0 ≤ f j ∧ f j ≤ 255) : okPads n f = decide (n ≤ 20) := decide_eq_decide.2 ⟨fun x => x.2, fun x => ⟨h, x⟩⟩
/- What is held behind a write, and the byte that is told from then on. -/
theorem toPad (w : World) (H : Bool) (S : Int) : Calls Tryz.prog 63 #[.agg #[.bool H, .int .i64 S]] w
    fun e w' => e = .returned (.agg #[.bool H, .int .i64 S]) ∧ Below w.heap.size w w' := by
  go_enter Tryz.func63, Tryz.ntmps63
  go_wp2
  refine bodyPost_ret (v := .agg #[.bool H, .int .i64 S]) (by simp [results, Tryz.results63, go_sem]) rfl ?_
  exact ⟨rfl, (((Below.refl _ _).alloc (Nat.le_refl _) _).alloc (by simp) _).alloc (by simp; omega) _⟩
theorem eqPad_same (w : World) (H : Bool) (S : Int) : Calls Tryz.prog 39 #[.agg #[.bool H, .int .i64 S], .agg #[.bool H, .int .i64 S]] w
    fun e w' => e = .returned (.bool true) ∧ Below w.heap.size w w' := by
  go_enter Tryz.func39, Tryz.ntmps39
  go_wp2
  go_ret
  exact ⟨rfl, ((Below.refl _ _).alloc (Nat.le_refl _) _).alloc (by simp) _⟩
set_option maxHeartbeats 1000000 in
theorem specPadsOk (w : World) (F : Nat → Nat → Prop) (u : Value) (n : Nat) (f : Nat → Int) (H : Ints .i64 w F u n f) :
    Calls Tryz.prog 81 #[u] w fun e w' => e = .returned (.bool (okPads n f)) ∧ w' = w := by
  obtain ⟨a, cap, rfl, hn, hr, -⟩ := H
  have HR := hide hr
  clear hr
  go_enter Tryz.func81, Tryz.ntmps81
  go_wp2
  go_loopw [3] (fun i wr => wr = w ∧ ∃ k : Nat, k ≤ n ∧ i = .int .i64 k ∧ ∀ j, j < k → 0 ≤ f j ∧ f j ≤ 255) (fun i _ => n - (intOf i).toNat)
  case atStart => exact ⟨rfl, 0, Nat.zero_le _, rfl, fun j hj => absurd hj (Nat.not_lt_zero _)⟩
  case round =>
    obtain ⟨rfl, k, hk, rfl, hall⟩ := hrel
    have HA := hide hall
    clear hall
    by_cases hlt : k < n
    · have hlt' : (k : Int) < (n : Int) := by omega
      obtain ⟨b, o, rfl, hc⟩ := HR.out k hlt
      by_cases hin : 0 ≤ f k ∧ f k ≤ 255
      · have HI := hide (fun W => l5Byte W (f k))
        rw [inB_yes hin] at HI
        go_wp2_with fail
        refine (unhide HI _).mono ?_
        rintro e w1 ⟨rfl, rfl⟩
        go_wp2
        go_round
        case rel => exact ⟨trivial, k + 1, by omega, by go_num, fun j hj => by
          by_cases e : j = k
          · rw [e]; exact hin
          · exact HA.out j (by omega)⟩
        case measure => simp [intOf]; omega
      · have HI := hide (fun W => l5Byte W (f k))
        rw [inB_no hin] at HI
        have HE := hide (okPads_no hlt hin)
        go_wp2_with fail
        refine (unhide HI _).mono ?_
        rintro e w1 ⟨rfl, rfl⟩
        go_wp2
        go_ret
        exact ⟨ret_bool HE.out.symm, rfl⟩
    · have hkn : k = n := by omega
      subst hkn
      have HE := hide (okPads_all HA.out)
      by_cases h20 : k ≤ 20
      · go_wp2
        go_ret
        exact ⟨ret_bool (by rw [HE.out, decide_eq_true h20, decide_eq_true (by omega)]), rfl⟩
      · go_wp2
        go_ret
        exact ⟨ret_bool (by rw [HE.out, decide_eq_false h20, decide_eq_false (by omega)]), rfl⟩
end Go.Proofs.YtjcaligejlhjdaaGreat
namespace Go.Proofs.YtjcaligejlhjdaaGreat
set_option linter.unusedVariables false
set_option linter.unusedSimpArgs false
open Go.ChangeShapes Go.WideShapes Go.ChangeAt Go.RowKit
theorem okPads_allB {n : Nat} {f : Nat → Int} (h : n ≤ 20) : okPads n f = allB n f := by
  unfold okPads allB
  refine decide_eq_decide.2 ⟨fun x j hj => inB_yes (x.1 j hj), fun x => ⟨fun j hj => ?_, h⟩⟩
  by_cases hc : 0 ≤ f j ∧ f j ≤ 255
  · exact hc
  · have := x j hj
    rw [inB_no hc] at this
    cases this
theorem okPads_long {n : Nat} {f : Nat → Int} (h : ¬ n ≤ 20) : okPads n f = false := decide_eq_false (fun x => h x.2)
theorem implPadsOkS (w : World) (F : Nat → Nat → Prop) (u : Value) (n : Nat) (f : Nat → Int) (H : Ints .i64 w F u n f) :
    Calls Tryz.prog 92 #[u] w fun e w' => e = .returned (.bool (okPads n f)) ∧ w' = w := by
  have HA := hide (allBytes w F u n f H)
  obtain ⟨a, cap, rfl, hn, hr, -⟩ := H
  clear hr
  by_cases h20 : n ≤ 20
  · have HE := hide (okPads_allB (f := f) h20)
    have h20' : (n : Int) ≤ 20 := by omega
    obtain ⟨ok, hok⟩ : ∃ ok, Hid (ok = allB n f) := ⟨_, rfl⟩
    rw [← hok.out] at HA HE
    go_enter Tryz.func92, Tryz.ntmps92
    go_wp2_with fail
    refine (unhide HA).mono ?_
    rintro e w1 ⟨rfl, rfl⟩
    go_wp2
    go_ret
    exact ⟨ret_bool HE.out.symm, rfl⟩
  · have HE := hide (okPads_long (f := f) h20)
    have h20' : ¬ (n : Int) ≤ 20 := by omega
    go_enter Tryz.func92, Tryz.ntmps92
    go_wp2
    go_ret
    exact ⟨ret_bool HE.out.symm, rfl⟩
end Go.Proofs.YtjcaligejlhjdaaGreat
namespace Go.Proofs.YtjcaligejlhjdaaGreat
set_option linter.unusedVariables false
set_option linter.unusedSimpArgs false
open Go.ChangeShapes Go.WideShapes Go.ChangeAt Go.RowKit
/-- A list of lists of numbers on blocks of a kind. -/
structure SsOn (W : World) (D : Nat → Prop) (u : Value) (m : Nat) (ln : Nat → Nat) (f : Nat → Nat → Int) : Prop where
  ex : ∃ ra rc, Sep W u m ra ln rc ∧ (∀ i, i < m → RowOf .i64 W (ra i) (ln i) (f i)) ∧ (∀ i, i < m → ∀ b o, Foot (ra i) (ln i) b o → D b) ∧ (∀ a cap, u = .slice a m cap → ∀ b o, Foot a m b o → D b) ∧ (∀ i, i < m → ln i ≤ 1048576)
section
variable {R : Nat → Nat → Prop} {W W' : World} {D E : Nat → Prop} {u : Value} {m : Nat} {ln : Nat → Nat} {f : Nat → Nat → Int}
theorem SsOn.keep (H : SsOn W D u m ln f) (hw : Wrote R W W') (hd : ∀ b o, D b → b < W.heap.size → ¬ R b o) : SsOn W' D u m ln f := by
  obtain ⟨ra, rc, ⟨⟨a, cap, hv, hm, ho⟩, hf, hdj, hs⟩, hr, hi, hou, hl⟩ := H
  refine ⟨ra, rc, ⟨⟨a, cap, hv, hm, fun i hi' => ?_⟩, fun i hi' => (hf i hi').keep hw, hdj, hs⟩, fun i hi' => (hr i hi').keep hw (fun b o hF => hd b o (hi i hi' b o hF) ((hr i hi').lt hF)), hi, hou, hl⟩
  obtain ⟨b, off, ha, hc, hn⟩ := ho i hi'
  refine ⟨b, off, ha, ?_, hn⟩
  rw [hw.cell b (off + i) (block_lt_of_cell hc) (hd b _ (hou a cap hv b _ (ha ▸ foot_at hi')) (block_lt_of_cell hc))]
  exact hc
theorem SsOn.below (H : SsOn W D u m ln f) (L : Below W.heap.size W W') : SsOn W' D u m ln f := H.keep (wrote_below L Nowhere) (fun _ _ _ _ x => x)
theorem SsOn.mono (H : SsOn W D u m ln f) (hd : ∀ b, b < W.heap.size → D b → E b) : SsOn W E u m ln f := by
  obtain ⟨ra, rc, hS, hr, hi, hou, hl⟩ := H
  refine ⟨ra, rc, hS, hr, fun i hi' b o hF => hd b ((hr i hi').lt hF) (hi i hi' b o hF), fun a cap hv b o hF => hd b ?_ (hou a cap hv b o hF), hl⟩
  obtain ⟨a', cap', hv', -, ho⟩ := hS.outer
  rw [hv] at hv'
  simp only [Value.slice.injEq, true_and] at hv'
  obtain ⟨rfl, rfl⟩ := hv'
  obtain ⟨off, e, h1, h2⟩ := hF
  obtain ⟨b', off', e', hc, -⟩ := ho (o - off) (by omega)
  rw [e] at e'
  simp only [Option.some.injEq, Addr.mk.injEq, and_true] at e'
  rw [e'.1]
  exact block_lt_of_cell hc
theorem SsOn.form (H : SsOn W D u m ln f) : ∃ a c, u = .slice a m c := by
  obtain ⟨ra, rc, ⟨⟨a, cap, hv, -⟩, -⟩, -⟩ := H
  exact ⟨a, cap, hv⟩
theorem SsOn.small (H : SsOn W D u m ln f) : psum ln m ≤ 1099511627776 := by
  obtain ⟨ra, rc, hS, -⟩ := H
  exact hS.small
theorem SsOn.many (H : SsOn W D u m ln f) : m ≤ 1048576 := by
  obtain ⟨ra, rc, ⟨⟨a, cap, hv, hm, -⟩, -⟩, -⟩ := H
  exact hm
theorem SsOn.ints (H : SsOn W D u m ln f) : IntSS .i64 W (On D) u m ln f := by
  obtain ⟨ra, rc, ⟨⟨a, cap, hv, hm, ho⟩, hf, hdj, hs⟩, hr, hi, hou, hl⟩ := H
  refine ⟨a, cap, hv, hm, hou a cap hv, fun i hi' => ?_⟩
  obtain ⟨b, off, ha, hc, -⟩ := ho i hi'
  exact ⟨b, off, _, ha, hc, _, _, rfl, hl i hi', hr i hi', hi i hi'⟩
end
theorem Rows2.on {W : World} {b0 m : Nat} {ln : Nat → Nat} {f : Nat → Nat → Int} {D : Nat → Prop} (h : Rows2 W b0 m ln f) (hm : m + psum ln m ≤ 1048576) (hd : ∀ b, b0 ≤ b → b < b0 + 1 + m → D b) : SsOn W D (.slice (some ⟨b0, 0, none⟩) m m) m ln f := by
  refine ⟨_, _, h.sep hm, fun i hi => h.rowOf i hi, fun i hi b o hF => ?_, fun a cap hv b o hF => ?_, fun i hi => by have := psum_le ln hi; omega⟩
  · obtain ⟨off, e, _⟩ := hF
    simp only [Option.some.injEq, Addr.mk.injEq, and_true] at e
    exact hd b (by omega) (by omega)
  · simp only [Value.slice.injEq, true_and] at hv
    obtain ⟨rfl, -⟩ := hv
    obtain ⟨off, e, _⟩ := hF
    simp only [Option.some.injEq, Addr.mk.injEq, and_true] at e
    exact hd b (by omega) (by omega)
theorem onEqSS (w : World) (D E : Nat → Prop) (u v : Value) (m : Nat) (ln : Nat → Nat) (f : Nat → Nat → Int) (H : SsOn w D u m ln f) (K : SsOn w E v m ln f) : Calls Tryz.prog 42 #[u, v] w fun e w' => e = .returned (.bool true) ∧ Below w.heap.size w w' := by
  refine (eqIntSS w _ _ _ _ m m ln ln f f H.ints K.ints).mono ?_
  rintro e w' ⟨rfl, dd, rfl⟩
  exact ⟨by rw [eqIntss_refl], below_drewN (Below.refl _ _) dd⟩
theorem onEqImg (w : World) (D E : Nat → Prop) (u v : Value) (m : Nat) (ln : Nat → Nat) (f : Nat → Nat → Int) (H : SsOn w D u m ln f) (K : SsOn w E v m ln f) : Calls Tryz.prog 11 #[.agg #[u], .agg #[v]] w fun e w' => e = .returned (.bool true) ∧ Below w.heap.size w w' := by
  refine (eqImage w _ _ _ _ m m ln ln f f H.ints K.ints).mono ?_
  rintro e w' ⟨rfl, L⟩
  exact ⟨by rw [eqIntss_refl], L⟩
theorem onMarkSS (w : World) (D : Nat → Prop) (u : Value) (m : Nat) (ln : Nat → Nat) (f : Nat → Nat → Int) (k : Int) (H : SsOn w D u m ln f) (k0 : 0 ≤ k) (k1 : k ≤ 1099511627776) : Calls Tryz.prog 43 #[u, .int .i64 k] w fun e w' => e = .returned (.int .i64 (k + psum ln m)) ∧ SsOn w' D u m ln (fun i j => k + psum ln i + j) ∧ Wrote (On D) w w' := by
  obtain ⟨ra, rc, hS, hr, hi, hou, hl⟩ := H
  refine (markIntSS w u m ra ln rc f k hS hr k0 k1).mono ?_
  rintro e w' ⟨rfl, hR, T, -⟩
  exact ⟨rfl, ⟨ra, rc, hS.keep T (fun b o h => h), hR, hi, hou, hl⟩, T.mono (fun b o _ ⟨i, hi', hF⟩ => hi i hi' b o hF)⟩
theorem onMarkImg (w : World) (D : Nat → Prop) (u : Value) (m : Nat) (ln : Nat → Nat) (f : Nat → Nat → Int) (k : Int) (H : SsOn w D u m ln f) (k0 : 0 ≤ k) (k1 : k ≤ 1099511627776) : Calls Tryz.prog 13 #[.agg #[u], .int .i64 k] w fun e w' => e = .returned (.int .i64 (k + psum ln m)) ∧ SsOn w' D u m ln (fun i j => k + psum ln i + j) ∧ Wrote (On D) w w' := by
  obtain ⟨ra, rc, hS, hr, hi, hou, hl⟩ := H
  refine (markImage w u m ra ln rc f k hS hr k0 k1).mono ?_
  rintro e w' ⟨rfl, hR, T⟩
  exact ⟨rfl, ⟨ra, rc, hS.keep T (fun b o h => h), hR, hi, hou, hl⟩, T.mono (fun b o _ ⟨i, hi', hF⟩ => hi i hi' b o hF)⟩
theorem onHeldSS (w : World) (D : Nat → Prop) (u : Value) (m : Nat) (ln : Nat → Nat) (k : Int) (H : SsOn w D u m ln (fun i j => k + psum ln i + j)) (k0 : 0 ≤ k) (k1 : k ≤ 1099511627776) : Calls Tryz.prog 103 #[u, .int .i64 k] w fun e w' => e = .returned (.int .i64 (k + psum ln m)) ∧ Below w.heap.size w w' := by
  obtain ⟨ra, rc, hS, hr, hi, hou, hl⟩ := H
  refine (heldIntSS w u m ra ln rc k hS hr k0 k1).mono ?_
  rintro e w' ⟨rfl, rfl⟩
  exact ⟨rfl, Below.refl _ _⟩
theorem onHeldImg (w : World) (D : Nat → Prop) (u : Value) (m : Nat) (ln : Nat → Nat) (k : Int) (H : SsOn w D u m ln (fun i j => k + psum ln i + j)) (k0 : 0 ≤ k) (k1 : k ≤ 1099511627776) : Calls Tryz.prog 47 #[.agg #[u], .int .i64 k] w fun e w' => e = .returned (.int .i64 (k + psum ln m)) ∧ Below w.heap.size w w' := by
  obtain ⟨ra, rc, hS, hr, hi, hou, hl⟩ := H
  refine (heldImage w u m ra ln rc k hS hr k0 k1).mono ?_
  rintro e w' ⟨rfl, L⟩
  exact ⟨rfl, L⟩
theorem onToImg (w : World) (F : Nat → Nat → Prop) (u : Value) (m : Nat) (ln : Nat → Nat) (f : Nat → Nat → Int) (H : IntSS .i64 w F u m ln f) (hm : m + psum ln m ≤ 1048576) : Calls Tryz.prog 7 #[.agg #[u]] w fun e w' => ∃ v, e = .returned (.agg #[v]) ∧ SsOn w' (fun b => w.heap.size ≤ b ∧ b < w'.heap.size) v m ln f ∧ Below w.heap.size w w' := by
  refine (toImage w F u m ln f H).mono ?_
  rintro e w' ⟨b0, h0, rfl, hr, hs, L⟩
  exact ⟨_, rfl, hr.on hm (fun b h1 h2 => ⟨by omega, by omega⟩), L⟩
theorem onToSS (w : World) (F : Nat → Nat → Prop) (u : Value) (m : Nat) (ln : Nat → Nat) (f : Nat → Nat → Int) (H : IntSS .i64 w F u m ln f) (hm : m + psum ln m ≤ 1048576) : Calls Tryz.prog 30 #[u] w fun e w' => ∃ v, e = .returned v ∧ SsOn w' (fun b => w.heap.size ≤ b ∧ b < w'.heap.size) v m ln f ∧ Below w.heap.size w w' := by
  refine (toIntSS w F u m ln f H).mono ?_
  rintro e w' ⟨rfl, hr, hs, L⟩
  exact ⟨_, rfl, hr.on hm (fun b h1 h2 => ⟨by omega, by omega⟩), L⟩
theorem onToList (w : World) (F : Nat → Nat → Prop) (u : Value) (n : Nat) (f : Nat → Int) (H : Ints .i64 w F u n f) : Calls Tryz.prog 8 #[u] w fun e w' => ∃ v, e = .returned v ∧ ListOn w' (fun b => w.heap.size ≤ b ∧ b < w'.heap.size) v n f ∧ Below w.heap.size w w' := by
  have hn : n ≤ 1048576 := by obtain ⟨a, c, e, h, -⟩ := H; exact h
  refine (toIntS w F u n f H).mono ?_
  rintro e w' ⟨rfl, hr, hs, L⟩
  exact ⟨_, rfl, ⟨_, _, rfl, (SlOn.fresh hr hn (Nat.le_refl _)).mono (fun b hb h => ⟨h, hb⟩)⟩, L⟩
end Go.Proofs.YtjcaligejlhjdaaGreat
