/-
  Rings (a cap, and a list of records): copies, comparisons, marks.
-/
import Derived.Test.YtjcaligejlhjdaaGreatRA
import Derived.Lib.QuietBelow
import Derived.BigQuiet
import Derived.Deep.DeepCutAuto
namespace Go.Proofs.YtjcaligejlhjdaaGreat
set_option linter.unusedVariables false
set_option linter.unusedSimpArgs false
open Go.ChangeShapes Go.WideShapes Go.ChangeAt Go.RowKit Go.Sort
set_option maxHeartbeats 1000000 in
theorem onEqRecS (w : World) (D E : Nat → Prop) (u v : Value) (n : Nat) (f : Nat → Int) (H : RsOn w D u n f) (K : RsOn w E v n f) :
    Calls Tryz.prog 138 #[u, v] w fun e w' => e = .returned (.bool true) ∧ Below w.heap.size w w' := by
  obtain ⟨a, c, rfl, hn, hr, -, -⟩ := H
  obtain ⟨a', c', rfl, -, hr', -, -⟩ := K
  have hnn : ((n : Int) != (n : Int)) = false := by simp
  go_enter Tryz.func138, Tryz.ntmps138
  go_wp2
  go_loopw [5] (fun i wr => ∃ q : Nat, q ≤ n ∧ i = .int .i64 q ∧ Below w.heap.size w wr) (fun i _ => n - (intOf i).toNat)
  case atStart => exact ⟨0, Nat.zero_le _, rfl, Below.refl _ _⟩
  case round =>
    obtain ⟨q, hq, rfl, hL⟩ := hrel
    by_cases hqm : q < n
    · have hqm' : (q : Int) < (n : Int) := by omega
      obtain ⟨b, off, rfl, q0, q1, q2⟩ := hr.rec3 hqm
      obtain ⟨b', off', rfl, p0, p1, p2⟩ := hr'.rec3 hqm
      have hb := block_lt_of_cell q0
      have hb' := block_lt_of_cell p0
      have QC : ∀ {b o : Nat} {v : Value}, b < w.heap.size → w.cell? ⟨b, o, none⟩ = some v → ∀ (d : Nat) (os : Array Obj), (grow (redrawn wr d) os).cell? ⟨b, o, none⟩ = some v := fun {b o v} hp h d os => ((below_regrown wr d os).cell (p := ⟨b, o, none⟩) (Nat.lt_of_lt_of_le hp hL.size)).trans ((hL.cell (p := ⟨b, o, none⟩) hp).trans h)
      have s0 := QC hb q0
      have s1 := QC hb q1
      have s2 := QC hb q2
      have t0 := QC hb' p0
      have t1 := QC hb' p1
      have t2 := QC hb' p2
      have wq : IntKind.i64.wrap (q : Int) = q := by rw [IntKind.wrap_i64]; omega
      clear QC q0 q1 q2 p0 p1 p2
      go_upto_region 6 with (fail)
      refine wp_region_quiet_below (by kernel_rfl) (by kernel_rfl) ?_
      repeat (quiet_step (first | (go_at_call 161; exact Calls.regrown_of (eqRec _ _ _ _))))
      refine wpQuiet_nil ?_
      intro _ hw'
      obtain ⟨⟨dq, osq⟩, hw''⟩ := hw'
      subst hw''
      have C2 := below_snoc hL (below_regrown wr dq osq)
      generalize grow (redrawn wr dq) osq = W2 at *
      clear hL
      go_wp2
      go_roundw
      case rel => exact ⟨q + 1, by omega, by go_num, C2⟩
      case measure => simp [intOf]; omega
    · have hqm' : ¬ (q : Int) < (n : Int) := by omega
      go_wp2
      go_ret
      exact ⟨rfl, hL⟩
theorem rowMark3 {w : World} {b off n q : Nat} {f : Nat → Int} {k : Int} (h : RowOf .i64 w (some ⟨b, off, none⟩) (n * 3) (fun i => if i < q * 3 then k + i else f i)) (hq : q < n) :
    RowOf .i64 (((w.setCell ⟨b, off + q * 3, none⟩ (.int .i64 (k + 3 * (q : Int)))).setCell ⟨b, off + q * 3 + 1, none⟩ (.int .i64 (k + 3 * (q : Int) + 1))).setCell ⟨b, off + q * 3 + 2, none⟩ (.int .i64 (k + 3 * (q : Int) + 1 + 1))) (some ⟨b, off, none⟩) (n * 3) (fun i => if i < (q + 1) * 3 then k + i else f i) := by
  have h1 := row_marked (x := k + 3 * (q : Int)) h (j := q * 3) (by omega)
  have h2 := row_marked (x := k + 3 * (q : Int) + 1) h1 (j := q * 3 + 1) (by omega)
  have h3 := row_marked (x := k + 3 * (q : Int) + 1 + 1) h2 (j := q * 3 + 2) (by omega)
  refine RowOf.congr h3 (fun i _ => ?_)
  by_cases e2 : i = q * 3 + 2
  · rw [if_pos e2, if_pos (by omega)]; omega
  · by_cases e1 : i = q * 3 + 1
    · rw [if_neg e2, if_pos e1, if_pos (by omega)]; omega
    · by_cases e0 : i = q * 3
      · rw [if_neg e2, if_neg e1, if_pos e0, if_pos (by omega)]; omega
      · rw [if_neg e2, if_neg e1, if_neg e0]
        by_cases hh : i < q * 3
        · rw [if_pos hh, if_pos (by omega)]
        · rw [if_neg hh, if_neg (by omega)]
set_option maxHeartbeats 1000000 in
theorem onMarkRecS (w : World) (D : Nat → Prop) (u : Value) (n : Nat) (f : Nat → Int) (k : Int) (H : RsOn w D u n f) (k0 : 0 ≤ k) (k1 : k ≤ 1099511627776) :
    Calls Tryz.prog 139 #[u, .int .i64 k] w fun e w' => e = .returned (.int .i64 (k + 3 * n)) ∧ RsOn w' D u n (fun i => k + i) ∧ Wrote (fun b _ => D b) w w' := by
  obtain ⟨a, c, rfl, hn, hr, hfr, hD⟩ := H
  go_enter Tryz.func139, Tryz.ntmps139
  go_wp2
  go_loopw [1, 5] (fun kk i wr => ∃ j : Nat, j ≤ n ∧ i = .int .i64 j ∧ kk = .int .i64 (k + 3 * (j : Int)) ∧ RowOf .i64 wr a (n * 3) (fun i => if i < j * 3 then k + i else f i) ∧ Wrote (fun b _ => D b) w wr) (fun _ i _ => n - (intOf i).toNat)
  case atStart => exact ⟨0, Nat.zero_le _, rfl, by simp, hr.congr (fun i _ => by simp), Wrote.refl _ _⟩
  case round =>
    obtain ⟨q, hq, rfl, rfl, hrow, hwr⟩ := hrel
    by_cases hlt : q < n
    · obtain ⟨b, off, rfl, q0, q1, q2⟩ := hrow.rec3 hlt
      have hlt' : (q : Int) < (n : Int) := by omega
      have z0 := (hfr.keep hwr b (off + q * 3) (foot_at (by omega))).2
      have z1 := (hfr.keep hwr b (off + q * 3 + 1) (foot_at (i := q * 3 + 1) (by omega))).2
      have z2 := (hfr.keep hwr b (off + q * 3 + 2) (foot_at (i := q * 3 + 2) (by omega))).2
      have hDb := hD b (off + q * 3) (foot_at (by omega))
      have HR := hide (rowMark3 hrow hlt)
      have HW := hide (((hwr.setCell (b := b) (o := off + q * 3) (fun _ => hDb) (.int .i64 (k + 3 * (q : Int)))).setCell (b := b) (o := off + q * 3 + 1) (fun _ => hDb) (.int .i64 (k + 3 * (q : Int) + 1))).setCell (b := b) (o := off + q * 3 + 2) (fun _ => hDb) (.int .i64 (k + 3 * (q : Int) + 1 + 1)))
      have wq : IntKind.i64.wrap (q : Int) = q := by rw [IntKind.wrap_i64]; omega
      clear hrow hwr
      go_wp2
      go_roundw
      case rel => exact ⟨q + 1, by omega, by go_num, by go_num, HR.out, HW.out⟩
      case measure => simp [intOf]; omega
    · have hlt' : ¬ (q : Int) < (n : Int) := by omega
      obtain rfl : q = n := by omega
      have HR := hide hrow
      clear hrow
      go_wp2
      go_ret
      exact ⟨rfl, ⟨_, _, rfl, hn, HR.out.congr (fun i hi => by rw [if_pos hi]), hfr.keep hwr, hD⟩, hwr⟩
/-- A ring in numbers: a cap, and a list of records on blocks of a kind. -/
structure RgOn (W : World) (D : Nat → Prop) (v : Value) (cap : Int) (n : Nat) (f : Nat → Int) : Prop where
  ex : ∃ u, v = .agg #[.int .i64 cap, u] ∧ RsOn W D u n f
section
variable {R : Nat → Nat → Prop} {W W' : World} {D E : Nat → Prop} {v : Value} {cap : Int} {n : Nat} {f : Nat → Int}
theorem RgOn.keep (H : RgOn W D v cap n f) (hw : Wrote R W W') (hd : ∀ b o, D b → b < W.heap.size → ¬ R b o) : RgOn W' D v cap n f := by
  obtain ⟨u, e, h⟩ := H
  exact ⟨u, e, h.keep hw hd⟩
theorem RgOn.below (H : RgOn W D v cap n f) (L : Below W.heap.size W W') : RgOn W' D v cap n f := H.keep (wrote_below L Nowhere) (fun _ _ _ _ x => x)
theorem RgOn.mono (H : RgOn W D v cap n f) (hd : ∀ b, b < W.heap.size → D b → E b) : RgOn W E v cap n f := by
  obtain ⟨u, e, h⟩ := H
  exact ⟨u, e, h.mono hd⟩
theorem RgOn.two (H : RgOn W D v cap n f) : ∃ a c, v = .agg #[.int .i64 cap, .slice a n c] := by
  obtain ⟨u, e, h⟩ := H
  obtain ⟨a, c, rfl⟩ := h.two
  exact ⟨a, c, e⟩
end
theorem onToRing (w : World) (a : Option Addr) (n c : Nat) (cap : Int) (f : Nat → Int) (hn : n ≤ 1048576) (H : RowOf .i64 w a (n * 3) f) :
    Calls Tryz.prog 109 #[.agg #[.int .i64 cap, .slice a n c]] w fun e w' => ∃ v, e = .returned v ∧ RgOn w' (fun b => w.heap.size ≤ b ∧ b < w'.heap.size) v cap n f ∧ Below w.heap.size w w' := by
  have HT := hide (fun W (L : Below w.heap.size w W) => toRecS W a n c f hn (H.keep (wrote_below L Nowhere) (fun _ _ _ x => x)))
  clear H
  have L0 : Below w.heap.size w (((w.alloc (.cells #[.int .i64 cap, .slice a n c] 64)).alloc (.cells #[.int .i64 0, .slice none 0 0] 38)).alloc (.cells #[.int .i64 cap, .slice none 0 0] 38)) := (((Below.refl _ _).alloc (Nat.le_refl _) _).alloc (by simp) _).alloc (by simp; omega) _
  have k1 : (((w.alloc (.cells #[.int .i64 cap, .slice a n c] 64)).alloc (.cells #[.int .i64 0, .slice none 0 0] 38)).alloc (.cells #[.int .i64 cap, .slice none 0 0] 38)).heap[w.heap.size + 1]? = some (.cells #[.int .i64 0, .slice none 0 0] 38 (0, 0)) := boxA (by simpa using box_new (w.alloc (.cells #[.int .i64 cap, .slice a n c] 64)) #[.int .i64 0, .slice none 0 0] 38) _
  have k2 : (((w.alloc (.cells #[.int .i64 cap, .slice a n c] 64)).alloc (.cells #[.int .i64 0, .slice none 0 0] 38)).alloc (.cells #[.int .i64 cap, .slice none 0 0] 38)).heap[w.heap.size + 1 + 1]? = some (.cells #[.int .i64 cap, .slice none 0 0] 38 (0, 0)) := by simpa using box_new ((w.alloc (.cells #[.int .i64 cap, .slice a n c] 64)).alloc (.cells #[.int .i64 0, .slice none 0 0] 38)) #[.int .i64 cap, .slice none 0 0] 38
  go_enter Tryz.func109, Tryz.ntmps109
  go_wp2_with fail
  generalize ((w.alloc (.cells #[.int .i64 cap, .slice a n c] 64)).alloc (.cells #[.int .i64 0, .slice none 0 0] 38)).alloc (.cells #[.int .i64 cap, .slice none 0 0] 38) = W0 at *
  refine (HT.out _ L0).mono ?_
  rintro e W1 ⟨v, rfl, R1, L⟩
  obtain ⟨va, vc, rfl⟩ := R1.two
  have hb2 := boxLt k2
  have C1 := below_snoc L0 L
  replace k1 := box_keep k1 L (boxLt k1)
  replace k2 := box_keep k2 L (boxLt k2)
  have c1 := boxC k1
  have c2 := boxC k2
  have f1 := boxF k1
  have f2 := boxF k2
  have ls := L.size
  have HR := hide R1
  have HC := hide C1
  clear L L0 HT R1 C1
  go_wp2
  refine bodyPost_ret (v := .agg #[.int .i64 cap, .slice va n vc]) (by simp [results, Tryz.results109, go_sem, c1]) rfl ?_
  have fin : ∀ W5, Wrote (fun b _ => b = w.heap.size + 1 ∨ b = w.heap.size + 1 + 1) W1 W5 → ∃ v, Ending.returned (.agg #[.int .i64 cap, .slice va n vc]) = .returned v ∧ RgOn W5 (fun b => w.heap.size ≤ b ∧ b < W5.heap.size) v cap n f ∧ Below w.heap.size w W5 := fun W5 h => ⟨_, rfl, ⟨_, rfl, (HR.out.keep h (fun b o hb _ e => by obtain ⟨h1, h2⟩ := hb; omega)).mono (fun b hb h1 => ⟨by omega, hb⟩)⟩, HC.out.trans (h.below HC.out.size (fun b o hb e => by omega))⟩
  refine fin _ ?_
  repeat (first | with_reducible exact Wrote.refl _ _ | with_reducible refine Wrote.drew ?_ | with_reducible refine Wrote.setCell ?_ (fun _ => by omega) _)
theorem onEqRing (w : World) (D E : Nat → Prop) (u v : Value) (cap : Int) (n : Nat) (f : Nat → Int) (H : RgOn w D u cap n f) (K : RgOn w E v cap n f) :
    Calls Tryz.prog 101 #[u, v] w fun e w' => e = .returned (.bool true) ∧ Below w.heap.size w w' := by
  obtain ⟨x, rfl, h⟩ := H
  obtain ⟨y, rfl, k⟩ := K
  obtain ⟨xa, xc, rfl⟩ := h.two
  obtain ⟨ya, yc, rfl⟩ := k.two
  have L0 : Below w.heap.size w ((w.alloc (.cells #[.int .i64 cap, .slice xa n xc] 38)).alloc (.cells #[.int .i64 cap, .slice ya n yc] 38)) := ((Below.refl _ _).alloc (Nat.le_refl _) _).alloc (by simp) _
  have hcc : (cap != cap) = false := by simp
  have HE := hide (onEqRecS _ _ _ _ _ n f (h.below L0) (k.below L0))
  clear h k
  go_enter Tryz.func101, Tryz.ntmps101
  go_wp2_with fail
  refine HE.out.mono ?_
  rintro e W1 ⟨rfl, L⟩
  have C1 := below_snoc L0 L
  clear L L0 HE
  go_wp2
  go_ret
  exact ⟨rfl, C1⟩
theorem onMarkRing (w : World) (D : Nat → Prop) (v : Value) (cap : Int) (n : Nat) (f : Nat → Int) (k : Int) (H : RgOn w D v cap n f) (k0 : 0 ≤ k) (k1 : k ≤ 1099511627776) :
    Calls Tryz.prog 102 #[v, .int .i64 k] w fun e w' => e = .returned (.int .i64 (k + 3 * n)) ∧ RgOn w' D v cap n (fun i => k + i) ∧ Wrote (fun b _ => D b) w w' := by
  obtain ⟨x, rfl, h⟩ := H
  obtain ⟨xa, xc, rfl⟩ := h.two
  have W0 := (Wrote.refl (fun b _ => D b) w).alloc (.cells #[.int .i64 cap, .slice xa n xc] 38)
  have HE := hide (onMarkRecS _ D _ n f k (h.below ((Below.refl w.heap.size w).alloc (Nat.le_refl _) (.cells #[.int .i64 cap, .slice xa n xc] 38))) k0 k1)
  obtain ⟨z, hz⟩ : ∃ z, Hid (z = k + 3 * (n : Int)) := ⟨_, rfl⟩
  rw [← hz.out] at HE ⊢
  clear h hz
  go_enter Tryz.func102, Tryz.ntmps102
  go_wp2_with fail
  refine HE.out.mono ?_
  rintro e W1 ⟨rfl, R1, T1⟩
  have HP := hide (And.intro R1 (W0.trans T1))
  clear R1 T1 W0 HE
  go_wp2
  go_ret
  exact ⟨rfl, ⟨_, rfl, HP.out.1⟩, HP.out.2⟩
end Go.Proofs.YtjcaligejlhjdaaGreat
