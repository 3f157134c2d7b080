/-
  Chapter 17: what is seen, held against each other: ObsBegins, ObsSame.
-/
import Derived.Test.YtjcaligejlhjdaaGreatKO
import Derived.Test.YtjcaligejlhjdaaGreatE2
import Derived.Test.YtjcaligejlhjdaaGreatKIb
import Derived.Test.YtjcaligejlhjdaaGreatJ2
import Derived.BigQuiet
import Derived.Deep.RegionHeld3
import Derived.Laws.CopyRow
import Derived.Laws.IdiomCopy
import Derived.Deep.DeepCutAuto
namespace Go.Proofs.YtjcaligejlhjdaaGreat
set_option linter.unusedVariables false
set_option linter.unusedSimpArgs false
open Go.ChangeShapes Go.WideShapes Go.ChangeAt Go.RowKit
/-- What is seen, in numbers. -/
structure ObD where
  mf : Nat
  lf : Nat → Nat
  fr : Nat → Nat → Int
  ns : Nat
  sm : Nat → Int
  nq : Nat
  rd : Nat → Int
def ObA (W : World) (D : Nat → Nat → Prop) (v : Value) (o : ObD) : Prop := ObsOn W D v o.mf o.lf o.fr o.ns o.sm o.nq o.rd
theorem ListOn.ints17 {W : World} {D : Nat → Prop} {u : Value} {n : Nat} {f : Nat → Int} (H : ListOn W D u n f) : Ints .i64 W (On D) u n f := by
  obtain ⟨d, z, rfl, h⟩ := H
  exact h.ints z
theorem ObsOn.below {W W' : World} {D : Nat → Nat → Prop} {v : Value} {mf : Nat} {lf : Nat → Nat} {fr : Nat → Nat → Int} {ns : Nat} {sm : Nat → Int} {nq : Nat} {rd : Nat → Int} (H : ObsOn W D v mf lf fr ns sm nq rd) (L : Below W.heap.size W W') : ObsOn W' D v mf lf fr ns sm nq rd := by
  obtain ⟨u5, u6, u7, rfl, h5, h6, h7⟩ := H
  exact ⟨u5, u6, u7, rfl, h5.below L, h6.below L, h7.below L⟩

end Go.Proofs.YtjcaligejlhjdaaGreat
namespace Go.Proofs.YtjcaligejlhjdaaGreat
set_option linter.unusedVariables false
set_option linter.unusedSimpArgs false
open Go.ChangeShapes Go.WideShapes Go.ChangeAt Go.RowKit
theorem ownsRow_made {W : World} {lo g n : Nat} {e : TypeId} {vs : List Value} (h : W.heap[g]? = some (.cells vs.toArray e (0, 0))) (hl : vs.length = n) (hg : lo ≤ g) (hn : n ≤ 1048576) : W.ownsRow lo e 1 (.slice (some ⟨g, 0, none⟩) n n) n vs :=
  ⟨by omega, Or.inr ⟨g, n, vs.toArray, rfl, hg, h, Nat.le_refl _, by unfold maxLen; omega, by simp; omega, by simp only [Nat.mul_one]; exact List.take_of_length_le (by omega)⟩⟩

theorem listCopyI (w : World) (F : Nat → Nat → Prop) (v : Value) (n : Nat) (f : Nat → Int) (H : Ints .i64 w F v n f) :
    Calls Tryz.prog 68 #[v] w fun e w' => ∃ y o, e = .returned y ∧ RowAt w' w.heap.size o y n f ∧ (∀ b, o = some b → b < w'.heap.size) ∧ Below w.heap.size w w' := by
  obtain ⟨a, cap, rfl, hn, hrow, -⟩ := id H
  have hmk := run_make_row' (P := Tryz.prog) 25 3 (.int .i64 0) 8 Tryz.underlying25 info3 rfl .i64 .i64 n (by omega) (by omega)
  have B1 : Below w.heap.size w (w.alloc (.cells (madeCells #[.int .i64 0] n) 3)) := (Below.refl _ _).alloc (Nat.le_refl _) _
  have hgx : (w.alloc (.cells (madeCells #[.int .i64 0] n) 3)).heap[w.heap.size]? = some (.cells (madeCells #[.int .i64 0] n) 3 (0, 0)) := by show (w.heap.push _)[w.heap.size]? = _; simp
  have hlt : w.heap.size < (w.alloc (.cells (madeCells #[.int .i64 0] n) 3)).heap.size := by simp
  obtain ⟨cs, hcs⟩ : ∃ cs : List Value, Hid (cs = rowVals n f) := ⟨_, rfl⟩
  have hcl : cs.length = n := by rw [hcs.out]; exact rowVals_len n f
  obtain ⟨W3, hrun, hG, hB, hsz⟩ : ∃ W3, (Builtin.copy_ #[25, 25] 3 #[.slice (some ⟨w.heap.size, 0, none⟩) n n, .slice a n cap]).run Tryz.prog (w.alloc (.cells (madeCells #[.int .i64 0] n) 3)) = .ok (.int .i64 n) W3 ∧ Hid (W3.heap[w.heap.size]? = some (.cells cs.toArray 3 (0, 0))) ∧ Hid (Below w.heap.size w W3) ∧ Hid (W3.heap.size = w.heap.size + 1) := by
    obtain ⟨zs, hzl, hgz⟩ : ∃ zs : List Value, zs.length = n ∧ (w.alloc (.cells (madeCells #[.int .i64 0] n) 3)).heap[w.heap.size]? = some (.cells zs.toArray 3 (0, 0)) := ⟨(madeCells #[.int .i64 0] n).toList, by simp [madeCells], by rw [Array.toArray_toList]; exact hgx⟩
    by_cases h0 : n = 0
    · subst h0
      have hz : zs = [] := List.length_eq_zero_iff.1 hzl
      have hc : cs = [] := List.length_eq_zero_iff.1 hcl
      rw [hz] at hgz
      rw [hc]
      refine ⟨_, run_copy_none (P := Tryz.prog) _ 25 25 3 3 (some ⟨w.heap.size, 0, none⟩) a 0 0 0 cap Tryz.underlying25 (by kernel_rfl) rfl, hgz, B1, by show _ = _; simp⟩
    · have hsrc : ∃ rb ro, a = some ⟨rb, ro, none⟩ ∧ ∀ j v, cs[j]? = some v → (w.alloc (.cells (madeCells #[.int .i64 0] n) 3)).cell? ((⟨rb, ro, none⟩ : Addr).add j) = some v := by
        rw [hcs.out]
        obtain ⟨rb, ro, rfl, -⟩ := hrow 0 (by omega)
        exact ⟨rb, ro, rfl, rowVals_cells (hrow.keep (wrote_below B1 Nowhere) (fun _ _ _ x => x))⟩
      obtain ⟨rb, ro, rfl, hsrc⟩ := hsrc
      have hcp := run_copy_row (P := Tryz.prog) (w.alloc (.cells (madeCells #[.int .i64 0] n) 3)) 25 25 3 3 w.heap.size 0 n n ⟨rb, ro, none⟩ n cap zs.toArray 3 cs Tryz.underlying25 (by kernel_rfl) hgz (by rw [hcl]; simp) hsrc (by rw [hcl]; simp [hzl]) (by rw [hcs.out]; exact rowVals_one _ _)
      have ers : (zs.toArray.toList.take 0 ++ cs ++ zs.toArray.toList.drop (0 + cs.length)) = cs := by rw [hcl]; simp [hzl]
      rw [ers, hcl] at hcp
      exact ⟨_, hcp, setRow_heap _ w.heap.size zs.toArray cs.toArray 3 (0, 0) hgz, below_setRow B1 (Nat.le_refl _) _, by show _ = _; simp [World.setRow]⟩
  clear B1 hgx hlt H
  have hcl' := hide hcl
  clear hcl
  go_enter Tryz.func68, Tryz.ntmps68
  go_wp2
  go_ret
  have hO : W3.ownsRow w.heap.size 3 1 (.slice (some ⟨w.heap.size, 0, none⟩) n n) n cs := ownsRow_made hG.out hcl'.out (Nat.le_refl _) hn
  rw [hcs.out] at hO
  exact ⟨_, some w.heap.size, rfl, ⟨n, rfl, ⟨hO, hn⟩⟩, fun b e => by have := hsz.out; cases e; omega, hB.out⟩

theorem listCopyS (w : World) (F : Nat → Nat → Prop) (v : Value) (n : Nat) (ln : Nat → Nat) (f : Nat → Nat → Int) (H : IntSS .i64 w F v n ln f) :
    Calls Tryz.prog 147 #[v] w fun e w' => ∃ y ov, e = .returned y ∧ w'.ownsRow w.heap.size 25 1 y n (valsOf n ov) ∧ (∀ i, i < n → Ints .i64 w F (ov i) (ln i) (f i)) ∧ Below w.heap.size w w' := by
  obtain ⟨a, cap, rfl, hn, -, -⟩ := id H
  obtain ⟨ov, hov, hcell⟩ := H.vals
  have hmk := run_make_row' (P := Tryz.prog) 22 25 (.slice none 0 0) 24 Tryz.underlying22 infoInts rfl .i64 .i64 n (by omega) (by omega)
  have B1 : Below w.heap.size w (w.alloc (.cells (madeCells #[.slice none 0 0] n) 25)) := (Below.refl _ _).alloc (Nat.le_refl _) _
  have hgx : (w.alloc (.cells (madeCells #[.slice none 0 0] n) 25)).heap[w.heap.size]? = some (.cells (madeCells #[.slice none 0 0] n) 25 (0, 0)) := by show (w.heap.push _)[w.heap.size]? = _; simp
  have hlt : w.heap.size < (w.alloc (.cells (madeCells #[.slice none 0 0] n) 25)).heap.size := by simp
  obtain ⟨cs, hcs⟩ : ∃ cs : List Value, Hid (cs = valsOf n ov) := ⟨_, rfl⟩
  have hcl : cs.length = n := by rw [hcs.out]; exact valsOf_len n ov
  obtain ⟨W3, hrun, hG, hB, hsz⟩ : ∃ W3, (Builtin.copy_ #[22, 22] 3 #[.slice (some ⟨w.heap.size, 0, none⟩) n n, .slice a n cap]).run Tryz.prog (w.alloc (.cells (madeCells #[.slice none 0 0] n) 25)) = .ok (.int .i64 n) W3 ∧ Hid (W3.heap[w.heap.size]? = some (.cells cs.toArray 25 (0, 0))) ∧ Hid (Below w.heap.size w W3) ∧ Hid (W3.heap.size = w.heap.size + 1) := by
    obtain ⟨zs, hzl, hgz⟩ : ∃ zs : List Value, zs.length = n ∧ (w.alloc (.cells (madeCells #[.slice none 0 0] n) 25)).heap[w.heap.size]? = some (.cells zs.toArray 25 (0, 0)) := ⟨(madeCells #[.slice none 0 0] n).toList, by simp [madeCells], by rw [Array.toArray_toList]; exact hgx⟩
    by_cases h0 : n = 0
    · subst h0
      have hz : zs = [] := List.length_eq_zero_iff.1 hzl
      have hc : cs = [] := List.length_eq_zero_iff.1 hcl
      rw [hz] at hgz
      rw [hc]
      refine ⟨_, run_copy_none (P := Tryz.prog) _ 22 22 3 25 (some ⟨w.heap.size, 0, none⟩) a 0 0 0 cap Tryz.underlying22 (by kernel_rfl) rfl, hgz, B1, by show _ = _; simp⟩
    · have hsrc : ∃ rb ro, a = some ⟨rb, ro, none⟩ ∧ ∀ j v, cs[j]? = some v → (w.alloc (.cells (madeCells #[.slice none 0 0] n) 25)).cell? ((⟨rb, ro, none⟩ : Addr).add j) = some v := by
        rw [hcs.out]
        obtain ⟨rb, ro, rfl, -⟩ := hcell 0 (by omega)
        refine ⟨rb, ro, rfl, fun j v hv => ?_⟩
        obtain ⟨hj, rfl⟩ := valsOf_lt hv
        obtain ⟨b, off, e, hcj⟩ := hcell j hj
        simp only [Option.some.injEq, Addr.mk.injEq, and_true] at e
        obtain ⟨rfl, rfl⟩ := e
        rw [add_at]
        exact (B1.cell (block_lt_of_cell hcj)).trans hcj
      obtain ⟨rb, ro, rfl, hsrc⟩ := hsrc
      have hcp := run_copy_row (P := Tryz.prog) (w.alloc (.cells (madeCells #[.slice none 0 0] n) 25)) 22 22 3 25 w.heap.size 0 n n ⟨rb, ro, none⟩ n cap zs.toArray 25 cs Tryz.underlying22 (by kernel_rfl) hgz (by rw [hcl]; simp) hsrc (by rw [hcl]; simp [hzl]) (by rw [hcs.out]; exact (fun v hv => by
        obtain ⟨i, hi⟩ := List.mem_iff_getElem?.1 hv
        obtain ⟨hj, rfl⟩ := valsOf_lt hi
        obtain ⟨x, y, e, -⟩ := hov i hj
        rw [e]; simp [Value.oneCell']))
      have ers : (zs.toArray.toList.take 0 ++ cs ++ zs.toArray.toList.drop (0 + cs.length)) = cs := by rw [hcl]; simp [hzl]
      rw [ers, hcl] at hcp
      exact ⟨_, hcp, setRow_heap _ w.heap.size zs.toArray cs.toArray 25 (0, 0) hgz, below_setRow B1 (Nat.le_refl _) _, by show _ = _; simp [World.setRow]⟩
  clear B1 hgx hlt H
  have hcl' := hide hcl
  clear hcl
  go_enter Tryz.func147, Tryz.ntmps147
  go_wp2
  go_ret
  have hO : W3.ownsRow w.heap.size 25 1 (.slice (some ⟨w.heap.size, 0, none⟩) n n) n cs := ownsRow_made hG.out hcl'.out (Nat.le_refl _) hn
  rw [hcs.out] at hO
  exact ⟨_, ov, rfl, hO, hov, hB.out⟩

set_option maxHeartbeats 1000000 in
theorem framesCopy (w : World) (F : Nat → Nat → Prop) (u : Value) (m : Nat) (ln : Nat → Nat) (f : Nat → Nat → Int) (H : IntSS .i64 w F u m ln f) :
    Calls Tryz.prog 115 #[u] w fun e w' => ∃ v ob iv ov, e = .returned v ∧ SA w' w.heap.size v m m ob iv ov ln f ∧ Below w.heap.size w w' := by
  obtain ⟨ua, ucap, rfl, um, -, -⟩ := id H
  have HC := hide (listCopyS w F _ m ln f H)
  clear H
  go_enter Tryz.func115, Tryz.ntmps115
  go_wp2_with fail
  refine HC.out.mono ?_
  rintro e W1 ⟨v, ov, rfl, O1, HI, L1⟩
  have S1 : SA W1 w.heap.size v m 0 (fun _ => none) ov ov ln f := ⟨by rw [valsOf_congr (g := ov) (fun i hi => if_neg (Nat.not_lt_zero _))]; exact O1, fun i hi => absurd hi (Nat.not_lt_zero _), fun i j hi => absurd hi (Nat.not_lt_zero _), fun g hg i hi => absurd hi (Nat.not_lt_zero _), um⟩
  obtain ⟨va, vc, rfl⟩ := S1.form
  have HV := hide HI
  clear HI O1 HC
  go_wp2
  go_loopw [10] (fun i wr => ∃ (q : Nat) (ob : Nat → Option Nat) (iv : Nat → Value), q ≤ m ∧ i = .int .i64 q ∧ SA wr w.heap.size (.slice va m vc) m q ob iv ov ln f ∧ Below w.heap.size w wr) (fun i _ => m - (intOf i).toNat)
  case atStart => exact ⟨0, _, _, Nat.zero_le _, rfl, S1, L1⟩
  case round =>
    obtain ⟨q, ob, iv, hq, rfl, hS, hL⟩ := hrel
    clear S1 L1
    by_cases hqm : q < m
    · have hqm' : (q : Int) < (m : Int) := by omega
      obtain ⟨g, cur, rfl, hlo, hg⟩ : ∃ g cur, va = some ⟨g, 0, none⟩ ∧ w.heap.size ≤ g ∧ wr.heap[g]? = some (.cells cur 25 (0, 0)) := by
        rcases id hS.own.2 with ⟨e, e0⟩ | ⟨g, c, cur, hv, hb, hg, -⟩
        · have h0 : m = 0 := e0
          omega
        · simp only [Value.slice.injEq, true_and] at hv
          exact ⟨g, cur, hv.1, hb, hg⟩
      have hc : wr.cell? ⟨g, q, none⟩ = some (ov q) := by
        have := hS.cell hqm
        rwa [if_neg (Nat.lt_irrefl _)] at this
      have HI := hide (HV.out q hqm)
      obtain ⟨xa, xc, hov, xn, -, -⟩ := id HI.out
      rw [hov] at hc HI
      have wq : IntKind.i64.wrap (q : Int) = q := by rw [IntKind.wrap_i64]; omega
      have HS := hide hS
      clear hS
      go_wp2_with fail
      refine (listCopyI _ F _ (ln q) (f q) (HI.out.keep (wrote_below hL Nowhere) (fun _ _ _ x => x))).mono ?_
      rintro e W2 ⟨y, o, rfl, RN, -, L2⟩
      obtain ⟨ra, rx, rfl⟩ := RN.form
      have hbl := boxLt hg
      have hg2 := box_keep hg L2 hbl
      have f2 := boxF hg2 q
      have c2 : W2.cell? ⟨g, q, none⟩ = some (.slice xa (ln q) xc) := (L2.cell hbl).trans hc
      have S2 := hide (HS.out.below L2)
      have LB := hide (below_snoc hL L2)
      have fr : ∀ b, o = some b → wr.heap.size ≤ b := fun b hb => by subst hb; exact RN.lt.1
      have hin : ∀ i b, i < q → ob i = some b → b < wr.heap.size := fun i b hi hb => by have := HS.out.rows i hi; rw [hb] at this; exact this.lt.2
      have RN' := hide (RN.mono hL.size)
      clear HS RN hL L2 hg hc HI hg2
      go_wp2
      go_roundw
      case rel => exact ⟨q + 1, _, _, by omega, by go_num, S2.out.next RN'.out (fun e => by have := fr g e; omega) (fun i hi b h1 h2 => by have := fr b h2; have := hin i b hi h1; omega), LB.out.setCell hlo _⟩
      case measure => simp [intOf]; omega
    · have hqm' : ¬ (q : Int) < (m : Int) := by omega
      obtain rfl : q = m := by omega
      have HP := hide (And.intro hS hL)
      clear hS hL HV
      go_wp2
      go_ret
      exact ⟨_, rfl, ⟨ob, iv, ov, HP.out.1⟩, HP.out.2⟩
end Go.Proofs.YtjcaligejlhjdaaGreat
