/-
  The program's BankOf: a new list of the bytes of the bank that n leads to, or nothing.
-/
import Derived.Test.YtpaedkefmebjjajB2
import Derived.Test.YtpaedkefmebjjajI2
import Derived.Laws.CopyOwn
namespace Go.Proofs.Ytpaedkefmebjjaj
open Go.ChangeShapes Go.WideShapes Go.ChangeAt Go.RowKit
theorem leftBy (x : Int) (m : Nat) (w : World) (h1 : 1 ≤ m) (h8 : m ≤ 8) : Calls Try.prog 36 #[.int .i64 x, .int .i64 m] w fun e w' => e = .returned (.int .i64 (bankIx m x)) ∧ w' = w := by
  obtain ⟨t1, t2, he⟩ := bankIx_eq x h1 h8
  have hb := bankIx_lt x h1
  have hq : (x.tmod m < 0 → x.tmod m + m = bankIx m x) ∧ (¬ x.tmod m < 0 → x.tmod m = bankIx m x) := by
    unfold bankIx
    have h1 := Int.emod_nonneg x (show (m : Int) ≠ 0 by omega)
    rw [Int.toNat_of_nonneg h1]
    have hm : m = 1 ∨ m = 2 ∨ m = 3 ∨ m = 4 ∨ m = 5 ∨ m = 6 ∨ m = 7 ∨ m = 8 := by omega
    rcases tmod_cases x m with ⟨h0, e⟩ | ⟨h0, e⟩ <;> rw [e] <;> rcases hm with rfl | rfl | rfl | rfl | rfl | rfl | rfl | rfl <;> refine ⟨fun _ => by omega, fun _ => by omega⟩
  have HQ := hide hq
  clear hq he
  by_cases hn : x.tmod m < 0
  · go_enter Try.func36, Try.ntmps36
    go_wp2
    go_ret
    exact ⟨ret_int ((unhide HQ).1 hn), rfl⟩
  · go_enter Try.func36, Try.ntmps36
    go_wp2
    go_ret
    exact ⟨ret_int ((unhide HQ).2 (by omega)), rfl⟩
theorem own_block {w : World} {lo g n : Nat} {f : Nat → Int} (h : w.heap[g]? = some (.cells (rowVals n f).toArray 3 (0, 0))) (hg : lo ≤ g) (hn : n ≤ 1048576) : OwnInts w lo (.slice (some ⟨g, 0, none⟩) n n) n f := by
  have hc := World.news_of_block h
  have hz : g < w.heap.size := (Array.getElem?_eq_some_iff.1 h).1
  refine ⟨_, n, rfl, hn, fun i hi => ⟨g, 0, rfl, ?_⟩, fun b o hF => ?_, fun b o hF => ?_⟩
  · have := hc i (.int .i64 (f i)) (rowVals_get n f i hi)
    rw [add_at] at this
    exact this
  · obtain ⟨off, e, _⟩ := hF
    simp only [Option.some.injEq, Addr.mk.injEq, and_true] at e
    obtain ⟨rfl, rfl⟩ := e
    refine ⟨hz, ?_⟩
    simp [World.frozen?, h]
  · obtain ⟨off, e, _⟩ := hF
    simp only [Option.some.injEq, Addr.mk.injEq, and_true] at e
    omega
set_option maxHeartbeats 1000000 in
theorem implBankOf (w : World) (F : Nat → Nat → Prop) (v : Value) (m : Nat) (ln : Nat → Nat) (f : Nat → Nat → Int) (n : Int) (H : IntSS .i64 w F v m ln f) :
    Calls Try.prog 21 #[.agg #[v], .int .i64 n] w fun e w' => ∃ u, e = .returned u ∧ OwnInts w' w.heap.size u (bankLen m ln f) (f (bankIx m n)) ∧ Below w.heap.size w w' := by
  have L0 : Below w.heap.size w (w.alloc (.cells #[v] 29)) := (Below.refl _ _).alloc (Nat.le_refl _) _
  have H0 := H.keep (wrote_below L0 Nowhere) (fun _ _ _ x => x)
  cases hok : okImg m ln f
  · have hbl : bankLen m ln f = 0 := by simp [bankLen, hok]
    rw [hbl]
    go_enter Try.func21, Try.ntmps21
    go_wp2_with fail
    refine (implImageOk _ F v m ln f H0).mono ?_
    rintro e w1 ⟨rfl, L1⟩
    rw [hok]
    go_wp2
    go_ret
    exact ⟨_, rfl, ⟨_, _, rfl, by omega, fun i hi => absurd hi (Nat.not_lt_zero _), fun b o hF => absurd hF (foot_none _ _ _), fun b o hF => absurd hF (foot_none _ _ _)⟩, (L0.trans (L1.mono (by simp))).alloc (Nat.le_trans (by simp) L1.size) _⟩
  · have hbl : bankLen m ln f = 256 := by simp [bankLen, hok]
    rw [hbl]
    obtain ⟨hbs, hm1, hm8⟩ := okImg_of hok
    go_enter Try.func21, Try.ntmps21
    go_wp2_with fail
    refine (implImageOk _ F v m ln f H0).mono ?_
    rintro e w1 ⟨rfl, L1⟩
    rw [hok]
    have b1 : w1.cell? ⟨w.heap.size, 0, none⟩ = some v := (L1.cell (by simp)).trans (by go_simp)
    obtain ⟨a, cap, rfl, hm, -, hc⟩ := H0.keep (wrote_below L1 Nowhere) (fun _ _ _ x => x)
    have hmk := run_make_row' (P := Try.prog) 38 3 (.int .i64 0) 8 Try.underlying38 info3 rfl .i64 .i64 256 (by omega) (by omega)
    rw [show ((256 : Nat) : Int) = 256 from rfl] at hmk
    have hix := bankIx_lt n hm1
    have hix' : (bankIx m n : Int) < (m : Int) := by omega
    obtain ⟨b, off, u, rfl, hcell, a', cap', rfl, hn', hrow, -⟩ := hc (bankIx m n) hix
    have hl := (okBank_of (hbs _ hix)).1
    rw [hl] at hcell hrow
    obtain ⟨rb, ro, rfl, -⟩ := hrow 0 (by omega)
    have z1 : w.heap.size < w1.heap.size := by have := L1.size; simp at this; omega
    have z2 := block_lt_of_cell hcell
    have B2 : Below w1.heap.size w1 (w1.alloc (.cells (madeCells #[.int .i64 0] 256) 3)) := (Below.refl _ _).alloc (Nat.le_refl _) _
    have hrow2 := hrow.keep (wrote_below B2 Nowhere) (fun _ _ _ x => x)
    have HR := hide hrow2
    have hbx : (w1.alloc (.cells (madeCells #[.int .i64 0] 256) 3)).cell? ⟨w.heap.size, 0, none⟩ = some (.slice (some ⟨b, off, none⟩) m cap) := (B2.cell z1).trans b1
    have hcx : (w1.alloc (.cells (madeCells #[.int .i64 0] 256) 3)).cell? ⟨b, off + bankIx m n, none⟩ = some (.slice (some ⟨rb, ro, none⟩) 256 cap') := (B2.cell z2).trans hcell
    have hgx : (w1.alloc (.cells (madeCells #[.int .i64 0] 256) 3)).heap[w1.heap.size]? = some (.cells (madeCells #[.int .i64 0] 256) 3 (0, 0)) := by show (w1.heap.push _)[w1.heap.size]? = _; simp
    have hsz : (w1.alloc (.cells (madeCells #[.int .i64 0] 256) 3)).heap.size = w1.heap.size + 1 := by simp
    clear hrow hrow2 hc hbs H0 H b1 hcell
    go_wp2_with fail
    generalize w1.alloc (.cells (madeCells #[.int .i64 0] 256) 3) = wa at *
    obtain ⟨zs, hzl, hgz⟩ : ∃ zs : List Value, zs.length = 256 ∧ Hid (wa.heap[w1.heap.size]? = some (.cells zs.toArray 3 (0, 0))) := ⟨(madeCells #[.int .i64 0] 256).toList, by simp [madeCells], by show _ = _; rw [Array.toArray_toList]; exact hgx⟩
    clear hgx
    have hcp := run_copy_row (P := Try.prog) wa.drew 38 38 3 3 w1.heap.size 0 256 256 ⟨rb, ro, none⟩ 256 cap' zs.toArray 3 (rowVals 256 (f (bankIx m n))) Try.underlying38 (by kernel_rfl) (unhide hgz) (by rw [rowVals_len]; rfl) (by exact rowVals_cells (unhide HR)) (by rw [rowVals_len]; simp [hzl]) (rowVals_one _ _)
    have ers : (zs.toArray.toList.take 0 ++ rowVals 256 (f (bankIx m n)) ++ zs.toArray.toList.drop (0 + (rowVals 256 (f (bankIx m n))).length)) = rowVals 256 (f (bankIx m n)) := by rw [rowVals_len]; simp [hzl]
    rw [ers, rowVals_len] at hcp
    have HS := hide (setRow_heap wa.drew w1.heap.size zs.toArray (rowVals 256 (f (bankIx m n))).toArray 3 (0, 0) (unhide hgz))
    have hB3 : Below w1.heap.size w1 (wa.drew.setRow w1.heap.size (rowVals 256 (f (bankIx m n))).toArray) := below_setRow B2.drew (Nat.le_refl _) _
    have hcp2 : (Builtin.copy_ #[38, 38] 3 #[.slice (some ⟨w1.heap.size, 0, none⟩) 256 256, .slice (some ⟨rb, ro, none⟩) 256 cap']).run Try.prog wa.drew = .ok (.int .i64 256) (wa.drew.setRow w1.heap.size (rowVals 256 (f (bankIx m n))).toArray) := hcp
    clear ers hcp hmk hgz HR
    generalize wa.drew.setRow w1.heap.size (rowVals 256 (f (bankIx m n))).toArray = w3 at *
    go_region_with (first | (go_at_call 36; refine (leftBy _ m _ hm1 hm8).mono ?_; rintro e w' ⟨rfl, rfl⟩))
    all_goals
      go_wp2
      go_ret
      exact ⟨_, rfl, own_block (unhide HS) (by omega) (by omega), (L0.trans (L1.mono (by simp))).trans (hB3.mono (by omega))⟩
end Go.Proofs.Ytpaedkefmebjjaj
