/-
  The program's memory (chapter 6): what is read, copied, put, by their contracts.
-/
import Derived.Test.YtpaedkefmebjjarGreatCA
import Derived.Test.YtpaedkefmebjjarGreatI6b
import Derived.ArgAppend
import Derived.Deep.RegionLaw
import Derived.Deep.RegionHeld3
namespace Go.Proofs.YtpaedkefmebjjarGreat
set_option linter.unusedVariables false
open Go.ChangeShapes Go.WideShapes Go.ChangeAt Go.RowKit
def peekV (m : Nat) (ln : Nat → Nat) (f : Nat → Nat → Int) (n : Nat) (g : Nat → Int) (bank x : Int) : Int := if okMem m ln f n g bank then peekOf m f g bank (x % 65536) else 0
set_option maxHeartbeats 1000000 in
theorem implPeek (w : World) (F G : Nat → Nat → Prop) (v u : Value) (m : Nat) (ln : Nat → Nat) (f : Nat → Nat → Int) (n : Nat) (g : Nat → Int) (bank x : Int) (H : IntSS .i64 w F v m ln f) (K : Ints .i64 w G u n g) :
    Calls Tryz.prog 89 #[.agg #[v], .agg #[u, .int .i64 bank], .int .i64 x] w fun e w' => e = .returned (.int .i64 (peekV m ln f n g bank x)) ∧ Below w.heap.size w w' := by
  have L0 : Below w.heap.size w ((w.alloc (.cells #[v] 41)).alloc (.cells #[u, .int .i64 bank] 42)) := ((Below.refl _ _).alloc (Nat.le_refl _) _).alloc (by simp) _
  have H0 := H.keep (wrote_below L0 Nowhere) (fun _ _ _ x => x)
  have K0 := K.keep (wrote_below L0 Nowhere) (fun _ _ _ x => x)
  obtain ⟨ia, icap, rfl, im, -, -⟩ := H
  obtain ⟨ua, ucap, rfl, un, -, -⟩ := K
  have a0 : 0 ≤ x % 65536 := by omega
  have a1 : x % 65536 < 65536 := by omega
  go_enter Tryz.func89, Tryz.ntmps89
  go_wp2_with fail
  refine (implMemOk _ F G _ _ m ln f n g bank H0 K0).mono ?_
  rintro e w1 ⟨rfl, L1⟩
  have c1 : w1.cell? ⟨w.heap.size, 0, none⟩ = some (.slice ia m icap) := (L1.cell (by simp; omega)).trans (by go_simp)
  have c2 : w1.cell? ⟨w.heap.size + 1, 0, none⟩ = some (.slice ua n ucap) := (L1.cell (by simp)).trans (by go_simp)
  have c3 : w1.cell? ⟨w.heap.size + 1, 1, none⟩ = some (.int .i64 bank) := (L1.cell (by simp)).trans (by go_simp)
  have hz : w.heap.size + 2 ≤ w1.heap.size := by have := L1.size; simp at this; omega
  have C1 := L0.trans (L1.mono L0.size)
  have H1 := H0.keep (wrote_below L1 Nowhere) (fun _ _ _ x => x)
  have K1 := K0.keep (wrote_below L1 Nowhere) (fun _ _ _ x => x)
  clear L1 L0 H0 K0
  cases hO : okMem m ln f n g bank
  · have HE : Hid (peekV m ln f n g bank x = 0) := by show _ = _; unfold peekV; rw [hO]; rfl
    clear hO
    go_wp2
    go_ret
    exact ⟨ret_int HE.out.symm, C1⟩
  · have HE : Hid (peekV m ln f n g bank x = peekOf m f g bank (x % 65536)) := by show _ = _; unfold peekV; rw [hO]; rfl
    have HO := hide hO
    clear hO
    have HH := hide (show IntSS .i64 w1.drew F _ m ln f from H1)
    have HK := hide (show Ints .i64 w1.drew G _ n g from K1)
    clear H1 K1
    go_wp2_with fail
    go_region_held3 (fun w' => w'.cell? ⟨w.heap.size, 0, none⟩ = some (.slice ia m icap) ∧ w'.cell? ⟨w.heap.size + 1, 0, none⟩ = some (.slice ua n ucap) ∧ w'.cell? ⟨w.heap.size + 1, 1, none⟩ = some (.int .i64 bank)) (first | assumption | go_keep) (first | (go_at_call 118; refine (regionAt _ _ a0 a1).mono ?_; rintro e w' ⟨rfl, rfl⟩) | (go_at_call 124; refine (readAt _ F G _ _ m ln f n g bank _ a0 a1 (unhide HH) (unhide HK) (unhide HO)).mono ?_; rintro e w2 ⟨rfl, L2⟩; have d1 := (L2.cell (p := ⟨w.heap.size, 0, none⟩) (show w.heap.size < w1.heap.size by omega)).trans c1; have d2 := (L2.cell (p := ⟨w.heap.size + 1, 0, none⟩) (show w.heap.size + 1 < w1.heap.size by omega)).trans c2; have d3 := (L2.cell (p := ⟨w.heap.size + 1, 1, none⟩) (show w.heap.size + 1 < w1.heap.size by omega)).trans c3))
    all_goals
      go_wp2
      go_ret
      exact ⟨ret_int HE.out.symm, C1.trans (Below.trans (⟨rfl, rfl, rfl, Nat.le_refl _, fun _ _ => rfl⟩ : Below w.heap.size w1 w1.drew) (L2.mono C1.size))⟩
theorem own_none {w : World} {lo : Nat} {a : Option Addr} {c : Nat} (g : Nat → Int) : OwnInts w lo (.slice a 0 c) 0 g := ⟨_, _, rfl, by omega, fun i hi => absurd hi (Nat.not_lt_zero _), fun b o hF => absurd hF (foot_none _ _ _), fun b o hF => absurd hF (foot_none _ _ _)⟩
theorem cloneInts (w : World) (G : Nat → Nat → Prop) (u : Value) (n : Nat) (g : Nat → Int) (K : Ints .i64 w G u n g) :
    Calls Tryz.prog 73 #[u] w fun e w' => ∃ v, e = .returned v ∧ OwnInts w' w.heap.size v n g ∧ Below w.heap.size w w' := by
  obtain ⟨ua, ucap, rfl, un, hrow, -⟩ := K
  have hq : ∀ W : World, (binOp .eql 25 (.slice ua n ucap) (.slice none 0 0)).run Tryz.prog W = .ok (.bool ua.isNone) W := fun W => Lib.run_eql_slice_nil W 25 3 ua n ucap 0 0 Tryz.underlying25
  cases ua with
  | none =>
    have hq' : ∀ W : World, (binOp .eql 25 (.slice none n ucap) (.slice none 0 0)).run Tryz.prog W = .ok (.bool true) W := hq
    clear hq
    have hn : n = 0 := by
      rcases Nat.eq_zero_or_pos n with h | h
      · exact h
      · obtain ⟨b, off, e, -⟩ := hrow 0 h
        cases e
    subst hn
    clear hrow
    go_enter Tryz.func73, Tryz.ntmps73
    go_wp2
    go_ret
    exact ⟨_, rfl, own_none g, Below.refl _ _⟩
  | some ad =>
    have hq' : ∀ W : World, (binOp .eql 25 (.slice (some ad) n ucap) (.slice none 0 0)).run Tryz.prog W = .ok (.bool false) W := hq
    clear hq
    obtain ⟨i0, hi, hz0, hz1, hz2⟩ := info_parts info3
    by_cases h0 : n = 0
    · subst h0
      have hl0 : ∀ (W : World) (ad : Addr), (loadCells ad 0).run Tryz.prog W = .ok #[] W := fun W ad => by
        simpa using run_loadCells_list (P := Tryz.prog) W ad [] (fun j v h => by simp at h)
      clear hrow
      go_enter Tryz.func73, Tryz.ntmps73
      go_wp2
      go_ret
      exact ⟨_, rfl, own_none g, (Below.refl _ _).alloc (Nat.le_refl _) _⟩
    · obtain ⟨rb, ro, e, -⟩ := hrow 0 (by omega)
      cases e
      have L0 : Below w.heap.size w (w.alloc (.cells #[] 3)) := (Below.refl _ _).alloc (Nat.le_refl _) _
      have HR := hide (hrow.keep (wrote_below L0 Nowhere) (fun _ _ _ x => x))
      clear hrow
      go_enter Tryz.func73, Tryz.ntmps73
      go_wp2_with (at_builtin; refine wpList_append_grows _ rfl (.tmp 5) (.tmp 6) 25 rfl 3 i0 (.int .i64 0) 1 8 Tryz.underlying25 hi hz0 hz1 hz2 rfl (by decide) (some ⟨w.heap.size, 0, none⟩) 0 0 [] rfl (fun h => by cases h) rfl (fun b hb j u h => by simp at h) ⟨rb, ro, none⟩ n ucap (rowVals n g) rfl (by rw [rowVals_len, Nat.mul_one]) (rowVals_cells HR.out) (rowVals_one _ _) (by omega) (by unfold maxLen; omega) (by omega) ?_)
      intro v' w2 hown hgrow
      have LL : Below w.heap.size w w2 := L0.grown hgrow (by simp) (fun _ e => by cases e)
      have hon : w2.ownsRow (w.alloc (.cells #[] 3)).heap.size 3 1 v' n (rowVals n g) := by simpa using hown
      obtain ⟨g', cap2, rfl, hg, hlt⟩ := hon.form (by omega)
      have O2 : OwnInts w2 w.heap.size (.slice (some ⟨g', 0, none⟩) n cap2) n g := own_row hon (by simp at hg; omega) hlt un
      clear hown hon hgrow
      go_wp2
      go_ret
      exact ⟨_, rfl, O2, LL⟩
set_option maxHeartbeats 1000000 in
theorem copyMem (w : World) (G : Nat → Nat → Prop) (u : Value) (n : Nat) (g : Nat → Int) (bank : Int) (K : Ints .i64 w G u n g) :
    Calls Tryz.prog 74 #[.agg #[u, .int .i64 bank]] w fun e w' => ∃ v, e = .returned (.agg #[v, .int .i64 bank]) ∧ OwnInts w' w.heap.size v n g ∧ Below w.heap.size w w' := by
  have L0 : Below w.heap.size w ((w.alloc (.cells #[u, .int .i64 bank] 42)).alloc (.cells #[.slice none 0 0, .int .i64 0] 42)) := ((Below.refl _ _).alloc (Nat.le_refl _) _).alloc (by simp) _
  have K0 := K.keep (wrote_below L0 Nowhere) (fun _ _ _ x => x)
  obtain ⟨ua, ucap, rfl, un, -, -⟩ := K
  have b1 : ((w.alloc (.cells #[.slice ua n ucap, .int .i64 bank] 42)).alloc (.cells #[.slice none 0 0, .int .i64 0] 42)).heap[w.heap.size]? = some (.cells #[.slice ua n ucap, .int .i64 bank] 42 (0, 0)) := boxA (box_new w _ _) _
  have r1 : ((w.alloc (.cells #[.slice ua n ucap, .int .i64 bank] 42)).alloc (.cells #[.slice none 0 0, .int .i64 0] 42)).heap[w.heap.size + 1]? = some (.cells #[.slice none 0 0, .int .i64 0] 42 (0, 0)) := by simpa using box_new (w.alloc (.cells #[.slice ua n ucap, .int .i64 bank] 42)) #[.slice none 0 0, .int .i64 0] 42
  go_enter Tryz.func74, Tryz.ntmps74
  go_wp2_with fail
  generalize ((w.alloc (.cells #[.slice ua n ucap, .int .i64 bank] 42)).alloc (.cells #[.slice none 0 0, .int .i64 0] 42)) = w1 at *
  have cb := boxC b1
  have HK := hide (show Ints .i64 w1.drew G _ n g from K0)
  have hr1 := boxLt r1
  clear K0
  go_region_with (go_at_call 73; refine (cloneInts _ G _ n g (unhide HK)).mono ?_; rintro e w2 ⟨q, rfl, O2, L2'⟩; obtain ⟨qa, qc, rfl, -, -, -, -⟩ := id O2; have L2 : Below w1.heap.size w1 w2 := Below.trans (⟨rfl, rfl, rfl, Nat.le_refl _, fun _ _ => rfl⟩ : Below w1.heap.size w1 w1.drew) L2'; have cb2 := boxC (box_keep b1 L2 (boxLt b1)); have cr2 := boxC (box_keep r1 L2 (boxLt r1)); have fr2 := boxF (box_keep r1 L2 (boxLt r1)); clear L2')
  all_goals
    go_wp2
    refine bodyPost_ret (v := .agg #[.slice qa n qc, .int .i64 bank]) (by simp [results, Tryz.results74, go_sem, cr2]) rfl ?_
    exact ⟨_, rfl, (((O2.mono (show w.heap.size + 2 ≤ w1.heap.size by omega)).setLow (by omega) _).setLow (by omega) _).mono (by omega), ((L0.trans (L2.mono L0.size)).setCell (by simp) _).setCell (by simp) _⟩
theorem memWrite1 (w : World) (p b off c k : Nat) (bank x : Int) (m : Nat) (hk : k < 512) (hb : w.heap[p]? = some (.cells #[.slice (some ⟨b, off, none⟩) 512 c, .int .i64 bank] 42 (0, 0))) {z : Value} (hc : w.cell? ⟨b, off + k, none⟩ = some z) (hf : w.frozen? ⟨b, off + k, none⟩ = false) :
    Calls Tryz.prog 128 #[.pointer (some ⟨p, 0, none⟩), rgV 1 (k : Int), .int .i64 x, .int .i64 m] w fun e w' => e = .returned (.tuple #[]) ∧ w' = (w.setCell ⟨b, off + k, none⟩ (.int .i64 x)).drew := by
  rw [rgV1]
  have cb := boxC hb
  have q1 := as11 (k : Int)
  have v1 := via1 (k : Int)
  have hk' : (k : Int) < 512 := by omega
  go_enter Tryz.func128, Tryz.ntmps128
  go_wp2_with fail
  go_region_with (go_at_call 160; refine (partOf _ _).mono ?_; rintro e w' ⟨rfl, rfl⟩)
  all_goals
    go_wp2
    go_returns
    exact ⟨rfl, rfl⟩
theorem memWrite5 (w : World) (p : Nat) (oa : Option Addr) (n c : Nat) (bank rp x : Int) (m : Nat) (x0 : 0 ≤ x) (x1 : x < 256) (hm : 1 ≤ m) (hm8 : m ≤ 8) (hb : w.heap[p]? = some (.cells #[.slice oa n c, .int .i64 bank] 42 (0, 0))) :
    Calls Tryz.prog 128 #[.pointer (some ⟨p, 0, none⟩), rgV 5 rp, .int .i64 x, .int .i64 m] w fun e w' => e = .returned (.tuple #[]) ∧ w' = w.setCell ⟨p, 1, none⟩ (.int .i64 (x % (m : Int))) := by
  rw [rgV5]
  have cb := boxC hb
  have fb := boxF hb
  have q1 := as51 rp
  have q5 := as55 rp
  have q6 := as56 rp
  have hmi : (m : Int) ≠ 0 := by omega
  have hmb : ((m : Int) == 0) = false := by simp; omega
  have htm : x.tmod (m : Int) = x % (m : Int) := Int.tmod_eq_emod_of_nonneg x0
  have y0 : 0 ≤ x % (m : Int) := Int.emod_nonneg _ hmi
  have y1 : x % (m : Int) < 9 := Int.lt_of_lt_of_le (Int.emod_lt_of_pos _ (by omega)) (by omega)
  go_enter Tryz.func128, Tryz.ntmps128
  go_wp2
  go_returns
  exact ⟨rfl, rfl⟩
theorem memWrite6 (w : World) (p : Nat) (oa : Option Addr) (n c : Nat) (bank rp x : Int) (m : Nat) (x0 : 0 ≤ x) (x1 : x < 256) (hm : 1 ≤ m) (hm8 : m ≤ 8) (hb : w.heap[p]? = some (.cells #[.slice oa n c, .int .i64 bank] 42 (0, 0))) :
    Calls Tryz.prog 128 #[.pointer (some ⟨p, 0, none⟩), rgV 6 rp, .int .i64 x, .int .i64 m] w fun e w' => e = .returned (.tuple #[]) ∧ w' = w.setCell ⟨p, 1, none⟩ (.int .i64 (x % (m : Int))) := by
  rw [rgV6]
  have cb := boxC hb
  have fb := boxF hb
  have q1 := as61 rp
  have q5 := as65 rp
  have q6 := as66 rp
  have hmi : (m : Int) ≠ 0 := by omega
  have hmb : ((m : Int) == 0) = false := by simp; omega
  have htm : x.tmod (m : Int) = x % (m : Int) := Int.tmod_eq_emod_of_nonneg x0
  have y0 : 0 ≤ x % (m : Int) := Int.emod_nonneg _ hmi
  have y1 : x % (m : Int) < 9 := Int.lt_of_lt_of_le (Int.emod_lt_of_pos _ (by omega)) (by omega)
  go_enter Tryz.func128, Tryz.ntmps128
  go_wp2
  go_returns
  exact ⟨rfl, rfl⟩
theorem memWrite0 (w : World) (p : Nat) (rn rp x : Int) (m : Nat) (h : rn = 2 ∨ rn = 3 ∨ rn = 4 ∨ rn = 7) :
    Calls Tryz.prog 128 #[.pointer (some ⟨p, 0, none⟩), rgV rn rp, .int .i64 x, .int .i64 m] w fun e w' => e = .returned (.tuple #[]) ∧ w' = w := by
  rcases h with rfl | rfl | rfl | rfl
  · rw [rgV2]
    have q1 := as21 rp
    have q5 := as25 rp
    have q6 := as26 rp
    go_enter Tryz.func128, Tryz.ntmps128
    go_wp2
    go_returns
    exact ⟨rfl, rfl⟩
  · rw [rgV3]
    have q1 := as31 rp
    have q5 := as35 rp
    have q6 := as36 rp
    go_enter Tryz.func128, Tryz.ntmps128
    go_wp2
    go_returns
    exact ⟨rfl, rfl⟩
  · rw [rgV4]
    have q1 := as41 rp
    have q5 := as45 rp
    have q6 := as46 rp
    go_enter Tryz.func128, Tryz.ntmps128
    go_wp2
    go_returns
    exact ⟨rfl, rfl⟩
  · rw [rgV7]
    have q1 := as71 rp
    have q5 := as75 rp
    have q6 := as76 rp
    go_enter Tryz.func128, Tryz.ntmps128
    go_wp2
    go_returns
    exact ⟨rfl, rfl⟩
end Go.Proofs.YtpaedkefmebjjarGreat
