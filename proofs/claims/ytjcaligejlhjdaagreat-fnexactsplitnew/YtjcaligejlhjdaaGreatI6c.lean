/-
  The program's memory (chapter 6): what is read, copied, put, by their contracts.
-/
import Derived.Test.YtjcaligejlhjdaaGreatC8
import Derived.Test.YtjcaligejlhjdaaGreatI6b
import Derived.ArgAppend
import Derived.Deep.RegionLaw
import Derived.Deep.RegionHeld3
namespace Go.Proofs.YtjcaligejlhjdaaGreat
set_option linter.unusedVariables false
open Go.ChangeShapes Go.WideShapes Go.ChangeAt Go.RowKit
set_option maxHeartbeats 1000000 in
theorem implPeek (w : World) (F G : Nat → Nat → Prop) (v u : Value) (m : Nat) (ln : Nat → Nat) (f : Nat → Nat → Int) (n : Nat) (g : Nat → Int) (bank x : Int) (H : IntSS .i64 w F v m ln f) (K : Ints .i64 w G u n g) :
    Calls Tryz.prog 125 #[.agg #[v], .agg #[u, .int .i64 bank], .int .i64 x] w fun e w' => e = .returned (.int .i64 (peekV m ln f n g bank x)) ∧ Below w.heap.size w w' := by
  have L0 : Below w.heap.size w ((w.alloc (.cells #[v] 27)).alloc (.cells #[u, .int .i64 bank] 29)) := ((Below.refl _ _).alloc (Nat.le_refl _) _).alloc (by simp) _
  have H0 := H.keep (wrote_below L0 Nowhere) (fun _ _ _ x => x)
  have K0 := K.keep (wrote_below L0 Nowhere) (fun _ _ _ x => x)
  obtain ⟨ia, icap, rfl, im, -, -⟩ := H
  obtain ⟨ua, ucap, rfl, un, -, -⟩ := K
  have a0 : 0 ≤ x % 65536 := by omega
  have a1 : x % 65536 < 65536 := by omega
  go_enter Tryz.func125, Tryz.ntmps125
  go_wp2_with fail
  refine (implMemOk _ F G _ _ m ln f n g bank H0 K0).mono ?_
  rintro e w1 ⟨rfl, L1⟩
  have c1 : w1.cell? ⟨w.heap.size, 0, none⟩ = some (.slice ia m icap) := (L1.cell (by simp; omega)).trans (by go_simp)
  have c2 : w1.cell? ⟨w.heap.size + 1, 0, none⟩ = some (.slice ua n ucap) := (L1.cell (by simp)).trans (by go_simp)
  have c3 : w1.cell? ⟨w.heap.size + 1, 1, none⟩ = some (.int .i64 bank) := (L1.cell (by simp)).trans (by go_simp)
  have hz : w.heap.size + 2 ≤ w1.heap.size := by have := L1.size; simp at this; omega
  have C1 := L0.trans (L1.mono L0.size)
  have H1 := H0.keep (wrote_below L1 Nowhere) (fun _ _ _ x => x)
  have K1 := K0.keep (wrote_below L1 Nowhere) (fun _ _ _ x => x)
  clear L1 L0 H0 K0
  cases hO : okMem m ln f n g bank
  · have HE : Hid (peekV m ln f n g bank x = 0) := by show _ = _; unfold peekV; rw [hO]; rfl
    clear hO
    go_wp2
    go_ret
    exact ⟨ret_int HE.out.symm, C1⟩
  · have HE : Hid (peekV m ln f n g bank x = peekOf m f g bank (x % 65536)) := by show _ = _; unfold peekV; rw [hO]; rfl
    have HO := hide hO
    clear hO
    have HH := hide (show IntSS .i64 w1.drew F _ m ln f from H1)
    have HK := hide (show Ints .i64 w1.drew G _ n g from K1)
    clear H1 K1
    go_wp2_with fail
    go_region_held3 (fun w' => w'.cell? ⟨w.heap.size, 0, none⟩ = some (.slice ia m icap) ∧ w'.cell? ⟨w.heap.size + 1, 0, none⟩ = some (.slice ua n ucap) ∧ w'.cell? ⟨w.heap.size + 1, 1, none⟩ = some (.int .i64 bank)) (first | assumption | go_keep) (first | (go_at_call 154; refine (regionAt _ _ a0 a1).mono ?_; rintro e w' ⟨rfl, rfl⟩) | (go_at_call 153; refine (readAt _ F G _ _ m ln f n g bank _ a0 a1 (unhide HH) (unhide HK) (unhide HO)).mono ?_; rintro e w2 ⟨rfl, L2⟩; have d1 := (L2.cell (p := ⟨w.heap.size, 0, none⟩) (show w.heap.size < w1.heap.size by omega)).trans c1; have d2 := (L2.cell (p := ⟨w.heap.size + 1, 0, none⟩) (show w.heap.size + 1 < w1.heap.size by omega)).trans c2; have d3 := (L2.cell (p := ⟨w.heap.size + 1, 1, none⟩) (show w.heap.size + 1 < w1.heap.size by omega)).trans c3))
    all_goals
      go_wp2
      go_ret
      exact ⟨ret_int HE.out.symm, C1.trans (Below.trans (⟨rfl, rfl, rfl, Nat.le_refl _, fun _ _ => rfl⟩ : Below w.heap.size w1 w1.drew) (L2.mono C1.size))⟩
theorem own_none {w : World} {lo : Nat} {a : Option Addr} {c : Nat} (g : Nat → Int) : OwnInts w lo (.slice a 0 c) 0 g := ⟨_, _, rfl, by omega, fun i hi => absurd hi (Nat.not_lt_zero _), fun b o hF => absurd hF (foot_none _ _ _), fun b o hF => absurd hF (foot_none _ _ _)⟩
theorem cloneInts (w : World) (G : Nat → Nat → Prop) (u : Value) (n : Nat) (g : Nat → Int) (K : Ints .i64 w G u n g) :
    Calls Tryz.prog 98 #[u] w fun e w' => ∃ v, e = .returned v ∧ OwnInts w' w.heap.size v n g ∧ Below w.heap.size w w' := by
  obtain ⟨ua, ucap, rfl, un, hrow, -⟩ := K
  have hq : ∀ W : World, (binOp .eql 25 (.slice ua n ucap) (.slice none 0 0)).run Tryz.prog W = .ok (.bool ua.isNone) W := fun W => Lib.run_eql_slice_nil W 25 3 ua n ucap 0 0 Tryz.underlying25
  cases ua with
  | none =>
    have hq' : ∀ W : World, (binOp .eql 25 (.slice none n ucap) (.slice none 0 0)).run Tryz.prog W = .ok (.bool true) W := hq
    clear hq
    have hn : n = 0 := by
      rcases Nat.eq_zero_or_pos n with h | h
      · exact h
      · obtain ⟨b, off, e, -⟩ := hrow 0 h
        cases e
    subst hn
    clear hrow
    go_enter Tryz.func98, Tryz.ntmps98
    go_wp2
    go_ret
    exact ⟨_, rfl, own_none g, Below.refl _ _⟩
  | some ad =>
    have hq' : ∀ W : World, (binOp .eql 25 (.slice (some ad) n ucap) (.slice none 0 0)).run Tryz.prog W = .ok (.bool false) W := hq
    clear hq
    obtain ⟨i0, hi, hz0, hz1, hz2⟩ := info_parts info3
    by_cases h0 : n = 0
    · subst h0
      have hl0 : ∀ (W : World) (ad : Addr), (loadCells ad 0).run Tryz.prog W = .ok #[] W := fun W ad => by
        simpa using run_loadCells_list (P := Tryz.prog) W ad [] (fun j v h => by simp at h)
      clear hrow
      go_enter Tryz.func98, Tryz.ntmps98
      go_wp2
      go_ret
      exact ⟨_, rfl, own_none g, (Below.refl _ _).alloc (Nat.le_refl _) _⟩
    · obtain ⟨rb, ro, e, -⟩ := hrow 0 (by omega)
      cases e
      have L0 : Below w.heap.size w (w.alloc (.cells #[] 3)) := (Below.refl _ _).alloc (Nat.le_refl _) _
      have HR := hide (hrow.keep (wrote_below L0 Nowhere) (fun _ _ _ x => x))
      clear hrow
      go_enter Tryz.func98, Tryz.ntmps98
      go_wp2_with (at_builtin; refine wpList_append_grows _ rfl (.tmp 5) (.tmp 6) 25 rfl 3 i0 (.int .i64 0) 1 8 Tryz.underlying25 hi hz0 hz1 hz2 rfl (by decide) (some ⟨w.heap.size, 0, none⟩) 0 0 [] rfl (fun h => by cases h) rfl (fun b hb j u h => by simp at h) ⟨rb, ro, none⟩ n ucap (rowVals n g) rfl (by rw [rowVals_len, Nat.mul_one]) (rowVals_cells HR.out) (rowVals_one _ _) (by omega) (by unfold maxLen; omega) (by omega) ?_)
      intro v' w2 hown hgrow
      have LL : Below w.heap.size w w2 := L0.grown hgrow (by simp) (fun _ e => by cases e)
      have hon : w2.ownsRow (w.alloc (.cells #[] 3)).heap.size 3 1 v' n (rowVals n g) := by simpa using hown
      obtain ⟨g', cap2, rfl, hg, hlt⟩ := hon.form (by omega)
      have O2 : OwnInts w2 w.heap.size (.slice (some ⟨g', 0, none⟩) n cap2) n g := own_row hon (by simp at hg; omega) hlt un
      clear hown hon hgrow
      go_wp2
      go_ret
      exact ⟨_, rfl, O2, LL⟩
set_option maxHeartbeats 1000000 in
theorem copyMem (w : World) (G : Nat → Nat → Prop) (u : Value) (n : Nat) (g : Nat → Int) (bank : Int) (K : Ints .i64 w G u n g) :
    Calls Tryz.prog 69 #[.agg #[u, .int .i64 bank]] w fun e w' => ∃ v, e = .returned (.agg #[v, .int .i64 bank]) ∧ OwnInts w' w.heap.size v n g ∧ Below w.heap.size w w' := by
  have L0 : Below w.heap.size w ((w.alloc (.cells #[u, .int .i64 bank] 29)).alloc (.cells #[.slice none 0 0, .int .i64 0] 29)) := ((Below.refl _ _).alloc (Nat.le_refl _) _).alloc (by simp) _
  have K0 := K.keep (wrote_below L0 Nowhere) (fun _ _ _ x => x)
  obtain ⟨ua, ucap, rfl, un, -, -⟩ := K
  have b1 : ((w.alloc (.cells #[.slice ua n ucap, .int .i64 bank] 29)).alloc (.cells #[.slice none 0 0, .int .i64 0] 29)).heap[w.heap.size]? = some (.cells #[.slice ua n ucap, .int .i64 bank] 29 (0, 0)) := boxA (box_new w _ _) _
  have r1 : ((w.alloc (.cells #[.slice ua n ucap, .int .i64 bank] 29)).alloc (.cells #[.slice none 0 0, .int .i64 0] 29)).heap[w.heap.size + 1]? = some (.cells #[.slice none 0 0, .int .i64 0] 29 (0, 0)) := by simpa using box_new (w.alloc (.cells #[.slice ua n ucap, .int .i64 bank] 29)) #[.slice none 0 0, .int .i64 0] 29
  go_enter Tryz.func69, Tryz.ntmps69
  go_wp2_with fail
  generalize ((w.alloc (.cells #[.slice ua n ucap, .int .i64 bank] 29)).alloc (.cells #[.slice none 0 0, .int .i64 0] 29)) = w1 at *
  have cb := boxC b1
  have HK := hide (show Ints .i64 w1.drew G _ n g from K0)
  have hr1 := boxLt r1
  clear K0
  go_region_with (go_at_call 98; refine (cloneInts _ G _ n g (unhide HK)).mono ?_; rintro e w2 ⟨q, rfl, O2, L2'⟩; obtain ⟨qa, qc, rfl, -, -, -, -⟩ := id O2; have L2 : Below w1.heap.size w1 w2 := Below.trans (⟨rfl, rfl, rfl, Nat.le_refl _, fun _ _ => rfl⟩ : Below w1.heap.size w1 w1.drew) L2'; have cb2 := boxC (box_keep b1 L2 (boxLt b1)); have cr2 := boxC (box_keep r1 L2 (boxLt r1)); have fr2 := boxF (box_keep r1 L2 (boxLt r1)); clear L2')
  all_goals
    go_wp2
    refine bodyPost_ret (v := .agg #[.slice qa n qc, .int .i64 bank]) (by simp [results, Tryz.results69, go_sem, cr2]) rfl ?_
    exact ⟨_, rfl, (((O2.mono (show w.heap.size + 2 ≤ w1.heap.size by omega)).setLow (by omega) _).setLow (by omega) _).mono (by omega), ((L0.trans (L2.mono L0.size)).setCell (by simp) _).setCell (by simp) _⟩
end Go.Proofs.YtjcaligejlhjdaaGreat
namespace Go.Proofs.YtjcaligejlhjdaaGreat
set_option linter.unusedVariables false
open Go.ChangeShapes Go.WideShapes Go.ChangeAt Go.RowKit
theorem implMemNew (w : World) : Calls Tryz.prog 32 #[] w fun e w' => ∃ q, e = .returned (.agg #[q, .int .i64 0]) ∧ OwnInts w' w.heap.size q 512 (fun _ => 0) ∧ Below w.heap.size w w' := by
  obtain ⟨ob, hmk, hrow⟩ : ∃ ob : Obj, (∀ W : World, (Instr.makeSlice 25 (.int .i64 512) (.int .i64 512)).run Tryz.prog W = .ok (.slice (some ⟨W.heap.size, 0, none⟩) 512 512) (W.alloc ob)) ∧ Hid (∀ W : World, (W.alloc ob).rowIs W.heap.size 3 512 (fun _ => .int .i64 0)) :=
    ⟨_, run_make_row' (P := Tryz.prog) 25 3 (.int .i64 0) 8 Tryz.underlying25 info3 rfl .i64 .i64 512 (by omega) (by omega), fun W => World.rowIs_made W _ _ _⟩
  have hr := hide (hrow.out (w.alloc (.cells #[.slice (some ⟨w.heap.size + 1, 0, none⟩) 512 512, .int .i64 0] 29)))
  have L0 : Below w.heap.size w ((w.alloc (.cells #[.slice (some ⟨w.heap.size + 1, 0, none⟩) 512 512, .int .i64 0] 29)).alloc ob) := ((Below.refl _ _).alloc (Nat.le_refl _) _).alloc (by simp) _
  go_enter Tryz.func32, Tryz.ntmps32
  go_wp2
  have hr' := unhide hr
  simp only [World.size_alloc] at hr'
  have O0 : OwnInts ((w.alloc (.cells #[.slice (some ⟨w.heap.size + 1, 0, none⟩) 512 512, .int .i64 0] 29)).alloc ob) (w.heap.size + 1) (.slice (some ⟨w.heap.size + 1, 0, none⟩) 512 512) 512 (fun _ => 0) := by
    refine ⟨_, _, rfl, by omega, rowOf_row hr', fun b o ⟨off, e, _, _⟩ => ?_, fun b o ⟨off, e, _, _⟩ => ?_⟩
    · simp only [Option.some.injEq, Addr.mk.injEq] at e
      obtain ⟨rfl, -, -⟩ := e
      exact ⟨hr'.lt, hr'.frozen _⟩
    · simp only [Option.some.injEq, Addr.mk.injEq] at e
      obtain ⟨rfl, -, -⟩ := e
      omega
  refine bodyPost_ret (v := .agg #[.slice (some ⟨w.heap.size + 1, 0, none⟩) 512 512, .int .i64 0]) (by simp [results, Tryz.results32, go_sem]) rfl ?_
  exact ⟨_, rfl, O0.mono (by omega), L0⟩
end Go.Proofs.YtjcaligejlhjdaaGreat
