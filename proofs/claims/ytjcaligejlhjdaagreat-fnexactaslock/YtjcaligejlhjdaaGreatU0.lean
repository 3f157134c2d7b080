/-
  Memories and images as things that lie on blocks of a kind: what a call may have written elsewhere keeps them.
-/
import Derived.Test.YtjcaligejlhjdaaGreatV0
import Derived.Test.YtjcaligejlhjdaaGreatJ2
import Derived.Test.YtjcaligejlhjdaaGreatC7
import Derived.Test.YtjcaligejlhjdaaGreatB2
import Derived.Deep.RegionHeld3
import Derived.Handy
import Derived.Deep.QuietTactic
import Derived.ArgAppend
import Derived.Deep.RegionLaw
namespace Go.Proofs.YtjcaligejlhjdaaGreat
set_option linter.unusedVariables false
open Go.ChangeShapes Go.WideShapes Go.ChangeAt Go.RowKit
abbrev On (D : Nat → Prop) : Nat → Nat → Prop := fun b _ => D b
theorem box_wrote {R : Nat → Nat → Prop} {w w' : World} {b : Nat} {o : Obj} (h : w.heap[b]? = some o) (hw : Wrote R w w') (hd : ∀ o, ¬ R b o) : w'.heap[b]? = some o := (hw.block b (boxLt h) hd).trans h
theorem box_set {w : World} {b o : Nat} {cs : Array Value} {t : TypeId} {fr : Nat × Nat} (h : w.heap[b]? = some (.cells cs t fr)) (x : Value) : (w.setCell ⟨b, o, none⟩ x).heap[b]? = some (.cells (cs.setIfInBounds o x) t fr) := by
  simp [World.setCell, Array.getElem?_modify, h]
structure MemOn (W : World) (D : Nat → Prop) (v : Value) (n : Nat) (g : Nat → Int) (bank : Int) : Prop where
  ex : ∃ a cap, v = .agg #[.slice a n cap, .int .i64 bank] ∧ n ≤ 1048576 ∧ RowOf .i64 W a n g ∧ Free W (Foot a n) ∧ ∀ b o, Foot a n b o → D b
theorem MemOn.keep {R : Nat → Nat → Prop} {W W' : World} {D : Nat → Prop} {v : Value} {n : Nat} {g : Nat → Int} {bank : Int} (h : MemOn W D v n g bank) (hw : Wrote R W W') (hd : ∀ b o, D b → b < W.heap.size → ¬ R b o) : MemOn W' D v n g bank := by
  obtain ⟨a, cap, e, hn, hr, hF, hD⟩ := h
  exact ⟨a, cap, e, hn, hr.keep hw (fun b o hf => hd b o (hD b o hf) (hF b o hf).1), hF.keep hw, hD⟩
theorem MemOn.below {W W' : World} {D : Nat → Prop} {v : Value} {n : Nat} {g : Nat → Int} {bank : Int} (h : MemOn W D v n g bank) (L : Below W.heap.size W W') : MemOn W' D v n g bank := h.keep (wrote_below L Nowhere) (fun _ _ _ _ x => x)
theorem MemOn.mono {W : World} {D E : Nat → Prop} {v : Value} {n : Nat} {g : Nat → Int} {bank : Int} (h : MemOn W D v n g bank) (hd : ∀ b, b < W.heap.size → D b → E b) : MemOn W E v n g bank := by
  obtain ⟨a, cap, e, hn, hr, hF, hD⟩ := h
  exact ⟨a, cap, e, hn, hr, hF, fun b o hf => hd b (hF b o hf).1 (hD b o hf)⟩
theorem MemOn.ints {W : World} {D : Nat → Prop} {v : Value} {n : Nat} {g : Nat → Int} {bank : Int} (h : MemOn W D v n g bank) : ∃ u, v = .agg #[u, .int .i64 bank] ∧ Ints .i64 W (On D) u n g := by
  obtain ⟨a, cap, e, hn, hr, hF, hD⟩ := h
  exact ⟨_, e, a, cap, rfl, hn, hr, hD⟩
theorem MemOn.size {W : World} {D : Nat → Prop} {v : Value} {n : Nat} {g : Nat → Int} {bank : Int} (h : MemOn W D v n g bank) : n ≤ 1048576 := by
  obtain ⟨a, cap, e, hn, hr, hF, hD⟩ := h
  exact hn
theorem MemOn.two {W : World} {D : Nat → Prop} {v : Value} {n : Nat} {g : Nat → Int} {bank : Int} (h : MemOn W D v n g bank) : ∃ a c, v = .agg #[.slice a n c, .int .i64 bank] := by
  obtain ⟨a, c, e, _⟩ := h
  exact ⟨a, c, e⟩
theorem MemOn.own {W : World} {lo n : Nat} {u : Value} {g : Nat → Int} {bank : Int} (h : OwnInts W lo u n g) : MemOn W (fun b => lo ≤ b) (.agg #[u, .int .i64 bank]) n g bank := by
  obtain ⟨a, cap, rfl, hn, hr, hF, hD⟩ := h
  exact ⟨a, cap, rfl, hn, hr, hF, hD⟩
structure ImgOn (W : World) (D : Nat → Prop) (v : Value) (m : Nat) (ln : Nat → Nat) (f : Nat → Nat → Int) : Prop where
  ex : ∃ p, v = .agg #[.slice (some ⟨p, 0, none⟩) m m] ∧ m + psum ln m ≤ 1048576 ∧ Rows2 W p m ln f ∧ p + 1 + m ≤ W.heap.size ∧ ∀ b, p ≤ b → b < p + 1 + m → D b
theorem ImgOn.keep {R : Nat → Nat → Prop} {W W' : World} {D : Nat → Prop} {v : Value} {m : Nat} {ln : Nat → Nat} {f : Nat → Nat → Int} (h : ImgOn W D v m ln f) (hw : Wrote R W W') (hd : ∀ b o, D b → b < W.heap.size → ¬ R b o) : ImgOn W' D v m ln f := by
  obtain ⟨p, e, hm, hr, hs, hD⟩ := h
  exact ⟨p, e, hm, hr.keep hw (fun b o h1 h2 => hd b o (hD b h1 h2) (by omega)), Nat.le_trans hs hw.size, hD⟩
theorem ImgOn.below {W W' : World} {D : Nat → Prop} {v : Value} {m : Nat} {ln : Nat → Nat} {f : Nat → Nat → Int} (h : ImgOn W D v m ln f) (L : Below W.heap.size W W') : ImgOn W' D v m ln f := h.keep (wrote_below L Nowhere) (fun _ _ _ _ x => x)
theorem ImgOn.mono {W : World} {D E : Nat → Prop} {v : Value} {m : Nat} {ln : Nat → Nat} {f : Nat → Nat → Int} (h : ImgOn W D v m ln f) (hd : ∀ b, b < W.heap.size → D b → E b) : ImgOn W E v m ln f := by
  obtain ⟨p, e, hm, hr, hs, hD⟩ := h
  exact ⟨p, e, hm, hr, hs, fun b h1 h2 => hd b (by omega) (hD b h1 h2)⟩
theorem ImgOn.ints {W : World} {D : Nat → Prop} {v : Value} {m : Nat} {ln : Nat → Nat} {f : Nat → Nat → Int} (h : ImgOn W D v m ln f) : ∃ u F, v = .agg #[u] ∧ IntSS .i64 W F u m ln f := by
  obtain ⟨p, e, hm, hr, hs, hD⟩ := h
  exact ⟨_, _, e, hr.ints hm⟩
theorem onToMem (w : World) (F : Nat → Nat → Prop) (u : Value) (n : Nat) (f : Nat → Int) (bank : Int) (H : Ints .i64 w F u n f) (hn : n ≤ 1048576) :
    Calls Tryz.prog 61 #[.agg #[u, .int .i64 bank]] w fun e w' => ∃ v, e = .returned v ∧ MemOn w' (fun b => w.heap.size ≤ b) v n f bank ∧ Below w.heap.size w w' :=
  (toMem w F u n f bank H).mono (by
    rintro e w' ⟨p, hp, rfl, hr, L⟩
    refine ⟨_, rfl, ⟨_, _, rfl, hn, rowOf_row hr, fun b o ⟨off, e, _, _⟩ => ?_, fun b o ⟨off, e, _, _⟩ => ?_⟩, L⟩
    · simp only [Option.some.injEq, Addr.mk.injEq] at e
      obtain ⟨rfl, -, -⟩ := e
      exact ⟨hr.lt, hr.frozen _⟩
    · simp only [Option.some.injEq, Addr.mk.injEq] at e
      obtain ⟨rfl, -, -⟩ := e
      exact hp)
theorem onEqMem (w : World) (D E : Nat → Prop) (v u : Value) (n : Nat) (f : Nat → Int) (bank : Int) (H : MemOn w D v n f bank) (K : MemOn w E u n f bank) :
    Calls Tryz.prog 37 #[v, u] w fun e w' => e = .returned (.bool true) ∧ Below w.heap.size w w' := by
  obtain ⟨v', rfl, hv⟩ := H.ints
  obtain ⟨u', rfl, hu⟩ := K.ints
  exact eqMem_same w _ _ v' u' n f bank hv hu
theorem onMarkMem (w : World) (D : Nat → Prop) (v : Value) (n : Nat) (f : Nat → Int) (bank k : Int) (H : MemOn w D v n f bank) (k0 : 0 ≤ k) (k1 : k ≤ 1099511627776) :
    Calls Tryz.prog 44 #[v, .int .i64 k] w fun e w' => e = .returned (.int .i64 (k + n)) ∧ MemOn w' D v n (fun i => k + i) bank ∧ Wrote (On D) w w' := by
  obtain ⟨a, cap, rfl, hn, hr, hF, hD⟩ := H
  refine (markMem w a n cap f bank k hr hF k0 (by omega)).mono ?_
  rintro e w' ⟨rfl, hr', hw⟩
  exact ⟨rfl, ⟨a, cap, rfl, hn, hr', hF.keep hw, hD⟩, hw.mono (fun b o _ h => hD b o h)⟩
theorem onHeldMem (w : World) (D : Nat → Prop) (v : Value) (n : Nat) (bank k : Int) (H : MemOn w D v n (fun i => k + i) bank) (k0 : 0 ≤ k) (k1 : k ≤ 1099511627776) :
    Calls Tryz.prog 49 #[v, .int .i64 k] w fun e w' => e = .returned (.int .i64 (k + n)) ∧ Below w.heap.size w w' := by
  obtain ⟨a, cap, rfl, hn, hr, hF, hD⟩ := H
  exact heldMem w a n cap bank k hr k0 (by omega)
end Go.Proofs.YtjcaligejlhjdaaGreat
namespace Go.Proofs.YtjcaligejlhjdaaGreat
set_option linter.unusedVariables false
open Go.ChangeShapes Go.WideShapes Go.ChangeAt Go.RowKit
def setAt (g : Nat → Int) (k : Nat) (x : Int) : Nat → Int := fun i => if i = k then x else g i
/-- The row of an answer, with one number put. -/
theorem OwnInts.put {w : World} {lo : Nat} {b off cap n : Nat} {f : Nat → Int} (h : OwnInts w lo (.slice (some ⟨b, off, none⟩) n cap) n f) (k : Nat) (hk : k < n) (x : Int) : OwnInts (w.setCell ⟨b, off + k, none⟩ (.int .i64 x)) lo (.slice (some ⟨b, off, none⟩) n cap) n (setAt f k x) := by
  obtain ⟨a, cap', hv, hn, hr, hF, hL⟩ := h
  simp only [Value.slice.injEq] at hv
  obtain ⟨rfl, -, rfl⟩ := hv
  have W1 : Wrote (fun b' o' => b' = b ∧ o' = off + k) w (w.setCell ⟨b, off + k, none⟩ (.int .i64 x)) := Wrote.setCell (Wrote.refl _ w) (fun _ => ⟨rfl, rfl⟩) _
  exact ⟨_, _, rfl, hn, row_marked hr hk, hF.keep W1, hL⟩
theorem OwnInts.cellAt {w : World} {lo : Nat} {b off cap n : Nat} {f : Nat → Int} (h : OwnInts w lo (.slice (some ⟨b, off, none⟩) n cap) n f) (k : Nat) (hk : k < n) : w.cell? ⟨b, off + k, none⟩ = some (.int .i64 (f k)) ∧ w.frozen? ⟨b, off + k, none⟩ = false ∧ lo ≤ b ∧ b < w.heap.size := by
  obtain ⟨a, cap', hv, hn, hr, hF, hL⟩ := h
  simp only [Value.slice.injEq] at hv
  obtain ⟨rfl, -, rfl⟩ := hv
  obtain ⟨b', off', e, hc⟩ := hr k hk
  simp only [Option.some.injEq, Addr.mk.injEq] at e
  obtain ⟨rfl, rfl, -⟩ := e
  exact ⟨hc, (hF b (off + k) (foot_at hk)).2, hL b (off + k) (foot_at hk), (hF b (off + k) (foot_at hk)).1⟩
end Go.Proofs.YtjcaligejlhjdaaGreat
namespace Go.Proofs.YtjcaligejlhjdaaGreat
set_option linter.unusedVariables false
open Go.ChangeShapes Go.WideShapes Go.ChangeAt Go.RowKit
theorem okMem_row {m : Nat} {ln : Nat → Nat} {f : Nat → Nat → Int} {n : Nat} {g : Nat → Int} {bank : Int} (h : isRow n g 512 = false) : okMem m ln f n g bank = false := by
  by_cases hn : n = 512
  · subst hn
    rw [isRow_yes (by rfl)] at h
    have h' : okRam 512 g = false := h
    unfold okMem
    rw [h']
    simp
  · exact okMem_len hn
theorem isRow_of {n : Nat} {g : Nat → Int} (h : isRow n g 512 = true) : n = 512 ∧ ∀ j, j < 512 → 0 ≤ g j ∧ g j ≤ 255 := by
  by_cases hn : n = 512
  · subst hn
    rw [isRow_yes (by rfl)] at h
    exact ⟨rfl, fun j hj => (inB_iff _ _ _).1 (of_decide_eq_true h j hj)⟩
  · rw [isRow_no (by omega)] at h
    cases h
set_option maxHeartbeats 1000000 in
theorem implMemOk (w : World) (F G : Nat → Nat → Prop) (v u : Value) (m : Nat) (ln : Nat → Nat) (f : Nat → Nat → Int) (n : Nat) (g : Nat → Int) (bank : Int) (H : IntSS .i64 w F v m ln f) (K : Ints .i64 w G u n g) :
    Calls Tryz.prog 91 #[.agg #[v], .agg #[u, .int .i64 bank]] w fun e w' => e = .returned (.bool (okMem m ln f n g bank)) ∧ Below w.heap.size w w' := by
  have L0 : Below w.heap.size w ((w.alloc (.cells #[v] 27)).alloc (.cells #[u, .int .i64 bank] 29)) := ((Below.refl _ _).alloc (Nat.le_refl _) _).alloc (by simp) _
  have H0 := H.keep (wrote_below L0 Nowhere) (fun _ _ _ x => x)
  have K0 := K.keep (wrote_below L0 Nowhere) (fun _ _ _ x => x)
  obtain ⟨ia, icap, rfl, im, -, -⟩ := H
  obtain ⟨ua, ucap, rfl, un, -, -⟩ := K
  go_enter Tryz.func91, Tryz.ntmps91
  go_wp2_with fail
  refine (implImageOk _ F _ m ln f H0).mono ?_
  rintro e w1 ⟨rfl, L1⟩
  have c1 : w1.cell? ⟨w.heap.size, 0, none⟩ = some (.slice ia m icap) := (L1.cell (by simp; omega)).trans (by go_simp)
  have c2 : w1.cell? ⟨w.heap.size + 1, 0, none⟩ = some (.slice ua n ucap) := (L1.cell (by simp)).trans (by go_simp)
  have c3 : w1.cell? ⟨w.heap.size + 1, 1, none⟩ = some (.int .i64 bank) := (L1.cell (by simp)).trans (by go_simp)
  have C1 := L0.trans (L1.mono L0.size)
  have K1 := K0.keep (wrote_below L1 Nowhere) (fun _ _ _ x => x)
  clear L1 L0 H0 K0
  cases hI : okImg m ln f
  · have HE := hide (okMem_img (n := n) (g := g) (bank := bank) hI)
    clear hI
    go_wp2
    go_ret
    exact ⟨ret_bool HE.out.symm, C1⟩
  · have HI := hide hI
    clear hI
    cases hR : isRow n g 512
    · have HE := hide (okMem_row (m := m) (ln := ln) (f := f) (bank := bank) hR)
      go_wp2_with fail
      refine (isBytes _ G _ n g 512 K1).mono ?_
      rintro e wx ⟨rfl, rfl⟩
      rw [hR]
      go_wp2
      go_ret
      exact ⟨ret_bool HE.out.symm, C1⟩
    · obtain ⟨hn, hb⟩ := isRow_of hR
      have HN := hide hn
      have HB := hide hb
      clear hn hb
      by_cases b0 : 0 ≤ bank
      · by_cases b1 : bank < (m : Int)
        · have HE := hide (okMem_yes (bank := bank) (unhide HI) (unhide HN) (inB_yes ⟨b0, by omega⟩) (unhide HB))
          go_wp2_with fail
          refine (isBytes _ G _ n g 512 K1).mono ?_
          rintro e wx ⟨rfl, rfl⟩
          rw [hR]
          go_wp2
          go_ret
          exact ⟨ret_bool HE.out.symm, C1⟩
        · have HE := hide (okMem_bank (m := m) (ln := ln) (f := f) (n := n) (g := g) (inB_no (x := bank) (lo := 0) (hi := (m : Int) - 1) (by omega)))
          go_wp2_with fail
          refine (isBytes _ G _ n g 512 K1).mono ?_
          rintro e wx ⟨rfl, rfl⟩
          rw [hR]
          go_wp2
          go_ret
          exact ⟨ret_bool ((decide_eq_false (by omega)).trans HE.out.symm), C1⟩
      · have b0' : decide (0 ≤ bank) = false := decide_eq_false b0
        have HE := hide (okMem_bank (m := m) (ln := ln) (f := f) (n := n) (g := g) (inB_no (x := bank) (lo := 0) (hi := (m : Int) - 1) (by omega)))
        go_wp2_with fail
        refine (isBytes _ G _ n g 512 K1).mono ?_
        rintro e wx ⟨rfl, rfl⟩
        rw [hR]
        go_wp2
        go_ret
        exact ⟨ret_bool HE.out.symm, C1⟩
end Go.Proofs.YtjcaligejlhjdaaGreat
namespace Go.Proofs.YtjcaligejlhjdaaGreat
set_option linter.unusedVariables false
open Go.ChangeShapes Go.WideShapes Go.ChangeAt Go.RowKit
theorem own_none {w : World} {lo : Nat} {a : Option Addr} {c : Nat} (g : Nat → Int) : OwnInts w lo (.slice a 0 c) 0 g := ⟨_, _, rfl, by omega, fun i hi => absurd hi (Nat.not_lt_zero _), fun b o hF => absurd hF (foot_none _ _ _), fun b o hF => absurd hF (foot_none _ _ _)⟩
theorem cloneInts (w : World) (G : Nat → Nat → Prop) (u : Value) (n : Nat) (g : Nat → Int) (K : Ints .i64 w G u n g) :
    Calls Tryz.prog 98 #[u] w fun e w' => ∃ v, e = .returned v ∧ OwnInts w' w.heap.size v n g ∧ Below w.heap.size w w' := by
  obtain ⟨ua, ucap, rfl, un, hrow, -⟩ := K
  have hq : ∀ W : World, (binOp .eql 25 (.slice ua n ucap) (.slice none 0 0)).run Tryz.prog W = .ok (.bool ua.isNone) W := fun W => Lib.run_eql_slice_nil W 25 3 ua n ucap 0 0 Tryz.underlying25
  cases ua with
  | none =>
    have hq' : ∀ W : World, (binOp .eql 25 (.slice none n ucap) (.slice none 0 0)).run Tryz.prog W = .ok (.bool true) W := hq
    clear hq
    have hn : n = 0 := by
      rcases Nat.eq_zero_or_pos n with h | h
      · exact h
      · obtain ⟨b, off, e, -⟩ := hrow 0 h
        cases e
    subst hn
    clear hrow
    go_enter Tryz.func98, Tryz.ntmps98
    go_wp2
    go_ret
    exact ⟨_, rfl, own_none g, Below.refl _ _⟩
  | some ad =>
    have hq' : ∀ W : World, (binOp .eql 25 (.slice (some ad) n ucap) (.slice none 0 0)).run Tryz.prog W = .ok (.bool false) W := hq
    clear hq
    obtain ⟨i0, hi, hz0, hz1, hz2⟩ := info_parts info3
    by_cases h0 : n = 0
    · subst h0
      have hl0 : ∀ (W : World) (ad : Addr), (loadCells ad 0).run Tryz.prog W = .ok #[] W := fun W ad => by
        simpa using run_loadCells_list (P := Tryz.prog) W ad [] (fun j v h => by simp at h)
      clear hrow
      go_enter Tryz.func98, Tryz.ntmps98
      go_wp2
      go_ret
      exact ⟨_, rfl, own_none g, (Below.refl _ _).alloc (Nat.le_refl _) _⟩
    · obtain ⟨rb, ro, e, -⟩ := hrow 0 (by omega)
      cases e
      have L0 : Below w.heap.size w (w.alloc (.cells #[] 3)) := (Below.refl _ _).alloc (Nat.le_refl _) _
      have HR := hide (hrow.keep (wrote_below L0 Nowhere) (fun _ _ _ x => x))
      clear hrow
      go_enter Tryz.func98, Tryz.ntmps98
      go_wp2_with (at_builtin; refine wpList_append_grows _ rfl (.tmp 5) (.tmp 6) 25 rfl 3 i0 (.int .i64 0) 1 8 Tryz.underlying25 hi hz0 hz1 hz2 rfl (by decide) (some ⟨w.heap.size, 0, none⟩) 0 0 [] rfl (fun h => by cases h) rfl (fun b hb j u h => by simp at h) ⟨rb, ro, none⟩ n ucap (rowVals n g) rfl (by rw [rowVals_len, Nat.mul_one]) (rowVals_cells HR.out) (rowVals_one _ _) (by omega) (by unfold maxLen; omega) (by omega) ?_)
      intro v' w2 hown hgrow
      have LL : Below w.heap.size w w2 := L0.grown hgrow (by simp) (fun _ e => by cases e)
      have hon : w2.ownsRow (w.alloc (.cells #[] 3)).heap.size 3 1 v' n (rowVals n g) := by simpa using hown
      obtain ⟨g', cap2, rfl, hg, hlt⟩ := hon.form (by omega)
      have O2 : OwnInts w2 w.heap.size (.slice (some ⟨g', 0, none⟩) n cap2) n g := own_row hon (by simp at hg; omega) hlt un
      clear hown hon hgrow
      go_wp2
      go_ret
      exact ⟨_, rfl, O2, LL⟩
set_option maxHeartbeats 1000000 in
theorem copyMem (w : World) (G : Nat → Nat → Prop) (u : Value) (n : Nat) (g : Nat → Int) (bank : Int) (K : Ints .i64 w G u n g) :
    Calls Tryz.prog 69 #[.agg #[u, .int .i64 bank]] w fun e w' => ∃ v, e = .returned (.agg #[v, .int .i64 bank]) ∧ OwnInts w' w.heap.size v n g ∧ Below w.heap.size w w' := by
  have L0 : Below w.heap.size w ((w.alloc (.cells #[u, .int .i64 bank] 29)).alloc (.cells #[.slice none 0 0, .int .i64 0] 29)) := ((Below.refl _ _).alloc (Nat.le_refl _) _).alloc (by simp) _
  have K0 := K.keep (wrote_below L0 Nowhere) (fun _ _ _ x => x)
  obtain ⟨ua, ucap, rfl, un, -, -⟩ := K
  have b1 : ((w.alloc (.cells #[.slice ua n ucap, .int .i64 bank] 29)).alloc (.cells #[.slice none 0 0, .int .i64 0] 29)).heap[w.heap.size]? = some (.cells #[.slice ua n ucap, .int .i64 bank] 29 (0, 0)) := boxA (box_new w _ _) _
  have r1 : ((w.alloc (.cells #[.slice ua n ucap, .int .i64 bank] 29)).alloc (.cells #[.slice none 0 0, .int .i64 0] 29)).heap[w.heap.size + 1]? = some (.cells #[.slice none 0 0, .int .i64 0] 29 (0, 0)) := by simpa using box_new (w.alloc (.cells #[.slice ua n ucap, .int .i64 bank] 29)) #[.slice none 0 0, .int .i64 0] 29
  go_enter Tryz.func69, Tryz.ntmps69
  go_wp2_with fail
  generalize ((w.alloc (.cells #[.slice ua n ucap, .int .i64 bank] 29)).alloc (.cells #[.slice none 0 0, .int .i64 0] 29)) = w1 at *
  have cb := boxC b1
  have HK := hide (show Ints .i64 w1.drew G _ n g from K0)
  have hr1 := boxLt r1
  clear K0
  go_region_with (go_at_call 98; refine (cloneInts _ G _ n g (unhide HK)).mono ?_; rintro e w2 ⟨q, rfl, O2, L2'⟩; obtain ⟨qa, qc, rfl, -, -, -, -⟩ := id O2; have L2 : Below w1.heap.size w1 w2 := Below.trans (⟨rfl, rfl, rfl, Nat.le_refl _, fun _ _ => rfl⟩ : Below w1.heap.size w1 w1.drew) L2'; have cb2 := boxC (box_keep b1 L2 (boxLt b1)); have cr2 := boxC (box_keep r1 L2 (boxLt r1)); have fr2 := boxF (box_keep r1 L2 (boxLt r1)); clear L2')
  all_goals
    go_wp2
    refine bodyPost_ret (v := .agg #[.slice qa n qc, .int .i64 bank]) (by simp [results, Tryz.results69, go_sem, cr2]) rfl ?_
    exact ⟨_, rfl, (((O2.mono (show w.heap.size + 2 ≤ w1.heap.size by omega)).setLow (by omega) _).setLow (by omega) _).mono (by omega), ((L0.trans (L2.mono L0.size)).setCell (by simp) _).setCell (by simp) _⟩
end Go.Proofs.YtjcaligejlhjdaaGreat
