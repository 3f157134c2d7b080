/-
  The specification's memory (chapter 6) by its contracts: copies, Poke, Push, Pull.
-/
import Derived.Test.YtjcaligejlhjdaaGreatC7
import Derived.Test.YtjcaligejlhjdaaGreatV0
import Derived.Test.YtjcaligejlhjdaaGreatJ2
import Derived.Deep.RegionLaw
import Derived.Deep.RegionLawGrows
import Derived.Deep.RegionHeld3
namespace Go.Proofs.YtjcaligejlhjdaaGreat
set_option linter.unusedVariables false
open Go.ChangeShapes Go.WideShapes Go.ChangeAt Go.RowKit
theorem OwnInts.setLow {w : World} {lo : Nat} {v : Value} {n : Nat} {f : Nat → Int} (h : OwnInts w lo v n f) {d o : Nat} (hd : d < lo) (x : Value) : OwnInts (w.setCell ⟨d, o, none⟩ x) lo v n f := by
  obtain ⟨a, cap, hv, hn, hR, hF, hL⟩ := h
  have W1 : Wrote (fun b _ => b = d) w (w.setCell ⟨d, o, none⟩ x) := Wrote.setCell (R := fun b _ => b = d) (Wrote.refl _ w) (fun _ => rfl) x
  exact ⟨a, cap, hv, hn, hR.keep W1 (fun b o h e => by have := hL b o h; omega), hF.keep W1, hL⟩
theorem OwnInts.mono {w : World} {lo lo' : Nat} {v : Value} {n : Nat} {f : Nat → Int} (h : OwnInts w lo v n f) (hl : lo' ≤ lo) : OwnInts w lo' v n f := by
  obtain ⟨a, cap, hv, hn, hR, hF, hL⟩ := h
  exact ⟨a, cap, hv, hn, hR, hF, fun b o h => Nat.le_trans hl (hL b o h)⟩
theorem only8' (w : World) (d : Nat) (v0 v1 v2 v3 v4 v5 v6 v7 : Value) : Below d w ((((((((w.setCell ⟨d, 0, none⟩ v0).setCell ⟨d, 1, none⟩ v1).setCell ⟨d, 2, none⟩ v2).setCell ⟨d, 3, none⟩ v3).setCell ⟨d, 4, none⟩ v4).setCell ⟨d, 5, none⟩ v5).setCell ⟨d, 6, none⟩ v6).setCell ⟨d, 7, none⟩ v7) :=
  ((((((((Below.refl d w).setCell (Nat.le_refl _) _).setCell (Nat.le_refl _) _).setCell (Nat.le_refl _) _).setCell (Nat.le_refl _) _).setCell (Nat.le_refl _) _).setCell (Nat.le_refl _) _).setCell (Nat.le_refl _) _).setCell (Nat.le_refl _) _
end Go.Proofs.YtjcaligejlhjdaaGreat
namespace Go.Proofs.YtjcaligejlhjdaaGreat
set_option linter.unusedVariables false
open Go.ChangeShapes Go.WideShapes Go.ChangeAt Go.RowKit
abbrev On (D : Nat → Prop) : Nat → Nat → Prop := fun b _ => D b
theorem box_wrote {R : Nat → Nat → Prop} {w w' : World} {b : Nat} {o : Obj} (h : w.heap[b]? = some o) (hw : Wrote R w w') (hd : ∀ o, ¬ R b o) : w'.heap[b]? = some o := (hw.block b (boxLt h) hd).trans h
theorem box_set {w : World} {b o : Nat} {cs : Array Value} {t : TypeId} {fr : Nat × Nat} (h : w.heap[b]? = some (.cells cs t fr)) (x : Value) : (w.setCell ⟨b, o, none⟩ x).heap[b]? = some (.cells (cs.setIfInBounds o x) t fr) := by
  simp [World.setCell, Array.getElem?_modify, h]
structure MemOn (W : World) (D : Nat → Prop) (v : Value) (n : Nat) (g : Nat → Int) (bank : Int) : Prop where
  ex : ∃ a cap, v = .agg #[.slice a n cap, .int .i64 bank] ∧ n ≤ 1048576 ∧ RowOf .i64 W a n g ∧ Free W (Foot a n) ∧ ∀ b o, Foot a n b o → D b
theorem MemOn.keep {R : Nat → Nat → Prop} {W W' : World} {D : Nat → Prop} {v : Value} {n : Nat} {g : Nat → Int} {bank : Int} (h : MemOn W D v n g bank) (hw : Wrote R W W') (hd : ∀ b o, D b → b < W.heap.size → ¬ R b o) : MemOn W' D v n g bank := by
  obtain ⟨a, cap, e, hn, hr, hF, hD⟩ := h
  exact ⟨a, cap, e, hn, hr.keep hw (fun b o hf => hd b o (hD b o hf) (hF b o hf).1), hF.keep hw, hD⟩
theorem MemOn.below {W W' : World} {D : Nat → Prop} {v : Value} {n : Nat} {g : Nat → Int} {bank : Int} (h : MemOn W D v n g bank) (L : Below W.heap.size W W') : MemOn W' D v n g bank := h.keep (wrote_below L Nowhere) (fun _ _ _ _ x => x)
theorem MemOn.mono {W : World} {D E : Nat → Prop} {v : Value} {n : Nat} {g : Nat → Int} {bank : Int} (h : MemOn W D v n g bank) (hd : ∀ b, b < W.heap.size → D b → E b) : MemOn W E v n g bank := by
  obtain ⟨a, cap, e, hn, hr, hF, hD⟩ := h
  exact ⟨a, cap, e, hn, hr, hF, fun b o hf => hd b (hF b o hf).1 (hD b o hf)⟩
theorem MemOn.ints {W : World} {D : Nat → Prop} {v : Value} {n : Nat} {g : Nat → Int} {bank : Int} (h : MemOn W D v n g bank) : ∃ u, v = .agg #[u, .int .i64 bank] ∧ Ints .i64 W (On D) u n g := by
  obtain ⟨a, cap, e, hn, hr, hF, hD⟩ := h
  exact ⟨_, e, a, cap, rfl, hn, hr, hD⟩
theorem MemOn.size {W : World} {D : Nat → Prop} {v : Value} {n : Nat} {g : Nat → Int} {bank : Int} (h : MemOn W D v n g bank) : n ≤ 1048576 := by
  obtain ⟨a, cap, e, hn, hr, hF, hD⟩ := h
  exact hn
theorem MemOn.two {W : World} {D : Nat → Prop} {v : Value} {n : Nat} {g : Nat → Int} {bank : Int} (h : MemOn W D v n g bank) : ∃ a c, v = .agg #[.slice a n c, .int .i64 bank] := by
  obtain ⟨a, c, e, _⟩ := h
  exact ⟨a, c, e⟩
theorem MemOn.own {W : World} {lo n : Nat} {u : Value} {g : Nat → Int} {bank : Int} (h : OwnInts W lo u n g) : MemOn W (fun b => lo ≤ b) (.agg #[u, .int .i64 bank]) n g bank := by
  obtain ⟨a, cap, rfl, hn, hr, hF, hD⟩ := h
  exact ⟨a, cap, rfl, hn, hr, hF, hD⟩
structure ImgOn (W : World) (D : Nat → Prop) (v : Value) (m : Nat) (ln : Nat → Nat) (f : Nat → Nat → Int) : Prop where
  ex : ∃ p, v = .agg #[.slice (some ⟨p, 0, none⟩) m m] ∧ m + psum ln m ≤ 1048576 ∧ Rows2 W p m ln f ∧ p + 1 + m ≤ W.heap.size ∧ ∀ b, p ≤ b → b < p + 1 + m → D b
theorem ImgOn.keep {R : Nat → Nat → Prop} {W W' : World} {D : Nat → Prop} {v : Value} {m : Nat} {ln : Nat → Nat} {f : Nat → Nat → Int} (h : ImgOn W D v m ln f) (hw : Wrote R W W') (hd : ∀ b o, D b → b < W.heap.size → ¬ R b o) : ImgOn W' D v m ln f := by
  obtain ⟨p, e, hm, hr, hs, hD⟩ := h
  exact ⟨p, e, hm, hr.keep hw (fun b o h1 h2 => hd b o (hD b h1 h2) (by omega)), Nat.le_trans hs hw.size, hD⟩
theorem ImgOn.below {W W' : World} {D : Nat → Prop} {v : Value} {m : Nat} {ln : Nat → Nat} {f : Nat → Nat → Int} (h : ImgOn W D v m ln f) (L : Below W.heap.size W W') : ImgOn W' D v m ln f := h.keep (wrote_below L Nowhere) (fun _ _ _ _ x => x)
theorem ImgOn.mono {W : World} {D E : Nat → Prop} {v : Value} {m : Nat} {ln : Nat → Nat} {f : Nat → Nat → Int} (h : ImgOn W D v m ln f) (hd : ∀ b, b < W.heap.size → D b → E b) : ImgOn W E v m ln f := by
  obtain ⟨p, e, hm, hr, hs, hD⟩ := h
  exact ⟨p, e, hm, hr, hs, fun b h1 h2 => hd b (by omega) (hD b h1 h2)⟩
theorem ImgOn.ints {W : World} {D : Nat → Prop} {v : Value} {m : Nat} {ln : Nat → Nat} {f : Nat → Nat → Int} (h : ImgOn W D v m ln f) : ∃ u F, v = .agg #[u] ∧ IntSS .i64 W F u m ln f := by
  obtain ⟨p, e, hm, hr, hs, hD⟩ := h
  exact ⟨_, _, e, hr.ints hm⟩
theorem onEqMem (w : World) (D E : Nat → Prop) (v u : Value) (n : Nat) (f : Nat → Int) (bank : Int) (H : MemOn w D v n f bank) (K : MemOn w E u n f bank) :
    Calls Tryz.prog 37 #[v, u] w fun e w' => e = .returned (.bool true) ∧ Below w.heap.size w w' := by
  obtain ⟨v', rfl, hv⟩ := H.ints
  obtain ⟨u', rfl, hu⟩ := K.ints
  exact eqMem_same w _ _ v' u' n f bank hv hu
theorem onMarkMem (w : World) (D : Nat → Prop) (v : Value) (n : Nat) (f : Nat → Int) (bank k : Int) (H : MemOn w D v n f bank) (k0 : 0 ≤ k) (k1 : k ≤ 1099511627776) :
    Calls Tryz.prog 44 #[v, .int .i64 k] w fun e w' => e = .returned (.int .i64 (k + n)) ∧ MemOn w' D v n (fun i => k + i) bank ∧ Wrote (On D) w w' := by
  obtain ⟨a, cap, rfl, hn, hr, hF, hD⟩ := H
  refine (markMem w a n cap f bank k hr hF k0 (by omega)).mono ?_
  rintro e w' ⟨rfl, hr', hw⟩
  exact ⟨rfl, ⟨a, cap, rfl, hn, hr', hF.keep hw, hD⟩, hw.mono (fun b o _ h => hD b o h)⟩
theorem onHeldMem (w : World) (D : Nat → Prop) (v : Value) (n : Nat) (bank k : Int) (H : MemOn w D v n (fun i => k + i) bank) (k0 : 0 ≤ k) (k1 : k ≤ 1099511627776) :
    Calls Tryz.prog 49 #[v, .int .i64 k] w fun e w' => e = .returned (.int .i64 (k + n)) ∧ Below w.heap.size w w' := by
  obtain ⟨a, cap, rfl, hn, hr, hF, hD⟩ := H
  exact heldMem w a n cap bank k hr k0 (by omega)
end Go.Proofs.YtjcaligejlhjdaaGreat
namespace Go.Proofs.YtjcaligejlhjdaaGreat
set_option linter.unusedVariables false
open Go.ChangeShapes Go.WideShapes Go.ChangeAt Go.RowKit
def setAt (g : Nat → Int) (k : Nat) (x : Int) : Nat → Int := fun i => if i = k then x else g i
/-- The row of an answer, with one number put. -/
theorem OwnInts.put {w : World} {lo : Nat} {b off cap n : Nat} {f : Nat → Int} (h : OwnInts w lo (.slice (some ⟨b, off, none⟩) n cap) n f) (k : Nat) (hk : k < n) (x : Int) : OwnInts (w.setCell ⟨b, off + k, none⟩ (.int .i64 x)) lo (.slice (some ⟨b, off, none⟩) n cap) n (setAt f k x) := by
  obtain ⟨a, cap', hv, hn, hr, hF, hL⟩ := h
  simp only [Value.slice.injEq] at hv
  obtain ⟨rfl, -, rfl⟩ := hv
  have W1 : Wrote (fun b' o' => b' = b ∧ o' = off + k) w (w.setCell ⟨b, off + k, none⟩ (.int .i64 x)) := Wrote.setCell (Wrote.refl _ w) (fun _ => ⟨rfl, rfl⟩) _
  exact ⟨_, _, rfl, hn, row_marked hr hk, hF.keep W1, hL⟩
theorem OwnInts.cellAt {w : World} {lo : Nat} {b off cap n : Nat} {f : Nat → Int} (h : OwnInts w lo (.slice (some ⟨b, off, none⟩) n cap) n f) (k : Nat) (hk : k < n) : w.cell? ⟨b, off + k, none⟩ = some (.int .i64 (f k)) ∧ w.frozen? ⟨b, off + k, none⟩ = false ∧ lo ≤ b ∧ b < w.heap.size := by
  obtain ⟨a, cap', hv, hn, hr, hF, hL⟩ := h
  simp only [Value.slice.injEq] at hv
  obtain ⟨rfl, -, rfl⟩ := hv
  obtain ⟨b', off', e, hc⟩ := hr k hk
  simp only [Option.some.injEq, Addr.mk.injEq] at e
  obtain ⟨rfl, rfl, -⟩ := e
  exact ⟨hc, (hF b (off + k) (foot_at hk)).2, hL b (off + k) (foot_at hk), (hF b (off + k) (foot_at hk)).1⟩
end Go.Proofs.YtjcaligejlhjdaaGreat
namespace Go.Proofs.YtjcaligejlhjdaaGreat
set_option linter.unusedVariables false
open Go.ChangeShapes Go.WideShapes Go.ChangeAt Go.RowKit
theorem specMemNew (w : World) : Calls Tryz.prog 26 #[] w fun e w' => ∃ q, e = .returned (.agg #[q, .int .i64 0]) ∧ OwnInts w' w.heap.size q 512 (fun _ => 0) ∧ Below w.heap.size w w' := by
  obtain ⟨ob, hmk, hrow⟩ : ∃ ob : Obj, (∀ W : World, (Instr.makeSlice 25 (.int .i64 512) (.int .i64 512)).run Tryz.prog W = .ok (.slice (some ⟨W.heap.size, 0, none⟩) 512 512) (W.alloc ob)) ∧ Hid (∀ W : World, (W.alloc ob).rowIs W.heap.size 3 512 (fun _ => .int .i64 0)) :=
    ⟨_, run_make_row' (P := Tryz.prog) 25 3 (.int .i64 0) 8 Tryz.underlying25 info3 rfl .i64 .i64 512 (by omega) (by omega), fun W => World.rowIs_made W _ _ _⟩
  have hr := hide (hrow.out (w.alloc (.cells #[.slice (some ⟨w.heap.size + 1, 0, none⟩) 512 512, .int .i64 0] 29)))
  have L0 : Below w.heap.size w ((w.alloc (.cells #[.slice (some ⟨w.heap.size + 1, 0, none⟩) 512 512, .int .i64 0] 29)).alloc ob) := ((Below.refl _ _).alloc (Nat.le_refl _) _).alloc (by simp) _
  go_enter Tryz.func26, Tryz.ntmps26
  go_wp2
  have hr' := unhide hr
  simp only [World.size_alloc] at hr'
  have O0 : OwnInts ((w.alloc (.cells #[.slice (some ⟨w.heap.size + 1, 0, none⟩) 512 512, .int .i64 0] 29)).alloc ob) (w.heap.size + 1) (.slice (some ⟨w.heap.size + 1, 0, none⟩) 512 512) 512 (fun _ => 0) := by
    refine ⟨_, _, rfl, by omega, rowOf_row hr', fun b o ⟨off, e, _, _⟩ => ?_, fun b o ⟨off, e, _, _⟩ => ?_⟩
    · simp only [Option.some.injEq, Addr.mk.injEq] at e
      obtain ⟨rfl, -, -⟩ := e
      exact ⟨hr'.lt, hr'.frozen _⟩
    · simp only [Option.some.injEq, Addr.mk.injEq] at e
      obtain ⟨rfl, -, -⟩ := e
      omega
  refine bodyPost_ret (v := .agg #[.slice (some ⟨w.heap.size + 1, 0, none⟩) 512 512, .int .i64 0]) (by simp [results, Tryz.results26, go_sem]) rfl ?_
  exact ⟨_, rfl, O0.mono (by omega), L0⟩
end Go.Proofs.YtjcaligejlhjdaaGreat
