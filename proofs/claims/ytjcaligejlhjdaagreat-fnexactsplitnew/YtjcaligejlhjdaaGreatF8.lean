/-
  Chapter 8 of the specification by its contracts: registers.
-/
import Derived.Test.YtjcaligejlhjdaaGreatS8
import Derived.Test.YtjcaligejlhjdaaGreatA8
import Derived.Lib.QuietBelow
namespace Go.Proofs.YtjcaligejlhjdaaGreat
set_option linter.unusedVariables false
open Go.ChangeShapes Go.WideShapes Go.ChangeAt Go.RowKit
theorem specPpuNew (w : World) : Calls Tryz.prog 28 #[] w fun e w' => ∃ p, e = .returned (.agg #[.int .i64 0, .int .i64 0, .int .i64 0, .int .i64 0, .int .i64 0, .bool false, .slice (some ⟨p, 0, none⟩) 16 16, .slice none 0 0]) ∧ Row w' w.heap.size p 16 16 (fun _ => 0) ∧ Below w.heap.size w w' := by
  obtain ⟨ob, hmk, hrow⟩ : ∃ ob : Obj, (∀ W : World, (Instr.makeSlice 25 (.int .i64 16) (.int .i64 16)).run Tryz.prog W = .ok (.slice (some ⟨W.heap.size, 0, none⟩) 16 16) (W.alloc ob)) ∧ Hid (∀ W : World, (W.alloc ob).rowIs W.heap.size 3 16 (fun _ => .int .i64 0)) :=
    ⟨_, run_make_row' (P := Tryz.prog) 25 3 (.int .i64 0) 8 Tryz.underlying25 info3 rfl .i64 .i64 16 (by omega) (by omega), fun W => World.rowIs_made W _ _ _⟩
  have hr := hide (hrow.out (w.alloc (.cells #[.int .i64 0, .int .i64 0, .int .i64 0, .int .i64 0, .int .i64 0, .bool false, .slice (some ⟨w.heap.size + 1, 0, none⟩) 16 16, .slice none 0 0] 35)))
  have L0 : Below w.heap.size w ((w.alloc (.cells #[.int .i64 0, .int .i64 0, .int .i64 0, .int .i64 0, .int .i64 0, .bool false, .slice (some ⟨w.heap.size + 1, 0, none⟩) 16 16, .slice none 0 0] 35)).alloc ob) := ((Below.refl _ _).alloc (Nat.le_refl _) _).alloc (by simp) _
  go_enter Tryz.func28, Tryz.ntmps28
  go_wp2
  have hr' := unhide hr
  simp only [World.size_alloc] at hr'
  refine bodyPost_ret (v := .agg #[.int .i64 0, .int .i64 0, .int .i64 0, .int .i64 0, .int .i64 0, .bool false, .slice (some ⟨w.heap.size + 1, 0, none⟩) 16 16, .slice none 0 0]) (by simp [results, Tryz.results28, go_sem]) rfl ?_
  exact ⟨_, rfl, Row.fresh hr' (by omega) (by omega), L0⟩
end Go.Proofs.YtjcaligejlhjdaaGreat
namespace Go.Proofs.YtjcaligejlhjdaaGreat
set_option linter.unusedVariables false
set_option linter.unusedSimpArgs false
open Go.ChangeShapes Go.WideShapes Go.ChangeAt Go.RowKit
/-- A list of numbers, as a value, on blocks of a kind. -/
structure ListOn (W : World) (D : Nat → Prop) (u : Value) (k : Nat) (h : Nat → Int) : Prop where
  ex : ∃ d z, u = .slice d k z ∧ SlOn W D d k h
/-- A list that is none, or one of an own block. -/
def DotsOf (W : World) (lo p : Nat) (dd : Value) (m : Nat) (g : Nat → Int) : Prop := (dd = .slice none 0 0 ∧ m = 0) ∨ ∃ q y, dd = .slice (some ⟨q, 0, none⟩) m y ∧ Row W lo q m y g ∧ p ≠ q
theorem SlOn.zero {W : World} {D : Nat → Prop} (a : Option Addr) (f : Nat → Int) : SlOn W D a 0 f := ⟨by omega, fun i hi => absurd hi (Nat.not_lt_zero _), fun b o hF => absurd hF (foot_none _ _ _), fun b o hF => absurd hF (foot_none _ _ _)⟩
theorem Row.onD {W : World} {lo g n c : Nat} {f : Nat → Int} {D : Nat → Prop} (h : Row W lo g n c f) (hd : D g) : SlOn W D (some ⟨g, 0, none⟩) n f := h.sl.mono (fun b _ e => e ▸ hd)
end Go.Proofs.YtjcaligejlhjdaaGreat
namespace Go.Proofs.YtjcaligejlhjdaaGreat
set_option linter.unusedVariables false
set_option linter.unusedSimpArgs false
open Go.ChangeShapes Go.WideShapes Go.ChangeAt Go.RowKit
theorem DotsOf.keep {R : Nat → Nat → Prop} {W W' : World} {lo lo' p : Nat} {dd : Value} {m : Nat} {g : Nat → Int} (h : DotsOf W lo p dd m g) (hw : Wrote R W W') (hd : ∀ b o, lo ≤ b → ¬ R b o) (hl : lo' ≤ lo) : DotsOf W' lo' p dd m g := by
  rcases h with h | ⟨q, y, e, r, hne⟩
  · exact Or.inl h
  · exact Or.inr ⟨q, y, e, (r.keep hw (fun o => hd q o r.parts.1)).mono hl, hne⟩
end Go.Proofs.YtjcaligejlhjdaaGreat
namespace Go.Proofs.YtjcaligejlhjdaaGreat
set_option linter.unusedVariables false
open Go.ChangeShapes Go.WideShapes Go.ChangeAt Go.RowKit
theorem ListOn.small {W : World} {D : Nat → Prop} {u : Value} {k : Nat} {h : Nat → Int} (H : ListOn W D u k h) : k ≤ 1048576 := by
  obtain ⟨d, z, e, hs⟩ := H
  exact hs.small
theorem ListOn.keep {R : Nat → Nat → Prop} {W W' : World} {D : Nat → Prop} {u : Value} {k : Nat} {h : Nat → Int} (H : ListOn W D u k h) (hw : Wrote R W W') (hd : ∀ b o, D b → b < W.heap.size → ¬ R b o) : ListOn W' D u k h := by
  obtain ⟨d, z, e, hs⟩ := H
  exact ⟨d, z, e, hs.keep hw (fun b o _ => hd b o)⟩
theorem ListOn.below {W W' : World} {D : Nat → Prop} {u : Value} {k : Nat} {h : Nat → Int} (H : ListOn W D u k h) (L : Below W.heap.size W W') : ListOn W' D u k h := H.keep (wrote_below L Nowhere) (fun _ _ _ _ x => x)
theorem ListOn.mono {W : World} {D E : Nat → Prop} {u : Value} {k : Nat} {h : Nat → Int} (H : ListOn W D u k h) (hd : ∀ b, b < W.heap.size → D b → E b) : ListOn W E u k h := by
  obtain ⟨d, z, e, hs⟩ := H
  exact ⟨d, z, e, hs.mono hd⟩
theorem ListOn.two {W : World} {D : Nat → Prop} {u : Value} {k : Nat} {h : Nat → Int} (H : ListOn W D u k h) : ∃ d z, u = .slice d k z := by
  obtain ⟨d, z, e, hs⟩ := H
  exact ⟨d, z, e⟩
theorem onEqList (w : World) (D E : Nat → Prop) (u v : Value) (k : Nat) (h : Nat → Int) (H : ListOn w D u k h) (K : ListOn w E v k h) : Calls Tryz.prog 12 #[u, v] w fun e w' => e = .returned (.bool true) ∧ Below w.heap.size w w' := by
  obtain ⟨d, z, rfl, hs⟩ := H
  obtain ⟨d', z', rfl, hs'⟩ := K
  refine (eqIntS w _ _ _ _ k k h h (hs.ints z) (hs'.ints z')).mono ?_
  rintro e w' ⟨rfl, dd, rfl⟩
  exact ⟨by rw [eqInts_refl], below_drewN (Below.refl _ _) dd⟩
theorem onMarkList (w : World) (D : Nat → Prop) (u : Value) (k : Nat) (h : Nat → Int) (j : Int) (H : ListOn w D u k h) (j0 : 0 ≤ j) (j1 : j ≤ 1099511627776) : Calls Tryz.prog 14 #[u, .int .i64 j] w fun e w' => e = .returned (.int .i64 (j + k)) ∧ ListOn w' D u k (fun i => j + i) ∧ Wrote (On D) w w' := by
  obtain ⟨d, z, rfl, hs⟩ := H
  have hn := hs.small
  refine (markIntS w d k z h j hs.row hs.free j0 (by omega)).mono ?_
  rintro e w' ⟨rfl, R, T, -⟩
  exact ⟨rfl, ⟨_, _, rfl, hn, R, hs.free.keep T, hs.on⟩, T.mono (fun b o _ x => hs.on b o x)⟩
theorem onHeldList (w : World) (D : Nat → Prop) (u : Value) (k : Nat) (j : Int) (H : ListOn w D u k (fun i => j + i)) (j0 : 0 ≤ j) (j1 : j ≤ 1099511627776) : Calls Tryz.prog 48 #[u, .int .i64 j] w fun e w' => e = .returned (.int .i64 (j + k)) ∧ Below w.heap.size w w' := by
  obtain ⟨d, z, rfl, hs⟩ := H
  have hn := hs.small
  refine (heldIntS w d k z j hs.row j0 (by omega)).mono ?_
  rintro e w' ⟨rfl, rfl⟩
  exact ⟨rfl, Below.refl _ _⟩
end Go.Proofs.YtjcaligejlhjdaaGreat
