/-
  Chapter 8 of the specification by its contracts: copies, dots, ticks, registers.
-/
import Derived.Test.YtjcaligejlhjdaaGreatS8
import Derived.Test.YtjcaligejlhjdaaGreatA8
import Derived.Lib.QuietBelow
namespace Go.Proofs.YtjcaligejlhjdaaGreat
set_option linter.unusedVariables false
open Go.ChangeShapes Go.WideShapes Go.ChangeAt Go.RowKit
set_option maxHeartbeats 1000000 in
theorem l8Copy (w : World) (F G : Nat → Nat → Prop) (t c s ad pl : Int) (bl : Bool) (u u' : Value) (n : Nat) (f : Nat → Int) (m : Nat) (g : Nat → Int) (H : Ints .i64 w F u n f) (K : Ints .i64 w G u' m g) :
    Calls Tryz.prog 59 #[.agg #[.int .i64 t, .int .i64 c, .int .i64 s, .int .i64 ad, .int .i64 pl, .bool bl, u, u']] w fun e w' => ∃ p x q y, e = .returned (.agg #[.int .i64 t, .int .i64 c, .int .i64 s, .int .i64 ad, .int .i64 pl, .bool bl, .slice (some ⟨p, 0, none⟩) n x, .slice (some ⟨q, 0, none⟩) m y]) ∧ Row w' w.heap.size p n x f ∧ Row w' w.heap.size q m y g ∧ p ≠ q ∧ Below w.heap.size w w' := by
  obtain ⟨ua, ux, rfl, un, hr, hF⟩ := H
  obtain ⟨va, vx, rfl, vn, hr', hF'⟩ := K
  have H : Ints .i64 w F (.slice ua n ux) n f := ⟨_, _, rfl, un, hr, hF⟩
  have K : Ints .i64 w G (.slice va m vx) m g := ⟨_, _, rfl, vn, hr', hF'⟩
  clear hr hF hr' hF'
  have L1 : Below w.heap.size w (((w.alloc (.cells #[.int .i64 t, .int .i64 c, .int .i64 s, .int .i64 ad, .int .i64 pl, .bool bl, .slice ua n ux, .slice va m vx] 35)).alloc (.cells #[.int .i64 0, .int .i64 0, .int .i64 0, .int .i64 0, .int .i64 0, .bool false, .slice none 0 0, .slice none 0 0] 35)).alloc (.cells #[] 3)) := (((Below.refl _ _).alloc (Nat.le_refl _) _).alloc (by simp) _).alloc (by simp; omega) _
  have k0 : (((w.alloc (.cells #[.int .i64 t, .int .i64 c, .int .i64 s, .int .i64 ad, .int .i64 pl, .bool bl, .slice ua n ux, .slice va m vx] 35)).alloc (.cells #[.int .i64 0, .int .i64 0, .int .i64 0, .int .i64 0, .int .i64 0, .bool false, .slice none 0 0, .slice none 0 0] 35)).alloc (.cells #[] 3)).heap[w.heap.size]? = some (.cells #[.int .i64 t, .int .i64 c, .int .i64 s, .int .i64 ad, .int .i64 pl, .bool bl, .slice ua n ux, .slice va m vx] 35 (0, 0)) := boxA (boxA (box_new w _ _) _) _
  have k1 : (((w.alloc (.cells #[.int .i64 t, .int .i64 c, .int .i64 s, .int .i64 ad, .int .i64 pl, .bool bl, .slice ua n ux, .slice va m vx] 35)).alloc (.cells #[.int .i64 0, .int .i64 0, .int .i64 0, .int .i64 0, .int .i64 0, .bool false, .slice none 0 0, .slice none 0 0] 35)).alloc (.cells #[] 3)).heap[w.heap.size + 1]? = some (.cells #[.int .i64 0, .int .i64 0, .int .i64 0, .int .i64 0, .int .i64 0, .bool false, .slice none 0 0, .slice none 0 0] 35 (0, 0)) := by simpa using boxA (box_new (w.alloc (.cells #[.int .i64 t, .int .i64 c, .int .i64 s, .int .i64 ad, .int .i64 pl, .bool bl, .slice ua n ux, .slice va m vx] 35)) _ _) (.cells #[] 3)
  have k2 : (((w.alloc (.cells #[.int .i64 t, .int .i64 c, .int .i64 s, .int .i64 ad, .int .i64 pl, .bool bl, .slice ua n ux, .slice va m vx] 35)).alloc (.cells #[.int .i64 0, .int .i64 0, .int .i64 0, .int .i64 0, .int .i64 0, .bool false, .slice none 0 0, .slice none 0 0] 35)).alloc (.cells #[] 3)).heap[w.heap.size + 1 + 1]? = some (.cells #[] 3 (0, 0)) := by simpa using box_new ((w.alloc (.cells #[.int .i64 t, .int .i64 c, .int .i64 s, .int .i64 ad, .int .i64 pl, .bool bl, .slice ua n ux, .slice va m vx] 35)).alloc (.cells #[.int .i64 0, .int .i64 0, .int .i64 0, .int .i64 0, .int .i64 0, .bool false, .slice none 0 0, .slice none 0 0] 35)) #[] 3
  have HZ : Hid ((((w.alloc (.cells #[.int .i64 t, .int .i64 c, .int .i64 s, .int .i64 ad, .int .i64 pl, .bool bl, .slice ua n ux, .slice va m vx] 35)).alloc (.cells #[.int .i64 0, .int .i64 0, .int .i64 0, .int .i64 0, .int .i64 0, .bool false, .slice none 0 0, .slice none 0 0] 35)).alloc (.cells #[] 3)).heap.size = w.heap.size + 1 + 1 + 1) := by show _ = _; simp
  go_enter Tryz.func59, Tryz.ntmps59
  go_wp2_with (at_builtin; refine wpList_copy _ rfl _ _ rfl (w.heap.size + 1 + 1) rfl k2 (w.heap.size + 1 + 1) (Nat.le_refl _) F (.slice ua n ux) n f rfl (H.keep (wrote_below L1 Nowhere) (fun _ _ _ x => x)) ?_)
  generalize (((w.alloc (.cells #[.int .i64 t, .int .i64 c, .int .i64 s, .int .i64 ad, .int .i64 pl, .bool bl, .slice ua n ux, .slice va m vx] 35)).alloc (.cells #[.int .i64 0, .int .i64 0, .int .i64 0, .int .i64 0, .int .i64 0, .bool false, .slice none 0 0, .slice none 0 0] 35)).alloc (.cells #[] 3)) = W1 at *
  rintro p x W2 R2 L2 hp
  have z1 : W1.heap.size = w.heap.size + 1 + 1 + 1 := unhide HZ
  have j0 := box_keep k0 L2 (by omega)
  have j1 := box_keep k1 L2 (by omega)
  have hps := R2.parts
  have L3 := L1.trans (L2.mono (by omega))
  have c0 := boxC j0
  have f0 := boxF j0
  have hzz : w.heap.size + 1 + 1 + 1 ≤ W2.heap.size := by have := L2.size; omega
  have m0 : ((W2.setCell ⟨w.heap.size, 6, none⟩ (.slice (some ⟨p, 0, none⟩) n x)).alloc (.cells #[] 3)).heap[w.heap.size]? = some (.cells #[.int .i64 t, .int .i64 c, .int .i64 s, .int .i64 ad, .int .i64 pl, .bool bl, .slice (some ⟨p, 0, none⟩) n x, .slice va m vx] 35 (0, 0)) := boxA (box_set j0 _) _
  have m1 : ((W2.setCell ⟨w.heap.size, 6, none⟩ (.slice (some ⟨p, 0, none⟩) n x)).alloc (.cells #[] 3)).heap[w.heap.size + 1]? = some (.cells #[.int .i64 0, .int .i64 0, .int .i64 0, .int .i64 0, .int .i64 0, .bool false, .slice none 0 0, .slice none 0 0] 35 (0, 0)) := boxA (box_set_ne8 j1 (by omega)) _
  have m2 : ((W2.setCell ⟨w.heap.size, 6, none⟩ (.slice (some ⟨p, 0, none⟩) n x)).alloc (.cells #[] 3)).heap[W2.heap.size]? = some (.cells #[] 3 (0, 0)) := by simpa using box_new (W2.setCell ⟨w.heap.size, 6, none⟩ (.slice (some ⟨p, 0, none⟩) n x)) #[] 3
  have LV : Below w.heap.size w ((W2.setCell ⟨w.heap.size, 6, none⟩ (.slice (some ⟨p, 0, none⟩) n x)).alloc (.cells #[] 3)) := (L3.setCell (Nat.le_refl _) _).alloc (by simp; have := L3.size; omega) _
  have WV : Wrote (fun b _ => b = w.heap.size) W2 ((W2.setCell ⟨w.heap.size, 6, none⟩ (.slice (some ⟨p, 0, none⟩) n x)).alloc (.cells #[] 3)) := (Wrote.setCell (R := fun b _ => b = w.heap.size) (Wrote.refl _ W2) (fun _ => rfl) _).alloc _
  have RV := R2.keep WV (fun _ h => by omega)
  have zV : ((W2.setCell ⟨w.heap.size, 6, none⟩ (.slice (some ⟨p, 0, none⟩) n x)).alloc (.cells #[] 3)).heap.size = W2.heap.size + 1 := by simp
  have HX := hide (And.intro m0 (And.intro m1 (And.intro m2 (And.intro LV (And.intro RV zV)))))
  have cm := boxC m0
  clear k0 k1 k2 L1 L2 L3 j0 j1 R2 z1 m0 m1 LV WV RV
  go_wp2_with (at_builtin; refine wpList_copy _ rfl _ _ rfl W2.heap.size rfl m2 W2.heap.size (Nat.le_refl _) G (.slice va m vx) m g rfl (K.keep (wrote_below HX.out.2.2.2.1 Nowhere) (fun _ _ _ x => x)) ?_)
  clear m2 c0 f0 cm
  generalize ((W2.setCell ⟨w.heap.size, 6, none⟩ (.slice (some ⟨p, 0, none⟩) n x)).alloc (.cells #[] 3)) = W3 at *
  rintro q y W4 R4 L4 hq
  obtain ⟨m0, m1, -, LV, RV, zV⟩ := HX.out
  replace L4 : Below W3.heap.size W3 W4 := by rw [zV]; exact L4
  have hqs := R4.parts
  have RP := RV.below L4
  have j0 := box_keep m0 L4 (boxLt m0)
  have j1 := box_keep m1 L4 (boxLt m1)
  have L5 := below_snoc LV L4
  have c0 := boxC j0
  have f0 := boxF j0
  have c1 := boxC j1
  have f1 := boxF j1
  have HY := hide (And.intro RP (And.intro R4 L5))
  clear HX HZ m0 m1 LV RV L4 R4 RP j0 j1 L5 zV
  go_wp2
  refine bodyPost_ret (v := .agg #[.int .i64 t, .int .i64 c, .int .i64 s, .int .i64 ad, .int .i64 pl, .bool bl, .slice (some ⟨p, 0, none⟩) n x, .slice (some ⟨q, 0, none⟩) m y]) (by simp [results, Tryz.results59, go_sem, c1]) rfl ?_
  have hw := hqs.2.1
  have key : ∀ W5, Wrote (fun b _ => b = w.heap.size ∨ b = w.heap.size + 1) W4 W5 → Row W5 w.heap.size p n x f ∧ Row W5 w.heap.size q m y g ∧ p ≠ q ∧ Below w.heap.size w W5 := fun W5 WW =>
    ⟨(HY.out.1.keep WW (fun _ h => by omega)).mono (by omega), (HY.out.2.1.keep WW (fun _ h => by omega)).mono (by omega), by omega, HY.out.2.2.trans (WW.below HY.out.2.2.size (fun b o hb h => by omega))⟩
  refine ⟨_, _, _, _, rfl, key _ ?_⟩
  iterate 9 (refine Wrote.setCell ?_ (fun _ => by omega) _)
  exact Wrote.refl _ _
end Go.Proofs.YtjcaligejlhjdaaGreat
namespace Go.Proofs.YtjcaligejlhjdaaGreat
set_option linter.unusedVariables false
set_option linter.unusedSimpArgs false
open Go.ChangeShapes Go.WideShapes Go.ChangeAt Go.RowKit
/-- A list of numbers, as a value, on blocks of a kind. -/
structure ListOn (W : World) (D : Nat → Prop) (u : Value) (k : Nat) (h : Nat → Int) : Prop where
  ex : ∃ d z, u = .slice d k z ∧ SlOn W D d k h
/-- A list that is none, or one of an own block. -/
def DotsOf (W : World) (lo p : Nat) (dd : Value) (m : Nat) (g : Nat → Int) : Prop := (dd = .slice none 0 0 ∧ m = 0) ∨ ∃ q y, dd = .slice (some ⟨q, 0, none⟩) m y ∧ Row W lo q m y g ∧ p ≠ q
theorem SlOn.zero {W : World} {D : Nat → Prop} (a : Option Addr) (f : Nat → Int) : SlOn W D a 0 f := ⟨by omega, fun i hi => absurd hi (Nat.not_lt_zero _), fun b o hF => absurd hF (foot_none _ _ _), fun b o hF => absurd hF (foot_none _ _ _)⟩
theorem Row.onD {W : World} {lo g n c : Nat} {f : Nat → Int} {D : Nat → Prop} (h : Row W lo g n c f) (hd : D g) : SlOn W D (some ⟨g, 0, none⟩) n f := h.sl.mono (fun b _ e => e ▸ hd)
end Go.Proofs.YtjcaligejlhjdaaGreat
namespace Go.Proofs.YtjcaligejlhjdaaGreat
set_option linter.unusedVariables false
set_option linter.unusedSimpArgs false
open Go.ChangeShapes Go.WideShapes Go.ChangeAt Go.RowKit
theorem DotsOf.keep {R : Nat → Nat → Prop} {W W' : World} {lo lo' p : Nat} {dd : Value} {m : Nat} {g : Nat → Int} (h : DotsOf W lo p dd m g) (hw : Wrote R W W') (hd : ∀ b o, lo ≤ b → ¬ R b o) (hl : lo' ≤ lo) : DotsOf W' lo' p dd m g := by
  rcases h with h | ⟨q, y, e, r, hne⟩
  · exact Or.inl h
  · exact Or.inr ⟨q, y, e, (r.keep hw (fun o => hd q o r.parts.1)).mono hl, hne⟩
end Go.Proofs.YtjcaligejlhjdaaGreat
namespace Go.Proofs.YtjcaligejlhjdaaGreat
set_option linter.unusedVariables false
open Go.ChangeShapes Go.WideShapes Go.ChangeAt Go.RowKit
theorem ListOn.small {W : World} {D : Nat → Prop} {u : Value} {k : Nat} {h : Nat → Int} (H : ListOn W D u k h) : k ≤ 1048576 := by
  obtain ⟨d, z, e, hs⟩ := H
  exact hs.small
theorem ListOn.keep {R : Nat → Nat → Prop} {W W' : World} {D : Nat → Prop} {u : Value} {k : Nat} {h : Nat → Int} (H : ListOn W D u k h) (hw : Wrote R W W') (hd : ∀ b o, D b → b < W.heap.size → ¬ R b o) : ListOn W' D u k h := by
  obtain ⟨d, z, e, hs⟩ := H
  exact ⟨d, z, e, hs.keep hw (fun b o _ => hd b o)⟩
theorem ListOn.below {W W' : World} {D : Nat → Prop} {u : Value} {k : Nat} {h : Nat → Int} (H : ListOn W D u k h) (L : Below W.heap.size W W') : ListOn W' D u k h := H.keep (wrote_below L Nowhere) (fun _ _ _ _ x => x)
theorem ListOn.mono {W : World} {D E : Nat → Prop} {u : Value} {k : Nat} {h : Nat → Int} (H : ListOn W D u k h) (hd : ∀ b, b < W.heap.size → D b → E b) : ListOn W E u k h := by
  obtain ⟨d, z, e, hs⟩ := H
  exact ⟨d, z, e, hs.mono hd⟩
theorem ListOn.two {W : World} {D : Nat → Prop} {u : Value} {k : Nat} {h : Nat → Int} (H : ListOn W D u k h) : ∃ d z, u = .slice d k z := by
  obtain ⟨d, z, e, hs⟩ := H
  exact ⟨d, z, e⟩
theorem onEqList (w : World) (D E : Nat → Prop) (u v : Value) (k : Nat) (h : Nat → Int) (H : ListOn w D u k h) (K : ListOn w E v k h) : Calls Tryz.prog 12 #[u, v] w fun e w' => e = .returned (.bool true) ∧ Below w.heap.size w w' := by
  obtain ⟨d, z, rfl, hs⟩ := H
  obtain ⟨d', z', rfl, hs'⟩ := K
  refine (eqIntS w _ _ _ _ k k h h (hs.ints z) (hs'.ints z')).mono ?_
  rintro e w' ⟨rfl, dd, rfl⟩
  exact ⟨by rw [eqInts_refl], below_drewN (Below.refl _ _) dd⟩
theorem onMarkList (w : World) (D : Nat → Prop) (u : Value) (k : Nat) (h : Nat → Int) (j : Int) (H : ListOn w D u k h) (j0 : 0 ≤ j) (j1 : j ≤ 1099511627776) : Calls Tryz.prog 14 #[u, .int .i64 j] w fun e w' => e = .returned (.int .i64 (j + k)) ∧ ListOn w' D u k (fun i => j + i) ∧ Wrote (On D) w w' := by
  obtain ⟨d, z, rfl, hs⟩ := H
  have hn := hs.small
  refine (markIntS w d k z h j hs.row hs.free j0 (by omega)).mono ?_
  rintro e w' ⟨rfl, R, T, -⟩
  exact ⟨rfl, ⟨_, _, rfl, hn, R, hs.free.keep T, hs.on⟩, T.mono (fun b o _ x => hs.on b o x)⟩
theorem onHeldList (w : World) (D : Nat → Prop) (u : Value) (k : Nat) (j : Int) (H : ListOn w D u k (fun i => j + i)) (j0 : 0 ≤ j) (j1 : j ≤ 1099511627776) : Calls Tryz.prog 48 #[u, .int .i64 j] w fun e w' => e = .returned (.int .i64 (j + k)) ∧ Below w.heap.size w w' := by
  obtain ⟨d, z, rfl, hs⟩ := H
  have hn := hs.small
  refine (heldIntS w d k z j hs.row j0 (by omega)).mono ?_
  rintro e w' ⟨rfl, rfl⟩
  exact ⟨rfl, Below.refl _ _⟩
end Go.Proofs.YtjcaligejlhjdaaGreat
