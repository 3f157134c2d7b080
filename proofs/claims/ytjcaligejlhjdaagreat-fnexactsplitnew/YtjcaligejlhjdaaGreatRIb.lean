/-
  The program's rows of records by their contracts.
-/
import Derived.Test.YtjcaligejlhjdaaGreatRIa
import Derived.Test.YtjcaligejlhjdaaGreatRA
import Derived.Test.YtjcaligejlhjdaaGreatI8f
import Derived.Test.YtjcaligejlhjdaaGreatPD
import Derived.Laws.CopyRow
import Derived.Laws.IdiomCopy
import Derived.Laws.Rows
import Derived.Laws.Tables
import Derived.Deep.WholeRow
import Derived.Deep.AppendLies
namespace Go.Proofs.YtjcaligejlhjdaaGreat
set_option linter.unusedVariables false
set_option linter.unusedSimpArgs false
open Go.ChangeShapes Go.WideShapes Go.ChangeAt Go.RowKit Go.Sort
section
variable {g g' : Nat → Int} {most h t : Int}
end
/-- What was written before, and then into blocks that had not been. -/
theorem Wrote.after {R S : Nat → Nat → Prop} {u v w : World} (h : Wrote R u v) (k : Wrote S v w) (hs : ∀ b o, b < u.heap.size → ¬ S b o) : Wrote R u w :=
  ⟨k.os.trans h.os, k.tape.trans h.tape, k.output.trans h.output, Nat.le_trans h.size k.size,
    fun i hi hr => (k.block i (Nat.lt_of_lt_of_le hi h.size) (fun o => hs i o hi)).trans (h.block i hi hr),
    fun b o hb hr => (k.cell b o (Nat.lt_of_lt_of_le hb h.size) (hs b o hb)).trans (h.cell b o hb hr),
    fun b o hb => (k.frozen b o (Nat.lt_of_lt_of_le hb h.size)).trans (h.frozen b o hb)⟩
/-- 'append(xs, x)', of a list of records that is none, or that the call owns. -/
def RcAt (W : World) (lo : Nat) (o7 : Option Nat) (u : Value) (n : Nat) (f : Nat → Int) : Prop :=
  match o7 with
  | none => u = .slice none 0 0 ∧ n = 0
  | some g => ∃ c, u = .slice (some ⟨g, 0, none⟩) n c ∧ RcRow W lo g n c f
theorem RcAt.on {W : World} {lo : Nat} {o7 : Option Nat} {u : Value} {n : Nat} {f : Nat → Int} (h : RcAt W lo o7 u n f) : RsOn W (fun b => lo ≤ b) u n f := by
  cases o7 with
  | none => obtain ⟨rfl, rfl⟩ := h; exact RsOn.none0 f
  | some g => obtain ⟨c, rfl, r⟩ := h; exact r.on r.parts.1
theorem RcAt.keep {R : Nat → Nat → Prop} {W W' : World} {lo : Nat} {o7 : Option Nat} {u : Value} {n : Nat} {f : Nat → Int} (h : RcAt W lo o7 u n f) (hw : Wrote R W W') (hd : ∀ g o, o7 = some g → ¬ R g o) : RcAt W' lo o7 u n f := by
  cases o7 with
  | none => exact h
  | some g => obtain ⟨c, rfl, r⟩ := h; exact ⟨c, rfl, r.keep hw (fun o => hd g o rfl)⟩
theorem RcAt.two {W : World} {lo : Nat} {o7 : Option Nat} {u : Value} {n : Nat} {f : Nat → Int} (h : RcAt W lo o7 u n f) : ∃ a c, u = .slice a n c := by
  cases o7 with
  | none => obtain ⟨rfl, rfl⟩ := h; exact ⟨_, _, rfl⟩
  | some g => obtain ⟨c, rfl, r⟩ := h; exact ⟨_, _, rfl⟩
theorem RcAt.lo {W : World} {lo g : Nat} {o7 : Option Nat} {u : Value} {n : Nat} {f : Nat → Int} (h : RcAt W lo o7 u n f) (e : o7 = some g) : lo ≤ g := by
  subst e
  obtain ⟨c, rfl, r⟩ := h
  exact r.parts.1
end Go.Proofs.YtjcaligejlhjdaaGreat
namespace Go.Proofs.YtjcaligejlhjdaaGreat
set_option linter.unusedVariables false
set_option linter.unusedSimpArgs false
open Go.ChangeShapes Go.WideShapes Go.ChangeAt Go.RowKit
/-- A sound unit that comes after, in numbers. -/
structure SnD where
  T : Int
  P : Int
  C : Int
  B : Int
  L : Int
  S : Bool
  Q : Bool
  cap : Int
  n : Nat
  f : Nat → Int
  ns : Nat
  sm : Nat → Int
structure SnOn (W : World) (D : Nat → Nat → Prop) (v : Value) (d : SnD) : Prop where
  ex : ∃ u1 u2, v = .agg #[.int .i64 d.T, .int .i64 d.P, .int .i64 d.C, .int .i64 d.B, .int .i64 d.L, .bool d.S, .bool d.Q, .int .i64 d.cap, u1, u2] ∧ RsOn W (D 0) u1 d.n d.f ∧ ListOn W (D 1) u2 d.ns d.sm
section
variable {R : Nat → Nat → Prop} {W W' : World} {D E : Nat → Nat → Prop} {v : Value} {d : SnD}
theorem SnOn.keep (H : SnOn W D v d) (hw : Wrote R W W') (hd : ∀ i b o, D i b → b < W.heap.size → ¬ R b o) : SnOn W' D v d := by
  obtain ⟨u1, u2, e, h1, h2⟩ := H
  exact ⟨u1, u2, e, h1.keep hw (hd 0), h2.keep hw (hd 1)⟩
theorem SnOn.below (H : SnOn W D v d) (L : Below W.heap.size W W') : SnOn W' D v d := H.keep (wrote_below L Nowhere) (fun _ _ _ _ _ x => x)
theorem SnOn.mono (H : SnOn W D v d) (hd : ∀ i b, b < W.heap.size → D i b → E i b) : SnOn W E v d := by
  obtain ⟨u1, u2, e, h1, h2⟩ := H
  exact ⟨u1, u2, e, h1.mono (hd 0), h2.mono (hd 1)⟩
theorem SnOn.form (H : SnOn W D v d) : ∃ a c a' c', v = .agg #[.int .i64 d.T, .int .i64 d.P, .int .i64 d.C, .int .i64 d.B, .int .i64 d.L, .bool d.S, .bool d.Q, .int .i64 d.cap, .slice a d.n c, .slice a' d.ns c'] := by
  obtain ⟨u1, u2, e, h1, h2⟩ := H
  obtain ⟨a, c, rfl⟩ := h1.two
  obtain ⟨a', c', rfl⟩ := h2.two
  exact ⟨a, c, a', c', e⟩
end
def markSn (d : SnD) (k : Int) : SnD := { d with f := fun i => k + i, sm := fun i => k + 3 * d.n + i }
theorem onEqSound (w : World) (D E : Nat → Nat → Prop) (v u : Value) (d : SnD) (H : SnOn w D v d) (K : SnOn w E u d) :
    Calls Tryz.prog 41 #[v, u] w fun e w' => e = .returned (.bool true) ∧ Below w.heap.size w w' := by
  obtain ⟨u1, u2, rfl, h1, h2⟩ := H
  obtain ⟨v1, v2, rfl, k1, k2⟩ := K
  obtain ⟨xa, xc, rfl⟩ := h1.two
  obtain ⟨x', xd, rfl⟩ := h2.two
  obtain ⟨ya, yc, rfl⟩ := k1.two
  obtain ⟨y', yd, rfl⟩ := k2.two
  have L0 : Below w.heap.size w ((w.alloc (.cells #[.int .i64 d.T, .int .i64 d.P, .int .i64 d.C, .int .i64 d.B, .int .i64 d.L, .bool d.S, .bool d.Q, .int .i64 d.cap, .slice xa d.n xc, .slice x' d.ns xd] 44)).alloc (.cells #[.int .i64 d.T, .int .i64 d.P, .int .i64 d.C, .int .i64 d.B, .int .i64 d.L, .bool d.S, .bool d.Q, .int .i64 d.cap, .slice ya d.n yc, .slice y' d.ns yd] 44)) := ((Below.refl _ _).alloc (Nat.le_refl _) _).alloc (by simp) _
  have B0 : ((w.alloc (.cells #[.int .i64 d.T, .int .i64 d.P, .int .i64 d.C, .int .i64 d.B, .int .i64 d.L, .bool d.S, .bool d.Q, .int .i64 d.cap, .slice xa d.n xc, .slice x' d.ns xd] 44)).alloc (.cells #[.int .i64 d.T, .int .i64 d.P, .int .i64 d.C, .int .i64 d.B, .int .i64 d.L, .bool d.S, .bool d.Q, .int .i64 d.cap, .slice ya d.n yc, .slice y' d.ns yd] 44)).heap[w.heap.size]? = some (.cells #[.int .i64 d.T, .int .i64 d.P, .int .i64 d.C, .int .i64 d.B, .int .i64 d.L, .bool d.S, .bool d.Q, .int .i64 d.cap, .slice xa d.n xc, .slice x' d.ns xd] 44 (0, 0)) := boxA (box_new w _ _) _
  have B1 : ((w.alloc (.cells #[.int .i64 d.T, .int .i64 d.P, .int .i64 d.C, .int .i64 d.B, .int .i64 d.L, .bool d.S, .bool d.Q, .int .i64 d.cap, .slice xa d.n xc, .slice x' d.ns xd] 44)).alloc (.cells #[.int .i64 d.T, .int .i64 d.P, .int .i64 d.C, .int .i64 d.B, .int .i64 d.L, .bool d.S, .bool d.Q, .int .i64 d.cap, .slice ya d.n yc, .slice y' d.ns yd] 44)).heap[w.heap.size + 1]? = some (.cells #[.int .i64 d.T, .int .i64 d.P, .int .i64 d.C, .int .i64 d.B, .int .i64 d.L, .bool d.S, .bool d.Q, .int .i64 d.cap, .slice ya d.n yc, .slice y' d.ns yd] 44 (0, 0)) := by simpa using box_new (w.alloc (.cells #[.int .i64 d.T, .int .i64 d.P, .int .i64 d.C, .int .i64 d.B, .int .i64 d.L, .bool d.S, .bool d.Q, .int .i64 d.cap, .slice xa d.n xc, .slice x' d.ns xd] 44)) #[.int .i64 d.T, .int .i64 d.P, .int .i64 d.C, .int .i64 d.B, .int .i64 d.L, .bool d.S, .bool d.Q, .int .i64 d.cap, .slice ya d.n yc, .slice y' d.ns yd] 44
  replace h1 := h1.below L0
  replace h2 := h2.below L0
  replace k1 := k1.below L0
  replace k2 := k2.below L0
  go_enter Tryz.func41, Tryz.ntmps41
  go_wp2_with fail
  generalize (w.alloc (.cells #[.int .i64 d.T, .int .i64 d.P, .int .i64 d.C, .int .i64 d.B, .int .i64 d.L, .bool d.S, .bool d.Q, .int .i64 d.cap, .slice xa d.n xc, .slice x' d.ns xd] 44)).alloc (.cells #[.int .i64 d.T, .int .i64 d.P, .int .i64 d.C, .int .i64 d.B, .int .i64 d.L, .bool d.S, .bool d.Q, .int .i64 d.cap, .slice ya d.n yc, .slice y' d.ns yd] 44) = W0 at *
  refine (eqApu_same _ d.T d.P d.C d.B d.L d.S d.Q).mono ?_
  rintro e W1 ⟨rfl, L⟩
  replace L0 := below_snoc L0 L
  replace B0 := box_keep B0 L (boxLt B0)
  replace B1 := box_keep B1 L (boxLt B1)
  replace h1 := h1.below L
  replace h2 := h2.below L
  replace k1 := k1.below L
  replace k2 := k2.below L
  clear L
  have c0 := boxC B0
  have c1 := boxC B1
  go_wp2_with fail
  clear c0 c1
  refine (onEqRing _ (D 0) (E 0) _ _ d.cap d.n d.f ⟨_, rfl, h1⟩ ⟨_, rfl, k1⟩).mono ?_
  rintro e W2 ⟨rfl, L⟩
  replace L0 := below_snoc L0 L
  replace B0 := box_keep B0 L (boxLt B0)
  replace B1 := box_keep B1 L (boxLt B1)
  replace h1 := h1.below L
  replace h2 := h2.below L
  replace k1 := k1.below L
  replace k2 := k2.below L
  clear L
  have c0 := boxC B0
  have c1 := boxC B1
  go_wp2_with fail
  clear c0 c1
  refine (onEqList _ (D 1) (E 1) _ _ d.ns d.sm h2 k2).mono ?_
  rintro e W3 ⟨rfl, L⟩
  replace L0 := below_snoc L0 L
  replace B0 := box_keep B0 L (boxLt B0)
  replace B1 := box_keep B1 L (boxLt B1)
  replace h1 := h1.below L
  replace h2 := h2.below L
  replace k1 := k1.below L
  replace k2 := k2.below L
  clear L
  go_wp2
  go_ret
  exact ⟨rfl, L0⟩
theorem onMarkSound (w : World) (D : Nat → Nat → Prop) (v : Value) (d : SnD) (k : Int) (H : SnOn w D v d) (dis : Dis D) (lt : ∀ i b, D i b → b < w.heap.size) (k0 : 0 ≤ k) (k1 : k ≤ 1099000000000) :
    Calls Tryz.prog 46 #[v, .int .i64 k] w fun e w' => e = .returned (.int .i64 (k + 3 * d.n + d.ns)) ∧ SnOn w' D v (markSn d k) ∧ Wrote (fun b _ => ∃ i, D i b) w w' := by
  obtain ⟨u1, u2, rfl, h1, h2⟩ := H
  obtain ⟨xa, xc, rfl⟩ := h1.two
  obtain ⟨x', xd, rfl⟩ := h2.two
  have hn1 := h1.small
  have hn2 := h2.small
  have L0 : Below w.heap.size w (w.alloc (.cells #[.int .i64 d.T, .int .i64 d.P, .int .i64 d.C, .int .i64 d.B, .int .i64 d.L, .bool d.S, .bool d.Q, .int .i64 d.cap, .slice xa d.n xc, .slice x' d.ns xd] 44)) := (Below.refl _ _).alloc (Nat.le_refl _) _
  have B0 := box_new w #[.int .i64 d.T, .int .i64 d.P, .int .i64 d.C, .int .i64 d.B, .int .i64 d.L, .bool d.S, .bool d.Q, .int .i64 d.cap, .slice xa d.n xc, .slice x' d.ns xd] 44
  have WW := wrote_below L0 (fun b _ => ∃ i, D i b)
  replace h1 := h1.below L0
  replace h2 := h2.below L0
  have M1 := hide (fun W h => onMarkRing W (D 0) (.agg #[.int .i64 d.cap, .slice xa d.n xc]) d.cap d.n d.f k h k0 (by omega))
  obtain ⟨z, hz⟩ : ∃ z, Hid (z = k + 3 * (d.n : Int)) := ⟨_, rfl⟩
  have z0 : 0 ≤ z := by rw [hz.out]; omega
  have z1 : z ≤ 1099511627776 := by rw [hz.out]; omega
  rw [← hz.out] at M1 ⊢
  have HZ : Hid ({ d with f := fun i => k + i, sm := fun i => z + i } = markSn d k) := by show _ = _; unfold markSn; rw [hz.out]
  clear hz
  go_enter Tryz.func46, Tryz.ntmps46
  go_wp2_with fail
  generalize w.alloc (.cells #[.int .i64 d.T, .int .i64 d.P, .int .i64 d.C, .int .i64 d.B, .int .i64 d.L, .bool d.S, .bool d.Q, .int .i64 d.cap, .slice xa d.n xc, .slice x' d.ns xd] 44) = W0 at *
  refine (M1.out _ ⟨_, rfl, h1⟩).mono ?_
  rintro e W1 ⟨rfl, ⟨u, eu, h1⟩, T⟩
  simp only [Value.agg.injEq, Array.mk.injEq, List.cons.injEq, and_true, true_and] at eu
  subst eu
  replace B0 := box_wrote B0 T (fun o (h : D 0 _) => by have := lt _ _ h; omega)
  replace WW := WW.trans (T.mono (fun b o _ h => ⟨0, h⟩))
  replace h2 := h2.keep T (fun b o hb _ h => absurd (dis _ _ b hb h) (by decide))
  clear T
  have c1 := boxC B0
  go_wp2_with fail
  clear c1
  refine (onMarkList _ (D 1) _ d.ns d.sm z h2 z0 z1).mono ?_
  rintro e W2 ⟨rfl, h2, T⟩
  replace WW := WW.trans (T.mono (fun b o _ h => ⟨1, h⟩))
  replace h1 := h1.keep T (fun b o hb _ h => absurd (dis _ _ b hb h) (by decide))
  have HE := hide (And.intro h1 (And.intro h2 WW))
  clear h1 h2 WW B0 T M1
  go_wp2
  go_ret
  exact ⟨rfl, by rw [← HZ.out]; exact ⟨_, _, rfl, HE.out.1, HE.out.2.1⟩, HE.out.2.2⟩
theorem onHeldSound (w : World) (D : Nat → Nat → Prop) (v : Value) (d : SnD) (k : Int) (H : SnOn w D v (markSn d k)) (k0 : 0 ≤ k) (k1 : k ≤ 1099000000000) :
    Calls Tryz.prog 51 #[v, .int .i64 k] w fun e w' => e = .returned (.int .i64 (k + 3 * d.n + d.ns)) ∧ Below w.heap.size w w' := by
  obtain ⟨z, hz⟩ : ∃ z, Hid (z = k + 3 * (d.n : Int)) := ⟨_, rfl⟩
  have HZ : Hid (markSn d k = { d with f := fun i => k + i, sm := fun i => z + i }) := by show _ = _; unfold markSn; rw [hz.out]
  rw [HZ.out] at H
  obtain ⟨u1, u2, rfl, h1, h2⟩ := H
  obtain ⟨xa, xc, rfl⟩ := h1.two
  obtain ⟨x', xd, rfl⟩ := h2.two
  have hn1 : d.n ≤ 1048576 := h1.small
  have hn2 : d.ns ≤ 1048576 := h2.small
  have L0 : Below w.heap.size w (w.alloc (.cells #[.int .i64 d.T, .int .i64 d.P, .int .i64 d.C, .int .i64 d.B, .int .i64 d.L, .bool d.S, .bool d.Q, .int .i64 d.cap, .slice xa d.n xc, .slice x' d.ns xd] 44)) := (Below.refl _ _).alloc (Nat.le_refl _) _
  have B0 := box_new w #[.int .i64 d.T, .int .i64 d.P, .int .i64 d.C, .int .i64 d.B, .int .i64 d.L, .bool d.S, .bool d.Q, .int .i64 d.cap, .slice xa d.n xc, .slice x' d.ns xd] 44
  replace h1 := h1.below L0
  replace h2 := h2.below L0
  have M1 := hide (fun W h => onHeldRing W (D 0) (.agg #[.int .i64 d.cap, .slice xa d.n xc]) d.cap d.n k h k0 (by omega))
  have z0 : 0 ≤ z := by rw [hz.out]; omega
  have z1 : z ≤ 1099511627776 := by rw [hz.out]; omega
  have zn : ¬ (z < 0) := by omega
  rw [← hz.out] at M1 ⊢
  obtain ⟨y, hy⟩ : ∃ y, Hid (y = z + (d.ns : Int)) := ⟨_, rfl⟩
  have yn : ¬ (y < 0) := by rw [hy.out]; omega
  have M2 := hide (fun W h => onHeldList W (D 1) (.slice x' d.ns xd) d.ns z h z0 z1)
  rw [← hy.out] at M2 ⊢
  clear hz hy HZ
  go_enter Tryz.func51, Tryz.ntmps51
  go_wp2_with fail
  generalize w.alloc (.cells #[.int .i64 d.T, .int .i64 d.P, .int .i64 d.C, .int .i64 d.B, .int .i64 d.L, .bool d.S, .bool d.Q, .int .i64 d.cap, .slice xa d.n xc, .slice x' d.ns xd] 44) = W0 at *
  refine (M1.out _ ⟨_, rfl, h1⟩).mono ?_
  rintro e W1 ⟨rfl, L⟩
  replace L0 := below_snoc L0 L
  replace B0 := box_keep B0 L (boxLt B0)
  replace h2 := h2.below L
  clear L
  have c1 := boxC B0
  go_wp2_with fail
  clear c1
  refine (M2.out _ h2).mono ?_
  rintro e W2 ⟨rfl, L⟩
  replace L0 := below_snoc L0 L
  clear L
  go_wp2
  go_ret
  exact ⟨rfl, L0⟩
end Go.Proofs.YtjcaligejlhjdaaGreat
