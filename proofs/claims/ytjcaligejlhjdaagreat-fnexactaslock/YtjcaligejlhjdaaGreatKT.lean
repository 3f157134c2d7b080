/-
  A console in step out of its mirror.
-/
import Derived.Test.YtjcaligejlhjdaaGreatKL
import Derived.Deep.DeepCutAuto
import Derived.Deep.WholeRow
namespace Go.Proofs.YtjcaligejlhjdaaGreat
set_option linter.unusedVariables false
set_option linter.unusedSimpArgs false
open Go.ChangeShapes Go.WideShapes Go.ChangeAt Go.RowKit
/-- What the mirror of a console is laid from: eight lists that can be read. -/
structure RawL (W : World) (u0 u1 u2 u3 u4 u5 u6 u7 : Value) (d : LockD) : Prop where
  h0 : ∃ F, IntSS .i64 W F u0 d.m d.ln d.f
  h1 : ∃ F, Ints .i64 W F u1 d.np d.p
  h2 : ∃ F, Ints .i64 W F u2 d.nr d.g
  h3 : ∃ F, Ints .i64 W F u3 d.nt d.tb
  h4 : ∃ F, Ints .i64 W F u4 d.nd d.dt
  h5 : ∃ F, IntSS .i64 W F u5 d.mf d.lf d.fr
  h6 : ∃ F, Ints .i64 W F u6 d.ns d.sm
  h7 : ∃ F, Ints .i64 W F u7 d.nq d.rd
theorem RawL.below {W W' : World} {u0 u1 u2 u3 u4 u5 u6 u7 : Value} {d : LockD} (H : RawL W u0 u1 u2 u3 u4 u5 u6 u7 d) (lo : ∀ F v m ln f, IntSS .i64 W F v m ln f → ∃ G, IntSS .i64 W' G v m ln f) (l1 : ∀ F v n f, Ints .i64 W F v n f → ∃ G, Ints .i64 W' G v n f) : RawL W' u0 u1 u2 u3 u4 u5 u6 u7 d :=
  ⟨H.h0.elim (fun F h => lo F _ _ _ _ h), H.h1.elim (fun F h => l1 F _ _ _ h), H.h2.elim (fun F h => l1 F _ _ _ h), H.h3.elim (fun F h => l1 F _ _ _ h), H.h4.elim (fun F h => l1 F _ _ _ h), H.h5.elim (fun F h => lo F _ _ _ _ h), H.h6.elim (fun F h => l1 F _ _ _ h), H.h7.elim (fun F h => l1 F _ _ _ h)⟩
end Go.Proofs.YtjcaligejlhjdaaGreat
namespace Go.Proofs.YtjcaligejlhjdaaGreat
set_option linter.unusedVariables false
set_option linter.unusedSimpArgs false
open Go.ChangeShapes Go.WideShapes Go.ChangeAt Go.RowKit
/-- A console in step as it is handed in. -/
structure RawA (w : World) (d : LockD) (u0 : Value) (ra0 : Nat → Option Addr) (rc0 : Nat → Nat) (a1 : Option Addr) (c1 : Nat) (a2 : Option Addr) (c2 : Nat) (a3 : Option Addr) (c3 : Nat) (a4 : Option Addr) (c4 : Nat) (u5 : Value) (ra5 : Nat → Option Addr) (rc5 : Nat → Nat) (a6 : Option Addr) (c6 : Nat) (a7 : Option Addr) (c7 : Nat) : Prop where
  r0 : RawSS w u0 d.m ra0 d.ln rc0 d.f
  r5 : RawSS w u5 d.mf ra5 d.lf rc5 d.fr
  n1 : d.np ≤ 9223372036854775807
  r1 : RowOf .i64 w a1 d.np d.p
  n2 : d.nr ≤ 9223372036854775807
  r2 : RowOf .i64 w a2 d.nr d.g
  n3 : d.nt ≤ 9223372036854775807
  r3 : RowOf .i64 w a3 d.nt d.tb
  n4 : d.nd ≤ 9223372036854775807
  r4 : RowOf .i64 w a4 d.nd d.dt
  n6 : d.ns ≤ 9223372036854775807
  r6 : RowOf .i64 w a6 d.ns d.sm
  n7 : d.nq ≤ 9223372036854775807
  r7 : RowOf .i64 w a7 d.nq d.rd
theorem RawA.raw {w W : World} {d : LockD} {u0 : Value} {ra0 : Nat → Option Addr} {rc0 : Nat → Nat} {a1 : Option Addr} {c1 : Nat} {a2 : Option Addr} {c2 : Nat} {a3 : Option Addr} {c3 : Nat} {a4 : Option Addr} {c4 : Nat} {u5 : Value} {ra5 : Nat → Option Addr} {rc5 : Nat → Nat} {a6 : Option Addr} {c6 : Nat} {a7 : Option Addr} {c7 : Nat} (H : RawA w d u0 ra0 rc0 a1 c1 a2 c2 a3 c3 a4 c4 u5 ra5 rc5 a6 c6 a7 c7) (hs : szD d ≤ 1048576) (L : Below w.heap.size w W) : RawL W u0 (.slice a1 d.np c1) (.slice a2 d.nr c2) (.slice a3 d.nt c3) (.slice a4 d.nd c4) u5 (.slice a6 d.ns c6) (.slice a7 d.nq c7) d := by
  have e0 : d.m + psum d.ln d.m ≤ 1048576 := by unfold szD at hs; omega
  have e5 : d.mf + psum d.lf d.mf ≤ 1048576 := by unfold szD at hs; omega
  exact ⟨⟨_, (H.r0.ints e0).keep (wrote_below L Nowhere) (fun _ _ _ x => x)⟩, ⟨fun _ _ => True, Ints.keep (F := fun _ _ => True) ⟨_, _, rfl, by unfold szD at hs; omega, H.r1, fun _ _ _ => trivial⟩ (wrote_below L Nowhere) (fun _ _ _ x => x)⟩, ⟨fun _ _ => True, Ints.keep (F := fun _ _ => True) ⟨_, _, rfl, by unfold szD at hs; omega, H.r2, fun _ _ _ => trivial⟩ (wrote_below L Nowhere) (fun _ _ _ x => x)⟩, ⟨fun _ _ => True, Ints.keep (F := fun _ _ => True) ⟨_, _, rfl, by unfold szD at hs; omega, H.r3, fun _ _ _ => trivial⟩ (wrote_below L Nowhere) (fun _ _ _ x => x)⟩, ⟨fun _ _ => True, Ints.keep (F := fun _ _ => True) ⟨_, _, rfl, by unfold szD at hs; omega, H.r4, fun _ _ _ => trivial⟩ (wrote_below L Nowhere) (fun _ _ _ x => x)⟩, ⟨_, (H.r5.ints e5).keep (wrote_below L Nowhere) (fun _ _ _ x => x)⟩, ⟨fun _ _ => True, Ints.keep (F := fun _ _ => True) ⟨_, _, rfl, by unfold szD at hs; omega, H.r6, fun _ _ _ => trivial⟩ (wrote_below L Nowhere) (fun _ _ _ x => x)⟩, ⟨fun _ _ => True, Ints.keep (F := fun _ _ => True) ⟨_, _, rfl, by unfold szD at hs; omega, H.r7, fun _ _ _ => trivial⟩ (wrote_below L Nowhere) (fun _ _ _ x => x)⟩⟩
theorem LockOn.agg {W : World} {D : Nat → Nat → Prop} {v : Value} {d : LockD} (H : LockOn W D v d) : ∃ cs, v = .agg cs ∧ cs.size = 34 ∧ cs.all (·.oneCell') = true := by
  obtain ⟨u0, u1, u2, u3, u4, u5, u6, u7, e, h0, h1, h2, h3, h4⟩ := H
  obtain ⟨a0, b0, rfl⟩ := h0.form
  obtain ⟨a1, b1, rfl⟩ := h1.two
  obtain ⟨a2, b2, e2⟩ := h2.two
  obtain ⟨a3, b3, a4, b4, e3⟩ := h3.two
  obtain ⟨v5, v6, v7, e4, h5, h6, h7⟩ := h4
  obtain ⟨a5, b5, rfl⟩ := h5.form
  obtain ⟨a6, b6, rfl⟩ := h6.two
  obtain ⟨a7, b7, rfl⟩ := h7.two
  simp only [Value.agg.injEq, Array.mk.injEq, List.cons.injEq, and_true, true_and] at e2 e3 e4
  obtain ⟨rfl, rfl⟩ := e3
  obtain ⟨rfl, rfl, rfl⟩ := e4
  subst e2
  exact ⟨_, e, rfl, by first | kernel_rfl | simp [Value.oneCell']⟩
end Go.Proofs.YtjcaligejlhjdaaGreat
