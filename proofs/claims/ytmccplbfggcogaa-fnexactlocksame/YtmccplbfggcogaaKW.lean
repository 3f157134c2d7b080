/-
  What the laws over a console in step start from.
-/
import Derived.Test.YtmccplbfggcogaaKT
import Derived.Deep.WholeRow
namespace Go.Proofs.Ytmccplbfggcogaa
set_option linter.unusedVariables false
set_option linter.unusedSimpArgs false
open Go.ChangeShapes Go.WideShapes Go.ChangeAt Go.RowKit
/-- A console in step as it is handed in. -/
structure RawA (w : World) (d : LockD) (u0 : Value) (ra0 : Nat → Option Addr) (rc0 : Nat → Nat) (a1 : Option Addr) (c1 : Nat) (a2 : Option Addr) (c2 : Nat) (a3 : Option Addr) (c3 : Nat) (a4 : Option Addr) (c4 : Nat) (u5 : Value) (ra5 : Nat → Option Addr) (rc5 : Nat → Nat) (a6 : Option Addr) (c6 : Nat) (a7 : Option Addr) (c7 : Nat) : Prop where
  r0 : RawSS w u0 d.m ra0 d.ln rc0 d.f
  r5 : RawSS w u5 d.mf ra5 d.lf rc5 d.fr
  n1 : d.np ≤ 9223372036854775807
  r1 : RowOf .i64 w a1 d.np d.p
  n2 : d.nr ≤ 9223372036854775807
  r2 : RowOf .i64 w a2 d.nr d.g
  n3 : d.nt ≤ 9223372036854775807
  r3 : RowOf .i64 w a3 d.nt d.tb
  n4 : d.nd ≤ 9223372036854775807
  r4 : RowOf .i64 w a4 d.nd d.dt
  n6 : d.ns ≤ 9223372036854775807
  r6 : RowOf .i64 w a6 d.ns d.sm
  n7 : d.nq ≤ 9223372036854775807
  r7 : RowOf .i64 w a7 d.nq d.rd
theorem RawA.raw {w W : World} {d : LockD} {u0 : Value} {ra0 : Nat → Option Addr} {rc0 : Nat → Nat} {a1 : Option Addr} {c1 : Nat} {a2 : Option Addr} {c2 : Nat} {a3 : Option Addr} {c3 : Nat} {a4 : Option Addr} {c4 : Nat} {u5 : Value} {ra5 : Nat → Option Addr} {rc5 : Nat → Nat} {a6 : Option Addr} {c6 : Nat} {a7 : Option Addr} {c7 : Nat} (H : RawA w d u0 ra0 rc0 a1 c1 a2 c2 a3 c3 a4 c4 u5 ra5 rc5 a6 c6 a7 c7) (hs : szD d ≤ 1048576) (L : Below w.heap.size w W) : RawL W u0 (.slice a1 d.np c1) (.slice a2 d.nr c2) (.slice a3 d.nt c3) (.slice a4 d.nd c4) u5 (.slice a6 d.ns c6) (.slice a7 d.nq c7) d := by
  have e0 : d.m + psum d.ln d.m ≤ 1048576 := by unfold szD at hs; omega
  have e5 : d.mf + psum d.lf d.mf ≤ 1048576 := by unfold szD at hs; omega
  exact ⟨⟨_, (H.r0.ints e0).keep (wrote_below L Nowhere) (fun _ _ _ x => x)⟩, ⟨fun _ _ => True, Ints.keep (F := fun _ _ => True) ⟨_, _, rfl, by unfold szD at hs; omega, H.r1, fun _ _ _ => trivial⟩ (wrote_below L Nowhere) (fun _ _ _ x => x)⟩, ⟨fun _ _ => True, Ints.keep (F := fun _ _ => True) ⟨_, _, rfl, by unfold szD at hs; omega, H.r2, fun _ _ _ => trivial⟩ (wrote_below L Nowhere) (fun _ _ _ x => x)⟩, ⟨fun _ _ => True, Ints.keep (F := fun _ _ => True) ⟨_, _, rfl, by unfold szD at hs; omega, H.r3, fun _ _ _ => trivial⟩ (wrote_below L Nowhere) (fun _ _ _ x => x)⟩, ⟨fun _ _ => True, Ints.keep (F := fun _ _ => True) ⟨_, _, rfl, by unfold szD at hs; omega, H.r4, fun _ _ _ => trivial⟩ (wrote_below L Nowhere) (fun _ _ _ x => x)⟩, ⟨_, (H.r5.ints e5).keep (wrote_below L Nowhere) (fun _ _ _ x => x)⟩, ⟨fun _ _ => True, Ints.keep (F := fun _ _ => True) ⟨_, _, rfl, by unfold szD at hs; omega, H.r6, fun _ _ _ => trivial⟩ (wrote_below L Nowhere) (fun _ _ _ x => x)⟩, ⟨fun _ _ => True, Ints.keep (F := fun _ _ => True) ⟨_, _, rfl, by unfold szD at hs; omega, H.r7, fun _ _ _ => trivial⟩ (wrote_below L Nowhere) (fun _ _ _ x => x)⟩⟩
theorem szD_parts {d : LockD} (hs : szD d ≤ 1048576) : d.m + psum d.ln d.m ≤ 1048576 ∧ d.mf + psum d.lf d.mf ≤ 1048576 := by unfold szD at hs; constructor <;> omega
theorem boxLd {P : Program} {W : World} {b : Nat} {cs : Array Value} {t : TypeId} {fr : Nat × Nat} (h : W.heap[b]? = some (.cells cs t fr)) {n : Nat} (hn : cs.size = n) : (loadCellsFrom ⟨b, 0, none⟩ 0 n #[]).run P W = .ok cs W := by
  subst hn
  have := run_loadCells_list (P := P) W ⟨b, 0, none⟩ cs.toList (fun j v hv => by
    have hadd : (⟨b, 0, none⟩ : Addr).add j = ⟨b, j, none⟩ := by unfold Addr.add; split <;> simp_all
    rw [hadd, boxC h]
    simpa using hv)
  simpa [loadCells] using this
theorem infoAt {P : Program} {ty : TypeId} {n : Nat} {cs : Array Value} (h : (P.info? ty).map (·.size) = some n) (hs : cs.size = n) : (P.info? ty).map (·.size) = some cs.size := by rw [hs]; exact h
theorem infoLaws : (Try.prog.info? 75).map (·.size) = some 34 := by kernel_rfl
theorem LockOn.agg {W : World} {D : Nat → Nat → Prop} {v : Value} {d : LockD} (H : LockOn W D v d) : ∃ cs, v = .agg cs ∧ cs.size = 34 ∧ cs.all (·.oneCell') = true := by
  obtain ⟨u0, u1, u2, u3, u4, u5, u6, u7, e, h0, h1, h2, h3, h4⟩ := H
  obtain ⟨a0, b0, rfl⟩ := h0.form
  obtain ⟨a1, b1, rfl⟩ := h1.two
  obtain ⟨a2, b2, e2⟩ := h2.two
  obtain ⟨a3, b3, a4, b4, e3⟩ := h3.two
  obtain ⟨v5, v6, v7, e4, h5, h6, h7⟩ := h4
  obtain ⟨a5, b5, rfl⟩ := h5.form
  obtain ⟨a6, b6, rfl⟩ := h6.two
  obtain ⟨a7, b7, rfl⟩ := h7.two
  simp only [Value.agg.injEq, Array.mk.injEq, List.cons.injEq, and_true, true_and] at e2 e3 e4
  obtain ⟨rfl, rfl⟩ := e3
  obtain ⟨rfl, rfl, rfl⟩ := e4
  subst e2
  exact ⟨_, e, rfl, by first | kernel_rfl | simp [Value.oneCell']⟩
end Go.Proofs.Ytmccplbfggcogaa
