/-
  Lists of records (three numbers each) as rows of numbers: sizes, copies, comparisons, marks.
-/
import Derived.Test.YtpaedkefmebjjacC5
import Derived.Deep.OwnRows
namespace Go.Proofs.Ytpaedkefmebjjac
set_option linter.unusedVariables false
set_option linter.unusedSimpArgs false
open Go.ChangeShapes Go.WideShapes Go.ChangeAt Go.RowKit
theorem foot0 (a : Option Addr) (b o : Nat) : ¬ Foot a 0 b o := fun ⟨_, _, _, _⟩ => by omega
/-- A list of n records on blocks of a kind: 3 n numbers in a row. -/
structure RsOn (W : World) (D : Nat → Prop) (u : Value) (n : Nat) (f : Nat → Int) : Prop where
  ex : ∃ a c, u = .slice a n c ∧ (n ≤ 1048576 ∧ n ≤ c) ∧ RowOf .i64 W a (n * 3) f ∧ Free W (Foot a (n * 3)) ∧ ∀ b o, Foot a (n * 3) b o → D b
section
variable {R : Nat → Nat → Prop} {W W' : World} {D E : Nat → Prop} {u : Value} {n : Nat} {f : Nat → Int}
theorem RsOn.keep (H : RsOn W D u n f) (hw : Wrote R W W') (hd : ∀ b o, D b → b < W.heap.size → ¬ R b o) : RsOn W' D u n f := by
  obtain ⟨a, c, e, hn, hr, hF, hD⟩ := H
  exact ⟨a, c, e, hn, hr.keep hw (fun b o h => hd b o (hD b o h) (hF b o h).1), hF.keep hw, hD⟩
theorem RsOn.below (H : RsOn W D u n f) (L : Below W.heap.size W W') : RsOn W' D u n f := H.keep (wrote_below L Nowhere) (fun _ _ _ _ x => x)
theorem RsOn.mono (H : RsOn W D u n f) (hd : ∀ b, b < W.heap.size → D b → E b) : RsOn W E u n f := by
  obtain ⟨a, c, e, hn, hr, hF, hD⟩ := H
  exact ⟨a, c, e, hn, hr, hF, fun b o h => hd b (hF b o h).1 (hD b o h)⟩
theorem RsOn.two (H : RsOn W D u n f) : ∃ a c, u = .slice a n c := by
  obtain ⟨a, c, e, -⟩ := H
  exact ⟨a, c, e⟩
theorem RsOn.small (H : RsOn W D u n f) : n ≤ 1048576 := by
  obtain ⟨a, c, e, hn, -⟩ := H
  exact hn.1
theorem RsOn.none0 {W : World} {D : Nat → Prop} (f : Nat → Int) : RsOn W D (.slice none 0 0) 0 f := ⟨none, 0, rfl, by omega, fun i hi => absurd hi (Nat.not_lt_zero _), fun b o hF => absurd hF (foot0 _ _ _), fun b o hF => absurd hF (foot0 _ _ _)⟩
/-- The three numbers of a record. -/
theorem RowOf.rec3 {W : World} {a : Option Addr} {n q : Nat} {f : Nat → Int} (h : RowOf .i64 W a (n * 3) f) (hq : q < n) : ∃ b off, a = some ⟨b, off, none⟩ ∧ W.cell? ⟨b, off + q * 3, none⟩ = some (.int .i64 (f (q * 3))) ∧ W.cell? ⟨b, off + q * 3 + 1, none⟩ = some (.int .i64 (f (q * 3 + 1))) ∧ W.cell? ⟨b, off + q * 3 + 2, none⟩ = some (.int .i64 (f (q * 3 + 2))) := by
  obtain ⟨b, off, rfl, h0⟩ := h (q * 3) (by omega)
  obtain ⟨b1, off1, e1, h1⟩ := h (q * 3 + 1) (by omega)
  obtain ⟨b2, off2, e2, h2⟩ := h (q * 3 + 2) (by omega)
  simp only [Option.some.injEq, Addr.mk.injEq, and_true] at e1 e2
  obtain ⟨rfl, rfl⟩ := e1
  obtain ⟨rfl, rfl⟩ := e2
  exact ⟨b, off, rfl, h0, h1, h2⟩
end
theorem infoRec : (Try.prog.info? 28).map (fun i => (i.zero, i.size, i.bytes)) = some (some (.agg #[.int .i64 0, .int .i64 0, .int .i64 0]), 3, 24) := by kernel_rfl
theorem made3 (n j : Nat) (hj : j < n * 3) : (madeCells #[.int .i64 0, .int .i64 0, .int .i64 0] (n * 3))[j]? = some (.int .i64 0) := by
  have h3 : j % 3 = 0 ∨ j % 3 = 1 ∨ j % 3 = 2 := by omega
  have hm : (madeCells #[Value.int .i64 0, .int .i64 0, .int .i64 0] (n * 3))[j]? = some (#[Value.int .i64 0, .int .i64 0, .int .i64 0][j % 3]!) := by simp [madeCells, hj]
  rw [hm]
  rcases h3 with h | h | h <;> rw [h] <;> rfl
end Go.Proofs.Ytpaedkefmebjjac
