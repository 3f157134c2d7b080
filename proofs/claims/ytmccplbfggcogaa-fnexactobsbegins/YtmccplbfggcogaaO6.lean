/-
  What is seen, opened.
-/
import Derived.Test.YtmccplbfggcogaaO
namespace Go.Proofs.Ytmccplbfggcogaa
set_option linter.unusedVariables false
set_option maxRecDepth 40000
open Go.ChangeShapes Go.WideShapes Go.ChangeAt Go.RowKit
theorem open_Obs {H : Type} {enc : TypeId × Value → H} {w : World} {base : Nat} {spare : Nat → Bool} {held : Bool} {r : Reach} {b0 : Nat} {v : Value} {d : DataW H} {p : List MemPlace}
    (hv : Value.okWide Try.prog w r b0 70 v) (h : DataW.Trod enc Try.prog w base spare held 70 v d p) :
    ∃ (u0Frames : Value) (m0Frames : Nat) (ra0Frames : Nat → Option Addr) (ln0Frames rc0Frames : Nat → Nat) (f0Frames : Nat → Nat → Int) (s0Samples : Option Addr) (n0Samples c0Samples : Nat) (f0Samples : Nat → Int) (s0Reads : Option Addr) (n0Reads c0Reads : Nat) (f0Reads : Nat → Int), v = .agg #[u0Frames, .slice s0Samples n0Samples c0Samples, .slice s0Reads n0Reads c0Reads] ∧ (RawSS w u0Frames m0Frames ra0Frames ln0Frames rc0Frames f0Frames) ∧ (n0Samples ≤ 9223372036854775807 ∧ RowOf .i64 w s0Samples n0Samples f0Samples ∧ ∀ i, i < n0Samples → (Lit.int .i64 (f0Samples i)).wf = true) ∧ (n0Reads ≤ 9223372036854775807 ∧ RowOf .i64 w s0Reads n0Reads f0Reads ∧ ∀ i, i < n0Reads → (Lit.int .i64 (f0Reads i)).wf = true) := by
  obtain ⟨cs, rfl, hsz⟩ := okWide_struct Try.underlying70 hv
  obtain ⟨fuel, hf⟩ := h
  have hC : Try.prog.cellsOf 70 = 3 := by kernel_rfl
  rw [hC] at hsz
  obtain ⟨e0, e1, e2, rfl⟩ : ∃ e0 e1 e2, cs = #[e0, e1, e2] := by
    rcases cs with ⟨l⟩
    match l, hsz with
    | [e0, e1, e2], _ => exact ⟨_, _, _, rfl⟩
  have hf' : DataW.trod enc Try.prog w base spare held fuel 70 [e0, e1, e2] = some (d, p) := hf
  obtain ⟨fu1, hl1, hF1⟩ := trod_fields Try.underlying70 hf'
  obtain ⟨y2, g2⟩ := hF1 0 _ rfl
  have k2 : DataW.trod enc Try.prog w base spare held fu1 22 [e0] = some y2 := by
    rw [show Try.prog.cellsOf 22 = 1 by kernel_rfl] at g2
    exact g2
  obtain ⟨u0Frames, m0Frames, ra0Frames, ln0Frames, rc0Frames, f0Frames, q0Frames, w0Frames⟩ := raw_intss Try.underlying22 (by kernel_rfl) Try.underlying25 Try.underlying3 (by kernel_rfl) k2
  simp only [List.cons.injEq, and_true] at q0Frames
  subst q0Frames
  obtain ⟨y3, g3⟩ := hF1 1 _ rfl
  have k3 : DataW.trod enc Try.prog w base spare held fu1 25 [e1] = some y3 := by
    rw [show Try.prog.cellsOf 25 = 1 by kernel_rfl] at g3
    exact g3
  obtain ⟨s0Samples, n0Samples, c0Samples, f0Samples, q0Samples, w0Samples⟩ := raw_ints (k := .i64) Try.underlying25 Try.underlying3 (by kernel_rfl) k3
  simp only [List.cons.injEq, and_true] at q0Samples
  subst q0Samples
  obtain ⟨y4, g4⟩ := hF1 2 _ rfl
  have k4 : DataW.trod enc Try.prog w base spare held fu1 25 [e2] = some y4 := by
    rw [show Try.prog.cellsOf 25 = 1 by kernel_rfl] at g4
    exact g4
  obtain ⟨s0Reads, n0Reads, c0Reads, f0Reads, q0Reads, w0Reads⟩ := raw_ints (k := .i64) Try.underlying25 Try.underlying3 (by kernel_rfl) k4
  simp only [List.cons.injEq, and_true] at q0Reads
  subst q0Reads
  exact ⟨_, _, _, _, _, _, _, _, _, _, _, _, _, _, rfl, w0Frames, w0Samples, w0Reads⟩
end Go.Proofs.Ytmccplbfggcogaa
