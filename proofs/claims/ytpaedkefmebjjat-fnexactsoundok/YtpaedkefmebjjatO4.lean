/-
  Arguments opened: units that come after.
-/
import Derived.Test.YtpaedkefmebjjatO3
namespace Go.Proofs.Ytpaedkefmebjjat
set_option maxRecDepth 40000
open Go.ChangeShapes Go.WideShapes Go.ChangeAt Go.RowKit
theorem open_Sound {H : Type} {enc : TypeId × Value → H} {w : World} {base : Nat} {spare : Nat → Bool} {held : Bool} {r : Reach} {b0 : Nat} {v : Value} {d : DataW H} {p : List MemPlace}
    (hv : Value.okWide Try.prog w r b0 29 v) (h : DataW.Trod enc Try.prog w base spare held 29 v d p) :
    ∃ (a0ApuT : Int) (a0ApuPeriod : Int) (a0ApuCount : Int) (a0ApuBit : Int) (a0ApuLength : Int) (a0ApuAsks : Bool) (a0ApuIrq : Bool) (a0RingCap : Int) (s0RingList : Option Addr) (n0RingList c0RingList : Nat) (f0RingList : Nat → Int) (s0Samples : Option Addr) (n0Samples c0Samples : Nat) (f0Samples : Nat → Int), v = .agg #[.int .i64 a0ApuT, .int .i64 a0ApuPeriod, .int .i64 a0ApuCount, .int .i64 a0ApuBit, .int .i64 a0ApuLength, .bool a0ApuAsks, .bool a0ApuIrq, .int .i64 a0RingCap, .slice s0RingList n0RingList c0RingList, .slice s0Samples n0Samples c0Samples] ∧ ((Lit.int .i64 a0ApuT).wf = true) ∧ ((Lit.int .i64 a0ApuPeriod).wf = true) ∧ ((Lit.int .i64 a0ApuCount).wf = true) ∧ ((Lit.int .i64 a0ApuBit).wf = true) ∧ ((Lit.int .i64 a0ApuLength).wf = true) ∧ ((Lit.int .i64 a0RingCap).wf = true) ∧ (n0RingList ≤ 9223372036854775807 ∧ n0RingList ≤ c0RingList ∧ RowOf .i64 w s0RingList (n0RingList * 3) f0RingList) ∧ (n0Samples ≤ 9223372036854775807 ∧ RowOf .i64 w s0Samples n0Samples f0Samples ∧ ∀ i, i < n0Samples → (Lit.int .i64 (f0Samples i)).wf = true) := by
  obtain ⟨cs, rfl, hsz⟩ := okWide_struct Try.underlying29 hv
  obtain ⟨fuel, hf⟩ := h
  have hC : Try.prog.cellsOf 29 = 10 := by kernel_rfl
  rw [hC] at hsz
  obtain ⟨e0, e1, e2, e3, e4, e5, e6, e7, e8, e9, rfl⟩ : ∃ e0 e1 e2 e3 e4 e5 e6 e7 e8 e9, cs = #[e0, e1, e2, e3, e4, e5, e6, e7, e8, e9] := by
    rcases cs with ⟨l⟩
    match l, hsz with
    | [e0, e1, e2, e3, e4, e5, e6, e7, e8, e9], _ => exact ⟨_, _, _, _, _, _, _, _, _, _, rfl⟩
  have hf' : DataW.trod enc Try.prog w base spare held fuel 29 [e0, e1, e2, e3, e4, e5, e6, e7, e8, e9] = some (d, p) := hf
  obtain ⟨fu1, hl1, hF1⟩ := trod_fields Try.underlying29 hf'
  obtain ⟨y2, g2⟩ := hF1 0 _ rfl
  have k2 : DataW.trod enc Try.prog w base spare held fu1 23 [e0, e1, e2, e3, e4, e5, e6] = some y2 := by
    rw [show Try.prog.cellsOf 23 = 7 by kernel_rfl] at g2
    exact g2
  obtain ⟨fu3, hl3, hF3⟩ := trod_fields Try.underlying23 k2
  obtain ⟨y4, g4⟩ := hF3 0 _ rfl
  have k4 : DataW.trod enc Try.prog w base spare held fu3 3 [e0] = some y4 := by
    rw [show Try.prog.cellsOf 3 = 1 by kernel_rfl] at g4
    exact g4
  obtain ⟨a0ApuT, q0ApuT, w0ApuT⟩ := raw_int Try.underlying3 k4
  simp only [List.cons.injEq, and_true] at q0ApuT
  subst q0ApuT
  obtain ⟨y5, g5⟩ := hF3 1 _ rfl
  have k5 : DataW.trod enc Try.prog w base spare held fu3 3 [e1] = some y5 := by
    rw [show Try.prog.cellsOf 3 = 1 by kernel_rfl] at g5
    exact g5
  obtain ⟨a0ApuPeriod, q0ApuPeriod, w0ApuPeriod⟩ := raw_int Try.underlying3 k5
  simp only [List.cons.injEq, and_true] at q0ApuPeriod
  subst q0ApuPeriod
  obtain ⟨y6, g6⟩ := hF3 2 _ rfl
  have k6 : DataW.trod enc Try.prog w base spare held fu3 3 [e2] = some y6 := by
    rw [show Try.prog.cellsOf 3 = 1 by kernel_rfl] at g6
    exact g6
  obtain ⟨a0ApuCount, q0ApuCount, w0ApuCount⟩ := raw_int Try.underlying3 k6
  simp only [List.cons.injEq, and_true] at q0ApuCount
  subst q0ApuCount
  obtain ⟨y7, g7⟩ := hF3 3 _ rfl
  have k7 : DataW.trod enc Try.prog w base spare held fu3 3 [e3] = some y7 := by
    rw [show Try.prog.cellsOf 3 = 1 by kernel_rfl] at g7
    exact g7
  obtain ⟨a0ApuBit, q0ApuBit, w0ApuBit⟩ := raw_int Try.underlying3 k7
  simp only [List.cons.injEq, and_true] at q0ApuBit
  subst q0ApuBit
  obtain ⟨y8, g8⟩ := hF3 4 _ rfl
  have k8 : DataW.trod enc Try.prog w base spare held fu3 3 [e4] = some y8 := by
    rw [show Try.prog.cellsOf 3 = 1 by kernel_rfl] at g8
    exact g8
  obtain ⟨a0ApuLength, q0ApuLength, w0ApuLength⟩ := raw_int Try.underlying3 k8
  simp only [List.cons.injEq, and_true] at q0ApuLength
  subst q0ApuLength
  obtain ⟨y9, g9⟩ := hF3 5 _ rfl
  have k9 : DataW.trod enc Try.prog w base spare held fu3 4 [e5] = some y9 := by
    rw [show Try.prog.cellsOf 4 = 1 by kernel_rfl] at g9
    exact g9
  obtain ⟨a0ApuAsks, q0ApuAsks⟩ := raw_bool Try.underlying4 k9
  simp only [List.cons.injEq, and_true] at q0ApuAsks
  subst q0ApuAsks
  obtain ⟨y10, g10⟩ := hF3 6 _ rfl
  have k10 : DataW.trod enc Try.prog w base spare held fu3 4 [e6] = some y10 := by
    rw [show Try.prog.cellsOf 4 = 1 by kernel_rfl] at g10
    exact g10
  obtain ⟨a0ApuIrq, q0ApuIrq⟩ := raw_bool Try.underlying4 k10
  simp only [List.cons.injEq, and_true] at q0ApuIrq
  subst q0ApuIrq
  obtain ⟨y11, g11⟩ := hF1 1 _ rfl
  have k11 : DataW.trod enc Try.prog w base spare held fu1 26 [e7, e8] = some y11 := by
    rw [show Try.prog.cellsOf 26 = 2 by kernel_rfl] at g11
    exact g11
  obtain ⟨fu12, hl12, hF12⟩ := trod_fields Try.underlying26 k11
  obtain ⟨y13, g13⟩ := hF12 0 _ rfl
  have k13 : DataW.trod enc Try.prog w base spare held fu12 3 [e7] = some y13 := by
    rw [show Try.prog.cellsOf 3 = 1 by kernel_rfl] at g13
    exact g13
  obtain ⟨a0RingCap, q0RingCap, w0RingCap⟩ := raw_int Try.underlying3 k13
  simp only [List.cons.injEq, and_true] at q0RingCap
  subst q0RingCap
  obtain ⟨y14, g14⟩ := hF12 1 _ rfl
  have k14 : DataW.trod enc Try.prog w base spare held fu12 24 [e8] = some y14 := by
    rw [show Try.prog.cellsOf 24 = 1 by kernel_rfl] at g14
    exact g14
  obtain ⟨s0RingList, n0RingList, c0RingList, f0RingList, q0RingList, w0RingList⟩ := raw_recs Try.underlying24 Try.underlying121 (by kernel_rfl) (by kernel_rfl) Try.underlying3 (by kernel_rfl) k14
  simp only [List.cons.injEq, and_true] at q0RingList
  subst q0RingList
  obtain ⟨y15, g15⟩ := hF1 2 _ rfl
  have k15 : DataW.trod enc Try.prog w base spare held fu1 27 [e9] = some y15 := by
    rw [show Try.prog.cellsOf 27 = 1 by kernel_rfl] at g15
    exact g15
  obtain ⟨s0Samples, n0Samples, c0Samples, f0Samples, q0Samples, w0Samples⟩ := raw_ints (k := .i64) Try.underlying27 Try.underlying3 (by kernel_rfl) k15
  simp only [List.cons.injEq, and_true] at q0Samples
  subst q0Samples
  exact ⟨_, _, _, _, _, _, _, _, _, _, _, _, _, _, _, _, rfl, w0ApuT, w0ApuPeriod, w0ApuCount, w0ApuBit, w0ApuLength, w0RingCap, w0RingList, w0Samples⟩
end Go.Proofs.Ytpaedkefmebjjat
