/-
  Arguments opened: units that come after.
-/
import Derived.Test.YtpaedkefmebjjasO3
namespace Go.Proofs.Ytpaedkefmebjjas
set_option maxRecDepth 40000
open Go.ChangeShapes Go.WideShapes Go.ChangeAt Go.RowKit
theorem open_Picture {H : Type} {enc : TypeId × Value → H} {w : World} {base : Nat} {spare : Nat → Bool} {held : Bool} {r : Reach} {b0 : Nat} {v : Value} {d : DataW H} {p : List MemPlace}
    (hv : Value.okWide Try.prog w r b0 53 v) (h : DataW.Trod enc Try.prog w base spare held 53 v d p) :
    ∃ (a0PpuT : Int) (a0PpuCtrl : Int) (a0PpuScroll : Int) (a0PpuAddr : Int) (a0PpuPal : Int) (a0PpuBlank : Bool) (s0PpuTable : Option Addr) (n0PpuTable c0PpuTable : Nat) (f0PpuTable : Nat → Int) (s0PpuDots : Option Addr) (n0PpuDots c0PpuDots : Nat) (f0PpuDots : Nat → Int) (a0RingCap : Int) (s0RingList : Option Addr) (n0RingList c0RingList : Nat) (f0RingList : Nat → Int) (u0Frames : Value) (m0Frames : Nat) (ra0Frames : Nat → Option Addr) (ln0Frames rc0Frames : Nat → Nat) (f0Frames : Nat → Nat → Int), v = .agg #[.int .i64 a0PpuT, .int .i64 a0PpuCtrl, .int .i64 a0PpuScroll, .int .i64 a0PpuAddr, .int .i64 a0PpuPal, .bool a0PpuBlank, .slice s0PpuTable n0PpuTable c0PpuTable, .slice s0PpuDots n0PpuDots c0PpuDots, .int .i64 a0RingCap, .slice s0RingList n0RingList c0RingList, u0Frames] ∧ ((Lit.int .i64 a0PpuT).wf = true) ∧ ((Lit.int .i64 a0PpuCtrl).wf = true) ∧ ((Lit.int .i64 a0PpuScroll).wf = true) ∧ ((Lit.int .i64 a0PpuAddr).wf = true) ∧ ((Lit.int .i64 a0PpuPal).wf = true) ∧ (n0PpuTable ≤ 9223372036854775807 ∧ RowOf .i64 w s0PpuTable n0PpuTable f0PpuTable ∧ ∀ i, i < n0PpuTable → (Lit.int .i64 (f0PpuTable i)).wf = true) ∧ (n0PpuDots ≤ 9223372036854775807 ∧ RowOf .i64 w s0PpuDots n0PpuDots f0PpuDots ∧ ∀ i, i < n0PpuDots → (Lit.int .i64 (f0PpuDots i)).wf = true) ∧ ((Lit.int .i64 a0RingCap).wf = true) ∧ (n0RingList ≤ 9223372036854775807 ∧ n0RingList ≤ c0RingList ∧ RowOf .i64 w s0RingList (n0RingList * 3) f0RingList) ∧ (RawSS w u0Frames m0Frames ra0Frames ln0Frames rc0Frames f0Frames) := by
  obtain ⟨cs, rfl, hsz⟩ := okWide_struct Try.underlying53 hv
  obtain ⟨fuel, hf⟩ := h
  have hC : Try.prog.cellsOf 53 = 11 := by kernel_rfl
  rw [hC] at hsz
  obtain ⟨e0, e1, e2, e3, e4, e5, e6, e7, e8, e9, e10, rfl⟩ : ∃ e0 e1 e2 e3 e4 e5 e6 e7 e8 e9 e10, cs = #[e0, e1, e2, e3, e4, e5, e6, e7, e8, e9, e10] := by
    rcases cs with ⟨l⟩
    match l, hsz with
    | [e0, e1, e2, e3, e4, e5, e6, e7, e8, e9, e10], _ => exact ⟨_, _, _, _, _, _, _, _, _, _, _, rfl⟩
  have hf' : DataW.trod enc Try.prog w base spare held fuel 53 [e0, e1, e2, e3, e4, e5, e6, e7, e8, e9, e10] = some (d, p) := hf
  obtain ⟨fu1, hl1, hF1⟩ := trod_fields Try.underlying53 hf'
  obtain ⟨y2, g2⟩ := hF1 0 _ rfl
  have k2 : DataW.trod enc Try.prog w base spare held fu1 50 [e0, e1, e2, e3, e4, e5, e6, e7] = some y2 := by
    rw [show Try.prog.cellsOf 50 = 8 by kernel_rfl] at g2
    exact g2
  obtain ⟨fu3, hl3, hF3⟩ := trod_fields Try.underlying50 k2
  obtain ⟨y4, g4⟩ := hF3 0 _ rfl
  have k4 : DataW.trod enc Try.prog w base spare held fu3 3 [e0] = some y4 := by
    rw [show Try.prog.cellsOf 3 = 1 by kernel_rfl] at g4
    exact g4
  obtain ⟨a0PpuT, q0PpuT, w0PpuT⟩ := raw_int Try.underlying3 k4
  simp only [List.cons.injEq, and_true] at q0PpuT
  subst q0PpuT
  obtain ⟨y5, g5⟩ := hF3 1 _ rfl
  have k5 : DataW.trod enc Try.prog w base spare held fu3 3 [e1] = some y5 := by
    rw [show Try.prog.cellsOf 3 = 1 by kernel_rfl] at g5
    exact g5
  obtain ⟨a0PpuCtrl, q0PpuCtrl, w0PpuCtrl⟩ := raw_int Try.underlying3 k5
  simp only [List.cons.injEq, and_true] at q0PpuCtrl
  subst q0PpuCtrl
  obtain ⟨y6, g6⟩ := hF3 2 _ rfl
  have k6 : DataW.trod enc Try.prog w base spare held fu3 3 [e2] = some y6 := by
    rw [show Try.prog.cellsOf 3 = 1 by kernel_rfl] at g6
    exact g6
  obtain ⟨a0PpuScroll, q0PpuScroll, w0PpuScroll⟩ := raw_int Try.underlying3 k6
  simp only [List.cons.injEq, and_true] at q0PpuScroll
  subst q0PpuScroll
  obtain ⟨y7, g7⟩ := hF3 3 _ rfl
  have k7 : DataW.trod enc Try.prog w base spare held fu3 3 [e3] = some y7 := by
    rw [show Try.prog.cellsOf 3 = 1 by kernel_rfl] at g7
    exact g7
  obtain ⟨a0PpuAddr, q0PpuAddr, w0PpuAddr⟩ := raw_int Try.underlying3 k7
  simp only [List.cons.injEq, and_true] at q0PpuAddr
  subst q0PpuAddr
  obtain ⟨y8, g8⟩ := hF3 4 _ rfl
  have k8 : DataW.trod enc Try.prog w base spare held fu3 3 [e4] = some y8 := by
    rw [show Try.prog.cellsOf 3 = 1 by kernel_rfl] at g8
    exact g8
  obtain ⟨a0PpuPal, q0PpuPal, w0PpuPal⟩ := raw_int Try.underlying3 k8
  simp only [List.cons.injEq, and_true] at q0PpuPal
  subst q0PpuPal
  obtain ⟨y9, g9⟩ := hF3 5 _ rfl
  have k9 : DataW.trod enc Try.prog w base spare held fu3 4 [e5] = some y9 := by
    rw [show Try.prog.cellsOf 4 = 1 by kernel_rfl] at g9
    exact g9
  obtain ⟨a0PpuBlank, q0PpuBlank⟩ := raw_bool Try.underlying4 k9
  simp only [List.cons.injEq, and_true] at q0PpuBlank
  subst q0PpuBlank
  obtain ⟨y10, g10⟩ := hF3 6 _ rfl
  have k10 : DataW.trod enc Try.prog w base spare held fu3 48 [e6] = some y10 := by
    rw [show Try.prog.cellsOf 48 = 1 by kernel_rfl] at g10
    exact g10
  obtain ⟨s0PpuTable, n0PpuTable, c0PpuTable, f0PpuTable, q0PpuTable, w0PpuTable⟩ := raw_ints (k := .i64) Try.underlying48 Try.underlying3 (by kernel_rfl) k10
  simp only [List.cons.injEq, and_true] at q0PpuTable
  subst q0PpuTable
  obtain ⟨y11, g11⟩ := hF3 7 _ rfl
  have k11 : DataW.trod enc Try.prog w base spare held fu3 48 [e7] = some y11 := by
    rw [show Try.prog.cellsOf 48 = 1 by kernel_rfl] at g11
    exact g11
  obtain ⟨s0PpuDots, n0PpuDots, c0PpuDots, f0PpuDots, q0PpuDots, w0PpuDots⟩ := raw_ints (k := .i64) Try.underlying48 Try.underlying3 (by kernel_rfl) k11
  simp only [List.cons.injEq, and_true] at q0PpuDots
  subst q0PpuDots
  obtain ⟨y12, g12⟩ := hF1 1 _ rfl
  have k12 : DataW.trod enc Try.prog w base spare held fu1 24 [e8, e9] = some y12 := by
    rw [show Try.prog.cellsOf 24 = 2 by kernel_rfl] at g12
    exact g12
  obtain ⟨fu13, hl13, hF13⟩ := trod_fields Try.underlying24 k12
  obtain ⟨y14, g14⟩ := hF13 0 _ rfl
  have k14 : DataW.trod enc Try.prog w base spare held fu13 3 [e8] = some y14 := by
    rw [show Try.prog.cellsOf 3 = 1 by kernel_rfl] at g14
    exact g14
  obtain ⟨a0RingCap, q0RingCap, w0RingCap⟩ := raw_int Try.underlying3 k14
  simp only [List.cons.injEq, and_true] at q0RingCap
  subst q0RingCap
  obtain ⟨y15, g15⟩ := hF13 1 _ rfl
  have k15 : DataW.trod enc Try.prog w base spare held fu13 22 [e9] = some y15 := by
    rw [show Try.prog.cellsOf 22 = 1 by kernel_rfl] at g15
    exact g15
  obtain ⟨s0RingList, n0RingList, c0RingList, f0RingList, q0RingList, w0RingList⟩ := raw_recs Try.underlying22 Try.underlying38 (by kernel_rfl) (by kernel_rfl) Try.underlying3 (by kernel_rfl) k15
  simp only [List.cons.injEq, and_true] at q0RingList
  subst q0RingList
  obtain ⟨y16, g16⟩ := hF1 2 _ rfl
  have k16 : DataW.trod enc Try.prog w base spare held fu1 51 [e10] = some y16 := by
    rw [show Try.prog.cellsOf 51 = 1 by kernel_rfl] at g16
    exact g16
  obtain ⟨u0Frames, m0Frames, ra0Frames, ln0Frames, rc0Frames, f0Frames, q0Frames, w0Frames⟩ := raw_intss Try.underlying51 (by kernel_rfl) Try.underlying48 Try.underlying3 (by kernel_rfl) k16
  simp only [List.cons.injEq, and_true] at q0Frames
  subst q0Frames
  exact ⟨_, _, _, _, _, _, _, _, _, _, _, _, _, _, _, _, _, _, _, _, _, _, _, _, _, rfl, w0PpuT, w0PpuCtrl, w0PpuScroll, w0PpuAddr, w0PpuPal, w0PpuTable, w0PpuDots, w0RingCap, w0RingList, w0Frames⟩
end Go.Proofs.Ytpaedkefmebjjas
