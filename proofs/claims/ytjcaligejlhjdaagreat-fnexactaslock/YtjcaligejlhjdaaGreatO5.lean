/-
  Arguments opened: a console apart.
-/
import Derived.Test.YtjcaligejlhjdaaGreatO
namespace Go.Proofs.YtjcaligejlhjdaaGreat
set_option maxRecDepth 40000
open Go.ChangeShapes Go.WideShapes Go.ChangeAt Go.RowKit
theorem open_Split {H : Type} {enc : TypeId × Value → H} {w : World} {base : Nat} {spare : Nat → Bool} {held : Bool} {r : Reach} {b0 : Nat} {v : Value} {d : DataW H} {p : List MemPlace}
    (hv : Value.okWide Tryz.prog w r b0 71 v) (h : DataW.Trod enc Tryz.prog w base spare held 71 v d p) :
    ∃ (u0ImgBanks : Value) (m0ImgBanks : Nat) (ra0ImgBanks : Nat → Option Addr) (ln0ImgBanks rc0ImgBanks : Nat → Nat) (f0ImgBanks : Nat → Nat → Int) (s0Pads : Option Addr) (n0Pads c0Pads : Nat) (f0Pads : Nat → Int) (s0MemRam : Option Addr) (n0MemRam c0MemRam : Nat) (f0MemRam : Nat → Int) (a0MemBank : Int) (a0CpuA : Int) (a0CpuX : Int) (a0CpuS : Int) (a0CpuPc : Int) (a0CpuZ : Bool) (a0CpuN : Bool) (a0CpuC : Bool) (a0CpuI : Bool) (a0PadHeld : Bool) (a0PadShift : Int) (a0T : Int) (a0Nmi : Bool) (a0Ctrl : Int) (a0Known : Bool) (a0KnownAt : Int) (a0Steps : Int) (s0Reads : Option Addr) (n0Reads c0Reads : Nat) (f0Reads : Nat → Int) (a0PicturePpuT : Int) (a0PicturePpuCtrl : Int) (a0PicturePpuScroll : Int) (a0PicturePpuAddr : Int) (a0PicturePpuPal : Int) (a0PicturePpuBlank : Bool) (s0PicturePpuTable : Option Addr) (n0PicturePpuTable c0PicturePpuTable : Nat) (f0PicturePpuTable : Nat → Int) (s0PicturePpuDots : Option Addr) (n0PicturePpuDots c0PicturePpuDots : Nat) (f0PicturePpuDots : Nat → Int) (a0PictureRingCap : Int) (s0PictureRingList : Option Addr) (n0PictureRingList c0PictureRingList : Nat) (f0PictureRingList : Nat → Int) (u0PictureFrames : Value) (m0PictureFrames : Nat) (ra0PictureFrames : Nat → Option Addr) (ln0PictureFrames rc0PictureFrames : Nat → Nat) (f0PictureFrames : Nat → Nat → Int) (a0SoundApuT : Int) (a0SoundApuPeriod : Int) (a0SoundApuCount : Int) (a0SoundApuBit : Int) (a0SoundApuLength : Int) (a0SoundApuAsks : Bool) (a0SoundApuIrq : Bool) (a0SoundRingCap : Int) (s0SoundRingList : Option Addr) (n0SoundRingList c0SoundRingList : Nat) (f0SoundRingList : Nat → Int) (s0SoundSamples : Option Addr) (n0SoundSamples c0SoundSamples : Nat) (f0SoundSamples : Nat → Int), v = .agg #[u0ImgBanks, .slice s0Pads n0Pads c0Pads, .slice s0MemRam n0MemRam c0MemRam, .int .i64 a0MemBank, .int .i64 a0CpuA, .int .i64 a0CpuX, .int .i64 a0CpuS, .int .i64 a0CpuPc, .bool a0CpuZ, .bool a0CpuN, .bool a0CpuC, .bool a0CpuI, .bool a0PadHeld, .int .i64 a0PadShift, .int .i64 a0T, .bool a0Nmi, .int .i64 a0Ctrl, .bool a0Known, .int .i64 a0KnownAt, .int .i64 a0Steps, .slice s0Reads n0Reads c0Reads, .int .i64 a0PicturePpuT, .int .i64 a0PicturePpuCtrl, .int .i64 a0PicturePpuScroll, .int .i64 a0PicturePpuAddr, .int .i64 a0PicturePpuPal, .bool a0PicturePpuBlank, .slice s0PicturePpuTable n0PicturePpuTable c0PicturePpuTable, .slice s0PicturePpuDots n0PicturePpuDots c0PicturePpuDots, .int .i64 a0PictureRingCap, .slice s0PictureRingList n0PictureRingList c0PictureRingList, u0PictureFrames, .int .i64 a0SoundApuT, .int .i64 a0SoundApuPeriod, .int .i64 a0SoundApuCount, .int .i64 a0SoundApuBit, .int .i64 a0SoundApuLength, .bool a0SoundApuAsks, .bool a0SoundApuIrq, .int .i64 a0SoundRingCap, .slice s0SoundRingList n0SoundRingList c0SoundRingList, .slice s0SoundSamples n0SoundSamples c0SoundSamples] ∧ (RawSS w u0ImgBanks m0ImgBanks ra0ImgBanks ln0ImgBanks rc0ImgBanks f0ImgBanks) ∧ (n0Pads ≤ 9223372036854775807 ∧ RowOf .i64 w s0Pads n0Pads f0Pads ∧ ∀ i, i < n0Pads → (Lit.int .i64 (f0Pads i)).wf = true) ∧ (n0MemRam ≤ 9223372036854775807 ∧ RowOf .i64 w s0MemRam n0MemRam f0MemRam ∧ ∀ i, i < n0MemRam → (Lit.int .i64 (f0MemRam i)).wf = true) ∧ ((Lit.int .i64 a0MemBank).wf = true) ∧ ((Lit.int .i64 a0CpuA).wf = true) ∧ ((Lit.int .i64 a0CpuX).wf = true) ∧ ((Lit.int .i64 a0CpuS).wf = true) ∧ ((Lit.int .i64 a0CpuPc).wf = true) ∧ ((Lit.int .i64 a0PadShift).wf = true) ∧ ((Lit.int .i64 a0T).wf = true) ∧ ((Lit.int .i64 a0Ctrl).wf = true) ∧ ((Lit.int .i64 a0KnownAt).wf = true) ∧ ((Lit.int .i64 a0Steps).wf = true) ∧ (n0Reads ≤ 9223372036854775807 ∧ RowOf .i64 w s0Reads n0Reads f0Reads ∧ ∀ i, i < n0Reads → (Lit.int .i64 (f0Reads i)).wf = true) ∧ ((Lit.int .i64 a0PicturePpuT).wf = true) ∧ ((Lit.int .i64 a0PicturePpuCtrl).wf = true) ∧ ((Lit.int .i64 a0PicturePpuScroll).wf = true) ∧ ((Lit.int .i64 a0PicturePpuAddr).wf = true) ∧ ((Lit.int .i64 a0PicturePpuPal).wf = true) ∧ (n0PicturePpuTable ≤ 9223372036854775807 ∧ RowOf .i64 w s0PicturePpuTable n0PicturePpuTable f0PicturePpuTable ∧ ∀ i, i < n0PicturePpuTable → (Lit.int .i64 (f0PicturePpuTable i)).wf = true) ∧ (n0PicturePpuDots ≤ 9223372036854775807 ∧ RowOf .i64 w s0PicturePpuDots n0PicturePpuDots f0PicturePpuDots ∧ ∀ i, i < n0PicturePpuDots → (Lit.int .i64 (f0PicturePpuDots i)).wf = true) ∧ ((Lit.int .i64 a0PictureRingCap).wf = true) ∧ (n0PictureRingList ≤ 9223372036854775807 ∧ n0PictureRingList ≤ c0PictureRingList ∧ RowOf .i64 w s0PictureRingList (n0PictureRingList * 3) f0PictureRingList) ∧ (RawSS w u0PictureFrames m0PictureFrames ra0PictureFrames ln0PictureFrames rc0PictureFrames f0PictureFrames) ∧ ((Lit.int .i64 a0SoundApuT).wf = true) ∧ ((Lit.int .i64 a0SoundApuPeriod).wf = true) ∧ ((Lit.int .i64 a0SoundApuCount).wf = true) ∧ ((Lit.int .i64 a0SoundApuBit).wf = true) ∧ ((Lit.int .i64 a0SoundApuLength).wf = true) ∧ ((Lit.int .i64 a0SoundRingCap).wf = true) ∧ (n0SoundRingList ≤ 9223372036854775807 ∧ n0SoundRingList ≤ c0SoundRingList ∧ RowOf .i64 w s0SoundRingList (n0SoundRingList * 3) f0SoundRingList) ∧ (n0SoundSamples ≤ 9223372036854775807 ∧ RowOf .i64 w s0SoundSamples n0SoundSamples f0SoundSamples ∧ ∀ i, i < n0SoundSamples → (Lit.int .i64 (f0SoundSamples i)).wf = true) := by
  obtain ⟨cs, rfl, hsz⟩ := okWide_struct Tryz.underlying71 hv
  obtain ⟨fuel, hf⟩ := h
  have hC : Tryz.prog.cellsOf 71 = 42 := by kernel_rfl
  rw [hC] at hsz
  obtain ⟨e0, e1, e2, e3, e4, e5, e6, e7, e8, e9, e10, e11, e12, e13, e14, e15, e16, e17, e18, e19, e20, e21, e22, e23, e24, e25, e26, e27, e28, e29, e30, e31, e32, e33, e34, e35, e36, e37, e38, e39, e40, e41, rfl⟩ : ∃ e0 e1 e2 e3 e4 e5 e6 e7 e8 e9 e10 e11 e12 e13 e14 e15 e16 e17 e18 e19 e20 e21 e22 e23 e24 e25 e26 e27 e28 e29 e30 e31 e32 e33 e34 e35 e36 e37 e38 e39 e40 e41, cs = #[e0, e1, e2, e3, e4, e5, e6, e7, e8, e9, e10, e11, e12, e13, e14, e15, e16, e17, e18, e19, e20, e21, e22, e23, e24, e25, e26, e27, e28, e29, e30, e31, e32, e33, e34, e35, e36, e37, e38, e39, e40, e41] := by
    rcases cs with ⟨l⟩
    match l, hsz with
    | e0 :: e1 :: e2 :: e3 :: e4 :: e5 :: e6 :: e7 :: e8 :: e9 :: e10 :: e11 :: e12 :: e13 :: e14 :: e15 :: e16 :: e17 :: e18 :: e19 :: e20 :: e21 :: e22 :: e23 :: e24 :: e25 :: e26 :: e27 :: e28 :: e29 :: e30 :: e31 :: e32 :: e33 :: e34 :: e35 :: e36 :: e37 :: e38 :: e39 :: e40 :: e41 :: [], _ => exact ⟨_, _, _, _, _, _, _, _, _, _, _, _, _, _, _, _, _, _, _, _, _, _, _, _, _, _, _, _, _, _, _, _, _, _, _, _, _, _, _, _, _, _, rfl⟩
  have hf' : DataW.trod enc Tryz.prog w base spare held fuel 71 [e0, e1, e2, e3, e4, e5, e6, e7, e8, e9, e10, e11, e12, e13, e14, e15, e16, e17, e18, e19, e20, e21, e22, e23, e24, e25, e26, e27, e28, e29, e30, e31, e32, e33, e34, e35, e36, e37, e38, e39, e40, e41] = some (d, p) := hf
  obtain ⟨fu1, hl1, hF1⟩ := trod_fields Tryz.underlying71 hf'
  obtain ⟨y2, g2⟩ := hF1 0 _ rfl
  have k2 : DataW.trod enc Tryz.prog w base spare held fu1 24 [e0] = some y2 := by
    rw [show Tryz.prog.cellsOf 24 = 1 by kernel_rfl] at g2
    exact g2
  obtain ⟨fu3, hl3, hF3⟩ := trod_fields Tryz.underlying24 k2
  obtain ⟨y4, g4⟩ := hF3 0 _ rfl
  have k4 : DataW.trod enc Tryz.prog w base spare held fu3 22 [e0] = some y4 := by
    rw [show Tryz.prog.cellsOf 22 = 1 by kernel_rfl] at g4
    exact g4
  obtain ⟨u0ImgBanks, m0ImgBanks, ra0ImgBanks, ln0ImgBanks, rc0ImgBanks, f0ImgBanks, q0ImgBanks, w0ImgBanks⟩ := raw_intss Tryz.underlying22 (by kernel_rfl) Tryz.underlying25 Tryz.underlying3 (by kernel_rfl) k4
  simp only [List.cons.injEq, and_true] at q0ImgBanks
  subst q0ImgBanks
  obtain ⟨y5, g5⟩ := hF1 1 _ rfl
  have k5 : DataW.trod enc Tryz.prog w base spare held fu1 25 [e1] = some y5 := by
    rw [show Tryz.prog.cellsOf 25 = 1 by kernel_rfl] at g5
    exact g5
  obtain ⟨s0Pads, n0Pads, c0Pads, f0Pads, q0Pads, w0Pads⟩ := raw_ints (k := .i64) Tryz.underlying25 Tryz.underlying3 (by kernel_rfl) k5
  simp only [List.cons.injEq, and_true] at q0Pads
  subst q0Pads
  obtain ⟨y6, g6⟩ := hF1 2 _ rfl
  have k6 : DataW.trod enc Tryz.prog w base spare held fu1 58 [e2, e3] = some y6 := by
    rw [show Tryz.prog.cellsOf 58 = 2 by kernel_rfl] at g6
    exact g6
  obtain ⟨fu7, hl7, hF7⟩ := trod_fields Tryz.underlying58 k6
  obtain ⟨y8, g8⟩ := hF7 0 _ rfl
  have k8 : DataW.trod enc Tryz.prog w base spare held fu7 25 [e2] = some y8 := by
    rw [show Tryz.prog.cellsOf 25 = 1 by kernel_rfl] at g8
    exact g8
  obtain ⟨s0MemRam, n0MemRam, c0MemRam, f0MemRam, q0MemRam, w0MemRam⟩ := raw_ints (k := .i64) Tryz.underlying25 Tryz.underlying3 (by kernel_rfl) k8
  simp only [List.cons.injEq, and_true] at q0MemRam
  subst q0MemRam
  obtain ⟨y9, g9⟩ := hF7 1 _ rfl
  have k9 : DataW.trod enc Tryz.prog w base spare held fu7 3 [e3] = some y9 := by
    rw [show Tryz.prog.cellsOf 3 = 1 by kernel_rfl] at g9
    exact g9
  obtain ⟨a0MemBank, q0MemBank, w0MemBank⟩ := raw_int Tryz.underlying3 k9
  simp only [List.cons.injEq, and_true] at q0MemBank
  subst q0MemBank
  obtain ⟨y10, g10⟩ := hF1 3 _ rfl
  have k10 : DataW.trod enc Tryz.prog w base spare held fu1 59 [e4, e5, e6, e7, e8, e9, e10, e11] = some y10 := by
    rw [show Tryz.prog.cellsOf 59 = 8 by kernel_rfl] at g10
    exact g10
  obtain ⟨fu11, hl11, hF11⟩ := trod_fields Tryz.underlying59 k10
  obtain ⟨y12, g12⟩ := hF11 0 _ rfl
  have k12 : DataW.trod enc Tryz.prog w base spare held fu11 3 [e4] = some y12 := by
    rw [show Tryz.prog.cellsOf 3 = 1 by kernel_rfl] at g12
    exact g12
  obtain ⟨a0CpuA, q0CpuA, w0CpuA⟩ := raw_int Tryz.underlying3 k12
  simp only [List.cons.injEq, and_true] at q0CpuA
  subst q0CpuA
  obtain ⟨y13, g13⟩ := hF11 1 _ rfl
  have k13 : DataW.trod enc Tryz.prog w base spare held fu11 3 [e5] = some y13 := by
    rw [show Tryz.prog.cellsOf 3 = 1 by kernel_rfl] at g13
    exact g13
  obtain ⟨a0CpuX, q0CpuX, w0CpuX⟩ := raw_int Tryz.underlying3 k13
  simp only [List.cons.injEq, and_true] at q0CpuX
  subst q0CpuX
  obtain ⟨y14, g14⟩ := hF11 2 _ rfl
  have k14 : DataW.trod enc Tryz.prog w base spare held fu11 3 [e6] = some y14 := by
    rw [show Tryz.prog.cellsOf 3 = 1 by kernel_rfl] at g14
    exact g14
  obtain ⟨a0CpuS, q0CpuS, w0CpuS⟩ := raw_int Tryz.underlying3 k14
  simp only [List.cons.injEq, and_true] at q0CpuS
  subst q0CpuS
  obtain ⟨y15, g15⟩ := hF11 3 _ rfl
  have k15 : DataW.trod enc Tryz.prog w base spare held fu11 3 [e7] = some y15 := by
    rw [show Tryz.prog.cellsOf 3 = 1 by kernel_rfl] at g15
    exact g15
  obtain ⟨a0CpuPc, q0CpuPc, w0CpuPc⟩ := raw_int Tryz.underlying3 k15
  simp only [List.cons.injEq, and_true] at q0CpuPc
  subst q0CpuPc
  obtain ⟨y16, g16⟩ := hF11 4 _ rfl
  have k16 : DataW.trod enc Tryz.prog w base spare held fu11 4 [e8] = some y16 := by
    rw [show Tryz.prog.cellsOf 4 = 1 by kernel_rfl] at g16
    exact g16
  obtain ⟨a0CpuZ, q0CpuZ⟩ := raw_bool Tryz.underlying4 k16
  simp only [List.cons.injEq, and_true] at q0CpuZ
  subst q0CpuZ
  obtain ⟨y17, g17⟩ := hF11 5 _ rfl
  have k17 : DataW.trod enc Tryz.prog w base spare held fu11 4 [e9] = some y17 := by
    rw [show Tryz.prog.cellsOf 4 = 1 by kernel_rfl] at g17
    exact g17
  obtain ⟨a0CpuN, q0CpuN⟩ := raw_bool Tryz.underlying4 k17
  simp only [List.cons.injEq, and_true] at q0CpuN
  subst q0CpuN
  obtain ⟨y18, g18⟩ := hF11 6 _ rfl
  have k18 : DataW.trod enc Tryz.prog w base spare held fu11 4 [e10] = some y18 := by
    rw [show Tryz.prog.cellsOf 4 = 1 by kernel_rfl] at g18
    exact g18
  obtain ⟨a0CpuC, q0CpuC⟩ := raw_bool Tryz.underlying4 k18
  simp only [List.cons.injEq, and_true] at q0CpuC
  subst q0CpuC
  obtain ⟨y19, g19⟩ := hF11 7 _ rfl
  have k19 : DataW.trod enc Tryz.prog w base spare held fu11 4 [e11] = some y19 := by
    rw [show Tryz.prog.cellsOf 4 = 1 by kernel_rfl] at g19
    exact g19
  obtain ⟨a0CpuI, q0CpuI⟩ := raw_bool Tryz.underlying4 k19
  simp only [List.cons.injEq, and_true] at q0CpuI
  subst q0CpuI
  obtain ⟨y20, g20⟩ := hF1 4 _ rfl
  have k20 : DataW.trod enc Tryz.prog w base spare held fu1 60 [e12, e13] = some y20 := by
    rw [show Tryz.prog.cellsOf 60 = 2 by kernel_rfl] at g20
    exact g20
  obtain ⟨fu21, hl21, hF21⟩ := trod_fields Tryz.underlying60 k20
  obtain ⟨y22, g22⟩ := hF21 0 _ rfl
  have k22 : DataW.trod enc Tryz.prog w base spare held fu21 4 [e12] = some y22 := by
    rw [show Tryz.prog.cellsOf 4 = 1 by kernel_rfl] at g22
    exact g22
  obtain ⟨a0PadHeld, q0PadHeld⟩ := raw_bool Tryz.underlying4 k22
  simp only [List.cons.injEq, and_true] at q0PadHeld
  subst q0PadHeld
  obtain ⟨y23, g23⟩ := hF21 1 _ rfl
  have k23 : DataW.trod enc Tryz.prog w base spare held fu21 3 [e13] = some y23 := by
    rw [show Tryz.prog.cellsOf 3 = 1 by kernel_rfl] at g23
    exact g23
  obtain ⟨a0PadShift, q0PadShift, w0PadShift⟩ := raw_int Tryz.underlying3 k23
  simp only [List.cons.injEq, and_true] at q0PadShift
  subst q0PadShift
  obtain ⟨y24, g24⟩ := hF1 5 _ rfl
  have k24 : DataW.trod enc Tryz.prog w base spare held fu1 3 [e14] = some y24 := by
    rw [show Tryz.prog.cellsOf 3 = 1 by kernel_rfl] at g24
    exact g24
  obtain ⟨a0T, q0T, w0T⟩ := raw_int Tryz.underlying3 k24
  simp only [List.cons.injEq, and_true] at q0T
  subst q0T
  obtain ⟨y25, g25⟩ := hF1 6 _ rfl
  have k25 : DataW.trod enc Tryz.prog w base spare held fu1 4 [e15] = some y25 := by
    rw [show Tryz.prog.cellsOf 4 = 1 by kernel_rfl] at g25
    exact g25
  obtain ⟨a0Nmi, q0Nmi⟩ := raw_bool Tryz.underlying4 k25
  simp only [List.cons.injEq, and_true] at q0Nmi
  subst q0Nmi
  obtain ⟨y26, g26⟩ := hF1 7 _ rfl
  have k26 : DataW.trod enc Tryz.prog w base spare held fu1 3 [e16] = some y26 := by
    rw [show Tryz.prog.cellsOf 3 = 1 by kernel_rfl] at g26
    exact g26
  obtain ⟨a0Ctrl, q0Ctrl, w0Ctrl⟩ := raw_int Tryz.underlying3 k26
  simp only [List.cons.injEq, and_true] at q0Ctrl
  subst q0Ctrl
  obtain ⟨y27, g27⟩ := hF1 8 _ rfl
  have k27 : DataW.trod enc Tryz.prog w base spare held fu1 4 [e17] = some y27 := by
    rw [show Tryz.prog.cellsOf 4 = 1 by kernel_rfl] at g27
    exact g27
  obtain ⟨a0Known, q0Known⟩ := raw_bool Tryz.underlying4 k27
  simp only [List.cons.injEq, and_true] at q0Known
  subst q0Known
  obtain ⟨y28, g28⟩ := hF1 9 _ rfl
  have k28 : DataW.trod enc Tryz.prog w base spare held fu1 3 [e18] = some y28 := by
    rw [show Tryz.prog.cellsOf 3 = 1 by kernel_rfl] at g28
    exact g28
  obtain ⟨a0KnownAt, q0KnownAt, w0KnownAt⟩ := raw_int Tryz.underlying3 k28
  simp only [List.cons.injEq, and_true] at q0KnownAt
  subst q0KnownAt
  obtain ⟨y29, g29⟩ := hF1 10 _ rfl
  have k29 : DataW.trod enc Tryz.prog w base spare held fu1 3 [e19] = some y29 := by
    rw [show Tryz.prog.cellsOf 3 = 1 by kernel_rfl] at g29
    exact g29
  obtain ⟨a0Steps, q0Steps, w0Steps⟩ := raw_int Tryz.underlying3 k29
  simp only [List.cons.injEq, and_true] at q0Steps
  subst q0Steps
  obtain ⟨y30, g30⟩ := hF1 11 _ rfl
  have k30 : DataW.trod enc Tryz.prog w base spare held fu1 25 [e20] = some y30 := by
    rw [show Tryz.prog.cellsOf 25 = 1 by kernel_rfl] at g30
    exact g30
  obtain ⟨s0Reads, n0Reads, c0Reads, f0Reads, q0Reads, w0Reads⟩ := raw_ints (k := .i64) Tryz.underlying25 Tryz.underlying3 (by kernel_rfl) k30
  simp only [List.cons.injEq, and_true] at q0Reads
  subst q0Reads
  obtain ⟨y31, g31⟩ := hF1 12 _ rfl
  have k31 : DataW.trod enc Tryz.prog w base spare held fu1 66 [e21, e22, e23, e24, e25, e26, e27, e28, e29, e30, e31] = some y31 := by
    rw [show Tryz.prog.cellsOf 66 = 11 by kernel_rfl] at g31
    exact g31
  obtain ⟨fu32, hl32, hF32⟩ := trod_fields Tryz.underlying66 k31
  obtain ⟨y33, g33⟩ := hF32 0 _ rfl
  have k33 : DataW.trod enc Tryz.prog w base spare held fu32 61 [e21, e22, e23, e24, e25, e26, e27, e28] = some y33 := by
    rw [show Tryz.prog.cellsOf 61 = 8 by kernel_rfl] at g33
    exact g33
  obtain ⟨fu34, hl34, hF34⟩ := trod_fields Tryz.underlying61 k33
  obtain ⟨y35, g35⟩ := hF34 0 _ rfl
  have k35 : DataW.trod enc Tryz.prog w base spare held fu34 3 [e21] = some y35 := by
    rw [show Tryz.prog.cellsOf 3 = 1 by kernel_rfl] at g35
    exact g35
  obtain ⟨a0PicturePpuT, q0PicturePpuT, w0PicturePpuT⟩ := raw_int Tryz.underlying3 k35
  simp only [List.cons.injEq, and_true] at q0PicturePpuT
  subst q0PicturePpuT
  obtain ⟨y36, g36⟩ := hF34 1 _ rfl
  have k36 : DataW.trod enc Tryz.prog w base spare held fu34 3 [e22] = some y36 := by
    rw [show Tryz.prog.cellsOf 3 = 1 by kernel_rfl] at g36
    exact g36
  obtain ⟨a0PicturePpuCtrl, q0PicturePpuCtrl, w0PicturePpuCtrl⟩ := raw_int Tryz.underlying3 k36
  simp only [List.cons.injEq, and_true] at q0PicturePpuCtrl
  subst q0PicturePpuCtrl
  obtain ⟨y37, g37⟩ := hF34 2 _ rfl
  have k37 : DataW.trod enc Tryz.prog w base spare held fu34 3 [e23] = some y37 := by
    rw [show Tryz.prog.cellsOf 3 = 1 by kernel_rfl] at g37
    exact g37
  obtain ⟨a0PicturePpuScroll, q0PicturePpuScroll, w0PicturePpuScroll⟩ := raw_int Tryz.underlying3 k37
  simp only [List.cons.injEq, and_true] at q0PicturePpuScroll
  subst q0PicturePpuScroll
  obtain ⟨y38, g38⟩ := hF34 3 _ rfl
  have k38 : DataW.trod enc Tryz.prog w base spare held fu34 3 [e24] = some y38 := by
    rw [show Tryz.prog.cellsOf 3 = 1 by kernel_rfl] at g38
    exact g38
  obtain ⟨a0PicturePpuAddr, q0PicturePpuAddr, w0PicturePpuAddr⟩ := raw_int Tryz.underlying3 k38
  simp only [List.cons.injEq, and_true] at q0PicturePpuAddr
  subst q0PicturePpuAddr
  obtain ⟨y39, g39⟩ := hF34 4 _ rfl
  have k39 : DataW.trod enc Tryz.prog w base spare held fu34 3 [e25] = some y39 := by
    rw [show Tryz.prog.cellsOf 3 = 1 by kernel_rfl] at g39
    exact g39
  obtain ⟨a0PicturePpuPal, q0PicturePpuPal, w0PicturePpuPal⟩ := raw_int Tryz.underlying3 k39
  simp only [List.cons.injEq, and_true] at q0PicturePpuPal
  subst q0PicturePpuPal
  obtain ⟨y40, g40⟩ := hF34 5 _ rfl
  have k40 : DataW.trod enc Tryz.prog w base spare held fu34 4 [e26] = some y40 := by
    rw [show Tryz.prog.cellsOf 4 = 1 by kernel_rfl] at g40
    exact g40
  obtain ⟨a0PicturePpuBlank, q0PicturePpuBlank⟩ := raw_bool Tryz.underlying4 k40
  simp only [List.cons.injEq, and_true] at q0PicturePpuBlank
  subst q0PicturePpuBlank
  obtain ⟨y41, g41⟩ := hF34 6 _ rfl
  have k41 : DataW.trod enc Tryz.prog w base spare held fu34 25 [e27] = some y41 := by
    rw [show Tryz.prog.cellsOf 25 = 1 by kernel_rfl] at g41
    exact g41
  obtain ⟨s0PicturePpuTable, n0PicturePpuTable, c0PicturePpuTable, f0PicturePpuTable, q0PicturePpuTable, w0PicturePpuTable⟩ := raw_ints (k := .i64) Tryz.underlying25 Tryz.underlying3 (by kernel_rfl) k41
  simp only [List.cons.injEq, and_true] at q0PicturePpuTable
  subst q0PicturePpuTable
  obtain ⟨y42, g42⟩ := hF34 7 _ rfl
  have k42 : DataW.trod enc Tryz.prog w base spare held fu34 25 [e28] = some y42 := by
    rw [show Tryz.prog.cellsOf 25 = 1 by kernel_rfl] at g42
    exact g42
  obtain ⟨s0PicturePpuDots, n0PicturePpuDots, c0PicturePpuDots, f0PicturePpuDots, q0PicturePpuDots, w0PicturePpuDots⟩ := raw_ints (k := .i64) Tryz.underlying25 Tryz.underlying3 (by kernel_rfl) k42
  simp only [List.cons.injEq, and_true] at q0PicturePpuDots
  subst q0PicturePpuDots
  obtain ⟨y43, g43⟩ := hF32 1 _ rfl
  have k43 : DataW.trod enc Tryz.prog w base spare held fu32 64 [e29, e30] = some y43 := by
    rw [show Tryz.prog.cellsOf 64 = 2 by kernel_rfl] at g43
    exact g43
  obtain ⟨fu44, hl44, hF44⟩ := trod_fields Tryz.underlying64 k43
  obtain ⟨y45, g45⟩ := hF44 0 _ rfl
  have k45 : DataW.trod enc Tryz.prog w base spare held fu44 3 [e29] = some y45 := by
    rw [show Tryz.prog.cellsOf 3 = 1 by kernel_rfl] at g45
    exact g45
  obtain ⟨a0PictureRingCap, q0PictureRingCap, w0PictureRingCap⟩ := raw_int Tryz.underlying3 k45
  simp only [List.cons.injEq, and_true] at q0PictureRingCap
  subst q0PictureRingCap
  obtain ⟨y46, g46⟩ := hF44 1 _ rfl
  have k46 : DataW.trod enc Tryz.prog w base spare held fu44 62 [e30] = some y46 := by
    rw [show Tryz.prog.cellsOf 62 = 1 by kernel_rfl] at g46
    exact g46
  obtain ⟨s0PictureRingList, n0PictureRingList, c0PictureRingList, f0PictureRingList, q0PictureRingList, w0PictureRingList⟩ := raw_recs Tryz.underlying62 Tryz.underlying189 (by kernel_rfl) (by kernel_rfl) Tryz.underlying3 (by kernel_rfl) k46
  simp only [List.cons.injEq, and_true] at q0PictureRingList
  subst q0PictureRingList
  obtain ⟨y47, g47⟩ := hF32 2 _ rfl
  have k47 : DataW.trod enc Tryz.prog w base spare held fu32 22 [e31] = some y47 := by
    rw [show Tryz.prog.cellsOf 22 = 1 by kernel_rfl] at g47
    exact g47
  obtain ⟨u0PictureFrames, m0PictureFrames, ra0PictureFrames, ln0PictureFrames, rc0PictureFrames, f0PictureFrames, q0PictureFrames, w0PictureFrames⟩ := raw_intss Tryz.underlying22 (by kernel_rfl) Tryz.underlying25 Tryz.underlying3 (by kernel_rfl) k47
  simp only [List.cons.injEq, and_true] at q0PictureFrames
  subst q0PictureFrames
  obtain ⟨y48, g48⟩ := hF1 13 _ rfl
  have k48 : DataW.trod enc Tryz.prog w base spare held fu1 69 [e32, e33, e34, e35, e36, e37, e38, e39, e40, e41] = some y48 := by
    rw [show Tryz.prog.cellsOf 69 = 10 by kernel_rfl] at g48
    exact g48
  obtain ⟨fu49, hl49, hF49⟩ := trod_fields Tryz.underlying69 k48
  obtain ⟨y50, g50⟩ := hF49 0 _ rfl
  have k50 : DataW.trod enc Tryz.prog w base spare held fu49 67 [e32, e33, e34, e35, e36, e37, e38] = some y50 := by
    rw [show Tryz.prog.cellsOf 67 = 7 by kernel_rfl] at g50
    exact g50
  obtain ⟨fu51, hl51, hF51⟩ := trod_fields Tryz.underlying67 k50
  obtain ⟨y52, g52⟩ := hF51 0 _ rfl
  have k52 : DataW.trod enc Tryz.prog w base spare held fu51 3 [e32] = some y52 := by
    rw [show Tryz.prog.cellsOf 3 = 1 by kernel_rfl] at g52
    exact g52
  obtain ⟨a0SoundApuT, q0SoundApuT, w0SoundApuT⟩ := raw_int Tryz.underlying3 k52
  simp only [List.cons.injEq, and_true] at q0SoundApuT
  subst q0SoundApuT
  obtain ⟨y53, g53⟩ := hF51 1 _ rfl
  have k53 : DataW.trod enc Tryz.prog w base spare held fu51 3 [e33] = some y53 := by
    rw [show Tryz.prog.cellsOf 3 = 1 by kernel_rfl] at g53
    exact g53
  obtain ⟨a0SoundApuPeriod, q0SoundApuPeriod, w0SoundApuPeriod⟩ := raw_int Tryz.underlying3 k53
  simp only [List.cons.injEq, and_true] at q0SoundApuPeriod
  subst q0SoundApuPeriod
  obtain ⟨y54, g54⟩ := hF51 2 _ rfl
  have k54 : DataW.trod enc Tryz.prog w base spare held fu51 3 [e34] = some y54 := by
    rw [show Tryz.prog.cellsOf 3 = 1 by kernel_rfl] at g54
    exact g54
  obtain ⟨a0SoundApuCount, q0SoundApuCount, w0SoundApuCount⟩ := raw_int Tryz.underlying3 k54
  simp only [List.cons.injEq, and_true] at q0SoundApuCount
  subst q0SoundApuCount
  obtain ⟨y55, g55⟩ := hF51 3 _ rfl
  have k55 : DataW.trod enc Tryz.prog w base spare held fu51 3 [e35] = some y55 := by
    rw [show Tryz.prog.cellsOf 3 = 1 by kernel_rfl] at g55
    exact g55
  obtain ⟨a0SoundApuBit, q0SoundApuBit, w0SoundApuBit⟩ := raw_int Tryz.underlying3 k55
  simp only [List.cons.injEq, and_true] at q0SoundApuBit
  subst q0SoundApuBit
  obtain ⟨y56, g56⟩ := hF51 4 _ rfl
  have k56 : DataW.trod enc Tryz.prog w base spare held fu51 3 [e36] = some y56 := by
    rw [show Tryz.prog.cellsOf 3 = 1 by kernel_rfl] at g56
    exact g56
  obtain ⟨a0SoundApuLength, q0SoundApuLength, w0SoundApuLength⟩ := raw_int Tryz.underlying3 k56
  simp only [List.cons.injEq, and_true] at q0SoundApuLength
  subst q0SoundApuLength
  obtain ⟨y57, g57⟩ := hF51 5 _ rfl
  have k57 : DataW.trod enc Tryz.prog w base spare held fu51 4 [e37] = some y57 := by
    rw [show Tryz.prog.cellsOf 4 = 1 by kernel_rfl] at g57
    exact g57
  obtain ⟨a0SoundApuAsks, q0SoundApuAsks⟩ := raw_bool Tryz.underlying4 k57
  simp only [List.cons.injEq, and_true] at q0SoundApuAsks
  subst q0SoundApuAsks
  obtain ⟨y58, g58⟩ := hF51 6 _ rfl
  have k58 : DataW.trod enc Tryz.prog w base spare held fu51 4 [e38] = some y58 := by
    rw [show Tryz.prog.cellsOf 4 = 1 by kernel_rfl] at g58
    exact g58
  obtain ⟨a0SoundApuIrq, q0SoundApuIrq⟩ := raw_bool Tryz.underlying4 k58
  simp only [List.cons.injEq, and_true] at q0SoundApuIrq
  subst q0SoundApuIrq
  obtain ⟨y59, g59⟩ := hF49 1 _ rfl
  have k59 : DataW.trod enc Tryz.prog w base spare held fu49 64 [e39, e40] = some y59 := by
    rw [show Tryz.prog.cellsOf 64 = 2 by kernel_rfl] at g59
    exact g59
  obtain ⟨fu60, hl60, hF60⟩ := trod_fields Tryz.underlying64 k59
  obtain ⟨y61, g61⟩ := hF60 0 _ rfl
  have k61 : DataW.trod enc Tryz.prog w base spare held fu60 3 [e39] = some y61 := by
    rw [show Tryz.prog.cellsOf 3 = 1 by kernel_rfl] at g61
    exact g61
  obtain ⟨a0SoundRingCap, q0SoundRingCap, w0SoundRingCap⟩ := raw_int Tryz.underlying3 k61
  simp only [List.cons.injEq, and_true] at q0SoundRingCap
  subst q0SoundRingCap
  obtain ⟨y62, g62⟩ := hF60 1 _ rfl
  have k62 : DataW.trod enc Tryz.prog w base spare held fu60 62 [e40] = some y62 := by
    rw [show Tryz.prog.cellsOf 62 = 1 by kernel_rfl] at g62
    exact g62
  obtain ⟨s0SoundRingList, n0SoundRingList, c0SoundRingList, f0SoundRingList, q0SoundRingList, w0SoundRingList⟩ := raw_recs Tryz.underlying62 Tryz.underlying189 (by kernel_rfl) (by kernel_rfl) Tryz.underlying3 (by kernel_rfl) k62
  simp only [List.cons.injEq, and_true] at q0SoundRingList
  subst q0SoundRingList
  obtain ⟨y63, g63⟩ := hF49 2 _ rfl
  have k63 : DataW.trod enc Tryz.prog w base spare held fu49 25 [e41] = some y63 := by
    rw [show Tryz.prog.cellsOf 25 = 1 by kernel_rfl] at g63
    exact g63
  obtain ⟨s0SoundSamples, n0SoundSamples, c0SoundSamples, f0SoundSamples, q0SoundSamples, w0SoundSamples⟩ := raw_ints (k := .i64) Tryz.underlying25 Tryz.underlying3 (by kernel_rfl) k63
  simp only [List.cons.injEq, and_true] at q0SoundSamples
  subst q0SoundSamples
  exact ⟨_, _, _, _, _, _, _, _, _, _, _, _, _, _, _, _, _, _, _, _, _, _, _, _, _, _, _, _, _, _, _, _, _, _, _, _, _, _, _, _, _, _, _, _, _, _, _, _, _, _, _, _, _, _, _, _, _, _, _, _, _, _, _, _, _, _, _, _, _, _, _, _, _, _, _, _, rfl, w0ImgBanks, w0Pads, w0MemRam, w0MemBank, w0CpuA, w0CpuX, w0CpuS, w0CpuPc, w0PadShift, w0T, w0Ctrl, w0KnownAt, w0Steps, w0Reads, w0PicturePpuT, w0PicturePpuCtrl, w0PicturePpuScroll, w0PicturePpuAddr, w0PicturePpuPal, w0PicturePpuTable, w0PicturePpuDots, w0PictureRingCap, w0PictureRingList, w0PictureFrames, w0SoundApuT, w0SoundApuPeriod, w0SoundApuCount, w0SoundApuBit, w0SoundApuLength, w0SoundRingCap, w0SoundRingList, w0SoundSamples⟩
end Go.Proofs.YtjcaligejlhjdaaGreat
