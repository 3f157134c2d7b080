/-
  Chapter 14's mirror of a picture unit that comes after: on blocks of a kind; sizes, copies, comparisons, marks.
-/
import Derived.Test.YtpaedkefmebjjatTA
namespace Go.Proofs.Ytpaedkefmebjjat
set_option linter.unusedVariables false
set_option linter.unusedSimpArgs false
open Go.ChangeShapes Go.WideShapes Go.ChangeAt Go.RowKit
/-- A picture unit that comes after, in numbers. -/
structure PcD where
  t : Int
  c : Int
  s : Int
  ad : Int
  pl : Int
  bl : Bool
  nt : Nat
  tb : Nat → Int
  nd : Nat
  dt : Nat → Int
  cap : Int
  n : Nat
  f : Nat → Int
  mf : Nat
  lf : Nat → Nat
  fr : Nat → Nat → Int
structure PcOn (W : World) (D : Nat → Nat → Prop) (v : Value) (d : PcD) : Prop where
  ex : ∃ u1 u2 u3 u4, v = .agg #[.int .i64 d.t, .int .i64 d.c, .int .i64 d.s, .int .i64 d.ad, .int .i64 d.pl, .bool d.bl, u1, u2, .int .i64 d.cap, u3, u4] ∧ PpuOn W (D 0) (.agg #[.int .i64 d.t, .int .i64 d.c, .int .i64 d.s, .int .i64 d.ad, .int .i64 d.pl, .bool d.bl, u1, u2]) d.t d.c d.s d.ad d.pl d.bl d.nt d.tb d.nd d.dt ∧ RsOn W (D 1) u3 d.n d.f ∧ SsOn W (D 2) u4 d.mf d.lf d.fr
theorem PpuOn.lists {W : World} {D : Nat → Prop} {u1 u2 : Value} {t c s ad pl : Int} {bl : Bool} {n m : Nat} {f g : Nat → Int} (h : PpuOn W D (.agg #[.int .i64 t, .int .i64 c, .int .i64 s, .int .i64 ad, .int .i64 pl, .bool bl, u1, u2]) t c s ad pl bl n f m g) : ∃ a x b y, u1 = .slice a n x ∧ u2 = .slice b m y ∧ n ≤ 1048576 ∧ m ≤ 1048576 := by
  obtain ⟨a, x, b, y, e, h1, h2, -⟩ := h
  simp only [Value.agg.injEq, Array.mk.injEq, List.cons.injEq, and_true, true_and] at e
  exact ⟨a, x, b, y, e.1, e.2, h1.small, h2.small⟩
section
variable {R : Nat → Nat → Prop} {W W' : World} {D E : Nat → Nat → Prop} {v : Value} {d : PcD}
theorem PcOn.keep (H : PcOn W D v d) (hw : Wrote R W W') (hd : ∀ i b o, D i b → b < W.heap.size → ¬ R b o) : PcOn W' D v d := by
  obtain ⟨u1, u2, u3, u4, e, h0, h1, h2⟩ := H
  exact ⟨u1, u2, u3, u4, e, h0.keep hw (hd 0), h1.keep hw (hd 1), h2.keep hw (hd 2)⟩
theorem PcOn.below (H : PcOn W D v d) (L : Below W.heap.size W W') : PcOn W' D v d := H.keep (wrote_below L Nowhere) (fun _ _ _ _ _ x => x)
theorem PcOn.mono (H : PcOn W D v d) (hd : ∀ i b, b < W.heap.size → D i b → E i b) : PcOn W E v d := by
  obtain ⟨u1, u2, u3, u4, e, h0, h1, h2⟩ := H
  exact ⟨u1, u2, u3, u4, e, h0.mono (hd 0), h1.mono (hd 1), h2.mono (hd 2)⟩
theorem PcOn.form (H : PcOn W D v d) : ∃ x1 x1c x2 x2c x3 x3c x4 x4c, v = .agg #[.int .i64 d.t, .int .i64 d.c, .int .i64 d.s, .int .i64 d.ad, .int .i64 d.pl, .bool d.bl, .slice x1 d.nt x1c, .slice x2 d.nd x2c, .int .i64 d.cap, .slice x3 d.n x3c, .slice x4 d.mf x4c] := by
  obtain ⟨u1, u2, u3, u4, e, h0, h1, h2⟩ := H
  obtain ⟨x1, x1c, x2, x2c, rfl, rfl, -⟩ := h0.lists
  obtain ⟨x3, x3c, rfl⟩ := h1.two
  obtain ⟨x4, x4c, rfl⟩ := h2.form
  exact ⟨x1, x1c, x2, x2c, x3, x3c, x4, x4c, e⟩
end
end Go.Proofs.Ytpaedkefmebjjat
