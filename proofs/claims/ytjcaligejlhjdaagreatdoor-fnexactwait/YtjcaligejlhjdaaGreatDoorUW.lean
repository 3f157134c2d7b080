/-
  What the laws over a console apart start from.
-/
import Derived.Test.YtjcaligejlhjdaaGreatDoorUB
import Derived.Deep.WholeRow
namespace Go.Proofs.YtjcaligejlhjdaaGreatDoor
set_option linter.unusedVariables false
set_option linter.unusedSimpArgs false
open Go.ChangeShapes Go.WideShapes Go.ChangeAt Go.RowKit
/-- A console apart as it is handed in. -/
structure RawS (w : World) (d : SpD) (u0 : Value) (ra0 : Nat → Option Addr) (rc0 : Nat → Nat) (a1 : Option Addr) (c1 : Nat) (a2 : Option Addr) (c2 : Nat) (a3 : Option Addr) (c3 : Nat) (b1 : Option Addr) (y1 : Nat) (b2 : Option Addr) (y2 : Nat) (b3 : Option Addr) (y3 : Nat) (b4 : Option Addr) (y4 : Nat) (ra4 : Nat → Option Addr) (rc4 : Nat → Nat) (e1 : Option Addr) (z1 : Nat) (e2 : Option Addr) (z2 : Nat) : Prop where
  r0 : RawSS w u0 d.m ra0 d.ln rc0 d.f
  r7 : RawSS w (.slice b4 d.pc.mf y4) d.pc.mf ra4 d.pc.lf rc4 d.pc.fr
  n1 : d.np ≤ 9223372036854775807
  r1 : RowOf .i64 w a1 d.np d.p
  n2 : d.nr ≤ 9223372036854775807
  r2 : RowOf .i64 w a2 d.nr d.g
  n3 : d.nq ≤ 9223372036854775807
  r3 : RowOf .i64 w a3 d.nq d.rd
  n4 : d.pc.nt ≤ 9223372036854775807
  r4 : RowOf .i64 w b1 d.pc.nt d.pc.tb
  n5 : d.pc.nd ≤ 9223372036854775807
  r5 : RowOf .i64 w b2 d.pc.nd d.pc.dt
  n6 : d.pc.n ≤ 9223372036854775807
  r6 : RowOf .i64 w b3 (d.pc.n * 3) d.pc.f
  n7 : d.sn.n ≤ 9223372036854775807
  r8 : RowOf .i64 w e1 (d.sn.n * 3) d.sn.f
  n8 : d.sn.ns ≤ 9223372036854775807
  r9 : RowOf .i64 w e2 d.sn.ns d.sn.sm
theorem RawS.raw {w W : World} {d : SpD} {u0 : Value} {ra0 : Nat → Option Addr} {rc0 : Nat → Nat} {a1 : Option Addr} {c1 : Nat} {a2 : Option Addr} {c2 : Nat} {a3 : Option Addr} {c3 : Nat} {b1 : Option Addr} {y1 : Nat} {b2 : Option Addr} {y2 : Nat} {b3 : Option Addr} {y3 : Nat} {b4 : Option Addr} {y4 : Nat} {ra4 : Nat → Option Addr} {rc4 : Nat → Nat} {e1 : Option Addr} {z1 : Nat} {e2 : Option Addr} {z2 : Nat} (H : RawS w d u0 ra0 rc0 a1 c1 a2 c2 a3 c3 b1 y1 b2 y2 b3 y3 b4 y4 ra4 rc4 e1 z1 e2 z2) (hs : szSp d ≤ 1048576) (L : Below w.heap.size w W) : RawP W u0 (.slice a1 d.np c1) (.slice a2 d.nr c2) (.slice a3 d.nq c3) (.slice b1 d.pc.nt y1) (.slice b2 d.pc.nd y2) b3 (.slice b4 d.pc.mf y4) e1 e2 d := by
  have i0 : d.m + psum d.ln d.m ≤ 1048576 := by unfold szSp at hs; omega
  have i7 : d.pc.mf + psum d.pc.lf d.pc.mf ≤ 1048576 := by unfold szSp at hs; omega
  exact ⟨⟨_, (H.r0.ints i0).keep (wrote_below L Nowhere) (fun _ _ _ x => x)⟩, ⟨fun _ _ => True, Ints.keep (F := fun _ _ => True) ⟨_, _, rfl, by unfold szSp at hs; omega, H.r1, fun _ _ _ => trivial⟩ (wrote_below L Nowhere) (fun _ _ _ x => x)⟩, ⟨fun _ _ => True, Ints.keep (F := fun _ _ => True) ⟨_, _, rfl, by unfold szSp at hs; omega, H.r2, fun _ _ _ => trivial⟩ (wrote_below L Nowhere) (fun _ _ _ x => x)⟩, ⟨fun _ _ => True, Ints.keep (F := fun _ _ => True) ⟨_, _, rfl, by unfold szSp at hs; omega, H.r3, fun _ _ _ => trivial⟩ (wrote_below L Nowhere) (fun _ _ _ x => x)⟩, ⟨fun _ _ => True, Ints.keep (F := fun _ _ => True) ⟨_, _, rfl, by unfold szSp at hs; omega, H.r4, fun _ _ _ => trivial⟩ (wrote_below L Nowhere) (fun _ _ _ x => x)⟩, ⟨fun _ _ => True, Ints.keep (F := fun _ _ => True) ⟨_, _, rfl, by unfold szSp at hs; omega, H.r5, fun _ _ _ => trivial⟩ (wrote_below L Nowhere) (fun _ _ _ x => x)⟩, H.r6.keep (wrote_below L Nowhere) (fun _ _ _ x => x), ⟨_, (H.r7.ints i7).keep (wrote_below L Nowhere) (fun _ _ _ x => x)⟩, H.r8.keep (wrote_below L Nowhere) (fun _ _ _ x => x), H.r9.keep (wrote_below L Nowhere) (fun _ _ _ x => x)⟩
theorem infoAtU {P : Program} {ty : TypeId} {n : Nat} {cs : Array Value} (h : (P.info? ty).map (·.size) = some n) (hs : cs.size = n) : (P.info? ty).map (·.size) = some cs.size := by rw [hs]; exact h
theorem infoLawsS : (Tryz.prog.info? 44).map (·.size) = some 42 := by kernel_rfl
end Go.Proofs.YtjcaligejlhjdaaGreatDoor
