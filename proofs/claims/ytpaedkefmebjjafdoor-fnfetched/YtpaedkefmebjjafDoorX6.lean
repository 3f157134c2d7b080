/-
  Draws of images, of files, of images and banks, from the bytes of the code.
-/
import Derived.Test.YtpaedkefmebjjafDoorX5
namespace Go.Proofs.YtpaedkefmebjjafDoor
open Go.ChangeShapes Go.WideShapes Go.ChangeAt Go.RowKit
theorem Code.up {w w' : World} {B : Nat} {a : Option Addr} {len : Nat} (H : Code w B a len) (hb : Below B w w') {B' : Nat} (h : B ≤ B') : Code w' B' a len :=
  ⟨H.le, fun i hi => by
    obtain ⟨b, off, ha, hlt, n, hc, h0, h1⟩ := H.at_ i hi
    exact ⟨b, off, ha, by omega, n, (hb.cell (p := ⟨b, off + i, none⟩) hlt).trans hc, h0, h1⟩⟩
theorem OwnSS.box {w : World} {lo lo' b : Nat} {v x : Value} {m : Nat} {ra : Nat → Option Addr} {ln rc : Nat → Nat} {f : Nat → Nat → Int} (h : OwnSS w lo v m ra ln rc f) (hb : b < lo) (hl : lo' ≤ b) : OwnSS (w.setCell ⟨b, 0, none⟩ x) lo' v m ra ln rc f :=
  (h.lower (by omega : b + 1 ≤ lo)).set_low hl
end Go.Proofs.YtpaedkefmebjjafDoor
