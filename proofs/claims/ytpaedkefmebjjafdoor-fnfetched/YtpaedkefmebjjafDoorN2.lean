/-
  The program's ImageRead by its contract.
-/
import Derived.Test.YtpaedkefmebjjafDoorG2
namespace Go.Proofs.YtpaedkefmebjjafDoor
open Go.ChangeShapes Go.WideShapes Go.ChangeAt Go.RowKit
theorem OwnSS.lower {w : World} {lo lo' : Nat} {v : Value} {m : Nat} {ra : Nat → Option Addr} {ln rc : Nat → Nat} {f : Nat → Nat → Int} (h : OwnSS w lo v m ra ln rc f) (hl : lo' ≤ lo) : OwnSS w lo' v m ra ln rc f :=
  ⟨h.sep, h.rows, fun i hi b o hF => Nat.le_trans hl (h.inner i hi b o hF), fun a cap e b o hF => Nat.le_trans hl (h.outer a cap e b o hF), h.len⟩
theorem OwnSS.set_low {w : World} {lo b : Nat} {v x : Value} {m : Nat} {ra : Nat → Option Addr} {ln rc : Nat → Nat} {f : Nat → Nat → Int} (h : OwnSS w (b + 1) v m ra ln rc f) (hb : lo ≤ b) : OwnSS (w.setCell ⟨b, 0, none⟩ x) lo v m ra ln rc f :=
  by
  have W : Wrote (fun k _ => k = b) w (w.setCell ⟨b, 0, none⟩ x) := Wrote.setCell (R := fun k _ => k = b) (b := b) (o := 0) (Wrote.refl _ w) (fun _ => rfl) x
  exact (h.keep W (fun k o e => by omega)).lower (by omega)
end Go.Proofs.YtpaedkefmebjjafDoor
