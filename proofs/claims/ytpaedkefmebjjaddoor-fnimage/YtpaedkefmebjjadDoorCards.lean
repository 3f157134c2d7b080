/-
  DERIVED. GIVEN WITH THE SEED: THE CARDS: each row of YtpaedkefmebjjadDoorRows.lean that lists a variable, with what it lists TIED to the program's text (the seventh form; the later family's looks); each row that meets fmt, with fmt's text TOLD by the authors' own Lean function (tested against real Go, not proved from fmt's source: count such statements apart). THE CARD IS WHAT COUNTS. Prove the row's statement (the work); the ties are given (YtpaedkefmebjjadDoorTie.lean); close each card by the builder's one call (the guide's Derived/Test/ToyasCard.lean, 'card_holds'). Laid BY PROGRAM, IN A SANDBOX (cutbox-door.mjs). By AI agents, Wed Nov 11 2026. No macro, syntax, notation, axiom, sorry.
-/
import Derived.Test.YtpaedkefmebjjadDoorRows
import GoSem.ClaimSeven
namespace Go.Proofs.YtpaedkefmebjjadDoor
namespace Rows

/-- THE TIED CARD OF 'laws.FnImage'. -/
def fnImageCard : Claim7 := { stood := { row := fnImageRow, standIns := [], harness := (true, "38f420ac3c24055347f8e57b7832b02d8df44f0ac6e9aa644a222660142a726f"), looks := true }, kinds := [], alts := [], laidByText := true, laidKinds := [.handle], laidTests := true, laidLooks := .later }
def FnImageCardSaid : Prop := Claim7.holds Tryd.pinned (.plain (OpenSpec.ofChange fnImageSpec)) fnImageCard

/-- THE SECOND FORM's CARD OF 'laws.FnImage'. -/
def fnImageUptoCard : Claim7 := { stood := { row := fnImageUptoRow, standIns := [], harness := (true, "38f420ac3c24055347f8e57b7832b02d8df44f0ac6e9aa644a222660142a726f"), looks := true }, kinds := [], alts := [], laidByText := true, laidKinds := [.handle], laidTests := true, laidLooks := .later }
def FnImageUptoCardSaid : Prop := Claim7.holds Tryd.pinned (.plain (OpenSpec.upto fnImageSpec)) fnImageUptoCard
end Rows
end Go.Proofs.YtpaedkefmebjjadDoor
