/-
  DERIVED. GIVEN WITH THE SEED: THE CARDS: each row of YtgplbmnpmhfaoajDoorRows.lean that lists a variable, with what it lists TIED to the program's text (the seventh form; the later family's looks); each row that meets fmt, with fmt's text TOLD by the authors' own Lean function (tested against real Go, not proved from fmt's source: count such statements apart). THE CARD IS WHAT COUNTS. Prove the row's statement (the work); the ties are given (YtgplbmnpmhfaoajDoorTie.lean); close each card by the builder's one call (the guide's Derived/Test/ToyasCard.lean, 'card_holds'). Laid BY PROGRAM, IN A SANDBOX (cutbox-door.mjs). By AI agents, Wed Nov 11 2026. No macro, syntax, notation, axiom, sorry.
-/
import Derived.Test.YtgplbmnpmhfaoajDoorRows
import GoSem.ClaimSeven
namespace Go.Proofs.YtgplbmnpmhfaoajDoor
namespace Rows

/-- THE TIED CARD OF 'laws.FnExactImageRead'. -/
def fnExactImageReadCard : Claim7 := { stood := { row := fnExactImageReadRow, standIns := [], harness := (true, "36baaf5de524e1855ae70b07ba662a0bc96141552d0cd2ea973c57bc35d1872a"), looks := true }, kinds := [], alts := [], laidByText := true, laidKinds := [.handle], laidTests := true, laidLooks := .later }
def FnExactImageReadCardSaid : Prop := Claim7.holds Tryd.pinned (.plain (OpenSpec.ofChange fnExactImageReadSpec)) fnExactImageReadCard

/-- THE SECOND FORM's CARD OF 'laws.FnExactImageRead'. -/
def fnExactImageReadUptoCard : Claim7 := { stood := { row := fnExactImageReadUptoRow, standIns := [], harness := (true, "36baaf5de524e1855ae70b07ba662a0bc96141552d0cd2ea973c57bc35d1872a"), looks := true }, kinds := [], alts := [], laidByText := true, laidKinds := [.handle], laidTests := true, laidLooks := .later }
def FnExactImageReadUptoCardSaid : Prop := Claim7.holds Tryd.pinned (.plain (OpenSpec.upto fnExactImageReadSpec)) fnExactImageReadUptoCard
end Rows
end Go.Proofs.YtgplbmnpmhfaoajDoor
